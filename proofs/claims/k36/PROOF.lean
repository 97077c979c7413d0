import PyProof.Rows.All
import Wide.All
import OpenK.AllK
import Wide.FinOn
import Lean
import PyProof.EqAt
import PyProof.EqKinds
import PyProof.TupleCall
import PySem.Challenge.RW_cablehouse_k36_changes_refused
set_option Elab.async false
set_option linter.all false
set_option maxRecDepth 100000
namespace Hd
open PySem PySem.W PyProof.Rows
theorem Iu {b1 b2 b3 a:Prop} (main:a) (hl:b1) (hw:b2) (hc:b3):a:=main
structure HV (r:Prop) where
  l1:Prop
  l2:Prop
  l3:Prop
  l4:Prop
  l5:Prop
  l6:Prop
  l7:Prop
  l8:Prop
  l9:Prop
  h:Prop
  c:Prop
  go:l1->l2->l3->l4->l5->l6->l7->l8->l9->h->c->r
theorem two {σ α β γ:Type}{x:World->OsState->Option σ}{as:List α}{f:σ->α->β}{h:σ->γ}{g:World->List β}{e:World->γ} (n:Nat)
    (h1:∀ w os,(x w os).map (fun s=>(as.take n).map (f s))=some ((g w).take n)) (h2:∀ w os,(x w os).map (fun s=>((as.drop n).map (f s),h s))=some ((g w).drop n,e w)):∀ w os,(x w os).map (fun s=>(as.map (f s),h s))=some (g w,e w):=fun w os=>by
  obtain⟨s,e0,e1⟩:=Option.map_eq_some_iff.mp (h1 w os)
  have e2:=h2 w os
  rw[e0] at e2 ⊢
  have e2:=Option.some.inj e2
  simp only[Prod.mk.injEq] at e2
  refine congrArg some (Prod.ext ?_ e2.2)
  show as.map (f s)=g w
  rw[←List.take_append_drop n as,List.map_append,e1,e2.1,List.take_append_drop]
def tree:List Obj->Nat->BT->BT
  | [],_,t=>t
  | o::l,n,t=>tree l (n+1) (t.ins n o)
def goT (st:SharedT->Thread->Option (SharedT×Thread)) (ok:Thread->Bool):Nat->SharedT->Thread->Option SharedT
  | 0,_,_=>none
  | n+1,s,t=>match through t with
    | true=>some s
    | false=>match ok t with
      | false=>none
      | true=>match st s t with
        | some (s',t')=>goT st ok n s' t'
        | none=>none
theorem B8 {tb:String->Option Builtin}{p:Program}{w:World}{n₀:Nat}{ann:Option Value}:∀ {n:Nat}{s s':SharedT}{t:Thread},goT (stepT (denote tb) p w) (stepOk n₀ ann) n s t=some s'->topRun tb p w n₀ ann n s.abs t=some s'.abs
  | 0,_,_,_,h=>nomatch h
  | n+1,s,s',t,h=>by
    unfold goT at h
    unfold topRun
    cases ht:through t with
    | true=>rw[ht] at h;cases h;rfl
    | false =>
      rw[ht] at h
      cases hk:stepOk n₀ ann t with
      | false=>rw[hk] at h;cases h
      | true =>
        rw[hk] at h
        cases hs:stepT (denote tb) p w s t with
        | none=>rw[hs] at h;cases h
        | some r=>obtain⟨s₂,t₂⟩:=r;rw[hs] at h;rw[stepT_spec hs];exact B8 h
noncomputable def boot (w:World) (os:OsState):SharedT:=⟨tree (boot_heap w.params).objs.toList 0 .nil,(boot_heap w.params).objs.size,(boot_heap w.params).life,#[],boot_drawn,boot_toks,os⟩
noncomputable def ran (p:Program) (N:Nat) (w:World) (os:OsState):Option SharedT:=goT (stepT (denote treeTable) p w) (stepOk 11 (some (.ref 6))) N (boot w os) (topStub p)
theorem zd (P:Params):absHeap (tree (boot_heap P).objs.toList 0 .nil) (boot_heap P).objs.size (boot_heap P).life=boot_heap P:=by kernel_rfl
theorem zc (P:Params):((boot_heap P).isNs mainGlobals,(boot_heap P).objs.size,(boot_heap P).nsMap mainGlobals "__annotations__")=(true,11,some (.ref 6)):=by kernel_rfl
theorem six {σ α β γ δ ε ζ η θ ι:Type}{x:World->OsState->Option σ}{f1:σ->α}{f2:σ->β}{f3:σ->γ}{f4:σ->δ}{f5:σ->ε}{f6:σ->ζ}{f7:σ->η}{f8:σ->θ}{f9:σ->ι}{g1:α}{g2:β}{g3:γ}{g4:δ}{g5:ε}{g6:ζ}{g7:η}{g8:θ}{g9:ι}
    (h1:∀ w os,(x w os).map (fun s=>f1 s)=some g1) (h2:∀ w os,(x w os).map (fun s=>(f2 s,f3 s))=some (g2,g3)) (h3:∀ w os,(x w os).map (fun s=>(f4 s,f5 s))=some (g4,g5)) (h4:∀ w os,(x w os).map (fun s=>f6 s)=some g6)
    (h5:∀ w os,(x w os).map (fun s=>(f7 s,f8 s))=some (g7,g8)) (h6:∀ w os,(x w os).map (fun s=>f9 s)=some g9):∀ w os,(x w os).map (fun s=>(f1 s,f2 s,f3 s,f4 s,f5 s,f6 s,f7 s,f8 s,f9 s))=some (g1,g2,g3,g4,g5,g6,g7,g8,g9):=fun w os=>by
  obtain⟨s,e,e1⟩:=Option.map_eq_some_iff.mp (h1 w os)
  have e2:=h2 w os
  have e3:=h3 w os
  have e4:=h4 w os
  have e5:=h5 w os
  have e6:=h6 w os
  rw[e] at e2 e3 e4 e5 e6 ⊢
  have e2:=Option.some.inj e2
  have e3:=Option.some.inj e3
  have e4:=Option.some.inj e4
  have e5:=Option.some.inj e5
  have e6:=Option.some.inj e6
  simp only[Prod.mk.injEq] at e2 e3 e5
  exact congrArg some (Prod.ext e1 (Prod.ext e2.1 (Prod.ext e2.2 (Prod.ext e3.1 (Prod.ext e3.2 (Prod.ext e4 (Prod.ext e5.1 (Prod.ext e5.2 e6))))))))
theorem left {p q:Program}{loose:List Str}{Xt:Shared->Bool}{α:Type}{Yf:Shared->α}{Ya:World->α}{N:Nat}{g0:Bool}
    (e:opening p=plainProg p.main.scope.names) (hN:Nat.ble 600 N=true) (f:∀ s,fenceModules? p s=some s)
    (r1:∀ w os,(ran p N w os).map (fun s=>staticsOk (importedModules p.main.body) (boot_heap w.params) s.abs.heap&&namesBound p s.abs.heap&&gensDone s.abs&&laidKept (boot_heap w.params) s.abs.heap)=some true)
    (r2:∀ w os,(ran p N w os).map (fun s=>openSeen q loose (importedModules p.main.body) Xt g0 s.abs)=some (openGood q loose))
    (r3:∀ w os,(ran p N w os).map (fun s=>Yf s.abs)=some (Ya w)):LeftO p q loose Xt Yf Ya N g0:=fun w=>by
  obtain⟨⟨h,gs,d,k,os⟩,e,e'⟩:=Option.map_eq_some_iff.mp (boot_open e hN f w)
  obtain⟨rfl,rfl,rfl,rfl⟩:h=boot_heap w.params/\gs=#[]/\d=boot_drawn/\k=boot_toks:=by simpa using e'
  obtain⟨z1,z2,z3⟩:_/\_/\_:=by simpa only[Prod.mk.injEq] using zc w.params
  obtain⟨s',r,l1⟩:=Option.map_eq_some_iff.mp (r1 w os)
  have l2:=r2 w os
  have l3:=r3 w os
  rw[r] at l2 l3
  have l2:=Option.some.inj l2
  have l3:=Option.some.inj l3
  unfold ran at r
  have r:=B8 r
  have hB:(boot w os).abs=⟨boot_heap w.params,#[],boot_drawn,boot_toks,os⟩:=by
    unfold boot SharedT.abs
    rw[zd]
  rw[hB] at r
  have t:topFrom treeTable p w N ⟨boot_heap w.params,#[],boot_drawn,boot_toks,os⟩=some s'.abs:=by
    unfold topFrom
    dsimp only
    rw[z1,z2,z3,r]
    show (match staticsOk (importedModules p.main.body) (boot_heap w.params) s'.abs.heap&&namesBound p s'.abs.heap&&gensDone s'.abs&&laidKept (boot_heap w.params) s'.abs.heap with | true=>_ | false=>_)=_
    rw[l1]
  unfold openEnds
  rw[e]
  show (topFrom treeTable p w N _).map _=_
  rw[t]
  exact congrArg some (Prod.ext l2 l3)
theorem kj:@ran=fun p N w os=>goT (PySem.W.Fast.tw10156331382660048174 (denote PySem.W.Fast.tw14364793385576792824) p w) (PySem.W.Fast.tw6613529449190102663 11 (some (.ref 6))) N (boot w os) (topStub p):=by
  unfold ran
  rw[PySem.W.Fast.te10156331382660048174,PySem.W.Fast.te6613529449190102663,PySem.W.Fast.te14364793385576792824]
end Hd

section
open PySem PySem.W PyProof.Rows
set_option maxHeartbeats 0
noncomputable def Hk.top:Hd.HV PySem.Challenge.rw_cablehouse_k36_changes_refused.Holds:=by
  apply Hd.HV.mk
  case go =>
    intro x1 x2 x3 x4 x5 x6 x7 x8 x9 y z
    w_on;refine PySem.W.holds_law (by kernel_rfl) fun said=>?_
    apply Hd.Iu
    case main=>k_head
    case hl=>exact Hd.left (by kernel_rfl) (by decide) (fun _=>by kernel_rfl) x1 (Hd.six x2 x4 x5 x6 x7 x8) (Hd.two 180 x3 x9)
    case hw=>exact y
    case hc=>exact z
theorem Hk.Jc:Hk.top.l1:=by
  delta Hk.top
  dsimp only
  intro w os
  rw[Hd.kj]
  kernel_rfl
theorem Hk.Jd:Hk.top.l2:=by
  delta Hk.top
  dsimp only
  intro w os
  rw[Hd.kj]
  kernel_rfl
theorem Hk.Je:Hk.top.l3:=by
  delta Hk.top
  dsimp only
  intro w os
  rw[Hd.kj]
  kernel_rfl
theorem Hk.Jf:Hk.top.l4:=by
  delta Hk.top
  dsimp only
  intro w os
  rw[Hd.kj]
  kernel_rfl
theorem Hk.Jg:Hk.top.l5:=by
  delta Hk.top
  dsimp only
  intro w os
  rw[Hd.kj]
  kernel_rfl
theorem Hk.Jh:Hk.top.l6:=by
  delta Hk.top
  dsimp only
  intro w os
  rw[Hd.kj]
  kernel_rfl
theorem Hk.Ji:Hk.top.l7:=by
  delta Hk.top
  dsimp only
  intro w os
  rw[Hd.kj]
  kernel_rfl
theorem Hk.Jj:Hk.top.l8:=by
  delta Hk.top
  dsimp only
  intro w os
  rw[Hd.kj]
  kernel_rfl
theorem Hk.Jk:Hk.top.l9:=by
  delta Hk.top
  dsimp only
  intro w os
  rw[Hd.kj]
  kernel_rfl
theorem Hk.Jm:Hk.top.h:=by
  delta Hk.top
  dsimp only
  w_witness2
end
theorem rR:type_of%@Array.getElem?_toList:=@Array.getElem?_toList
theorem ib:type_of%@Array.length_toList:=@Array.length_toList
theorem cf:type_of%@Bool.and_eq_true:=@Bool.and_eq_true
theorem mh:type_of%@Bool.eq_iff_iff:=@Bool.eq_iff_iff
theorem kq:type_of%@Bool.false_and:=@Bool.false_and
theorem ku:type_of%@Bool.false_eq_true:=@Bool.false_eq_true
theorem bE:type_of%@Bool.false_ne_true:=@Bool.false_ne_true
theorem fR:type_of%@Bool.true_and:=@Bool.true_and
theorem mj:type_of%@PySem.Calls.spliced_cons:=@PySem.Calls.spliced_cons
theorem iV:type_of%@PySem.F.called_set:=@PySem.F.called_set
theorem oz:type_of%@PySem.F.slot_dict_keyiterator_next:=@PySem.F.slot_dict_keyiterator_next
theorem aH:type_of%@PySem.Heap.get?_push_of_some:=@PySem.Heap.get?_push_of_some
theorem aZ:type_of%@PySem.Heap.get?_push_size:=@PySem.Heap.get?_push_size
theorem jC:type_of%@PySem.Heap.get?_update_other:=@PySem.Heap.get?_update_other
theorem lE:type_of%@PySem.Heap.get?_update_self:=@PySem.Heap.get?_update_self
theorem aF:type_of%@PySem.Heap.lt_size:=@PySem.Heap.lt_size
theorem iA:type_of%@PySem.Heap.size_push:=@PySem.Heap.size_push
theorem dD:type_of%@Int.emod_lt_of_pos:=@Int.emod_lt_of_pos
theorem cO:type_of%@Int.emod_nonneg:=@Int.emod_nonneg
theorem eJ:type_of%@Int.le_refl:=@Int.le_refl
theorem jD:type_of%@List.Nodup.sublist:=@List.Nodup.sublist
theorem jE:type_of%@List.Sublist.map:=@List.Sublist.map
theorem iB:type_of%@List.all_cons:=@List.all_cons
theorem ck:type_of%@List.all_eq_true:=@List.all_eq_true
theorem iC:type_of%@List.any_cons:=@List.any_cons
theorem iD:type_of%@List.any_eq_true:=@List.any_eq_true
theorem eT:type_of%@List.cons_append:=@List.cons_append
theorem lF:type_of%@List.filter_congr:=@List.filter_congr
theorem jF:type_of%@List.filter_cons_of_neg:=@List.filter_cons_of_neg
theorem jG:type_of%@List.filter_cons_of_pos:=@List.filter_cons_of_pos
theorem jH:type_of%@List.filter_map:=@List.filter_map
theorem jI:type_of%@List.filter_sublist:=@List.filter_sublist
theorem gH:type_of%@List.find?_cons:=@List.find?_cons
theorem lG:type_of%@List.flatten_cons:=@List.flatten_cons
theorem jJ:type_of%@List.forall_mem_cons:=@List.forall_mem_cons
theorem fO:type_of%@List.getElem?_append_left:=@List.getElem?_append_left
theorem fP:type_of%@List.getElem?_append_right:=@List.getElem?_append_right
theorem nW:type_of%@List.getElem?_drop:=@List.getElem?_drop
theorem bK:type_of%@List.getElem?_eq_some_iff:=@List.getElem?_eq_some_iff
theorem nX:type_of%@List.getElem?_set_ne:=@List.getElem?_set_ne
theorem nY:type_of%@List.getElem?_set_self:=@List.getElem?_set_self
theorem fQ:type_of%@List.getElem_mem:=@List.getElem_mem
theorem bb:type_of%@List.length_append:=@List.length_append
theorem br:type_of%@List.length_cons:=@List.length_cons
theorem dE:type_of%@List.length_drop:=@List.length_drop
theorem jK:type_of%@List.length_filter_le:=@List.length_filter_le
theorem eU:type_of%@List.length_nil:=@List.length_nil
theorem lH:type_of%@List.length_pos_iff:=@List.length_pos_iff
theorem lI:type_of%@List.length_replicate:=@List.length_replicate
theorem lJ:type_of%@List.length_singleton:=@List.length_singleton
theorem gI:type_of%@List.length_take:=@List.length_take
theorem cX:type_of%@List.lookup_cons:=@List.lookup_cons
theorem b9:type_of%@List.map_append:=@List.map_append
theorem jL:type_of%@List.map_congr_left:=@List.map_congr_left
theorem bz:type_of%@List.map_cons:=@List.map_cons
theorem nZ:type_of%@List.map_inj_right:=@List.map_inj_right
theorem bL:type_of%@List.mem_append:=@List.mem_append
theorem oa:type_of%@List.mem_append_left:=@List.mem_append_left
theorem bV:type_of%@List.mem_append_right:=@List.mem_append_right
theorem aD:type_of%@List.mem_cons:=@List.mem_cons
theorem dF:type_of%@List.mem_filter:=@List.mem_filter
theorem aC:type_of%@List.mem_map:=@List.mem_map
theorem eK:type_of%@List.mem_map_of_mem:=@List.mem_map_of_mem
theorem bp:type_of%@List.mem_of_getElem?:=@List.mem_of_getElem?
theorem cY:type_of%@List.mem_range:=@List.mem_range
theorem bc:type_of%@List.mem_singleton:=@List.mem_singleton
theorem eX:type_of%@List.nil_append:=@List.nil_append
theorem c9:type_of%@List.nodup_cons:=@List.nodup_cons
theorem bM:type_of%@List.not_mem_nil:=@List.not_mem_nil
theorem lK:type_of%@List.of_mem_zip:=@List.of_mem_zip
theorem lL:type_of%@List.pairwise_map:=@List.pairwise_map
theorem lN:type_of%@List.replicate_succ:=@List.replicate_succ
theorem aU:type_of%@List.size_toArray:=@List.size_toArray
theorem iE:type_of%@List.take_add_one:=@List.take_add_one
theorem eL:type_of%@List.take_of_length_le:=@List.take_of_length_le
theorem aP:type_of%@Nat.le_of_lt:=@Nat.le_of_lt
theorem ai:type_of%@Nat.le_refl:=@Nat.le_refl
theorem iF:type_of%@Nat.le_succ:=@Nat.le_succ
theorem bA:type_of%@Nat.le_trans:=@Nat.le_trans
theorem gJ:type_of%@Nat.lt_irrefl:=@Nat.lt_irrefl
theorem dQ:type_of%@Nat.lt_of_le_of_lt:=@Nat.lt_of_le_of_lt
theorem bB:type_of%@Nat.lt_of_lt_of_le:=@Nat.lt_of_lt_of_le
theorem og:type_of%@Nat.lt_succ_iff_lt_or_eq:=@Nat.lt_succ_iff_lt_or_eq
theorem eY:type_of%@Nat.lt_succ_of_lt:=@Nat.lt_succ_of_lt
theorem jM:type_of%@Nat.lt_succ_self:=@Nat.lt_succ_self
theorem iG:type_of%@Nat.min_eq_left:=@Nat.min_eq_left
theorem lO:type_of%@Nat.min_eq_right:=@Nat.min_eq_right
theorem bf:type_of%@Nat.ne_of_lt:=@Nat.ne_of_lt
theorem bh:type_of%@Nat.zero_le:=@Nat.zero_le
theorem lP:type_of%@Option.isSome_iff_exists:=@Option.isSome_iff_exists
theorem fS:type_of%@Option.map_eq_some_iff:=@Option.map_eq_some_iff
theorem lQ:type_of%@Option.map_some:=@Option.map_some
theorem cm:type_of%@PySem.PassesOwn.leaving:=@PySem.PassesOwn.leaving
theorem rQ:type_of%@PyProof.Rows.F.plain_set_update_loop:=@PyProof.Rows.F.plain_set_update_loop
theorem oh:type_of%@PyProof.Rows.callWith_type1:=@PyProof.Rows.callWith_type1
theorem dG:type_of%@PySem.F.excBase_ValueError:=@PySem.F.excBase_ValueError
theorem jN:type_of%@PySem.F.plainAttrs_dict:=@PySem.F.plainAttrs_dict
theorem oi:type_of%@PySem.F.plainAttrs_list:=@PySem.F.plainAttrs_list
theorem oj:type_of%@PySem.F.slot_dict_pop:=@PySem.F.slot_dict_pop
theorem om:type_of%@PySem.F.slot_list_append:=@PySem.F.slot_list_append
theorem oo:type_of%@PySem.F.type_dict_pop:=@PySem.F.type_dict_pop
theorem oq:type_of%@PySem.F.type_list_append:=@PySem.F.type_list_append
theorem lR:type_of%@PySem.W.callWith_K:=@PySem.W.callWith_K
theorem dH:type_of%@PySem.W.kia_one:=@PySem.W.kia_one
theorem ot:type_of%@PySem.W.methodCall_KW:=@PySem.W.methodCall_KW
theorem cA:type_of%@PySem.W.mg_none_of:=@PySem.W.mg_none_of
theorem bS:type_of%@PySem.W.mg_of:=@PySem.W.mg_of
theorem iH:type_of%@PySem.mem_of_lookup:=@PySem.mem_of_lookup
theorem jO:type_of%@beq_eq_false_iff_ne:=@beq_eq_false_iff_ne
theorem jP:type_of%@beq_false_of_ne:=@beq_false_of_ne
theorem fT:type_of%@beq_iff_eq:=@beq_iff_eq
theorem jQ:type_of%@PySem.codeAny_builtin:=@PySem.codeAny_builtin
theorem fU:type_of%@PySem.codeAny_mono:=@PySem.codeAny_mono
theorem bu:type_of%@congrArg:=@congrArg
theorem fV:type_of%@decide_eq_decide:=@decide_eq_decide
theorem cZ:type_of%@decide_eq_true_eq:=@decide_eq_true_eq
theorem eM:type_of%@if_false:=@if_false
theorem bN:type_of%@or_false:=@or_false
theorem jR:type_of%@PySem.tupleKind_room_in1:=@PySem.tupleKind_room_in1
theorem lT:type_of%@PySem.wpAny_Call_Name_kw:=@PySem.wpAny_Call_Name_kw
theorem ah:type_of%@PySem.wpAny_bind:=@PySem.wpAny_bind
theorem gK:type_of%@PySem.wpAny_call:=@PySem.wpAny_call
theorem jS:type_of%@PySem.wpAny_call_entry:=@PySem.wpAny_call_entry
theorem lU:type_of%@PySem.wpAny_dictEntries:=@PySem.wpAny_dictEntries
theorem iI:type_of%@PySem.wpAny_execs_nil:=@PySem.wpAny_execs_nil
theorem da:type_of%@PySem.wpAny_holding:=@PySem.wpAny_holding
theorem bg:type_of%@PySem.wpAny_mono:=@PySem.wpAny_mono
theorem gM:type_of%@PySem.wpAny_newObj_type:=@PySem.wpAny_newObj_type
theorem dR:type_of%@PySem.wpAny_passesOwn:=@PySem.wpAny_passesOwn
theorem ax:type_of%@PySem.wpAny_pure:=@PySem.wpAny_pure
theorem fW:type_of%@PySem.wpAny_truthy_bool:=@PySem.wpAny_truthy_bool
theorem ou:type_of%@PySem.wpAny_typeNameOfWhole_keyiter:=@PySem.wpAny_typeNameOfWhole_keyiter
theorem oy:type_of%@PySem.wpAny_typeNameOf_keyiter:=@PySem.wpAny_typeNameOf_keyiter
-- CHANGE: your row's module here,as the last of these rows
set_option Elab.async false
set_option linter.all false
set_option maxRecDepth 100000
namespace L2
open PySem PySem.Spec PyProof.Rows
variable {A:Around}{C:Addr}{E:Value->Shared->Prop}{K:PySem.W.Frag}{M:Model}{P:Program}{Q:Value->Shared->Prop}{a:Addr}{b:Addr}{base:Heap}{body:List Stmt}{c:Expr}{ch:List Addr}{d':Drawn}{e:Expr}{es:List Expr}{f:Value->Value->Sem Value}{fd:FuncData}{fp:List Addr}{g':Array GenState}{h:Heap}{i:Nat}{it:Addr}{kw:List (Str×Value)}{mA:Str->Option Value}{mg:Str->Option Value}{o:Obj}{op:CmpOp}{outer:List Env}{pins:List (Addr×Obj)}{pl:Sem Bool}{pos:Pos}{ps:List Str}{s:Shared}{scope:Scope}{t':Nat}{tg:Expr}{u:Value}{us:List Value}{w:World}{x:Str}
section

abbrev Key:=Sum Int Str
def kK:Key->Value->Bool
 | .inl k,v=>Value.isInt k v
 | .inr x,v=>Value.isStrOf x v
def Jw (w:World):Key->Int
 | .inl k=>hashInt k
 | .inr x=>hashStr w x
theorem cg:∀ {k:Key}{v:Value},kK k v=true->(∃ i t,k=Sum.inl i/\v=Value.int i t)∨(∃ x t,k=Sum.inr x/\v=Value.str x t)
 | .inl i,v,h=>by
  obtain⟨t,e⟩:=Value.isInt_shape (k:=i) (v:=v) h
  exact .inl ⟨i,t,rfl,e⟩
 | .inr x,v,h=>by
  obtain⟨t,e⟩:=Value.isStrOf_shape (x:=x) (v:=v) h
  exact .inr ⟨x,t,rfl,e⟩
theorem zQ (i:Int) (t:Tok):kK (.inl i) (.int i t)=true:=by simp [kK,Value.isInt]
theorem sN (x:Str) (t:Tok):kK (.inr x) (.str x t)=true:=by simp [kK,Value.isStrOf]
theorem GP (a b:Int):decide ((Sum.inl a:Key)=Sum.inl b)=(a==b):=by
 by_cases e:a=b
 ·subst e;simp
 ·have h:¬ (Sum.inl a:Key)=Sum.inl b:=fun q=>e (Sum.inl.inj q)
  rw[decide_eq_false h]
  exact (jO.mpr e).symm
theorem GS (a b:Str):decide ((Sum.inr a:Key)=Sum.inr b)=decide (a=b):=by
 by_cases e:a=b
 ·subst e;simp
 ·have h:¬ (Sum.inr a:Key)=Sum.inr b:=fun q=>e (Sum.inr.inj q)
  rw[decide_eq_false h,decide_eq_false e]
theorem GQ (a:Int) (b:Str):decide ((Sum.inl a:Key)=Sum.inr b)=false:=decide_eq_false (fun q=>nomatch q)
theorem GR (a:Str) (b:Int):decide ((Sum.inr a:Key)=Sum.inl b)=false:=decide_eq_false (fun q=>nomatch q)

def aY (prog:Program) (w:World):PySem.KeyKind prog w Key where
 is:=kK
 hash:=Jw w
 inj:=fun v a b ha hb=>by
  rcases cg ha with ⟨i,t,rfl,rfl⟩ | ⟨x,t,rfl,rfl⟩
  ·rcases cg hb with ⟨j,u,rfl,e⟩ | ⟨y,u,rfl,e⟩
   ·injection e with e1 _;rw[e1]
   ·exact nomatch e
  ·rcases cg hb with ⟨j,u,rfl,e⟩ | ⟨y,u,rfl,e⟩
   ·exact nomatch e
   ·injection e with e1 _;rw[e1]
 byValue:=fun k v h=>by
  rcases cg h with ⟨i,t,rfl,rfl⟩ | ⟨x,t,rfl,rfl⟩<;>rfl
 pyHash:=fun hv h=>by
  rcases cg hv with ⟨i,t,rfl,rfl⟩ | ⟨x,t,rfl,rfl⟩
  ·exact wpAny_pyHash_int h
  ·exact wpAny_pyHash_str h
 eqBool:=fun hu hv h=>by
  rcases cg hu with ⟨i,t,rfl,rfl⟩ | ⟨x,t,rfl,rfl⟩
  ·rcases cg hv with ⟨j,u,rfl,rfl⟩ | ⟨y,u,rfl,rfl⟩
   ·rw[GP] at h;exact wpAny_eqBool_int h
   ·rw[GQ] at h;exact SeqAt.EqAt.int_str i t y u _ _ _ _ h
  ·rcases cg hv with ⟨j,u,rfl,rfl⟩ | ⟨y,u,rfl,rfl⟩
   ·rw[GR] at h;exact SeqAt.EqAt.str_int x t j u _ _ _ _ h
   ·rw[GS] at h;exact wpAny_eqBool_str h
 «strs»:=fun k x t v h=>by
  rcases cg h with ⟨i,u,rfl,e⟩ | ⟨y,u,rfl,e⟩
  ·exact nomatch e
  ·injection e with e1 _
   subst e1
   cases v<;>rfl

theorem vm (prog:Program) (w:World) (i:Int) (t:Tok):(aY prog w).is (.inl i) (.int i t)=true:=zQ i t
theorem vn (prog:Program) (w:World) (x:Str) (t:Tok):(aY prog w).is (.inr x) (.str x t)=true:=sN x t
end
section

inductive V where
 | non | bl (b:Bool) | int (i:Int) | str (x:Str) | byt (b:Array UInt8) | flt (b:UInt64) | ref (a:Addr) | ty (n:String)
 deriving DecidableEq

def RelV:V->Value->Prop
 | .non,u=>u=Value.none
 | .bl b,u=>u=Value.bool b
 | .int i,u=>∃ t,u=Value.int i t
 | .str x,u=>∃ t,u=Value.str x t
 | .byt b,u=>∃ t,u=Value.bytes b t
 | .flt b,u=>∃ t,u=Value.float b t
 | .ref a,u=>u=Value.ref a
 | .ty n,u=>u=Value.type n

abbrev Vals:List V->List Value->Prop:=Paired RelV
theorem Vals.length {xs:List V}{us:List Value} (r:Vals xs us):xs.length=us.length:=Paired.length r
theorem Vals.get:∀ {xs:List V}{us:List Value}{i:Nat}{x:V},Vals xs us->xs[i]?=some x->∃ u,us[i]?=some u/\RelV x u
 | _,_,_,_,.nil,e=>by simp at e
 | _,_,0,_,.cons r _,e=>by simp at e;subst e;exact⟨_,rfl,r⟩
 | _,_,i+1,x,.cons _ t,e=>by
  obtain⟨u,h1,h2⟩:=Vals.get (i:=i) (x:=x) t (by simpa using e)
  exact⟨u,by simpa using h1,h2⟩
theorem Vals.set {x:V}{u:Value} (r:RelV x u):∀ {xs:List V}{us:List Value} (i:Nat),Vals xs us->Vals (xs.set i x) (us.set i u)
 | _,_,_,.nil=>.nil
 | _,_,0,.cons _ t=>.cons r t
 | _,_,i+1,.cons q t=>.cons q (Vals.set r i t)
theorem Vals.append:∀ {xs ys:List V}{us ws:List Value},Vals xs us->Vals ys ws->Vals (xs++ys) (us++ws)
 | _,_,_,_,.nil,s=>s
 | _,_,_,_,.cons r t,s=>.cons r (Vals.append t s)
theorem Vals.take:∀ {xs:List V}{us:List Value} (n:Nat),Vals xs us->Vals (xs.take n) (us.take n)
 | _,_,0,_=>.nil
 | _,_,_+1,.nil=>.nil
 | _,_,n+1,.cons r t=>.cons r (Vals.take n t)
theorem Vals.drop:∀ {xs:List V}{us:List Value} (n:Nat),Vals xs us->Vals (xs.drop n) (us.drop n)
 | _,_,0,r=>r
 | _,_,_+1,.nil=>.nil
 | _,_,n+1,.cons _ t=>Vals.drop n t
theorem Vals.none_of:∀ {xs:List V}{us:List Value}{i:Nat},Vals xs us->xs[i]?=none->us[i]?=none:=fun {xs us i} r e=>by
 have h1:=r.length
 have h2:xs.length<=i:=List.getElem?_eq_none_iff.mp e
 exact List.getElem?_eq_none_iff.mpr (by omega)

def iX:Option V->Option Value->Prop
 | some v,some u=>RelV v u
 | none,none=>True
 | _,_=>False
def KV {κ:Type}:List (κ×V)->List (κ×Value)->Prop:=Paired fun (p:κ×V) (q:κ×Value)=>p.1=q.1/\RelV p.2 q.2

def kV:Key->V
 | .inl i=>.int i
 | .inr x=>.str x

inductive HO where
  | lst (xs:List V)
  | tup (xs:List V)
  | dK (kvs:List (Key×V)) | dT (kvs:List (List Key×V))
  | set (S:Int->Bool) (n:Nat)
  | ins (C dx:Addr) (fs:List (Str×V))
  | own (x:Addr)
  | xd (fs:List (Str×V))
  | met (f x:Addr)
  | rng (lo hi:Int)
  | frz (o:Obj) (u:HO)
  | tbl (ps:Array Value)
  | ext (φ:Heap->Prop)

abbrev Hp:=Addr->Option HO
def upd (H:Hp) (a:Addr) (o:HO):Hp:=fun b=>if b=a then some o else H b
theorem az {H:Hp}{o:HO}:upd H a o a=some o:=by unfold upd;rw[if_pos rfl]
theorem ar {H:Hp}{a b:Addr}{o:HO} (h:b≠a):upd H a o b=H b:=by unfold upd;rw[if_neg h]
theorem aE {H:Hp}{a b:Addr}{o u:HO} (h:H a=some o) (h':H b=some u) (d:o≠u):a≠b:=by
 intro e;subst e;rw[h] at h';exact d (Option.some.inj h')
theorem bw {H:Hp}{a b:Addr}{o:HO} (h:H a=some o) (h':H b=none):a≠b:=by
 intro e;subst e;rw[h] at h';cases h'

section
variable (P:Program) (w:World)
def bH (H:Hp) (h:Heap) (a:Addr):HO->Prop
 | .lst xs=>xs.length<=sizeLine/\∃ (its:List Value) (n:Nat),Vals xs its/\h.get? a=some { cls:=.type "list",data:=.seq its.toArray n }
 | .tup xs=>xs.length<=sizeLine/\∃ its:List Value,Vals xs its/\IsTup h a its.toArray
 | .dK kvs=>kvs.length<=sizeLine/\(a==sysModules)=false/\∃ vs,KV kvs vs/\h.DictOf (aY P w) a vs
 | .dT kvs=>kvs.length<=sizeLine/\(a==sysModules)=false/\∃ xs:List (List Key×Addr×Value),
   Paired (fun (p:List Key×V) (q:List Key×Addr×Value)=>p.1=q.1/\H q.2.1=some (.tup (p.1.map kV))/\RelV p.2 q.2.2) kvs xs ∧
   ∃ o es ep,h.get? a=some o/\o.ExactDict/\o.data=.dict es ep/\es.toList=xs.map (entryOfKey (tupleKind (aY P w)))/\(xs.map (·.1)).Nodup
 | .set S n=>h.SetOf (intKind P w) a S n
 | .ins C dx fs=>H dx=some (.own a)/\fs.length<=1000/\dx≠a/\h.get? a=some (PySem.W.instObj C dx) ∧
   ∃ mA,h.Ns1 dx mA/\(∀ f,iX (fs.lookup f) (mA f))/\PySem.Within mA (fs.map (·.1))
 | .own _=>∃ o,h.get? a=some o
 | .xd fs=>∃ mA,h.Ns1 a mA/\∀ f,iX (fs.lookup f) (mA f)
 | .rng lo hi=>∃ t u v,h.get? a=some { cls:=.type "range",data:=.fields #[.int lo t,.int hi u,.int 1 v] }
 | .frz o u=>h.get? a=some o/\bH H h a u
 | .tbl ps=>∃ qs:Array Value,h.get? a=some { cls:=.none,data:=.fields qs }/\TriplesOk qs.toList/\∀ pos c,codeAmong pos qs.toList=some c->∃ c' oc vs t q,c=.ref c'/\H c'=some (.frz oc (.own a))/\oc.data=.fields vs/\vs[1]?=some (.str q t)/\ps=#[.str q 0]
 | .met f x=>h.get? a=some (PySem.W.methodObj (.ref f) (.ref x))
 | .ext φ=>φ h/\(∃ o,h.get? a=some o)/\∀ h1 h2:Heap,φ h1->(∀ o,h1.get? a=some o->h2.get? a=some o)->φ h2
def HOk (H:Hp) (h:Heap):Prop:=∀ a o,H a=some o->bH P w H h a o
end

section
variable {P:Program}{w:World}{H H':Hp}{h h':Heap}{a:Addr}{o:HO}
theorem bH.lt (x:bH P w H h a o):a<h.objs.size:=by
 cases o with
 | lst xs=>obtain⟨_,_,_,_,e⟩:=x;exact aF e
 | tup xs=>obtain⟨_,_,_,p⟩:=x;exact p.lt
 | dK kvs=>obtain⟨_,_,_,_,o,_,_,e,_⟩:=x;exact aF e
 | dT kvs=>obtain⟨_,_,_,_,o,_,_,e,_⟩:=x;exact aF e
 | set S n=>obtain⟨o,_,_,_,e,_⟩:=x;exact aF e
 | ins C dx fs=>obtain⟨_,_,_,e,_⟩:=x;exact aF e
 | own y=>obtain⟨_,e⟩:=x;exact aF e
 | xd fs=>obtain⟨_,⟨_,_,_,e,_⟩,_⟩:=x;exact aF e
 | rng lo hi=>obtain⟨_,_,_,e⟩:=x;exact aF e
 | frz ob u=>obtain⟨e,_⟩:=x;exact aF e
 | tbl ps=>obtain⟨_,e,_⟩:=x;exact aF e
 | met f y=>exact aF (show h.get? a=some _ from x)
 | ext φ=>obtain⟨_,⟨_,e⟩,_⟩:=x;exact aF e
theorem Paired.GW {α β:Type}{F G:α->β->Prop}:∀ {l₁:List α}{l₂:List β},Paired F l₁ l₂->(∀ a b,F a b->G a b)->Paired G l₁ l₂
 | _,_,.nil,_=>.nil
 | _,_,.cons r t,f=>.cons (f _ _ r) (Paired.GW t f)
theorem bH.nh (x:bH P w H h a o) (k:∀ b u,(b=a∨H b=some (.own a))->h.get? b=some u->h'.get? b=some u)
  (ho:∀ b,H b=some (.own a)->H' b=some (.own a)) (ht:∀ b xs,H b=some (.tup xs)->H' b=some (.tup xs))
  (hf:∀ b ob u,H b=some (.frz ob u)->H' b=some (.frz ob u):=by first | exact fun _ _ _ q=>q | exact fun c ob u q=>(ar (bw q (by assumption))).trans q):bH P w H' h' a o:=by
 induction o with
 | lst xs=>obtain⟨z,its,n,r,e⟩:=x;exact⟨z,its,n,r,k _ _ (.inl rfl) e⟩
 | tup xs=>obtain⟨z,its,r,ob,e,c⟩:=x;exact⟨z,its,r,ob,k _ _ (.inl rfl) e,c⟩
 | dK kvs=>obtain⟨z,y,vs,r,ob,es,ep,e,c⟩:=x;exact⟨z,y,vs,r,ob,es,ep,k _ _ (.inl rfl) e,c⟩
 | dT kvs =>
  obtain⟨z,y,xs,r,ob,es,ep,e,c⟩:=x
  exact⟨z,y,xs,Paired.GW r fun p q z=>⟨z.1,ht _ _ z.2.1,z.2.2⟩,ob,es,ep,k _ _ (.inl rfl) e,c⟩
 | set S n=>obtain⟨ob,es,ep,t,e,c⟩:=x;exact⟨ob,es,ep,t,k _ _ (.inl rfl) e,c⟩
 | ins C dx fs =>
  obtain⟨d,z,ne,e,mA,⟨od,es,ep,e2,c⟩,r⟩:=x
  exact⟨ho _ d,z,ne,k _ _ (.inl rfl) e,mA,⟨od,es,ep,k _ _ (.inr d) e2,c⟩,r⟩
 | own y=>obtain⟨ob,e⟩:=x;exact⟨ob,k _ _ (.inl rfl) e⟩
 | xd fs=>obtain⟨mA,⟨od,es,ep,e,c⟩,r⟩:=x;exact⟨mA,⟨od,es,ep,k _ _ (.inl rfl) e,c⟩,r⟩
 | rng lo hi=>obtain⟨t,u,v,e⟩:=x;exact⟨t,u,v,k _ _ (.inl rfl) e⟩
 | frz ob u ih=>obtain⟨e,q⟩:=x;exact⟨k _ _ (.inl rfl) e,ih q⟩
 | tbl ps =>
  obtain⟨qs,e,t,z⟩:=x
  refine⟨qs,k a _ (.inl rfl) e,t,fun pos c q=>?_⟩
  obtain⟨c',oc,vs,tk,qq,h1,h2,h3⟩:=z pos c q
  exact⟨c',oc,vs,tk,qq,h1,hf _ _ _ h2,h3⟩
 | met f y =>
  have e:h.get? a=some (PySem.W.methodObj (.ref f) (.ref y)):=x
  show h'.get? a=some (PySem.W.methodObj (.ref f) (.ref y))
  exact k a _ (.inl rfl) e
 | ext φ=>obtain⟨p,⟨o,e⟩,st⟩:=x;exact⟨st _ _ p fun o q=>k _ _ (.inl rfl) q,⟨o,k _ _ (.inl rfl) e⟩,st⟩
theorem HOk.lt (x:HOk P w H h) (e:H a=some o):a<h.objs.size:=(x a o e).lt
theorem HOk.fresh (x:HOk P w H h) (e:h.objs.size<=a):H a=none:=by
 cases q:H a with
 | none=>rfl
 | some u=>exact absurd (bB (x.lt q) e) (gJ _)
theorem HOk.kept (x:HOk P w H h) (k:∀ b u,h.get? b=some u->h'.get? b=some u):HOk P w H h':=fun a o e =>
 (x a o e).nh (fun b u _ q=>k b u q) (fun _ q=>q) fun _ _ q=>q
theorem HOk.laid (x:HOk P w H h) (k:∀ b u,h.get? b=some u->h'.get? b=some u) (hp:h.objs.size<=a) (new:bH P w (upd H a o) h' a o):HOk P w (upd H a o) h':=fun b u e=>by
 have hn:=x.fresh hp
 by_cases hb:b=a
 ·subst hb;rw[az] at e;cases e;exact new
 ·rw[ar hb] at e
  exact (x b u e).nh (fun c v _ q=>k c v q) (fun c q=>by rw[ar (bw q hn)];exact q) fun c xs q=>by rw[ar (bw q hn)];exact q
end

def Rd (H:Hp) (a:Addr) (u:HO):Prop:=H a=some u∨∃ o,H a=some (.frz o u)
theorem Rd.of {H:Hp}{u:HO} (h:H a=some u):Rd H a u:=.inl h
theorem Rd.ok {H:Hp}{u:HO} (r:Rd H a u) (x:HOk P w H h):bH P w H h a u:=by
 rcases r with r | ⟨o,r⟩
 ·exact x a u r
 ·obtain⟨_,q⟩:=x a _ r
  exact q
def Mut:Option HO->Prop
 | some (.lst _)=>True
 | some (.dK _)=>True
 | some (.dT _)=>True
 | some (.set _ _)=>True
 | some (.ins _ _ _)=>True
 | some (.ext _)=>True
 | _=>False
section
variable {P:Program}{w:World}{H:Hp}{h h':Heap}{x e:Addr}{o':HO}
theorem HOk.write (ok:HOk P w H h) (mu:Mut (H x)) (he:e=x∨H e=some (.own x)) (k:∀ b u,b≠e->h.get? b=some u->h'.get? b=some u) (heo:∃ u,h'.get? e=some u)
  (new:bH P w (upd H x o') h' x o'):HOk P w (upd H x o') h':=fun b u q=>by
 have nown:∀ c y,H c=some (.own y)->c≠x:=fun c y r z=>by subst z;rw[r] at mu;exact mu
 have ntup:∀ c xs,H c=some (.tup xs)->c≠x:=fun c xs r z=>by subst z;rw[r] at mu;exact mu
 by_cases hb:b=x
 ·subst hb;rw[az] at q;cases q;exact new
 ·rw[ar hb] at q
  by_cases hbe:b=e
  ·have q':H b=some (.own x):=by
    rcases he with z | z
    ·exact absurd (hbe.trans z) hb
    ·rw[hbe];exact z
   rw[q] at q';cases q'
   obtain⟨v,hv⟩:=heo
   exact⟨v,by rw[hbe];exact hv⟩
  ·refine (ok b u q).nh (fun c v hc r=>k c v ?_ r) (fun c r=>by rw[ar (nown c b r)];exact r) (fun c xs r=>by rw[ar (ntup c xs r)];exact r) fun c ob u r=>(ar (fun z=>by subst z;rw[r] at mu;exact mu)).trans r
   rcases hc with rfl | hc
   ·exact hbe
   ·rintro rfl
    rcases he with z | z
    ·exact nown c b hc z
    ·rw[hc] at z;cases z;exact hb rfl
end

structure Un (fs ex:List Addr) (H H':Hp) (h h':Heap):Prop where
 keep:∀ b o,h.get? b=some o->H b=none->b∉fs->b∉ex->h'.get? b=some o
 slot:∀ b o,h.get? b=some o->H b=none->b∈fs->b∉ex->∃ sl,h'.get? b=some { o with slots:=sl }
 free:∀ b o,h.get? b=some o->H b=none->b∉ex->H' b=none
 there:∀ b o,h.get? b=some o->b∉ex->∃ o',h'.get? b=some o'
 tups:∀ b xs,H b=some (.tup xs)->H' b=some (.tup xs)
 frzs:∀ b o u,H b=some (.frz o u)->H' b=some (.frz o u)
 tbls:∀ b ps,H b=some (.tbl ps)->∃ more,H' b=some (.tbl (ps++more))
section
variable {fs fs' ex ex':List Addr}{H H1 H2:Hp}{h h1 h2 h':Heap}{a x e:Addr}{o:HO}
theorem Un.any (u:Un fs ex H H1 h h1) {ob:Obj} (q:h.get? b=some ob) (n:H b=none) (hx:b∉ex):∃ sl,h1.get? b=some { ob with slots:=sl }:=by
 by_cases hb:b∈fs
 ·exact u.slot b ob q n hb hx
 ·exact⟨ob.slots,u.keep b ob q n hb hx⟩
theorem Un.trans (a:Un fs ex H H1 h h1) (b:Un fs ex H1 H2 h1 h2):Un fs ex H H2 h h2 where
 keep:=fun c ob q n hc hx=>b.keep c ob (a.keep c ob q n hc hx) (a.free c ob q n hx) hc hx
 slot:=fun c ob q n hc hx=>by
  obtain⟨sl,e1⟩:=a.slot c ob q n hc hx
  obtain⟨sl',e2⟩:=b.slot c _ e1 (a.free c ob q n hx) hc hx
  exact⟨sl',e2⟩
 free:=fun c ob q n hx=>by
  obtain⟨o',e1⟩:=a.there c ob q hx
  exact b.free c o' e1 (a.free c ob q n hx) hx
 there:=fun c ob q hx=>by
  obtain⟨o',e1⟩:=a.there c ob q hx
  exact b.there c o' e1 hx
 tups:=fun c xs q=>b.tups c xs (a.tups c xs q)
 frzs:=fun c ob xs q=>b.frzs c ob xs (a.frzs c ob xs q)
 tbls:=fun c ps q=>by
  obtain⟨m1,e1⟩:=a.tbls c ps q
  obtain⟨m2,e2⟩:=b.tbls c _ e1
  exact⟨m1++m2,by rw[e2,Array.append_assoc]⟩
theorem Un.kept (k:∀ b u,h.get? b=some u->h'.get? b=some u):Un fs ex H H h h' :=
 ⟨fun b ob q _ _ _=>k b ob q,fun b ob q _ _ _=>⟨ob.slots,k b ob q⟩,fun _ _ _ n _=>n,fun b ob q _=>⟨ob,k b ob q⟩,fun _ _ q=>q,fun _ _ _ q=>q,fun _ ps q=>⟨#[],by rw[q];simp⟩⟩
theorem Un.refl:Un fs ex H H h h:=Un.kept fun _ _ q=>q
theorem Un.laid (k:∀ b u,h.get? b=some u->h'.get? b=some u) (hp:h.objs.size<=a) (hn:H a=none):Un fs ex H (upd H a o) h h' where
 keep:=fun b u q _ _ _=>k b u q
 slot:=fun b u q _ _ _=>⟨u.slots,k b u q⟩
 free:=fun b u q n _=>by rw[ar (bf (bB (aF q) hp))];exact n
 there:=fun b u q _=>⟨u,k b u q⟩
 tups:=fun b xs q=>by rw[ar (bw q hn)];exact q
 frzs:=fun b u xs q=>by rw[ar (bw q hn)];exact q
 tbls:=fun b ps q=>⟨#[],by rw[ar (bw q hn),q];simp⟩
theorem Un.write (mu:Mut (H x)) (he:e=x∨H e=some (.own x)) (k:∀ b u,b≠e->h.get? b=some u->h'.get? b=some u) (heo:∃ u,h'.get? e=some u):Un fs ex H (upd H x o) h h':=by
 have hx:∀ b,H b=none->b≠x:=fun b n z=>by subst z;rw[n] at mu;exact mu
 have hb:∀ b,H b=none->b≠e:=fun b n z=>by
  subst z
  rcases he with r | r
  ·exact hx b n r
  ·rw[n] at r;cases r
 have hm:∀ b u,H b=some u->¬ Mut (some u)->b≠x:=fun b u q nm z=>by subst z;rw[q] at mu;exact nm mu
 refine⟨fun b u q n _ _=>k b u (hb b n) q,fun b u q n _ _=>⟨u.slots,k b u (hb b n) q⟩,fun b u q n _=>by rw[ar (hx b n)];exact n,fun b u q _=>?_,
  fun b xs q=>by rw[ar (hm b _ q fun z=>z)];exact q,fun b u xs q=>by rw[ar (hm b _ q fun z=>z)];exact q,fun b ps q=>⟨#[],by rw[ar (hm b _ q fun z=>z),q];simp⟩⟩
 by_cases hbe:b=e
 ·subst hbe;exact heo
 ·exact⟨u,k b u hbe q⟩
theorem Un.mono (u:Un fs ex H H1 h h1) (hs:∀ b∈fs,b∈fs') (hx:∀ b∈ex,b∈ex'):Un fs' ex' H H1 h h1 :=
 ⟨fun b ob q n hb he=>u.keep b ob q n (fun z=>hb (hs b z)) fun z=>he (hx b z),fun _ _ q n _ he=>u.any q n fun z=>he (hx _ z),fun b ob q n he=>u.free b ob q n fun z=>he (hx b z),fun b ob q he=>u.there b ob q fun z=>he (hx b z),u.tups,u.frzs,u.tbls⟩
end

def trk (h:Heap) (H:Hp):List Addr:=(List.range h.objs.size).filter fun a=>(H a).isSome
def tW (h:Heap) (H:Hp):Heap:=PySem.W.hideAll h (trk h H)
theorem zN (h:Heap) (H:Hp):(tW h H).objs.size=h.objs.size:=PySem.W.hideAll_size _ _
theorem BA {H:Hp} (e:h.get? b=some o) (n:H b=none):(tW h H).get? b=some o :=
 PySem.W.hideAll_get _ e fun hm=>by
  have q:(H b).isSome=true:=(dF.mp hm).2
  rw[n] at q;simp at q
theorem Er {H:Hp} (e:(tW h H).get? b=some o):h.get? b=some o/\H b=none:=by
 have e':h.get? b=some o:=PySem.W.of_hideAll (trk h H) e
 refine⟨e',?_⟩
 cases q:H b with
 | none=>rfl
 | some x =>
  have hm:b∈trk h H:=dF.mpr ⟨cY.mpr (aF e'),by simp [q]⟩
  have z:(tW h H).get? b=none:=PySem.W.hideAll_none (trk h H) hm
  rw[z] at e;cases e

def Dq (g h:Heap) (L:Addr):List (Addr×Obj):=(List.range h.objs.size).filterMap fun a=>if a=L∨(g.get? a).isSome=true then none else (h.get? a).map fun o=>(a,o)
def rest (g h:Heap) (L d:Addr):List (Addr×Obj):=(Dq g h L).filter fun p=>decide (p.1≠d)
end
section

structure Mod (K:PySem.W.Frag) (mg:Str->Option Value) (base:Heap):Prop where
 kin:K.In base
 glob:base.Ns mainGlobals mg
 blt:∃ mb,base.Ns builtinsNs mb/\∀ x:Str,x≠"__name__"->mb x=bootBuiltins x
 nolimit:base.NoLimit
 bmn:∃ bm ob,mg "__builtins__"=some (.ref bm)/\bm≠builtinsNs/\base.get? bm=some ob/\ob.cls=.type "module"/\ob.dict=some builtinsNs/\ob.data=.plain

structure Cx where
 prog:Program
 w:World
 K:PySem.W.Frag
 mg:Str->Option Value
 base:Heap
 A:Around
 N:List Str
 s₀:Shared
 H₀:Hp
 env:Env
 outer:List Env
 stack:List Env
 ex:List Addr
 fn:Str->Bool
 calm:Bool
 pn:List (Addr×Obj)
 xe:Value->Shared->Prop
def frs (l:List Env):List Addr:=l.filterMap (·.frame)
abbrev Cx.fs (X:Cx):List Addr:=frs X.outer

def Vis (sc:Scope) (x:Str):Prop:=sc.names.lookup x=some .local∨sc.names.lookup x=some .cell∨sc.names.lookup x=some .free
def Loc (sc:Scope) (x:Str):Prop:=sc.names.lookup x=some .local∨sc.names.lookup x=some .cell
def Look (env:Env) (h:Heap) (m:Str->Option Value) (x:Str) (u:Value):Prop :=
 (env.kindOf x=some .local/\m x=some u)∨((env.kindOf x=some .cell∨env.kindOf x=some .free)/\∃ c,env.cells.lookup x=some c/\h.IsCell c (some u))

structure Cx.Ok (X:Cx):Prop where
 mod:Mod X.K X.mg X.base
 kind:X.env.scope.kind=.function
 glob:X.env.globals=mainGlobals
 blt:X.env.builtins=builtinsNs
 above:X.s₀.heap.objs.size<=X.env.locals
 inj:∀ x y c,X.env.cells.lookup x=some c->X.env.cells.lookup y=some c->x=y
 has:∀ x,(X.env.kindOf x=some .cell∨X.env.kindOf x=some .free)->∃ c,X.env.cells.lookup x=some c
 cab:∀ x c,X.fn x=true->X.env.cells.lookup x=some c->X.s₀.heap.objs.size<=c
 hd:X.calm=true->X.A.handled=none
 frames:X.A.frames=some X.stack
 stk:X.stack=X.outer∨(X.stack=X.env::X.outer/\X.env.frame=some X.env.locals)
 exf:∀ b∈X.ex,b≠X.env.locals/\∀ x c,X.env.cells.lookup x=some c->c≠b
 bs:∀ b o,X.base.get? b=some o->X.s₀.heap.get? b=some o/\X.H₀ b=none
 bsz:X.base.objs.size<=X.s₀.heap.objs.size
 noex:∀ b o,X.base.get? b=some o->b∉X.ex
 exfs:∀ b∈X.ex,b∉X.fs
 kJ:X.s₀.heap.FunFrames X.base X.outer
 frf:∀ b∈X.fs,X.H₀ b=none

structure Inv (X:Cx) (pins:List (Addr×Obj)) (σ:List (Option V)) (H:Hp) (s:Shared):Prop where
 ok:X.Ok
 os:s.os=X.s₀.os
 bare:AllBare s.gens
 base:Un X.fs X.ex X.H₀ H X.s₀.heap s.heap
 loc:∃ m,s.heap.Ns X.env.locals m/\∀ (i:Nat) (x:Str) (v:V),X.N[i]?=some x->σ[i]?=some (some v)->Vis X.env.scope x->∃ u,RelV v u/\Look X.env s.heap m x u
 cell:∀ x c,X.env.cells.lookup x=some c->∃ v,s.heap.IsCell c v
 free:H X.env.locals=none
 freeC:∀ x c,X.env.cells.lookup x=some c->H c=none
 pin:∀ p∈X.pn++pins,s.heap.get? p.1=some p.2/\H p.1=none/\p.1≠X.env.locals/\p.1∉X.fs/\∀ v,p.2.data≠.cell v
 hok:HOk X.prog X.w H s.heap
 len:σ.length=X.N.length

section
variable {X:Cx}{pins:List (Addr×Obj)}{σ:List (Option V)}{H H':Hp}{s:Shared}{h':Heap}

theorem Cx.Ok.Jz (ok:X.Ok)  (e:X.base.get? b=some o):b∉X.fs:=fun hb=>by
 have:=(ok.kJ.mem hb).1
 rw[e] at this;cases this
theorem Inv.bs (I:Inv X pins σ H s):∀ b o,X.base.get? b=some o->s.heap.get? b=some o/\H b=none:=fun b o e =>
 ⟨I.base.keep b o (I.ok.bs b o e).1 (I.ok.bs b o e).2 (I.ok.Jz e) (I.ok.noex b o e),I.base.free b o (I.ok.bs b o e).1 (I.ok.bs b o e).2 (I.ok.noex b o e)⟩
theorem Inv.bk (I:Inv X pins σ H s):∀ b o,X.base.get? b=some o->s.heap.get? b=some o:=fun b o e=>(I.bs b o e).1
theorem Inv.mod (I:Inv X pins σ H s):Mod X.K X.mg X.base:=I.ok.mod
theorem Inv.kIn (I:Inv X pins σ H s):X.K.In s.heap:=I.ok.mod.kin.keeps I.bk
theorem Inv.nolimit (I:Inv X pins σ H s):s.heap.NoLimit:=I.ok.mod.nolimit.keeps I.bk
theorem Inv.fr (I:Inv X pins σ H s):∃ m,Fr X.base X.env.locals s.heap m :=
 let ⟨m,hn,_⟩:=I.loc
 ⟨m,hn,I.bk,bA I.ok.bsz I.ok.above⟩
theorem Inv.lt (I:Inv X pins σ H s):X.env.locals<s.heap.objs.size:=let ⟨_,hn,_⟩:=I.loc;hn.lt
theorem Inv.sz (I:Inv X pins σ H s):X.s₀.heap.objs.size<=s.heap.objs.size:=bA I.ok.above (aP I.lt)
theorem Inv.J0 (I:Inv X pins σ H s)  (h:s.heap.objs.size<=a):a∉X.fs:=fun hb=>by
 obtain⟨_,o,ho,_⟩:=I.ok.kJ.mem hb
 exact absurd (bB (aF ho) (bA I.sz h)) (gJ _)
theorem Inv.cne (I:Inv X pins σ H s):∀ x c,X.env.cells.lookup x=some c->c≠X.env.locals:=fun x c e z=>by
 obtain⟨v,o,ho,hd⟩:=I.cell x c e
 obtain⟨m,⟨o',es,ep,ho',hd',_⟩,_⟩:=I.loc
 rw[z,ho'] at ho;cases ho;rw[hd'] at hd;cases hd
theorem Inv.kJ (I:Inv X pins σ H s):s.heap.FunFrames X.base X.outer:=by
 have all:∀ (l:List Env),(∀ b∈frs l,b∈X.fs)->X.s₀.heap.FunFrames X.base l->s.heap.FunFrames X.base l:=by
  intro l
  induction l with
  | nil=>intro _ _;trivial
  | cons env r ih =>
   intro hs hl
   obtain⟨hk,⟨L,o,hf,hn,ho,hd⟩,hr⟩:=hl
   have hL:L∈X.fs:=hs L (by unfold frs;rw[List.filterMap_cons,hf];exact List.mem_cons_self)
   obtain⟨sl,e⟩:=I.base.slot L o ho (I.ok.frf L hL) hL fun z=>I.ok.exfs L z hL
   exact⟨hk,⟨L,_,hf,hn,e,hd⟩,ih (fun b hb=>hs b (by unfold frs;rw[List.filterMap_cons,hf];exact List.mem_cons_of_mem _ hb)) hr⟩
 exact all X.outer (fun _ hb=>hb) I.ok.kJ

theorem Inv.stack (I:Inv X pins σ H s):s.heap.FunFrames X.base X.stack:=by
 rcases I.ok.stk with e | ⟨e,hf⟩
 ·rw[e];exact I.kJ
 ·rw[e]
  obtain⟨m,hn,_⟩:=I.loc
  refine .cons (by rw[I.ok.kind];decide) hf hn ?_ I.kJ
  exact Heap.get?_none_of_le (bA I.ok.bsz I.ok.above)
theorem Inv.rK (I:Inv X pins σ H s):∀ b∈frs X.stack,b∈X.env.locals::X.fs:=fun b hb=>by
 rcases I.ok.stk with e | ⟨e,hf⟩
 ·rw[e] at hb;exact List.mem_cons_of_mem _ hb
 ·rw[e] at hb
  unfold frs at hb
  rw[List.filterMap_cons,hf] at hb
  exact hb
theorem Inv.nT (I:Inv X pins σ H s):∀ b∈frs X.stack,H b=none:=fun b hb=>by
 rcases aD.mp (I.rK b hb) with e | hb
 ·rw[e];exact I.free
 ·obtain⟨_,o,ho,_⟩:=I.ok.kJ.mem hb
  exact I.base.free b o ho (I.ok.frf b hb) fun z=>I.ok.exfs b z hb

theorem Inv.step {g':Array GenState}{t':Nat}{d':Drawn}{ch:List Addr} (I:Inv X pins σ H s)
  (hch:∀ b∈ch,(b∈X.ex∨X.s₀.heap.objs.size<=b)/\b≠X.env.locals/\(∀ x c,X.env.cells.lookup x=some c->c≠b)/\∀ p∈X.pn++pins,p.1≠b)
  (keep:∀ b o,b≠X.env.locals->b∉X.fs->b∉ch->s.heap.get? b=some o->H b=none->h'.get? b=some o)
  (slot:∀ b o,b≠X.env.locals->b∈X.fs->b∉ch->s.heap.get? b=some o->H b=none->∃ sl,h'.get? b=some { o with slots:=sl }) (free:∀ b o,b∉ch->s.heap.get? b=some o->H b=none->H' b=none)
  (there:∀ b o,b∉ch->s.heap.get? b=some o->∃ o',h'.get? b=some o')
  (tups:∀ b xs,H b=some (.tup xs)->H' b=some (.tup xs)) (frzs:∀ b o u,H b=some (.frz o u)->H' b=some (.frz o u)) (tbls:∀ b ps,H b=some (.tbl ps)->∃ more,H' b=some (.tbl (ps++more)))
  (ns:∀ m,s.heap.Ns X.env.locals m->h'.Ns X.env.locals m) (hok:HOk X.prog X.w H' h') (hg:AllBare g') :
  Inv X pins σ H' { s with heap:=h',gens:=g',drawn:=d',toks:=t' }:=by
 have neL:∀ b o,X.s₀.heap.get? b=some o->b≠X.env.locals:=fun b o e=>bf (bB (aF e) I.ok.above)
 have neC:∀ b o,X.s₀.heap.get? b=some o->b∉X.ex->b∉ch:=fun b o e hx hb=>by
  rcases (hch b hb).1 with z | z
  ·exact hx z
  ·exact absurd (bB (aF e) z) (gJ _)
 have cellK:∀ x c,X.env.cells.lookup x=some c->∀ v,s.heap.IsCell c v->h'.IsCell c v:=fun x c e v ⟨o,ho,hd⟩=>by
  have nch:c∉ch:=fun z=>(hch c z).2.2.1 x c e rfl
  by_cases hc:c∈X.fs
  ·obtain⟨sl,q⟩:=slot c o (I.cne x c e) hc nch ho (I.freeC x c e)
   exact⟨_,q,hd⟩
  ·exact⟨o,keep c o (I.cne x c e) hc nch ho (I.freeC x c e),hd⟩
 refine⟨I.ok,I.os,hg,⟨fun b o e n hb hx=>?_,fun b o e n hb hx=>?_,fun b o e n hx=>?_,fun b o e hx=>?_,fun b xs e=>tups b xs (I.base.tups b xs e),fun b o xs e=>frzs b o xs (I.base.frzs b o xs e),fun b ps e=>?_⟩,?_,fun x c e=>?_,?_,fun x c e=>?_,fun p hp=>?_,hok,I.len⟩
 ·exact keep b o (neL b o e) hb (neC b o e hx) (I.base.keep b o e n hb hx) (I.base.free b o e n hx)
 ·obtain⟨sl,e1⟩:=I.base.slot b o e n hb hx
  obtain⟨sl',e2⟩:=slot b _ (neL b o e) hb (neC b o e hx) e1 (I.base.free b o e n hx)
  exact⟨sl',e2⟩
 ·obtain⟨o',e1⟩:=I.base.there b o e hx
  exact free b o' (neC b o e hx) e1 (I.base.free b o e n hx)
 ·obtain⟨o',e1⟩:=I.base.there b o e hx
  exact there b o' (neC b o e hx) e1
 ·obtain⟨m1,e1⟩:=I.base.tbls b ps e
  obtain⟨m2,e2⟩:=tbls b _ e1
  exact⟨m1++m2,by rw[e2,Array.append_assoc]⟩
 ·obtain⟨m,hn,hl⟩:=I.loc
  refine⟨m,ns m hn,fun i x v e1 e2 e3=>?_⟩
  obtain⟨u,r,l⟩:=hl i x v e1 e2 e3
  refine⟨u,r,?_⟩
  rcases l with l | ⟨k,c,e,z⟩
  ·exact .inl l
  ·exact .inr ⟨k,c,e,cellK x c e _ z⟩
 ·obtain⟨v,z⟩:=I.cell x c e
  exact⟨v,cellK x c e v z⟩
 ·obtain⟨m,⟨o,_,_,ho,_⟩,_⟩:=I.loc
  exact free _ o (fun z=>(hch _ z).2.1 rfl) ho I.free
 ·obtain⟨v,o,ho,hd⟩:=I.cell x c e
  exact free c o (fun z=>(hch c z).2.2.1 x c e rfl) ho (I.freeC x c e)
 ·obtain⟨e,n,ne,nf,d⟩:=I.pin p hp
  have nch:p.1∉ch:=fun z=>(hch p.1 z).2.2.2 p hp rfl
  exact⟨keep p.1 p.2 ne nf nch e n,free p.1 p.2 nch e n,ne,nf,d⟩
theorem Inv.un {t':Nat} (I:Inv X pins σ H s) (u:Un X.fs [] H H' s.heap h') (hok:HOk X.prog X.w H' h'):Inv X pins σ H' { s with heap:=h',toks:=t' }:=by
 obtain⟨m,⟨o,es,ep,ho,r⟩,_⟩:=id I.loc
 obtain⟨sl,hL⟩:=u.any ho I.free (by simp)
 exact I.step (g':=s.gens) (d':=s.drawn) (ch:=[]) (fun _ z=>nomatch z) (fun b o _ hb _ e n=>u.keep b o e n hb (by simp)) (fun b o _ hb _ e n=>u.slot b o e n hb (by simp)) (fun b o _ e n=>u.free b o e n (by simp)) (fun b o _ e=>u.there b o e (by simp)) u.tups u.frzs u.tbls (fun m' hm=>by
  obtain⟨o',es',ep',ho',r'⟩:=hm
  rw[ho] at ho';cases ho'
  exact⟨_,es',ep',hL,r'⟩) hok I.bare
theorem Inv.call {t':Nat}{d':Drawn} (I:Inv X pins σ H s) (u:Un (frs X.stack) ch H H' s.heap h') (hok:HOk X.prog X.w H' h') (hg:AllBare g')
  (hch:∀ b∈ch,(b∈X.ex∨X.s₀.heap.objs.size<=b)/\b≠X.env.locals/\(∀ x c,X.env.cells.lookup x=some c->c≠b)/\∀ p∈X.pn++pins,p.1≠b) :
  Inv X pins σ H' { s with heap:=h',gens:=g',drawn:=d',toks:=t' }:=by
 obtain⟨m,⟨o,es,ep,ho,r⟩,_⟩:=id I.loc
 obtain⟨sl,hL⟩:=u.any ho I.free fun z=>(hch _ z).2.1 rfl
 exact I.step (ch:=ch) hch (fun b o hL hb hc e n=>u.keep b o e n (fun z=>(aD.mp (I.rK b z)).elim hL hb) hc) (fun b o _ _ hc e n=>u.any e n hc) (fun b o hc e n=>u.free b o e n hc) (fun b o hc e=>u.there b o e hc) u.tups u.frzs u.tbls (fun m' hm=>by
  obtain⟨o',es',ep',ho',r'⟩:=hm
  rw[ho] at ho';cases ho'
  exact⟨_,es',ep',hL,r'⟩) hok hg
theorem Inv.turned {t':Nat} (I:Inv X pins σ H s) (k:∀ b o,b≠it->s.heap.get? b=some o->h'.get? b=some o) (hn:H it=none) (hL:it≠X.env.locals)
  (h1:it∈X.ex∨X.s₀.heap.objs.size<=it) (h2:∀ x c,X.env.cells.lookup x=some c->c≠it) (h3:∀ p∈X.pn++pins,p.1≠it):Inv X pins σ H { s with heap:=h',toks:=t' }:=by
 have nit:∀ b u,H b=some u->b≠it:=fun b u e z=>by rw[z,hn] at e;cases e
 refine I.step (g':=s.gens) (d':=s.drawn) (ch:=[it]) (fun b hb=>?_) (fun b o _ _ hc e _=>k b o (fun z=>hc (by simp [z])) e) (fun b o _ _ hc e _=>⟨o.slots,k b o (fun z=>hc (by simp [z])) e⟩) (fun _ _ _ _ n=>n)
  (fun b o hc e=>⟨o,k b o (fun z=>hc (by simp [z])) e⟩) (fun _ _ e=>e) (fun _ _ _ e=>e) (fun b ps e=>⟨#[],by rw[e];simp⟩) (fun m hm=>?_) (fun b u e=>?_) I.bare
 ·have e:b=it:=by simpa using hb
  subst e
  exact⟨h1,hL,h2,h3⟩
 ·obtain⟨o,es,ep,ho,r⟩:=hm
  exact⟨o,es,ep,k _ o (Ne.symm hL) ho,r⟩
 ·refine (I.hok b u e).nh (fun c v hc q=>k c v ?_ q) (fun _ q=>q) fun _ _ q=>q
  rcases hc with z | z
  ·rw[z];exact nit b u e
  ·exact nit c _ z
theorem Inv.tok (I:Inv X pins σ H s) (t:Nat):Inv X pins σ H { s with toks:=t }:=I.un (h':=s.heap) (t':=t) Un.refl I.hok
theorem Inv.kept {t':Nat} (I:Inv X pins σ H s) (k:∀ b u,s.heap.get? b=some u->h'.get? b=some u):Inv X pins σ H { s with heap:=h',toks:=t' }:=I.un (Un.kept k) (I.hok.kept k)
theorem Inv.laid {a:Addr}{o:HO}{t':Nat} (I:Inv X pins σ H s) (k:∀ b u,s.heap.get? b=some u->h'.get? b=some u) (hp:s.heap.objs.size<=a) (new:bH X.prog X.w (upd H a o) h' a o) :
  Inv X pins σ (upd H a o) { s with heap:=h',toks:=t' }:=I.un (Un.laid k hp (I.hok.fresh hp)) (I.hok.laid k hp new)
theorem Inv.write {x e:Addr}{o:HO}{t':Nat} (I:Inv X pins σ H s) (mu:Mut (H x)) (he:e=x∨H e=some (.own x)) (k:∀ b u,b≠e->s.heap.get? b=some u->h'.get? b=some u) (heo:∃ u,h'.get? e=some u)
  (new:bH X.prog X.w (upd H x o) h' x o):Inv X pins σ (upd H x o) { s with heap:=h',toks:=t' }:=I.un (Un.write mu he k heo) (I.hok.write mu he k heo new)
theorem Inv.yE {pins':List (Addr×Obj)} (I:Inv X pins σ H s) (h:∀ p∈pins',s.heap.get? p.1=some p.2/\H p.1=none/\p.1≠X.env.locals/\p.1∉X.fs/\∀ v,p.2.data≠.cell v):Inv X pins' σ H s :=
 ⟨I.ok,I.os,I.bare,I.base,I.loc,I.cell,I.free,I.freeC,fun p hp=>(bL.mp hp).elim (fun z=>I.pin p (oa _ z)) (h p),I.hok,I.len⟩

theorem qV {N:List Str} (hN:N.Nodup) {i j:Nat} (a:N[i]?=some x) (b:N[j]?=some x):i=j:=by
 obtain⟨h1,e1⟩:=bK.mp a
 obtain⟨h2,e2⟩:=bK.mp b
 exact (List.getElem_inj hN).mp (e1.trans e2.symm)

theorem sX {M:Model}{A:Around}{E:Value->Shared->Prop}{v:V}{Q:Unit->Shared->Prop} (I:Inv X pins σ H s) (hN:X.N.Nodup) (hi:X.N[i]?=some x) (hx:Loc X.env.scope x) (r:RelV v u)
  (h:∀ s',Inv X pins (σ.set i (some v)) H s'->(∃ a,Heap.SameBut a s.heap s'.heap/\(a=X.env.locals∨X.env.cells.lookup x=some a))->Q () s') (hf:X.fn x=true∨X.env.scope.names.lookup x=some .local:=by first | exact .inl rfl | exact .inr rfl | assumption):wpAny M A (storeName X.env x u) Q E s:=by
 obtain⟨m,hn,hl⟩:=id I.loc
 have hcls:(X.env.scope.kind==.class||(X.env.scope.kind==.module&&X.env.locals != X.env.globals))=false:=by rw[I.ok.kind];rfl
 have hiσ:i<σ.length:=by rw[I.len];exact (bK.mp hi).1
 have cne:=I.cne
 have tracked:∀ {a:Addr}{h':Heap},(∃ o,s.heap.get? a=some o/\H a=none)->Heap.SameBut a s.heap h'->HOk X.prog X.w H h':=fun {a h'} ha hs b ob e=>by
  obtain⟨_,_,hfree⟩:=ha
  refine (I.hok b ob e).nh (fun c w' hc q=>(hs.2 c ?_).trans q) (fun _ q=>q) fun _ _ q=>q
  rintro rfl
  rcases hc with rfl | hc
  ·rw[hfree] at e;cases e
  ·rw[hfree] at hc;cases hc
 rcases hx with hk | hk
 ·refine wpAny_storeName_local hk hn (fun h' hn' hs=>?_) hcls
  obtain⟨oL,_,_,hoL,_⟩:=id hn
  refine h _ ⟨I.ok,I.os,I.bare,⟨fun b o e n hb hx=>?_,fun b o e n hb hx=>?_,I.base.free,fun b o e hx=>?_,I.base.tups,I.base.frzs,I.base.tbls⟩,⟨_,hn',fun j y v' e1 e2 e3=>?_⟩,fun y c e=>?_,I.free,I.freeC,fun p hp=>?_,tracked ⟨oL,hoL,I.free⟩ hs,by simpa using I.len⟩ ⟨_,hs,.inl rfl⟩
  ·exact (hs.2 b (bf (bB (aF e) I.ok.above))).trans (I.base.keep b o e n hb hx)
  ·obtain⟨sl,e1⟩:=I.base.slot b o e n hb hx
   exact⟨sl,(hs.2 b (bf (bB (aF e) I.ok.above))).trans e1⟩
  ·obtain⟨o',e1⟩:=I.base.there b o e hx
   exact⟨o',(hs.2 b (bf (bB (aF e) I.ok.above))).trans e1⟩
  ·by_cases hj:j=i
   ·subst hj
    rw[hi] at e1;cases e1
    rw[nY hiσ] at e2
    cases e2
    exact⟨u,r,.inl ⟨hk,by simp⟩⟩
   ·rw[nX (Ne.symm hj)] at e2
    obtain⟨u',r',q⟩:=hl j y v' e1 e2 e3
    refine⟨u',r',?_⟩
    rcases q with ⟨k,e⟩ | ⟨k,c,e,z⟩
    ·refine .inl ⟨k,?_⟩
     have:y≠x:=fun e=>hj (qV hN e1 (e ▸ hi))
     simp [this,e]
    ·exact .inr ⟨k,c,e,z.sameBut hs (cne y c e)⟩
  ·obtain⟨w',z⟩:=I.cell y c e
   exact⟨w',z.sameBut hs (cne y c e)⟩
  ·obtain⟨e,n,ne,nf,d⟩:=I.pin p hp
   exact⟨(hs.2 p.1 ne).trans e,n,ne,nf,d⟩
 ·have hfn:X.fn x=true:=by
   rcases hf with z | z
   ·exact z
   ·rw[z] at hk;cases hk
  obtain⟨c,hc⟩:=I.ok.has x (.inl hk)
  obtain⟨w',z⟩:=I.cell x c hc
  refine wpAny_storeName_cell I.ok.kind hk hc z (fun h' hc' hs=>?_)
  obtain⟨oc,hoc,hocd⟩:=id z
  refine h { s with heap:=h' } ⟨I.ok,I.os,I.bare,⟨fun b o e n hb hx=>?_,fun b o e n hb hx=>?_,I.base.free,fun b o e hx=>?_,I.base.tups,I.base.frzs,I.base.tbls⟩,⟨m,hn.sameBut hs (Ne.symm (cne x c hc)),fun j y v' e1 e2 e3=>?_⟩,fun y c' e=>?_,I.free,I.freeC,fun p hp=>?_,tracked ⟨oc,hoc,I.freeC x c hc⟩ hs,by simpa using I.len⟩ ⟨c,hs,.inr hc⟩
  ·exact (hs.2 b (bf (bB (aF e) (I.ok.cab x c hfn hc)))).trans (I.base.keep b o e n hb hx)
  ·obtain⟨sl,e1⟩:=I.base.slot b o e n hb hx
   exact⟨sl,(hs.2 b (bf (bB (aF e) (I.ok.cab x c hfn hc)))).trans e1⟩
  ·obtain⟨o',e1⟩:=I.base.there b o e hx
   exact⟨o',(hs.2 b (bf (bB (aF e) (I.ok.cab x c hfn hc)))).trans e1⟩
  ·by_cases hj:j=i
   ·subst hj
    rw[hi] at e1;cases e1
    rw[nY hiσ] at e2
    cases e2
    exact⟨u,r,.inr ⟨.inl hk,c,hc,hc'⟩⟩
   ·rw[nX (Ne.symm hj)] at e2
    obtain⟨u',r',q⟩:=hl j y v' e1 e2 e3
    refine⟨u',r',?_⟩
    rcases q with q | ⟨k,c',e,z'⟩
    ·exact .inl q
    ·refine .inr ⟨k,c',e,z'.sameBut hs ?_⟩
     rintro rfl
     exact hj (qV hN e1 (I.ok.inj _ _ _ e hc ▸ hi))
  ·by_cases hcc:c'=c
   ·subst hcc;exact⟨_,hc'⟩
   ·obtain⟨w2,z2⟩:=I.cell y c' e
    exact⟨w2,z2.sameBut hs hcc⟩
  ·obtain⟨e,n,ne,nf,d⟩:=I.pin p hp
   refine⟨(hs.2 p.1 ?_).trans e,n,ne,nf,d⟩
   intro q
   rw[q,hoc] at e
   have q':oc=p.2:=Option.some.inj e
   exact d w' (by rw[←q'];exact hocd)
theorem i7 {M:Model}{A:Around}{E:Value->Shared->Prop}{v:V}{Q:Unit->Shared->Prop} (I:Inv X pins σ H s) (hN:X.N.Nodup) (hi:X.N[i]?=some x) (hx:Loc X.env.scope x) (r:RelV v u)
  (h:∀ s',Inv X pins (σ.set i (some v)) H s'->Q () s') (hf:X.fn x=true∨X.env.scope.names.lookup x=some .local:=by first | exact .inl rfl | exact .inr rfl | assumption):wpAny M A (storeName X.env x u) Q E s :=
 sX I hN hi hx r (fun s' I' _=>h s' I') hf
theorem Inv.qw {s':Shared} (I:Inv X pins σ H s) (ho:s'.os=s.os) (u:Un (frs X.stack) ch H H' s.heap s'.heap) (hok:HOk X.prog X.w H' s'.heap) (hg:AllBare s'.gens)
  (hch:∀ b∈ch,(b∈X.ex∨X.s₀.heap.objs.size<=b)/\b≠X.env.locals/\(∀ x c,X.env.cells.lookup x=some c->c≠b)/\∀ p∈X.pn++pins,p.1≠b):Inv X pins σ H' s':=by
 obtain⟨h',g',d',t',o'⟩:=s'
 have e:o'=s.os:=ho
 subst e
 exact I.call (g':=g') (t':=t') (d':=d') u hok hg hch
end

abbrev XK:=Value->Option Addr->Hp->Prop
abbrev St:=List (Option V)
abbrev VK:=V->Hp->Prop
abbrev TE:=St->Hp->VK->Prop
abbrev TT:=St->Hp->(Bool->Hp->Prop)->Prop
abbrev TA:=St->Hp->(List V->Hp->Prop)->Prop
structure Ends where
 nx:St->Hp->Prop
 rt:VK
 bk:St->Hp->Prop:=fun _ _=>False
 ct:St->Hp->Prop:=fun _ _=>False
abbrev TS:=Ends->St->Hp->Prop

inductive EP (X:Cx) (pins:List (Addr×Obj)) (σ:St) (Q:VK) (u:Value) (s':Shared):Prop
 | mk (v:V) (H':Hp) (i:Inv X pins σ H' s') (r:RelV v u) (q:Q v H'):EP X pins σ Q u s'
inductive TP (X:Cx) (pins:List (Addr×Obj)) (σ:St) (Q:Bool->Hp->Prop) (b:Bool) (s':Shared):Prop
 | mk (H':Hp) (i:Inv X pins σ H' s') (q:Q b H'):TP X pins σ Q b s'
inductive AP (X:Cx) (pins:List (Addr×Obj)) (σ:St) (Q:List V->Hp->Prop) (us:List Value) (s':Shared):Prop
 | mk (vs:List V) (H':Hp) (i:Inv X pins σ H' s') (r:Vals vs us) (q:Q vs H'):AP X pins σ Q us s'
def SP (X:Cx) (pins:List (Addr×Obj)) (D:Ends) (f:Flow) (s':Shared):Prop :=
 match f with
 | .next=>∃ σ' H',Inv X pins σ' H' s'/\D.nx σ' H'
 | .brk=>∃ σ' H',Inv X pins σ' H' s'/\D.bk σ' H'
 | .cont=>∃ σ' H',Inv X pins σ' H' s'/\D.ct σ' H'
 | .ret u=>∃ v σ' H',Inv X pins σ' H' s'/\RelV v u/\D.rt v H'

def PE (X:Cx) (e:Expr) (t:TE):Prop :=
 ∀ (pins:List (Addr×Obj)) (s:Shared) (σ:St) (H:Hp) (Q:VK),Inv X pins σ H s->t σ H Q->wpAny (model X.prog X.w) X.A (eval e X.env) (EP X pins σ Q) X.xe s
def PT (X:Cx) (e:Expr) (t:TT):Prop :=
 ∀ (pins:List (Addr×Obj)) (s:Shared) (σ:St) (H:Hp) (Q:Bool->Hp->Prop),Inv X pins σ H s->t σ H Q->wpAny (model X.prog X.w) X.A (isTrue e X.env (eval e X.env)) (TP X pins σ Q) X.xe s
def PW (X:Cx) (e:Expr) (t:TT):Prop :=
 ∀ (whole:Sem Value) (pins:List (Addr×Obj)) (s:Shared) (σ:St) (H:Hp) (Q:Bool->Hp->Prop),Inv X pins σ H s->t σ H Q->wpAny (model X.prog X.w) X.A (isTrue e X.env whole) (TP X pins σ Q) X.xe s
theorem PW.pt {X:Cx}{t:TT} (h:PW X e t):PT X e t:=h _
def PA (X:Cx) (es:List Expr) (t:TA):Prop :=
 ∀ (pos:Pos) (pins:List (Addr×Obj)) (s:Shared) (σ:St) (H:Hp) (Q:List V->Hp->Prop),Inv X pins σ H s->t σ H Q->wpAny (model X.prog X.w) X.A (spliced (backTo pos (starEach es X.env))) (AP X pins σ Q) X.xe s
def PS (X:Cx) (st:Stmt) (t:TS):Prop :=
 ∀ (pins:List (Addr×Obj)) (s:Shared) (σ:St) (H:Hp) (D:Ends),Inv X pins σ H s->t D σ H->wpAny (model X.prog X.w) X.A (exec st X.env) (SP X pins D) X.xe s
def PSs (X:Cx) (st:List Stmt) (t:TS):Prop :=
 ∀ (pins:List (Addr×Obj)) (s:Shared) (σ:St) (H:Hp) (D:Ends),Inv X pins σ H s->t D σ H->wpAny (model X.prog X.w) X.A (execs st X.env) (SP X pins D) X.xe s
theorem thn {α:Type}{t:Sem α}{Q Q':α->Shared->Prop} (h:wpAny M A t Q E s) (hQ:∀ a s,Q a s->Q' a s):wpAny M A t Q' E s:=bg h hQ fun _ _ x=>x
end
section
section
variable {X:Cx}

def Aq (i:Nat):TE:=fun σ H Q=>∃ v,σ[i]?=some (some v)/\Q v H
def tC (v:V):TE:=fun _ H Q=>Q v H
theorem ux (hN:X.N[i]?=some x) (hv:Vis X.env.scope x) (hd:(x==("__debug__":Str))=false:=by decide) (hcd:(x==("__classdict__":Str))=false:=by decide):PE X (.Name x pos) (Aq i):=by
 intro pins s σ H Q I h
 obtain⟨v,e,h⟩:=h
 obtain⟨m,hn,hl⟩:=I.loc
 obtain⟨u,r,l⟩:=hl i x v hN e hv
 have fin:EP X pins σ Q u s:=⟨v,H,I,r,h⟩
 rcases l with ⟨hk,hm⟩ | ⟨hk,c,hc,hcell⟩
 ·exact wpAny_Name (wpAny_loadName_local I.ok.kind hk hn hm fin) hd
 ·rcases hk with hk | hk
  ·exact wpAny_Name (wpAny_loadName_cell I.ok.kind hk hc hcell fin) hd
  ·exact wpAny_Name (wpAny_loadName_free I.ok.kind hk hc hcell fin hcd) hd
theorem ag {i j pos}:PE X (.Constant (.int i) j pos) (tC (.int i)):=fun _ _ _ H _ I h=>wpAny_Constant_int ⟨.int i,H,I.tok _,⟨_,rfl⟩,h⟩
theorem e8 {b j pos}:PE X (.Constant (.bool b) j pos) (tC (.bl b)):=fun _ _ _ H _ I h=>Constant_bool ⟨.bl b,H,I,rfl,h⟩
theorem cK {j pos}:PE X (.Constant .none j pos) (tC .non):=fun _ _ _ H _ I h=>Constant_none ⟨.non,H,I,rfl,h⟩
theorem av {x j pos}:PE X (.Constant (.str x) j pos) (tC (.str x)):=fun _ _ _ H _ I h=>Calls.Constant_str ⟨.str x,H,I.tok _,⟨_,rfl⟩,h⟩

def Gl (X:Cx) (x:Str):Prop:=X.env.kindOf x=some .globalImplicit
theorem lZ {E:Value->Shared->Prop}{σ:St}{H:Hp}{pos:Pos} (I:Inv X pins σ H s) (hg:Gl X x) (hm:X.mg x=some u) (h:Q u s)
  (hd:(x==("__debug__":Str))=false:=by decide):wpAny (model X.prog X.w) X.A (eval (.Name x pos) X.env) Q E s :=
 Calls.Name_function_global I.ok.kind hg (Calls.loadGlobal_global (by rw[I.ok.glob];exact I.mod.glob.keeps I.bk) hm h) hd
theorem oO {E:Value->Shared->Prop}{σ:St}{H:Hp}{pos:Pos} (I:Inv X pins σ H s) (hg:Gl X x) (hm:X.mg x=none) (hv:bootBuiltins x=some u) (h:Q u s)
  (hn:x≠"__name__":=by decide) (hd:(x==("__debug__":Str))=false:=by decide):wpAny (model X.prog X.w) X.A (eval (.Name x pos) X.env) Q E s:=by
 obtain⟨mb,h1,h2⟩:=I.mod.blt
 exact Calls.Name_function_global I.ok.kind hg (Calls.loadGlobal_builtin (by rw[I.ok.glob];exact I.mod.glob.keeps I.bk) hm (by rw[I.ok.blt];exact h1.keeps I.bk) ((h2 x hn).trans hv) h) hd
theorem yA {v:V} (hg:Gl X x) (hm:X.mg x=some u) (r:RelV v u) (hd:(x==("__debug__":Str))=false:=by decide):PE X (.Name x pos) (tC v) :=
 fun _ _ _ H _ I h=>lZ I hg hm ⟨v,H,I,r,h⟩ hd
theorem Ez {v:V} (hg:Gl X x) (hm:X.mg x=none) (hv:bootBuiltins x=some u) (r:RelV v u) (hn:x≠"__name__":=by decide) (hd:(x==("__debug__":Str))=false:=by decide):PE X (.Name x pos) (tC v) :=
 fun _ _ _ H _ I h=>oO I hg hm hv ⟨v,H,I,r,h⟩ hn hd

variable {a b:Expr}{ta tb:TE}{pos:Pos}
def tB (t:TE):TT:=fun σ H Q=>t σ H fun x H1=>∃ c,x=.bl c/\Q c H1
theorem bW {t:TE} (h:PE X e t) (he:∀ whole,isTrue e X.env whole=(do let v ←whole;standAt e.pos;holding [v] (truthy v)):=by intro _;rfl):PT X e (tB t):=by
 intro pins s σ H Q I hw
 refine isTrue_plain (thn (h pins s σ H _ I hw) fun v s1 ⟨x,H1,I1,r1,q1⟩=>?_) (he _)
 obtain⟨d,rfl,q⟩:=q1
 cases r1
 exact fW ⟨H1,I1,q⟩

variable {tA tB':TT}{rest:List Expr}
def IT (t u:TT):TT:=fun σ H Q=>t σ H fun c H1=>if c=true then u σ H1 Q else Q false H1
def tOr (t u:TT):TT:=fun σ H Q=>t σ H fun c H1=>if c=true then Q true H1 else u σ H1 Q
def IW (t:TT):TT:=fun σ H Q=>t σ H fun c H1=>Q (!c) H1
theorem kg (ha:PT X a tA):PW X (.BoolOp .And [a] pos) tA:=by
 intro wh pins s σ H Q I h
 refine isTrue_and (thn (ha pins s σ H Q I h) fun c s1 e=>?_)
 cases c with
 | true=>exact isTrue_and_nil e
 | false=>exact e
theorem kh (ha:PT X a tA):PW X (.BoolOp .Or [a] pos) tA:=by
 intro wh pins s σ H Q I h
 refine isTrue_or (thn (ha pins s σ H Q I h) fun c s1 e=>?_)
 cases c with
 | false=>exact isTrue_or_nil e
 | true=>exact e
theorem mP (ha:PT X a tA) (hb:PW X (.BoolOp .And (b::rest) pos) tB'):PW X (.BoolOp .And (a::b::rest) pos) (IT tA tB'):=by
 intro wh pins s σ H Q I h
 refine isTrue_and (thn (ha pins s σ H _ I h) fun c s1 ⟨H1,I1,q1⟩=>?_)
 cases c with
 | true=>exact hb wh pins s1 σ H1 Q I1 q1
 | false=>exact⟨H1,I1,q1⟩
theorem my (ha:PT X a tA) (hb:PW X (.BoolOp .Or (b::rest) pos) tB'):PW X (.BoolOp .Or (a::b::rest) pos) (tOr tA tB'):=by
 intro wh pins s σ H Q I h
 refine isTrue_or (thn (ha pins s σ H _ I h) fun c s1 ⟨H1,I1,q1⟩=>?_)
 cases c with
 | true=>exact⟨H1,I1,q1⟩
 | false=>exact hb wh pins s1 σ H1 Q I1 q1
theorem cL (ha:PT X a tA):PT X (.UnaryOp .Not a pos) (IW tA):=by
 intro pins s σ H Q I h
 exact isTrue_not (thn (ha pins s σ H (fun c H1=>Q (!c) H1) I h) fun c s1 ⟨H1,I1,q1⟩=>⟨H1,I1,q1⟩)
def F9 (ta tb:TE):TE:=fun σ H Q=>ta σ H fun x H1=>∃ c,x=.bl c/\if c=true then tb σ H1 Q else Q (.bl false) H1
def IY (ta tb:TE):TE:=fun σ H Q=>ta σ H fun x H1=>∃ c,x=.bl c/\if c=true then Q (.bl true) H1 else tb σ H1 Q
def FG (ta:TE):TE:=fun σ H Q=>ta σ H fun x H1=>∃ c,x=.bl c/\Q (.bl (!c)) H1
theorem kS {op}{t:TE} (h:PE X a t):PE X (.BoolOp op [a] pos) t:=fun pins s σ H Q I hw=>BoolOp_one (h pins s σ H Q I hw)
theorem mL (ha:PE X a ta) (hb:PE X (.BoolOp .And (b::rest) pos) tb):PE X (.BoolOp .And (a::b::rest) pos) (F9 ta tb):=by
 intro pins s σ H Q I h
 refine BoolOp_and (thn (ha pins s σ H _ I h) fun v s1 ⟨x,H1,I1,r1,q1⟩=>?_)
 obtain⟨c,rfl,q1⟩:=q1
 cases r1
 refine fW ?_
 cases c with
 | true=>exact hb pins s1 σ H1 Q I1 q1
 | false=>exact⟨.bl false,H1,I1,rfl,q1⟩
theorem Cp (ha:PE X a ta) (hb:PE X (.BoolOp .Or (b::rest) pos) tb):PE X (.BoolOp .Or (a::b::rest) pos) (IY ta tb):=by
 intro pins s σ H Q I h
 refine BoolOp_or (thn (ha pins s σ H _ I h) fun v s1 ⟨x,H1,I1,r1,q1⟩=>?_)
 obtain⟨c,rfl,q1⟩:=q1
 cases r1
 refine fW ?_
 cases c with
 | false=>exact hb pins s1 σ H1 Q I1 q1
 | true=>exact⟨.bl true,H1,I1,rfl,q1⟩
theorem Hw (ha:PE X a ta):PE X (.UnaryOp .Not a pos) (FG ta):=by
 intro pins s σ H Q I h
 refine UnaryOp_ (thn (ha pins s σ H _ I h) fun v s1 ⟨x,H1,I1,r1,q1⟩=>?_)
 obtain⟨c,rfl,q1⟩:=q1
 cases r1
 exact not_of (fW ⟨.bl (!c),H1,I1,rfl,q1⟩)
def tIf (t:TT) (ta tb:TE):TE:=fun σ H Q=>t σ H fun c H1=>if c=true then ta σ H1 Q else tb σ H1 Q
theorem nB (hc:PT X c tA) (ha:PE X a ta) (hb:PE X b tb):PE X (.IfExp c a b pos) (tIf tA ta tb):=by
 intro pins s σ H Q I h
 refine wpAny_IfExp (thn (hc pins s σ H _ I h) fun d s1 ⟨H1,I1,q1⟩=>?_)
 cases d with
 | true=>exact ha pins s1 σ H1 Q I1 q1
 | false=>exact hb pins s1 σ H1 Q I1 q1
end
end
section

def SqL (K:PySem.W.Frag) (H:Hp) (a:Addr) (xs:List V):Prop :=
 Rd H a (.lst xs) ∨
  ∃ (o:Obj) (its:Array Value) (n:Nat),K.lookup a=some o/\o.cls=.type "list"/\o.dict=none/\o.data=.seq its n/\its.size<=sizeLine/\Vals xs its.toList
def SqT (K:PySem.W.Frag) (H:Hp) (a:Addr) (xs:List V):Prop :=
 Rd H a (.tup xs) ∨
  ∃ (o:Obj) (its:Array Value) (n:Nat),K.lookup a=some o/\o.cls=.type "tuple"/\o.data=.seq its n/\its.size<=sizeLine/\Vals xs its.toList
def Jr:Value->Option V
 | .none=>some .non
 | .bool b=>some (.bl b)
 | .int i _=>some (.int i)
 | .str x _=>some (.str x)
 | .bytes b _=>some (.byt b)
 | .float b _=>some (.flt b)
 | .ref a=>some (.ref a)
 | .type n=>some (.ty n)
 | _=>none
theorem RelV.abs {x:V} (r:RelV x u):Jr u=some x:=by
 cases x with
 | non=>cases r;rfl
 | bl _=>cases r;rfl
 | int _=>obtain⟨t,rfl⟩:=r;rfl
 | str _=>obtain⟨t,rfl⟩:=r;rfl
 | byt _=>obtain⟨t,rfl⟩:=r;rfl
 | flt _=>obtain⟨t,rfl⟩:=r;rfl
 | ref _=>cases r;rfl
 | ty _=>cases r;rfl
theorem RelV.inj {x y:V}{u:Value} (r:RelV x u) (q:RelV y u):x=y:=Option.some.inj (r.abs.symm.trans q.abs)
theorem Vals.inj:∀ {xs ys:List V}{us:List Value},Vals xs us->Vals ys us->xs=ys
 | _,_,_,.nil,.nil=>rfl
 | _,_,_,.cons r t,.cons r' t'=>by rw[r.inj r',Vals.inj t t']
section
variable {X:Cx}{pins:List (Addr×Obj)}{σ:St}{H:Hp}{s:Shared}{a:Addr}{xs ys:List V}
theorem SqL.of (h:H a=some (.lst xs)):SqL K H a xs:=.inl (.inl h)
theorem SqT.of (h:H a=some (.tup xs)):SqT K H a xs:=.inl (.inl h)
theorem Inv.list (I:Inv X pins σ H s) (h:SqL X.K H a xs):∃ its:List Value,Vals xs its/\PlainL s.heap a its.toArray/\xs.length<=sizeLine:=by
 rcases h with h | ⟨o,its,n,hk,hc,hd,hs,hz,r⟩
 ·obtain⟨z,its,n,r,e⟩:=h.ok I.hok
  exact⟨its,r,⟨_,n,e,rfl,rfl,rfl⟩,z⟩
 ·refine⟨its.toList,r,⟨o,n,I.kIn a o hk,hc,hd,by simpa using hs⟩,?_⟩
  have e:=r.length
  simp only[ib] at e
  omega
theorem Inv.tuple (I:Inv X pins σ H s) (h:SqT X.K H a xs):∃ its:List Value,Vals xs its/\IsTup s.heap a its.toArray/\xs.length<=sizeLine:=by
 rcases h with h | ⟨o,its,n,hk,hc,hs,hz,r⟩
 ·obtain⟨z,its,r,p⟩:=h.ok I.hok
  exact⟨its,r,p,z⟩
 ·refine⟨its.toList,r,⟨o,I.kIn a o hk,hc,n,by simpa using hs⟩,?_⟩
  have e:=r.length
  simp only[ib] at e
  omega
theorem Inv.qQ (I:Inv X pins σ H s) (h:SqL X.K H a xs) (h':SqL X.K H a ys):xs=ys:=by
 obtain⟨its,r,⟨o,n,e,_,_,d⟩,_⟩:=I.list h
 obtain⟨its',r',⟨o',n',e',_,_,d'⟩,_⟩:=I.list h'
 rw[e] at e';cases e'
 rw[d] at d'
 injection d' with d1 _
 have:its=its':=by simpa using bu Array.toList d1
 subst this
 exact r.inj r'
theorem Inv.As (I:Inv X pins σ H s) (h:SqT X.K H a xs) (h':SqT X.K H a ys):xs=ys:=by
 obtain⟨its,r,⟨o,e,_,n,d⟩,_⟩:=I.tuple h
 obtain⟨its',r',⟨o',e',_,n',d'⟩,_⟩:=I.tuple h'
 rw[e] at e';cases e'
 rw[d] at d'
 injection d' with d1 _
 have:its=its':=by simpa using bu Array.toList d1
 subst this
 exact r.inj r'
end

abbrev Cx.pU (X:Cx) (E:Value->Shared->Prop):Cx:={ X with xe:=E }
abbrev Cx.nox (X:Cx):Cx:=X.pU fun _ _=>False
theorem Cx.Ok.pU {X:Cx} (ok:X.Ok) (E:Value->Shared->Prop):(X.pU E).Ok :=
 ⟨ok.mod,ok.kind,ok.glob,ok.blt,ok.above,ok.inj,ok.has,ok.cab,ok.hd,ok.frames,ok.stk,ok.exf,ok.bs,ok.bsz,ok.noex,ok.exfs,ok.kJ,ok.frf⟩
theorem Cx.Ok.jr {X:Cx} (ok:(X.pU E).Ok):X.Ok :=
 ⟨ok.mod,ok.kind,ok.glob,ok.blt,ok.above,ok.inj,ok.has,ok.cab,ok.hd,ok.frames,ok.stk,ok.exf,ok.bs,ok.bsz,ok.noex,ok.exfs,ok.kJ,ok.frf⟩
section
variable {X:Cx}{pins:List (Addr×Obj)}{σ:St}{H:Hp}{s:Shared}{E:Value->Shared->Prop}
theorem Inv.pU (I:Inv X pins σ H s) (E:Value->Shared->Prop):Inv (X.pU E) pins σ H s:=⟨I.ok.pU E,I.os,I.bare,I.base,I.loc,I.cell,I.free,I.freeC,I.pin,I.hok,I.len⟩
theorem Inv.jr (I:Inv (X.pU E) pins σ H s):Inv X pins σ H s:=⟨I.ok.jr,I.os,I.bare,I.base,I.loc,I.cell,I.free,I.freeC,I.pin,I.hok,I.len⟩
theorem SP.jr {D:Ends}{f:Flow}{s':Shared} (h:SP (X.pU E) pins D f s'):SP X pins D f s':=by
 cases f with
 | next=>obtain⟨σ',H',I,q⟩:=h;exact⟨σ',H',I.jr,q⟩
 | brk=>obtain⟨σ',H',I,q⟩:=h;exact⟨σ',H',I.jr,q⟩
 | cont=>obtain⟨σ',H',I,q⟩:=h;exact⟨σ',H',I.jr,q⟩
 | ret u=>obtain⟨v,σ',H',I,r,q⟩:=h;exact⟨v,σ',H',I.jr,r,q⟩
theorem PE.nox {e:Expr}{t:TE} (h:PE X.nox e t):PE X e t:=fun pins s σ H Q I hw =>
 bg (h pins s σ H Q (I.pU _) hw) (fun _ _ ⟨v,H',I',r,q⟩=>⟨v,H',I'.jr,r,q⟩) fun _ _ z=>False.elim z
theorem PT.nox {e:Expr}{t:TT} (h:PT X.nox e t):PT X e t:=fun pins s σ H Q I hw =>
 bg (h pins s σ H Q (I.pU _) hw) (fun _ _ ⟨H',I',q⟩=>⟨H',I'.jr,q⟩) fun _ _ z=>False.elim z
theorem PSs.nox {st:List Stmt}{t:TS} (h:PSs X.nox st t):PSs X st t:=fun pins s σ H D I hw =>
 bg (h pins s σ H D (I.pU _) hw) (fun _ _ q=>q.jr) fun _ _ z=>False.elim z
end

section
variable {X:Cx}{st:Stmt}{rest:List Stmt}{t u:TS}{e:Expr}{te:TE}{pos:Pos}
def FF:TS:=fun D σ H=>D.nx σ H
def Fc (t u:TS):TS:=fun D σ H=>t { D with nx:=u D } σ H
theorem aI:PSs X [] FF:=fun _ _ σ H _ I h=>iI ⟨σ,H,I,h⟩
theorem af (h1:PS X st t) (h2:PSs X rest u):PSs X (st::rest) (Fc t u):=by
 intro pins s σ H D I h
 refine wpAny_execs_cons (thn (h1 pins s σ H { D with nx:=u D } I h) fun f s1 q=>?_)
 cases f with
 | next =>
  obtain⟨σ',H',I',q⟩:=q
  exact h2 pins s1 σ' H' D I' q
 | ret v=>exact q
 | brk=>exact q
 | cont=>exact q
theorem aj (h1:PS X st t):PSs X [st] t:=by
 intro pins s σ H D I h
 refine wpAny_execs_cons (thn (h1 pins s σ H D I h) fun f s1 q=>?_)
 cases f with
 | next=>exact iI q
 | ret v=>exact q
 | brk=>exact q
 | cont=>exact q
theorem Inv.quiet {σ:St}{H:Hp} (I:Inv X pins σ H s):interactive X.env=false:=by simp [interactive,I.ok.kind]
def FA (te:TE):TS:=fun D σ H=>te σ H fun _ H1=>D.nx σ H1
theorem cW (he:PE X e te) (hs:swapsWith e none pos.line X.env=pure false:=by rfl):PS X (.Expr e pos) (FA te):=by
 intro pins s σ H D I h
 exact wpAny_Expr_any (thn (he pins s σ H _ I h) fun v s1 ⟨x,H1,I1,r1,q1⟩=>⟨σ,H1,I1,q1⟩) I.quiet hs
def Ja (te:TE):TS:=fun D σ H=>te σ H D.rt
theorem aK (he:PE X e te):PS X (.Return (some e) pos) (Ja te):=by
 intro pins s σ H D I h
 exact wpAny_Return_some (thn (he pins s σ H _ I h) fun v s1 ⟨x,H1,I1,r1,q1⟩=>⟨x,σ,H1,I1,r1,q1⟩)
def IU (c:TT) (t u:TS):TS:=fun D σ H=>c σ H fun b H1=>if b=true then t D σ H1 else u D σ H1
theorem bq {a b:List Stmt}{tc:TT} (hc:PT X c tc) (ha:PSs X a t) (hb:PSs X b u):PS X (.If c a b pos) (IU tc t u):=by
 intro pins s σ H D I h
 refine wpAny_If (thn (hc pins s σ H _ I h) fun d s1 ⟨H1,I1,q1⟩=>?_)
 cases d with
 | true=>exact ha pins s1 σ H1 D I1 q1
 | false=>exact hb pins s1 σ H1 D I1 q1
end

abbrev TG:=V->St->Hp->(St->Hp->Prop)->Prop
abbrev TGs:=List V->St->Hp->(St->Hp->Prop)->Prop
def PG (X:Cx) (target:Expr) (t:TG):Prop :=
 ∀ (pins:List (Addr×Obj)) (s:Shared) (σ:St) (H:Hp) (v:V) (u:Value) (Q:St->Hp->Prop),Inv X pins σ H s->RelV v u->t v σ H Q →
  wpAny (model X.prog X.w) X.A (assign target X.env u) (fun _ s'=>∃ σ' H',Inv X pins σ' H' s'/\Q σ' H') X.xe s
def PGs (X:Cx) (ts:List Expr) (t:TGs):Prop :=
 ∀ (pins:List (Addr×Obj)) (s:Shared) (σ:St) (H:Hp) (vs:List V) (us:List Value) (Q:St->Hp->Prop),Inv X pins σ H s->Vals vs us->t vs σ H Q →
  wpAny (model X.prog X.w) X.A (assignInOrder ((assignEach ts X.env).map (·.2)) us) (fun _ s'=>∃ σ' H',Inv X pins σ' H' s'/\Q σ' H') X.xe s
abbrev Jq:=V->V->V->Hp->(Hp->Prop)->Prop
def Jo (X:Cx) (t:Jq):Prop :=
 ∀ (pins:List (Addr×Obj)) (s:Shared) (σ:St) (H:Hp) (o i v:V) (ov iv u:Value) (Q:Hp->Prop),Inv X pins σ H s->RelV o ov->RelV i iv->RelV v u->t o i v H Q →
  wpAny (model X.prog X.w) X.A (setItem ov iv u) (fun _ s'=>∃ H',Inv X pins σ H' s'/\Q H') X.xe s
section
variable {X:Cx}{pos:Pos}
def fZ (i:Nat):TG:=fun v σ H Q=>Q (σ.set i (some v)) H
theorem yC (hN:X.N.Nodup) (hi:X.N[i]?=some x) (hx:Loc X.env.scope x) (hf:X.fn x=true∨X.env.scope.names.lookup x=some .local:=by first | exact .inl rfl | exact .inr rfl | assumption):PG X (.Name x pos) (fZ i):=by
 intro pins s σ H v u Q I r h
 exact wpAny_assign_Name (i7 I hN hi hx r (fun s' I'=>⟨_,H,I',h⟩) hf)
def DW:TGs:=fun vs σ H Q=>vs=[]/\Q σ H
def sE (t:TG) (u:TGs):TGs:=fun vs σ H Q=>∃ v r,vs=v::r/\t v σ H fun σ' H'=>u r σ' H' Q
theorem fg:PGs X [] DW:=by
 intro pins s σ H vs us Q I r h
 obtain⟨e,h⟩:=h
 subst e
 cases r
 exact assignInOrder_nil ⟨σ,H,I,h⟩
theorem aT {t:TG}{u:TGs} (h1:PG X e t) (h2:PGs X es u)
  (hs:(assignEach (e::es) X.env).map (·.2)=assign e X.env::(assignEach es X.env).map (·.2):=by rfl):PGs X (e::es) (sE t u):=by
 intro pins s σ H vs us Q I r h
 obtain⟨v,vr,e1,h⟩:=h
 subst e1
 cases r with
 | cons r rr =>
  rw[hs]
  refine assignInOrder_cons (thn (h1 pins s σ H _ _ _ I r h) fun _ s1 ⟨σ1,H1,I1,q1⟩=>?_)
  exact h2 pins s1 σ1 H1 _ _ Q I1 rr q1
def DX (K:PySem.W.Frag) (n:Nat) (t:TGs):TG:=fun v σ H Q=>∃ a xs,v=.ref a/\SqT K H a xs/\xs.length=n/\t xs σ H Q
theorem Cq {k:Nat}{t:TGs}{n:Nat} (hc:X.calm=true) (h:PGs X es t)
  (hn:(assignEach es X.env).length=n:=by rfl) (hst:(assignEach es X.env).findIdx? (·.1)=none:=by rfl):PG X (.Tuple es k pos) (DX X.K n t):=by
 intro pins s σ H v u Q I r hw
 obtain⟨a,xs,e1,hq,hl,hw⟩:=hw
 subst e1
 cases r
 obtain⟨its,rv,ht,hz⟩:=I.tuple hq
 refine assign_Tuple_tuple (I.ok.hd hc) ht (by simp [hn,←hl,rv.length]) hst fun h' hx=>?_
 have I1:Inv X pins σ H { s with heap:=h' }:=I.kept (t':=s.toks) fun b o e=>hx b o (bf (aF e)) e
 exact h pins _ σ H xs _ Q I1 (by simpa using rv) hw
def Ap (te:TE) (g:TG):TS:=fun D σ H=>te σ H fun x H1=>g x σ H1 D.nx
theorem mO {tg e:Expr}{te:TE}{g:TG} (he:PE X e te) (hg:PG X tg g) (hs:swapsWithSole [tg] e pos.line X.env=pure false:=by rfl) (hw:swappedStores [tg] e X.env=pure none:=by rfl)
  (h1:(assignEach [tg] X.env).map (·.2)=[assign tg X.env]:=by rfl):PS X (.Assign [tg] e pos) (Ap te g):=by
 intro pins s σ H D I h
 refine wpAny_Assign_stores (thn (he pins s σ H _ I h) fun v s1 ⟨x,H1,I1,r1,q1⟩=>?_) hs hw
 rw[h1]
 exact thn (hg pins s1 σ H1 x v _ I1 r1 q1) fun _ s2 q=>q
theorem Cs {te:TE}{pos':Pos} (hN:X.N.Nodup) (hi:X.N[i]?=some x) (hx:Loc X.env.scope x) (he:PE X e te) (hs:swapsWith e (some (.Name x pos')) pos.line X.env=pure false:=by rfl) (hf:X.fn x=true∨X.env.scope.names.lookup x=some .local:=by first | exact .inl rfl | exact .inr rfl | assumption) :
  PS X (.Assign [.Name x pos'] e pos) (Ap te (fZ i)):=by
 intro pins s σ H D I h
 refine wpAny_Assign_Name (thn (he pins s σ H _ I h) fun v s1 ⟨y,H1,I1,r1,q1⟩=>?_) hs
 exact i7 I1 hN hi hx r1 (fun s2 I2=>⟨_,H1,I2,q1⟩) hf
def IZ (i j:Nat) (ta:TA):TS:=fun D σ H=>ta σ H fun vs H1=>∃ v w,vs=[v,w]/\D.nx ((σ.set i (some v)).set j (some w)) H1
theorem HB {i j:Nat}{x y:Str}{a b:Expr}{ta:TA}{px py pt:Pos}{kt k2 pt2} (hc:X.calm=true) (hN:X.N.Nodup) (hi:X.N[i]?=some x) (hj:X.N[j]?=some y) (hij:i≠j)
  (hx:X.env.scope.names.lookup x=some .local) (hy:X.env.scope.names.lookup y=some .local) (ha:PA X [a,b] ta)
  (hw:swappedStores [.Tuple [.Name x px,.Name y py] kt pt] (.Tuple [a,b] k2 pt2) X.env=pure (some [x,y]))
  (hs:swapsWithSole [.Tuple [.Name x px,.Name y py] kt pt] (.Tuple [a,b] k2 pt2) pos.line X.env=pure false:=by rfl) :
  PS X (.Assign [.Tuple [.Name x px,.Name y py] kt pt] (.Tuple [a,b] k2 pt2) pos) (IZ i j ta):=by
 intro pins s σ H D I h
 rw[exec_Assign_arm]
 refine ah (wpAny_standAt ?_)
 rw[hs]
 refine ah (ax ?_)
 rw[if_neg (by decide)]
 refine ah (Tuple_ (thn (ha _ pins s σ H _ I h) fun us s1 ⟨vs,H1,I1,r1,q1⟩=>?_))
 obtain⟨v,w,e1,q1⟩:=q1
 subst e1
 obtain⟨u1,u2,rfl,rv,rw'⟩:∃ u1 u2,us=[u1,u2]/\RelV v u1/\RelV w u2:=by
  cases r1 with
  | cons p q =>
   cases q with
   | cons p' q' =>
    cases q'
    exact⟨_,_,rfl,p,p'⟩
 refine gM ?_ (by show 2<=sizeLine;decide)
 have I2:Inv X pins σ H1 { s1 with heap:=s1.heap.push { cls:=.type "tuple",data:=.seq [u1,u2].toArray } }:=I1.kept (t':=s1.toks) fun b o e=>aH _ e
 rw[hw]
 refine ah (ax ?_)
 show wpAny (model X.prog X.w) X.A (do rule "assign.swapped-stores";let items ←unpackItems (.ref s1.heap.objs.size) 2 none;assignInOrder [fun v=>bindName X.env y v,fun v=>bindName X.env x v] items.reverse;pure Flow.next) _ _ _
 refine ah (wpAny_rule (ah (unpackItems_tuple (items:=#[u1,u2]) (I.ok.hd hc) (IsTup.new s1.heap _) fun h' hx'=>?_)))
 have I3:=I2.kept (h':=h') (t':=s1.toks) fun b o e=>hx' b o (bf (aF e)) e
 show wpAny _ _ (assignInOrder [fun v=>bindName X.env y v,fun v=>bindName X.env x v] [u2,u1] >>= fun _=>pure Flow.next) _ _ _
 refine ah (assignInOrder_cons (wpAny_bindName (i7 I3 hN hj (.inl hy) rw' (fun s2 I4=>?_) (.inr hy))))
 refine assignInOrder_cons (wpAny_bindName (i7 I4 hN hi (.inl hx) rv (fun s3 I5=>assignInOrder_nil (ax ?_)) (.inr hx)))
 rw[List.set_comm _ _ (Ne.symm hij)] at I5
 exact⟨_,H1,I5,q1⟩
end

section
variable {X:Cx}{pos:Pos}
def Dd (c:TT) (tb:TS):TS:=fun D σ H=>∃ W:Nat->St->Hp->Prop,(∃ m,W m σ H)/\∀ m σ H,W m σ H →
 c σ H fun b H1=>if b=true then ∃ N:St->Hp->Prop,(∀ σ' H',N σ' H'->∃ m',m'<m/\W m' σ' H')/\tb { D with nx:=N,ct:=N,bk:=D.nx } σ H1 else D.nx σ H1
theorem rz {tc:TT}{tb:TS} (hp:PassesOwn (model X.prog X.w) X.A X.env X.xe) (hc:PT X c tc) (hb:PSs X body tb):PS X (.While c body [] pos) (Dd tc tb):=by
 intro pins s σ H D I h
 obtain⟨W,⟨m0,w0⟩,turn⟩:=h
 refine wpAny_While (codeAny_whileLoop (fun n s'=>∃ σ' H',Inv X pins σ' H' s'/\W n σ' H') ?_ m0 ⟨σ,H,I,w0⟩)
 rintro n s1 ⟨σ1,H1,I1,w1⟩
 refine dR hp (thn (hc pins s1 σ1 H1 _ I1 (turn n σ1 H1 w1)) fun b s2 ⟨H2,I2,q2⟩=>?_)
 cases b with
 | true =>
  obtain⟨N,hN,q2⟩:=q2
  rw[if_pos rfl]
  refine dR hp (thn (hb pins s2 σ1 H2 _ I2 q2) fun f s3 q3=>?_)
  cases f with
  | next =>
   obtain⟨σ3,H3,I3,n3⟩:=q3
   obtain⟨m',hm,w3⟩:=hN σ3 H3 n3
   exact⟨m',hm,σ3,H3,I3,w3⟩
  | cont =>
   obtain⟨σ3,H3,I3,n3⟩:=q3
   obtain⟨m',hm,w3⟩:=hN σ3 H3 n3
   exact⟨m',hm,σ3,H3,I3,w3⟩
  | brk=>exact q3
  | ret v=>exact q3
 | false =>
  rw[if_neg bE]
  exact iI ⟨σ1,H2,I2,q2⟩
end

structure It where
 go:Nat->Hp->Prop
 yld:Nat->Hp->V->Hp->Prop
 stop:Nat->Hp->Prop
def jV (X:Cx) (pins:List (Addr×Obj)) (H:Hp) (b:Addr):Prop :=
 H b=none/\b≠X.env.locals/\b∉X.fs/\(b∈X.ex∨X.s₀.heap.objs.size<=b)/\(∀ x c,X.env.cells.lookup x=some c->c≠b)/\∀ p∈X.pn++pins,p.1≠b
theorem Inv.qI {X:Cx}{σ:St}{H H':Hp} (I:Inv X pins σ H s) (hb:s.heap.objs.size<=b) (hn:H' b=none):jV X pins H' b:=by
 refine⟨hn,Nat.ne_of_gt (bB I.lt hb),I.J0 hb,.inr (bA I.sz hb),fun x c e z=>?_,fun p hp z=>?_⟩
 ·obtain⟨v,q⟩:=I.cell x c e
  exact absurd (bB q.lt (by rw[z];exact hb)) (gJ _)
 ·exact absurd (bB (aF (I.pin p hp).1) (by rw[z];exact hb)) (gJ _)
structure Turn (P:Program) (w:World) (K:PySem.W.Frag) (tg:Expr) (J:It) (fp:List Addr) (it:Addr) (tn:Nat->Heap->Prop):Prop where
 mem:it∈fp
 obj:∀ i h,tn i h->∀ b∈fp,∃ o,h.get? b=some o/\∀ v,o.data≠.cell v
 keep:∀ i h h',tn i h->(∀ b∈fp,∀ o,h.get? b=some o->h'.get? b=some o)->tn i h'
 item:∀ (X:Cx),X.prog=P->X.w=w->X.K=K->X.calm=true->∀ (i:Nat) (pins:List (Addr×Obj)) (s:Shared) (σ:St) (H:Hp) (E:Value->Shared->Prop),Inv X pins σ H s->(∀ b∈fp,jV X pins H b)->tn i s.heap->J.go i H →
  wpAny (model P w) X.A (pyNext (.ref it)) (fun r s1=>∃ u,r=some u ∧
   wpAny (model P w) X.A (letOwnedTupleGo tg (.ref it) u) (fun _ s2=>∃ x H',Inv X pins σ H' s2/\RelV x u/\J.yld i H x H'/\tn (i+1) s2.heap/\∀ b∈fp,H' b=none) E s1) E s
 done:∀ (X:Cx),X.prog=P->X.w=w->X.K=K->X.calm=true->∀ (i:Nat) (pins:List (Addr×Obj)) (s:Shared) (σ:St) (H:Hp) (E:Value->Shared->Prop),Inv X pins σ H s->(∀ b∈fp,jV X pins H b)->tn i s.heap->J.stop i H →
  wpAny (model P w) X.A (pyNext (.ref it)) (fun r s1=>r=none/\Inv X pins σ H s1) E s
 self:∀ (A:Around) (i:Nat) (s:Shared) (Q:Value->Shared->Prop) (E:Value->Shared->Prop),tn i s.heap->Q (.ref it) s->wpAny (model P w) A (pyIter (.ref it)) Q E s
abbrev TI:=St->Hp->(It->Hp->Prop)->Prop
def PIE (X:Cx) (pins:List (Addr×Obj)) (σ:St) (tg:Expr) (R:It->Hp->Prop) (itv:Value) (s2:Shared):Prop :=
 ∃ (it:Addr) (fp:List Addr) (tn:Nat->Heap->Prop) (J:It) (H':Hp),itv=.ref it/\Inv X pins σ H' s2/\Turn X.prog X.w X.K tg J fp it tn/\tn 0 s2.heap/\(∀ b∈fp,jV X pins H' b)/\R J H'
def PI (X:Cx) (tg iter:Expr) (wi:TI):Prop :=
 ∀ (pins:List (Addr×Obj)) (s:Shared) (σ:St) (H:Hp) (R:It->Hp->Prop),Inv X pins σ H s->wi σ H R →
  wpAny (model X.prog X.w) X.A (eval iter X.env) (fun v s1=>wpAny (model X.prog X.w) X.A (pyIter v) (PIE X pins σ tg R) X.xe s1) X.xe s

theorem sG {M:Model}{A:Around}{E:Value->Shared->Prop}{tg:Expr}{u:Value}{n:String}{vs:Array Value}{Q:Unit->Shared->Prop} (ho:s.heap.get? it=some o) (hc:o.cls=.type n) (hd:o.data=.fields vs)
  (hn:["enumerate","zip","dict_itemiterator","dict_reverseitemiterator","odict_iterator","itertools.zip_longest","itertools.pairwise"].contains n=false) (hQ:Q () s):wpAny M A (letOwnedTupleGo tg (.ref it) u) Q E s:=by
 unfold letOwnedTupleGo
 cases tg<;>first
  | exact ax hQ
  | (cases u<;>first
    | exact ax hQ
    | (refine ah (wpAny_load ho ?_)
       rw[hc,hd]
       show wpAny M A (if (["enumerate","zip","dict_itemiterator","dict_reverseitemiterator","odict_iterator","itertools.zip_longest","itertools.pairwise"].contains n&&vs[0]?==some (rawInt _))=true then _ else _) Q E s
       rw[if_neg (by intro h;rw[hn,kq] at h;cases h)]
       exact ax hQ))

def Itl (K:PySem.W.Frag) (a:Addr):It :=
 ⟨fun i H=>∃ xs x,SqL K H a xs/\xs[i]?=some x,fun i H x H'=>H'=H/\∀ xs,SqL K H a xs->xs[i]?=some x,fun i H=>∃ xs,SqL K H a xs/\xs.length<=i⟩
def Itt (K:PySem.W.Frag) (a:Addr):It :=
 ⟨fun i H=>∃ xs x,SqT K H a xs/\xs[i]?=some x,fun i H x H'=>H'=H/\∀ xs,SqT K H a xs->xs[i]?=some x,fun i H=>∃ xs,SqT K H a xs/\xs.length<=i⟩
def Itr (lo:Int) (n:Nat):It:=⟨fun i _=>i<n,fun i H x H'=>H'=H/\x=.int (lo+i),fun i _=>n<=i⟩
theorem Au (a it:Addr):Turn P w K tg (Itl K a) [it] it (fun i h=>h.IsListIter it a i) where
 mem:=by simp
 obj:=fun i h st b hb=>by
  have e:b=it:=by simpa using hb
  subst e
  obtain⟨o,e,c,d⟩:=st
  exact⟨o,e,fun v z=>by rw[d] at z;cases z⟩
 keep:=fun i h h' st k=>st.at fun o e=>k it (by simp) o e
 item:=by
  intro X hP hw hK hc i pins s σ H E I hf st hg
  subst hP hw hK
  obtain⟨xs,x,hq,hx⟩:=hg
  obtain⟨its,rv,p,hz⟩:=I.list hq
  obtain⟨u,hu,ru⟩:=rv.get hx
  obtain⟨f0,f1,f2,f3,f4,f5⟩:=hf it (by simp)
  refine wpAny_pyNext_list_item st p.isList (x:=u) (by simpa using hu) fun h' st' sb=>?_
  have I1:Inv X pins σ H { s with heap:=h' }:=I.turned (t':=s.toks) (fun b o hb e=>(sb.2 b hb).trans e) f0 f1 f3 f4 f5
  obtain⟨o,e,c,d⟩:=id st'
  exact⟨u,rfl,sG (s:={ s with heap:=h' }) e c d (by decide) ⟨x,H,I1,ru,⟨rfl,fun ys hy=>by rw[I.qQ hy hq];exact hx⟩,st',fun b hb=>(hf b hb).1⟩⟩
 done:=by
  intro X hP hw hK hc i pins s σ H E I hf st hg
  subst hP hw hK
  obtain⟨xs,hq,hx⟩:=hg
  obtain⟨its,rv,p,hz⟩:=I.list hq
  obtain⟨f0,f1,f2,f3,f4,f5⟩:=hf it (by simp)
  have hl:=rv.length
  exact wpAny_pyNext_list_end (I.ok.hd hc) st p.isList (by simp;omega) fun h' eb=>⟨rfl,I.turned (t':=s.toks) (fun b o hb e=>eb b o hb e) f0 f1 f3 f4 f5⟩
 self:=fun _ _ _ _ _ st h=>wpAny_pyIter_listiter st h
theorem xT (a it:Addr):Turn P w K tg (Itt K a) [it] it (fun i h=>h.IsTupleIter it a i) where
 mem:=by simp
 obj:=fun i h st b hb=>by
  have e:b=it:=by simpa using hb
  subst e
  obtain⟨o,e,c,d⟩:=st
  exact⟨o,e,fun v z=>by rw[d] at z;cases z⟩
 keep:=fun i h h' st k=>st.at fun o e=>k it (by simp) o e
 item:=by
  intro X hP hw hK hc i pins s σ H E I hf st hg
  subst hP hw hK
  obtain⟨xs,x,hq,hx⟩:=hg
  obtain⟨its,rv,p,hz⟩:=I.tuple hq
  obtain⟨u,hu,ru⟩:=rv.get hx
  obtain⟨f0,f1,f2,f3,f4,f5⟩:=hf it (by simp)
  refine wpAny_pyNext_tuple_item st (show s.heap.IsTuple a its.toArray from p) (x:=u) (by simpa using hu) fun h' st' sb=>?_
  have I1:Inv X pins σ H { s with heap:=h' }:=I.turned (t':=s.toks) (fun b o hb e=>(sb.2 b hb).trans e) f0 f1 f3 f4 f5
  obtain⟨o,e,c,d⟩:=id st'
  exact⟨u,rfl,sG (s:={ s with heap:=h' }) e c d (by decide) ⟨x,H,I1,ru,⟨rfl,fun ys hy=>by rw[I.As hy hq];exact hx⟩,st',fun b hb=>(hf b hb).1⟩⟩
 done:=by
  intro X hP hw hK hc i pins s σ H E I hf st hg
  subst hP hw hK
  obtain⟨xs,hq,hx⟩:=hg
  obtain⟨its,rv,p,hz⟩:=I.tuple hq
  obtain⟨f0,f1,f2,f3,f4,f5⟩:=hf it (by simp)
  have hl:=rv.length
  exact wpAny_pyNext_tuple_end (I.ok.hd hc) st (show s.heap.IsTuple a its.toArray from p) (by simp;omega) fun h' eb=>⟨rfl,I.turned (t':=s.toks) (fun b o hb e=>eb b o hb e) f0 f1 f3 f4 f5⟩
 self:=fun _ _ _ _ _ st h=>wpAny_pyIter_tupleiter st h
theorem i9 (it:Addr) (lo:Int) (n:Nat):Turn P w K tg (Itr lo n) [it] it (fun i h=>IsRangeIter h it (lo+(i:Nat)*1) ((n:Int)-(i:Nat)) 1) where
 mem:=by simp
 obj:=fun i h st b hb=>by
  have e:b=it:=by simpa using hb
  subst e
  exact⟨_,st,fun v z=>by
   have z':Data.fields _=Data.cell v:=z
   cases z'⟩
 keep:=fun i h h' st k=>k it (by simp) _ st
 item:=by
  intro X hP hw hK hc i pins s σ H E I hf st hg
  subst hP hw hK
  obtain⟨f0,f1,f2,f3,f4,f5⟩:=hf it (by simp)
  have W:=Walks.range (prog:=X.prog) (w:=X.w) (I.ok.hd hc) it lo 1 n
  refine W.item i s _ _ hg st fun v h' tk hv st' kk=>?_
  obtain⟨t,rfl⟩:=hv
  have I1:Inv X pins σ H { s with heap:=h',toks:=tk }:=I.turned (fun b o hb e=>kk b o (by simpa using hb) e) f0 f1 f3 f4 f5
  refine⟨_,rfl,sG (s:={ s with heap:=h',toks:=tk }) (n:="range_iterator") st' rfl rfl (by decide) ⟨.int (lo+i),H,I1,⟨t,?_⟩,⟨rfl,rfl⟩,st',fun b hb=>(hf b hb).1⟩⟩
  rw[Int.mul_one]
 done:=by
  intro X hP hw hK hc i pins s σ H E I hf st hg
  subst hP hw hK
  obtain⟨f0,f1,f2,f3,f4,f5⟩:=hf it (by simp)
  exact wpAny_pyNext_range_end (I.ok.hd hc) st (by have:n<=i:=hg;omega) fun h' eb=>⟨rfl,I.turned (t':=s.toks) (fun b o hb e=>eb b o hb e) f0 f1 f3 f4 f5⟩
 self:=fun _ _ _ _ _ st h=>wpAny_pyIter_rangeiter st h
end
section
section
variable {X:Cx}{tg:Expr}
theorem CA {σ:St}{H:Hp}{R:It->Hp->Prop}{E:Value->Shared->Prop}{lo hi:Int}{t u v:Tok}{tk:Nat} (I:Inv X pins σ H s) (h1:-(2^62)<=lo) (h2:lo<2^62) (h3:-(2^62)<=hi) (h4:hi<2^62)
  (q:R (Itr lo (hi-lo).toNat) H):wpAny (model X.prog X.w) X.A (pyIter (.ref s.heap.objs.size)) (PIE X pins σ tg R) E { s with heap:=s.heap.push { cls:=.type "range",data:=.fields #[.int lo t,.int hi u,.int 1 v] },toks:=tk }:=by
 refine wpAny_pyIter_range (IsRange.new ..) (small_one h1 h2 h3 h4) ?_
 have I1:Inv X pins σ H { s with heap:=s.heap.push { cls:=.type "range",data:=.fields #[.int lo t,.int hi u,.int 1 v] },toks:=tk }:=I.kept fun b o e=>aH _ e
 refine⟨(s.heap.push { cls:=.type "range",data:=.fields #[.int lo t,.int hi u,.int 1 v] }).objs.size,[(s.heap.push { cls:=.type "range",data:=.fields #[.int lo t,.int hi u,.int 1 v] }).objs.size],_,_,H,rfl,
  I1.kept (t':=tk) fun b o e=>aH _ e,i9 _ lo (hi-lo).toNat,?_,fun b hb=>?_,q⟩
 ·have e1:lo+((0:Nat):Int)*1=lo:=by simp
  have e2:(((hi-lo).toNat:Nat):Int)-((0:Nat):Int)=Builtin.Range.rangeSize lo hi 1:=by rw[rangeSize_one];split<;>omega
  show IsRangeIter _ _ (lo+((0:Nat):Int)*1) ((((hi-lo).toNat:Nat):Int)-((0:Nat):Int)) 1
  rw[e1,e2]
  exact aZ _ rfl
 ·have e:b=(s.heap.push { cls:=.type "range",data:=.fields #[.int lo t,.int hi u,.int 1 v] }).objs.size:=by simpa using hb
  subst e
  exact I1.qI (ai _) (I1.hok.fresh (ai _))
def BC (ta:TA):TI:=fun σ H R=>ta σ H fun vs H1=>∃ j:Int,vs=[.int j]/\-(2^62)<=j/\j<2^62/\R (Itr 0 j.toNat) H1
theorem Ai {a:Expr}{ta:TA}{p pos:Pos} (hg:Gl X "range") (hm:X.mg "range"=none) (ha:PA X [a] ta) (hs:starEach [a] X.env=[(false,eval a X.env)]:=by rfl):PI X tg (.Call (.Name "range" p) [a] [] pos) (BC ta):=by
 intro pins s σ H R I h
 refine Call_ (oO I hg hm boot_range (oh (thn (ha pos pins s σ H _ I h) fun us s1 ⟨vs,H1,I1,r1,q1⟩=>?_) hs rfl))
 obtain⟨j,e,q1,q2,q⟩:=q1
 subst e
 cases r1 with
 | cons r rr =>
  cases rr
  obtain⟨t,rfl⟩:=r
  exact call_range_1 (CA I1 (by omega) (by omega) q1 q2 (by simpa using q))
def HI (wi:TI) (g:TG) (tb:TS):TS:=fun D σ H=>wi σ H fun J H1=>∃ W:Nat->Nat->St->Hp->Prop,(∃ m,W 0 m σ H1)/\∀ i m σ H,W i m σ H →
 (J.stop i H/\D.nx σ H)∨(J.go i H/\∃ N:St->Hp->Prop,(∀ σ' H',N σ' H'->∃ m',m'<m/\W (i+1) m' σ' H')/\∀ x H',J.yld i H x H'->g x σ H' fun σ2 H2=>tb { D with nx:=N,ct:=N,bk:=D.nx } σ2 H2)
def mM (fp:List Addr) (h:Heap):List (Addr×Obj):=fp.filterMap fun b=>(h.get? b).map fun o=>(b,o)
theorem eu (hb:b∈fp) (e:h.get? b=some o):(b,o)∈mM fp h:=List.mem_filterMap.mpr ⟨b,hb,by rw[e];rfl⟩
theorem zV {p:Addr×Obj} (hp:p∈mM fp h):p.1∈fp/\h.get? p.1=some p.2:=by
 obtain⟨b,hb,e⟩:=List.mem_filterMap.mp hp
 cases q:h.get? b with
 | none=>rw[q] at e;cases e
 | some o =>
  rw[q] at e
  have e':(b,o)=p:=Option.some.inj e
  subst e'
  exact⟨hb,q⟩
theorem Inv.pinned {σ:St}{H:Hp} (I:Inv X pins σ H s) (hf:∀ b∈fp,jV X pins H b) (ho:∀ b∈fp,∃ o,s.heap.get? b=some o/\∀ v,o.data≠.cell v):Inv X (pins++mM fp s.heap) σ H s :=
 I.yE fun p hp=>(bL.mp hp).elim (fun z=>I.pin p (bV _ z)) fun z=>by
  obtain⟨hb,e⟩:=zV z
  obtain⟨f0,f1,f2,_⟩:=hf p.1 hb
  obtain⟨o,e',d⟩:=ho p.1 hb
  rw[e] at e';cases e'
  exact⟨e,f0,f1,f2,d⟩
theorem Inv.gG {pins pl:List (Addr×Obj)}{σ:St}{H:Hp} (I:Inv X (pins++pl) σ H s):Inv X pins σ H s:=I.yE fun p hp=>I.pin p (bV _ (oa _ hp))
theorem fM {iter:Expr}{wi:TI}{g:TG}{tb:TS}{pos:Pos} (hp:PassesOwn (model X.prog X.w) X.A X.env X.xe) (hc:X.calm=true) (hi:PI X tg iter wi) (hg:PG X tg g) (hb:PSs X body tb)
  (hs:∀ x,foldedSetIterable iter X.env x=pure x:=by intro _;rfl):PS X (.For tg iter body [] pos) (HI wi g tb):=by
 intro pins s σ H D I h
 refine wpAny_For (thn (hi pins s σ H _ I h) fun v s1 h1=>thn h1 fun itv s2 h2=>?_) hs
 obtain⟨it,fp,tn,J,H2,e,I2,T,st2,f2,W,⟨m0,w0⟩,turn⟩:=h2
 subst e
 -- what stays true of the iterator's objects through the loop
 have stat:∀ {H':Hp},(∀ b∈fp,H' b=none)->∀ b∈fp,jV X pins H' b:=fun hn b hb=>⟨hn b hb,(f2 b hb).2⟩
 refine codeAny_forLoop_any (fun n s'=>∃ i σ' H',Inv X pins σ' H' s'/\tn i s'.heap/\(∀ b∈fp,H' b=none)/\W i n σ' H') ?_ m0 ⟨0,σ,H2,I2,st2,fun b hb=>(f2 b hb).1,w0⟩
 rintro n s3 ⟨i,σ3,H3,I3,st3,fr3,w3⟩
 rcases turn i n σ3 H3 w3 with ⟨stop,qn⟩ | ⟨go,N,hN,step⟩
 ·refine dR hp (thn (T.done X rfl rfl rfl hc i pins s3 σ3 H3 X.xe I3 (stat fr3) st3 stop) fun r s4 ⟨hr,I4⟩=>?_)
  subst hr
  exact iI ⟨σ3,H3,I4,qn⟩
 ·refine dR hp (thn (T.item X rfl rfl rfl hc i pins s3 σ3 H3 X.xe I3 (stat fr3) st3 go) fun r s4 ⟨u,hr,h4⟩=>?_)
  subst hr
  refine dR hp (thn h4 fun _ s5 ⟨x,H5,I5,r5,y5,st5,fr5⟩=>?_)
  have I5':=I5.pinned (stat fr5) (T.obj _ _ st5)
  refine dR hp (thn (hg _ s5 σ3 H5 x u _ I5' r5 (step x H5 y5)) fun _ s6 ⟨σ6,H6,I6,q6⟩=>?_)
  refine dR hp (thn (hb _ s6 σ6 H6 _ I6 q6) fun f s7 q7=>?_)
  have again:∀ {σ7:St}{H7:Hp},Inv X (pins++mM fp s5.heap) σ7 H7 s7->N σ7 H7->∃ m,m<n/\∃ i σ' H',Inv X pins σ' H' s7/\tn i s7.heap/\(∀ b∈fp,H' b=none)/\W i m σ' H':=fun {σ7 H7} I7 n7=>by
   obtain⟨m',hm,w7⟩:=hN σ7 H7 n7
   refine⟨m',hm,i+1,σ7,H7,I7.gG,T.keep _ _ _ st5 fun b hb o e=>(I7.pin (b,o) (bV _ (bV _ (eu hb e)))).1,fun b hb=>?_,w7⟩
   obtain⟨o,e,d⟩:=T.obj _ _ st5 b hb
   exact (I7.pin (b,o) (bV _ (bV _ (eu hb e)))).2.1
  cases f with
  | next=>obtain⟨σ7,H7,I7,n7⟩:=q7;exact again I7 n7
  | cont=>obtain⟨σ7,H7,I7,n7⟩:=q7;exact again I7 n7
  | brk=>obtain⟨σ7,H7,I7,q7⟩:=q7;exact⟨σ7,H7,I7.gG,q7⟩
  | ret v=>obtain⟨x7,σ7,H7,I7,r7,q7⟩:=q7;exact⟨x7,σ7,H7,I7.gG,r7,q7⟩
end

theorem Bu {xs:List V}{g:TG}{tb:TS}{D:Ends}{σ:St}{H:Hp} (Pv:Nat->St->Hp->Prop) (h0:Pv 0 σ H) (hl:∀ i σ H,i<=xs.length->Pv i σ H->SqL K H a xs)
  (hs:∀ i x σ H,xs[i]?=some x->Pv i σ H->g x σ H fun σ2 H2=>tb { D with nx:=Pv (i+1),ct:=Pv (i+1),bk:=D.nx } σ2 H2) (hd:∀ σ H,Pv xs.length σ H->D.nx σ H) :
  ∃ W:Nat->Nat->St->Hp->Prop,(∃ m,W 0 m σ H)/\∀ i m σ H,W i m σ H →
   ((Itl K a).stop i H/\D.nx σ H)∨((Itl K a).go i H/\∃ N:St->Hp->Prop,(∀ σ' H',N σ' H'->∃ m',m'<m/\W (i+1) m' σ' H')/\∀ x H',(Itl K a).yld i H x H'->g x σ H' fun σ2 H2=>tb { D with nx:=N,ct:=N,bk:=D.nx } σ2 H2):=by
 refine⟨fun i m σ H=>m=xs.length-i/\i<=xs.length/\Pv i σ H,⟨xs.length,by simp,bh _,h0⟩,?_⟩
 rintro i m σ H ⟨rfl,hi,p⟩
 have q:=hl i σ H hi p
 by_cases hlt:i<xs.length
 ·refine .inr ⟨⟨xs,xs[i],q,by simp [hlt]⟩,Pv (i+1),fun σ' H' p'=>⟨xs.length-(i+1),by omega,rfl,hlt,p'⟩,fun x H' y=>?_⟩
  obtain⟨e,y⟩:=y
  subst e
  exact hs i x σ _ (y xs q) p
 ·have e:i=xs.length:=by omega
  subst e
  exact .inl ⟨⟨xs,q,ai _⟩,hd σ H p⟩
theorem zK {lo:Int}{n:Nat}{g:TG}{tb:TS}{D:Ends}{σ:St}{H:Hp} (Pv:Nat->St->Hp->Prop) (h0:Pv 0 σ H)
  (hs:∀ i σ H,i<n->Pv i σ H->g (.int (lo+i)) σ H fun σ2 H2=>tb { D with nx:=Pv (i+1),ct:=Pv (i+1),bk:=D.nx } σ2 H2) (hd:∀ σ H,Pv n σ H->D.nx σ H) :
  ∃ W:Nat->Nat->St->Hp->Prop,(∃ m,W 0 m σ H)/\∀ i m σ H,W i m σ H →
   ((Itr lo n).stop i H/\D.nx σ H)∨((Itr lo n).go i H/\∃ N:St->Hp->Prop,(∀ σ' H',N σ' H'->∃ m',m'<m/\W (i+1) m' σ' H')/\∀ x H',(Itr lo n).yld i H x H'->g x σ H' fun σ2 H2=>tb { D with nx:=N,ct:=N,bk:=D.nx } σ2 H2):=by
 refine⟨fun i m σ H=>m=n-i/\i<=n/\Pv i σ H,⟨n,by simp,bh _,h0⟩,?_⟩
 rintro i m σ H ⟨rfl,hi,p⟩
 by_cases hlt:i<n
 ·refine .inr ⟨hlt,Pv (i+1),fun σ' H' p'=>⟨n-(i+1),by omega,rfl,hlt,p'⟩,fun x H' y=>?_⟩
  obtain⟨e,y⟩:=y
  subst e y
  exact hs i σ _ hlt p
 ·have e:i=n:=by omega
  subst e
  exact .inl ⟨ai _,hd σ H p⟩
end
section

abbrev R2:=V->V->Hp->VK->Prop
def OpR (X:Cx) (f:Value->Value->Sem Value) (r:R2):Prop :=
 ∀ (pins:List (Addr×Obj)) (s:Shared) (σ:St) (H:Hp) (x y:V) (v u:Value) (Q:VK),Inv X pins σ H s->RelV x v->RelV y u->r x y H Q →
  wpAny (model X.prog X.w) X.A (f v u) (EP X pins σ Q) X.xe s
def UnR (X:Cx) (f:Value->Sem Value) (r:V->Hp->VK->Prop):Prop :=
 ∀ (pins:List (Addr×Obj)) (s:Shared) (σ:St) (H:Hp) (x:V) (v:Value) (Q:VK),Inv X pins σ H s->RelV x v->r x H Q →
  wpAny (model X.prog X.w) X.A (f v) (EP X pins σ Q) X.xe s
def cC (X:Cx) (f:Value) (r:List V->Hp->VK->Prop):Prop :=
 ∀ (pins:List (Addr×Obj)) (s:Shared) (σ:St) (H:Hp) (xs:List V) (us:List Value) (Q:VK),Inv X pins σ H s->Vals xs us->r xs H Q →
  wpAny (model X.prog X.w) X.A (call f us) (EP X pins σ Q) X.xe s
def tOp (r:R2) (ta tb:TE):TE:=fun σ H Q=>ta σ H fun x H1=>tb σ H1 fun y H2=>r x y H2 Q
def tUn (r:V->Hp->VK->Prop) (ta:TE):TE:=fun σ H Q=>ta σ H fun x H1=>r x H1 Q
def rI (C:Int->Int->Prop) (g:Int->Int->V):R2:=fun x y H Q=>∃ i j,x=.int i/\y=.int j/\C i j/\Q (g i j) H
def rI0 (g:Int->Int->V):R2:=fun x y H Q=>∃ i j,x=.int i/\y=.int j/\Q (g i j) H
def rU (g:Int->V):V->Hp->VK->Prop:=fun x H Q=>∃ i,x=.int i/\Q (g i) H

section
variable {X:Cx}{a b c:Expr}{ta tb tc:TE}{pos:Pos}

theorem Gv (ha:PE X a ta) (hb:PE X b tb) {σ:St}{H:Hp}{R:V->V->Hp->Prop} (I:Inv X pins σ H s)
  (h:ta σ H fun x H1=>tb σ H1 fun y H2=>R x y H2) {Q:Value->Shared->Prop}{f:Value->Value->Sem Value}
  (hf:∀ v u s2 x y H2,Inv X pins σ H2 s2->RelV x v->RelV y u->R x y H2->wpAny (model X.prog X.w) X.A (f v u) Q X.xe s2) :
  wpAny (model X.prog X.w) X.A (eval a X.env) (fun v s₁=>wpAny (model X.prog X.w) X.A (eval b X.env) (fun u s₂=>wpAny (model X.prog X.w) X.A (f v u) Q X.xe s₂) X.xe s₁) X.xe s:=by
 refine thn (ha pins s σ H _ I h) fun v s1 ⟨x,H1,I1,r1,q1⟩=>?_
 refine thn (hb pins s1 σ H1 _ I1 q1) fun u s2 ⟨y,H2,I2,r2,q2⟩=>?_
 exact hf v u s2 x y H2 I2 r1 r2 q2

theorem aw {op:Operator}{r:R2} (ho:OpR X (binaryOp op) r) (ha:PE X a ta) (hb:PE X b tb):PE X (.BinOp a op b pos) (tOp r ta tb):=by
 intro pins s σ H Q I h
 exact wpAny_BinOp (Gv ha hb I h fun v u s2 x y H2 I2 rx ry q=>ho pins s2 σ H2 x y v u Q I2 rx ry q)
theorem pC {op:UnaryOp}{r:V->Hp->VK->Prop} (ho:UnR X (unaryOp op) r) (ha:PE X a ta):PE X (.UnaryOp op a pos) (tUn r ta):=by
 intro pins s σ H Q I h
 exact UnaryOp_ (thn (ha pins s σ H _ I h) fun v s1 ⟨x,H1,I1,r1,q1⟩=>ho pins s1 σ H1 x v Q I1 r1 q1)
theorem opI {f:Value->Value->Sem Value}{C:Int->Int->Prop}{g:Int->Int->Int}
  (rule:∀ (i j:Int) (t u:Tok) (s:Shared) (Q:Value->Shared->Prop) (E:Value->Shared->Prop),C i j->Q (.int (g i j) s.toks) { s with toks:=s.toks+1 }->wpAny (model X.prog X.w) X.A (f (.int i t) (.int j u)) Q E s) :
  OpR X f (rI C fun i j=>.int (g i j)):=by
 intro pins s σ H x y v u Q I rx ry h
 obtain⟨i,j,rfl,rfl,hc,q⟩:=h
 obtain⟨t,rfl⟩:=rx
 obtain⟨t',rfl⟩:=ry
 exact rule i j t t' s _ _ hc ⟨.int (g i j),H,I.tok _,⟨_,rfl⟩,q⟩
theorem Iy {f:Value->Value->Sem Value}{g:Int->Int->Int}
  (rule:∀ (i j:Int) (t u:Tok) (s:Shared) (Q:Value->Shared->Prop) (E:Value->Shared->Prop),Q (.int (g i j) s.toks) { s with toks:=s.toks+1 }->wpAny (model X.prog X.w) X.A (f (.int i t) (.int j u)) Q E s) :
  OpR X f (rI0 fun i j=>.int (g i j)):=by
 intro pins s σ H x y v u Q I rx ry h
 obtain⟨i,j,rfl,rfl,q⟩:=h
 obtain⟨t,rfl⟩:=rx
 obtain⟨t',rfl⟩:=ry
 exact rule i j t t' s _ _ ⟨.int (g i j),H,I.tok _,⟨_,rfl⟩,q⟩
theorem GY {f:Value->Value->Sem Value}{g:Int->Int->Bool}
  (rule:∀ (i j:Int) (t u:Tok) (s:Shared) (Q:Value->Shared->Prop) (E:Value->Shared->Prop),Q (.bool (g i j)) s->wpAny (model X.prog X.w) X.A (f (.int i t) (.int j u)) Q E s) :
  OpR X f (rI0 fun i j=>.bl (g i j)):=by
 intro pins s σ H x y v u Q I rx ry h
 obtain⟨i,j,rfl,rfl,q⟩:=h
 obtain⟨t,rfl⟩:=rx
 obtain⟨t',rfl⟩:=ry
 exact rule i j t t' s _ _ ⟨.bl (g i j),H,I,rfl,q⟩

def Jn (i j:Int):Prop:=0<=j/\j<=1000000/\i.natAbs<2^64
def HQ (i j:Int):Prop:=(-(2^64)<i/\i<2^64)∨(-(2^64)<j/\j<2^64)
theorem HQ.ok {i j:Int} (h:HQ i j):IntMulOk i j:=by
 rcases h with ⟨h1,h2⟩ | ⟨h1,h2⟩
 ·exact .of_left (intBits_le_64 h1 h2)
 ·exact .of_right (intBits_le_64 h1 h2)
theorem GZ:OpR X (binaryOp .Add) (rI0 fun i j=>.int (i+j)):=Iy fun _ _ _ _ _ _ _ q=>add_int q
theorem Hr:OpR X (binaryOp .Sub) (rI0 fun i j=>.int (i-j)):=Iy fun _ _ _ _ _ _ _ q=>sub_int q
theorem Hl:OpR X (binaryOp .Mod) (rI (fun _ j=>0<j) fun i j=>.int (i%j)):=opI fun i j _ _ _ _ _ hc q=>by
 have h1:(0:Int)<j:=hc
 exact mod_int' (by omega) (by rw[Int.fmod_eq_emod_of_nonneg i (by omega)];exact q)
theorem Ho:OpR X (binaryOp .Pow) (rI Jn fun i j=>.int (i^j.toNat)):=opI fun _ _ _ _ _ _ _ hc q=>pow_int_small hc.1 hc.2.1 hc.2.2 q
theorem unI {f:Value->Sem Value}{g:Int->Int}
  (rule:∀ (i:Int) (t:Tok) (s:Shared) (Q:Value->Shared->Prop) (E:Value->Shared->Prop),Q (.int (g i) s.toks) { s with toks:=s.toks+1 }->wpAny (model X.prog X.w) X.A (f (.int i t)) Q E s) :
  UnR X f (rU fun i=>.int (g i)):=by
 intro pins s σ H x v Q I rx h
 obtain⟨i,rfl,q⟩:=h
 obtain⟨t,rfl⟩:=rx
 exact rule i t s _ _ ⟨.int (g i),H,I.tok _,⟨_,rfl⟩,q⟩
theorem lC:UnR X (unaryOp .USub) (rU fun i=>.int (-i)):=unI fun _ _ _ _ _ q=>neg_int q
end

def IS:V->V->Bool
 | .non,.non=>true | .non,.int _=>true | .int _,.non=>true | .non,.bl _=>true | .bl _,.non=>true | .non,.str _=>true | .str _,.non=>true
 | .int _,.int _=>true | .bl _,.bl _=>true | .str _,.str _=>true | .byt _,.byt _=>true
 | .int _,.str _=>true | .str _,.int _=>true | .bl _,.str _=>true | .str _,.bl _=>true
 | _,_=>false
def rEq:R2:=fun x y H Q=>IS x y=true/\Q (.bl (decide (x=y))) H
def rNe:R2:=fun x y H Q=>IS x y=true/\Q (.bl (!decide (x=y))) H

theorem yh {i j:Int}:decide (V.int i=V.int j)=(i==j):=by
 rw[mh]
 simp
theorem AZ {i j:Bool}:decide (V.bl i=V.bl j)=(i==j):=by
 rw[mh]
 simp
theorem yi {i j:Str}:decide (V.str i=V.str j)=(i==j):=by
 rw[mh]
 simp
theorem yg {i j:Array UInt8}:decide (V.byt i=V.byt j)=(i.toList==j.toList):=by
 rw[mh]
 cases i
 cases j
 simp

section
variable {X:Cx}{a b c:Expr}{ta tb tc:TE}{pos:Pos}
theorem b8 {σ:St}{H:Hp}{Q:VK}{k k':Bool} (I:Inv X pins σ H s) (q:Q (.bl k) H) (e:k=k'):EP X pins σ Q (.bool k') s:=by
 subst e
 exact⟨.bl k,H,I,rfl,q⟩
theorem Cb:OpR X (compareOp .Eq) rEq:=by
 intro pins s σ H x y v u Q I rx ry h
 obtain⟨hs,q⟩:=h
 cases x with
 | non =>
  cases rx
  cases y with
  | non=>cases ry;exact PySem.EqNone.eq_none_none (b8 I q (by simp))
  | bl j=>cases ry;exact PySem.EqNone.eq_none_bool (b8 I q (by simp))
  | int j=>obtain⟨t',rfl⟩:=ry;exact PySem.EqNone.eq_none_int (b8 I q (by simp))
  | str j=>obtain⟨t',rfl⟩:=ry;exact PySem.EqNone.eq_none_str (b8 I q (by simp))
  | _=>exact absurd (show false=true from hs) bE
 | bl i =>
  cases rx
  cases y with
  | non=>cases ry;exact PySem.EqNone.eq_bool_none (b8 I q (by simp))
  | bl j=>cases ry;exact eq_bool (b8 I q AZ)
  | str j=>obtain⟨t',rfl⟩:=ry;exact PySem.EqMixed.eq_bool_str (b8 I q (by simp))
  | _=>exact absurd (show false=true from hs) bE
 | int i =>
  obtain⟨t,rfl⟩:=rx
  cases y with
  | non=>cases ry;exact PySem.EqNone.eq_int_none (b8 I q (by simp))
  | int j=>obtain⟨t',rfl⟩:=ry;exact eq_int (b8 I q yh)
  | str j=>obtain⟨t',rfl⟩:=ry;exact PySem.EqMixed.eq_int_str (b8 I q (by simp))
  | _=>exact absurd (show false=true from hs) bE
 | str i =>
  obtain⟨t,rfl⟩:=rx
  cases y with
  | non=>cases ry;exact PySem.EqNone.eq_str_none (b8 I q (by simp))
  | bl j=>cases ry;exact PySem.EqMixed.eq_str_bool (b8 I q (by simp))
  | int j=>obtain⟨t',rfl⟩:=ry;exact PySem.EqMixed.eq_str_int (b8 I q (by simp))
  | str j=>obtain⟨t',rfl⟩:=ry;exact eq_str (b8 I q yi)
  | _=>exact absurd (show false=true from hs) bE
 | byt i =>
  obtain⟨t,rfl⟩:=rx
  cases y with
  | byt j=>obtain⟨t',rfl⟩:=ry;exact PySem.W.eq_bytes (b8 I q yg)
  | _=>exact absurd (show false=true from hs) bE
 | _=>cases y<;>exact absurd (show false=true from hs) bE
theorem Ce:OpR X (compareOp .NotEq) rNe:=by
 intro pins s σ H x y v u Q I rx ry h
 obtain⟨hs,q⟩:=h
 cases x with
 | non =>
  cases rx
  cases y with
  | non=>cases ry;exact PySem.EqNone.ne_none_none (b8 I q (by simp))
  | bl j=>cases ry;exact PySem.EqNone.ne_none_bool (b8 I q (by simp))
  | int j=>obtain⟨t',rfl⟩:=ry;exact PySem.EqNone.ne_none_int (b8 I q (by simp))
  | str j=>obtain⟨t',rfl⟩:=ry;exact PySem.EqNone.ne_none_str (b8 I q (by simp))
  | _=>exact absurd (show false=true from hs) bE
 | bl i =>
  cases rx
  cases y with
  | non=>cases ry;exact PySem.EqNone.ne_bool_none (b8 I q (by simp))
  | bl j=>cases ry;exact ne_bool (b8 I q (bu not AZ))
  | str j=>obtain⟨t',rfl⟩:=ry;exact PySem.EqMixed.ne_bool_str (b8 I q (by simp))
  | _=>exact absurd (show false=true from hs) bE
 | int i =>
  obtain⟨t,rfl⟩:=rx
  cases y with
  | non=>cases ry;exact PySem.EqNone.ne_int_none (b8 I q (by simp))
  | int j=>obtain⟨t',rfl⟩:=ry;exact ne_int (b8 I q (bu not yh))
  | str j=>obtain⟨t',rfl⟩:=ry;exact PySem.EqMixed.ne_int_str (b8 I q (by simp))
  | _=>exact absurd (show false=true from hs) bE
 | str i =>
  obtain⟨t,rfl⟩:=rx
  cases y with
  | non=>cases ry;exact PySem.EqNone.ne_str_none (b8 I q (by simp))
  | bl j=>cases ry;exact PySem.EqMixed.ne_str_bool (b8 I q (by simp))
  | int j=>obtain⟨t',rfl⟩:=ry;exact PySem.EqMixed.ne_str_int (b8 I q (by simp))
  | str j=>obtain⟨t',rfl⟩:=ry;exact ne_str (b8 I q (bu not yi))
  | _=>exact absurd (show false=true from hs) bE
 | byt i =>
  obtain⟨t,rfl⟩:=rx
  cases y with
  | byt j=>obtain⟨t',rfl⟩:=ry;exact PySem.W.ne_bytes (b8 I q (bu not yg))
  | _=>exact absurd (show false=true from hs) bE
 | _=>cases y<;>exact absurd (show false=true from hs) bE

theorem IB:OpR X (compareOp .Lt) (rI0 fun i j=>.bl (decide (i<j))):=GY fun _ _ _ _ _ _ _ q=>lt_int q
theorem IA:OpR X (compareOp .LtE) (rI0 fun i j=>.bl (decide (i<=j))):=GY fun _ _ _ _ _ _ _ q=>le_int q
theorem Iz:OpR X (compareOp .GtE) (rI0 fun i j=>.bl (decide (j<=i))):=GY fun _ _ _ _ _ _ _ q=>ge_int q
theorem zY:OpR X (compareOp .In) (fun x y H Q=>∃ i j,x=.str i/\y=.str j/\Q (.bl (!(Builtin.Str.occurrences j i 0 j.length 1).isEmpty)) H):=by
 intro pins s σ H x y v u Q I rx ry h
 obtain⟨i,j,rfl,rfl,q⟩:=h
 obtain⟨t,rfl⟩:=rx
 obtain⟨t',rfl⟩:=ry
 exact in_str (b8 I q rfl)

theorem Hj:OpR X (compareOp .Is) (fun x y H Q=>y=.non/\Q (.bl (decide (x=.non))) H):=by
 intro pins s σ H x y v u Q I rx ry h
 obtain⟨rfl,q⟩:=h
 cases ry
 refine is_none_gen (b8 I q ?_)
 cases x<;>first
  | (cases rx;rfl)
  | (obtain⟨t,rfl⟩:=rx;rfl)
theorem Eu:OpR X (compareOp .IsNot) (fun x y H Q=>y=.non/\Q (.bl (!decide (x=.non))) H):=by
 intro pins s σ H x y v u Q I rx ry h
 obtain⟨rfl,q⟩:=h
 cases ry
 refine isnot_none_gen (b8 I q ?_)
 cases x<;>first
  | (cases rx;rfl)
  | (obtain⟨t,rfl⟩:=rx;rfl)

theorem uv:OpR X (compareOp .NotIn) (fun x y H Q=>∃ i j,x=.str i/\y=.str j/\Q (.bl (!(!(Builtin.Str.occurrences j i 0 j.length 1).isEmpty))) H):=by
 intro pins s σ H x y v u Q I rx ry h
 obtain⟨i,j,rfl,rfl,q⟩:=h
 obtain⟨t,rfl⟩:=rx
 obtain⟨t',rfl⟩:=ry
 exact notIn_str (b8 I q rfl)
theorem aL (b:Expr)  (h:op≠.In:=by decide) (h2:op≠.NotIn:=by decide):behindInMarks op b=false:=by
 have e1:(op==CmpOp.In)=false:=by cases op<;>first | rfl | exact absurd rfl h
 have e2:(op==CmpOp.NotIn)=false:=by cases op<;>first | rfl | exact absurd rfl h2
 cases b<;>simp [behindInMarks,e1,e2]
theorem cn {r:R2} (ho:OpR X (compareOp op) r) (ha:PE X a ta) (hb:PE X b tb) (hm:behindInMarks op b=false):PE X (.Compare a [op] [b] pos) (tOp r ta tb):=by
 intro pins s σ H Q I h
 exact wpAny_Compare1 (Gv ha hb I h fun v u s2 x y H2 I2 rx ry q=>ho pins s2 σ H2 x y v u Q I2 rx ry q) hm
def Dc (t:TE):TT:=fun σ H Q=>t σ H fun x H'=>∃ k,x=.bl k/\Q k H'
theorem aJ {r:R2} (ho:OpR X (compareOp op) r) (ha:PE X a ta) (hb:PE X b tb) (hm:behindInMarks op b=false):PT X (.Compare a [op] [b] pos) (Dc (tOp r ta tb)):=by
 intro pins s σ H Q I h
 refine wpAny_isTrue_Compare1 (thn (ha pins s σ H _ I h) fun v s1 ⟨x,H1,I1,r1,q1⟩=>thn (hb pins s1 σ H1 _ I1 q1) fun u s2 ⟨y,H2,I2,r2,q2⟩ =>
  thn (ho pins s2 σ H2 x y v u _ I2 r1 r2 q2) fun c s3 ⟨z,H3,I3,r3,k,e,q3⟩=>?_) hm
 subst e
 cases r3
 exact fW ⟨H3,I3,q3⟩
def xP (r r':R2) (ta tb tc:TE):TE:=fun σ H Q=>ta σ H fun x H1=>tb σ H1 fun y H2=>r x y H2 fun z H3=>∃ k,z=.bl k ∧
 (if k=true then tc σ H3 fun w' H4=>r' y w' H4 Q else Q (.bl false) H3)
theorem Cj {op op':CmpOp}{r r':R2} (ho:OpR X (compareOp op) r) (ho':OpR X (compareOp op') r') (ha:PE X a ta) (hb:PE X b tb) (hc:PE X c tc)
  (hm:lastMarks [op,op'] [b,c]=false:=by with_unfolding_all rfl):PE X (.Compare a [op,op'] [b,c] pos) (xP r r' ta tb tc):=by
 intro pins s σ H Q I h
 refine Compare_chain (thn (ha pins s σ H _ I h) fun v s1 ⟨x,H1,I1,r1,q1⟩=>chain_link (thn (hb pins s1 σ H1 _ I1 q1) fun u s2 ⟨y,H2,I2,r2,q2⟩ =>
  thn (ho pins s2 σ H2 x y v u _ I2 r1 r2 q2) fun d s3 ⟨z,H3,I3,r3,k,e,q3⟩=>?_)) hm
 subst e
 cases r3
 refine fW ?_
 cases k with
 | false=>exact ite_ff ⟨.bl false,H3,I3,rfl,q3⟩
 | true=>exact ite_tt (chain_last (thn (hc pins s3 σ H3 _ I3 q3) fun w' s4 ⟨z',H4,I4,r4,q4⟩=>ho' pins s4 σ H4 y z' u w' Q I4 r2 r4 q4))
theorem nJ {op op':CmpOp}{r r':R2} (ho:OpR X (compareOp op) r) (ho':OpR X (compareOp op') r') (ha:PE X a ta) (hb:PE X b tb) (hc:PE X c tc)
  (hm:lastMarks [op,op'] [b,c]=false:=by with_unfolding_all rfl):PT X (.Compare a [op,op'] [b,c] pos) (Dc (xP r r' ta tb tc)):=by
 intro pins s σ H Q I h
 refine isTrue_chain (thn (ha pins s σ H _ I h) fun v s1 ⟨x,H1,I1,r1,q1⟩=>test_link (thn (hb pins s1 σ H1 _ I1 q1) fun u s2 ⟨y,H2,I2,r2,q2⟩ =>
  thn (ho pins s2 σ H2 x y v u _ I2 r1 r2 q2) fun d s3 ⟨z,H3,I3,r3,k,e,q3⟩=>?_)) hm
 subst e
 cases r3
 refine fW ?_
 cases k with
 | false =>
  obtain⟨k',e',q'⟩:=q3
  cases e'
  exact ite_ff ⟨H3,I3,q'⟩
 | true =>
  refine ite_tt (test_last (thn (hc pins s3 σ H3 _ I3 q3) fun w' s4 ⟨z',H4,I4,r4,q4⟩=>thn (ho' pins s4 σ H4 y z' u w' _ I4 r2 r4 q4) fun d' s5 ⟨z2,H5,I5,r5,k2,e2,q5⟩=>?_))
  subst e2
  cases r5
  exact fW ⟨H5,I5,q5⟩

theorem qP:(sizeLine:Nat)<2^63:=by rw[sizeLine_eq];decide
theorem xx:OpR X (binaryOp .Add) (fun x y H Q=>∃ i j,x=.str i/\y=.str j/\i.length+j.length<=sizeLine/\Q (.str (i++j)) H):=by
 intro pins s σ H x y v u Q I rx ry h
 obtain⟨i,j,rfl,rfl,hz,q⟩:=h
 obtain⟨t,rfl⟩:=rx
 obtain⟨t',rfl⟩:=ry
 exact add_str (fun t' tk=>⟨.str (i++j),H,I.tok _,⟨_,rfl⟩,q⟩) hz
theorem vals1 {x:V} (r:Vals [x] us):∃ u,us=[u]/\RelV x u:=by
 cases r with
 | cons r1 r2=>cases r2;exact⟨_,rfl,r1⟩
theorem vals2 {x y:V} (r:Vals [x,y] us):∃ u w',us=[u,w']/\RelV x u/\RelV y w':=by
 cases r with
 | cons r1 r2 =>
  cases r2 with
  | cons r3 r4=>cases r4;exact⟨_,_,rfl,r1,r3⟩
theorem AU:cC X (.builtin "abs") (fun xs H Q=>∃ i,xs=[.int i]/\Q (.int (if i<0 then -i else i)) H):=by
 intro pins s σ H xs us Q I r h
 obtain⟨i,rfl,q⟩:=h
 obtain⟨u,rfl,t,rfl⟩:=vals1 r
 exact call_abs_int fun u tk=>⟨.int (if i<0 then -i else i),H,I.tok _,⟨_,rfl⟩,q⟩
theorem zi (hc:X.calm=true):cC X (.builtin "max") (fun xs H Q=>∃ i j,xs=[.int i,.int j]/\Q (.int (if j>i then j else i)) H):=by
 intro pins s σ H xs us Q I r h
 obtain⟨i,j,rfl,q⟩:=h
 obtain⟨u,w',rfl,⟨t,rfl⟩,⟨t',rfl⟩⟩:=vals2 r
 refine max_two_ints (I.ok.hd hc) fun h' tk k=>⟨_,H,I.kept k,?_,q⟩
 by_cases hj:j>i
 ·rw[if_pos hj,if_pos hj];exact⟨_,rfl⟩
 ·rw[if_neg hj,if_neg hj];exact⟨_,rfl⟩
theorem zk (hc:X.calm=true):cC X (.builtin "min") (fun xs H Q=>∃ i j,xs=[.int i,.int j]/\Q (.int (if j<i then j else i)) H):=by
 intro pins s σ H xs us Q I r h
 obtain⟨i,j,rfl,q⟩:=h
 obtain⟨u,w',rfl,⟨t,rfl⟩,⟨t',rfl⟩⟩:=vals2 r
 refine min_two_ints (I.ok.hd hc) fun h' tk k=>⟨_,H,I.kept k,?_,q⟩
 by_cases hj:j<i
 ·rw[if_pos hj,if_pos hj];exact⟨_,rfl⟩
 ·rw[if_neg hj,if_neg hj];exact⟨_,rfl⟩
end
end
section

structure wg (h:Heap) (x dx C:Addr) (mA:Str->Option Value):Prop where
 obj:h.get? x=some (PySem.W.instObj C dx)
 ns:h.Ns1 dx mA
 ne:dx≠x

theorem zT {dx:Addr} (n:h.Ns1 dx mA):∃ od,h.get? dx=some od/\∀ name,PySem.W.lookIn name od=some (mA name):=by
 obtain⟨o,es,ep,ho,hd,hk,_,hm⟩:=n
 refine⟨o,ho,fun name=>?_⟩
 have e:=hm name
 unfold nsFind findBy at e
 rw[←Array.find?_toList] at e
 unfold PySem.W.lookIn
 rw[hd]
 dsimp only
 split
 ·rename_i y q
  rw[q] at e
  exact bu some e
 ·rename_i q
  rw[q] at e
  have a:es.toList.any (·.refKey)=false:=by
   rw[List.any_eq_false]
   intro y hy
   obtain⟨z,t,hkey⟩:=hk y (Array.mem_toList_iff.mp hy)
   simp [DictEntry.refKey,hkey]
  have a':¬ es.toList.any (·.refKey)=true:=by rw[a];exact bE
  rw[if_neg a']
  exact bu some e

theorem wg.look {x dx C:Addr} (I:wg h x dx C mA):∃ od,PySem.W.InstAt h x (PySem.W.instObj C dx) C (some od)/\∀ name,PySem.W.lookIn name od=some (mA name) :=
 let ⟨od,ho,hl⟩:=zT I.ns
 ⟨od,⟨I.obj,rfl,rfl,ho⟩,hl⟩

section
variable {prog:Program}{w:World}{A:Around}{E:Value->Shared->Prop}{s:Shared}{K:PySem.W.Frag}{x dx C f:Addr}{mA:Str->Option Value}{name:Str}{v:Value}

theorem get_map {expr:Bool}{Q:Value->Shared->Prop} (X:K.In s.heap) (I:wg s.heap x dx C mA) (hg:PySem.W.plainGet K C name=true) (hh:PySem.W.hasDictIn K C=true)
  (ha:PySem.W.findIn K (.ref C) name=some none) (hv:mA name=some v) (hv':PySem.W.handedIn v=true) (h:Q v { s with toks:=s.toks+1 }) :
  wpAny (model prog w) A (getAttr (.ref x) name expr) Q E s:=by
 obtain⟨od,J,hl⟩:=I.look
 exact PySem.W.get_value X J (PySem.W.plainGet_of hg).1 (PySem.W.findObj_own hh ha rfl (by rw[hl,hv])) hv' h

theorem B4 {pl:Sem Bool}{Q:Value×List Value->Shared->Prop} (X:K.In s.heap) (I:wg s.heap x dx C mA) (hg:PySem.W.plainGet K C name=true)
  (hf:PySem.W.findIn K (.ref C) name=some (some (.ref f))) (ht:PySem.W.isFn K (.ref f)=true) (hv:mA name=none) (h:Q (.ref f,[.ref x]) s) :
  wpAny (model prog w) A (getMethod (.ref x) name pl) Q E s:=by
 obtain⟨od,J,hl⟩:=I.look
 exact PySem.W.method_fn X J (PySem.W.plainGet_of hg).1 (PySem.W.plainGet_of hg).2 hf (fT.mp ht) (by show (PySem.W.lookIn name od).map (·.isSome)=some false;rw[hl,hv];rfl) h

theorem EU {ns:List Str}{Q:Unit->Shared->Prop} (X:K.In s.heap) (I:wg s.heap x dx C mA)
  (hs:PySem.W.findIn K (.ref C) "__setattr__"=some (some (.builtin "object.__setattr__"))) (hp:PySem.W.plainOver K C=true) (ht:PySem.W.takerIn K C name=some none) (hh:PySem.W.hasDictIn K C=true)
  (hw:PySem.Within mA ns) (hsz:ns.length<=sizeLine)
  (h:∀ h',wg h' x dx C (fun y=>if y=name then some v else mA y)->Heap.SameBut dx s.heap h'->Q () { s with heap:=h',toks:=s.toks+2 }) :
  wpAny (model prog w) A (setAttr (.ref x) name v) Q E s:=by
 obtain⟨od,J,hl⟩:=I.look
 refine PySem.W.set_plain X J hs (PySem.W.osa_open (s:={ s with toks:=s.toks+1 }) (r:=none) X J hp ht fun b=>?_)
 obtain⟨cd,hc,hd'⟩:=PySem.W.any_some hh
 have hx:s.heap.get? x=some ⟨.ref C,some dx,.plain,#[]⟩:=I.obj
 refine ah (ax (ah (ah (wpAny_loadPart hx (ah (PySem.W.Looks.here (s:={ s with toks:=s.toks+1 }) (PySem.W.looks_clsIn X hc) ?_))))))
 rw[hd']
 refine ax (a:=some dx) (ah (ax (ah ?_)))
 refine wpAny_nsSet1 (s:={ s with toks:=s.toks+1 }) I.ns fun h' hn2 hs2=>?_
 obtain⟨oD,esD,epD,hoD,hdD,hcD⟩:=hn2.count (PySem.Within.cons name v hw)
 refine ah (wpAny_lookBehind hoD (by rw[hdD];exact pastItsLine_dict (bA hcD (by rw[br];omega))) ?_)
 exact ax (h _ ⟨(hs2.2 _ (Ne.symm I.ne)).trans I.obj,hn2,I.ne⟩ hs2)

theorem BP {R:Result->Shared->Prop}{vs:List Value}{kw:List (Str×Value)} (X:K.In s.heap) (hm:PySem.W.makesIn K C=true)
  (hi:PySem.W.findIn K (.ref C) "__init__"=some (some (.ref f))) (hf:PySem.W.typeIn K (.ref f)=some (.type "function"))
  (h:codeAny (model prog w) (A.under (.builtin "type.__call__" ⟨.ref C::vs,kw⟩)) (.call (.ref f) ⟨.ref (s.heap.objs.size+1)::vs,kw⟩) (PySem.W.InitBack (s.heap.objs.size+1) R)
   { s with heap:=(s.heap.push PySem.W.emptyDict).push (PySem.W.instObj C s.heap.objs.size) }) :
  codeAny (model prog w) A (.call (.ref C) ⟨vs,kw⟩) R s:=by
 obtain⟨hh,g,d,t,os⟩:=s
 exact PySem.W.make_core (PySem.W.makes_of X hm) (PySem.W.looks_findIn X hi) (fun self=>PySem.W.bind_fn X self hf) (.inl rfl) h
end

def fm (f:Str) (v:V):List (Str×V)->List (Str×V)
 | []=>[(f,v)]
 | (g,x)::r=>if g=f then (g,v)::r else (g,x)::fm f v r
theorem pz (f g:Str) (v:V):∀ fs:List (Str×V),(fm f v fs).lookup g=if g=f then some v else fs.lookup g
 | []=>by
  show List.lookup g [(f,v)]=_
  by_cases h:g=f
  ·have hb:(g==f)=true:=fT.mpr h
   simp only[List.lookup,hb,if_pos h]
  ·have hb:(g==f)=false:=jO.mpr h
   simp only[List.lookup,hb,if_neg h]
 | (k,x)::r=>by
  have ih:=pz f g v r
  rw[show fm f v ((k,x)::r)=(if k=f then (k,v)::r else (k,x)::fm f v r) from rfl]
  by_cases hk:k=f
  ·rw[if_pos hk]
   by_cases h:g=k
   ·have hb:(g==k)=true:=fT.mpr h
    simp only[List.lookup,hb,if_pos (h.trans hk)]
   ·have hb:(g==k)=false:=jO.mpr h
    simp only[List.lookup,hb,if_neg (fun e:g=f=>h (e.trans hk.symm))]
  ·rw[if_neg hk]
   by_cases h:g=k
   ·have hb:(g==k)=true:=fT.mpr h
    simp only[List.lookup,hb,if_neg (fun e:g=f=>hk (h.symm.trans e))]
   ·have hb:(g==k)=false:=jO.mpr h
    simp only[List.lookup,hb]
    exact ih
theorem oN (f:Str) (v:V):∀ fs:List (Str×V),f∈(fm f v fs).map (·.1)/\∀ g,g∈fs.map (·.1)->g∈(fm f v fs).map (·.1)
 | []=>⟨by simp [fm],fun g h=>by simp at h⟩
 | (k,x)::r=>by
  obtain⟨i1,i2⟩:=oN f v r
  rw[show fm f v ((k,x)::r)=(if k=f then (k,v)::r else (k,x)::fm f v r) from rfl]
  by_cases hk:k=f
  ·rw[if_pos hk]
   subst hk
   exact⟨by simp,fun g h=>by simpa using h⟩
  ·rw[if_neg hk]
   refine⟨?_,fun g h=>?_⟩
   ·rw[bz]
    exact List.mem_cons_of_mem _ i1
   ·rw[bz] at h ⊢
    rcases aD.mp h with e | e
    ·exact aD.mpr (.inl e)
    ·exact List.mem_cons_of_mem _ (i2 g e)
theorem pw (f:Str) (v:V):∀ fs:List (Str×V),(fm f v fs).length<=fs.length+1
 | []=>by simp [fm]
 | (k,x)::r=>by
  have ih:=pw f v r
  rw[show fm f v ((k,x)::r)=(if k=f then (k,v)::r else (k,x)::fm f v r) from rfl]
  by_cases hk:k=f
  ·rw[if_pos hk,br,br];omega
  ·rw[if_neg hk,br,br];omega

theorem iX.some_of {v:V}{o:Option Value} (r:iX (some v) o):∃ u,o=some u/\RelV v u:=by
 cases o with
 | none=>exact (show False from r).elim
 | some u=>exact⟨u,rfl,r⟩
theorem iX.none_of {o:Option Value} (r:iX none o):o=none:=by
 cases o with
 | none=>rfl
 | some u=>exact (show False from r).elim
theorem zL {v:V} (r:RelV v u):PySem.W.handedIn u=true:=by
 cases v with
 | non=>cases (show u=Value.none from r);rfl
 | bl b=>cases (show u=Value.bool b from r);rfl
 | int i=>obtain⟨t,e⟩:=(show ∃ t,u=Value.int i t from r);cases e;rfl
 | str x=>obtain⟨t,e⟩:=(show ∃ t,u=Value.str x t from r);cases e;rfl
 | byt b=>obtain⟨t,e⟩:=(show ∃ t,u=Value.bytes b t from r);cases e;rfl
 | flt b=>obtain⟨t,e⟩:=(show ∃ t,u=Value.float b t from r);cases e;rfl
 | ref a=>cases (show u=Value.ref a from r);rfl
 | ty n=>cases (show u=Value.type n from r);rfl

section
variable {P:Program}{w:World}{H H':Hp}{h h':Heap}{a C dx:Addr}{fs fs':List (Str×V)}
theorem pY (hok:HOk P w H h) (e:H a=some (.ins C dx fs)):∃ mA,wg h a dx C mA/\(∀ f,iX (fs.lookup f) (mA f))/\PySem.Within mA (fs.map (·.1))/\fs.length<=1000/\H dx=some (.own a):=by
 obtain⟨d,z,ne,ob,mA,n,r,q⟩:=(show bH P w H h a (.ins C dx fs) from hok a _ e)
 exact⟨mA,⟨ob,n,ne⟩,r,q,z,d⟩
end

structure Cls (K:PySem.W.Frag) (C:Addr):Prop where
 pg:PySem.W.plainGet K C Str.empty=true
 hd:PySem.W.hasDictIn K C=true
 po:PySem.W.plainOver K C=true
 sa:PySem.W.findIn K (.ref C) "__setattr__"=some (some (.builtin "object.__setattr__"))
theorem Cls.get (c:Cls K C) (f:Str):PySem.W.plainGet K C f=true:=c.pg
def dW (K:PySem.W.Frag) (C:Addr) (f:Str):Prop:=PySem.W.findIn K (.ref C) f=some none
theorem dW.Jb {f:Str} (n:dW K C f):PySem.W.takerIn K C f=some none:=by
 unfold PySem.W.takerIn
 rw[show PySem.W.findIn K (.ref C) f=some none from n]
 rfl
structure Meth (K:PySem.W.Frag) (C:Addr) (m:Str) (f:Addr):Prop where
 at_:PySem.W.findIn K (.ref C) m=some (some (.ref f))
 fn:PySem.W.isFn K (.ref f)=true
 kp:PySem.W.keepIn K (.ref f)=true

section
variable {X:Cx}{pins:List (Addr×Obj)}{σ:St}{H:Hp}{s:Shared}{a C dx:Addr}{fs:List (Str×V)}{f:Str}{v:V}{A:Around}{E:Value->Shared->Prop}

theorem wX {b:Bool}{Q:Value->Shared->Prop} (I:Inv X pins σ H s) (e:H a=some (.ins C dx fs)) (c:Cls X.K C) (n:dW X.K C f) (l:fs.lookup f=some v)
  (h:∀ u s',Inv X pins σ H s'->RelV v u->Q u s'):wpAny (model X.prog X.w) A (getAttr (.ref a) f b) Q E s:=by
 obtain⟨mA,O,r,_,_,_⟩:=pY I.hok e
 obtain⟨u,hu,ru⟩:=iX.some_of (v:=v) (o:=mA f) (by rw[←l];exact r f)
 exact get_map I.kIn O (c.get f) c.hd n hu (zL ru) (h u _ (I.tok _) ru)

theorem jZ {m:Str}{g:Addr}{pl:Sem Bool}{Q:Value×List Value->Shared->Prop} (I:Inv X pins σ H s) (e:H a=some (.ins C dx fs)) (c:Cls X.K C) (k:Meth X.K C m g) (l:fs.lookup m=none)
  (h:Q (.ref g,[.ref a]) s):wpAny (model X.prog X.w) A (getMethod (.ref a) m pl) Q E s:=by
 obtain⟨mA,O,r,_,_,_⟩:=pY I.hok e
 have hn:mA m=none:=iX.none_of (by rw[←l];exact r m)
 exact B4 I.kIn O (c.get m) k.at_ k.fn hn h

theorem xM {y:V}{Q:Unit->Shared->Prop} (I:Inv X pins σ H s) (e:H a=some (.ins C dx fs)) (c:Cls X.K C) (n:dW X.K C f) (hl:fs.length<1000) (ry:RelV y u)
  (h:∀ s',Inv X pins σ (upd H a (.ins C dx (fm f y fs))) s'->Q () s'):wpAny (model X.prog X.w) A (setAttr (.ref a) f u) Q E s:=by
 obtain⟨mA,O,r,wi,_,ho⟩:=pY I.hok e
 have hz:(fs.map (·.1)).length<=sizeLine:=by rw[List.length_map,sizeLine_eq];omega
 refine EU I.kIn O c.sa c.po n.Jb c.hd wi hz fun h' O' sb=>h _ ?_
 have hd:∃ o,h'.get? dx=some o:=let ⟨o,_,_,e',_⟩:=O'.ns;⟨o,e'⟩
 refine I.write (x:=a) (e:=dx) (by rw[e];exact True.intro) (.inr ho) (fun b q hb z=>(sb.2 b hb).trans z) hd ?_
 refine⟨by rw[ar O.ne];exact ho,?_,O.ne,O'.obj,_,O'.ns,fun g=>?_,fun g hg=>?_⟩
 ·have:=pw f y fs;omega
 ·show iX ((fm f y fs).lookup g) (if g=f then some u else mA g)
  rw[pz]
  by_cases q:g=f
  ·rw[if_pos q,if_pos q];exact ry
  ·rw[if_neg q,if_neg q];exact r g
 ·by_cases q:g=f
  ·rw[q];exact (oN f y fs).1
  ·refine (oN f y fs).2 g (wi g fun z=>hg ?_)
   show (if g=f then some u else mA g)=none
   rw[if_neg q];exact z

theorem Inv.made (I:Inv X pins σ H s):Inv X pins σ (upd (upd H s.heap.objs.size (.own (s.heap.objs.size+1))) (s.heap.objs.size+1) (.ins C s.heap.objs.size []))
  { s with heap:=(s.heap.push PySem.W.emptyDict).push (PySem.W.instObj C s.heap.objs.size) }:=by
 have e1:(s.heap.push PySem.W.emptyDict).get? s.heap.objs.size=some PySem.W.emptyDict:=aZ s.heap rfl
 have e2:((s.heap.push PySem.W.emptyDict).push (PySem.W.instObj C s.heap.objs.size)).get? (s.heap.objs.size+1)=some (PySem.W.instObj C s.heap.objs.size):=by
  have:=aZ (s.heap.push PySem.W.emptyDict) (o:=PySem.W.instObj C s.heap.objs.size) rfl
  rwa [iA] at this
 have e3:(s.heap.push PySem.W.emptyDict).Ns s.heap.objs.size (fun _=>none):=⟨PySem.W.emptyDict,#[],_,e1,rfl,(fun e he=>absurd he (by simp)),fun _=>rfl⟩
 have I1:=I.laid (a:=s.heap.objs.size) (o:=.own (s.heap.objs.size+1)) (h':=s.heap.push PySem.W.emptyDict) (t':=s.toks) (fun b u q=>aH _ q) (ai _) ⟨_,e1⟩
 refine I1.laid (a:=s.heap.objs.size+1) (o:=.ins C s.heap.objs.size []) (t':=s.toks) (fun b u q=>aH _ q) (Nat.le_of_eq (iA _ _)) ?_
 have ne:s.heap.objs.size≠s.heap.objs.size+1:=bf (jM _)
 refine⟨by rw[ar ne,az],bh _,ne,e2,fun _=>none,(Heap.Ns1.of_empty e3).at fun o q=>aH _ q,fun _=>True.intro,fun y hy=>absurd rfl hy⟩

theorem DE {prog:Program}{w:World}{env:Env}{f:Str}{pos:Pos}{s:Shared}{Q:Value->Shared->Prop} (hb:attributeBase e f env (eval e env)=eval e env)
  (h:wpAny (model prog w) A (eval e env) (fun o s₁=>wpAny (model prog w) A (getAttr o f true) Q E s₁) E s):wpAny (model prog w) A (eval (.Attribute e f pos) env) Q E s :=
 Attribute_any_ h (by rw[arm_eval_Attribute,hb])
end

def JE (K:PySem.W.Frag) (ta:TE) (f:Str):TE:=fun σ H Q=>ta σ H fun x H1=>∃ a C dx fs v,x=.ref a/\H1 a=some (.ins C dx fs)/\Cls K C/\dW K C f/\fs.lookup f=some v/\Q v H1
def JC (K:PySem.W.Frag) (ta tv:TE) (f:Str):TS:=fun D σ H=>tv σ H fun y H1=>ta σ H1 fun x H2=>∃ a C dx fs,x=.ref a/\H2 a=some (.ins C dx fs)/\Cls K C/\dW K C f/\fs.length<1000 ∧
 D.nx σ (upd H2 a (.ins C dx (fm f y fs)))
section
variable {X:Cx}{o e value:Expr}{f:Str}{pos pos' tpos:Pos}{ta tv:TE}
theorem Hu (he:PE X e ta) (hb:attributeBase e f X.env (eval e X.env)=eval e X.env):PE X (.Attribute e f pos) (JE X.K ta f):=by
 intro pins s σ H Q I h
 refine DE hb (thn (he pins s σ H _ I h) fun u s1 ⟨x,H1,I1,rx,a,C,dx,fs,v,ex,ea,c,n,l,q⟩=>?_)
 subst ex
 obtain rfl:u=Value.ref a:=rx
 exact wX I1 ea c n l fun u' s2 I2 ru=>⟨v,H1,I2,ru,q⟩
theorem HA (ha:PE X o ta) (hv:PE X value tv) (hs:swapsWith value (some (.Attribute o f pos')) pos.line X.env=pure false):PS X (.Assign [.Attribute o f pos'] value pos) (JC X.K ta tv f):=by
 intro pins s σ H D I h
 refine plainObj_wpAny_Assign_Attribute (thn (hv pins s σ H _ I h) fun u s1 ⟨y,H1,I1,ry,q⟩=>thn (ha pins s1 σ H1 _ I1 q) fun ov s2 ⟨x,H2,I2,rx,a,C,dx,fs,ex,ea,c,n,l,q2⟩=>?_) hs
 subst ex
 obtain rfl:ov=Value.ref a:=rx
 exact xM I2 ea c n l ry fun s3 I3=>⟨σ,_,I3,q2⟩
end

section
variable {X:Cx}{pins:List (Addr×Obj)}{σ:St}{H:Hp}{s:Shared}{A:Around}{E:Value->Shared->Prop}{Q:Value->Shared->Prop}{c:Value}{b:Bool}
inductive m6 (K:PySem.W.Frag) (H:Hp):V->Value->Prop where
 | non:m6 K H .non (.type "NoneType")
 | bl (x:Bool):m6 K H (.bl x) (.type "bool")
 | int (i:Int):m6 K H (.int i) (.type "int")
 | str (x:Str):m6 K H (.str x) (.type "str")
 | flt (x:UInt64):m6 K H (.flt x) (.type "float")
 | lst {a:Addr}{xs:List V} (e:H a=some (.lst xs)):m6 K H (.ref a) (.type "list")
 | frz {a:Addr}{o:Obj}{xs:List V} (e:H a=some (.frz o (.lst xs))):m6 K H (.ref a) (.type "list")
 | tup {a:Addr}{xs:List V} (e:H a=some (.tup xs)):m6 K H (.ref a) (.type "tuple")
 | dK {a:Addr}{kvs:List (Key×V)} (e:H a=some (.dK kvs)):m6 K H (.ref a) (.type "dict")
 | dT {a:Addr}{kvs:List (List Key×V)} (e:H a=some (.dT kvs)):m6 K H (.ref a) (.type "dict")
 | ins {a C dx:Addr}{fs:List (Str×V)} (e:H a=some (.ins C dx fs)) (cl:Cls K C) (ha:PySem.W.findIn K (.ref C) "__class__"=some (some (.builtin "object.__class__")))
   (hn:PySem.W.specialIn K (.builtin "object.__class__") "__get__"=some (some (.builtin "getset_descriptor.__get__"))) (htk:PySem.W.takesIn K (.builtin "object.__class__")=some true)
   (hm:PySem.W.mroIn K C (.type "object")=some true):m6 K H (.ref a) (.ref C)
theorem isinst_ok {x:V}{u t:Value} (I:Inv X pins σ H s) (rx:RelV x u) (ty:m6 X.K H x t) (e:PySem.W.kitOne X.K t c=some b) (h:∀ tk,Q (.bool b) { s with toks:=tk }) :
  wpAny (model X.prog X.w) A (call (.builtin "isinstance") [u,c]) Q E s:=by
 cases ty with
 | non=>cases (show u=Value.none from rx);exact dH PySem.W.kitx_none I.kIn True.intro e (fun z=>nomatch z) h
 | bl y=>cases (show u=Value.bool y from rx);exact dH PySem.W.kitx_bool I.kIn True.intro e (fun z=>nomatch z) h
 | int i=>obtain⟨t,q⟩:=(show ∃ t,u=Value.int i t from rx);cases q;exact dH PySem.W.kitx_int I.kIn True.intro e (fun z=>nomatch z) h
 | str y=>obtain⟨t,q⟩:=(show ∃ t,u=Value.str y t from rx);cases q;exact dH PySem.W.kitx_str I.kIn True.intro e (fun z=>nomatch z) h
 | flt y=>obtain⟨t,q⟩:=(show ∃ t,u=Value.float y t from rx);cases q;exact dH PySem.W.kitx_float I.kIn True.intro e (fun z=>nomatch z) h
 | @lst a xs ea =>
  cases (show u=Value.ref a from rx)
  obtain⟨_,_,n,_,h1⟩:=(show bH X.prog X.w H s.heap a (.lst xs) from I.hok a _ ea)
  exact dH PySem.W.kitx_list I.kIn ⟨_,h1,rfl⟩ e (fun z=>nomatch z) h
 | @frz a ob xs ea =>
  cases (show u=Value.ref a from rx)
  obtain⟨_,_,_,n,_,h1⟩:=(show bH X.prog X.w H s.heap a (.frz ob (.lst xs)) from I.hok a _ ea)
  exact dH PySem.W.kitx_list I.kIn ⟨_,h1,rfl⟩ e (fun z=>nomatch z) h
 | @tup a xs ea =>
  cases (show u=Value.ref a from rx)
  obtain⟨_,_,_,p⟩:=(show bH X.prog X.w H s.heap a (.tup xs) from I.hok a _ ea)
  obtain⟨o,h1,h2,_⟩:=p
  exact dH PySem.W.kitx_tuple I.kIn ⟨o,h1,h2⟩ e (fun z=>nomatch z) h
 | @dK a kvs ea =>
  cases (show u=Value.ref a from rx)
  obtain⟨_,_,vs,_,p⟩:=(show bH X.prog X.w H s.heap a (.dK kvs) from I.hok a _ ea)
  obtain⟨o,es,ep,h1,h2,_⟩:=p
  exact dH PySem.W.kitx_dict I.kIn ⟨o,h1,h2.1⟩ e (fun z=>nomatch z) h
 | @dT a kvs ea =>
  cases (show u=Value.ref a from rx)
  obtain⟨_,_,xs,_,o,es,ep,h1,h2,_⟩:=(show bH X.prog X.w H s.heap a (.dT kvs) from I.hok a _ ea)
  exact dH PySem.W.kitx_dict I.kIn ⟨o,h1,h2.1⟩ e (fun z=>nomatch z) h
 | @ins a C dx fs ea cl ha hn htk hm =>
  cases (show u=Value.ref a from rx)
  obtain⟨mA,O,_⟩:=pY I.hok ea
  obtain⟨od,J,_⟩:=O.look
  exact dH (PySem.W.kitx_own (cl.get _) cl.hd ha hn htk hm) I.kIn J e (fun z=>nomatch z) h
end
end
section

structure bZ (k:Nat) (A:Around):Prop where
 hd:A.handled=none
 dp:A.depth+3*k+5<recursionLimit
 un:A.units+16*k+200<cLine
theorem bZ.mono {j k:Nat} (r:bZ k A) (h:j<=k):bZ j A:=⟨r.hd,by have:=r.dp;omega,by have:=r.un;omega⟩
theorem bZ.deeper {k:Nat}{A:Around} (r:bZ (k+1) A) (env:Env):bZ k (A.deeper env) :=
 ⟨r.hd,by have:=r.dp;show A.depth+1+3*k+5<_;omega,by have:=r.un;show A.units+3+16*k+200<_;omega⟩
theorem bZ.in1 {k:Nat}{A:Around} (r:bZ (k+1) A):bZ k A.in1 :=
 ⟨r.hd,by have:=r.dp;show A.depth+3*k+5<_;omega,by have:=r.un;show A.units+1+16*k+200<_;omega⟩
theorem xj :(A.under (.builtin "type.__call__" ⟨.ref C::us,kw⟩)).depth=A.depth+1:=by
 first | rfl | simp [Around.under,Code.weight,Code.isCreation,Code.isGuard,Code.isCaller,Code.frames,Code.isFrame,guardIds]
theorem xk :(A.under (.builtin "type.__call__" ⟨.ref C::us,kw⟩)).units=A.units+1:=by
 first | rfl | simp [Around.under,Code.cUnits,Code.frames,Code.isFrame]
theorem bZ.make {k:Nat} (r:bZ (k+1) A) (C:Addr) (us:List Value) (kw:List (Str×Value)):bZ k (A.under (.builtin "type.__call__" ⟨.ref C::us,kw⟩)) :=
 ⟨r.hd,by have:=r.dp;rw[xj];omega,by have:=r.un;rw[xk];omega⟩
theorem bZ.depth {k:Nat}{A:Around} (r:bZ k A):A.depth<recursionLimit:=by have:=r.dp;omega
theorem bZ.units {k:Nat}{A:Around} (r:bZ k A):A.units+64<cLine:=by have:=r.un;omega
theorem bZ.ft {k:Nat} (r:bZ k A):A.units<cLine:=by have:=r.un;omega

def EZ:TA:=fun _ H Q=>Q [] H
def CU (ta:TE) (tr:TA):TA:=fun σ H Q=>ta σ H fun x H1=>tr σ H1 fun xs H2=>Q (x::xs) H2
section
variable {X:Cx}{e:Expr}{es:List Expr}{te:TE}{t:TA}{pos:Pos}
theorem aa:PA X [] EZ:=fun _ _ _ _ H Q I h=>Calls.spliced_nil ⟨[],H,I,.nil,h⟩
theorem Ey (ha:PE X e te) (hr:PA X es t) (hs:starEach (e::es) X.env=(false,eval e X.env)::starEach es X.env:=by rfl):PA X (e::es) (CU te t):=by
 intro pos pins s σ H Q I h
 rw[hs]
 show wpAny _ _ (spliced ((false,eval e X.env)::backTo pos (starEach es X.env))) _ _ s
 refine mj (thn (ha pins s σ H _ I h) fun u s1 ⟨x,H1,I1,r1,q1⟩=>?_)
 exact thn (hr pos pins s1 σ H1 _ I1 q1) fun us s2 ⟨xs,H2,I2,r2,q2⟩=>⟨x::xs,H2,I2,.cons r1 r2,q2⟩

end

abbrev Sp:=List V->Hp->VK->XK->Prop
abbrev CXT:=List Env->Hp->Shared->XK->Value->Shared->Prop

structure oA (P:Program) (w:World) (K:PySem.W.Frag) (mg:Str->Option Value) (base:Heap) (A:Around) (outer:List Env) (s:Shared) (H:Hp):Prop where
 frames:A.frames=some outer
 mod:Mod K mg base
 bs:∀ b o,base.get? b=some o->s.heap.get? b=some o/\H b=none
 bsz:base.objs.size<=s.heap.objs.size
 kJ:s.heap.FunFrames base outer
 frf:∀ b∈frs outer,H b=none
 hok:HOk P w H s.heap
 bare:AllBare s.gens
def CE (outer:List Env) (P:Program) (w:World) (H:Hp) (s:Shared) (Q:VK) (u:Value) (s':Shared):Prop :=
 ∃ v H',s'.os=s.os/\AllBare s'.gens/\Un (frs outer) [] H H' s.heap s'.heap/\HOk P w H' s'.heap/\RelV v u/\Q v H'
def CR (CX:CXT) (outer:List Env) (P:Program) (w:World) (H:Hp) (s:Shared) (Q:VK) (E:XK) (r:Result) (s':Shared):Prop :=
 match r with
 | .ok (.ret u)=>CE outer P w H s Q u s'
 | .ok _=>False
 | .error e=>CX outer H s E e s'
structure bI (P:Program) (w:World) (K:PySem.W.Frag) (mg:Str->Option Value) (base:Heap) (CX:CXT) (k:Nat) (f:Addr) (fd:FuncData) (ps:List Str) (sp:Sp):Prop where
 len:∀ vs H Q E,sp vs H Q E->vs.length=ps.length
 run:∀ (A:Around) (outer:List Env) (s:Shared) (H:Hp) (args:Args) (us:List Value) (vs:List V) (Q:VK) (E:XK),bZ k A->oA P w K mg base A outer s H->BindsTo s fd args (ps.zip us)->Vals vs us->sp vs H Q E →
  codeAny (model P w) A (.call (.ref f) args) (CR CX outer P w H s Q E) s
theorem bI.mono {P:Program}{w:World}{K:PySem.W.Frag}{mg:Str->Option Value}{base:Heap}{CX:CXT}{j k:Nat}{f:Addr}{fd:FuncData}{ps:List Str}{sp:Sp} (F:bI P w K mg base CX j f fd ps sp) (h:j<=k) :
  bI P w K mg base CX k f fd ps sp:=⟨F.len,fun A outer s H args us vs Q E hr=>F.run A outer s H args us vs Q E (hr.mono h)⟩
theorem bI.imp {CX:CXT}{k:Nat}{f:Addr}{sp sp':Sp} (F:bI P w K mg base CX k f fd ps sp)
  (h:∀ vs H Q E,sp' vs H Q E->sp vs H Q E):bI P w K mg base CX k f fd ps sp' :=
 ⟨fun vs H Q E q=>F.len vs H Q E (h _ _ _ _ q),fun A outer s H args us vs Q E hr he hb hv hs=>F.run A outer s H args us vs Q E hr he hb hv (h _ _ _ _ hs)⟩

theorem oA.make {H:Hp} (e:oA P w K mg base A outer s H) (C:Addr) (us:List Value) (kw:List (Str×Value)) :
  oA P w K mg base (A.under (.builtin "type.__call__" ⟨.ref C::us,kw⟩)) outer s H:=⟨by first | exact e.frames | (simpa [Around.under,Code.envs,Code.isFrame,pushEnvs] using e.frames),e.mod,e.bs,e.bsz,e.kJ,e.frf,e.hok,e.bare⟩
theorem oA.in1 {P:Program}{w:World}{K:PySem.W.Frag}{mg:Str->Option Value}{base:Heap}{A:Around}{outer:List Env}{s:Shared}{H:Hp} (e:oA P w K mg base A outer s H) :
  oA P w K mg base A.in1 outer s H:=⟨e.frames,e.mod,e.bs,e.bsz,e.kJ,e.frf,e.hok,e.bare⟩

section
variable {X:Cx}{pins:List (Addr×Obj)}{σ:St}{H:Hp}{s s':Shared}
theorem Inv.Bh (I:Inv X pins σ H s):oA X.prog X.w X.K X.mg X.base X.A X.stack s H :=
 ⟨I.ok.frames,I.ok.mod,I.bs,bA I.ok.bsz I.sz,I.stack,I.nT,I.hok,I.bare⟩
theorem Inv.after {Q:VK} (I:Inv X pins σ H s) (h:CE X.stack X.prog X.w H s Q u s'):EP X pins σ Q u s':=by
 obtain⟨v,H',os,bare,un,hok,r,q⟩:=h
 obtain⟨hh,g,d,t,os'⟩:=s'
 obtain rfl:os'=s.os:=os
 exact⟨v,H',I.call (h':=hh) (g':=g) (d':=d) (t':=t) (ch:=[]) un hok bare (fun b z=>absurd z (by simp)),r,q⟩
end

def yL (sp:Sp) (dvs:List V) (E:St->XK) (t:TA):TE:=fun σ H Q=>t σ H fun vs H1=>sp (vs++dvs) H1 Q (E σ)
def FE (C:Addr) (m:Str) (sp:Sp) (dvs:List V) (E:St->XK) (ta:TE) (t:TA):TE:=fun σ H Q=>ta σ H fun x H1=>∃ a dx fs,x=.ref a/\H1 a=some (.ins C dx fs)/\fs.lookup m=none ∧
 t σ H1 fun vs H2=>sp (x::(vs++dvs)) H2 Q (E σ)
def IV (C:Addr) (sp:Sp) (dvs:List V) (E:St->XK) (t:TA):TE:=fun σ H Q=>t σ H fun vs H1=>∀ x dx,H1 x=none->H1 dx=none->dx≠x →
 sp (.ref x::(vs++dvs)) (upd (upd H1 dx (.own x)) x (.ins C dx [])) (fun v H2=>v=.non/\Q (.ref x) H2) (E σ)

def Binds (K:PySem.W.Frag) (fd:FuncData) (ps:List Str) (ds:List Value):Prop :=
 ∀ (s:Shared) (us:List Value),K.In s.heap->(us++ds).length=ps.length->BindsTo s fd ⟨us,[]⟩ (ps.zip (us++ds))
theorem Binds.all (h:∀ us:List Value,us.length=ps.length->bindArgs fd ⟨us,[]⟩=pure (ps.zip us)):Binds K fd ps []:=fun s us _ hl=>by
 rw[List.append_nil] at hl ⊢
 exact .of_eq (h us hl)

def Passes (CX:CXT) (X:Cx) (E:St->XK):Prop:=∀ (pins:List (Addr×Obj)) (σ:St) (H:Hp) (s:Shared) (e:Value) (s':Shared),Inv X pins σ H s->CX X.stack H s (E σ) e s'->X.xe e s'

section
variable {X:Cx}{CX:CXT}{k:Nat}{f C:Addr}{fd:FuncData}{ps:List Str}{sp:Sp}{dvs:List V}{ds:List Value}{E:St->XK}{x m:Str}{p pos apos:Pos}{e o:Expr}{es:List Expr}{ta:TE}{t:TA}

theorem xI {pins:List (Addr×Obj)}{σ:St}{H:Hp}{s:Shared}{Q:VK}{us:List Value}{vs:List V} (F:bI X.prog X.w X.K X.mg X.base CX k f fd ps sp) (hr:bZ k X.A) (hb:Binds X.K fd ps ds) (hd:Vals dvs ds) (hx:Passes CX X E)
  (I:Inv X pins σ H s) (r:Vals vs us) (h:sp (vs++dvs) H Q (E σ)):wpAny (model X.prog X.w) X.A (call (.ref f) us) (EP X pins σ Q) X.xe s:=by
 have r2:Vals (vs++dvs) (us++ds):=r.append hd
 have hl:(us++ds).length=ps.length:=by rw[←r2.length];exact F.len _ _ _ _ h
 refine gK (fU (F.run X.A X.stack s H ⟨us,[]⟩ (us++ds) (vs++dvs) Q (E σ) hr I.Bh (hb s us I.kIn hl) r2 h) fun r s' hq=>?_)
 cases r with
 | error e=>exact hx pins σ H s e s' I hq
 | ok fl =>
  cases fl with
  | ret u=>exact I.after hq
  | next=>exact False.elim hq
  | brk=>exact False.elim hq
  | cont=>exact False.elim hq

theorem E6 (F:bI X.prog X.w X.K X.mg X.base CX k f fd ps sp) (hr:bZ k X.A) (hg:Gl X x) (hm:X.mg x=some (.ref f)) (hk:PySem.W.keepIn X.K (.ref f)=true) (hb:Binds X.K fd ps ds) (hd:Vals dvs ds) (hx:Passes CX X E)
  (ha:PA X (e::es) t) (hdb:(x==("__debug__":Str))=false:=by decide) (he:starEach (e::es) X.env=(false,eval e X.env)::starEach es X.env:=by rfl) (hpl:(backTo pos (starEach es X.env)).any (·.1)=false:=by rfl) :
  PE X (.Call (.Name x p) (e::es) [] pos) (yL sp dvs E t):=by
 intro pins s σ H Q I h
 refine lT (lZ I hg hm ?_ hdb)
 refine lR (h₀:=X.base) I.ok.mod.kin hk (thn (ha pos pins s σ H _ I h) fun us s1 ⟨vs,H1,I1,r,q⟩=>⟨I1.kIn,?_⟩) he hpl
 exact xI F hr hb hd hx I1 r q
theorem yB {pl:Sem Bool} (he:PE X o ta) (c:Cls X.K C) (hm:Meth X.K C m f) (F:bI X.prog X.w X.K X.mg X.base CX k f fd ps sp) (hr:bZ k X.A) (hb:Binds X.K fd ps ds) (hd:Vals dvs ds) (hx:Passes CX X E) (ha:PA X (e::es) t)
  (hst:starEach (e::es) X.env=(false,eval e X.env)::starEach es X.env:=by rfl) (hpl:(backTo pos (starEach es X.env)).any (·.1)=false:=by rfl)
  (ht:eval (.Call (.Attribute o m apos) (e::es) [] pos) X.env=(do
   let ov ←eval o X.env
   standAt apos.atName
   let (f,first) ←holding [ov] (getMethod ov m pl)
   callWith pos f first (backTo pos (starEach (e::es) X.env)) (backToKw pos (keywordEach [] X.env))):=by rfl) :
  PE X (.Call (.Attribute o m apos) (e::es) [] pos) (FE C m sp dvs E ta t):=by
 intro pins s σ H Q I h
 refine ot (pl:=pl) (thn (he pins s σ H _ I h) fun u s1 ⟨x,H1,I1,rx,a,dx,fs,ex,ea,l,q⟩=>?_) ht
 subst ex
 obtain rfl:u=Value.ref a:=rx
 refine jZ I1 ea c hm l ?_
 refine lR (first:=[.ref a]) (h₀:=X.base) I.ok.mod.kin hm.kp (thn (ha pos pins s1 σ H1 _ I1 q) fun us s2 ⟨vs,H2,I2,r,q2⟩=>⟨I2.kIn,?_⟩) hst hpl
 exact xI (us:=.ref a::us) (vs:=.ref a::vs) F hr hb hd hx I2 (.cons rfl r) q2
theorem Co {pl:Sem Bool} (he:PE X o ta) (c:Cls X.K C) (hm:Meth X.K C m f) (F:bI X.prog X.w X.K X.mg X.base CX k f fd ps sp) (hr:bZ k X.A) (hb:Binds X.K fd ps ds) (hd:Vals dvs ds) (hx:Passes CX X E)
  (ht:eval (.Call (.Attribute o m apos) [] [] pos) X.env=(do
   let ov ←eval o X.env
   standAt apos.atName
   let (f,first) ←holding [ov] (getMethod ov m pl)
   callWith pos f first (backTo pos (starEach [] X.env)) (backToKw pos (keywordEach [] X.env))):=by rfl) :
  PE X (.Call (.Attribute o m apos) [] [] pos) (FE C m sp dvs E ta EZ):=by
 intro pins s σ H Q I h
 refine ot (pl:=pl) (thn (he pins s σ H _ I h) fun u s1 ⟨x,H1,I1,rx,a,dx,fs,ex,ea,l,q⟩=>?_) ht
 subst ex
 obtain rfl:u=Value.ref a:=rx
 refine jZ I1 ea c hm l ?_
 exact PySem.W.callWith_K0 (first:=[.ref a]) I1.kIn hm.kp (xI (us:=[.ref a]) (vs:=[.ref a]) F hr hb hd hx I1 (.cons rfl .nil) q)

structure Mk (K:PySem.W.Frag) (C f:Addr):Prop where
 makes:PySem.W.makesIn K C=true
 init:PySem.W.findIn K (.ref C) "__init__"=some (some (.ref f))
 fn:PySem.W.isFn K (.ref f)=true
 kp:PySem.W.keepIn K (.ref C)=true

theorem CG {pins:List (Addr×Obj)}{σ:St}{H:Hp}{s:Shared}{Q:VK}{us:List Value}{vs:List V} (M:Mk X.K C f) (F:bI X.prog X.w X.K X.mg X.base CX k f fd ps sp) (hr:bZ (k+1) X.A) (hb:Binds X.K fd ps ds) (hd:Vals dvs ds)
  (hx:Passes CX X E) (I:Inv X pins σ H s) (r:Vals vs us)
  (h:∀ x dx,H x=none->H dx=none->dx≠x->sp (.ref x::(vs++dvs)) (upd (upd H dx (.own x)) x (.ins C dx [])) (fun v H2=>v=.non/\Q (.ref x) H2) (E σ)) :
  wpAny (model X.prog X.w) X.A (call (.ref C) us) (EP X pins σ Q) X.xe s:=by
 have hq:=h (s.heap.objs.size+1) s.heap.objs.size (I.hok.fresh (iF _)) (I.hok.fresh (ai _)) (bf (jM _))
 have I2:=Inv.made (C:=C) I
 have r2:Vals (V.ref (s.heap.objs.size+1)::(vs++dvs)) (Value.ref (s.heap.objs.size+1)::(us++ds)):=.cons rfl (r.append hd)
 have hl:(Value.ref (s.heap.objs.size+1)::us++ds).length=ps.length:=by
  have e:=r2.length
  rw[F.len _ _ _ _ hq] at e
  exact e.symm
 refine gK (BP (f:=f) I.kIn M.makes M.init (fT.mp M.fn) (fU (F.run _ X.stack _ _ ⟨Value.ref (s.heap.objs.size+1)::us,[]⟩ (Value.ref (s.heap.objs.size+1)::(us++ds)) _ _ (E σ) (hr.make C us [])
  (I2.Bh.make C us []) (hb _ (Value.ref (s.heap.objs.size+1)::us) I2.kIn hl) r2 hq) fun r s' hq'=>?_))
 cases r with
 | error e=>exact hx pins σ _ _ e s' I2 hq'
 | ok fl =>
  cases fl with
  | ret u =>
   obtain⟨v,H',I3,rv,ev,q3⟩:=I2.after hq'
   subst ev
   exact⟨rv,⟨V.ref (s.heap.objs.size+1),H',I3,rfl,q3⟩⟩
  | next=>exact False.elim hq'
  | brk=>exact False.elim hq'
  | cont=>exact False.elim hq'
theorem EB (M:Mk X.K C f) (F:bI X.prog X.w X.K X.mg X.base CX k f fd ps sp) (hr:bZ (k+1) X.A) (hg:Gl X x) (hm:X.mg x=some (.ref C)) (hb:Binds X.K fd ps ds) (hd:Vals dvs ds) (hx:Passes CX X E)
  (ha:PA X (e::es) t) (hdb:(x==("__debug__":Str))=false:=by decide) (he:starEach (e::es) X.env=(false,eval e X.env)::starEach es X.env:=by rfl) (hpl:(backTo pos (starEach es X.env)).any (·.1)=false:=by rfl) :
  PE X (.Call (.Name x p) (e::es) [] pos) (IV C sp dvs E t):=by
 intro pins s σ H Q I h
 refine lT (lZ I hg hm ?_ hdb)
 refine lR (h₀:=X.base) I.ok.mod.kin M.kp (thn (ha pos pins s σ H _ I h) fun us s1 ⟨vs,H1,I1,r,q⟩=>⟨I1.kIn,?_⟩) he hpl
 exact CG M F hr hb hd hx I1 r q
end

section
variable {X:Cx}{CX:CXT}{k:Nat}{f C:Addr}{fd:FuncData}{ps ks:List Str}{sp:Sp}{E:St->XK}{x m:Str}{p pos apos kpos:Pos}{e o:Expr}{es:List Expr}{kws:List Keyword}{te ta:TE}{t tk:TA}{nm:Option Str}
variable {g:List Value->List Value->List Value}{gV:List V->List V->List V}
end

structure aM (N P:List Str) (sc:Scope):Prop where
 kind:sc.kind=.function
 co:sc.isCoroutine=false
 gen:sc.isGenerator=false
 nd:N.Nodup
 pre:N.take P.length=P
 par:∀ x∈P,sc.names.lookup x=some .local∨sc.names.lookup x=some .cell
 nofree:∀ y∈sc.names,y.2≠.free

theorem sv {kindOf:Str->Option NameKind}{x:Str}:∀ {binds:List (Str×Value)}{m:Str->Option Value},(∀ v,(x,v)∉binds)->bindL kindOf binds m x=m x
 | [],_,_=>rfl
 | (n,v)::r,m,h=>by
  unfold bindL
  rw[sv fun w hw=>h w (List.mem_cons_of_mem _ hw)]
  split
  ·have:x≠n:=by rintro rfl;exact h v List.mem_cons_self
   simp [this]
  ·rfl
theorem sr {kindOf:Str->Option NameKind}{x:Str}:∀ {binds:List (Str×Value)}{m:Str->Option Value},(∀ v,(x,v)∉binds)->bindC kindOf binds m x=m x
 | [],_,_=>rfl
 | (n,v)::r,m,h=>by
  unfold bindC
  rw[sr fun w hw=>h w (List.mem_cons_of_mem _ hw)]
  split
  ·rfl
  ·have:x≠n:=by rintro rfl;exact h v List.mem_cons_self
   simp [this]
theorem su {kindOf:Str->Option NameKind}{x:Str}{v:Value}:∀ {P:List Str}{vs:List Value}{i:Nat}{m:Str->Option Value},P.Nodup->P[i]?=some x->vs[i]?=some v->kindOf x=some .local →
  bindL kindOf (P.zip vs) m x=some v
 | [],_,_,_,_,h,_,_=>by simp at h
 | _::_,[],_,_,_,_,h,_=>by simp at h
 | p::P,w::vs,0,m,nd,h1,h2,hk=>by
  simp at h1 h2;subst h1;subst h2
  show bindL kindOf ((p,w)::P.zip vs) m p=_
  unfold bindL
  rw[sv fun v hv=>(c9.mp nd).1 (lK hv).1,if_pos hk]
  simp
 | p::P,w::vs,i+1,m,nd,h1,h2,hk=>by
  show bindL kindOf ((p,w)::P.zip vs) m x=_
  unfold bindL
  exact su (i:=i) (c9.mp nd).2 (by simpa using h1) (by simpa using h2) hk
theorem sq {kindOf:Str->Option NameKind}{x:Str}{v:Value}:∀ {P:List Str}{vs:List Value}{i:Nat}{m:Str->Option Value},P.Nodup->P[i]?=some x->vs[i]?=some v->kindOf x≠some .local →
  bindC kindOf (P.zip vs) m x=some v
 | [],_,_,_,_,h,_,_=>by simp at h
 | _::_,[],_,_,_,_,h,_=>by simp at h
 | p::P,w::vs,0,m,nd,h1,h2,hk=>by
  simp at h1 h2;subst h1;subst h2
  show bindC kindOf ((p,w)::P.zip vs) m p=_
  unfold bindC
  rw[sr fun v hv=>(c9.mp nd).1 (lK hv).1,if_neg hk]
  simp
 | p::P,w::vs,i+1,m,nd,h1,h2,hk=>by
  show bindC kindOf ((p,w)::P.zip vs) m x=_
  unfold bindC
  exact sq (i:=i) (c9.mp nd).2 (by simpa using h1) (by simpa using h2) hk

def start (N:List Str) (vs:List V):St:=vs.map some++List.replicate (N.length-vs.length) none

def mm (CX:CXT) (P:Program) (w:World) (K:PySem.W.Frag) (mg:Str->Option Value) (base:Heap) (N:List Str) (qual:Str) (scope:Scope) (f:Addr) (cd:Value) (A:Around) (outer:List Env) (s:Shared) (H:Hp) (E:XK):Cx where
 prog:=P
 w:=w
 K:=K
 mg:=mg
 base:=base
 A:=A.deeper (envOfC qual scope s.heap.objs.size f cd)
 N:=N
 s₀:=s
 H₀:=H
 env:=envOfC qual scope s.heap.objs.size f cd
 outer:=outer
 stack:=envOfC qual scope s.heap.objs.size f cd::outer
 ex:=[]
 calm:=true
 fn:=fun _=>true
 pn:=[]
 xe:=fun e s'=>wpAny (model P w) (A.deeper (envOfC qual scope s.heap.objs.size f cd)) (leaving (envOfC qual scope s.heap.objs.size f cd) e) (fun _ s''=>CX outer H s E e s'') (fun e' s''=>CX outer H s E e' s'') s'

theorem uO {sc:Scope}{n:Nat} (h:sc.names.lookup x=some .cell):∃ c,(cellsFrom n sc.names []).lookup x=some c:=by
 have q:=PySem.W.cellsFrom_some sc.names n [] (.inl h)
 exact lP.mp q

theorem sJ {CX:CXT}{P:Program}{w:World}{K:PySem.W.Frag}{mg:Str->Option Value}{base:Heap}{N ps:List Str}{qual:Str}{scope:Scope}{f:Addr}{cd:Value}{A:Around}{outer:List Env}{s s1:Shared}{H:Hp}{E:XK}{us:List Value}{vs:List V}
  (S:aM N ps scope) (hd:A.handled=none) (e0:oA P w K mg base A outer s H) (hl:vs.length=ps.length) (r:Vals vs us)
  (x:InCallC s s.heap.objs.size (bindL (envOfC qual scope s.heap.objs.size f cd).kindOf (ps.zip us) fun _=>none) (cellsFrom (s.heap.objs.size+1) scope.names []) (bindC (envOfC qual scope s.heap.objs.size f cd).kindOf (ps.zip us) fun _=>none) s1) :
  Inv (mm CX P w K mg base N qual scope f cd A outer s H E) [] (start N vs) H s1:=by
 have hpl:ps.length<=N.length:=by have:=bu List.length S.pre;rw[gI] at this;omega
 obtain⟨h1,tk,rfl,hk⟩:=x.done
 have noA:∀ b:Addr,b∉(mm CX P w K mg base N qual scope f cd A outer s H E).ex:=fun b z=>absurd (show b∈([]:List Addr) from z) (by simp)
 refine⟨⟨e0.mod,S.kind,rfl,rfl,ai _,fun y z c h1 h2=>?_,fun y hy=>?_,fun y c _ h=>?_,fun _=>hd,Around.frames_deeper e0.frames,.inr ⟨rfl,rfl⟩,fun b z=>absurd z (noA b),e0.bs,e0.bsz,fun b _ _=>noA b,fun b z=>absurd z (noA b),e0.kJ,e0.frf⟩,
  rfl,e0.bare,Un.kept hk,⟨_,x.toInCall.ns,fun i y v h1 h2 h3=>?_⟩,fun y c h=>⟨_,x.cell y c h⟩,e0.hok.fresh (ai _),fun y c h=>?_,fun p hp=>absurd (show p∈([]:List (Addr×Obj)) from hp) (by simp),e0.hok.kept hk,?_⟩
 ·exact name_of_addr x.apart (iH h1) (iH h2)
 ·have hy:scope.names.lookup y=some .cell∨scope.names.lookup y=some .free:=hy
  rcases hy with hy | hy
  ·exact uO hy
  ·exact absurd rfl (S.nofree _ (iH hy))
 ·exact aP (x.above y c (iH h))
 ·have hi:i<vs.length:=by
   unfold start at h2
   by_cases hi:i<vs.length
   ·exact hi
   ·rw[fP (by simpa using hi)] at h2
    rw[List.getElem?_replicate] at h2
    split at h2<;>cases h2
  have ha:vs[i]?=some v:=by
   unfold start at h2
   rw[fO (by simpa using hi),List.getElem?_map] at h2
   cases e:vs[i]? with
   | none=>rw[e] at h2;cases h2
   | some a=>rw[e] at h2;cases h2;rfl
  obtain⟨u,hu,rv⟩:=r.get ha
  have hp:ps[i]?=some y:=by
   rw[←S.pre,List.getElem?_take_of_lt (by omega)];exact h1
  have ndP:ps.Nodup:=by rw[←S.pre];exact S.nd.sublist (List.take_sublist _ _)
  refine⟨u,rv,?_⟩
  rcases S.par y (bp hp) with k | k
  ·exact .inl ⟨k,su ndP hp hu k⟩
  ·obtain⟨c,e⟩:=uO (n:=s.heap.objs.size+1) k
   refine .inr ⟨.inl k,c,e,?_⟩
   have q:=x.cell y c e
   rw[sq ndP hp hu (by show scope.names.lookup y≠_;rw[k];decide)] at q
   exact q
 ·exact e0.hok.fresh (aP (x.above y c (iH h)))
 ·unfold start
  show _=N.length
  rw[bb,List.length_map,lI]
  omega

theorem vc {CX:CXT}{P:Program}{w:World}{K:PySem.W.Frag}{mg:Str->Option Value}{base:Heap}{k:Nat}{f:Addr}{name qual:Str}{params:Arguments}{body:List Stmt}{scope:Scope}{dV kV doc pm cdv ct oc:Value}{an od:Option Addr}
  {osl:Array (Option Value)}{N ps:List Str}{sp:Sp} (lk:K.lookup f=some ⟨oc,od,.func (PySem.W.fnOf name qual params body scope dV kV doc pm an cdv ct),osl⟩) (hcd:PySem.W.codeIn K cdv qual=true) (S:aM N ps scope)
  (len:∀ vs H Q E,sp vs H Q E->vs.length=ps.length)
  (hbody:∀ (A:Around) (outer:List Env) (s:Shared) (H:Hp) (vs:List V) (Q:VK) (E:XK),bZ k (A.deeper (envOfC qual scope s.heap.objs.size f cdv))->sp vs H Q E →
   ∃ t,PSs (mm CX P w K mg base N qual scope f cdv A outer s H E) body t/\t { nx:=fun _ H'=>Q .non H',rt:=Q } (start N vs) H) :
  bI P w K mg base CX (k+1) f (PySem.W.fnOf name qual params body scope dV kV doc pm an cdv ct) ps sp:=by
 refine⟨len,fun A outer s H args us vs Q E hr e0 hb r hsp=>?_⟩
 have hl:=len _ _ _ _ hsp
 have KX:K.In s.heap:=e0.mod.kin.keeps fun b o e=>(e0.bs b o e).1
 have lim:s.heap.NoLimit:=e0.mod.nolimit.keeps fun b o e=>(e0.bs b o e).1
 have hkind:∀ y∈ps.zip us,scope.names.lookup y.1=some .local∨(scope.names.lookup y.1=some .cell/\((cellsFrom (s.heap.objs.size+1) scope.names []).lookup y.1).isSome=true):=fun ⟨n,v⟩ hy=>by
  rcases S.par n (lK hy).1 with q | q
  ·exact .inl q
  ·exact .inr ⟨q,PySem.W.cellsFrom_some _ _ _ (.inl q)⟩
 refine codeAny_call_function hr.depth (KX _ _ lk) rfl S.co S.gen rfl (PySem.W.codeRec_of KX hcd) (hb _ _ _ _ ?_)
 refine wpAny_newFunctionEnv_cells S.kind hkind fun env he s1 x=>?_
 subst he
 refine⟨lim.keeps x.toInCall.keep,codeAny_func ?_⟩
 obtain⟨t,ht,hq⟩:=hbody A outer s H vs Q E (hr.deeper _) hsp
 have I:Inv (mm CX P w K mg base N qual scope f cdv A outer s H E) [] (start N vs) H s1:=sJ S hr.hd e0 hl r x
 refine bg (ht [] s1 (start N vs) H _ I hq) (fun fl s' hs=>?_) fun e s' hs=>hs
 have fin:∀ {σ':St}{H':Hp}{v:V}{u:Value},Inv (mm CX P w K mg base N qual scope f cdv A outer s H E) [] σ' H' s'->RelV v u->Q v H'->CE outer P w H s Q u s' :=
  fun {σ' H' v u} J rv q=>⟨v,H',J.os,J.bare,J.base,J.hok,rv,q⟩
 cases fl with
 | ret u =>
  obtain⟨v,σ',H',J,rv,q⟩:=hs
  exact fin J rv q
 | next =>
  obtain⟨σ',H',J,q⟩:=hs
  exact fin (v:=V.non) (u:=Value.none) J rfl q
 | brk =>
  obtain⟨_,_,_,q⟩:=hs
  exact False.elim q
 | cont =>
  obtain⟨_,_,_,q⟩:=hs
  exact False.elim q
end
section
section
variable {X:Cx}{x:Str}{p pos:Pos}{e:Expr}{es:List Expr}{t:TA}{id T:String}{r:List V->Hp->VK->Prop}

def tCB (r:List V->Hp->VK->Prop) (t:TA):TE:=fun σ H Q=>t σ H fun vs H1=>r vs H1 Q
theorem Cg (hc:cC X (.builtin id) r) (hg:Gl X x) (hm:X.mg x=none) (hv:bootBuiltins x=some (.builtin id)) (ha:PA X (e::es) t) (hn:x≠"__name__":=by decide) (hdb:(x==("__debug__":Str))=false:=by decide)
  (he:starEach (e::es) X.env=(false,eval e X.env)::starEach es X.env:=by rfl) (hpl:(backTo pos (starEach es X.env)).any (·.1)=false:=by rfl):PE X (.Call (.Name x p) (e::es) [] pos) (tCB r t):=by
 intro pins s σ H Q I h
 refine lT (oO I hg hm hv ?_ hn hdb)
 exact PyProof.Rows.callWith_builtin1 (thn (ha pos pins s σ H _ I h) fun us s1 ⟨vs,H1,I1,r1,q1⟩=>hc pins s1 σ H1 vs us Q I1 r1 q1) he hpl
theorem Af (hc:cC X (.type T) r) (hg:Gl X x) (hm:X.mg x=none) (hv:bootBuiltins x=some (.type T)) (ha:PA X (e::es) t) (hn:x≠"__name__":=by decide) (hdb:(x==("__debug__":Str))=false:=by decide)
  (he:starEach (e::es) X.env=(false,eval e X.env)::starEach es X.env:=by rfl) (hpl:(backTo pos (starEach es X.env)).any (·.1)=false:=by rfl):PE X (.Call (.Name x p) (e::es) [] pos) (tCB r t):=by
 intro pins s σ H Q I h
 refine lT (oO I hg hm hv ?_ hn hdb)
 exact oh (thn (ha pos pins s σ H _ I h) fun us s1 ⟨vs,H1,I1,r1,q1⟩=>hc pins s1 σ H1 vs us Q I1 r1 q1) he hpl
end
end
end L2

namespace HT
open PySem PyProof.Rows

theorem Bi (A:Around) (s:Shared) (a:Int) (t:Tok) (c:Int) (u:Tok):∃ e,SeqAt.EqAt A s (.int a t) (.int c u) e/\(e=true↔a=c) :=
 ⟨(a==c),SeqAt.EqAt.int_int a t c u,by simp⟩
section
open PySem.SeqAt
open PySem.AutoSeq1 (wpAny_loadPart')
open PySem.MeetsSeq PySem.MeetsSeq2 PySem.MeetsSeq3

end

section
variable {prog:Program}{w:World}{A:Around}{E:Value->Shared->Prop}{s:Shared}

def sIx (n d:Nat):Option Int->Nat
 | none=>d
 | some v=>if v<0 then (v+(n:Int)).toNat else min v.toNat n
theorem CK (n d:Nat):sIx n d none=d:=rfl
theorem u7 (n d k:Nat):sIx n d (some (k:Int))=min k n:=by
 show (if (k:Int)<0 then ((k:Int)+(n:Int)).toNat else min (k:Int).toNat n)=min k n
 rw[if_neg (by omega),Int.toNat_natCast]
theorem CJ (n d:Nat) (hd:d<=n) (o:Option Int):sIx n d o<=n:=by
 cases o with
 | none=>exact hd
 | some v =>
  show (if v<0 then (v+(n:Int)).toNat else min v.toNat n)<=n
  by_cases hv:v<0
  ·rw[if_pos hv];omega
  ·rw[if_neg hv];exact Nat.min_le_right _ _
end
end HT

namespace L2
open PySem PySem.Spec PyProof.Rows
variable {A:Around}{H:Hp}{H':Hp}{P:Program}{Q:Value->Shared->Prop}{X:Cx}{a:Addr}{h':Heap}{i:Int}{j:Nat}{kvs:List (List Key×V)}{o:Option V}{pins:List (Addr×Obj)}{s:Shared}{t':Nat}{u:Value}{w:World}{xs:List (List Key×Addr×Value)}{y:V}{α:Type}{σ:St}
section

abbrev TO:=St->Hp->(Option Int->Hp->Prop)->Prop
def PO (X:Cx) (e:Option Expr) (t:TO):Prop :=
 ∀ (pins:List (Addr×Obj)) (s:Shared) (σ:St) (H:Hp) (Q:Option Int->Hp->Prop),Inv X pins σ H s->t σ H Q →
  wpAny (model X.prog X.w) X.A (evalPart e X.env) (fun u s'=>∃ o H',Inv X pins σ H' s'/\IsPart u o/\Q o H') X.xe s
def yP:TO:=fun _ H Q=>Q none H
def FH (t:TE):TO:=fun σ H Q=>t σ H fun x H1=>∃ i,x=.int i/\Q (some i) H1

theorem intsAre_of {ns:List Int}:∀ {us:List Value},Vals (ns.map V.int) us->IntsAre us ns:=by
 induction ns with
 | nil=>intro us r;rw[List.map_nil] at r;cases r;exact .nil
 | cons n ns ih =>
  intro us r
  rw[bz] at r
  cases r with
  | cons r1 r2 =>
   obtain⟨t,e⟩:=r1
   subst e
   exact .cons n t (ih r2)

section
variable {X:Cx}{e:Expr}{te:TE}{lo hi:Option Expr}{tl th:TO}{pos p2:Pos}

theorem uy:PO X none yP:=by
 intro pins s σ H Q I h
 rw[evalPart_none]
 exact ax ⟨none,H,I,.none,h⟩
theorem nI (h:PE X e te):PO X (some e) (FH te):=by
 intro pins s σ H Q I hw
 rw[evalPart_some]
 refine thn (h pins s σ H _ I hw) fun u s1 ⟨x,H1,I1,r1,q1⟩=>?_
 obtain⟨i,rfl,q⟩:=q1
 obtain⟨t,rfl⟩:=r1
 exact⟨some i,H1,I1,.int i t,q⟩

def SlR (X:Cx) (r:V->Option Int->Option Int->Hp->VK->Prop):Prop :=
 ∀ (pins:List (Addr×Obj)) (s:Shared) (σ:St) (H:Hp) (x:V) (v vl vu:Value) (lo hi:Option Int) (sl:Addr) (Q:VK),Inv X pins σ H s->RelV x v->s.heap.IsSliceOf sl vl vu .none->IsPart vl lo->IsPart vu hi->r x lo hi H Q →
  ∃ T id,typeLookup (.type T) "__getitem__"=pure (some (.builtin id))/\s.TypeIs v T/\wpAny (model X.prog X.w) X.A (getItem v (.ref sl)) (EP X pins σ Q) X.xe s
def tSl (r:V->Option Int->Option Int->Hp->VK->Prop) (te:TE) (tl th:TO):TE:=fun σ H Q=>te σ H fun x H1=>tl σ H1 fun l H2=>th σ H2 fun u H3=>r x l u H3 Q
theorem nE {r:V->Option Int->Option Int->Hp->VK->Prop} (hr:SlR X r) (he:PE X e te) (hl:PO X lo tl) (hu:PO X hi th):PE X (.Subscript e (.Slice lo hi none p2) pos) (tSl r te tl th):=by
 intro pins s σ H Q I h
 refine Subscript_ (thn (he pins s σ H _ I h) fun v s1 ⟨x,H1,I1,r1,q1⟩=>?_)
 refine wpAny_Slice (thn (hl pins s1 σ H1 _ I1 q1) fun vl s2 ⟨l,H2,I2,pl,q2⟩=>thn (hu pins s2 σ H2 _ I2 q2) fun vu s3 ⟨u,H3,I3,pu,q3⟩=>?_)
 rw[evalPart_none]
 refine ax ?_
 have I4:Inv X pins σ H3 { s3 with heap:=s3.heap.push { cls:=.type "slice",data:=.fields #[vl,vu,.none] } }:=I3.kept (t':=s3.toks) fun b ob q=>aH _ q
 obtain⟨T,id,hT,ht,hg⟩:=hr pins { s3 with heap:=s3.heap.push { cls:=.type "slice",data:=.fields #[vl,vu,.none] } } σ H3 x v vl vu l u s3.heap.objs.size Q I4 r1 (Heap.IsSliceOf.new ..) pl pu q3
 show wpAny (model X.prog X.w) X.A (subscriptTail e (.Slice lo hi none p2) v (.ref s3.heap.objs.size)) (EP X pins σ Q) X.xe { s3 with heap:=s3.heap.push { cls:=.type "slice",data:=.fields #[vl,vu,.none] } }
 exact tail_any (ops:=[.ref s3.heap.objs.size,v]) ht hT hg (by with_unfolding_all rfl)

def pO (xs:List V) (lo hi:Option Int):List V:=(xs.drop (HT.sIx xs.length 0 lo)).take (HT.sIx xs.length xs.length hi-HT.sIx xs.length 0 lo)
theorem uQ (xs:List V) (lo hi:Option Int):(pO xs lo hi).length<=xs.length:=by
 unfold pO
 rw[gI,dE]
 omega
end
end
section

def ixN (n:Nat) (i:Int):Option Nat:=if 0<=i then (if i<n then some i.toNat else none) else if -(n:Int)<=i then some (i+n).toNat else none
def atI {α:Type} (xs:List α) (i:Int):Option α:=(ixN xs.length i).bind fun j=>xs[j]?
theorem Eb {n:Nat} (h:ixN n i=some j):seqIndex? i n=some j/\j<n/\-(n:Int)<=i/\i<n:=by
 unfold ixN at h
 by_cases h0:0<=i
 ·rw[if_pos h0] at h
  by_cases h1:i<n
  ·rw[if_pos h1] at h
   have e:i.toNat=j:=Option.some.inj h
   exact⟨by rw[seqIndex_of h0 h1,e],by omega,by omega,h1⟩
  ·rw[if_neg h1] at h;cases h
 ·rw[if_neg h0] at h
  by_cases h1:-(n:Int)<=i
  ·rw[if_pos h1] at h
   have e:(i+n).toNat=j:=Option.some.inj h
   exact⟨by rw[seqIndex_neg (by omega) h1,e],by omega,h1,by omega⟩
  ·rw[if_neg h1] at h;cases h
theorem tN {xs:List α}{v:α} (h:atI xs i=some v):∃ j,seqIndex? i xs.length=some j/\xs[j]?=some v/\j<xs.length/\-(xs.length:Int)<=i/\i<xs.length:=by
 unfold atI at h
 cases e:ixN xs.length i with
 | none=>rw[e] at h;cases h
 | some j =>
  rw[e] at h
  obtain⟨h1,h2,h3,h4⟩:=Eb e
  exact⟨j,h1,h,h2,h3,h4⟩
theorem bt {xs:List α}{v:α} (h:xs[j]?=some v):atI xs (j:Int)=some v:=by
 have hj:j<xs.length:=(bK.mp h).1
 have e:ixN xs.length (j:Int)=some j:=by
  unfold ixN
  rw[if_pos (by omega),if_pos (by omega)];simp
 unfold atI;rw[e];exact h
def Dp (b:Expr):Prop:=∀ o i,subscripted b false o i=operate [o,i] (getItem o i)
def IxR (X:Cx) (r:R2):Prop :=
 ∀ (value slice:Expr) (pins:List (Addr×Obj)) (s:Shared) (σ:St) (H:Hp) (x y:V) (v u:Value) (Q:VK),Inv X pins σ H s->RelV x v->RelV y u->r x y H Q →
  subscripted slice false v u=operate [v,u] (getItem v u)->wpAny (model X.prog X.w) X.A (subscriptTail value slice v u) (EP X pins σ Q) X.xe s
def MtR (X:Cx) (id:String) (r:V->List V->Hp->VK->Prop):Prop :=
 ∀ (pins:List (Addr×Obj)) (s:Shared) (σ:St) (H:Hp) (x:V) (xs:List V) (v:Value) (us:List Value) (Q:VK),Inv X pins σ H s->RelV x v->Vals xs us->r x xs H Q →
  wpAny (model X.prog X.w) X.A (call (.builtin id) (v::us)) (EP X pins σ Q) X.xe s
section
variable {X:Cx}{a b:Expr}{ta tb:TE}{pos:Pos}
theorem aX {r:R2} (hr:IxR X r) (ha:PE X a ta) (hb:PE X b tb) (hs:Dp b):PE X (.Subscript a b pos) (tOp r ta tb):=by
 intro pins s σ H Q I h
 exact Subscript_ (Gv ha hb I h fun v u s2 x y H2 I2 rx ry q=>hr a b pins s2 σ H2 x y v u Q I2 rx ry q (hs _ _))

def J5 (K:PySem.W.Frag):R2:=fun x y H Q=>∃ p xs i v,x=.ref p/\y=.int i/\SqL K H p xs/\atI xs i=some v/\Q v H
def J7 (K:PySem.W.Frag):R2:=fun x y H Q=>∃ p xs i v,x=.ref p/\y=.int i/\SqT K H p xs/\atI xs i=some v/\Q v H
def J6:R2:=fun x y H Q=>∃ z i c,x=.str z/\y=.int i/\z.length<=sizeLine/\atI z.cps.toList i=some c/\Q (.str ⟨#[c]⟩) H
theorem Ec:IxR X (J5 X.K):=by
 intro value slice pins s σ H x y v u Q I rx ry h hs
 obtain⟨p,xs,i,z,rfl,rfl,hq,he,q⟩:=h
 cases rx
 obtain⟨t,rfl⟩:=ry
 obtain⟨its,r,pl,hz⟩:=I.list hq
 obtain⟨j,h1,h2,h3,h4,h5⟩:=tN he
 obtain⟨w,ew,rw'⟩:=r.get h2
 have hl:=r.length
 have hn:=qP
 have fin:EP X pins σ Q w s:=⟨z,H,I,rw',q⟩
 by_cases h0:0<=i
 ·have hj:i.toNat=j:=by
   rw[seqIndex_of h0 h5] at h1
   exact Option.some.inj h1
  exact item_listR pl.isList h0 (by omega) (by rw[hj];simpa using ew) fin hs
 ·have hj:(i+(its.toArray.size:Int)).toNat=j:=by
   rw[seqIndex_neg (by omega) h4] at h1
   rw[aU,←hl]
   exact Option.some.inj h1
  exact subscriptTail_builtinR (x:=w) pl.isList.typeIs slot_list_getitem.lookup
   (wpAny_getItem_list_neg (Q:=fun r s'=>r=w/\EP X pins σ Q r s') pl.isList (by omega) (by rw[aU]<;>omega) (by omega) (by rw[hj];simpa using ew) ⟨rfl,fin⟩) hs
theorem GJ:IxR X (J7 X.K):=by
 intro value slice pins s σ H x y v u Q I rx ry h hs
 obtain⟨p,xs,i,z,rfl,rfl,hq,he,q⟩:=h
 cases rx
 obtain⟨t,rfl⟩:=ry
 obtain⟨its,r,pl,hz⟩:=I.tuple hq
 obtain⟨j,h1,h2,h3,h4,h5⟩:=tN he
 obtain⟨w,ew,rw'⟩:=r.get h2
 have hl:=r.length
 have hn:=qP
 have fin:EP X pins σ Q w s:=⟨z,H,I,rw',q⟩
 exact subscriptTail_builtinR (x:=w) pl.typeIs slot_tuple_getitem.lookup
  (getItem_tuple (j:=j) (Q:=fun r s'=>r=w/\EP X pins σ Q r s') pl (by omega) (by omega) (by rw[aU,←hl];exact h1) (by simpa using ew) ⟨rfl,fin⟩) hs
theorem GI:IxR X J6:=by
 intro value slice pins s σ H x y v u Q I rx ry h hs
 obtain⟨z,i,c,rfl,rfl,hz,he,q⟩:=h
 obtain⟨t,rfl⟩:=rx
 obtain⟨t',rfl⟩:=ry
 obtain⟨j,h1,h2,h3,h4,h5⟩:=tN he
 have hl:z.cps.toList.length=z.length:=by simp [Str.length]
 rw[hl] at h1 h4 h5
 have hn:=qP
 exact tail_any (typeIs_str s z t) slot_str_getitem.lookup (getItem_str (c:=c) (by
  have e1:decide (i < -(2^63:Int))=false:=decide_eq_false (by omega)
  have e2:decide (i≥2^63)=false:=decide_eq_false (by omega)
  rw[e1,e2,Bool.or_false]) (by rw[h1];simpa using h2) ⟨.str ⟨#[c]⟩,H,I.tok _,⟨_,rfl⟩,q⟩) hs
theorem Inv.lst {pins:List (Addr×Obj)}{σ:St}{H:Hp}{s:Shared}{p:Addr}{xs:List V} (I:Inv X pins σ H s) (h:H p=some (.lst xs)) :
  ∃ (its:List Value) (n:Nat),Vals xs its/\s.heap.get? p=some { cls:=.type "list",data:=.seq its.toArray n }/\xs.length<=sizeLine:=by
 obtain⟨z,its,n,r,e⟩:=I.hok p _ h
 exact⟨its,n,r,e,z⟩
theorem uB (lo hi:Option Int) (n:Nat):(sliceBounds lo hi none n).1=((HT.sIx n 0 lo:Nat):Int)/\(sliceBounds lo hi none n).2.1=((HT.sIx n n hi:Nat):Int)/\(sliceBounds lo hi none n).2.2=1:=by
 refine⟨?_,?_,rfl⟩
 ·cases lo with
  | none=>simp [sliceBounds,HT.sIx]
  | some i =>
   simp only[sliceBounds,HT.sIx,Option.getD_none,show (1:Int)>0 by decide,if_true]
   by_cases h:i<0
   ·simp only[h,if_true]<;>omega
   ·simp only[h,eM]<;>omega
 ·cases hi with
  | none=>simp [sliceBounds,HT.sIx]
  | some i =>
   simp only[sliceBounds,HT.sIx,Option.getD_none,show (1:Int)>0 by decide,if_true]
   by_cases h:i<0
   ·simp only[h,if_true]<;>omega
   ·simp only[h,eM]<;>omega
theorem sh (its:List Value) (lo hi:Option Int):slicePick its.toArray lo hi none=((its.drop (HT.sIx its.length 0 lo)).take (HT.sIx its.length its.length hi-HT.sIx its.length 0 lo)).toArray:=by
 obtain⟨h1,h2,h3⟩:=uB lo hi its.toArray.size
 unfold slicePick
 rw[h1,h2,h3]
 simp only[sliceRange_one,pick_run,aU]<;>rfl
def JB (K:PySem.W.Frag):V->Option Int->Option Int->Hp->VK->Prop:=fun x lo hi H Q=>∃ a xs,x=.ref a/\SqL K H a xs/\∀ p,H p=none->Q (.ref p) (upd H p (.lst (pO xs lo hi)))
theorem EV:SlR X (JB X.K):=by
 intro pins s σ H x v vl vu lo hi sl Q I rx hs pl pu h
 obtain⟨a,xs,rfl,hx,q⟩:=h
 cases rx
 obtain⟨its,r,ht,hz⟩:=I.list hx
 have hlen:=r.length
 refine⟨"list",_,slot_list_getitem.lookup,ht.isList.typeIs,?_⟩
 refine wpAny_getItem_list_slice ht.isList hs pl pu .none (by simp) ?_ (by rw[aU]<;>omega)
 rw[sh,←hlen]
 refine⟨.ref s.heap.objs.size,_,I.laid (t':=s.toks) (o:=.lst (pO xs lo hi)) (fun b ob q=>aH _ q) (ai _) ?_,rfl,q _ (I.hok.fresh (ai _))⟩
 exact⟨bA (uQ xs lo hi) hz,_,0,(r.drop (HT.sIx xs.length 0 lo)).take (HT.sIx xs.length xs.length hi-HT.sIx xs.length 0 lo),aZ _ rfl⟩

def dh:V->Bool
 | .non=>true
 | .bl _=>true
 | .int _=>true
 | .str _=>true
 | _=>false
def eqV:V->V->Bool
 | .non,.non=>true
 | .bl a,.bl b=>a==b
 | .bl a,.int b=>(if a then 1 else 0)==b
 | .int a,.bl b=>a==(if b then 1 else 0)
 | .int a,.int b=>a==b
 | .str a,.str b=>a==b
 | _,_=>false
theorem mD {y x:V}{u v:Value} (ry:RelV y u) (rx:RelV x v) (fy:dh y=true) (fx:dh x=true):SeqAt.EqAt A s u v (eqV y x):=by
 cases y with
 | non =>
  cases ry
  cases x with
  | non=>cases rx;exact SeqAt.EqAt.same _
  | bl b=>cases rx;exact SeqAt.EqAt.none_bool b
  | int b=>obtain⟨t,rfl⟩:=rx;exact SeqAt.EqAt.none_int b t
  | str b=>obtain⟨t,rfl⟩:=rx;exact SeqAt.EqAt.none_str b t
  | _=>exact absurd (show false=true from fx) bE
 | bl a =>
  cases ry
  cases x with
  | non=>cases rx;exact SeqAt.EqAt.bool_none a
  | bl b=>cases rx;exact SeqAt.EqAt.bool_bool a b
  | int b=>obtain⟨t,rfl⟩:=rx;exact SeqAt.EqAt.bool_int a b t
  | str b=>obtain⟨t,rfl⟩:=rx;exact SeqAt.EqAt.bool_str a b t
  | _=>exact absurd (show false=true from fx) bE
 | int a =>
  obtain⟨t',rfl⟩:=ry
  cases x with
  | non=>cases rx;exact SeqAt.EqAt.int_none a t'
  | bl b=>cases rx;exact SeqAt.EqAt.int_bool a t' b
  | int b=>obtain⟨t,rfl⟩:=rx;exact SeqAt.EqAt.int_int a t' b t
  | str b=>obtain⟨t,rfl⟩:=rx;exact SeqAt.EqAt.int_str a t' b t
  | _=>exact absurd (show false=true from fx) bE
 | str a =>
  obtain⟨t',rfl⟩:=ry
  cases x with
  | non=>cases rx;exact SeqAt.EqAt.str_none a t'
  | bl b=>cases rx;exact SeqAt.EqAt.str_bool a t' b
  | int b=>obtain⟨t,rfl⟩:=rx;exact SeqAt.EqAt.str_int a t' b t
  | str b=>obtain⟨t,rfl⟩:=rx;exact SeqAt.EqAt.str_str a t' b t
  | _=>exact absurd (show false=true from fx) bE
 | _=>exact absurd (show false=true from fy) bE
def eqU (x:V) (u:Value):Bool:=match u with
 | .none=>eqV .non x
 | .bool b=>eqV (.bl b) x
 | .int i _=>eqV (.int i) x
 | .str z _=>eqV (.str z) x
 | _=>false
theorem Bj {x y:V} (r:RelV y u) (f:dh y=true):eqU x u=eqV y x:=by
 cases y with
 | non=>cases r;rfl
 | bl b=>cases r;rfl
 | int i=>obtain⟨t,rfl⟩:=r;rfl
 | str z=>obtain⟨t,rfl⟩:=r;rfl
 | _=>exact absurd (show false=true from f) bE
theorem nj {x:V}:∀ {xs:List V}{us:List Value},Vals xs us->xs.all dh=true->us.any (eqU x)=xs.any fun y=>eqV y x
 | _,_,.nil,_=>rfl
 | y::xs,u::us,.cons r t,f=>by
  rw[iB,cf] at f
  rw[iC,iC,Bj r f.1,nj t f.2]
theorem kM {A:Around}{s:Shared}{x:V}{v:Value} (rx:RelV x v) (fx:dh x=true):∀ {xs:List V}{us:List Value},Vals xs us->xs.all dh=true->∀ u∈us,SeqAt.EqAt A s u v (eqU x u)
 | _,_,.nil,_=>fun u hu=>by cases hu
 | y::xs,u::us,.cons r t,f=>fun u' hu=>by
  rw[iB,cf] at f
  rcases aD.mp hu with rfl | hu
  ·rw[Bj r f.1];exact mD r rx f.1 fx
  ·exact kM rx fx t f.2 u' hu
def inV (x:V) (xs:List V):Bool:=xs.any fun y=>eqV y x
def rIn (K:PySem.W.Frag) (neg:Bool):R2:=fun x y H Q=>∃ p xs,y=.ref p/\(SqL K H p xs∨SqT K H p xs)/\dh x=true/\xs.all dh=true/\Q (.bl (if neg then !inV x xs else inV x xs)) H
theorem zX:OpR X (compareOp .In) (rIn X.K false):=by
 intro pins s σ H x y v u Q I rx ry h
 obtain⟨p,xs,rfl,hq,fx,fs,q⟩:=h
 cases ry
 rcases hq with hq | hq
 ·obtain⟨its,r,pl,hz⟩:=I.list hq
  refine SeqAt.in_listAt (eqU x) pl.isList (fun w hw=>kM rx fx r fs w (by simpa using hw)) ⟨.bl _,H,I,rfl,?_⟩
  rw[show its.toArray.any (eqU x)=its.any (eqU x) by simp,nj r fs]
  exact q
 ·obtain⟨its,r,pl,hz⟩:=I.tuple hq
  refine SeqAt.in_tupleAt (eqU x) pl (fun w hw=>kM rx fx r fs w (by simpa using hw)) ⟨.bl _,H,I,rfl,?_⟩
  rw[show its.toArray.any (eqU x)=its.any (eqU x) by simp,nj r fs]
  exact q
theorem uu:OpR X (compareOp .NotIn) (rIn X.K true):=by
 intro pins s σ H x y v u Q I rx ry h
 obtain⟨p,xs,rfl,hq,fx,fs,q⟩:=h
 cases ry
 rcases hq with hq | hq
 ·obtain⟨its,r,pl,hz⟩:=I.list hq
  refine SeqAt.notIn_listAt (eqU x) pl.isList (fun w hw=>kM rx fx r fs w (by simpa using hw)) ⟨.bl _,H,I,rfl,?_⟩
  rw[show its.toArray.any (eqU x)=its.any (eqU x) by simp,nj r fs]
  exact q
 ·obtain⟨its,r,pl,hz⟩:=I.tuple hq
  refine SeqAt.notIn_tupleAt (eqU x) pl (fun w hw=>kM rx fx r fs w (by simpa using hw)) ⟨.bl _,H,I,rfl,?_⟩
  rw[show its.toArray.any (eqU x)=its.any (eqU x) by simp,nj r fs]
  exact q
theorem tO:cC X (.builtin "len") (fun xs H Q=>∃ p ys,xs=[.ref p]/\(SqL X.K H p ys∨SqT X.K H p ys)/\Q (.int ys.length) H):=by
 intro pins s σ H xs us Q I r h
 obtain⟨p,ys,rfl,hq,q⟩:=h
 obtain⟨u,rfl,rx⟩:=vals1 r
 cases rx
 have hn:=qP
 rcases hq with hq | hq
 ·obtain⟨its,r',pl,hz⟩:=I.list hq
  have hlen:=r'.length
  exact Calls.call_len_list pl.isList (by simp only[aU]<;>omega) ⟨.int ys.length,H,I.tok _,⟨s.toks+1,by rw[aU,hlen]⟩,q⟩
 ·obtain⟨its,r',pl,hz⟩:=I.tuple hq
  have hlen:=r'.length
  exact len_tuple pl (by simp only[aU]<;>omega) ⟨.int ys.length,H,I.tok _,⟨s.toks+1,by rw[aU,hlen]⟩,q⟩
theorem tP:cC X (.builtin "len") (fun xs H Q=>∃ z,xs=[.str z]/\z.length<=sizeLine/\Q (.int z.length) H):=by
 intro pins s σ H xs us Q I r h
 obtain⟨z,rfl,hz,q⟩:=h
 obtain⟨u,rfl,t,rfl⟩:=vals1 r
 have hn:=qP
 exact len_str (by omega) ⟨.int z.length,H,I.tok _,⟨_,rfl⟩,q⟩
theorem tR:cC X (.type "list") (fun xs H Q=>∃ p ys,xs=[.ref p]/\(SqL X.K H p ys∨SqT X.K H p ys)/\∀ l,H l=none->Q (.ref l) (upd H l (.lst ys))):=by
 intro pins s σ H xs us Q I r h
 obtain⟨p,ys,rfl,hq,q⟩:=h
 obtain⟨u,rfl,rx⟩:=vals1 r
 cases rx
 have fin:∀ (its:List Value),Vals ys its->ys.length<=sizeLine->∀ (h':Heap) (c':Nat),(∀ b o',s.heap.get? b=some o'->h'.get? b=some o') →
   h'.get? s.heap.objs.size=some { cls:=.type "list",dict:=none,data:=.seq its.toArray c',slots:=#[] }->EP X pins σ Q (.ref s.heap.objs.size) { s with heap:=h' }:=fun its r' hz h' c' kp e =>
  ⟨.ref s.heap.objs.size,_,I.laid (t':=s.toks) kp (ai _) (show bH X.prog X.w _ h' _ (.lst ys) from ⟨hz,its,c',r',e⟩),rfl,q _ (I.hok.fresh (ai _))⟩
 rcases hq with hq | hq
 ·obtain⟨its,r',pl,hz⟩:=I.list hq
  have hlen:=r'.length
  obtain⟨o,ho,hc,n,hd⟩:=pl.isList
  exact call_list_seq p (.inl rfl) ho hc hd (fun h' c' kp e=>fin its r' hz h' c' kp e) (by simp only[aU]<;>omega)
 ·obtain⟨its,r',pl,hz⟩:=I.tuple hq
  have hlen:=r'.length
  obtain⟨o,ho,hc,n,hd⟩:=pl
  exact call_list_seq p (.inr rfl) ho hc hd (fun h' c' kp e=>fin its r' hz h' c' kp e) (by simp only[aU]<;>omega)
def tyV (K:PySem.W.Frag) (T:String) (x:V) (H:Hp):Prop:=match x with
 | .str _=>T="str"
 | .int _=>T="int"
 | .ref p=>(T="list"/\∃ xs,SqL K H p xs)∨(T="tuple"/\∃ o,K.lookup p=some o/\o.cls=.type "tuple"/\o.dict=none) ∨
   (T="dict"/\((∃ kvs,H p=some (.dK kvs))∨∃ kvs,H p=some (.dT kvs)))∨(T="set"/\∃ S n,H p=some (.set S n))
 | _=>False
theorem Dg {T:String}{x:V}{v:Value} (I:Inv X pins σ H s) (r:RelV x v) (ty:tyV X.K T x H) :
  s.TypeIs v T/\∀ a,v=.ref a->∃ ob,s.heap.get? a=some ob/\ob.dict=none:=by
 cases x with
 | str z =>
  obtain⟨t,rfl⟩:=r
  cases (show T="str" from ty)
  exact⟨typeIs_str s z t,fun _ e=>nomatch e⟩
 | int i =>
  obtain⟨t,rfl⟩:=r
  cases (show T="int" from ty)
  exact⟨typeIs_int s i t,fun _ e=>nomatch e⟩
 | ref p =>
  cases r
  rcases ty with ⟨rfl,xs,hq⟩ | ⟨rfl,o,hk,hc,hd⟩ | ⟨rfl,hk⟩ | ⟨rfl,S,n,hk⟩
  ·obtain⟨its,_,pl,_⟩:=I.list hq
   refine⟨pl.isList.typeIs,fun a e=>?_⟩
   cases e
   obtain⟨o,n,e,c,hd,_⟩:=pl
   exact⟨o,e,hd⟩
  ·refine⟨⟨o,I.kIn p o hk,hc⟩,fun a e=>?_⟩
   cases e
   exact⟨o,I.kIn _ o hk,hd⟩
  ·have z:∃ o,s.heap.get? p=some o/\o.ExactDict:=by
    rcases hk with ⟨kvs,hk⟩ | ⟨kvs,hk⟩
    ·obtain⟨_,_,_,_,o,_,_,e,ex,_⟩:=I.hok p _ hk
     exact⟨o,e,ex⟩
    ·obtain⟨_,_,_,_,o,_,_,e,ex,_⟩:=I.hok p _ hk
     exact⟨o,e,ex⟩
   obtain⟨o,e,ex⟩:=z
   refine⟨⟨o,e,ex.1⟩,fun a e2=>?_⟩
   cases e2
   exact⟨o,e,ex.2.1⟩
  ·obtain⟨o,_,_,_,e,ex,_⟩:=I.hok p _ hk
   refine⟨⟨o,e,ex.1⟩,fun a e2=>?_⟩
   cases e2
   exact⟨o,e,ex.2.1⟩
 | _=>exact False.elim ty
def HF (K:PySem.W.Frag) (T:String) (r:V->List V->Hp->VK->Prop) (to:TE):TE:=fun σ H Q=>to σ H fun x H1=>tyV K T x H1/\r x [] H1 Q
def tBM (K:PySem.W.Frag) (T:String) (r:V->List V->Hp->VK->Prop) (to:TE) (t:TA):TE:=fun σ H Q=>to σ H fun x H1=>tyV K T x H1/\t σ H1 fun xs H2=>r x xs H2 Q
variable {o e:Expr}{es:List Expr}{to:TE}{t:TA}{name:Str}{apos cpos:Pos}{T id:String}{r:V->List V->Hp->VK->Prop}
theorem Hs (pa:PlainAttrs T) (slot:Slot T name id) (hty:typeOf (.builtin id)=pure (.type "method_descriptor")) (hm:MtR X id r) (ho:PE X o to)
  (hbase:attributeBase o name X.env (eval o X.env)=eval o X.env:=by rfl) (hline:(apos.endLine==cpos.line)=true:=by rfl):PE X (.Call (.Attribute o name apos) [] [] cpos) (HF X.K T r to):=by
 intro pins s σ H Q I h
 refine wpAny_Call_method0_late hbase hline (thn (ho pins s σ H _ I h) fun v s1 ⟨x,H1,I1,r1,ty,q1⟩=>?_)
 obtain⟨h1,h2⟩:=Dg I1 r1 ty
 exact⟨T,id,pa,slot,hty,h1,h2,Calls.callWith_builtin rfl (PySem.evalArgs_none (hm pins s1 σ H1 x [] v [] Q I1 r1 .nil q1))⟩
theorem IC (pa:PlainAttrs T) (slot:Slot T name id) (hty:typeOf (.builtin id)=pure (.type "method_descriptor")) (hm:MtR X id r) (ho:PE X o to) (ha:PA X (e::es) t)
  (hbase:attributeBase o name X.env (eval o X.env)=eval o X.env:=by rfl)
  (hfew:((backTo cpos (starEach (e::es) X.env)).all (fun x=>!x.1)&&(backToKw cpos (keywordEach [] X.env)).all (fun x=>x.1.isSome)
   && decide ((e::es).length+([]:List Keyword).length+(if ([]:List Keyword).isEmpty then 0 else 1)<30))=true:=by rfl)
  (hline:(apos.endLine==cpos.line)=true:=by rfl) (hs:starEach (e::es) X.env=(false,eval e X.env)::starEach es X.env:=by rfl) (hplain:(backTo cpos (starEach es X.env)).any (·.1)=false:=by rfl) :
  PE X (.Call (.Attribute o name apos) (e::es) [] cpos) (tBM X.K T r to t):=by
 intro pins s σ H Q I h
 refine wpAny_Call_method_late hbase hfew hline rfl (thn (ho pins s σ H _ I h) fun v s1 ⟨x,H1,I1,r1,ty,q1⟩=>?_)
 obtain⟨h1,h2⟩:=Dg I1 r1 ty
 refine⟨T,id,pa,slot,hty,h1,h2,?_⟩
 have hA:=ha cpos pins s1 σ H1 _ I1 q1
 rw[hs] at hA ⊢
 refine Calls.callWith_builtin (by show (false||(backTo cpos (starEach es X.env)).any (·.1))=false;rw[hplain]<;>rfl) (Calls.evalArgs_plain ?_)
 exact thn hA fun us s2 ⟨vs,H2,I2,r2,q2⟩=>hm pins s2 σ H2 x vs v us Q I2 r1 r2 q2
end
end
section

def MtM (X:Cx) (id:String) (r:V->List V->Hp->VK->Prop):Prop :=
 ∀ (pins:List (Addr×Obj)) (s:Shared) (σ:St) (H:Hp) (x:V) (xs:List V) (v:Value) (us:List Value) (Q:VK),Inv X pins σ H s->RelV x v->Vals xs us->r x xs H Q →
  wpAny (model X.prog X.w) X.A (call (.builtin id) (v::us)) (EP X pins σ Q) X.xe s

theorem Vals.one:∀ {x:V}{us:List Value},Vals [x] us->∃ u,us=[u]/\RelV x u
 | _,_,.cons r .nil=>⟨_,rfl,r⟩
theorem Vals.zero:∀ {us:List Value},Vals [] us->us=[]
 | _,.nil=>rfl
theorem Vals.eraseIdx:∀ {xs:List V}{us:List Value} (i:Nat),Vals xs us->Vals (xs.eraseIdx i) (us.eraseIdx i)
 | _,_,_,.nil=>.nil
 | _,_,0,.cons _ t=>t
 | _,_,i+1,.cons r t=>.cons r (Vals.eraseIdx i t)
theorem Vals.reverse {xs:List V}{us:List Value} (h:Vals xs us):Vals xs.reverse us.reverse:=by
 induction h with
 | nil=>exact .nil
 | cons r t ih=>rw[List.reverse_cons,List.reverse_cons];exact Vals.append ih (.cons r .nil)
theorem Vals.rep {xs:List V}{us:List Value} (h:Vals xs us):∀ k:Nat,Vals (List.replicate k xs).flatten (List.replicate k us).flatten
 | 0=>.nil
 | k+1=>by
  rw[lN,lN,lG,lG]
  exact Vals.append h (Vals.rep h k)
theorem foldl_rep (its:List Value):∀ (k:Nat) (acc:List Value),
  List.foldl (fun x1 x2=>x1++x2) acc.toArray (List.replicate k its.toArray)=(acc++(List.replicate k its).flatten).toArray
 | 0,acc=>by simp
 | k+1,acc=>by
  have e:acc.toArray++its.toArray=(acc++its).toArray:=by simp
  have e2:(acc++its)++(List.replicate k its).flatten=acc++(List.replicate (k+1) its).flatten:=by
   rw[lN,lG,List.append_assoc]
  rw[←e2,←foldl_rep its k (acc++its),←e,lN,List.foldl_cons]

section
variable {X:Cx}{pins:List (Addr×Obj)}{σ:St}{H:Hp}{s:Shared}{l b:Addr}{xs ys zs:List V}

theorem Inv.Jy {its its':List Value}{n:Nat}{f:Array Value->Array Value}{t':Nat} (I:Inv X pins σ H s) (hH:H l=some (.lst xs))
  (e:s.heap.get? l=some { cls:=.type "list",data:=.seq its.toArray n }) (hf:f its.toArray=its'.toArray) (hv:Vals ys its') (hz:ys.length<=sizeLine) :
  Inv X pins σ (upd H l (.lst ys)) { s with heap:=s.heap.update l (Obj.mapSeq f),toks:=t' }:=by
 have q:=PySem.IsL.update e f
 rw[hf] at q
 refine I.write (x:=l) (e:=l) (by rw[hH];exact trivial) (.inl rfl) (fun b' u hb hu=>(jC s.heap (Obj.mapSeq f) (Ne.symm hb)).trans hu) ⟨_,q⟩ ?_
 exact⟨hz,its',_,hv,q⟩
theorem Inv.Iv {its:List Value}{t':Nat} (I:Inv X pins σ H s) (hv:Vals ys its) (hz:ys.length<=sizeLine) :
  Inv X pins σ (upd H s.heap.objs.size (.lst ys)) { s with heap:=s.heap.push { cls:=.type "list",data:=.seq its.toArray },toks:=t' } :=
 I.laid (fun _ _ q=>aH _ q) (ai _) ⟨hz,its,0,hv,aZ _ rfl⟩
theorem Inv.fresh (I:Inv X pins σ H s):H s.heap.objs.size=none:=I.hok.fresh (ai _)
theorem Inv.El (I:Inv X pins σ H s) (hH:H l=some (.lst xs)):xs.length<=sizeLine/\∃ (its:List Value) (n:Nat),Vals xs its/\xs.length=its.length/\s.heap.get? l=some { cls:=.type "list",data:=.seq its.toArray n }:=by
 obtain⟨z,its,n,r,e⟩:=I.hok l _ hH
 exact⟨z,its,n,r,r.length,e⟩

theorem Ca {n:Nat} (h:n<=sizeLine):Builtin.List.listTooLong n=false:=by
 unfold Builtin.List.listTooLong
 exact decide_eq_false (by omega)
end

section
variable {X:Cx}

def EM:V->List V->Hp->VK->Prop:=fun x vs H Q=>∃ l xs y,x=.ref l/\vs=[y]/\H l=some (.lst xs)/\xs.length<sizeLine/\Q .non (upd H l (.lst (xs++[y])))
theorem ic:MtM X "list.append" EM:=by
 intro pins s σ H x vs v us Q I rx rv h
 obtain⟨l,xs,y,rfl,rfl,hH,hz,q⟩:=h
 cases rx
 obtain⟨u,rfl,ru⟩:=rv.one
 obtain⟨z,its,n,r,hl,e⟩:=I.El hH
 refine call_meets F.slot_list_append ⟨_,e,rfl⟩ F.entry_list_append (F.args_list_append_2 _ _) (PySem.list_append l its.toArray n u (by rw[aU];omega)) ⟨e,?_⟩
 refine⟨.non,_,I.Jy (its':=its++[u]) hH e (by simp) (r.append (.cons ru .nil)) ?_,rfl,q⟩
 rw[bb,lJ]
 omega

def J1:R2:=fun x y H Q=>∃ l b xs zs,x=.ref l/\y=.ref b/\H l=some (.lst xs)/\H b=some (.lst zs)/\xs.length+zs.length<=sizeLine/\∀ p,H p=none->Q (.ref p) (upd H p (.lst (xs++zs)))
theorem Hc:OpR X (binaryOp .Add) J1:=by
 intro pins s σ H x y v u Q I rx ry h
 obtain⟨l,b,xs,zs,rfl,rfl,hH,hB,hz,q⟩:=h
 cases rx
 cases ry
 obtain⟨z,its,n,r,hl,e⟩:=I.El hH
 obtain⟨z2,its2,n2,r2,hl2,e2⟩:=I.El hB
 refine PySem.P.add_list e e2 ?_ (by rw[aU,aU];omega)
 have ea:its.toArray++its2.toArray=(its++its2).toArray:=by simp
 rw[ea]
 exact⟨.ref _,_,I.Iv (t':=s.toks) (r.append r2) (by rw[bb];omega),rfl,q _ I.fresh⟩
def JA:R2:=fun x y H Q=>∃ l k xs,x=.ref l/\y=.int k/\H l=some (.lst xs)/\-(2^63)<=k/\k<2^63/\xs.length*k.toNat<=sizeLine ∧
 ∀ p,H p=none->Q (.ref p) (upd H p (.lst (List.replicate k.toNat xs).flatten))
theorem len_rep (xs:List α) (k:Nat):(List.replicate k xs).flatten.length=k*xs.length:=by
 induction k with
 | zero=>simp
 | succ k ih=>rw[lN,lG,bb,ih,Nat.succ_mul,Nat.add_comm]
theorem Hq:OpR X (binaryOp .Mult) JA:=by
 intro pins s σ H x y v u Q I rx ry h
 obtain⟨l,k,xs,rfl,rfl,hH,h1,h2,hz,q⟩:=h
 cases rx
 obtain⟨t,rfl⟩:=ry
 obtain⟨z,its,n,r,hl,e⟩:=I.El hH
 have hlen:its.toArray.size*k.toNat<=sizeLine:=by rw[aU,←hl];exact hz
 have hcap:¬ its.toArray.size*k.toNat>(2^63-1)/8:=by
  have:(sizeLine:Nat)<=(2^63-1)/8:=by decide
  omega
 have hfit:¬ (!Builtin.List.listFitsIndex k)=true:=by
  rw[fitsIndex_both h1 h2]
  exact bE
 have hlong:¬ Builtin.List.listTooLong (its.toArray.size*k.toNat)=true:=by
  rw[Ca hlen]
  exact bE
 have hnew:List.foldl (fun x1 x2=>x1++x2) #[] (List.replicate (if its.toArray.isEmpty=true then 0 else k.toNat) its.toArray)=(List.replicate k.toNat its).flatten.toArray:=by
  have f0:∀ m:Nat,List.foldl (fun x1 x2=>x1++x2) #[] (List.replicate m its.toArray)=(List.replicate m its).flatten.toArray:=fun m=>by
   have:=foldl_rep its m []
   rw[eX] at this
   exact this
  rw[f0]
  cases its with
  | nil=>simp
  | cons a r'=>rw[if_neg (by simp)]
 refine wpAny_binaryOp_repeat_ref (T:="list") (U:="int") (by decide) ⟨_,e,rfl⟩ (fun s'=>typeIs_int s' k t) noFill_list_mul F.fills_int_mul F.slot_int_rmul repeat_list F.slot_int_index.lookup
  (call_meets F.slot_int_rmul (typeIs_int s k t) F.entry_int_rmul (F.args_int_rmul_2 _ _) (int___rmul___int_list k t l its.toArray n)
   ⟨e,rfl,⟨_,e,rfl⟩,call_meets F.slot_list_mul ⟨_,e,rfl⟩ F.entry_list_mul (F.args_list_mul_2 _ _) (AutoListH.list___mul___list_int_3 l its.toArray n k t hfit hcap hlong) ⟨e,?_⟩⟩)
 rw[hnew]
 exact⟨.ref _,_,I.Iv (t':=s.toks) (r.rep k.toNat) (by rw[len_rep,Nat.mul_comm];exact hz),rfl,q _ I.fresh⟩

end

section
variable {prog:Program}{w:World}{A:Around}{E:Value->Shared->Prop}{s:Shared}
end

section
variable {X:Cx}
end
end
section

section
variable {κ:Type} [DecidableEq κ]
def cH (kvs:List (κ×V)) (k:κ):Option V:=(kvs.find? fun kv=>decide (kv.1=k)).map (·.2)
def putK (kvs:List (κ×V)) (k:κ) (v:V):List (κ×V) :=
 if (kvs.any fun kv=>decide (kv.1=k))=true then kvs.map (fun kv=>if kv.1=k then (kv.1,v) else kv) else kvs++[(k,v)]
def Fj (kvs:List (κ×V)) (k:κ):List (κ×V):=kvs.filter fun kv=>decide (kv.1≠k)

theorem dC {p:κ×V}{r:List (κ×V)}{k:κ} (e:p.1=k):cH (p::r) k=some p.2:=by simp [cH,gH,e]
theorem dB {p:κ×V}{r:List (κ×V)}{k:κ} (e:¬ p.1=k):cH (p::r) k=cH r k:=by simp [cH,gH,e]
theorem lD (k:κ):∀ kvs:List (κ×V),(kvs.any fun kv=>decide (kv.1=k))=(cH kvs k).isSome
 | []=>rfl
 | p::r=>by
  rw[iC]
  by_cases e:p.1=k
  ·simp only[dC e,decide_eq_true e,Bool.true_or,Option.isSome_some]
  ·rw[dB e,decide_eq_false e,Bool.false_or];exact lD k r
theorem wc (k j:κ) (y:V):∀ kvs:List (κ×V),cH (kvs.map fun kv=>if kv.1=k then (kv.1,y) else kv) j=(cH kvs j).map fun x=>if j=k then y else x
 | []=>rfl
 | p::r=>by
  have ih:=wc k j y r
  rw[bz]
  by_cases h:p.1=k
  ·rw[if_pos h]
   by_cases e:p.1=j
   ·rw[dC (p:=(p.1,y)) e,dC e,lQ,if_pos (e.symm.trans h)]
   ·rw[dB (p:=(p.1,y)) e,dB e,ih]
  ·rw[if_neg h]
   by_cases e:p.1=j
   ·rw[dC (p:=p) e,dC e,lQ,if_neg (fun z=>h (e.trans z))]
   ·rw[dB (p:=p) e,dB e,ih]
theorem tD (k j:κ) (y:V):∀ kvs:List (κ×V),cH kvs k=none->cH (kvs++[(k,y)]) j=if j=k then some y else cH kvs j
 | [],_=>by
  by_cases e:k=j
  ·rw[if_pos e.symm];exact dC (p:=(k,y)) e
  ·rw[if_neg (fun z=>e z.symm)];exact dB (p:=(k,y)) e
 | p::r,hn=>by
  rw[eT]
  have hk:¬ p.1=k:=fun z=>by rw[dC z] at hn;cases hn
  rw[dB hk] at hn
  have ih:=tD k j y r hn
  by_cases e:p.1=j
  ·rw[dC e,dC e,if_neg (fun z=>hk (e.trans z))]
  ·rw[dB e,dB e,ih]
theorem rN (kvs:List (κ×V)) (k j:κ) (y:V):cH (putK kvs k y) j=if j=k then some y else cH kvs j:=by
 unfold putK
 by_cases a:(kvs.any fun kv=>decide (kv.1=k))=true
 ·rw[if_pos a,wc]
  rw[lD] at a
  by_cases e:j=k
  ·obtain⟨x,hx⟩:=lP.mp a
   rw[if_pos e,e,hx,lQ,if_pos rfl]
  ·rw[if_neg e]
   cases cH kvs j with
   | none=>rfl
   | some x=>rw[lQ,if_neg e]
 ·rw[if_neg a]
  refine tD k j y kvs ?_
  rw[lD] at a
  cases q:cH kvs k with
  | none=>rfl
  | some x=>rw[q] at a;exact (a rfl).elim
theorem gy (kvs:List (κ×V)) (k:κ) (v:V):(putK kvs k v).length<=kvs.length+1:=by
 unfold putK
 split
 ·rw[List.length_map];omega
 ·rw[bb,br,eU];omega
theorem iX.jw {u:Option Value} (r:iX o u):o.isSome=u.isSome:=by
 cases o with
 | none=>cases u with
  | none=>rfl
  | some _=>exact (show False from r).elim
 | some _=>cases u with
  | none=>exact (show False from r).elim
  | some _=>rfl
theorem iX.getD {o:Option V}{u:Option Value}{d:V}{d':Value} (r:iX o u) (rd:RelV d d'):RelV (o.getD d) (u.getD d'):=by
 cases o with
 | none=>cases u with
  | none=>exact rd
  | some _=>exact (show False from r).elim
 | some _=>cases u with
  | none=>exact (show False from r).elim
  | some _=>exact r

theorem KV.val {kvs:List (κ×V)}{vs:List (κ×Value)} (r:KV kvs vs) (k:κ):iX (cH kvs k) (valueAt vs k):=by
 unfold KV at r
 induction r with
 | nil=>exact True.intro
 | @cons p q ps qs h t ih =>
  obtain⟨h1,h2⟩:=h
  by_cases e:p.1=k
  ·have e':q.1=k:=h1.symm.trans e
   have b:valueAt (q::qs) k=some q.2:=by simp [valueAt,gH,e']
   rw[dC e,b];exact h2
  ·have e':¬ q.1=k:=fun z=>e (h1.trans z)
   have b:valueAt (q::qs) k=valueAt qs k:=by simp [valueAt,gH,e']
   rw[dB e,b];exact ih
theorem KV.any {kvs:List (κ×V)}{vs:List (κ×Value)} (r:KV kvs vs) (k:κ):(kvs.any fun kv=>decide (kv.1=k))=vs.any fun kv=>decide (kv.1=k):=by
 unfold KV at r
 induction r with
 | nil=>rfl
 | cons h t ih=>rw[iC,iC,ih,h.1]
theorem KV.HE {kvs:List (κ×V)}{vs:List (κ×Value)} (r:KV kvs vs) (k:κ)  (ry:RelV y u) :
  KV (kvs.map fun kv=>if kv.1=k then (kv.1,y) else kv) (vs.map fun kv=>if kv.1=k then (kv.1,u) else kv):=by
 unfold KV at r ⊢
 induction r with
 | nil=>exact .nil
 | @cons p q ps qs h t ih =>
  rw[bz,bz]
  refine .cons ?_ ih
  obtain⟨h1,h2⟩:=h
  by_cases e:p.1=k
  ·rw[if_pos e,if_pos (h1.symm.trans e)];exact⟨h1,ry⟩
  ·rw[if_neg e,if_neg (fun z=>e (h1.trans z))];exact⟨h1,h2⟩
theorem KV.put {kvs:List (κ×V)}{vs:List (κ×Value)} (r:KV kvs vs) (k:κ)  (ry:RelV y u):KV (putK kvs k y) (stored vs k u):=by
 unfold putK stored
 rw[r.any k]
 by_cases e:(vs.any fun kv=>decide (kv.1=k))=true
 ·rw[if_pos e,if_pos e];exact r.HE k ry
 ·rw[if_neg e,if_neg e];exact Paired.snoc r ⟨rfl,ry⟩
theorem KV.drop {kvs:List (κ×V)}{vs:List (κ×Value)} (r:KV kvs vs) (k:κ):KV (Fj kvs k) (without vs k):=by
 unfold KV at r ⊢
 unfold Fj without
 induction r with
 | nil=>exact .nil
 | @cons p q ps qs h t ih =>
  obtain⟨h1,h2⟩:=h
  rw[List.filter_cons,List.filter_cons]
  by_cases e:p.1=k
  ·have a:¬ decide (p.1≠k)=true:=by simp [e]
   have b:¬ decide (q.1≠k)=true:=by simp [h1.symm.trans e]
   rw[if_neg a,if_neg b];exact ih
  ·have e':¬ q.1=k:=fun z=>e (h1.trans z)
   have a:decide (p.1≠k)=true:=by simp [e]
   have b:decide (q.1≠k)=true:=by simp [e']
   rw[if_pos a,if_pos b];exact .cons ⟨h1,h2⟩ ih
theorem KV.length {kvs:List (κ×V)}{vs:List (κ×Value)} (r:KV kvs vs):kvs.length=vs.length:=Paired.length r
end


theorem pq {k:Key} (r:RelV (kV k) u):(aY P w).is k u=true:=by
 cases k with
 | inl i=>obtain⟨t,e⟩:=(show ∃ t,u=Value.int i t from r);subst e;exact vm P w i t
 | inr x=>obtain⟨t,e⟩:=(show ∃ t,u=Value.str x t from r);subst e;exact vn P w x t
theorem GN {a b:Key} (e:kV a=kV b):a=b:=by
 cases a with
 | inl i=>cases b with
  | inl j=>have e':V.int i=V.int j:=e;injection e' with e';rw[e']
  | inr y=>exact nomatch (show V.int i=V.str y from e)
 | inr x=>cases b with
  | inl j=>exact nomatch (show V.str x=V.int j from e)
  | inr y=>have e':V.str x=V.str y:=e;injection e' with e';rw[e']
theorem pZ:∀ {a b:List Key},a.map kV=b.map kV->a=b
 | [],[],_=>rfl
 | [],_::_,e=>by simp at e
 | _::_,[],e=>by simp at e
 | x::xs,y::ys,e=>by
  rw[bz,bz] at e
  injection e with e1 e2
  rw[GN e1,pZ e2]
theorem sM {P:Program}{w:World}:∀ {ks:List Key}{us:List Value},Vals (ks.map kV) us->ItemsAre (aY P w) ks us
 | [],_,r=>by rw[List.map_nil] at r;cases r;exact .nil
 | k::ks,_,r=>by
  rw[bz] at r
  cases r with
  | cons h t=>exact .cons (pq h) (sM t)

abbrev KT (H:Hp):List (List Key×V)->List (List Key×Addr×Value)->Prop:=Paired fun p q=>p.1=q.1/\H q.2.1=some (.tup (p.1.map kV))/\RelV p.2 q.2.2
theorem KT.val (r:KT H kvs xs) (k:List Key):iX (cH kvs k) ((atKey xs k).map (·.2)):=by
 induction r with
 | nil=>exact True.intro
 | @cons p q ps qs h t ih =>
  obtain⟨h1,_,h2⟩:=h
  by_cases e:p.1=k
  ·have e':q.1=k:=h1.symm.trans e
   have b:atKey (q::qs) k=some q.2:=by simp [atKey,gH,e']
   rw[dC e,b];exact h2
  ·have e':¬ q.1=k:=fun z=>e (h1.trans z)
   have b:atKey (q::qs) k=atKey qs k:=by simp [atKey,gH,e']
   rw[dB e,b];exact ih
theorem KT.HE (r:KT H kvs xs) (k:List Key)  (ry:RelV y u) :
  KT H (kvs.map fun kv=>if kv.1=k then (kv.1,y) else kv) (xs.map (putAt k u)):=by
 induction r with
 | nil=>exact .nil
 | @cons p q ps qs h t ih =>
  rw[bz,bz]
  refine .cons ?_ ih
  obtain⟨h1,h2,h3⟩:=h
  unfold putAt
  by_cases e:p.1=k
  ·rw[if_pos e,if_pos (h1.symm.trans e)];exact⟨h1,h2,ry⟩
  ·rw[if_neg e,if_neg (fun z=>e (h1.trans z))];exact⟨h1,h2,h3⟩
theorem KT.put (r:KT H kvs xs) (k:List Key) {b:Addr} (hb:H b=some (.tup (k.map kV))) (ry:RelV y u) :
  KT H (putK kvs k y) (storedH xs k b u):=by
 have e:(kvs.any fun kv=>decide (kv.1=k))=(atKey xs k).isSome:=by
  rw[lD,(r.val k).jw,Option.isSome_map]
 unfold putK storedH
 rw[e]
 by_cases q:(atKey xs k).isSome=true
 ·rw[if_pos q,if_pos q];exact r.HE k ry
 ·rw[if_neg q,if_neg q];exact Paired.snoc r ⟨rfl,hb,ry⟩
theorem KT.keeps {H H':Hp} (r:KT H kvs xs) (ht:∀ b ys,H b=some (.tup ys)->H' b=some (.tup ys)):KT H' kvs xs :=
 Paired.GW r fun _ _ z=>⟨z.1,ht _ _ z.2.1,z.2.2⟩

section
variable {P:Program}{w:World}{H:Hp}{h:Heap}{a:Addr}
theorem F7 {u:HO} (ok:HOk P w H h) (e:Rd H a u):bH P w H h a u:=e.ok ok
theorem nq {kvs:List (Key×V)} (ok:HOk P w H h) (e:Rd H a (.dK kvs)):kvs.length<=sizeLine/\(a==sysModules)=false/\∃ vs,KV kvs vs/\h.DictOf (aY P w) a vs :=
 show bH P w H h a (.dK kvs) from F7 ok e
theorem uV {kvs:List (Key×V)} (ok:HOk P w H h) (e:H a=some (.dK kvs)):kvs.length<=sizeLine/\(a==sysModules)=false/\∃ vs,KV kvs vs/\h.DictOf (aY P w) a vs:=nq ok (.inl e)
theorem mF {ks:List Key} (ok:HOk P w H h) (e:H a=some (.tup (ks.map kV))):(tupleKind (aY P w)).is h ks a:=by
 obtain⟨_,its,r,o,h1,h2,n,h3⟩:=(show bH P w H h a (.tup (ks.map kV)) from ok a _ e)
 exact⟨o,its.toArray,n,h1,h2,h3,by simpa using sM r⟩
theorem qC (ok:HOk P w H h) (e:Rd H a (.dT kvs)):kvs.length<=sizeLine/\(a==sysModules)=false ∧
  ∃ xs,KT H kvs xs/\h.DictOfH (tupleKind (aY P w)) a xs:=by
 obtain⟨z,y,xs,r,o,es,ep,h1,h2,h3,h4,h5⟩:=(show bH P w H h a (.dT kvs) from F7 ok e)
 refine⟨z,y,xs,r,o,es,ep,h1,h2,h3,h4,fun x hx=>?_,h5⟩
 have all:∀ {l:List (List Key×V)}{m:List (List Key×Addr×Value)},KT H l m->∀ x∈m,(tupleKind (aY P w)).is h x.1 x.2.1:=by
  intro l m q
  induction q with
  | nil=>intro x hx;exact nomatch hx
  | @cons p q ps qs hq t ih =>
   intro x hx
   rcases aD.mp hx with e | hx
   ·subst e
    exact mF ok (by rw[←hq.1];exact hq.2.1)
   ·exact ih x hx
 exact all r x hx
theorem Fl (ok:HOk P w H h) (e:H a=some (.dT kvs)):kvs.length<=sizeLine/\(a==sysModules)=false ∧
  ∃ xs,KT H kvs xs/\h.DictOfH (tupleKind (aY P w)) a xs:=qC ok (.inl e)
end

def jU (H:Hp) (a:Addr) (y:V) (r:Option V):Prop :=
 (∃ kvs k,Rd H a (.dK kvs)/\y=kV k/\r=cH kvs k)∨∃ kvs k b,Rd H a (.dT kvs)/\y=.ref b/\H b=some (.tup (k.map kV))/\r=cH kvs k
def wd (H:Hp) (a:Addr) (y v:V) (H':Hp):Prop :=
 (∃ kvs k,H a=some (.dK kvs)/\y=kV k/\kvs.length<sizeLine/\H'=upd H a (.dK (putK kvs k v))) ∨
 ∃ kvs k b,H a=some (.dT kvs)/\y=.ref b/\H b=some (.tup (k.map kV))/\kvs.length<sizeLine/\H'=upd H a (.dT (putK kvs k v))
theorem jU.k {H:Hp}{a:Addr}{kvs:List (Key×V)}{k:Key} (e:H a=some (.dK kvs)):jU H a (kV k) (cH kvs k):=.inl ⟨kvs,k,.inl e,rfl,rfl⟩
theorem jU.t {a b:Addr}{k:List Key} (e:H a=some (.dT kvs)) (eb:H b=some (.tup (k.map kV))):jU H a (.ref b) (cH kvs k):=.inr ⟨kvs,k,b,.inl e,rfl,eb,rfl⟩
theorem wd.k {H:Hp}{a:Addr}{kvs:List (Key×V)}{k:Key}{v:V} (e:H a=some (.dK kvs)) (hl:kvs.length<sizeLine):wd H a (kV k) v (upd H a (.dK (putK kvs k v))):=.inl ⟨kvs,k,e,rfl,hl,rfl⟩
theorem wd.t {a b:Addr}{k:List Key}{v:V} (e:H a=some (.dT kvs)) (eb:H b=some (.tup (k.map kV))) (hl:kvs.length<sizeLine) :
  wd H a (.ref b) v (upd H a (.dT (putK kvs k v))):=.inr ⟨kvs,k,b,e,rfl,eb,hl,rfl⟩


section
variable {X:Cx}{pins:List (Addr×Obj)}{σ:St}{H:Hp}{s:Shared}{a:Addr}{y v:V}{u r:Value}{o:Option V}{A:Around}{E:Value->Shared->Prop}

theorem Inv.big (I:Inv X pins σ H s):sysModules<s.heap.objs.size:=by
 have h:mainGlobals<s.heap.objs.size:=(I.mod.glob.keeps I.bk).lt
 exact Nat.lt_trans (by decide) h

theorem zr (hu:A.units+1<cLine) (I:Inv X pins σ H s) (g:jU H a y (some v)) (ry:RelV y u) (h:∀ w' s',Inv X pins σ H s'->RelV v w'->Q w' s') :
  wpAny (model X.prog X.w) A (getItem (.ref a) u) Q E s:=by
 rcases g with ⟨kvs,k,e,ey,l⟩ | ⟨kvs,k,b,e,ey,eb,l⟩
 ·subst ey
  obtain⟨z,hd,vs,rel,dd⟩:=nq I.hok e
  obtain⟨w',hw,rw'⟩:=iX.some_of (v:=v) (o:=valueAt vs k) (by rw[l];exact rel.val k)
  exact wpAny_getItem_of (pq ry) dd.mapOf hw (h w' _ (I.tok _) rw')
 ·subst ey
  cases (show u=Value.ref b from ry)
  obtain⟨z,hd,xs,rel,dd⟩:=qC I.hok e
  obtain⟨w',hw,rw'⟩:=iX.some_of (v:=v) (o:=(atKey xs k).map (·.2)) (by rw[l];exact rel.val k)
  obtain⟨p,hp,hp2⟩:=fS.mp hw
  refine wpAny_getItem_heap (jR hu) (mF I.hok eb) dd hp ?_
  rw[hp2]
  exact h w' _ (I.tok _) rw'
theorem Ju (hu:A.units+1<cLine) (I:Inv X pins σ H s) (g:jU H a y o) (ry:RelV y u) (h:∀ s',Inv X pins σ H s'->Q (.bool o.isSome) s') :
  wpAny (model X.prog X.w) A (compareOp .In u (.ref a)) Q E s:=by
 rcases g with ⟨kvs,k,e,ey,l⟩ | ⟨kvs,k,b,e,ey,eb,l⟩
 ·subst ey
  obtain⟨z,hd,vs,rel,dd⟩:=nq I.hok e
  refine wpAny_in_of (pq ry) hd dd.mapOf ?_
  rw[←(rel.val k).jw,←l]
  exact h _ (I.tok _)
 ·subst ey
  cases (show u=Value.ref b from ry)
  obtain⟨z,hd,xs,rel,dd⟩:=qC I.hok e
  refine wpAny_in_heap (jR hu) (mF I.hok eb) hd dd ?_
  have q:=(rel.val k).jw
  rw[Option.isSome_map] at q
  rw[←q,←l]
  exact h _ (I.tok _)
theorem DI (hu:A.units+1<cLine) (I:Inv X pins σ H s) (g:jU H a y o) (ry:RelV y u) (h:∀ s',Inv X pins σ H s'->Q (.bool (!o.isSome)) s') :
  wpAny (model X.prog X.w) A (compareOp .NotIn u (.ref a)) Q E s:=by
 rcases g with ⟨kvs,k,e,ey,l⟩ | ⟨kvs,k,b,e,ey,eb,l⟩
 ·subst ey
  obtain⟨z,hd,vs,rel,dd⟩:=nq I.hok e
  refine wpAny_notIn_of (pq ry) hd dd.mapOf ?_
  rw[←(rel.val k).jw,←l]
  exact h _ (I.tok _)
 ·subst ey
  cases (show u=Value.ref b from ry)
  obtain⟨z,hd,xs,rel,dd⟩:=qC I.hok e
  refine wpAny_notIn_heap (jR hu) (mF I.hok eb) hd dd ?_
  have q:=(rel.val k).jw
  rw[Option.isSome_map] at q
  rw[←q,←l]
  exact h _ (I.tok _)
theorem pX {t':Nat}{ob:HO} (I:Inv X pins σ H s) (mu:Mut (H a)) (hs:Heap.SameBut a s.heap h') (he:∃ q,h'.get? a=some q) (new:bH X.prog X.w (upd H a ob) h' a ob) :
  Inv X pins σ (upd H a ob) { s with heap:=h',toks:=t' } :=
 I.write (x:=a) (e:=a) mu (.inl rfl) (fun b q hb z=>(hs.2 b hb).trans z) he new
theorem Bb {H':Hp}{kvs:List (Key×V)}{vs:List (Key×Value)} (z:kvs.length<=sizeLine) (hd:(a==sysModules)=false) (rel:KV kvs vs) (dd:h'.DictOf (aY P w) a vs) :
  bH P w H' h' a (.dK kvs):=⟨z,hd,vs,rel,dd⟩
theorem zt {Q:Unit->Shared->Prop} (hu:A.units+1<cLine) (I:Inv X pins σ H s) (g:wd H a y v H') (ry:RelV y u) (rv:RelV v r) (h:∀ s',Inv X pins σ H' s'->Q () s') :
  wpAny (model X.prog X.w) A (setItem (.ref a) u r) Q E s:=by
 rcases g with ⟨kvs,k,e,ey,l,eH⟩ | ⟨kvs,k,b,e,ey,eb,l,eH⟩
 ·subst ey eH
  obtain⟨z,hd,vs,rel,dd⟩:=uV I.hok e
  have hz:vs.length<=sizeLine:=by rw[←rel.length];exact z
  have hl:(putK kvs k v).length<=sizeLine:=by have:=gy kvs k v;omega
  refine wpAny_setItem_pairs (hsz:=hz) (pq ry) dd fun h' dd' hs=>h _ ?_
  have he:∃ q,h'.get? a=some q:=let ⟨q,_,_,hq,_⟩:=dd';⟨q,hq⟩
  exact pX I (by rw[e];exact True.intro) hs he (Bb hl hd (rel.put k rv) dd')
 ·subst ey eH
  cases (show u=Value.ref b from ry)
  obtain⟨z,hd,xs,rel,dd⟩:=Fl I.hok e
  have hz:xs.length<=sizeLine:=by rw[←Paired.length rel];exact z
  have hl:(putK kvs k v).length<=sizeLine:=by have:=gy kvs k v;omega
  refine wpAny_setItem_heap (hsz:=hz) (jR hu) (mF I.hok eb) dd fun h' dd' hs=>h _ ?_
  obtain⟨q,es,ep,hq,h2,h3,h4,_,h5⟩:=dd'
  refine pX I (by rw[e];exact True.intro) hs ⟨q,hq⟩ ⟨hl,hd,_,(rel.put k eb rv).keeps fun c ys ec=>?_,q,es,ep,hq,h2,h3,h4,h5⟩
  rw[ar (aE ec e (fun z=>nomatch z))]
  exact ec
end

section
variable {X:Cx}{pins:List (Addr×Obj)}{σ:St}{H:Hp}{s:Shared}{a:Addr}{kvs:List (Key×V)}{k:Key}{u:Value}{A:Around}{E:Value->Shared->Prop}
theorem Ip (I:Inv X pins σ H s) (e:Rd H a (.dK kvs)) (h:∀ t s',Inv X pins σ H s'->Q (.int kvs.length t) s'):wpAny (model X.prog X.w) A (call (.builtin "len") [.ref a]) Q E s:=by
 obtain⟨z,hd,vs,rel,dd⟩:=nq I.hok e
 refine call_len_dict hd dd (by rw[←rel.length];rw[sizeLine_eq] at z;omega) ?_
 rw[←rel.length]
 exact h _ _ (I.tok _)
end


def Dn (i:Expr):Prop:=∀ ov iv,subscripted i false ov iv=operate [ov,iv] (getItem ov iv)
theorem yK {prog:Program}{w:World}{A:Around}{E:Value->Shared->Prop}{s:Shared}{env:Env}{value slice:Expr}{pos:Pos}{T id:String}{Q:Value->Shared->Prop}
  (hl:typeLookup (.type T) "__getitem__"=pure (some (.builtin id))) (hs:Dn slice)
  (h:wpAny (model prog w) A (eval value env) (fun o s₁=>wpAny (model prog w) A (eval slice env) (fun i s₂=>s₂.TypeIs o T/\wpAny (model prog w) A (getItem o i) Q E s₂) E s₁) E s) :
  wpAny (model prog w) A (eval (.Subscript value slice pos) env) Q E s:=by
 refine Subscript_ (bg h (fun o s₁ h₁=>bg h₁ (fun i s₂ h₂=>?_) fun _ _ x=>x) fun _ _ x=>x)
 obtain⟨hT,h₂⟩:=h₂
 unfold subscriptTail
 refine ah ?_
 rw[getitemInPython_of_ne hT.not_modules]
 refine ah (wpAny_specialOf hT hl ?_)
 have fin:wpAny (model prog w) A (subscripted slice false o i) (fun r s₃=>wpAny (model prog w) A (letTemporaryGo value o r >>= fun _=>pure r) Q E s₃) E s₂:=by
  rw[hs o i]
  exact wpAny_operating (bg h₂ (fun r s₃ h₃=>ah (wpAny_letTemporaryGo (ax h₃))) fun _ _ x=>x)
 first
  | exact ax (ah fin)
  | exact ah (ax (ah fin))
  | exact ah fin

theorem uU (I:Inv X pins σ H s) (g:jU H a y o):s.TypeIs (.ref a) "dict":=by
 rcases g with ⟨kvs,k,e,_,_⟩ | ⟨kvs,k,b,e,_,_,_⟩
 ·obtain⟨_,_,vs,_,dd⟩:=nq I.hok e
  exact dd.typeIs
 ·obtain⟨_,_,xs,_,dd⟩:=qC I.hok e
  exact dd.typeIs
def CV (td ty:TE):TE:=fun σ H Q=>td σ H fun x H1=>ty σ H1 fun y H2=>∃ a v,x=.ref a/\jU H2 a y (some v)/\Q v H2
def CI (td ty tv:TE):TS:=fun D σ H=>tv σ H fun v H1=>td σ H1 fun x H2=>ty σ H2 fun y H3=>∃ a H4,x=.ref a/\wd H3 a y v H4/\D.nx σ H4
section
variable {X:Cx}{o i e value:Expr}{pos pos' tpos:Pos}{td ty tv:TE}
theorem EA (hu:X.A.units+1<cLine) (ho:PE X o td) (hi:PE X i ty) (hs:Dn i):PE X (.Subscript o i pos) (CV td ty):=by
 intro pins s σ H Q I h
 refine yK PySem.F.slot_dict_getitem.lookup hs (thn (ho pins s σ H _ I h) fun u s1 ⟨x,H1,I1,rx,q1⟩=>thn (hi pins s1 σ H1 _ I1 q1) fun iv s2 ⟨y,H2,I2,ry,a,v,ex,g,q2⟩=>?_)
 subst ex
 obtain rfl:u=Value.ref a:=rx
 exact⟨uU I2 g,zr hu I2 g ry fun w' s3 I3 rw'=>⟨v,H2,I3,rw',q2⟩⟩
theorem EJ (hu:X.A.units+1<cLine) (ho:PE X o td) (hi:PE X i ty) (hv:PE X value tv) (hs:swapsWith value (some (.Subscript o i pos')) pos.line X.env=pure false) :
  PS X (.Assign [.Subscript o i pos'] value pos) (CI td ty tv):=by
 intro pins s σ H D I h
 refine wpAny_Assign_Subscript (thn (hv pins s σ H _ I h) fun r s1 ⟨v,H1,I1,rv,q1⟩=>thn (ho pins s1 σ H1 _ I1 q1) fun u s2 ⟨x,H2,I2,rx,q2⟩=>thn (hi pins s2 σ H2 _ I2 q2) fun iv s3 ⟨y,H3,I3,ry,a,H4,ex,g,q3⟩=>?_) hs
 subst ex
 obtain rfl:u=Value.ref a:=rx
 exact zt hu I3 g ry rv fun s4 I4=>⟨σ,H4,I4,q3⟩
end


theorem Ba (h:Heap) (hb:sysModules<h.objs.size):bH P w H (h.push { cls:=.type "dict",data:=.dict #[] }) h.objs.size (.dK []) :=
 ⟨bh _,jO.mpr (Ne.symm (bf hb)),[],.nil,Heap.DictOf.new h⟩
theorem Bc (h:Heap) (hb:sysModules<h.objs.size):bH P w H (h.push { cls:=.type "dict",data:=.dict #[] }) h.objs.size (.dT []) :=
 ⟨bh _,jO.mpr (Ne.symm (bf hb)),[],.nil,_,#[],0,aZ _ rfl,⟨rfl,rfl,rfl⟩,rfl,rfl,List.nodup_nil⟩
def HG:TE:=fun _ H Q=>∀ p,H p=none->Q (.ref p) (upd H p (.dK []))
def HH:TE:=fun _ H Q=>∀ p,H p=none->Q (.ref p) (upd H p (.dT []))
section
variable {X:Cx}{pos:Pos}
theorem Cm:PE X (.Dict [] [] pos) HG:=fun pins s σ H Q I h =>
 wpAny_Dict_empty ⟨.ref s.heap.objs.size,_,I.laid (a:=s.heap.objs.size) (o:=.dK []) (t':=s.toks) (fun _ _ q=>aH _ q) (ai _) (Ba s.heap I.big),rfl,h _ (I.hok.fresh (ai _))⟩
theorem Cn:PE X (.Dict [] [] pos) HH:=fun pins s σ H Q I h =>
 wpAny_Dict_empty ⟨.ref s.heap.objs.size,_,I.laid (a:=s.heap.objs.size) (o:=.dT []) (t':=s.toks) (fun _ _ q=>aH _ q) (ai _) (Bc s.heap I.big),rfl,h _ (I.hok.fresh (ai _))⟩
end

structure M1 (X:Cx) (o:Expr) (m:Str) (apos:Pos) (e:Expr) (cpos:Pos):Prop where
 base:attributeBase o m X.env (eval o X.env)=eval o X.env
 few:((backTo cpos (starEach [e] X.env)).all (fun x=>!x.1)&&(backToKw cpos (keywordEach [] X.env)).all (fun x=>x.1.isSome)
  && decide (([e]:List Expr).length+([]:List Keyword).length+(if ([]:List Keyword).isEmpty then 0 else 1)<30))=true
 line:(apos.endLine==cpos.line)=true
 trees:backTo cpos (starEach [e] X.env)=[(false,eval e X.env)]
structure M2 (X:Cx) (o:Expr) (m:Str) (apos:Pos) (e f:Expr) (cpos:Pos):Prop where
 base:attributeBase o m X.env (eval o X.env)=eval o X.env
 few:((backTo cpos (starEach [e,f] X.env)).all (fun x=>!x.1)&&(backToKw cpos (keywordEach [] X.env)).all (fun x=>x.1.isSome)
  && decide (([e,f]:List Expr).length+([]:List Keyword).length+(if ([]:List Keyword).isEmpty then 0 else 1)<30))=true
 line:(apos.endLine==cpos.line)=true
 trees:backTo cpos (starEach [e,f] X.env)=[(false,eval e X.env),(false,eval f X.env)]

def IsD (H:Hp) (a:Addr):Prop:=(∃ kvs,Rd H a (.dK kvs))∨∃ kvs,Rd H a (.dT kvs)
theorem GH (I:Inv X pins σ H s) (d:IsD H a) :
  s.TypeIs (.ref a) "dict"/\(∀ b,Value.ref a=.ref b->∃ ob,s.heap.get? b=some ob/\ob.dict=none)/\(a==sysModules)=false:=by
 rcases d with ⟨kvs,e⟩ | ⟨kvs,e⟩
 ·obtain⟨_,hd,vs,_,dd⟩:=nq I.hok e
  refine⟨dd.typeIs,fun b q=>?_,hd⟩
  cases q
  obtain⟨ob,_,_,h1,h2,_⟩:=dd
  exact⟨ob,h1,h2.2.1⟩
 ·obtain⟨_,hd,xs,_,dd⟩:=qC I.hok e
  refine⟨dd.typeIs,fun b q=>?_,hd⟩
  cases q
  obtain⟨ob,_,_,h1,h2,_⟩:=dd
  exact⟨ob,h1,h2.2.1⟩

section
variable {X:Cx}{pins:List (Addr×Obj)}{σ:St}{H:Hp}{s:Shared}{a:Addr}{y d:V}{u r:Value}{o:Option V}{A:Around}{E:Value->Shared->Prop}
theorem Gz (hu:A.units+1<cLine) (I:Inv X pins σ H s) (g:jU H a y o) (ry:RelV y u) (h:∀ w' s',Inv X pins σ H s'->RelV (o.getD .non) w'->Q w' s') :
  wpAny (model X.prog X.w) A (call (.builtin "dict.get") [.ref a,u]) Q E s:=by
 rcases g with ⟨kvs,k,e,ey,l⟩ | ⟨kvs,k,b,e,ey,eb,l⟩
 ·subst ey
  obtain⟨z,hd,vs,rel,dd⟩:=nq I.hok e
  refine call_meetsIn PySem.F.slot_dict_get dd.typeIs PySem.F.entry_dict_get (PySem.F.args_dict_get_2 _ _) (meets_dict_get (aY X.prog X.w) a (pq ry) hd) ⟨_,dd.mapOf,h _ _ (I.tok _) ?_⟩
  rw[l]
  exact (rel.val k).getD rfl
 ·subst ey
  cases (show u=Value.ref b from ry)
  obtain⟨z,hd,xs,rel,dd⟩:=qC I.hok e
  refine call_meetsIn PySem.F.slot_dict_get dd.typeIs PySem.F.entry_dict_get (PySem.F.args_dict_get_2 _ _) (meetsH_dict_get (tupleKind (aY X.prog X.w)) a b hd) ⟨jR hu,k,xs,mF I.hok eb,dd,h _ _ (I.tok _) ?_⟩
  rw[l]
  exact (rel.val k).getD rfl
end

def xQ (td ty:TE):TE:=fun σ H Q=>td σ H fun x H1=>∃ a,x=.ref a/\IsD H1 a/\ty σ H1 fun y H2=>∃ o,jU H2 a y o/\Q (o.getD .non) H2
section
variable {X:Cx}{o e f:Expr}{apos cpos:Pos}{td ty tx:TE}
theorem Ck (hu:X.A.units+1<cLine) (ho:PE X o td) (he:PE X e ty) (m:M1 X o "get" apos e cpos):PE X (.Call (.Attribute o "get" apos) [e] [] cpos) (xQ td ty):=by
 intro pins s σ H Q I h
 refine wpAny_Call_method m.base m.few m.line jN PySem.F.slot_dict_get PySem.F.type_dict_get (thn (ho pins s σ H _ I h) fun u s1 ⟨x,H1,I1,rx,a,ex,d,q1⟩=>?_)
 subst ex
 obtain rfl:u=Value.ref a:=rx
 obtain⟨t1,t2,_⟩:=GH I1 d
 refine⟨t1,t2,?_⟩
 rw[m.trees]
 refine Calls.callWith_builtin rfl (Calls.evalArgs_plain (mj (thn (he pins s1 σ H1 _ I1 q1) fun iv s2 ⟨y,H2,I2,ry,ov,g,q2⟩=>Calls.spliced_nil ?_)))
 exact Gz hu I2 g ry fun w' s3 I3 rw'=>⟨_,H2,I3,rw',q2⟩
end

section
variable {X:Cx}{pins:List (Addr×Obj)}{σ:St}{H:Hp}{s:Shared}{a:Addr}{kvs:List (Key×V)}{A:Around}{E:Value->Shared->Prop}
end


section
variable {X:Cx}{pins:List (Addr×Obj)}{σ:St}{H:Hp}{s:Shared}{a:Addr}{y:V}{u:Value}{A:Around}{E:Value->Shared->Prop}
end
end
end L2


namespace Att
open PySem PySem.W PySem.Calls PyProof.Rows
variable {P:Params}{h:Heap}

theorem pP :∀ (ns:List Int) (vs:List Value),WellAll P h vs (ns.map WData.int)->IntsAre vs ns:=by
 intro ns
 induction ns with
 | nil =>
  intro vs w
  rw[List.map_nil] at w
  cases w
  exact .nil
 | cons n ns ih =>
  intro vs w
  rw[bz] at w
  cases w with
  | cons a b =>
   cases a
   exact .cons _ _ (ih _ b)

theorem Ao {l:OpenLaw}{n:Nat} (hn:l.most=some n) {P:Params}{h:Heap}{args:List WData}{vals:List Value}
  (hpre:l.row.toRowW.claim.pre args=true) (hwl:WellAll P h vals args) :
  ∃ a vs ns,vals=[Value.ref a]/\args=[WData.list (ns.map WData.int)]/\h.get? a=some { cls:=.type "list",data:=.seq vs.toArray }/\IntsAre vs ns/\ns.length<=n:=by
 have hsh:WShape.hasAll [] args [.list .int]=true:=(pre_splitW hpre).1
 have hc:l.pre.holds [] { args:=args }=true:=(pre_splitW hpre).2
 obtain⟨d,r,rfl,h1,h2⟩:=hasAllW_cons hsh
 obtain rfl:=hasAllW_nil h2
 obtain⟨xs,rfl,h3⟩:=hasW_list h1
 obtain⟨ns,rfl⟩:=items_int h3
 have hlen:ns.length<=n:=by
  unfold OpenLaw.pre at hc
  have h4:(WTm.not (.lt (.lit (.int (n:Int))) (.len (.arg 0)))).holds [] { args:=[.list (ns.map .int)] }=true:=by
   have h4:=(holds_andW hc).1
   rw[hn] at h4
   exact h4
  have h5:=condW_of h4 (w_not (w_lt w_lit (w_len_list (w_arg rfl))))
  rw[List.length_map] at h5
  refine Nat.le_of_not_lt fun q=>?_
  have q':(n:Int)<((ns.length:Nat):Int):=by omega
  first
   | (rw[decide_eq_true q'] at h5;exact absurd h5 (by decide))
   | (simp at h5;omega)
 cases hwl with
 | cons w1 w2 =>
  cases w2
  cases w1 with
  | list ho hall=>exact⟨_,_,ns,rfl,rfl,ho,pP ns _ hall,hlen⟩

theorem Aj (l:OpenLaw) (args:List WData):l.row.toRowW.claim.post args (.bool true) args=true :=
 postW_of (r:=l.row.toRowW) (X:=(true==true))
  (show WShape.has [] (.bool true) .bool=true by first | rfl | decide | simp [WShape.has,WShape.arms,WShape.armsAll])
  (show (WTm.eq .res (.lit (.bool true))).value [] { args:=args,res:=some (.bool true),after:=args }=some (.bool (true==true)) from w_eq_bool (w_res rfl) w_lit) rfl

theorem uI {l:OpenLaw}{n:Nat}{q:Program}{loose:List Str}{XP:(Str->Option Value)->Heap->Prop}{YP:World->Heap->Prop}{d:DefRec}
  (hn:l.most=some n) (hdf:d.params.defaults=[])
  (call:∀ (w:World) (s₀ s₁:Shared) (mg mb:Str->Option Value) (fa:Addr) (o:Obj) (pm cd doc:Value) (a:Addr) (vs:List Value) (ns:List Int),
   Ground q loose [] XP w s₀ mg mb s₁.heap->YP w s₁.heap →
   s₁.heap.get? fa=some o->o.data=.func (docDef d.name d.params d.body d.scope pm cd doc)->s₁.heap.CodeRec cd d.name->mg d.name=some (.ref fa) →
   s₁.heap.get? a=some { cls:=.type "list",data:=.seq vs.toArray }->IntsAre vs ns->ns.length<=n->s₁.gens=#[] →
   codeAny (model l.prog w) callerA (.call (.ref fa) ⟨[.ref a],[]⟩) (fun r s'=>r=.ok (.ret (.bool true))/\OldK s₁.heap s'.heap/\s'.os=s₁.os/\AllBare s'.gens) s₁) :
  WalkO q loose XP YP l.row.toRowW d [] (fun f vs=>PySem.call f vs):=by
 intro w s₀ s₁ mg mb G Y fa o pm cd doc dV kV ho hd hcd hD hmg hg args vals as hpre hlay hrd hwl hlo
 obtain rfl:dV=.none:=Dflts.none hD hdf
 obtain rfl:kV=.none:=Dflts.noKw hD
 obtain⟨a,vs,ns,rfl,rfl,hobj,hints,hlen⟩:=Ao hn hpre hwl
 refine enter_call (fU (call w s₀ s₁ mg mb fa o pm cd doc a vs ns G Y ho (fd_plain hd) hcd hmg hobj hints hlen hg) fun r s' hq=>?_)
 obtain⟨rfl,h2,h3,h4⟩:=hq
 exact⟨.inl ⟨.bool true,.bool true,[],rfl,fun _=>rfl,.bool true,Aj l _,fun _=>⟨List.Pairwise.nil,fun _ hm=>(nomatch hm)⟩⟩,h2,h3,h4⟩

section
variable {prog:Program}{w:World}{A:Around}{E:Value->Shared->Prop}{s:Shared}{K:Frag}

end
end Att

namespace L2
open PySem PySem.Spec PyProof.Rows
variable {A:Around}{f:Addr}{fd:FuncData}{st:Stmt}
section

theorem tF:∀ {vs:List Value}{ns:List Int},IntsAre vs ns->Vals (ns.map V.int) vs
 | _,_,.nil=>.nil
 | _,_,.cons n t h=>.cons ⟨t,rfl⟩ (tF h)

end
section

end
section

def inClass (s:Stmt) (j:Nat):Stmt:=match s with
 | .ClassDef _ _ _ body _ _ _ _ _ _ _=>body.getD j (.Pass ⟨0,0,0,0⟩)
 | _=>.Pass ⟨0,0,0,0⟩
def bT (s:Stmt):Arguments:=match s with
 | .FunctionDef _ a _ _ _ _ _ _ _ _=>a
 | _=>{ posonlyargs:=[],args:=[],vararg:=none,kwonlyargs:=[],kw_defaults:=[],kwarg:=none,defaults:=[] }
def bD (s:Stmt):List Stmt:=match s with
 | .FunctionDef _ _ b _ _ _ _ _ _ _=>b
 | _=>[]
def ak (s:Stmt):Scope:=match s with
 | .FunctionDef _ _ _ _ _ _ sc _ _ _=>sc
 | _=>{ kind:=.function,names:=[],isGenerator:=false,isCoroutine:=false }

abbrev CX0:CXT:=fun _ _ _ _ _ _=>False
abbrev E0:St->XK:=fun _ _ _ _=>False
structure Fun (K:PySem.W.Frag) (x qual:Str) (st:Stmt) (f:Addr) (fd:FuncData):Prop where
 ex:∃ (oc:Value) (od:Option Addr) (kV doc pm:Value) (an:Option Addr) (cdv ct:Value) (osl:Array (Option Value)),
  fd=PySem.W.fnOf x qual (bT st) (bD st) (ak st) .none kV doc pm an cdv ct/\K.lookup f=some ⟨oc,od,.func fd,osl⟩/\PySem.W.codeIn K cdv qual=true
 kp:PySem.W.keepIn K (.ref f)=true
section
variable {P:Program}{w:World}{K:PySem.W.Frag}{mg:Str->Option Value}{base:Heap}
theorem Fun.ok {x qual:Str}{N ps:List Str}{k:Nat}{sp:Sp} (F:Fun K x qual st f fd) (S:aM N ps (ak st)) (len:∀ vs H Q E,sp vs H Q E->vs.length=ps.length)
  (hbody:∀ (cdv:Value) (A:Around) (outer:List Env) (s:Shared) (H:Hp) (vs:List V) (Q:VK) (E:XK),bZ k (A.deeper (envOfC qual (ak st) s.heap.objs.size f cdv))->sp vs H Q E →
   ∃ t,PSs (mm CX0 P w K mg base N qual (ak st) f cdv A outer s H E).nox (bD st) t/\t { nx:=fun _ H'=>Q .non H',rt:=Q } (start N vs) H):bI P w K mg base CX0 (k+1) f fd ps sp:=by
 obtain⟨oc,od,kV,doc,pm,an,cdv,ct,osl,rfl,lk,hcd⟩:=F.ex
 refine vc lk hcd S len fun A outer s H vs Q E hr hsp=>?_
 obtain⟨t,h,q⟩:=hbody cdv A outer s H vs Q E hr hsp
 exact⟨t,h.nox,q⟩
theorem Fun.binds {x qual:Str}{ps:List Str} (F:Fun K x qual st f fd)
  (h:∀ (kV doc pm:Value) (an:Option Addr) (cdv ct:Value) (us:List Value),us.length=ps.length->bindArgs (PySem.W.fnOf x qual (bT st) (bD st) (ak st) .none kV doc pm an cdv ct) ⟨us,[]⟩=pure (ps.zip us)):Binds K fd ps []:=by
 obtain⟨oc,od,kV,doc,pm,an,cdv,ct,osl,rfl,lk,hcd⟩:=F.ex
 exact .all (h kV doc pm an cdv ct)
theorem kI {x qual:Str}{oc:Value}{od an:Option Addr}{osl:Array (Option Value)}{kV doc pm cdv ct:Value} (l:K.lookup f=some ⟨oc,od,.func (PySem.W.fnOf x qual (bT st) (bD st) (ak st) .none kV doc pm an cdv ct),osl⟩)
  (c:PySem.W.codeIn K cdv qual=true) (k:PySem.W.keepIn K (.ref f)=true):Fun K x qual st f (PySem.W.fnOf x qual (bT st) (bD st) (ak st) .none kV doc pm an cdv ct):=⟨⟨oc,od,kV,doc,pm,an,cdv,ct,osl,rfl,l,c⟩,k⟩
end
theorem iM {k:Nat} (hr:bZ k A):A.units+1<cLine:=dQ (Nat.add_le_add_left (by decide:1<=64) _) hr.units
section
variable {X:Cx}
theorem pv (i:Nat) {x:Str}{pos:Pos} (hN:X.N[i]?=some x:=by rfl) (hv:Vis X.env.scope x:=by first | exact Or.inl rfl | exact Or.inr (Or.inl rfl) | exact Or.inr (Or.inr rfl)) (hd:(x==("__debug__":Str))=false:=by decide)
  (hcd:(x==("__classdict__":Str))=false:=by decide):PE X (.Name x pos) (Aq i):=ux hN hv hd hcd
end

def aq (H H':Hp):Prop:=∀ b o,H b=some o->H' b=some o
theorem aq.refl (H:Hp):aq H H:=fun _ _ h=>h
theorem aq.trans {H H1 H2:Hp} (a:aq H H1) (b:aq H1 H2):aq H H2:=fun c o h=>b c o (a c o h)
theorem aq.free {H H':Hp} (e:aq H H') {l:Addr} (h:H' l=Option.none):H l=Option.none:=by
 cases q:H l with
 | none=>rfl
 | some o =>
  rw[e l o q] at h
  cases h
theorem aq.seq {K:PySem.W.Frag}{H H':Hp}{a:Addr}{xs:List V} (e:aq H H') (h:SqL K H a xs):SqL K H' a xs:=by
 rcases h with (h | ⟨o,h⟩) | h
 ·exact .inl (.inl (e _ _ h))
 ·exact .inl (.inr ⟨o,e _ _ h⟩)
 ·exact .inr h

end
section
section
variable {κ:Type} [DecidableEq κ]
theorem kb:∀ {l:List κ}{k:κ},l.Nodup->¬ k∈l->(l++[k]).Nodup
 | [],k,_,_=>by simp
 | a::r,k,h,hk=>by
  obtain⟨h1,h2⟩:=c9.mp h
  show (a::(r++[k])).Nodup
  refine c9.mpr ⟨fun m=>?_,kb h2 fun m=>hk (aD.mpr (Or.inr m))⟩
  rcases bL.mp m with q | q
  ·exact h1 q
  ·exact hk (aD.mpr (Or.inl (bc.mp q).symm))
end
end
section
def jW (o:Option Value) (H:Hp):Prop:=o=none∨∃ ea φ,o=some (Value.ref ea)/\H ea=some (HO.ext φ)/\∀ h:Heap,φ h->∃ ob vs,h.get? ea=some ob/\ob.data=.fields vs/\vs[2]?=some Value.none
structure gv (k:Nat) (A:Around):Prop where
 dp:A.depth+3*k+5<recursionLimit
 un:A.units+16*k+200<cLine
theorem gv.mono {j k:Nat} (r:gv k A) (h:j<=k):gv j A:=⟨by have:=r.dp;omega,by have:=r.un;omega⟩
theorem gv.deeper {k:Nat}{A:Around} (r:gv (k+1) A) (env:Env):gv k (A.deeper env):=⟨by have:=r.dp;show A.depth+1+3*k+5<_;omega,by have:=r.un;show A.units+3+16*k+200<_;omega⟩
theorem gv.depth {k:Nat}{A:Around} (r:gv k A):A.depth<recursionLimit:=by have:=r.dp;omega
theorem gv.ft {k:Nat} (r:gv k A):A.units<cLine:=by have:=r.un;omega
theorem bZ.n {k:Nat} (r:bZ k A):gv k A:=⟨r.dp,r.un⟩
structure A2 (P:Program) (w:World) (K:PySem.W.Frag) (mg:Str->Option Value) (base:Heap) (CX:CXT) (k:Nat) (f:Addr) (fd:FuncData) (ps:List Str) (sp:Sp):Prop where
 len:∀ vs H Q E,sp vs H Q E->vs.length=ps.length
 run:∀ (A:Around) (outer:List Env) (s:Shared) (H:Hp) (args:Args) (us:List Value) (vs:List V) (Q:VK) (E:XK),gv k A->jW A.handled H->oA P w K mg base A outer s H->BindsTo s fd args (ps.zip us)->Vals vs us->sp vs H Q E →
  codeAny (model P w) A (.call (.ref f) args) (CR CX outer P w H s Q E) s
section
variable {X:Cx}{CX:CXT}{k:Nat}{f C:Addr}{fd:FuncData}{ps:List Str}{sp:Sp}{dvs:List V}{ds:List Value}{E:St->XK}{x m:Str}{p pos apos:Pos}{e o:Expr}{es:List Expr}{ta:TE}{t:TA}
end
end
end L2
set_option Elab.async false
set_option linter.all false
set_option maxRecDepth 100000
set_option maxHeartbeats 4000000
set_option exponentiation.threshold 2000
namespace Mk
variable {m:Int}{x:Int}
section
def cop (m n:Int):Bool:=decide (Int.gcd n m=1)
def dif (ws:List Int):List Int:=(ws.zip (ws.drop 1)).map fun p=>p.2-p.1
def safe (m:Int) (ws:List Int):Bool:=(ws++dif ws).all (cop m)
theorem Bz (a b:Int):Int.gcd b (a%b)=Int.gcd a b:=by
 rw[Int.emod_def,Int.gcd_sub_mul_left_right,Int.gcd_comm]
theorem vO {ws:List Int}:safe m ws=true↔(∀ w∈ws,cop m w=true)/\∀ (j:Nat) a b,ws[j]?=some a->ws[j+1]?=some b->cop m (b-a)=true:=by
 unfold safe
 rw[List.all_append,cf,ck,ck]
 refine and_congr Iff.rfl ⟨fun h j a b ha hb=>?_,fun h x hx=>?_⟩
 ·refine h (b-a) (aC.mpr ⟨(a,b),?_,rfl⟩)
  refine bp (i:=j) ?_
  rw[List.getElem?_zip_eq_some]
  exact⟨ha,by rw[nW,Nat.add_comm];exact hb⟩
 ·unfold dif at hx
  obtain⟨⟨a,b⟩,hp,rfl⟩:=aC.mp hx
  obtain⟨j,hj⟩:=List.getElem?_of_mem hp
  rw[List.getElem?_zip_eq_some] at hj
  exact h j a b hj.1 (by have:=hj.2;rw[nW,Nat.add_comm] at this;exact this)
def big:Int:=314159265358979323846264338327950288419716939937510582097494
def ofN (n:Nat):List Int:=(List.range n).map fun (k:Nat)=>(k:Int)
theorem kc (n:Nat):(ofN n).length=n:=by simp [ofN]
theorem ma {n:Nat}:x∈ofN n↔0<=x/\x<n:=by
 unfold ofN
 rw[aC]
 constructor
 ·rintro⟨k,hk,rfl⟩
  have:=cY.mp hk
  omega
 ·rintro⟨h1,h2⟩
  exact⟨x.toNat,cY.mpr (by omega),by omega⟩
def uL (m:Int) (found:List Int):List Int:=(ofN m.toNat).filter fun w=>cop m w&&(found.isEmpty||cop m (w-found.getLastD 0))
def dY (m:Int) (found:List Int):List Int:=if uL m found=[] then ofN m.toNat else uL m found
def mz (m:Int):Nat->Int->List Int->List Int
 | 0,_,found=>found
 | n+1,c,found=>mz m n (c/7) (found++[(dY m found).getD (c%((dY m found).length:Int)).toNat 0])
def wts (c m:Int) (n:Nat):List Int:=mz m n c []
theorem vH {found:List Int} (h:x∈dY m found):0<=x/\x<m:=by
 unfold dY at h
 split at h
 ·have:=ma.mp h;omega
 ·have:=ma.mp (dF.mp h).1;omega
theorem vI (hm:0<m) (found:List Int):0<(dY m found).length:=by
 unfold dY
 split
 ·rw[kc];omega
 ·rename_i h
  exact lH.mpr h
theorem yD (hm:0<m) (found:List Int) (c:Int):0<=c%((dY m found).length:Int)/\c%((dY m found).length:Int)<((dY m found).length:Int):=by
 have:=vI hm found
 exact⟨cO _ (by omega),dD _ (by omega)⟩
theorem vG (hm:0<m) (found:List Int) (c:Int):(dY m found).getD (c%((dY m found).length:Int)).toNat 0∈dY m found:=by
 obtain⟨h1,h2⟩:=yD hm found c
 have h3:(c%((dY m found).length:Int)).toNat<(dY m found).length:=by omega
 rw[List.getD_eq_getElem?_getD,List.getElem?_eq_getElem h3]
 exact fQ h3
theorem tL (m:Int):∀ (n:Nat) (c:Int) (found:List Int),(mz m n c found).length=found.length+n
 | 0,_,_=>rfl
 | n+1,c,found=>by
  unfold mz
  rw[tL m n,bb,lJ];omega
theorem Ff (c m:Int) (n:Nat):(wts c m n).length=n:=by unfold wts;rw[tL];simp
theorem tM {m:Int} (hm:0<m):∀ (n:Nat) (c:Int) (found:List Int),(∀ x∈found,0<=x/\x<m)->∀ x∈mz m n c found,0<=x/\x<m
 | 0,_,_,h=>h
 | n+1,c,found,h=>by
  unfold mz
  refine tM hm n _ _ fun x hx=>?_
  rcases bL.mp hx with hx | hx
  ·exact h x hx
  ·rw[bc] at hx;subst hx;exact vH (vG hm found c)
theorem Fg (hm:0<m) (c:Int) (n:Nat):∀ x∈wts c m n,0<=x/\x<m:=tM hm n c [] (fun _ h=>by cases h)
def Iq (m:Int):Nat->Int->List Int
 | 0,_=>[]
 | n+1,c=>c%m::Iq m n (c/31)
def w1 (n m:Int):List Int:=wts (n/100) m (3+n%6).toNat
def w2 (n m:Int):List Int:=if n/6%4=1 then (w1 n m).set (n/24%((w1 n m).length:Int)).toNat (n/200%m) else w1 n m
def w3 (n m:Int):List Int:=if n/6%4=2 then Iq m (w2 n m).length (n/100) else w2 n m
def w4 (n m:Int):List Int:=if n/6%4=3/\n/24%2=1 then List.replicate (w3 n m).length (n/48%m) else w3 n m
def HW (k:Nat):Int:=if k%2=0 then 1 else 2
def alt (n:Nat):List Int:=(List.range n).map HW
theorem zq:∀ m:Nat,m<27->3<=m->cop (m:Int) 0=false/\cop (m:Int) 1=true/\cop (m:Int) (-1)=true/\cop (m:Int) 2=decide (m%2=1):=by decide +kernel
end
section
end
section
def numOf (m:Int) (ps:List Int):Int:=ps.foldl (fun k p=>k*m+p) 0
end
section
theorem Am {m x:Int}{l:List Int} (h:safe m l=true) (hx:cop m x=true) (hl:l=[]∨cop m (x-l.getLastD 0)=true):safe m (l++[x])=true:=by
 rw[vO] at h ⊢
 refine⟨fun w hw=>?_,fun j a b ha hb=>?_⟩
 ·rcases bL.mp hw with hw | hw
  ·exact h.1 w hw
  ·rw[bc.mp hw];exact hx
 ·by_cases h1:j+1<l.length
  ·rw[fO (by omega)] at ha
   rw[fO h1] at hb
   exact h.2 j a b ha hb
  ·have hj:=(bK.mp hb).1
   rw[bb,lJ] at hj
   have e:j+1=l.length:=by omega
   rw[fO (by omega)] at ha
   rw[fP (by omega),e,Nat.sub_self] at hb
   have hne:l≠[]:=fun e2=>by rw[e2] at e;simp at e
   have e3:l.getLastD 0=a:=by
    rw[List.getLastD_eq_getLast?,List.getLast?_eq_getElem?,show l.length-1=j by omega,ha];rfl
   have e4:x=b:=by simpa using hb
   subst e4
   rw[←e3]
   exact hl.resolve_left hne
theorem BZ:∀ m:Nat,m<27->3<=m->m%2=1->∀ w:Nat,w<m->cop (m:Int) (w:Int)=true->(cop (m:Int) (((2*w)%m:Nat):Int)&&cop (m:Int) ((((2*w)%m:Nat):Int)-(w:Int)))=true:=by decide +kernel
theorem AW (h3:3<=m) (h26:m<=26) (ho:m%2=1) {l:List Int} (hb:∀ x∈l,0<=x/\x<m) (hc:∀ x∈l,cop m x=true):uL m l≠[]:=by
 obtain⟨M,rfl⟩:=Int.eq_ofNat_of_zero_le (show 0<=m by omega)
 intro e
 unfold uL at e
 rw[List.filter_eq_nil_iff] at e
 by_cases hl:l=[]
 ·subst hl
  exact e 1 (ma.mpr ⟨by decide,by omega⟩) (by rw[(zq M (by omega) (by omega)).2.1];rfl)
 ·have hm:l.getLastD 0∈l:=by
   rw[List.getLastD_eq_getLast?,List.getLast?_eq_some_getLast hl]
   exact List.getLast_mem hl
  have h1:=hb _ hm
  have h2:=hc _ hm
  generalize l.getLastD 0=w at e h1 h2
  obtain⟨W,rfl⟩:=Int.eq_ofNat_of_zero_le h1.1
  have h4:=BZ M (by omega) (by omega) (by omega) W (by omega) h2
  rw[cf] at h4
  refine e (((2*W)%M:Nat):Int) (ma.mpr ⟨by omega,?_⟩) ?_
  ·have:=Nat.mod_lt (2*W) (show 0<M by omega)
   omega
  ·rw[h4.1,h4.2,Bool.or_true];rfl
theorem rP {m:Int} (h3:3<=m) (h26:m<=26) (ho:m%2=1):∀ (n:Nat) (c:Int) (l:List Int),(∀ x∈l,0<=x/\x<m)->safe m l=true->safe m (mz m n c l)=true
 | 0,_,_,_,h=>h
 | n+1,c,l,hb,h=>by
  unfold mz
  have hp:=vG (show 0<m by omega) l c
  generalize (dY m l).getD (c%((dY m l).length:Int)).toNat 0=x at hp
  have hx:=vH hp
  have hc:=AW h3 h26 ho hb (vO.mp h).1
  unfold dY at hp
  rw[if_neg hc] at hp
  unfold uL at hp
  have hq:=(dF.mp hp).2
  rw[cf,Bool.or_eq_true] at hq
  refine rP h3 h26 ho n _ _ (fun y hy=>?_) (Am h hq.1 ?_)
  ·rcases bL.mp hy with hy | hy
   ·exact hb y hy
   ·rw[bc.mp hy];exact hx
  ·rcases hq.2 with e | e
   ·exact .inl (List.isEmpty_iff.mp e)
   ·exact .inr e
theorem Dl (h3:3<=m) (h26:m<=26) (ho:m%2=1) (c:Int) (n:Nat):safe m (wts c m n)=true:=rP h3 h26 ho n c [] (fun _ h=>by cases h) rfl
section
variable {m r k:Int}{ws:List Int} (h0:0<m) (h26:m<=26) (hm:∀ x∈ws,0<=x/\x<m) (hs:safe m ws=true) (hl:1<=ws.length)
include h0 h26 hm hs hl
omit h26 hm hs hl in
end
end
section
end
section
def bQ (c:Nat):List Nat->List (List Nat)
 | []=>[[]]
 | a::l=>if a=c then []::bQ c l else match bQ c l with
  | []=>[[a]]
  | w::ws=>(a::w)::ws
def fv (c:Nat):List (List Nat)->List Nat
 | []=>[]
 | [w]=>w
 | w::v::ws=>w++c::fv c (v::ws)
theorem kz {c:Nat}:∀ (w l:List Nat),c∉w->bQ c (w++c::l)=w::bQ c l
 | [],l,_=>by simp [bQ]
 | a::w,l,h=>by
  have ha:a≠c:=fun e=>h (by rw[e];exact List.mem_cons_self)
  have ih:=kz w l fun hc=>h (List.mem_cons_of_mem _ hc)
  show (if a=c then _ else match bQ c (w++c::l) with | []=>[[a]] | w::ws=>(a::w)::ws)=_
  rw[if_neg ha,ih]
theorem sW {c:Nat}:∀ (w:List Nat),c∉w->bQ c w=[w]
 | [],_=>rfl
 | a::w,h=>by
  have ha:a≠c:=fun e=>h (by rw[e];exact List.mem_cons_self)
  have ih:=sW w fun hc=>h (List.mem_cons_of_mem _ hc)
  show (if a=c then _ else match bQ c w with | []=>[[a]] | w::ws=>(a::w)::ws)=_
  rw[if_neg ha,ih]
theorem lA {c:Nat}:∀ (ws:List (List Nat)),ws≠[]->(∀ w∈ws,c∉w)->bQ c (fv c ws)=ws
 | [],h,_=>absurd rfl h
 | [w],_,h=>sW w (h w List.mem_cons_self)
 | w::v::ws,_,h=>by
  show bQ c (w++c::fv c (v::ws))=_
  rw[kz w _ (h w List.mem_cons_self),lA (v::ws) (by simp) fun x hx=>h x (List.mem_cons_of_mem _ hx)]
theorem rJ {c:Nat}:∀ (l:List Nat),(bQ c l).length<=l.length+1/\∀ w∈bQ c l,w.length<=l.length
 | []=>by simp [bQ]
 | a::l=>by
  obtain⟨h1,h2⟩:=rJ (c:=c) l
  have e:bQ c (a::l)=if a=c then []::bQ c l else match bQ c l with | []=>[[a]] | w::ws=>(a::w)::ws:=rfl
  by_cases ha:a=c
  ·rw[e,if_pos ha,br,br]
   refine⟨by omega,fun w hw=>?_⟩
   rcases aD.mp hw with rfl | hw
   ·exact bh _
   ·have:=h2 w hw;omega
  ·rw[e,if_neg ha,br]
   cases hs:bQ c l with
   | nil=>exact⟨by simp,fun w hw=>by rw[bc.mp hw];simp⟩
   | cons v vs =>
    rw[hs] at h1 h2
    refine⟨by simp only[br] at h1 ⊢;omega,fun w hw=>?_⟩
    rcases aD.mp hw with rfl | hw
    ·have:=h2 v List.mem_cons_self
     rw[br];omega
    ·have:=h2 w (List.mem_cons_of_mem _ hw);omega
end
section
end
end Mk




namespace L2
open PySem PySem.Spec PyProof.Rows
variable {A:Around}{C:Addr}{CX:CXT}{D:Ends}{E:Value->Shared->Prop}{H:Hp}{H1:Hp}{J:It}{K:PySem.W.Frag}{M:Model}{P:Program}{Q:Value->Shared->Prop}{T:String}{X:Cx}{a:Addr}{bmB:List Value}{c:Value}{ch:List Addr}{cl:List (Str×Addr)}{d:Option Addr}{e:Expr}{elts:List Expr}{env:Env}{es:List Expr}{f:Addr}{fd:FuncData}{fp:List Addr}{frn:List Str}{g:TG}{h:Heap}{h':Heap}{i:Nat}{ifs:List Expr}{items:Array Value}{js:List Nat}{kvs:List (Key×V)}{lo:Int}{m:Str}{o:HO}{ob:Obj}{pins:List (Addr×Obj)}{pl:Sem Bool}{pos:Pos}{prog:Program}{ps:List Str}{r:V->List V->Hp->VK->Prop}{s:Shared}{scope:Scope}{sp:Sp}{t':Nat}{ta:TA}{tb:TS}{tc:TT}{te:TE}{tl:TE}{to:TE}{tpos:Pos}{v:Value}{w:World}{wi:TI}{x:Str}{xe:Value->Shared->Prop}{xs:List V}{α:Type}{σ:St}
section
def clo (cells:List (Str×Addr)):List (Str×NameKind)->List (Str×Addr)->Option (List (Str×Addr))
 | [],acc=>some acc
 | (n,k)::r,acc=>if k==.free then (match cells.lookup n with | some c=>clo cells r ((n,c)::acc) | none=>none) else clo cells r acc
theorem qy {env:Env}:∀ (names:List (Str×NameKind)) (acc cl:List (Str×Addr)),clo env.cells names acc=some cl →
  (forIn names acc fun (x:Str×NameKind) (cs:List (Str×Addr))=>(if x.2==.free then do let c ←cellOf env x.1;pure (ForInStep.yield ((x.1,c)::cs)) else pure (ForInStep.yield cs):Sem (ForInStep (List (Str×Addr)))))=pure cl
 | [],acc,cl,h=>by
  have e:acc=cl:=Option.some.inj h
  subst e;rfl
 | (n,k)::r,acc,cl,h=>by
  rw[List.forIn_cons]
  unfold clo at h
  by_cases hk:(k==NameKind.free)=true
  ·rw[if_pos hk] at h
   cases hc:env.cells.lookup n with
   | none=>rw[hc] at h;cases h
   | some c =>
    rw[hc] at h
    have ih:=qy (env:=env) r ((n,c)::acc) cl h
    have e1:cellOf env n=pure c:=by unfold cellOf;rw[hc]
    simp only[hk,if_true,e1,pure_bind]
    exact ih
  ·rw[if_neg hk] at h
   have ih:=qy (env:=env) r acc cl h
   simp only[hk,eM,pure_bind,ku]
   exact ih
theorem fG (h:clo env.cells scope.names []=some cl):closureFor scope env=pure cl:=by
 have e:=qy (env:=env) scope.names [] cl h
 unfold closureFor
 simp only[bind_pure]
 first
  | exact e
  | (simp only[bind_pure_comp,map_pure] at e ⊢;exact e)
  | (rw[show (fun (x:Str×NameKind) (r:List (Str×Addr))=>_)=_ from rfl];exact e)
theorem lY {cells:List (Str×Addr)}:∀ (names:List (Str×NameKind)) (acc cl:List (Str×Addr)),clo cells names acc=some cl →
  (∀ x c,acc.lookup x=some c->cells.lookup x=some c)->∀ x c,cl.lookup x=some c->cells.lookup x=some c
 | [],acc,cl,h,ha=>by
  have e:acc=cl:=Option.some.inj h
  subst e;exact ha
 | (n,k)::r,acc,cl,h,ha=>by
  unfold clo at h
  by_cases hk:(k==NameKind.free)=true
  ·rw[if_pos hk] at h
   cases hc:cells.lookup n with
   | none=>rw[hc] at h;cases h
   | some c =>
    rw[hc] at h
    refine lY r ((n,c)::acc) cl h fun x c' e=>?_
    rw[cX] at e
    by_cases hx:(x==n)=true
    ·rw[hx] at e
     have e':c=c':=Option.some.inj e
     subst e'
     have:x=n:=eq_of_beq hx
     subst this;exact hc
    ·rw[Bool.not_eq_true] at hx
     rw[hx] at e
     exact ha x c' e
  ·rw[if_neg hk] at h
   exact lY r acc cl h ha
theorem qx {cells:List (Str×Addr)}:∀ (names:List (Str×NameKind)) (acc cl:List (Str×Addr)),clo cells names acc=some cl->∀ x,(∃ c,acc.lookup x=some c)->∃ c,cl.lookup x=some c
 | [],acc,cl,h,x,hx=>by
  have e:acc=cl:=Option.some.inj h
  subst e;exact hx
 | (n,k)::r,acc,cl,h,x,hx=>by
  unfold clo at h
  by_cases hk:(k==NameKind.free)=true
  ·rw[if_pos hk] at h
   cases hc:cells.lookup n with
   | none=>rw[hc] at h;cases h
   | some c =>
    rw[hc] at h
    refine qx r ((n,c)::acc) cl h x ?_
    rw[cX]
    by_cases hxn:(x==n)=true
    ·rw[hxn];exact⟨c,rfl⟩
    ·rw[Bool.not_eq_true] at hxn
     rw[hxn];exact hx
  ·rw[if_neg hk] at h
   exact qx r acc cl h x hx
theorem lX {cells:List (Str×Addr)}:∀ (names:List (Str×NameKind)) (acc cl:List (Str×Addr)),clo cells names acc=some cl->∀ x,(x,NameKind.free)∈names->∃ c,cl.lookup x=some c
 | [],_,_,_,x,hx=>by cases hx
 | (n,k)::r,acc,cl,h,x,hx=>by
  unfold clo at h
  by_cases hk:(k==NameKind.free)=true
  ·rw[if_pos hk] at h
   cases hc:cells.lookup n with
   | none=>rw[hc] at h;cases h
   | some c =>
    rw[hc] at h
    rcases aD.mp hx with e | hx
    ·have e1:x=n:=bu Prod.fst e
     subst e1
     exact qx r ((x,c)::acc) cl h x ⟨c,by rw[cX,beq_self_eq_true]⟩
    ·exact lX r _ cl h x hx
  ·rw[if_neg hk] at h
   rcases aD.mp hx with e | hx
   ·cases e
    exact absurd (by rfl) hk
   ·exact lX r acc cl h x hx
theorem hV {env:Env}:∀ {names:List (Str×NameKind)}{x:Str}{k':NameKind},
  (names.map fun (n,k)=>if (k==NameKind.free&&env.scope.kind==.function&&env.kindOf n==some .cell) then (n,NameKind.cell) else (n,k)).lookup x=some k'->(x,k')∈names∨(k'=.cell/\(x,NameKind.free)∈names)
 | [],_,_,h=>by cases h
 | (n,k)::r,x,k',h=>by
  have ih:=@hV env r x k'
  by_cases hc:(k==NameKind.free&&env.scope.kind==.function&&env.kindOf n==some .cell)=true
  ·have h2:(((n,NameKind.cell)::(r.map fun (n,k)=>if (k==NameKind.free&&env.scope.kind==.function&&env.kindOf n==some .cell) then (n,NameKind.cell) else (n,k))).lookup x)=some k':=by
    rw[←h,bz];simp only[hc,if_true]
   rw[cX] at h2
   by_cases hx:(x==n)=true
   ·rw[hx] at h2
    have e:NameKind.cell=k':=Option.some.inj h2
    have e2:x=n:=eq_of_beq hx
    have e3:k=.free:=by
     simp only[cf] at hc
     exact eq_of_beq hc.1.1
    subst e e2 e3
    exact .inr ⟨rfl,List.mem_cons_self⟩
   ·rw[Bool.not_eq_true] at hx
    rw[hx] at h2
    rcases ih h2 with q | ⟨e,q⟩
    ·exact .inl (List.mem_cons_of_mem _ q)
    ·exact .inr ⟨e,List.mem_cons_of_mem _ q⟩
  ·have h2:(((n,k)::(r.map fun (n,k)=>if (k==NameKind.free&&env.scope.kind==.function&&env.kindOf n==some .cell) then (n,NameKind.cell) else (n,k))).lookup x)=some k':=by
    rw[←h,bz];simp only[hc,eM,ku]
   rw[cX] at h2
   by_cases hx:(x==n)=true
   ·rw[hx] at h2
    have e:k=k':=Option.some.inj h2
    have e2:x=n:=eq_of_beq hx
    subst e e2
    exact .inl List.mem_cons_self
   ·rw[Bool.not_eq_true] at hx
    rw[hx] at h2
    rcases ih h2 with q | ⟨e,q⟩
    ·exact .inl (List.mem_cons_of_mem _ q)
    ·exact .inr ⟨e,List.mem_cons_of_mem _ q⟩
abbrev Cx.blk (X:Cx) (N':List Str) (scope:Scope) (cl:List (Str×Addr)) (C:Addr) (s₀:Shared) (H₀:Hp) (ex:List Addr):Cx :=
 { X with N:=N',s₀:=s₀,H₀:=H₀,env:=compEnvC scope cl C X.env,outer:=X.stack,stack:=X.stack,ex:=ex,fn:=fun _=>false,pn:=[],xe:=fun _ _=>False }
inductive oB (X:Cx):List Str->List Nat->Prop
 | nil:oB X [] []
 | cons {x:Str}{j:Nat}{xs:List Str}{js:List Nat}:X.N[j]?=some x->(X.env.kindOf x=some .cell∨X.env.kindOf x=some .free)->oB X xs js->oB X (x::xs) (j::js)
theorem oB.get {X:Cx}:∀ {xs:List Str}{js:List Nat}{i:Nat}{x:Str},oB X xs js->xs[i]?=some x->∃ j,js[i]?=some j/\X.N[j]?=some x/\(X.env.kindOf x=some .cell∨X.env.kindOf x=some .free)
 | _,_,_,_,.nil,e=>by simp at e
 | _,_,0,_,.cons a b _,e=>by simp at e;subst e;exact⟨_,rfl,a,b⟩
 | _,_,i+1,x,.cons _ _ t,e=>by
  obtain⟨j,h1,h2⟩:=oB.get (i:=i) (x:=x) t (by simpa using e)
  exact⟨j,by simpa using h1,h2⟩
theorem oB.len {X:Cx}:∀ {xs:List Str}{js:List Nat},oB X xs js->xs.length=js.length
 | _,_,.nil=>rfl
 | _,_,.cons _ _ t=>by rw[br,br,t.len]
def fY (k:Nat) (js:List Nat) (σ:St):St:=List.replicate k none++js.map fun j=>(σ[j]?).join
def PIf (X:Cx) (ifs:List Expr) (t:TT):Prop :=
 ∀ (pins:List (Addr×Obj)) (s:Shared) (σ:St) (H:Hp) (Q:Bool->Hp->Prop),Inv X pins σ H s->t σ H Q →
  wpAny (model X.prog X.w) X.A (forIn ifs true fun c r=>if r=true then do let ok ←isTrue c X.env (eval c X.env);pure (ForInStep.yield ok) else pure (ForInStep.yield r)) (TP X pins σ Q) X.xe s
def Ar:TT:=fun _ H Q=>Q true H
theorem fh :PIf X [] Ar:=fun _ _ _ H _ I h=>wpAny_tests_nil ⟨H,I,h⟩
theorem qf {c:Expr}{t:TT} (h:PT X c t):PIf X [c] t:=fun pins s σ H Q I q=>wpAny_tests_one (h pins s σ H Q I q)
section
variable {prog:Program}{w:World}{A:Around}{R:Result->Shared->Prop}{s:Shared}
theorem pk {elt target iter:Expr}{ifs:List Expr}{scope:Scope}{pos:Pos}{it acc:Value}{env:Env} (I:Nat->Shared->Prop)
  (turn:∀ n s,I n s->wpAny (model prog w) A (pyNext it) (fun r s₁=>match r with
   | none=>R (.ok .next) s₁
   | some v=>wpAny (model prog w) A (letOwnedTupleGo target it v) (fun _ s₀=>wpAny (model prog w) A (assign target env v) (fun _ s₂ =>
     wpAny (model prog w) A (forIn ifs true fun c r=>if r=true then do let ok ←isTrue c env (eval c env);pure (ForInStep.yield ok) else pure (ForInStep.yield r)) (fun ok s₃ =>
      if ok=true then wpAny (model prog w) A (eval elt env) (fun x s₄ =>
       wpAny (model prog w) A (call (.builtin "list.append") [acc,x]) (fun _ s₅=>∃ m,m<n/\I m s₅) (fun _ _=>False) s₄) (fun _ _=>False) s₃
      else ∃ m,m<n/\I m s₃) (fun _ _=>False) s₂) (fun _ _=>False) s₀) (fun _ _=>False) s₁) (fun _ _=>False) s)
  (n:Nat) (h:I n s) :
  codeAny (model prog w) A (.compLoop (.ListComp elt [⟨target,iter,ifs,0⟩] scope pos) 0 it acc env) R s:=by
 refine codeAny_loop rfl I (fun n s hI=>?_) n h
 show wpAny _ A ((compTurn (.ListComp elt [⟨target,iter,ifs,0⟩] scope pos) 0 it acc env).onRaise (fun x=>do noteFrame x env;theTreesLotGoes x)) _ _ s
 refine wpAny_noted ?_
 rw[compTurn_list]
 refine ah (wpAny_standAt (ah (bg (turn n s hI) (fun r s₁ h₁=>?_) fun _ _ h'=>h'.elim)))
 cases r with
 | none=>exact ax h₁
 | some v =>
  refine ah (bg h₁ (fun _ s₀ h₀=>?_) fun _ _ h'=>h'.elim)
  refine ah (bg h₀ (fun _ s₂ h₂=>ah (bg h₂ (fun ok s₃ h₃=>?_) fun _ _ h'=>h'.elim)) fun _ _ h'=>h'.elim)
  cases ok with
  | false=>exact ax ⟨rfl,h₃⟩
  | true =>
   exact ah (ah (bg h₃ (fun x s₄ h₄=>ah (bg h₄ (fun _ s₅ h₅=>ax (ax ⟨rfl,h₅⟩)) fun _ _ h'=>h'.elim)) fun _ _ h'=>h'.elim))
end
def eZ (g:TG) (tc:TT) (te:TE) (σ':St) (J:It) (H1:Hp) (Q:VK):Prop :=
 ∀ D,H1 D=none->∃ W:Nat->Nat->List V->St->Hp->Prop,(∃ m,W 0 m [] σ' (upd H1 D (.lst [])))/\∀ i m ys σ1 H,W i m ys σ1 H->H D=some (.lst ys)/\ys.length<sizeLine ∧
  ((J.stop i H/\Q (.ref D) H)∨(J.go i H/\∀ x H',J.yld i H x H'->g x σ1 H' fun σ2 H2=>tc σ2 H2 fun b H3 =>
   if b=true then te σ2 H3 fun v H4=>H4 D=some (.lst ys)/\∃ m',m'<m/\W (i+1) m' (ys++[v]) σ2 (upd H4 D (.lst (ys++[v]))) else ∃ m',m'<m/\W (i+1) m' ys σ2 H3))
structure si (X:Cx) (scope:Scope) (cl:List (Str×Addr)):Prop where
 clo:L2.clo X.env.cells scope.names []=some cl
 cell:∀ y∈scope.names,y.2≠.cell
 kind:scope.kind=.function
 names:∀ y∈scope.names,y.2=.local->scope.names.lookup y.1=some .local
section
variable {X:Cx}{pins:List (Addr×Obj)}{σ:St}{H1:Hp}{s₂:Shared}{E:Value->Shared->Prop}
theorem Inv.Fi {N':List Str} (I:Inv X pins σ H1 s₂) (B:si X scope cl) (hC:s₂.heap.objs.size<=C) (hf:∀ b∈fp,jV X pins H1 b)
  (ho:∀ b∈fp,∃ o,s₂.heap.get? b=some o):(X.blk N' scope cl C s₂ H1 fp).Ok:=by
 have sub:=lY scope.names [] cl B.clo (fun x c e=>by cases e)
 refine⟨I.ok.mod,B.kind,I.ok.glob,I.ok.blt,hC,fun x y c h1 h2=>I.ok.inj x y c (sub x c h1) (sub y c h2),fun x hx=>?_,fun x c h=>?_,I.ok.hd,I.ok.frames,.inl rfl,fun b hb=>⟨?_,fun x c e=>?_⟩,I.bs,
  bA I.ok.bsz I.sz,fun b o e hb=>?_,fun b hb hs=>?_,I.stack,I.nT⟩
 ·have hx':(compEnvC scope cl C X.env).kindOf x=some .cell∨(compEnvC scope cl C X.env).kindOf x=some .free:=hx
  have key:∀ k',(compEnvC scope cl C X.env).kindOf x=some k'->(k'=.cell∨k'=.free)->∃ c,cl.lookup x=some c:=fun k' e hk=>by
   have e':(scope.names.map fun (n,k)=>if (k==NameKind.free&&X.env.scope.kind==.function&&X.env.kindOf n==some .cell) then (n,NameKind.cell) else (n,k)).lookup x=some k':=e
   rcases hV e' with q | ⟨_,q⟩
   ·rcases hk with rfl | rfl
    ·exact absurd rfl (B.cell _ q)
    ·exact lX scope.names [] cl B.clo x q
   ·exact lX scope.names [] cl B.clo x q
  rcases hx' with hx' | hx'
  ·exact key _ hx' (.inl rfl)
  ·exact key _ hx' (.inr rfl)
 ·exact absurd h bE
 ·obtain⟨o,e⟩:=ho b hb
  exact bf (bB (aF e) hC)
 ·exact (hf b hb).2.2.2.2.1 x c (sub x c e)
 ·rcases (hf b hb).2.2.2.1 with z | z
  ·exact I.ok.noex b o e z
  ·exact absurd (bB (aF e) (bA I.ok.bsz z)) (gJ _)
 ·rcases aD.mp (I.rK b hs) with z | z
  ·exact (hf b hb).2.1 z
  ·exact (hf b hb).2.2.1 z
theorem xZ {elt target iter:Expr}{ifs:List Expr}{scope:Scope}{pos:Pos}{cl:List (Str×Addr)}{own frn:List Str}{js:List Nat}{g:TG}{tc:TT}{te:TE}{Q:VK}{it:Addr}{fp:List Addr}{tn:Nat->Heap->Prop}{J:It}
  {RR:Value->Addr->Result->Shared->Prop} (hc:X.calm=true) (B:si X scope cl) (hfr:oB X frn js) (hloc:∀ x∈frn,scope.names.lookup x≠some .local)
  (hg:∀ C s₀ H₀ ex,PG (X.blk (own++frn) scope cl C s₀ H₀ ex) target g) (hi:∀ C s₀ H₀ ex,PIf (X.blk (own++frn) scope cl C s₀ H₀ ex) ifs tc) (he:∀ C s₀ H₀ ex,PE (X.blk (own++frn) scope cl C s₀ H₀ ex) elt te)
  (I:Inv X pins σ H1 s₂) (T:Turn X.prog X.w X.K target J fp it tn) (st0:tn 0 s₂.heap) (hf:∀ b∈fp,jV X pins H1 b) (hq:eZ g tc te (fY own.length js σ) J H1 Q)
  (fin:∀ D C s' H' m,s₂.heap.objs.size<=C->Inv X pins σ H' s'->s'.heap.Ns C m->jV X pins H' C->Q (.ref D) H'->RR (.ref D) C (.ok .next) s') :
  wpAny (model X.prog X.w) X.A (newList []) (fun acc s₃=>wpAny (model X.prog X.w) X.A (newFunctionEnv scope X.env.globals cl [] X.env.qual none .none (some X.env)) (fun cenv s₄ =>
   codeAny (model X.prog X.w) X.A (.compStart (.ListComp elt [⟨target,iter,ifs,0⟩] scope pos) 0 (.ref it) acc { cenv with scope:=relabel scope X.env }) (RR acc cenv.locals) s₄) E s₃) E s₂:=by
 have sub:=lY scope.names [] cl B.clo (fun x c e=>by cases e)
 refine gM (wpAny_newFunctionEnv B.cell (by intro y hy;simp at hy) (fun h₁ hns₁ hsb₁=>?_) B.kind)
 dsimp only at hns₁ hsb₁ ⊢
 generalize hH2:s₂.heap.push { cls:=.type "list",dict:=none,data:=.seq ([]:List Value).toArray }=H2 at hns₁ hsb₁ ⊢
 have hC:H2.objs.size=s₂.heap.objs.size+1:=by rw[←hH2,iA]
 have hDC:s₂.heap.objs.size≠H2.objs.size:=by rw[hC];exact bf (jM _)
 have hCle:s₂.heap.objs.size<=H2.objs.size:=by rw[hC];exact iF _
 have below:∀ b,b<s₂.heap.objs.size->b≠H2.objs.size/\b≠s₂.heap.objs.size:=fun b hb=>⟨by rw[hC];exact bf (eY hb),bf hb⟩
 have old:∀ b o,s₂.heap.get? b=some o->h₁.get? b=some o:=fun b o e=>hsb₁.extBut b o (below b (aF e)).1 (aH _ (hH2 ▸ aH _ e))
 have hacc:h₁.get? s₂.heap.objs.size=some { cls:=.type "list",dict:=none,data:=.seq ([]:List Value).toArray }:=hsb₁.extBut _ _ hDC (aH _ (hH2 ▸ aZ _ rfl))
 have hfo:∀ b∈fp,∃ o,s₂.heap.get? b=some o/\∀ v,o.data≠.cell v:=T.obj 0 _ st0
 have D0:H1 s₂.heap.objs.size=none:=I.hok.fresh (ai _)
 have C0:H1 H2.objs.size=none:=I.hok.fresh hCle
 obtain⟨W,⟨m0,w0⟩,turn⟩:=hq _ D0
 have okX:(X.blk (own++frn) scope cl H2.objs.size s₂ H1 fp).Ok:=I.Fi (N':=own++frn) B hCle hf fun b hb=>let ⟨o,e,_⟩:=hfo b hb;⟨o,e⟩
 have I0:Inv (X.blk (own++frn) scope cl H2.objs.size s₂ H1 fp) [] (fY own.length js σ) (upd H1 s₂.heap.objs.size (.lst [])) { s₂ with heap:=h₁,toks:=s₂.toks+([]:List (Str×Value)).length }:=by
  obtain⟨m,hn,hl⟩:=id I.loc
  refine⟨okX,rfl,I.bare,Un.laid old (ai _) D0,⟨_,hns₁,fun i x v e1 e2 e3=>?_⟩,fun x c e=>?_,?_,fun x c e=>?_,fun p hp=>?_,?_,?_⟩
  ·have e1:(own++frn)[i]?=some x:=e1
   unfold fY at e2
   by_cases hik:i<own.length
   ·rw[fO (by simpa using hik),List.getElem?_replicate,if_pos hik] at e2
    cases e2
   ·rw[fP (by simpa using hik),lI,List.getElem?_map] at e2
    rw[fP (by omega)] at e1
    obtain⟨j,hj,hNj,hk⟩:=hfr.get e1
    rw[hj] at e2
    have e2':(σ[j]?).join=some v:=Option.some.inj e2
    have e2'':σ[j]?=some (some v):=by
     cases q:σ[j]? with
     | none=>rw[q] at e2';cases e2'
     | some o=>rw[q] at e2';cases o with
      | none=>cases e2'
      | some y=>have:y=v:=Option.some.inj e2';rw[this]
    obtain⟨u,r,lk⟩:=hl j x v hNj e2'' (hk.elim (fun z=>.inr (.inl z)) fun z=>.inr (.inr z))
    refine⟨u,r,?_⟩
    rcases lk with ⟨k1,_⟩ | ⟨_,c,hcl,hcell⟩
    ·rcases hk with z | z<;>(rw[k1] at z;cases z)
    ·have hx3:(compEnvC scope cl H2.objs.size X.env).kindOf x=some .local∨(compEnvC scope cl H2.objs.size X.env).kindOf x=some .cell∨(compEnvC scope cl H2.objs.size X.env).kindOf x=some .free:=e3
     rcases hx3 with z | z
     ·exfalso
      have z':(scope.names.map fun (n,k)=>if (k==NameKind.free&&X.env.scope.kind==.function&&X.env.kindOf n==some .cell) then (n,NameKind.cell) else (n,k)).lookup x=some .local:=z
      rcases hV z' with q | ⟨q,_⟩
      ·exact hloc x (bp e1) (B.names _ q rfl)
      ·cases q
     ·obtain⟨c',hc'⟩:=okX.has x z
      have q:=sub x c' hc'
      rw[hcl] at q
      have q':c=c':=Option.some.inj q
      subst q'
      refine .inr ⟨z,c,hc',?_⟩
      obtain⟨o,ho,hd⟩:=hcell
      exact⟨o,old _ _ ho,hd⟩
  ·obtain⟨v,o,ho,hd⟩:=I.cell x c (sub x c e)
   exact⟨v,o,old _ _ ho,hd⟩
  ·show upd H1 _ _ H2.objs.size=none
   rw[ar (Ne.symm hDC)];exact C0
  ·obtain⟨v,o,ho,hd⟩:=I.cell x c (sub x c e)
   rw[ar (below c (aF ho)).2];exact I.freeC x c (sub x c e)
  ·cases hp
  ·exact I.hok.laid old (ai _) ⟨bh _,[],_,.nil,hacc⟩
  ·unfold fY
   show _=(own++frn).length
   rw[bb,bb,lI,List.length_map,hfr.len]
 -- the iterator's objects in the block
 have fpx:∀ {H:Hp},(∀ b∈fp,H b=none)->∀ b∈fp,jV (X.blk (own++frn) scope cl H2.objs.size s₂ H1 fp) [] H b:=fun {H} hn b hb=>by
  obtain⟨f0,f1,f2,f3,f4,f5⟩:=hf b hb
  obtain⟨o,e,_⟩:=hfo b hb
  refine⟨hn b hb,(below b (aF e)).1,fun z=>?_,.inl hb,fun x c e=>f4 x c (sub x c e),fun p hp=>by cases hp⟩
  rcases aD.mp (I.rK b z) with z | z
  ·exact f1 z
  ·exact f2 z
 have st1:tn 0 h₁:=T.keep _ _ _ st0 fun b _ o e=>old b o e
 have fr0:∀ b∈fp,upd H1 s₂.heap.objs.size (.lst []) b=none:=fun b hb=>by
  obtain⟨o,e,_⟩:=hfo b hb
  rw[ar (below b (aF e)).2];exact (hf b hb).1
 have loop:codeAny (model X.prog X.w) X.A (.compLoop (.ListComp elt [⟨target,iter,ifs,0⟩] scope pos) 0 (.ref it) (.ref s₂.heap.objs.size) (compEnvC scope cl H2.objs.size X.env))
   (RR (.ref s₂.heap.objs.size) H2.objs.size) { s₂ with heap:=h₁,toks:=s₂.toks+([]:List (Str×Value)).length }:=by
  refine pk (fun n s'=>∃ i ys σ1 H,Inv (X.blk (own++frn) scope cl H2.objs.size s₂ H1 fp) [] σ1 H s'/\tn i s'.heap/\(∀ b∈fp,H b=none)/\W i n ys σ1 H) ?_ m0 ⟨0,[],_,_,I0,st1,fr0,w0⟩
  rintro n s3 ⟨i,ys,σ3,H3,I3,st3,fr3,w3⟩
  obtain⟨hD3,hsz,alt⟩:=turn i n ys σ3 H3 w3
  rcases alt with ⟨stop,qn⟩ | ⟨go,step⟩
  ·refine thn (T.done (X.blk (own++frn) scope cl H2.objs.size s₂ H1 fp) rfl rfl rfl hc i [] s3 σ3 H3 _ I3 (fpx fr3) st3 stop) fun r s4 ⟨hr,I4⟩=>?_
   subst hr
   obtain⟨m,hn,_⟩:=id I4.loc
   have hch:∀ b∈fp,(b∈X.ex∨X.s₀.heap.objs.size<=b)/\b≠X.env.locals/\(∀ x c,X.env.cells.lookup x=some c->c≠b)/\∀ p∈X.pn++pins,p.1≠b:=fun b hb=>by
    obtain⟨f0,f1,f2,f3,f4,f5⟩:=hf b hb
    exact⟨f3,f1,f4,f5⟩
   have IX:Inv X pins σ H3 s4:=I.qw I4.os I4.base I4.hok I4.bare hch
   exact fin _ _ s4 H3 m hCle IX hn (I.qI hCle I4.free) qn
  ·refine thn (T.item (X.blk (own++frn) scope cl H2.objs.size s₂ H1 fp) rfl rfl rfl hc i [] s3 σ3 H3 _ I3 (fpx fr3) st3 go) fun r s4 ⟨u,hr,h4⟩=>?_
   subst hr
   refine thn h4 fun _ s5 ⟨x,H5,I5,r5,y5,st5,fr5⟩=>?_
   have I5':=I5.pinned (fpx fr5) (T.obj _ _ st5)
   refine thn (hg _ _ _ _ _ s5 σ3 H5 x u _ I5' r5 (step x H5 y5)) fun _ s6 ⟨σ6,H6,I6,q6⟩=>?_
   refine thn (hi _ _ _ _ _ s6 σ6 H6 _ I6 q6) fun b s7 ⟨H7,I7,q7⟩=>?_
   have again:∀ {ys':List V}{H8:Hp}{s8:Shared}{m':Nat},Inv (X.blk (own++frn) scope cl H2.objs.size s₂ H1 fp) ([]++mM fp s5.heap) σ6 H8 s8->m'<n->W (i+1) m' ys' σ6 H8 →
     ∃ m,m<n/\∃ i ys σ1 H,Inv (X.blk (own++frn) scope cl H2.objs.size s₂ H1 fp) [] σ1 H s8/\tn i s8.heap/\(∀ b∈fp,H b=none)/\W i m ys σ1 H:=fun {ys' H8 s8 m'} I8 hm w8=>by
    refine⟨m',hm,i+1,ys',σ6,H8,I8.gG,T.keep _ _ _ st5 fun b hb o e=>(I8.pin (b,o) (bV _ (bV _ (eu hb e)))).1,fun b hb=>?_,w8⟩
    obtain⟨o,e,d⟩:=T.obj _ _ st5 b hb
    exact (I8.pin (b,o) (bV _ (bV _ (eu hb e)))).2.1
   cases b with
   | false =>
    rw[if_neg bE] at q7 ⊢
    obtain⟨m',hm,w7⟩:=q7
    exact again I7 hm w7
   | true =>
    rw[if_pos rfl] at q7 ⊢
    refine thn (he _ _ _ _ _ s7 σ6 H7 _ I7 q7) fun v s8 ⟨y,H8,I8,r8,hD8,m',hm,w8⟩=>?_
    refine thn (ic (X:=X.blk (own++frn) scope cl H2.objs.size s₂ H1 fp) _ s8 σ6 H8 (.ref s₂.heap.objs.size) [y] _ [v] (fun _ H9=>W (i+1) m' (ys++[y]) σ6 H9) I8 rfl (.cons r8 .nil) ⟨_,ys,y,rfl,rfl,hD8,hsz,w8⟩) fun _ s9 ⟨_,H9,I9,_,w9⟩=>?_
    exact again I9 hm w9
 exact codeAny_compStart_list loop (T.self X.A 0 _ _ _ st1 loop)
end
def tLC (k:Nat) (js:List Nat) (wi:TI) (g:TG) (tc:TT) (te:TE):TE:=fun σ H Q=>wi σ H fun J H1=>eZ g tc te (fY k js σ) J H1 Q
section
variable {X:Cx}
theorem nC {elt target iter:Expr}{ifs:List Expr}{pos:Pos}{wi:TI}{g:TG}{tc:TT}{te:TE} (own:List Str) (hc:X.calm=true) (B:si X scope cl) (hfr:oB X frn js)
  (hloc:∀ x∈frn,scope.names.lookup x≠some .local) (hi:PI X target iter wi)
  (hg:∀ C s₀ H₀ ex,PG (X.blk (own++frn) scope cl C s₀ H₀ ex) target g) (hif:∀ C s₀ H₀ ex,PIf (X.blk (own++frn) scope cl C s₀ H₀ ex) ifs tc) (he:∀ C s₀ H₀ ex,PE (X.blk (own++frn) scope cl C s₀ H₀ ex) elt te)
  (hs:∀ x,foldedSetIterable iter X.env x=pure x:=by intro _;rfl):PE X (.ListComp elt [⟨target,iter,ifs,0⟩] scope pos) (tLC own.length js wi g tc te):=by
 intro pins s σ H Q I h
 rw[eval_ListComp]
 refine wpAny_comprehension_free (use:=none) rfl hs (fG B.clo) B.kind B.names (thn (hi pins s σ H _ I h) fun v s1 h1=>thn h1 fun itv s2 h2=>?_)
 obtain⟨it,fp,tn,J,H2,e,I2,T,st2,f2,hq⟩:=h2
 subst e
 refine xZ (RR:=fun acc C=>compPost (model X.prog X.w) X.A X.xe none (EP X pins σ Q) acc C) hc B hfr hloc hg hif he I2 T st2 f2 hq ?_
 intro D C s' H' m hC I' hn fC q
 exact⟨m,hn,fun h' sb=>⟨.ref D,H',I'.turned (t':=s'.toks) (fun b o hb e=>(sb.2 b hb).trans e) fC.1 fC.2.1 fC.2.2.2.1 fC.2.2.2.2.1 fC.2.2.2.2.2,rfl,q⟩⟩
theorem j8 {elt target iter:Expr}{ifs:List Expr}{scope:Scope}{pos py spos:Pos}{y:Str}{cl:List (Str×Addr)}{frn:List Str}{js:List Nat}{wi:TI}{g:TG}{tc:TT}{te:TE} (own:List Str) (hN:X.N.Nodup) (hiy:X.N[i]?=some y)
  (hy:Loc X.env.scope y) (hc:X.calm=true) (B:si X scope cl) (hfr:oB X frn js)
  (hloc:∀ x∈frn,scope.names.lookup x≠some .local) (hi:PI X target iter wi)
  (hg:∀ C s₀ H₀ ex,PG (X.blk (own++frn) scope cl C s₀ H₀ ex) target g) (hif:∀ C s₀ H₀ ex,PIf (X.blk (own++frn) scope cl C s₀ H₀ ex) ifs tc) (he:∀ C s₀ H₀ ex,PE (X.blk (own++frn) scope cl C s₀ H₀ ex) elt te)
  (hsw:swapsWith (.ListComp elt [⟨target,iter,ifs,0⟩] scope pos) (some (.Name y py)) spos.line X.env=pure true:=by rfl)
  (hs:∀ x,foldedSetIterable iter X.env x=pure x:=by intro _;rfl)
  (hf:X.fn y=true∨X.env.scope.names.lookup y=some .local:=by first | exact .inl rfl | exact .inr rfl | assumption) :
  PS X (.Assign [.Name y py] (.ListComp elt [⟨target,iter,ifs,0⟩] scope pos) spos) (Ap (tLC own.length js wi g tc te) (fZ i)):=by
 intro pins s σ H D I h
 rw[exec_Assign_Name_used _ _ _ _ hsw]
 refine ah (wpAny_standAt (ah ?_))
 show wpAny _ X.A (do let _ ←comprehension (.ListComp elt [⟨target,iter,ifs,0⟩] scope pos) scope X.env _ (newList []) false (eval iter X.env) (some (assign (.Name y py) X.env))) _ _ s
 refine ah (bg (wpAny_comprehension_free (use:=some (assign (.Name y py) X.env)) (Q:=fun _ s'=>SP X pins D .next s') rfl hs (fG B.clo) B.kind B.names
  (thn (hi pins s σ H _ I h) fun v s1 h1=>thn h1 fun itv s2 h2=>?_)) (fun _ s' hq=>ax (ax hq)) fun _ _ e=>e)
 obtain⟨it,fp,tn,J,H2,e,I2,T,st2,f2,hq⟩:=h2
 subst e
 refine xZ (Q:=fun x H1=>D.nx (σ.set i (some x)) H1) (RR:=fun acc C=>compPost (model X.prog X.w) X.A X.xe (some (assign (.Name y py) X.env)) (fun _ s'=>SP X pins D .next s') acc C) hc B hfr hloc hg hif he I2 T st2 f2 hq ?_
 intro L C s' H' m hC I' hn fC q
 show wpAny _ X.A (assign (.Name y py) X.env (.ref L)) _ _ _
 refine wpAny_assign_Name (sX (v:=.ref L) I' hN hiy hy rfl (fun s'' I'' ⟨a,sb,ha⟩=>?_) hf)
 have hCa:C≠a:=by
  rcases ha with z | z
  ·rw[z];exact fC.2.1
  ·exact fun e=>fC.2.2.2.2.1 y a z e.symm
 exact⟨m,hn.sameBut sb hCa,fun h' sb'=>⟨_,H',I''.turned (t':=s''.toks) (fun b o hb e=>(sb'.2 b hb).trans e) fC.1 fC.2.1 fC.2.2.2.1 fC.2.2.2.2.1 fC.2.2.2.2.2,q⟩⟩
end
def It.Seq (J:It) (H1:Hp) (xs:List V):Prop :=
 ∀ H,aq H1 H->(∀ i x,xs[i]?=some x->J.go i H/\∀ y H',J.yld i H y H'->H'=H/\y=x)/\∀ i,xs.length<=i->J.stop i H
theorem jB (h:SqL K H1 a xs):(Itl K a).Seq H1 xs:=fun H s =>
 ⟨fun i x e=>⟨⟨xs,x,s.seq h,e⟩,fun y H' ⟨e1,e2⟩=>⟨e1,Option.some.inj ((e2 xs (s.seq h)).symm.trans e)⟩⟩,fun i hi=>⟨xs,s.seq h,hi⟩⟩
theorem sV {n:Nat}:(Itr lo n).Seq H1 ((List.range n).map fun (k:Nat)=>V.int (lo+(k:Int))):=fun H s=>by
 refine⟨fun i x e=>?_,fun i hi=>?_⟩
 ·have hi:i<n:=by
   have:=(bK.mp e).1
   simpa using this
  rw[List.getElem?_map,List.getElem?_range hi] at e
  have e':V.int (lo+(i:Int))=x:=Option.some.inj e
  exact⟨hi,fun y H' ⟨e1,e2⟩=>⟨e1,by rw[e2,e']⟩⟩
 ·show n<=i
  simpa using hi
theorem aq.fi {H H':Hp} (h:aq H H') (hn:H a=none):aq H (upd H' a o):=fun b u e=>by
 rw[ar (bw e hn)];exact h b u e
theorem xi {js:List Nat}{σ:St}{tc:TT}{te:TE}{Q:VK} (hJ:J.Seq H1 xs) (hl:xs.length<sizeLine) (p:V->Bool) (f:V->V)
  (hc:∀ x∈xs,∀ H,aq H1 H->∀ R:Bool->Hp->Prop,(∀ H',aq H H'->R (p x) H')->tc (some x::js.map fun j=>(σ[j]?).join) H R)
  (he:∀ x∈xs,p x=true->∀ H,aq H1 H->∀ R:VK,(∀ H',aq H H'->R (f x) H')->te (some x::js.map fun j=>(σ[j]?).join) H R)
  (q:∀ D H,H1 D=none->aq H1 H->H D=some (.lst ((xs.filter p).map f))->Q (.ref D) H):eZ (fZ 0) tc te (fY 1 js σ) J H1 Q:=by
 intro D hD
 refine⟨fun i m ys σ1 H=>m=xs.length-i/\i<=xs.length/\(∃ o,σ1=o::js.map fun j=>(σ[j]?).join)/\ys=((xs.take i).filter p).map f/\aq H1 H/\H D=some (.lst ys),
  ⟨xs.length,by simp,bh _,⟨none,rfl⟩,by simp,(aq.refl H1).fi hD,az⟩,?_⟩
 rintro i m ys σ1 H ⟨rfl,hi,⟨o,rfl⟩,rfl,sH,hL⟩
 have hlen:(((xs.take i).filter p).map f).length<sizeLine:=by
  rw[List.length_map]
  have h1:=jK p (xs.take i)
  have h2:(xs.take i).length<=xs.length:=by rw[gI];omega
  omega
 refine⟨hL,hlen,?_⟩
 by_cases hlt:i<xs.length
 ·have e:xs[i]?=some xs[i]:=by simp [hlt]
  obtain⟨go,yl⟩:=(hJ H sH).1 i xs[i] e
  refine .inr ⟨go,fun x H' y=>?_⟩
  obtain⟨e1,e2⟩:=yl x H' y
  subst e1 e2
  have hm:xs[i]∈xs:=fQ hlt
  have htk:xs.take (i+1)=xs.take i++[xs[i]]:=by rw[iE,e];rfl
  show tc (some xs[i]::js.map fun j=>(σ[j]?).join) H' _
  refine hc xs[i] hm H' sH _ fun H3 s3=>?_
  cases hp:p xs[i] with
  | false =>
   rw[if_neg bE]
   refine⟨xs.length-(i+1),by omega,rfl,hlt,⟨_,rfl⟩,?_,sH.trans s3,s3 _ _ hL⟩
   rw[htk,List.filter_append];simp [hp]
  | true =>
   rw[if_pos rfl]
   refine he xs[i] hm hp H3 (sH.trans s3) _ fun H4 s4=>?_
   refine⟨s4 _ _ (s3 _ _ hL),xs.length-(i+1),by omega,rfl,hlt,⟨_,rfl⟩,?_,((sH.trans s3).trans s4).fi hD,az⟩
   rw[htk,List.filter_append];simp [hp]
 ·have e:i=xs.length:=by omega
  subst e
  refine .inl ⟨(hJ H sH).2 _ (ai _),q D H hD sH ?_⟩
  rw[List.take_length] at hL;exact hL
theorem GU {js:List Nat}{σ:St}{te:TE}{Q:VK} (hJ:J.Seq H1 xs) (hl:xs.length<sizeLine) (f:V->V)
  (he:∀ x∈xs,∀ H,aq H1 H->∀ R:VK,(∀ H',aq H H'->R (f x) H')->te (some x::js.map fun j=>(σ[j]?).join) H R)
  (q:∀ D H,H1 D=none->aq H1 H->H D=some (.lst (xs.map f))->Q (.ref D) H):eZ (fZ 0) Ar te (fY 1 js σ) J H1 Q :=
 xi hJ hl (fun _=>true) f (fun x _ H _ R hR=>hR H (aq.refl H)) (fun x hx _ H s R hR=>he x hx H s R hR) fun D H h1 h2 h3=>q D H h1 h2 (by rw[List.filter_eq_self.mpr (fun _ _=>rfl)] at h3;exact h3)
end
section
section
variable {X:Cx}
def FN (i j:Int):Prop:=i.natAbs<2^1000/\j.natAbs<2^1000
theorem Et:OpR X (binaryOp .Mult) (rI FN fun i j=>.int (i*j)):=opI fun _ _ _ _ _ _ _ hc q =>
 mul_int q (IntMulOk.of_bits (bA (intBits_le_iff.mpr hc.1) (by decide)) (bA (intBits_le_iff.mpr hc.2) (by decide)))
def HP (_ j:Int):Prop:=0<j/\j<2^1000
theorem Cc:OpR X (binaryOp .FloorDiv) (rI HP fun i j=>.int (i/j)):=opI fun i j _ _ _ _ _ hc q=>by
 have h1:(0:Int)<j:=hc.1
 have h2:j<2^1000:=hc.2
 have h3:j.natAbs<2^1000:=by
  have e:((j.natAbs:Nat):Int)=j:=Int.natAbs_of_nonneg (by omega)
  have e2:((2^1000:Nat):Int)=(2:Int)^1000:=by rw[Int.natCast_pow];rfl
  omega
 refine floordiv_int (by omega) (by rw[Int.fdiv_eq_ediv_of_nonneg i (by omega)];exact q) (.inl (PyProof.noPylong_of_log2 ?_))
 have h4:j.natAbs≠0:=by omega
 exact bB ((Nat.log2_lt h4).mpr h3) (by decide)
theorem Cd:OpR X (compareOp .Is) (fun x y H Q=>∃ a b,x=.bl a/\y=.bl b/\Q (.bl (a==b)) H):=by
 intro pins s σ H x y v u Q I rx ry h
 obtain⟨a,b,rfl,rfl,q⟩:=h
 cases rx;cases ry
 exact is_bool (b8 I q rfl)
theorem vA:OpR X (compareOp .IsNot) (fun x y H Q=>∃ a b,x=.bl a/\y=.bl b/\Q (.bl (a != b)) H):=by
 intro pins s σ H x y v u Q I rx ry h
 obtain⟨a,b,rfl,rfl,q⟩:=h
 cases rx;cases ry
 exact isnot_bool (b8 I q rfl)
def J4 (K:PySem.W.Frag):List V->Hp->VK->Prop:=fun xs H Q=>∃ x t c b,xs=[x,.ty c]/\m6 K H x t/\PySem.W.kitOne K t (.type c)=some b/\Q (.bl b) H
theorem AV:cC X (.builtin "isinstance") (J4 X.K):=by
 intro pins s σ H xs us Q I r h
 obtain⟨x,t,c,b,rfl,ty,e,q⟩:=h
 obtain⟨u,w',rfl,ru,rw'⟩:=vals2 r
 obtain rfl:w'=Value.type c:=rw'
 exact isinst_ok I ru ty e fun tk=>⟨.bl b,H,I.tok tk,rfl,q⟩
def nt:List V->List V->Bool
 | [],[]=>true
 | x::xs,y::ys=>eqV x y&&nt xs ys
 | _,_=>false
theorem qE:∀ {xs ys:List V},xs.length≠ys.length->nt xs ys=false
 | [],[],h=>absurd rfl h
 | [],_::_,_=>rfl
 | _::_,[],_=>rfl
 | x::xs,y::ys,h=>by
  have h':xs.length≠ys.length:=fun e=>h (by rw[br,br,e])
  show (eqV x y&&nt xs ys)=false
  rw[qE h',Bool.and_false]
theorem mE:∀ {xs ys:List V},xs.length=ys.length->(List.range xs.length).all (fun j=>eqV (xs.getD j .non) (ys.getD j .non))=nt xs ys
 | [],[],_=>rfl
 | [],_::_,h=>by cases h
 | _::_,[],h=>by cases h
 | x::xs,y::ys,h=>by
  have h':xs.length=ys.length:=by simpa using h
  rw[br,List.range_succ_eq_map,iB,List.all_map]
  show (eqV x y&&(List.range xs.length).all (fun j=>eqV (xs.getD j .non) (ys.getD j .non)))=(eqV x y&&nt xs ys)
  rw[mE h']
theorem zJ (xs:List Int):(xs.map V.int).all dh=true:=by
 rw[ck];intro v hv
 obtain⟨i,_,rfl⟩:=aC.mp hv
 rfl
def IG (K:PySem.W.Frag) (neg:Bool):R2:=fun x y H Q=>∃ a b xs ys,x=.ref a/\y=.ref b/\SqL K H a xs/\SqL K H b ys/\xs.all dh=true/\ys.all dh=true/\Q (.bl (if neg then !nt xs ys else nt xs ys)) H
theorem qD {A:Around}{s:Shared}{xs ys:List V}{us vs:List Value} (r1:Vals xs us) (r2:Vals ys vs) (f1:xs.all dh=true) (f2:ys.all dh=true) (j:Nat) (h1:j<us.toArray.size) (h2:j<vs.toArray.size) :
  SeqAt.EqAt A s us.toArray[j] vs.toArray[j] (eqV (xs.getD j .non) (ys.getD j .non)):=by
 have l1:=r1.length
 have l2:=r2.length
 rw[aU] at h1 h2
 have e1:xs[j]?=some (xs[j]'(by omega)):=by simp [show j<xs.length by omega]
 have e2:ys[j]?=some (ys[j]'(by omega)):=by simp [show j<ys.length by omega]
 obtain⟨u,hu,ru⟩:=r1.get e1
 obtain⟨v,hv,rv⟩:=r2.get e2
 have hu':us.toArray[j]=u:=by
  have:=bK.mp hu
  simpa using this.2
 have hv':vs.toArray[j]=v:=by
  have:=bK.mp hv
  simpa using this.2
 rw[hu',hv',List.getD_eq_getElem?_getD,List.getD_eq_getElem?_getD,e1,e2]
 exact mD ru rv (ck.mp f1 _ (fQ _)) (ck.mp f2 _ (fQ _))
theorem He (hu:X.A.units<cLine):OpR X (compareOp .Eq) (IG X.K false):=by
 intro pins s σ H x y v u Q I rx ry h
 obtain⟨a,b,xs,ys,rfl,rfl,ha,hb,f1,f2,q⟩:=h
 cases rx;cases ry
 obtain⟨us,r1,p1,_⟩:=I.list ha
 obtain⟨vs,r2,p2,_⟩:=I.list hb
 have l1:=r1.length
 have l2:=r2.length
 by_cases hl:xs.length=ys.length
 ·refine SeqAt.eq_listAt p1.isList p2.isList (by simp only[aU];omega) hu (fun j h1 h2=>qD r1 r2 f1 f2 j h1 h2) ⟨.bl _,H,I,rfl,?_⟩
  rw[aU,←l1,mE hl];exact q
 ·refine SeqAt.eq_list_lengthsAt p1.isList p2.isList (by simp only[aU,bne_iff_ne,ne_eq];omega) hu ⟨.bl _,H,I,rfl,?_⟩
  have e:=qE hl
  rw[if_neg bE,e] at q;exact q
theorem Hm (hu:X.A.units<cLine):OpR X (compareOp .NotEq) (IG X.K true):=by
 intro pins s σ H x y v u Q I rx ry h
 obtain⟨a,b,xs,ys,rfl,rfl,ha,hb,f1,f2,q⟩:=h
 cases rx;cases ry
 obtain⟨us,r1,p1,_⟩:=I.list ha
 obtain⟨vs,r2,p2,_⟩:=I.list hb
 have l1:=r1.length
 have l2:=r2.length
 by_cases hl:xs.length=ys.length
 ·refine SeqAt.RcNeAt.lists p1.isList p2.isList (by simp only[aU];omega) hu (fun j h1 h2=>qD r1 r2 f1 f2 j h1 h2) _ _ _ _ ⟨.bl _,H,I,rfl,?_⟩
  rw[aU,←l1,mE hl];exact q
 ·refine SeqAt.RcNeAt.lists_lengths p1.isList p2.isList (by simp only[aU,bne_iff_ne,ne_eq];omega) hu _ _ _ _ ⟨.bl _,H,I,rfl,?_⟩
  have e:=qE hl
  rw[if_pos rfl,e] at q;exact q
theorem Vals.bools:∀ {bs:List Bool}{us:List Value},Vals (bs.map V.bl) us->us=bs.map Value.bool
 | [],_,.nil=>rfl
 | b::bs,_::_,.cons r t=>by
  cases (show _=Value.bool b from r)
  rw[bz,Vals.bools t]
theorem all_range (bs:List Bool):(List.range bs.length).all (fun i=>bs.getD i false)=bs.all id:=by
 induction bs with
 | nil=>rfl
 | cons b r ih =>
  rw[br,List.range_succ_eq_map,iB,List.all_map,iB]
  show (b&&(List.range r.length).all (fun i=>r.getD i false))=_
  rw[ih];rfl
theorem vW (bs:List Bool) (A:Around) (P:Program) (w:World):TruthOf P w A (fun i v=>(bs.map Value.bool).toArray[i]?=some v) (fun i=>bs.getD i false):=fun i v s Q E hP hQ=>by
 have e:(bs[i]?).map Value.bool=some v:=by simpa using hP
 cases q:bs[i]? with
 | none=>rw[q] at e;cases e
 | some b =>
  rw[q] at e
  have e':Value.bool b=v:=Option.some.inj e
  subst e'
  have hb:bs.getD i false=b:=by rw[List.getD_eq_getElem?_getD,q];rfl
  have hQ':Q (bs.getD i false) s:=hQ
  rw[hb] at hQ'
  exact fW hQ'
def IF (K:PySem.W.Frag):List V->Hp->VK->Prop:=fun vs H Q=>∃ (a:Addr) (bs:List Bool),vs=[.ref a]/\SqL K H a (bs.map V.bl)/\Q (.bl (bs.all id)) H
theorem ze (hc:X.calm=true):cC X (.builtin "all") (IF X.K):=by
 intro pins s σ H xs us Q I r h
 obtain⟨a,bs,rfl,hq,q⟩:=h
 obtain⟨u,rfl,ru⟩:=vals1 r
 cases ru
 obtain⟨its,rv,p,hz⟩:=I.list hq
 obtain rfl:=rv.bools
 have ha:a<s.heap.objs.size:=by obtain⟨o,e,_⟩:=p.isList;exact aF e
 refine call_all_walk (wpAny_pyIter_list p.isList ⟨s.heap.objs.size,_,_,_,_,_,fun i=>bs.getD i false,rfl,Walks.list (A:=X.A.in1) (I.ok.hd hc) _ a (bf ha) _,⟨⟨_,aZ _ rfl,rfl,rfl⟩,p.isList.push _⟩,vW bs _ _ _,fun h' tk hk=>?_⟩)
 refine⟨.bl (bs.all id),H,I.kept fun b o e=>hk b o (fun z=>?_) (aH _ e),?_,q⟩
 ·have z':b=s.heap.objs.size:=by simpa using z
  exact absurd (aF e) (by rw[z'];exact gJ _)
 ·show Value.bool _=Value.bool _
  rw[←all_range bs];simp
def IP:List V->Hp->VK->Prop:=fun vs H Q=>∃ j:Int,vs=[.int j]/\∀ p,H p=none->Q (.ref p) (upd H p (.rng 0 j))
theorem zl:cC X (.type "range") IP:=by
 intro pins s σ H xs us Q I r h
 obtain⟨j,rfl,q⟩:=h
 obtain⟨u,rfl,t,rfl⟩:=vals1 r
 refine call_range_1 ?_
 exact⟨.ref s.heap.objs.size,_,I.laid (fun b ob e=>aH _ e) (ai _) (show bH X.prog X.w _ _ _ (.rng 0 j) from ⟨_,_,_,aZ _ rfl⟩),rfl,q _ (I.hok.fresh (ai _))⟩
def uz (lo:Int) (n:Nat):List V:=(List.range n).map fun (k:Nat)=>V.int (lo+(k:Int))
theorem xX {n:Nat}{acc:Array Value} (h:ItemsOf (fun (i:Nat) v=>∃ t,v=Value.int (lo+(i:Int)*1) t) acc n):Vals (uz lo n) acc.toList:=by
 obtain⟨hs,hi⟩:=h
 have key:∀ (xs:List Value) (m:Nat),(∀ j v,xs[j]?=some v->∃ t,v=Value.int (lo+((m+j:Nat):Int)) t)->Vals ((List.range' m xs.length).map fun (k:Nat)=>V.int (lo+(k:Int))) xs:=by
  intro xs
  induction xs with
  | nil=>intro m _;exact .nil
  | cons x r ih =>
   intro m hx
   rw[br,List.range'_succ,bz]
   refine .cons ?_ (ih (m+1) fun j v e=>?_)
   ·obtain⟨t,e⟩:=hx 0 x rfl
    exact⟨t,by simpa using e⟩
   ·obtain⟨t,e'⟩:=hx (j+1) v (by simpa using e)
    exact⟨t,by rw[e'];congr 2;omega⟩
 have:=key acc.toList 0 fun j v e=>by
  obtain⟨t,e'⟩:=hi j v (by simpa using e)
  exact⟨t,by rw[e',Int.mul_one,Nat.zero_add]⟩
 rw[ib,hs,←List.range_eq_range'] at this
 exact this
def C3:List V->Hp->VK->Prop:=fun vs H Q=>∃ a lo hi,vs=[.ref a]/\H a=some (.rng lo hi)/\(-(2^62)<=lo/\lo<2^62/\-(2^62)<=hi/\hi<2^62)/\(hi-lo).toNat<=2^20/\∀ p,H p=none->Q (.ref p) (upd H p (.lst (uz lo (hi-lo).toNat)))
theorem tQ (hc:X.calm=true):cC X (.type "list") C3:=by
 intro pins s σ H xs us Q I r h
 obtain⟨a,lo,hi,rfl,ha,⟨h1,h2,h3,h4⟩,hn,q⟩:=h
 obtain⟨u,rfl,ru⟩:=vals1 r
 cases ru
 obtain⟨t,u,v,e⟩:=(show bH X.prog X.w H s.heap a (.rng lo hi) from I.hok a _ ha)
 refine call_list_range (n:=(hi-lo).toNat) (I.ok.hd hc) e (small_one h1 h2 h3 h4) (by rw[rangeSize_one];split<;>omega) (by omega) fun h' tk acc c hk hS hacc=>?_
 have hv:=xX hacc
 have hlen:(uz lo (hi-lo).toNat).length<=sizeLine:=by
  unfold uz
  rw[List.length_map,List.length_range]
  exact bA hn (by decide)
 exact⟨.ref s.heap.objs.size,_,I.laid hk (ai _) (show bH X.prog X.w _ _ _ (.lst (uz lo (hi-lo).toNat)) from ⟨hlen,acc.toList,c,hv,by simpa using hS⟩),rfl,q _ (I.hok.fresh (ai _))⟩
theorem Inv.yQ {t':Nat} (I:Inv X pins σ H s) (hf:∀ b∈ch,jV X pins H b) (k:∀ b o,b∉ch->s.heap.get? b=some o->h'.get? b=some o) :
  Inv X pins σ H { s with heap:=h',toks:=t' }:=by
 have nch:∀ b u,H b=some u->b∉ch:=fun b u e z=>by rw[(hf b z).1] at e;cases e
 refine I.step (g':=s.gens) (d':=s.drawn) (ch:=ch) (fun b hb=>?_) (fun b o _ _ hc e _=>k b o hc e) (fun b o _ _ hc e _=>⟨o.slots,k b o hc e⟩) (fun _ _ _ _ n=>n) (fun b o hc e=>⟨o,k b o hc e⟩) (fun _ _ e=>e) (fun _ _ _ e=>e)
  (fun b ps e=>⟨#[],by rw[e];simp⟩) (fun m hm=>?_) (fun b u e=>?_) I.bare
 ·obtain⟨_,f1,_,f3,f4,f5⟩:=hf b hb
  exact⟨f3,f1,f4,f5⟩
 ·obtain⟨o,es,ep,ho,r⟩:=hm
  exact⟨o,es,ep,k _ o (fun z=>(hf _ z).2.1 rfl) ho,r⟩
 ·refine (I.hok b u e).nh (fun c v hc q=>k c v ?_ q) (fun _ q=>q) fun _ _ q=>q
  rcases hc with z | z
  ·rw[z];exact nch b u e
  ·exact nch c _ z
theorem Inv.yR {h':Heap}{t':Nat}{T:Addr}{o':HO} (I:Inv X pins σ H s) (hf:∀ b∈ch,jV X pins H b)
  (k:∀ b o,b∉ch->s.heap.get? b=some o->h'.get? b=some o) (hk2:∀ b o,s.heap.get? b=some o->∃ o',h'.get? b=some o') (hT:s.heap.objs.size<=T) (new:bH X.prog X.w (upd H T o') h' T o') :
  Inv X pins σ (upd H T o') { s with heap:=h',toks:=t' }:=by
 have nch:∀ b u,H b=some u->b∉ch:=fun b u e z=>by rw[(hf b z).1] at e;cases e
 have hTn:H T=none:=I.hok.fresh hT
 have neT:∀ b o,s.heap.get? b=some o->b≠T:=fun b o e=>bf (bB (aF e) hT)
 refine I.step (g':=s.gens) (d':=s.drawn) (ch:=ch) (fun b hb=>?_) (fun b o _ _ hc e _=>k b o hc e) (fun b o _ _ hc e _=>⟨o.slots,k b o hc e⟩) (fun b o _ e n=>by rw[ar (neT b o e)];exact n) (fun b o hc e=>⟨o,k b o hc e⟩)
  (fun b xs e=>by rw[ar (bw e hTn)];exact e) (fun b u xs e=>by rw[ar (bw e hTn)];exact e) (fun b ps e=>⟨#[],by rw[ar (bw e hTn),e];simp⟩) (fun m hm=>?_) (fun b u e=>?_) I.bare
 ·obtain⟨_,f1,_,f3,f4,f5⟩:=hf b hb
  exact⟨f3,f1,f4,f5⟩
 ·obtain⟨o,es,ep,ho,r⟩:=hm
  exact⟨o,es,ep,k _ o (fun z=>(hf _ z).2.1 rfl) ho,r⟩
 ·by_cases hb:b=T
  ·subst hb;rw[az] at e;cases e;exact new
  ·rw[ar hb] at e
   refine (I.hok b u e).nh (fun c v hc q=>k c v ?_ q) (fun c q=>by rw[ar (bw q hTn)];exact q) fun c xs q=>by rw[ar (bw q hTn)];exact q
   rcases hc with z | z
   ·rw[z];exact nch b u e
   ·exact nch c _ z
end
def Itz (K:PySem.W.Frag) (a b:Addr):It :=
 ⟨fun i H=>∃ xs ys x y,SqL K H a xs/\SqL K H b ys/\xs[i]?=some x/\ys[i]?=some y,
  fun i H v H'=>∃ x y p,(∀ xs,SqL K H a xs->xs[i]?=some x)/\(∀ ys,SqL K H b ys->ys[i]?=some y)/\v=.ref p/\H p=none/\H'=upd H p (.tup [x,y]),
  fun i H=>∃ xs ys,SqL K H a xs/\SqL K H b ys/\(xs.length<=i∨ys.length<=i)⟩
theorem yT {a b z TI TO i1 i2:Addr} (st:IsZip h z TI TO .none/\IsPair h TI (.ref i1) (.ref i2)/\(∃ x y,IsPair h TO x y)/\h.IsListIter i1 a i/\h.IsListIter i2 b i):∀ c∈[z,TI,TO,i1,i2],∃ o,h.get? c=some o/\∀ v,o.data≠.cell v:=fun c hc=>by
 obtain⟨hz,hTI,⟨x,y,hTO⟩,⟨o1,e1,c1,d1⟩,⟨o2,e2,c2,d2⟩⟩:=st
 simp only[aD,bM,bN] at hc
 rcases hc with rfl | rfl | rfl | rfl | rfl
 ·exact⟨_,hz,fun v q=>by have q':Data.fields _=Data.cell v:=q;cases q'⟩
 ·exact⟨_,hTI,fun v q=>by have q':Data.seq _ _=Data.cell v:=q;cases q'⟩
 ·exact⟨_,hTO,fun v q=>by have q':Data.seq _ _=Data.cell v:=q;cases q'⟩
 ·exact⟨o1,e1,fun v q=>by rw[d1] at q;cases q⟩
 ·exact⟨o2,e2,fun v q=>by rw[d2] at q;cases q⟩
theorem Df {k:Nat} (a b z TI TO i1 i2:Addr) (D:ZipApart z TI TO i1 i2 a b):Turn P w K (.Tuple elts k pos) (Itz K a b) [z,TI,TO,i1,i2] z
  (fun i h=>IsZip h z TI TO .none/\IsPair h TI (.ref i1) (.ref i2)/\(∃ x y,IsPair h TO x y)/\h.IsListIter i1 a i/\h.IsListIter i2 b i) where
 mem:=by simp
 obj:=fun i h st=>yT st
 keep:=fun i h h' st k=>by
  obtain⟨hz,hTI,⟨x,y,hTO⟩,h1,h2⟩:=st
  exact⟨k z (by simp) _ hz,k TI (by simp) _ hTI,⟨x,y,k TO (by simp) _ hTO⟩,h1.at fun o e=>k i1 (by simp) o e,h2.at fun o e=>k i2 (by simp) o e⟩
 item:=by
  intro X hP hw hK hc i pins s σ H E I hf st hg
  subst hP hw hK
  obtain⟨xs,ys,x,y,hx,hy,ex,ey⟩:=hg
  obtain⟨us,r1,p1,_⟩:=I.list hx
  obtain⟨vs,r2,p2,_⟩:=I.list hy
  obtain⟨u,hu,ru⟩:=r1.get ex
  obtain⟨v,hv,rv⟩:=r2.get ey
  obtain⟨hz,hTI,⟨ta,tb,hTO⟩,h1,h2⟩:=id st
  refine wpAny_pyNext_zip_item D hz hTI hTO h1 h2 p1.isList p2.isList (x:=u) (y:=v) (by simpa using hu) (by simpa using hv) fun h' a1 a2 a3 a4 a5 a6 a7=>?_
  refine⟨_,rfl,wpAny_letOwnedTupleGo_zip (s:={ s with heap:=h' }) a1 fun h'' b1 b2=>?_⟩
  have b2':Heap.SameBut z h' h'':=b2
  have ne:∀ c∈[z,TI,TO,i1,i2],c<s.heap.objs.size:=fun c hc=>by
   obtain⟨o,e,_⟩:=yT st c hc
   exact aF e
  have kk:∀ c o,c∉[z,TI,TO,i1,i2]->s.heap.get? c=some o->h''.get? c=some o:=fun c o hc e=>by
   simp only[aD,bM,bN,not_or] at hc
   exact (b2'.2 c hc.1).trans (a7 c o hc.1 hc.2.2.1 hc.2.2.2.1 hc.2.2.2.2 e)
  have hT:h''.get? s.heap.objs.size=some { cls:=.type "tuple",data:=.seq #[u,v] }:=(b2'.2 _ (Nat.ne_of_gt (ne z (by simp)))).trans a5
  have I1:Inv X pins σ (upd H s.heap.objs.size (.tup [x,y])) { s with heap:=h'' }:=by
   refine I.yR (t':=s.toks) (ch:=[z,TI,TO,i1,i2]) hf kk (fun c o e=>?_) (ai _) (show bH X.prog X.w _ h'' _ (.tup [x,y]) from ⟨by show 2<=sizeLine;decide,[u,v],.cons ru (.cons rv .nil),⟨_,hT,rfl,_,rfl⟩⟩)
   by_cases hc:c∈[z,TI,TO,i1,i2]
   ·simp only[aD,bM,bN] at hc
    rcases hc with rfl | rfl | rfl | rfl | rfl
    ·exact⟨_,b1⟩
    ·exact⟨_,(b2'.2 _ D.TIz).trans (a7 _ _ D.TIz D.TITO D.TIi1 D.TIi2 hTI)⟩
    ·exact⟨_,(b2'.2 _ D.TOz).trans a2⟩
    ·obtain⟨o1,e1,_⟩:=a3;exact⟨_,(b2'.2 _ D.i1z).trans e1⟩
    ·obtain⟨o2,e2,_⟩:=a4;exact⟨_,(b2'.2 _ D.i2z).trans e2⟩
   ·exact⟨_,kk c o hc e⟩
  refine⟨.ref s.heap.objs.size,_,I1,rfl,⟨x,y,_,fun zs hz=>by rw[I.qQ hz hx];exact ex,fun zs hz=>by rw[I.qQ hz hy];exact ey,rfl,I.hok.fresh (ai _),rfl⟩,⟨b1,(b2'.2 _ D.TIz).trans (a7 _ _ D.TIz D.TITO D.TIi1 D.TIi2 hTI),⟨u,v,(b2'.2 _ D.TOz).trans a2⟩,a3.at fun o e=>(b2'.2 _ D.i1z).trans e,a4.at fun o e=>(b2'.2 _ D.i2z).trans e⟩,fun c hc=>?_⟩
  rw[ar (bf (ne c hc))];exact (hf c hc).1
 done:=by
  intro X hP hw hK hc i pins s σ H E I hf st hg
  subst hP hw hK
  obtain⟨xs,ys,hx,hy,hl⟩:=hg
  obtain⟨us,r1,p1,_⟩:=I.list hx
  obtain⟨vs,r2,p2,_⟩:=I.list hy
  obtain⟨hz,hTI,⟨ta,tb,hTO⟩,h1,h2⟩:=id st
  have l1:=r1.length
  have l2:=r2.length
  refine wpAny_pyNext_zip_end (I.ok.hd hc) D hz hTI hTO h1 h2 p1.isList p2.isList ?_ fun h' kk=>⟨rfl,I.yQ (t':=s.toks) (ch:=[z,TI,TO,i1,i2]) hf fun c o hc e=>?_⟩
  ·rcases hl with hl | hl
   ·exact .inl (by simp;omega)
   ·exact .inr (by simp;omega)
  ·simp only[aD,bM,bN,not_or] at hc
   exact kk c o hc.1 hc.2.2.1 hc.2.2.2.1 hc.2.2.2.2 e
 self:=fun _ _ _ _ _ st h=>wpAny_pyIter_zip st.1 h
section
variable {X:Cx}
def Ea (K:PySem.W.Frag) (ta:TA):TI:=fun σ H R=>ta σ H fun vs H1=>∃ a b,vs=[.ref a,.ref b]/\(∃ xs,SqL K H1 a xs)/\(∃ ys,SqL K H1 b ys)/\R (Itz K a b) H1
theorem boot_zip:bootBuiltins "zip"=some (.type "zip"):=by kernel_rfl
theorem Hz {elts:List Expr}{k:Nat}{tpos:Pos}{a b:Expr}{p pos:Pos} (hg:Gl X "zip") (hm:X.mg "zip"=none) (ha:PA X [a,b] ta) (hs:starEach [a,b] X.env=[(false,eval a X.env),(false,eval b X.env)]:=by rfl)
  (hs2:starEach [b] X.env=[(false,eval b X.env)]:=by rfl):PI X (.Tuple elts k tpos) (.Call (.Name "zip" p) [a,b] [] pos) (Ea X.K ta):=by
 intro pins s σ H R I h
 refine Call_ (oO I hg hm boot_zip (oh (thn (ha pos pins s σ H _ I h) fun us s1 ⟨vs,H1,I1,r1,q1⟩=>?_) (by rw[hs,hs2]) (by rw[hs2];rfl)))
 obtain⟨l1,l2,e,⟨xs,hx⟩,⟨ys,hy⟩,q⟩:=q1
 subst e
 cases r1 with
 | cons r rr =>
  cases rr with
  | cons r' rr =>
   cases rr
   cases r
   cases r'
   obtain⟨us,_,p1,_⟩:=I1.list hx
   obtain⟨vs,_,p2,_⟩:=I1.list hy
   have a1:l1<s1.heap.objs.size:=by obtain⟨o,e,_⟩:=p1.isList;exact aF e
   have a2:l2<s1.heap.objs.size:=by obtain⟨o,e,_⟩:=p2.isList;exact aF e
   refine call_zip_2 p1.isList p2.isList fun h' hz hTI hTO hi1 hi2 hsz hk=>wpAny_pyIter_zip (s:={ s1 with heap:=h' }) hz ?_
   have I2:Inv X pins σ H1 { s1 with heap:=h' }:=I1.kept (t':=s1.toks) hk
   refine⟨_,[s1.heap.objs.size+4,s1.heap.objs.size+2,s1.heap.objs.size+3,s1.heap.objs.size,s1.heap.objs.size+1],_,_,H1,rfl,I2,Df l1 l2 _ _ _ _ _ (zipApart_new a1 a2),⟨hz,hTI,⟨_,_,hTO⟩,hi1,hi2⟩,fun c hc=>?_,q⟩
   have hle:s1.heap.objs.size<=c:=by
    simp only[aD,bM,bN] at hc
    rcases hc with rfl | rfl | rfl | rfl | rfl<;>omega
   exact I1.qI hle (I1.hok.fresh hle)
end
theorem GV {a b:Addr}{xs ys:List V}{js:List Nat}{σ:St}{te:TE}{Q:VK} (hx:SqL K H1 a xs) (hy:SqL K H1 b ys) (hl:xs.length<sizeLine) (f:V->V->V)
  (he:∀ x y,(x,y)∈xs.zip ys->∀ H,aq H1 H->∀ R:VK,(∀ H',aq H H'->R (f x y) H')->te (some x::some y::js.map fun j=>(σ[j]?).join) H R)
  (q:∀ D H,H1 D=none->aq H1 H->H D=some (.lst ((xs.zip ys).map fun p=>f p.1 p.2))->Q (.ref D) H):eZ (DX K 2 (sE (fZ 0) (sE (fZ 1) DW))) Ar te (fY 2 js σ) (Itz K a b) H1 Q:=by
 intro D hD
 refine⟨fun i m zs σ1 H=>m=(xs.zip ys).length-i/\i<=(xs.zip ys).length/\(∃ o1 o2,σ1=o1::o2::js.map fun j=>(σ[j]?).join)/\zs=((xs.zip ys).take i).map (fun p=>f p.1 p.2)/\aq H1 H/\H D=some (.lst zs),
  ⟨(xs.zip ys).length,by simp,bh _,⟨none,none,rfl⟩,by simp,(aq.refl H1).fi hD,az⟩,?_⟩
 rintro i m zs σ1 H ⟨rfl,hi,⟨o1,o2,rfl⟩,rfl,sH,hL⟩
 have hzl:(xs.zip ys).length=min xs.length ys.length:=List.length_zip
 have hlen:(((xs.zip ys).take i).map fun p=>f p.1 p.2).length<sizeLine:=by
  rw[List.length_map,gI];omega
 refine⟨hL,hlen,?_⟩
 by_cases hlt:i<(xs.zip ys).length
 ·have h1:i<xs.length:=by omega
  have h2:i<ys.length:=by omega
  refine .inr ⟨⟨xs,ys,xs[i],ys[i],sH.seq hx,sH.seq hy,by simp [h1],by simp [h2]⟩,fun v H' hyl=>?_⟩
  obtain⟨x,y,p,hx',hy',rfl,hp,rfl⟩:=hyl
  have ex:=hx' xs (sH.seq hx)
  have ey:=hy' ys (sH.seq hy)
  have ez:(xs.zip ys)[i]?=some (x,y):=zip_get ex ey
  have hm:(x,y)∈xs.zip ys:=bp ez
  have htk:(xs.zip ys).take (i+1)=(xs.zip ys).take i++[(x,y)]:=by rw[iE,ez];rfl
  have hpD:D≠p:=bw hL hp
  refine⟨p,[x,y],rfl,SqT.of az,rfl,x,[y],rfl,y,[],rfl,rfl,?_⟩
  show te (some x::some y::js.map fun j=>(σ[j]?).join) _ _
  have s1:aq H1 (upd H p (.tup [x,y])):=sH.fi (sH.free hp)
  refine he x y hm _ s1 _ fun H4 s4=>?_
  refine⟨s4 _ _ (by rw[ar hpD];exact hL),(xs.zip ys).length-(i+1),by omega,rfl,hlt,⟨_,_,rfl⟩,?_,(s1.trans s4).fi hD,az⟩
  rw[htk,b9];rfl
 ·have e:i=(xs.zip ys).length:=by omega
  subst e
  refine .inl ⟨⟨xs,ys,sH.seq hx,sH.seq hy,by omega⟩,q D H hD sH ?_⟩
  rw[List.take_length] at hL;exact hL
end
section
section
variable {X:Cx}
def nw (H:Hp) (o:HO) (Q:VK):Prop:=∀ p H',H p=none->aq H H'->H' p=some o->Q (.ref p) H'
theorem dw (hn:H a=none):aq H (upd H a o):=fun b u e=>by rw[ar (bw e hn)];exact e
theorem nw.go {Q:VK} (h:nw H o Q) (p:Addr) (hp:H p=none):Q (.ref p) (upd H p o):=h p _ hp (dw hp) az
def yF:R2:=fun x y H Q=>match x,y with
 | .int i,.int j=>Q (.int (i+j)) H
 | .str a,.str b=>a.length+b.length<=sizeLine/\Q (.str (a++b)) H
 | .ref l,.ref b=>∃ xs zs,H l=some (.lst xs)/\H b=some (.lst zs)/\xs.length+zs.length<=sizeLine/\nw H (.lst (xs++zs)) Q
 | _,_=>False
theorem aQ:OpR X (binaryOp .Add) yF:=by
 intro pins s σ H x y v u Q I rx ry h
 cases x with
 | int i=>cases y with
  | int j=>exact GZ pins s σ H _ _ v u Q I rx ry ⟨_,_,rfl,rfl,h⟩
  | _=>exact False.elim h
 | str a=>cases y with
  | str b=>exact xx pins s σ H _ _ v u Q I rx ry ⟨_,_,rfl,rfl,h.1,h.2⟩
  | _=>exact False.elim h
 | ref l=>cases y with
  | ref b =>
   obtain⟨xs,zs,h1,h2,h3,h4⟩:=h
   exact Hc pins s σ H _ _ v u Q I rx ry ⟨_,_,xs,zs,rfl,rfl,h1,h2,h3,h4.go⟩
  | _=>exact False.elim h
 | _=>exact False.elim h
def F5:R2:=fun x y H Q=>match x,y with
 | .int i,.int j=>Q (.int (i-j)) H
 | _,_=>False
theorem me:OpR X (binaryOp .Sub) F5:=by
 intro pins s σ H x y v u Q I rx ry h
 cases x with
 | int i=>cases y with
  | int j=>exact Hr pins s σ H _ _ v u Q I rx ry ⟨_,_,rfl,rfl,h⟩
  | _=>exact False.elim h
 | _=>exact False.elim h
def Fy:R2:=fun x y H Q=>match x,y with
 | .int i,.int j=>FN i j/\Q (.int (i*j)) H
 | .ref l,.int k=>∃ xs,H l=some (.lst xs)/\-(2^63)<=k/\k<2^63/\xs.length*k.toNat<=sizeLine/\nw H (.lst (List.replicate k.toNat xs).flatten) Q
 | _,_=>False
theorem qe:OpR X (binaryOp .Mult) Fy:=by
 intro pins s σ H x y v u Q I rx ry h
 cases x with
 | int i=>cases y with
  | int j=>exact Et pins s σ H _ _ v u Q I rx ry ⟨_,_,rfl,rfl,h.1,h.2⟩
  | _=>exact False.elim h
 | ref l=>cases y with
  | int k =>
   obtain⟨xs,h1,h2,h3,h4,h5⟩:=h
   exact Hq pins s σ H _ _ v u Q I rx ry ⟨_,_,xs,rfl,rfl,h1,h2,h3,h4,h5.go⟩
  | _=>exact False.elim h
 | _=>exact False.elim h
def Ct:R2:=fun x y H Q=>match x,y with
 | .int i,.int j=>(0<j/\j<2^1000)/\Q (.int (i/j)) H
 | _,_=>False
theorem bo:OpR X (binaryOp .FloorDiv) Ct:=by
 intro pins s σ H x y v u Q I rx ry h
 cases x with
 | int i=>cases y with
  | int j=>exact Cc pins s σ H _ _ v u Q I rx ry ⟨_,_,rfl,rfl,h.1,h.2⟩
  | _=>exact False.elim h
 | _=>exact False.elim h
def Fw:R2:=fun x y H Q=>match x,y with
 | .int i,.int j=>0<j/\Q (.int (i%j)) H
 | _,_=>False
theorem aW:OpR X (binaryOp .Mod) Fw:=by
 intro pins s σ H x y v u Q I rx ry h
 cases x with
 | int i=>cases y with
  | int j=>exact Hl pins s σ H _ _ v u Q I rx ry ⟨_,_,rfl,rfl,h.1,h.2⟩
  | _=>exact False.elim h
 | _=>exact False.elim h
def F1:R2:=fun x y H Q=>match x,y with
 | .int i,.int j=>(0<=j/\j<=1000000/\i.natAbs<2^64)/\Q (.int (i^j.toNat)) H
 | _,_=>False
theorem gu:OpR X (binaryOp .Pow) F1:=by
 intro pins s σ H x y v u Q I rx ry h
 cases x with
 | int i=>cases y with
  | int j=>exact Ho pins s σ H _ _ v u Q I rx ry ⟨_,_,rfl,rfl,h.1,h.2⟩
  | _=>exact False.elim h
 | _=>exact False.elim h
def vL (f:Int->Int->Bool):R2:=fun x y H Q=>match x,y with
 | .int i,.int j=>Q (.bl (f i j)) H
 | _,_=>False
theorem uq {op:CmpOp}{f:Int->Int->Bool} (h0:OpR X (compareOp op) (rI0 fun i j=>.bl (f i j))):OpR X (compareOp op) (vL f):=by
 intro pins s σ H x y v u Q I rx ry h
 cases x with
 | int i=>cases y with
  | int j=>exact h0 pins s σ H _ _ v u Q I rx ry ⟨_,_,rfl,rfl,h⟩
  | _=>exact False.elim h
 | _=>exact False.elim h
abbrev J9:R2:=vL fun i j=>decide (i<j)
abbrev J8:R2:=vL fun i j=>decide (i<=j)
abbrev J3:R2:=vL fun i j=>decide (j<=i)
theorem oT:OpR X (compareOp .Lt) J9:=uq IB
theorem ik:OpR X (compareOp .LtE) J8:=uq IA
theorem Hh:OpR X (compareOp .GtE) J3:=uq Iz
def xF (K:PySem.W.Frag):R2:=fun x y H Q=>match x,y with
 | .int i,.int j=>Q (.bl (decide (i=j))) H
 | .bl i,.bl j=>Q (.bl (decide (i=j))) H
 | .str i,.str j=>Q (.bl (decide (i=j))) H
 | .ref a,.ref b=>∃ xs ys,SqL K H a xs/\SqL K H b ys/\xs.all dh=true/\ys.all dh=true/\Q (.bl (nt xs ys)) H
 | _,_=>False
def C4 (K:PySem.W.Frag):R2:=fun x y H Q=>match x,y with
 | .int i,.int j=>Q (.bl (!decide (i=j))) H
 | .bl i,.bl j=>Q (.bl (!decide (i=j))) H
 | .str i,.str j=>Q (.bl (!decide (i=j))) H
 | .ref a,.ref b=>∃ xs ys,SqL K H a xs/\SqL K H b ys/\xs.all dh=true/\ys.all dh=true/\Q (.bl (!nt xs ys)) H
 | _,_=>False
theorem uS (i j:Int):decide (V.int i=V.int j)=decide (i=j):=by
 by_cases e:i=j
 ·subst e;simp
 ·rw[decide_eq_false e];exact decide_eq_false fun h=>e (V.int.inj h)
theorem yf (i j:Bool):decide (V.bl i=V.bl j)=decide (i=j):=by
 by_cases e:i=j
 ·subst e;simp
 ·rw[decide_eq_false e];exact decide_eq_false fun h=>e (V.bl.inj h)
theorem uT (i j:Str):decide (V.str i=V.str j)=decide (i=j):=by
 by_cases e:i=j
 ·subst e;simp
 ·rw[decide_eq_false e];exact decide_eq_false fun h=>e (V.str.inj h)
theorem Hg (hu:X.A.units<cLine):OpR X (compareOp .Eq) (xF X.K):=by
 intro pins s σ H x y v u Q I rx ry h
 cases x with
 | int i=>cases y with
  | int j=>exact Cb pins s σ H _ _ v u Q I rx ry ⟨rfl,by rw[uS];exact h⟩
  | _=>exact False.elim h
 | bl i=>cases y with
  | bl j=>exact Cb pins s σ H _ _ v u Q I rx ry ⟨rfl,by rw[yf];exact h⟩
  | _=>exact False.elim h
 | str i=>cases y with
  | str j=>exact Cb pins s σ H _ _ v u Q I rx ry ⟨rfl,by rw[uT];exact h⟩
  | _=>exact False.elim h
 | ref a=>cases y with
  | ref b =>
   obtain⟨xs,ys,h1,h2,h3,h4,h5⟩:=h
   exact He hu pins s σ H _ _ v u Q I rx ry ⟨_,_,xs,ys,rfl,rfl,h1,h2,h3,h4,h5⟩
  | _=>exact False.elim h
 | _=>exact False.elim h
theorem Hn (hu:X.A.units<cLine):OpR X (compareOp .NotEq) (C4 X.K):=by
 intro pins s σ H x y v u Q I rx ry h
 cases x with
 | int i=>cases y with
  | int j=>exact Ce pins s σ H _ _ v u Q I rx ry ⟨rfl,by rw[uS];exact h⟩
  | _=>exact False.elim h
 | bl i=>cases y with
  | bl j=>exact Ce pins s σ H _ _ v u Q I rx ry ⟨rfl,by rw[yf];exact h⟩
  | _=>exact False.elim h
 | str i=>cases y with
  | str j=>exact Ce pins s σ H _ _ v u Q I rx ry ⟨rfl,by rw[uT];exact h⟩
  | _=>exact False.elim h
 | ref a=>cases y with
  | ref b =>
   obtain⟨xs,ys,h1,h2,h3,h4,h5⟩:=h
   exact Hm hu pins s σ H _ _ v u Q I rx ry ⟨_,_,xs,ys,rfl,rfl,h1,h2,h3,h4,h5⟩
  | _=>exact False.elim h
 | _=>exact False.elim h
def isV:V->V->Option Bool
 | .non,.non=>some true
 | .bl _,.non=>some false
 | .int _,.non=>some false
 | .str _,.non=>some false
 | .ref _,.non=>some false
 | .bl a,.bl b=>some (a==b)
 | _,_=>none
def Cw (neg:Bool):R2:=fun x y H Q=>match isV x y with
 | some b=>Q (.bl (b != neg)) H
 | none=>False
theorem xA:OpR X (compareOp .Is) (Cw false):=by
 intro pins s σ H x y v u Q I rx ry h
 cases x<;>cases y<;>first
  | exact False.elim h
  | exact Hj pins s σ H _ _ v u Q I rx ry ⟨rfl,h⟩
  | exact Cd pins s σ H _ _ v u Q I rx ry ⟨_,_,rfl,rfl,by simpa [Cw,isV] using h⟩
theorem md:OpR X (compareOp .IsNot) (Cw true):=by
 intro pins s σ H x y v u Q I rx ry h
 cases x<;>cases y<;>first
  | exact False.elim h
  | exact Eu pins s σ H _ _ v u Q I rx ry ⟨rfl,h⟩
  | exact vA pins s σ H _ _ v u Q I rx ry ⟨_,_,rfl,rfl,by simpa [Cw,isV,bne] using h⟩
def Sq (K:PySem.W.Frag) (H:Hp) (a:Addr) (xs:List V):Prop:=SqL K H a xs∨SqT K H a xs
theorem Sq.l (h:H a=some (.lst xs)):Sq K H a xs:=.inl (.of h)
theorem Sq.t (h:H a=some (.tup xs)):Sq K H a xs:=.inr (.of h)
def EN (K:PySem.W.Frag):R2:=fun x y H Q=>match x,y with
 | .ref p,.int i=>∃ xs v,Sq K H p xs/\atI xs i=some v/\Q v H
 | .str z,.int i=>z.length<=sizeLine/\∃ c,atI z.cps.toList i=some c/\Q (.str ⟨#[c]⟩) H
 | _,_=>False
theorem Jv:IxR X (EN X.K):=by
 intro value slice pins s σ H x y v u Q I rx ry h hs
 cases x with
 | ref p=>cases y with
  | int i =>
   obtain⟨xs,w',h1 | h1,h2,h3⟩:=h
   ·exact Ec value slice pins s σ H _ _ v u Q I rx ry ⟨_,xs,_,w',rfl,rfl,h1,h2,h3⟩ hs
   ·exact GJ value slice pins s σ H _ _ v u Q I rx ry ⟨_,xs,_,w',rfl,rfl,h1,h2,h3⟩ hs
  | _=>exact False.elim h
 | str z=>cases y with
  | int i =>
   obtain⟨h1,c,h2,h3⟩:=h
   exact GI value slice pins s σ H _ _ v u Q I rx ry ⟨z,i,c,rfl,rfl,h1,h2,h3⟩ hs
  | _=>exact False.elim h
 | _=>exact False.elim h
def yG (K:PySem.W.Frag):List V->Hp->VK->Prop:=fun vs H Q=>match vs with
 | [.str z]=>z.length<=sizeLine/\Q (.int z.length) H
 | [.ref p]=>∃ xs,Sq K H p xs/\Q (.int xs.length) H
 | _=>False
theorem zh:cC X (.builtin "len") (yG X.K):=by
 intro pins s σ H xs us Q I r h
 match xs,h with
 | [.str z],h=>exact tP pins s σ H _ us Q I r ⟨z,rfl,h.1,h.2⟩
 | [.ref p],h =>
  obtain⟨ys,h1,h2⟩:=h
  exact tO pins s σ H _ us Q I r ⟨p,ys,rfl,h1,h2⟩
def Fs:List V->Hp->VK->Prop:=fun vs H Q=>match vs with
 | [.int i]=>Q (.int (i.natAbs:Int)) H
 | _=>False
theorem oH:cC X (.builtin "abs") Fs:=by
 intro pins s σ H xs us Q I r h
 match xs,h with
 | [.int i],h =>
  refine AU pins s σ H _ us Q I r ⟨i,rfl,?_⟩
  have e:(if i<0 then -i else i)=((i.natAbs:Nat):Int):=by split<;>omega
  rw[e];exact h
def Fv:List V->Hp->VK->Prop:=fun vs H Q=>match vs with
 | [.int i,.int j]=>Q (.int (min i j)) H
 | _=>False
def Fu:List V->Hp->VK->Prop:=fun vs H Q=>match vs with
 | [.int i,.int j]=>Q (.int (max i j)) H
 | _=>False
theorem sy (hc:X.calm=true):cC X (.builtin "min") Fv:=by
 intro pins s σ H xs us Q I r h
 match xs,h with
 | [.int i,.int j],h =>
  refine zk hc pins s σ H _ us Q I r ⟨i,j,rfl,?_⟩
  have e:(if j<i then j else i)=min i j:=by
   rw[Int.min_def];split<;>split<;>omega
  rw[e];exact h
theorem zj (hc:X.calm=true):cC X (.builtin "max") Fu:=by
 intro pins s σ H xs us Q I r h
 match xs,h with
 | [.int i,.int j],h =>
  refine zi hc pins s σ H _ us Q I r ⟨i,j,rfl,?_⟩
  have e:(if j>i then j else i)=max i j:=by
   rw[Int.max_def];split<;>split<;>omega
  rw[e];exact h
def xH (K:PySem.W.Frag):List V->Hp->VK->Prop:=fun vs H Q=>match vs with
 | [.ref a]=>∃ ys,(Sq K H a ys∨∃ lo hi,H a=some (.rng lo hi)/\(-(2^62)<=lo/\lo<2^62/\-(2^62)<=hi/\hi<2^62)/\(hi-lo).toNat<=2^20/\ys=uz lo (hi-lo).toNat)/\nw H (.lst ys) Q
 | _=>False
theorem wt (hc:X.calm=true):cC X (.type "list") (xH X.K):=by
 intro pins s σ H xs us Q I r h
 match xs,h with
 | [.ref a],h =>
  obtain⟨ys,h1 | ⟨lo,hi,h1,h2,h3,rfl⟩,h4⟩:=h
  ·exact tR pins s σ H _ us Q I r ⟨a,ys,rfl,h1,h4.go⟩
  ·exact tQ hc pins s σ H _ us Q I r ⟨a,lo,hi,rfl,h1,h2,h3,h4.go⟩
def F2:List V->Hp->VK->Prop:=fun vs H Q=>match vs with
 | [.int j]=>nw H (.rng 0 j) Q
 | _=>False
theorem zm:cC X (.type "range") F2:=by
 intro pins s σ H xs us Q I r h
 match xs,h with
 | [.int j],h=>exact zl pins s σ H _ us Q I r ⟨j,rfl,nw.go h⟩
theorem bt_isinstance:bootBuiltins "isinstance"=some (.builtin "isinstance"):=by kernel_rfl
theorem wo:bootBuiltins "abs"=some (.builtin "abs"):=by kernel_rfl
theorem cB:bootBuiltins "len"=some (.builtin "len"):=by kernel_rfl
theorem qu:bootBuiltins "all"=some (.builtin "all"):=by kernel_rfl
theorem AO:bootBuiltins "min"=some (.builtin "min"):=by kernel_rfl
theorem Gx:bootBuiltins "max"=some (.builtin "max"):=by kernel_rfl
theorem oF:bootBuiltins "sorted"=some (.builtin "sorted"):=by kernel_rfl
theorem AQ:bootBuiltins "range"=some (.type "range"):=by kernel_rfl
theorem pW:bootBuiltins "list"=some (.type "list"):=by kernel_rfl
theorem AR:bootBuiltins "tuple"=some (.type "tuple"):=by kernel_rfl
theorem Gw:bootBuiltins "int"=some (.type "int"):=by kernel_rfl
theorem oG:bootBuiltins "str"=some (.type "str"):=by kernel_rfl
theorem DF:bootBuiltins "bool"=some (.type "bool"):=by kernel_rfl
theorem Gy:bootBuiltins "set"=some (.type "set"):=by kernel_rfl
theorem ID (hg:Gl X x) (hm:X.mg x=none) (hv:bootBuiltins x=some (.type T)) (hn:x≠"__name__":=by decide) (hd:(x==("__debug__":Str))=false:=by decide):PE X (.Name x pos) (tC (.ty T)) :=
 Ez hg hm hv rfl hn hd
structure Fnc (P:Program) (w:World) (K:PySem.W.Frag) (mg:Str->Option Value) (base:Heap) (CX:CXT) (k:Nat) (x:Str) (ps:List Str) (sp:Sp):Prop where
 ex:∃ (f:Addr) (fd:FuncData),bI P w K mg base CX k f fd ps sp/\mg x=some (.ref f)/\PySem.W.keepIn K (.ref f)=true/\Binds K fd ps []
theorem Ci {E:St->XK}{k:Nat}{t:TA}{p pos:Pos} (C:Fnc X.prog X.w X.K X.mg X.base CX k x ps sp) (hx:Passes CX X E) (hr:bZ k X.A) (hg:Gl X x) (ha:PA X (e::es) t)
  (hd:(x==("__debug__":Str))=false:=by decide)
  (he:starEach (e::es) X.env=(false,eval e X.env)::starEach es X.env:=by rfl) (hpl:(backTo pos (starEach es X.env)).any (·.1)=false:=by rfl):PE X (.Call (.Name x p) (e::es) [] pos) (yL sp [] E t):=by
 obtain⟨f,fd,F,hm,hk,hb⟩:=C.ex
 exact E6 F hr hg hm hk hb .nil hx ha hd he hpl
end
def ig (g:TG) (tb:TS) (D:Ends) (J:It) (σ:St) (H:Hp):Prop:=∃ W:Nat->Nat->St->Hp->Prop,(∃ m,W 0 m σ H)/\∀ i m σ H,W i m σ H →
 (J.stop i H/\D.nx σ H)∨(J.go i H/\∃ N:St->Hp->Prop,(∀ σ' H',N σ' H'->∃ m',m'<m/\W (i+1) m' σ' H')/\∀ x H',J.yld i H x H'->g x σ H' fun σ2 H2=>tb { D with nx:=N,ct:=N,bk:=D.nx } σ2 H2)
theorem yr {lo:Int}{n:Nat}{g:TG}{tb:TS}{D:Ends} (Pv:Nat->St->Hp->Prop) (h0:Pv 0 σ H)
  (hs:∀ i σ H,i<n->Pv i σ H->g (.int (lo+i)) σ H fun σ2 H2=>tb { D with nx:=Pv (i+1),ct:=Pv (i+1),bk:=D.nx } σ2 H2) (hd:∀ σ H,Pv n σ H->D.nx σ H):ig g tb D (Itr lo n) σ H:=zK Pv h0 hs hd
theorem yq {g:TG}{tb:TS}{D:Ends} (Pv:Nat->St->Hp->Prop) (h0:Pv 0 σ H) (hl:∀ i σ H,i<=xs.length->Pv i σ H->SqL K H a xs)
  (hs:∀ i x σ H,xs[i]?=some x->Pv i σ H->g x σ H fun σ2 H2=>tb { D with nx:=Pv (i+1),ct:=Pv (i+1),bk:=D.nx } σ2 H2) (hd:∀ σ H,Pv xs.length σ H->D.nx σ H):ig g tb D (Itl K a) σ H:=Bu Pv h0 hl hs hd
def FD (t:TA):TE:=fun σ H Q=>t σ H fun xs H1=>xs.length<=sizeLine/\nw H1 (.lst xs) Q
def FI (t:TA):TE:=fun σ H Q=>t σ H fun xs H1=>xs.length<=sizeLine/\nw H1 (.tup xs) Q
def CY:TE:=fun _ H Q=>nw H (.dK []) Q
theorem aN {t:TA} (h:PA X es t):PE X (.List es pos) (FD t):=by
 intro pins s σ H Q I hq
 refine wpAny_List_spliced (thn (h pos pins s σ H _ I hq) fun us s1 ⟨xs,H1,I1,r,z,q⟩=>⟨by rw[←r.length];exact z,?_⟩)
 have hf:H1 s1.heap.objs.size=none:=I1.hok.fresh (ai _)
 refine⟨.ref s1.heap.objs.size,upd H1 s1.heap.objs.size (.lst xs),I1.laid (t':=s1.toks) (fun b u e=>aH _ e) (ai _) ?_,rfl,nw.go q _ hf⟩
 exact⟨z,us,0,r,aZ _ rfl⟩
theorem aS {t:TA}{x1} (h:PA X es t):PE X (.Tuple es x1 pos) (FI t):=by
 intro pins s σ H Q I hq
 refine wpAny_Tuple_spliced (thn (h pos pins s σ H _ I hq) fun us s1 ⟨xs,H1,I1,r,z,q⟩=>⟨by rw[←r.length];exact z,?_⟩)
 have hf:H1 s1.heap.objs.size=none:=I1.hok.fresh (ai _)
 refine⟨.ref s1.heap.objs.size,upd H1 s1.heap.objs.size (.tup xs),I1.laid (t':=s1.toks) (fun b u e=>aH _ e) (ai _) ?_,rfl,nw.go q _ hf⟩
 exact⟨z,us,r,⟨_,aZ _ rfl,rfl,_,rfl⟩⟩
theorem j4 :PE X (.Dict [] [] pos) CY:=fun pins s σ H Q I h=>Cm pins s σ H Q I (nw.go h)
section
variable {σ:St}{H:Hp}{Q:VK}{D:Ends}
theorem fF {t u:TS}:Fc t u D σ H=t { D with nx:=u D } σ H:=propext Iff.rfl
theorem FR {te:TE}{g:TG}:Ap te g D σ H=te σ H fun x H1=>g x σ H1 D.nx:=propext Iff.rfl
theorem fE {i:Nat}{v:V}{R:St->Hp->Prop}:fZ i v σ H R=R (σ.set i (some v)) H:=propext Iff.rfl
theorem Gu {i:Nat}:Aq i σ H Q=∃ v,σ[i]?=some (some v)/\Q v H:=propext Iff.rfl
theorem Jt {v:V}:tC v σ H Q=Q v H:=propext Iff.rfl
theorem Ig {r:R2}{ta tb:TE}:tOp r ta tb σ H Q=ta σ H fun x H1=>tb σ H1 fun y H2=>r x y H2 Q:=propext Iff.rfl
theorem Im {r:V->Hp->VK->Prop}{ta:TE}:tUn r ta σ H Q=ta σ H fun x H1=>r x H1 Q:=propext Iff.rfl
theorem HY {r:List V->Hp->VK->Prop}{t:TA}:tCB r t σ H Q=t σ H fun vs H1=>r vs H1 Q:=propext Iff.rfl
theorem Dt {ta:TE}{tr:TA}{R:List V->Hp->Prop}:CU ta tr σ H R=ta σ H fun x H1=>tr σ H1 fun xs H2=>R (x::xs) H2:=propext Iff.rfl
theorem FY {R:List V->Hp->Prop}:EZ σ H R=R [] H:=propext Iff.rfl
theorem Ds {sp:Sp}{E:St->XK}{t:TA}:yL sp [] E t σ H Q=t σ H fun vs H1=>sp vs H1 Q (E σ):=by
 show (t σ H fun vs H1=>sp (vs++[]) H1 Q (E σ))=_
 simp only[List.append_nil]
theorem Gp {te:TE}:Ja te D σ H=te σ H D.rt:=propext Iff.rfl
theorem HZ {c:TT}{t u:TS}:IU c t u D σ H=c σ H fun b H1=>if b=true then t D σ H1 else u D σ H1:=propext Iff.rfl
theorem D8:FF D σ H=D.nx σ H:=propext Iff.rfl
theorem Dx {te:TE}:FA te D σ H=te σ H fun _ H1=>D.nx σ H1:=propext Iff.rfl
theorem DC {t:TE}{R:Bool->Hp->Prop}:Dc t σ H R=t σ H fun x H'=>∃ k,x=.bl k/\R k H':=propext Iff.rfl
theorem Js {t:TE}{R:Bool->Hp->Prop}:tB t σ H R=t σ H fun x H'=>∃ k,x=.bl k/\R k H':=propext Iff.rfl
theorem FZ {t:TT}{R:Bool->Hp->Prop}:IW t σ H R=t σ H fun c H1=>R (!c) H1:=propext Iff.rfl
theorem FQ {t u:TT}{R:Bool->Hp->Prop}:IT t u σ H R=t σ H fun c H1=>if c=true then u σ H1 R else R false H1:=propext Iff.rfl
theorem Ih {t u:TT}{R:Bool->Hp->Prop}:tOr t u σ H R=t σ H fun c H1=>if c=true then R true H1 else u σ H1 R:=propext Iff.rfl
theorem Dr {ta tb:TE}:F9 ta tb σ H Q=ta σ H fun x H1=>∃ c,x=.bl c/\if c=true then tb σ H1 Q else Q (.bl false) H1:=propext Iff.rfl
theorem Gm {ta tb:TE}:IY ta tb σ H Q=ta σ H fun x H1=>∃ c,x=.bl c/\if c=true then Q (.bl true) H1 else tb σ H1 Q:=propext Iff.rfl
theorem D9 {ta:TE}:FG ta σ H Q=ta σ H fun x H1=>∃ c,x=.bl c/\Q (.bl (!c)) H1:=propext Iff.rfl
theorem FW {t:TT}{ta tb:TE}:tIf t ta tb σ H Q=t σ H fun c H1=>if c=true then ta σ H1 Q else tb σ H1 Q:=propext Iff.rfl
theorem FX {t:TA}:FD t σ H Q=t σ H fun xs H1=>xs.length<=sizeLine/\nw H1 (.lst xs) Q:=propext Iff.rfl
theorem Gr {t:TA}:FI t σ H Q=t σ H fun xs H1=>xs.length<=sizeLine/\nw H1 (.tup xs) Q:=propext Iff.rfl
theorem Dv:CY σ H Q=nw H (.dK []) Q:=propext Iff.rfl
theorem Ie {k:Nat}{js:List Nat}{wi:TI}{g:TG}{tc:TT}{te:TE}:tLC k js wi g tc te σ H Q=wi σ H fun J H1=>eZ g tc te (fY k js σ) J H1 Q:=propext Iff.rfl
theorem Il {r:V->Option Int->Option Int->Hp->VK->Prop}{te:TE}{tl th:TO}:tSl r te tl th σ H Q=te σ H fun x H1=>tl σ H1 fun l H2=>th σ H2 fun u H3=>r x l u H3 Q:=propext Iff.rfl
theorem yZ {R:Option Int->Hp->Prop}:yP σ H R=R none H:=propext Iff.rfl
theorem DA {t:TE}{R:Option Int->Hp->Prop}:FH t σ H R=t σ H fun x H1=>∃ i,x=.int i/\R (some i) H1:=propext Iff.rfl
theorem AJ {ta:TA}{R:It->Hp->Prop}:BC ta σ H R=ta σ H fun vs H1=>∃ j:Int,vs=[.int j]/\-(2^62)<=j/\j<2^62/\R (Itr 0 j.toNat) H1:=propext Iff.rfl
theorem D5 {K:PySem.W.Frag}{ta:TA}{R:It->Hp->Prop}:Ea K ta σ H R=ta σ H fun vs H1=>∃ a b,vs=[.ref a,.ref b]/\(∃ xs,SqL K H1 a xs)/\(∃ ys,SqL K H1 b ys)/\R (Itz K a b) H1:=propext Iff.rfl
theorem FV {wi:TI}{g:TG}{tb:TS}:HI wi g tb D σ H=wi σ H fun J H1=>ig g tb D J σ H1:=propext Iff.rfl
theorem Gn {i j:Nat}{ta:TA}:IZ i j ta D σ H=ta σ H fun vs H1=>∃ v w,vs=[v,w]/\D.nx ((σ.set i (some v)).set j (some w)) H1:=propext Iff.rfl
theorem HX {K:PySem.W.Frag}{T:String}{r:V->List V->Hp->VK->Prop}{to:TE}{t:TA}:tBM K T r to t σ H Q=to σ H fun x H1=>tyV K T x H1/\t σ H1 fun xs H2=>r x xs H2 Q:=propext Iff.rfl
theorem FT {K:PySem.W.Frag}{T:String}{r:V->List V->Hp->VK->Prop}{to:TE}:HF K T r to σ H Q=to σ H fun x H1=>tyV K T x H1/\r x [] H1 Q:=propext Iff.rfl
theorem AD {r r':R2}{ta tb tc:TE}:xP r r' ta tb tc σ H Q=ta σ H fun x H1=>tb σ H1 fun y H2=>r x y H2 fun z H3=>∃ k,z=.bl k/\if k=true then tc σ H3 fun v H4=>r' y v H4 Q else Q (.bl false) H3:=propext Iff.rfl
theorem Fm {b:Bool}{P:Bool->Prop}:(∃ k,V.bl b=V.bl k/\P k)=P b:=propext ⟨fun ⟨k,e,h⟩=>by cases e;exact h,fun h=>⟨b,rfl,h⟩⟩
theorem Bo {b:Int}{P:Int->Prop}:(∃ k,V.int b=V.int k/\P k)=P b:=propext ⟨fun ⟨k,e,h⟩=>by cases e;exact h,fun h=>⟨b,rfl,h⟩⟩
theorem Bp {b:Addr}{P:Addr->Prop}:(∃ k,V.ref b=V.ref k/\P k)=P b:=propext ⟨fun ⟨k,e,h⟩=>by cases e;exact h,fun h=>⟨b,rfl,h⟩⟩
theorem DS {b:Int}{P:Int->Prop}:(∃ k,[V.int b]=[V.int k]/\P k)=P b:=propext ⟨fun ⟨k,e,h⟩=>by cases e;exact h,fun h=>⟨b,rfl,h⟩⟩
theorem DT {b c:Int}{P:Int->Int->Prop}:(∃ k l,[V.int b,V.int c]=[V.int k,V.int l]/\P k l)=P b c:=propext ⟨fun ⟨k,l,e,h⟩=>by cases e;exact h,fun h=>⟨b,c,rfl,h⟩⟩
theorem DU {b c:Addr}{P:Addr->Addr->Prop}:(∃ k l,[V.ref b,V.ref c]=[V.ref k,V.ref l]/\P k l)=P b c:=propext ⟨fun ⟨k,l,e,h⟩=>by cases e;exact h,fun h=>⟨b,c,rfl,h⟩⟩
theorem GA {b c:V}{P:V->V->Prop}:(∃ k l,[b,c]=[k,l]/\P k l)=P b c:=propext ⟨fun ⟨k,l,e,h⟩=>by cases e;exact h,fun h=>⟨b,c,rfl,h⟩⟩
theorem DV {v:V}{P:V->Prop}:(∃ k,some (some v)=some (some k)/\P k)=P v:=propext ⟨fun ⟨k,e,h⟩=>by cases e;exact h,fun h=>⟨v,rfl,h⟩⟩
theorem CQ {N:List Str}{vs:List V}:start N vs=vs.map some++List.replicate (N.length-vs.length) none:=rfl
end
inductive Tg where
 | non | bl | int | str | lst | tup | dct
 deriving DecidableEq
def Tg.name:Tg->String
 | .non=>"NoneType" | .bl=>"bool" | .int=>"int" | .str=>"str" | .lst=>"list" | .tup=>"tuple" | .dct=>"dict"
def Tg.sub:Tg->Tg->Bool
 | .non,.non=>true | .bl,.bl=>true | .int,.int=>true | .str,.str=>true | .lst,.lst=>true | .tup,.tup=>true | .dct,.dct=>true
 | .bl,.int=>true
 | _,_=>false
def i8:Option HO->Option Tg
 | some (.lst _)=>some .lst | some (.frz _ (.lst _))=>some .lst | some (.tup _)=>some .tup | some (.dK _)=>some .dct | some (.dT _)=>some .dct
 | _=>none
def cz (H:Hp):V->Option Tg
 | .non=>some .non | .bl _=>some .bl | .int _=>some .int | .str _=>some .str | .ref a=>i8 (H a)
 | _=>none
theorem BL (K:PySem.W.Frag):∀ t c:Tg,c≠.non->PySem.W.kitOne K (.type t.name) (.type c.name)=some (t.sub c):=by
 intro t c h
 cases t<;>cases c<;>first
  | exact absurd rfl h
  | rfl
  | kernel_rfl
  | decide +kernel
theorem HJ {x:V}{t:Tg} (h:cz H x=some t):m6 K H x (.type t.name):=by
 cases x with
 | non=>cases h;exact .non
 | bl b=>cases h;exact .bl b
 | int i=>cases h;exact .int i
 | str z=>cases h;exact .str z
 | ref a =>
  have h':i8 (H a)=some t:=h
  cases e:H a with
  | none=>rw[e] at h';cases h'
  | some o =>
   rw[e] at h'
   cases o with
   | lst xs=>cases h';exact .lst e
   | tup xs=>cases h';exact .tup e
   | dK kvs=>cases h';exact .dK e
   | dT kvs=>cases h';exact .dT e
   | frz ob u=>cases u with
    | lst xs=>cases h';exact .frz e
    | _=>cases h'
   | _=>cases h'
 | _=>cases h
def Ft (c:Tg):List V->Hp->VK->Prop:=fun vs H Q=>match vs with
 | [x,.ty n]=>n=c.name/\∃ t,cz H x=some t/\Q (.bl (t.sub c)) H
 | _=>False
theorem dS (c:Tg) (hc:c≠.non:=by decide):cC X (.builtin "isinstance") (Ft c):=by
 intro pins s σ H xs us Q I r h
 match xs,h with
 | [x,.ty n],h =>
  obtain⟨rfl,t,ht,q⟩:=h
  exact AV pins s σ H _ us Q I r ⟨x,_,_,_,rfl,HJ ht,BL X.K t c hc,q⟩
theorem uF {c:TT}{tb:TS}{D:Ends} (Pv:St->Hp->Prop) (μ:St->Hp->Nat) (h0:Pv σ H)
  (hs:∀ σ H,Pv σ H->c σ H fun b H1=>if b=true then ∃ N:St->Hp->Prop,(∀ σ' H',N σ' H'->Pv σ' H'/\μ σ' H'<μ σ H)/\tb { D with nx:=N,ct:=N,bk:=D.nx } σ H1 else D.nx σ H1):Dd c tb D σ H :=
 ⟨fun m σ H=>m=μ σ H/\Pv σ H,⟨_,rfl,h0⟩,fun m σ H ⟨e,p⟩=>by
  subst e
  have q:=hs σ H p
  have e:(fun (b:Bool) (H1:Hp)=>if b=true then ∃ N:St->Hp->Prop,(∀ σ' H',N σ' H'->Pv σ' H'/\μ σ' H'<μ σ H)/\tb { D with nx:=N,ct:=N,bk:=D.nx } σ H1 else D.nx σ H1) =
    fun (b:Bool) (H1:Hp)=>if b=true then ∃ N:St->Hp->Prop,(∀ σ' H',N σ' H'->∃ m',m'<μ σ H/\m'=μ σ' H'/\Pv σ' H')/\tb { D with nx:=N,ct:=N,bk:=D.nx } σ H1 else D.nx σ H1:=by
   funext b H1
   cases b with
   | false=>rfl
   | true =>
    simp only[if_true]
    refine propext ⟨fun ⟨N,h1,h2⟩=>⟨N,fun σ' H' n=>⟨_,(h1 σ' H' n).2,rfl,(h1 σ' H' n).1⟩,h2⟩,fun ⟨N,h1,h2⟩=>⟨N,fun σ' H' n=>?_,h2⟩⟩
    obtain⟨m',h3,h4,h5⟩:=h1 σ' H' n
    exact⟨h5,by rw[←h4];exact h3⟩
  rw[e] at q
  exact q⟩
theorem oI (xs:List V) (k:Nat):pO xs (some (k:Int)) none=xs.drop k:=by
 unfold pO
 rw[HT.u7,HT.CK]
 rw[eL (by rw[dE];omega)]
 by_cases h:k<=xs.length
 ·rw[iG h]
 ·rw[lO (by omega),List.drop_of_length_le (ai _),List.drop_of_length_le (by omega)]
theorem sT (n:Nat):uz 0 n=(Mk.ofN n).map V.int:=by
 unfold uz Mk.ofN
 rw[List.map_map]
 refine jL fun k _=>?_
 show V.int (0+(k:Int))=V.int (k:Int)
 rw[Int.zero_add]
theorem qj (n:Nat):(Itr 0 n).Seq H1 ((Mk.ofN n).map V.int):=by
 rw[←sT];exact sV
def pI (f:Int->Bool):V->Bool
 | .int i=>f i
 | _=>false
theorem zI (f:Int->Bool) (xs:List Int):(xs.map V.int).filter (pI f)=(xs.filter f).map V.int:=by
 rw[jH];rfl
theorem BR {x:V}{xs:List Int} (h:x∈xs.map V.int):∃ i,x=.int i/\i∈xs:=by
 obtain⟨i,hi,rfl⟩:=aC.mp h
 exact⟨i,rfl,hi⟩
theorem ao {n:Nat} (h:n<=100000):n<sizeLine:=dQ h (by decide)
section
variable {X:Cx}{K:PySem.W.Frag}
theorem bX (hK:X.K=K) (hu:X.A.units<cLine):OpR X (compareOp .Eq) (xF K):=hK ▸ Hg hu
theorem fJ (hK:X.K=K) (hu:X.A.units<cLine):OpR X (compareOp .NotEq) (C4 K):=hK ▸ Hn hu
theorem bO (hK:X.K=K):IxR X (EN K):=hK ▸ Jv
theorem bG (hK:X.K=K):cC X (.builtin "len") (yG K):=hK ▸ zh
theorem jv (hK:X.K=K) (hc:X.calm=true):cC X (.builtin "all") (IF K):=hK ▸ ze hc
theorem mB (hK:X.K=K) (hc:X.calm=true):cC X (.type "list") (xH K):=hK ▸ wt hc
theorem EE {elts:List Expr}{k:Nat}{tpos:Pos}{a b:Expr}{p pos:Pos} (hK:X.K=K) (hg:Gl X "zip") (hm:X.mg "zip"=none) (ha:PA X [a,b] ta) (hs:starEach [a,b] X.env=[(false,eval a X.env),(false,eval b X.env)]:=by rfl)
  (hs2:starEach [b] X.env=[(false,eval b X.env)]:=by rfl):PI X (.Tuple elts k tpos) (.Call (.Name "zip" p) [a,b] [] pos) (Ea K ta):=hK ▸ Hz hg hm ha hs hs2
theorem nG {k:Nat}{t:TGs}{n:Nat}{pos:Pos} (hK:X.K=K) (hc:X.calm=true) (h:PGs X es t)
  (hn:(assignEach es X.env).length=n:=by rfl) (hst:(assignEach es X.env).findIdx? (·.1)=none:=by rfl):PG X (.Tuple es k pos) (DX K n t):=hK ▸ Cq hc h hn hst
theorem Ht {o e:Expr}{es:List Expr}{to:TE}{t:TA}{name:Str}{apos cpos:Pos}{T id:String}{r:V->List V->Hp->VK->Prop} (hK:X.K=K) (pa:PlainAttrs T) (slot:Slot T name id) (hty:typeOf (.builtin id)=pure (.type "method_descriptor"))
  (hm:MtR X id r) (ho:PE X o to) (ha:PA X (e::es) t)
  (hbase:attributeBase o name X.env (eval o X.env)=eval o X.env:=by rfl)
  (hfew:((backTo cpos (starEach (e::es) X.env)).all (fun x=>!x.1)&&(backToKw cpos (keywordEach [] X.env)).all (fun x=>x.1.isSome)
   && decide ((e::es).length+([]:List Keyword).length+(if ([]:List Keyword).isEmpty then 0 else 1)<30))=true:=by rfl)
  (hline:(apos.endLine==cpos.line)=true:=by rfl) (hs:starEach (e::es) X.env=(false,eval e X.env)::starEach es X.env:=by rfl) (hplain:(backTo cpos (starEach es X.env)).any (·.1)=false:=by rfl) :
  PE X (.Call (.Attribute o name apos) (e::es) [] cpos) (tBM K T r to t):=hK ▸ IC pa slot hty hm ho ha hbase hfew hline hs hplain
end
end
section
def noStar:Expr->Bool
 | .Starred _ _=>false
 | _=>true
def cV (es:List Expr):Bool:=es.all noStar
theorem aO (h:noStar e=true):starEach (e::es) env=(false,eval e env)::starEach es env:=by
 cases e<;>first
  | rfl
  | cases h
theorem aR (h:cV (e::es)=true):noStar e=true/\cV es=true:=by
 unfold cV at h ⊢
 rw[iB,cf] at h
 exact h
theorem cx {pos:Pos}{env:Env}:∀ {es:List Expr},cV es=true->(backTo pos (starEach es env)).any (·.1)=false
 | [],_=>rfl
 | e::es,h=>by
  obtain⟨h1,h2⟩:=aR h
  rw[aO h1]
  show (false||(backTo pos (starEach es env)).any (·.1))=false
  rw[cx h2];rfl
theorem m8 {pos:Pos}{env:Env}:∀ {es:List Expr},cV es=true->(backTo pos (starEach es env)).all (fun x=>!x.1)=true
 | [],_=>rfl
 | e::es,h=>by
  obtain⟨h1,h2⟩:=aR h
  rw[aO h1]
  show (true&&(backTo pos (starEach es env)).all (fun x=>!x.1))=true
  rw[m8 h2];rfl
section
variable {X:Cx}{K:PySem.W.Frag}
theorem pvL (i:Nat) {pos:Pos} (hN:X.N[i]?=some x:=by kernel_rfl) (hv:X.env.scope.names.lookup x=some .local:=by kernel_rfl) (hd:(x==("__debug__":Str))=false:=by kernel_rfl)
  (hcd:(x==("__classdict__":Str))=false:=by kernel_rfl):PE X (.Name x pos) (Aq i):=ux hN (.inl hv) hd hcd
theorem pvC (i:Nat) {pos:Pos} (hN:X.N[i]?=some x:=by kernel_rfl) (hv:X.env.scope.names.lookup x=some .cell:=by kernel_rfl) (hd:(x==("__debug__":Str))=false:=by kernel_rfl)
  (hcd:(x==("__classdict__":Str))=false:=by kernel_rfl):PE X (.Name x pos) (Aq i):=ux hN (.inr (.inl hv)) hd hcd
theorem ae {t:TA} (ha:PE X e te) (hr:PA X es t) (hs:noStar e=true:=by kernel_rfl):PA X (e::es) (CU te t):=Ey ha hr (aO hs)
theorem aG {E:St->XK}{k:Nat}{t:TA}{p pos:Pos} (C:Fnc X.prog X.w X.K X.mg X.base CX k x ps sp) (hx:Passes CX X E) (hr:bZ k X.A) (ha:PA X (e::es) t)
  (hg:X.env.kindOf x=some .globalImplicit:=by kernel_rfl) (hd:(x==("__debug__":Str))=false:=by kernel_rfl) (hs:cV (e::es)=true:=by kernel_rfl):PE X (.Call (.Name x p) (e::es) [] pos) (yL sp [] E t) :=
 Ci C hx hr hg ha hd (aO (aR hs).1) (cx (aR hs).2)
theorem ay {p pos:Pos}{t:TA}{id:String}{r:List V->Hp->VK->Prop} (hc:cC X (.builtin id) r) (hm:X.mg x=none) (hv:bootBuiltins x=some (.builtin id)) (ha:PA X (e::es) t)
  (hg:X.env.kindOf x=some .globalImplicit:=by kernel_rfl) (hn:x≠"__name__":=by decide +kernel) (hd:(x==("__debug__":Str))=false:=by kernel_rfl) (hs:cV (e::es)=true:=by kernel_rfl):PE X (.Call (.Name x p) (e::es) [] pos) (tCB r t) :=
 Cg hc hg hm hv ha hn hd (aO (aR hs).1) (cx (aR hs).2)
theorem ip {p pos:Pos}{t:TA}{r:List V->Hp->VK->Prop} (hc:cC X (.type T) r) (hm:X.mg x=none) (hv:bootBuiltins x=some (.type T)) (ha:PA X (e::es) t)
  (hg:X.env.kindOf x=some .globalImplicit:=by kernel_rfl) (hn:x≠"__name__":=by decide +kernel) (hd:(x==("__debug__":Str))=false:=by kernel_rfl) (hs:cV (e::es)=true:=by kernel_rfl):PE X (.Call (.Name x p) (e::es) [] pos) (tCB r t) :=
 Af hc hg hm hv ha hn hd (aO (aR hs).1) (cx (aR hs).2)
theorem gR {pos:Pos} (hm:X.mg x=none) (hv:bootBuiltins x=some (.type T)) (hg:X.env.kindOf x=some .globalImplicit:=by kernel_rfl) (hn:x≠"__name__":=by decide +kernel) (hd:(x==("__debug__":Str))=false:=by kernel_rfl) :
  PE X (.Name x pos) (tC (.ty T)):=ID hg hm hv hn hd
theorem aA {pos pos':Pos} (hN:X.N.Nodup) (he:PE X e te) (hi:X.N[i]?=some x:=by kernel_rfl) (hx:X.env.scope.names.lookup x=some .local:=by kernel_rfl)
  (hs:swapsWith e (some (.Name x pos')) pos.line X.env=pure false:=by kernel_rfl):PS X (.Assign [.Name x pos'] e pos) (Ap te (fZ i)):=Cs hN hi (.inl hx) he hs (.inr hx)
theorem iO {pos pos':Pos} (hN:X.N.Nodup) (he:PE X e te) (hi:X.N[i]?=some x:=by kernel_rfl) (hx:X.env.scope.names.lookup x=some .cell:=by kernel_rfl) (hf:X.fn x=true:=by kernel_rfl)
  (hs:swapsWith e (some (.Name x pos')) pos.line X.env=pure false:=by kernel_rfl):PS X (.Assign [.Name x pos'] e pos) (Ap te (fZ i)):=Cs hN hi (.inr hx) he hs (.inl hf)
theorem aB (hN:X.N.Nodup) (hi:X.N[i]?=some x:=by kernel_rfl) (hx:X.env.scope.names.lookup x=some .local:=by kernel_rfl):PG X (.Name x pos) (fZ i):=yC hN hi (.inl hx) (.inr hx)
theorem kT (hN:X.N.Nodup) (hi:X.N[i]?=some x:=by kernel_rfl) (hx:X.env.scope.names.lookup x=some .cell:=by kernel_rfl) (hf:X.fn x=true:=by kernel_rfl):PG X (.Name x pos) (fZ i):=yC hN hi (.inr hx) (.inl hf)
theorem fk {tg a:Expr}{p pos:Pos} (hm:X.mg "range"=none) (ha:PA X [a] ta) (hg:X.env.kindOf "range"=some .globalImplicit:=by kernel_rfl) (hs:noStar a=true:=by kernel_rfl):PI X tg (.Call (.Name "range" p) [a] [] pos) (BC ta) :=
 Ai hg hm ha (aO hs)
theorem ED {elts:List Expr}{k:Nat}{tpos:Pos}{a b:Expr}{p pos:Pos} (hK:X.K=K) (hm:X.mg "zip"=none) (ha:PA X [a,b] ta) (hg:X.env.kindOf "zip"=some .globalImplicit:=by kernel_rfl) (hs:noStar a=true:=by kernel_rfl) (hs2:noStar b=true:=by kernel_rfl) :
  PI X (.Tuple elts k tpos) (.Call (.Name "zip" p) [a,b] [] pos) (Ea K ta):=EE hK hg hm ha (by rw[aO hs,aO hs2];rfl) (aO hs2)
theorem iZ {o e:Expr}{es:List Expr}{to:TE}{t:TA}{name:Str}{apos cpos:Pos}{T id:String}{r:V->List V->Hp->VK->Prop} (hK:X.K=K) (pa:PlainAttrs T) (slot:Slot T name id) (hty:typeOf (.builtin id)=pure (.type "method_descriptor"))
  (hm:MtR X id r) (ho:PE X o to) (ha:PA X (e::es) t)
  (hbase:attributeBase o name X.env (eval o X.env)=eval o X.env:=by kernel_rfl) (hs:cV (e::es)=true:=by kernel_rfl) (hlen:decide ((e::es).length<30)=true:=by kernel_rfl)
  (hline:(apos.endLine==cpos.line)=true:=by kernel_rfl):PE X (.Call (.Attribute o name apos) (e::es) [] cpos) (tBM K T r to t):=by
 refine Ht hK pa slot hty hm ho ha hbase ?_ hline (aO (aR hs).1) (cx (aR hs).2)
 rw[m8 hs]
 show (true&&true&&decide ((e::es).length+0+0<30))=true
 rw[fR,fR];exact hlen
end
end
section
def tx (l:List Nat):Str:=⟨l.toArray⟩
theorem ni (l:List Nat):(tx l).cps.toList=l:=by unfold tx;simp
theorem fq (l:List Nat):(tx l).length=l.length:=by show l.toArray.size=_;simp
theorem tm (x:Str):tx x.cps.toList=x:=by unfold tx;simp
theorem pe (a b:List Nat):tx a++tx b=tx (a++b):=by
 show Str.mk (a.toArray++b.toArray)=Str.mk (a++b).toArray
 simp
theorem xU {a b:List Nat} (h:tx a=tx b):a=b:=by have:=bu (fun x:Str=>x.cps.toList) h;simpa [tx] using this
theorem gr (x:Str):x.length=x.cps.toList.length:=by show x.cps.size=_;simp
def Itx (z:Str):It:=⟨fun i _=>i<z.cps.size,fun i H v H'=>H'=H/\∃ c,z.cps[i]?=some c/\v=.str ⟨#[c]⟩,fun i _=>z.cps.size<=i⟩
theorem vY {tg:Expr} (n:String) (hn:n="str_ascii_iterator"∨n="str_iterator") (z:Str) (t:Tok) (it:Addr):Turn P w K tg (Itx z) [it] it (fun i h=>h.IsStrIter it n z t i) where
 mem:=by simp
 obj:=fun i h st b hb=>by
  have e:b=it:=by simpa using hb
  subst e
  obtain⟨o,e,c,d⟩:=st
  exact⟨o,e,fun v z=>by rw[d] at z;cases z⟩
 keep:=fun i h h' st k=>by
  obtain⟨o,e,c,d⟩:=st
  exact⟨o,k it (by simp) o e,c,d⟩
 item:=by
  intro X hP hw hK hc i pins s σ H E I hf st hg
  subst hP hw hK
  have hg':i<z.cps.size:=hg
  have hx:z.cps[i]?=some z.cps[i]:=Array.getElem?_eq_getElem hg'
  obtain⟨f0,f1,f2,f3,f4,f5⟩:=hf it (by simp)
  have go:∀ h',h'.IsStrIter it n z t (i+1)->Heap.SameBut it s.heap h'->∃ u,some (Value.str ⟨#[z.cps[i]]⟩ s.toks)=some u ∧
    wpAny (model X.prog X.w) X.A (letOwnedTupleGo tg (.ref it) u) (fun _ s2=>∃ x H',Inv X pins σ H' s2/\RelV x u/\(Itx z).yld i H x H'/\s2.heap.IsStrIter it n z t (i+1)/\∀ b∈[it],H' b=none) E { s with heap:=h',toks:=s.toks+1 }:=fun h' st' sb=>by
   have I1:Inv X pins σ H { s with heap:=h',toks:=s.toks+1 }:=I.turned (t':=s.toks+1) (fun b o hb e=>(sb.2 b hb).trans e) f0 f1 f3 f4 f5
   obtain⟨o,e,c,d⟩:=id st'
   exact⟨_,rfl,sG (s:={ s with heap:=h',toks:=s.toks+1 }) e c d (by rcases hn with rfl | rfl<;>decide) ⟨.str ⟨#[z.cps[i]]⟩,H,I1,⟨_,rfl⟩,⟨rfl,_,hx,rfl⟩,st',fun b hb=>(hf b hb).1⟩⟩
  rcases hn with rfl | rfl
  ·exact wpAny_pyNext_ascii_item st hx go
  ·exact wpAny_pyNext_wide_item st hx go
 done:=by
  intro X hP hw hK hc i pins s σ H E I hf st hg
  subst hP hw hK
  have hx:z.cps[i]?=none:=Array.getElem?_eq_none hg
  obtain⟨f0,f1,f2,f3,f4,f5⟩:=hf it (by simp)
  have go:∀ h',Heap.ExtBut it s.heap h'->(none:Option Value)=none/\Inv X pins σ H { s with heap:=h' }:=fun h' eb =>
   ⟨rfl,I.turned (t':=s.toks) (fun b o hb e=>eb b o hb e) f0 f1 f3 f4 f5⟩
  rcases hn with rfl | rfl
  ·exact wpAny_pyNext_ascii_end (I.ok.hd hc) st hx go
  ·exact wpAny_pyNext_wide_end (I.ok.hd hc) st hx go
 self:=fun _ _ _ _ _ st h=>by
  rcases hn with rfl | rfl
  ·exact wpAny_pyIter_striter_ascii st h
  ·exact wpAny_pyIter_striter_wide st h
def yw (K:PySem.W.Frag) (x:V) (H:Hp) (R:It->Hp->Prop):Prop:=match x with
 | .ref a=>((∃ xs,SqL K H a xs)/\R (Itl K a) H)∨((∃ xs,SqT K H a xs)/\R (Itt K a) H)
 | .str z=>R (Itx z) H
 | _=>False
def BD (K:PySem.W.Frag) (te:TE):TI:=fun σ H R=>te σ H fun x H1=>yw K x H1 R
theorem Hy {tg l:Expr} (hl:PE X l tl):PI X tg l (BD X.K tl):=by
 intro pins s σ H R I h
 refine thn (hl pins s σ H _ I h) fun v s1 ⟨x,H1,I1,r1,q1⟩=>?_
 cases x with
 | ref a =>
  cases r1
  rcases q1 with ⟨⟨xs,hq⟩,q⟩ | ⟨⟨xs,hq⟩,q⟩
  ·obtain⟨its,rv,p,hz⟩:=I1.list hq
   refine wpAny_pyIter_list p.isList ?_
   refine⟨s1.heap.objs.size,[s1.heap.objs.size],_,_,H1,rfl,I1.kept (t':=s1.toks) fun b o e=>aH _ e,Au a _,⟨_,aZ _ rfl,rfl,rfl⟩,fun b hb=>?_,q⟩
   have e:b=s1.heap.objs.size:=by simpa using hb
   subst e
   exact I1.qI (ai _) (I1.hok.fresh (ai _))
  ·obtain⟨its,rv,p,hz⟩:=I1.tuple hq
   refine wpAny_pyIter_tuple (show s1.heap.IsTuple a its.toArray from p) ?_
   refine⟨s1.heap.objs.size,[s1.heap.objs.size],_,_,H1,rfl,I1.kept (t':=s1.toks) fun b o e=>aH _ e,xT a _,⟨_,aZ _ rfl,rfl,rfl⟩,fun b hb=>?_,q⟩
   have e:b=s1.heap.objs.size:=by simpa using hb
   subst e
   exact I1.qI (ai _) (I1.hok.fresh (ai _))
 | str z =>
  obtain⟨t,rfl⟩:=r1
  cases ha:z.cps.all (·<128) with
  | true =>
   refine wpAny_pyIter_ascii ha ?_
   refine⟨s1.heap.objs.size,[s1.heap.objs.size],_,_,H1,rfl,I1.kept (t':=s1.toks) fun b o e=>aH _ e,vY "str_ascii_iterator" (.inl rfl) z t _,⟨_,aZ _ rfl,rfl,rfl⟩,fun b hb=>?_,q1⟩
   have e:b=s1.heap.objs.size:=by simpa using hb
   subst e
   exact I1.qI (ai _) (I1.hok.fresh (ai _))
  | false =>
   refine wpAny_pyIter_wide ha ?_
   refine⟨s1.heap.objs.size,[s1.heap.objs.size],_,_,H1,rfl,I1.kept (t':=s1.toks) fun b o e=>aH _ e,vY "str_iterator" (.inr rfl) z t _,⟨_,aZ _ rfl,rfl,rfl⟩,fun b hb=>?_,q1⟩
   have e:b=s1.heap.objs.size:=by simpa using hb
   subst e
   exact I1.qI (ai _) (I1.hok.fresh (ai _))
 | _=>exact False.elim q1
theorem cP {tg l:Expr} (hK:X.K=K) (hl:PE X l tl):PI X tg l (BD K tl):=hK ▸ Hy hl
theorem Dz {σ:St}{H:Hp}{K:PySem.W.Frag}{tl:TE}{R:It->Hp->Prop}:BD K tl σ H R=tl σ H fun x H1=>yw K x H1 R:=propext Iff.rfl
def sgs (z:Str):List V:=z.cps.toList.map fun c=>V.str ⟨#[c]⟩
theorem ES (z:Str):(Itx z).Seq H1 (sgs z):=fun H s=>by
 refine⟨fun i x e=>?_,fun i hi=>?_⟩
 ·unfold sgs at e
  rw[List.getElem?_map,rR] at e
  cases hc:z.cps[i]? with
  | none=>rw[hc] at e;cases e
  | some c =>
   rw[hc] at e
   have e':V.str ⟨#[c]⟩=x:=Option.some.inj e
   have hi:i<z.cps.size:=by
    rcases Nat.lt_or_ge i z.cps.size with h | h
    ·exact h
    ·rw[Array.getElem?_eq_none h] at hc;cases hc
   exact⟨hi,fun y H' ⟨e1,d,e2,e3⟩=>⟨e1,by rw[hc] at e2;cases e2;rw[e3,e']⟩⟩
 ·show z.cps.size<=i
  unfold sgs at hi
  simpa using hi
def Cv (K:PySem.W.Frag) (neg:Bool):R2:=fun x y H Q=>match y with
 | .str j=>match x with
  | .str i=>Q (.bl (neg != !(Builtin.Str.occurrences j i 0 j.length 1).isEmpty)) H
  | _=>False
 | .ref p=>(∃ xs,Sq K H p xs/\dh x=true/\xs.all dh=true/\Q (.bl (neg != inV x xs)) H)∨∃ o:Option V,jU H p x o/\Q (.bl (neg != o.isSome)) H
 | _=>False
theorem Hi (hu:X.A.units+1<cLine):OpR X (compareOp .In) (Cv X.K false):=by
 intro pins s σ H x y v u Q I rx ry h
 cases y with
 | str j=>cases x with
  | str i =>
   refine zY pins s σ H _ _ v u Q I rx ry ⟨i,j,rfl,rfl,?_⟩
   have h':Q (.bl (false != !(Builtin.Str.occurrences j i 0 j.length 1).isEmpty)) H:=h
   rwa [Bool.false_bne] at h'
  | _=>exact False.elim h
 | ref p =>
  rcases h with ⟨xs,hs,fx,fxs,q⟩ | ⟨o,hg,q⟩
  ·rw[Bool.false_bne] at q
   exact zX pins s σ H _ _ v u Q I rx ry ⟨p,xs,rfl,hs,fx,fxs,q⟩
  ·rw[Bool.false_bne] at q
   cases ry
   exact Ju hu I hg rx fun s' I'=>⟨.bl _,H,I',rfl,q⟩
 | _=>exact False.elim h
theorem Ae (hu:X.A.units+1<cLine):OpR X (compareOp .NotIn) (Cv X.K true):=by
 intro pins s σ H x y v u Q I rx ry h
 cases y with
 | str j=>cases x with
  | str i =>
   refine uv pins s σ H _ _ v u Q I rx ry ⟨i,j,rfl,rfl,?_⟩
   have h':Q (.bl (true != !(Builtin.Str.occurrences j i 0 j.length 1).isEmpty)) H:=h
   rwa [Bool.true_bne] at h'
  | _=>exact False.elim h
 | ref p =>
  rcases h with ⟨xs,hs,fx,fxs,q⟩ | ⟨o,hg,q⟩
  ·rw[Bool.true_bne] at q
   exact uu pins s σ H _ _ v u Q I rx ry ⟨p,xs,rfl,hs,fx,fxs,q⟩
  ·rw[Bool.true_bne] at q
   cases ry
   exact DI hu I hg rx fun s' I'=>⟨.bl _,H,I',rfl,q⟩
 | _=>exact False.elim h
theorem oS (hK:X.K=K) (hu:X.A.units+1<cLine):OpR X (compareOp .In) (Cv K false):=hK ▸ Hi hu
theorem zZ (hK:X.K=K) (hu:X.A.units+1<cLine):OpR X (compareOp .NotIn) (Cv K true):=hK ▸ Ae hu
theorem BE (x:Str) (c:Nat):(!(Builtin.Str.occurrences x ⟨#[c]⟩ 0 x.length 1).isEmpty)=decide (c∈x.cps.toList):=StrLaws.found_one x c
theorem EY {ys:List Str}:∀ {us:List Value},Vals (ys.map V.str) us->StrsAre us ys:=by
 induction ys with
 | nil=>intro us r;cases r;exact .nil
 | cons y r ih =>
  intro us h
  cases h with
  | cons h1 h2 =>
   obtain⟨t,rfl⟩:=h1
   exact .cons _ _ (ih h2)
def xG (K:PySem.W.Frag):V->List V->Hp->VK->Prop:=fun x vs H Q=>match x,vs with
 | .str z,[.ref p]=>∃ ys:List Str,SqL K H p (ys.map V.str)/\(ys.map (·.length)).sum+ys.length*z.length<=16777216/\Q (.str (Txt.join z ys)) H
 | _,_=>False
theorem BW :MtM X "str.join" (xG X.K):=by
 intro pins s σ H x vs v us Q I rx rv h
 match x,vs,h with
 | .str z,[.ref p],h =>
  obtain⟨ys,hs,hl,q⟩:=h
  obtain⟨t,rfl⟩:=rx
  obtain⟨u,rfl,ru⟩:=rv.one
  cases ru
  obtain⟨its,rv2,pl,hz⟩:=I.list hs
  exact join_list pl.isList (by simpa using EY rv2) hl fun t' k=>⟨.str _,H,I.tok _,⟨_,rfl⟩,q⟩
theorem BV (hK:X.K=K):MtM X "str.join" (xG K):=hK ▸ BW
theorem qJ (ls:List (List Nat)):Txt.join (tx []) (ls.map tx)=tx ls.flatten:=by
 have go:∀ (r:List (List Nat)) (acc:List Nat),(r.map tx).foldl (fun acc p=>acc++(tx []).cps++p.cps) acc.toArray=(acc++r.flatten).toArray:=by
  intro r
  induction r with
  | nil=>intro acc;simp
  | cons a r ih =>
   intro acc
   rw[bz,List.foldl_cons]
   have e:acc.toArray++(tx []).cps++(tx a).cps=(acc++a).toArray:=by simp [tx]
   rw[e,ih]
   simp
 unfold Txt.join Builtin.Str.glued
 cases ls with
 | nil=>rfl
 | cons a r =>
  have:=go r a
  show Str.mk ((r.map tx).foldl (fun acc p=>acc++(tx []).cps++p.cps) a.toArray)=tx (a::r).flatten
  rw[this]
  rfl
theorem xb (l:List Nat):Txt.join (tx []) (l.map fun c=>tx [c])=tx l:=by
 have:=qJ (l.map fun c=>[c])
 rw[List.map_map] at this
 rw[show (l.map fun c=>tx [c])=l.map (tx ∘ fun c=>[c]) from rfl,this]
 congr 1
 induction l with
 | nil=>rfl
 | cons a r ih=>rw[bz,lG,ih (by
   have:=qJ (r.map fun c=>[c])
   rw[List.map_map] at this;exact this)];rfl
section
variable {α β:Type}
noncomputable def pull {γ:Type} (e:α->V) (f:α->γ) (d:γ) (v:V):γ:=open Classical in if h:∃ a,e a=v then f (Classical.choose h) else d
theorem iP {γ:Type}{e:α->V} (inj:∀ a b,e a=e b->a=b) (f:α->γ) (d:γ) (a:α):pull e f d (e a)=f a:=by
 unfold pull
 have h:∃ b,e b=e a:=⟨a,rfl⟩
 rw[dif_pos h,inj _ _ (Classical.choose_spec h)]
theorem ka:∀ a b:Int,V.int a=V.int b->a=b:=fun _ _ h=>by cases h;rfl
theorem BF:∀ a b:Nat,V.str ⟨#[a]⟩=V.str ⟨#[b]⟩->a=b:=fun _ _ h=>by cases h;rfl
theorem Ei {xs:List α}{js:List Nat}{σ:St}{tc:TT}{te:TE}{Q:VK} (e:α->V) (inj:∀ a b,e a=e b->a=b) (hJ:J.Seq H1 (xs.map e)) (hl:xs.length<sizeLine) (p:α->Bool) (f:α->V)
  (hc:∀ x∈xs,∀ H,aq H1 H->∀ R:Bool->Hp->Prop,(∀ H',aq H H'->R (p x) H')->tc (some (e x)::js.map fun j=>(σ[j]?).join) H R)
  (he:∀ x∈xs,p x=true->∀ H,aq H1 H->∀ R:VK,(∀ H',aq H H'->R (f x) H')->te (some (e x)::js.map fun j=>(σ[j]?).join) H R)
  (q:∀ D H,H1 D=none->aq H1 H->H D=some (.lst ((xs.filter p).map f))->Q (.ref D) H):eZ (fZ 0) tc te (fY 1 js σ) J H1 Q:=by
 refine xi hJ (by rw[List.length_map];exact hl) (pull e p false) (pull e f .non) ?_ ?_ ?_
 ·intro v hv H s R hR
  obtain⟨x,hx,rfl⟩:=aC.mp hv
  rw[iP inj] at hR
  exact hc x hx H s R hR
 ·intro v hv hp H s R hR
  obtain⟨x,hx,rfl⟩:=aC.mp hv
  rw[iP inj] at hR hp
  exact he x hx hp H s R hR
 ·intro D H h1 h2 h3
  refine q D H h1 h2 ?_
  rw[h3,jH,List.map_map]
  congr 2
  have e1:pull e f .non ∘ e=f:=funext fun a=>iP inj f .non a
  have e2:pull e p false ∘ e=p:=funext fun a=>iP inj p false a
  rw[e1,e2]
theorem xh {xs:List α}{js:List Nat}{σ:St}{te:TE}{Q:VK} (e:α->V) (inj:∀ a b,e a=e b->a=b) (hJ:J.Seq H1 (xs.map e)) (hl:xs.length<sizeLine) (f:α->V)
  (he:∀ x∈xs,∀ H,aq H1 H->∀ R:VK,(∀ H',aq H H'->R (f x) H')->te (some (e x)::js.map fun j=>(σ[j]?).join) H R)
  (q:∀ D H,H1 D=none->aq H1 H->H D=some (.lst (xs.map f))->Q (.ref D) H):eZ (fZ 0) Ar te (fY 1 js σ) J H1 Q :=
 Ei e inj hJ hl (fun _=>true) f (fun x _ H _ R hR=>hR H (aq.refl H)) (fun x hx _ H s R hR=>he x hx H s R hR) fun D H h1 h2 h3=>q D H h1 h2 (by rw[List.filter_eq_self.mpr (fun _ _=>rfl)] at h3;exact h3)
theorem Jx {K:PySem.W.Frag}{a b:Addr}{H1:Hp}{xs:List α}{ys:List β}{js:List Nat}{σ:St}{te:TE}{Q:VK} (e:α->V) (e':β->V) (inj:∀ a b,e a=e b->a=b) (inj':∀ a b,e' a=e' b->a=b)
  (hx:SqL K H1 a (xs.map e)) (hy:SqL K H1 b (ys.map e')) (hl:xs.length<sizeLine) (f:α->β->V)
  (he:∀ x y,(x,y)∈xs.zip ys->∀ H,aq H1 H->∀ R:VK,(∀ H',aq H H'->R (f x y) H')->te (some (e x)::some (e' y)::js.map fun j=>(σ[j]?).join) H R)
  (q:∀ D H,H1 D=none->aq H1 H->H D=some (.lst ((xs.zip ys).map fun p=>f p.1 p.2))->Q (.ref D) H):eZ (DX K 2 (sE (fZ 0) (sE (fZ 1) DW))) Ar te (fY 2 js σ) (Itz K a b) H1 Q:=by
 refine GV hx hy (by rw[List.length_map];exact hl) (fun v u=>pull e (fun x=>pull e' (f x) .non u) .non v) ?_ ?_
 ·intro v u hvu H s R hR
  rw[List.zip_map,aC] at hvu
  obtain⟨⟨x,y⟩,hxy,e2⟩:=hvu
  cases e2
  have e3:pull e (fun x=>pull e' (f x) .non (e' y)) .non (e x)=f x y:=by rw[iP inj,iP inj']
  exact he x y hxy H s R (fun H' s'=>by have:=hR H' s';rwa [e3] at this)
 ·intro D H h1 h2 h3
  refine q D H h1 h2 ?_
  rw[h3,List.zip_map,List.map_map]
  congr 2
  refine jL fun ⟨x,y⟩ _=>?_
  show pull e (fun x=>pull e' (f x) .non (e' y)) .non (e x)=f x y
  rw[iP inj,iP inj']
end
theorem CN (z:Str):(Itx z).Seq H1 (z.cps.toList.map fun c=>V.str ⟨#[c]⟩):=ES z
theorem qk {x:V}{t:Tg} (ht:cz H x=some t) (hs:∀ z,x≠.str z):t≠.str:=fun e=>by
 subst e
 cases x with
 | str z=>exact hs z rfl
 | ref a =>
  have h':i8 (H a)=some .str:=ht
  cases e:H a with
  | none=>rw[e] at h';cases h'
  | some o=>rw[e] at h';cases o with
   | frz ob u=>cases u<;>cases h'
   | _=>cases h'
 | _=>cases ht
theorem gY {t u:TS} (R:St->Hp->Prop) (h2:∀ σ' H',R σ' H'->u D σ' H') (h1:∀ U:St->Hp->Prop,(∀ σ' H',R σ' H'->U σ' H')->t { D with nx:=U } σ H):Fc t u D σ H:=h1 _ h2
theorem eQ {l:List α}{i:Int}{v:α} (h0:0<=i) (h1:l[i.toNat]?=some v):atI l i=some v:=by
 have:=bt h1
 rwa [Int.toNat_of_nonneg h0] at this
theorem lV:(Str.ofString "abcdefghijklmnopqrstuvwxyz").cps.toList=List.range' 97 26:=by decide +kernel
theorem Bf:Str.ofString ""=tx []:=by decide +kernel
theorem GL {D:Addr}{l:List Nat} (h:H D=some (.lst (l.map fun c=>V.str (tx [c])))):SqL K H D ((l.map fun c=>tx [c]).map V.str):=.of (by rw[h,List.map_map];rfl)
theorem GK {l:List Nat} (hl:l.length<=100000):((l.map fun c=>tx [c]).map (·.length)).sum+(l.map fun c=>tx [c]).length*(Str.ofString "").length<=16777216:=by
 have e2:(Str.ofString "").length=0:=by decide +kernel
 rw[e2,Nat.mul_zero,Nat.add_zero,List.map_map]
 have e:∀ l:List Nat,(l.map ((fun x:Str=>x.length) ∘ fun x=>tx [x])).sum=l.length:=by
  intro l
  induction l with
  | nil=>rfl
  | cons a r ih=>rw[bz,List.sum_cons,ih,br];show (tx [a]).length+_=_;rw[fq];simp;omega
 rw[e]
 omega
theorem Ed (l:List Nat):Txt.join (Str.ofString "") (l.map fun c=>tx [c])=tx l:=by rw[Bf,xb]
end
section
def DK (h h':Heap):Prop:=∀ b o,h.get? b=some o->∃ o',h'.get? b=some o'/\o'.cls=o.cls/\o'.dict=o.dict/\(∀ vs,o.data=.fields vs->∃ vs',o'.data=.fields vs'/\vs'[2]?=vs[2]?)
theorem DK.refl (h:Heap):DK h h:=fun b o e=>⟨o,e,rfl,rfl,fun vs q=>⟨vs,q,rfl⟩⟩
theorem DK.trans {h1 h2 h3:Heap} (x:DK h1 h2) (y:DK h2 h3):DK h1 h3:=fun b o e=>by
 obtain⟨o1,e1,c1,d1,f1⟩:=x b o e
 obtain⟨o2,e2,c2,d2,f2⟩:=y b o1 e1
 exact⟨o2,e2,c2.trans c1,d2.trans d1,fun vs q=>by obtain⟨v1,q1,g1⟩:=f1 vs q;obtain⟨v2,q2,g2⟩:=f2 v1 q1;exact⟨v2,q2,g2.trans g1⟩⟩
theorem DK.push (h:Heap) (o:Obj):DK h (h.push o):=fun b u e=>⟨u,aH _ e,rfl,rfl,fun vs q=>⟨vs,q,rfl⟩⟩
structure KD {α:Type} (m:Sem α):Prop where
 out:∀ (M:Model) (Γ:PySem.Ctx) (P:α->Pos->Shared->Prop) (Ee:Value->Pos->Shared->Prop) (p:Pos) (s:Shared),Sem.wp M Γ m P Ee p s →
  Sem.wp M Γ m (fun a p' s'=>P a p' s'/\DK s.heap s'.heap) (fun e p' s'=>Ee e p' s'/\DK s.heap s'.heap) p s
namespace KD
variable {α β:Type}
theorem pure (a:α):KD (Pure.pure a:Sem α):=⟨fun _ _ _ _ _ s h=>⟨h,DK.refl _⟩⟩
theorem unsupported (w:String):KD (PySem.unsupported w:Sem α):=⟨fun _ _ _ _ _ _ h=>h⟩
theorem bind {m:Sem α}{f:α->Sem β} (hm:KD m) (hf:∀ a,KD (f a)):KD (m >>= f):=⟨fun M Γ P Ee p s h=>by
 rw[Sem.wp_bind'] at h ⊢
 refine Sem.wp_mono M Γ m (fun a p' s' h'=>?_) (fun _ _ _ x=>x) p s (hm.out M Γ _ _ p s h)
 refine Sem.wp_mono M Γ (f a) (fun b p2 s2 h2=>⟨h2.1,h'.2.trans h2.2⟩) (fun e p2 s2 h2=>⟨h2.1,h'.2.trans h2.2⟩) p' s' ((hf a).out M Γ P Ee p' s' h'.1)⟩
theorem ite {c:Prop} [Decidable c] {t u:Sem α} (ht:KD t) (hu:KD u):KD (if c then t else u):=by split<;>assumption
theorem load (a:Addr):KD (PySem.load a):=⟨fun _ _ _ _ _ s h=>by obtain⟨o,e,q⟩:=h;exact⟨o,e,q,DK.refl _⟩⟩
theorem stack:KD PySem.stack:=⟨fun M Γ P Ee p s h=>by
 unfold PySem.stack at h ⊢
 rw[Sem.wp_stack] at h ⊢
 exact⟨h,DK.refl _⟩⟩
theorem alloc (o:Obj):KD (PySem.alloc o):=⟨fun _ _ _ _ _ s h=>⟨h,DK.push _ _⟩⟩
theorem field (v:Value) (i:Nat):KD (PySem.field v i):=⟨fun _ Γ P Ee p s h=>by
 rw[wp_field_iff] at h ⊢
 obtain⟨a,o,vs,x,e1,e2,e3,e4,q⟩:=h
 exact⟨a,o,vs,x,e1,e2,e3,e4,q,DK.refl _⟩⟩
theorem update {a:Addr}{f:Obj->Obj} (hf:∀ o,(f o).cls=o.cls/\(f o).dict=o.dict/\(f o).isFreed=o.isFreed/\∀ vs,o.data=.fields vs->∃ vs',(f o).data=.fields vs'/\vs'[2]?=vs[2]?):KD (PySem.update a f):=⟨fun _ _ _ _ _ s h=>by
 refine⟨h.1,h.2,fun b o e=>?_⟩
 by_cases hb:b=a
 ·subst hb
  obtain⟨h1,h2,h3,h4⟩:=hf o
  have hfr:o.isFreed=false:=(Heap.get?_some_iff.mp e).2
  exact⟨f o,lE _ e (by rw[h3];exact hfr),h1,h2,h4⟩
 ·exact⟨o,(jC _ _ (Ne.symm hb)).trans e,rfl,rfl,fun vs q=>⟨vs,q,rfl⟩⟩⟩
theorem setField (v:Value) (i:Nat) (x:Value) (hi:i≠2):KD (PySem.setField v i x):=⟨fun _ Γ P Ee p s h=>by
 rw[wp_setField_iff] at h ⊢
 obtain⟨a,o,vs,e1,e2,e3,e4,q⟩:=h
 refine⟨a,o,vs,e1,e2,e3,e4,q,fun b u e=>?_⟩
 by_cases hb:b=a
 ·subst hb
  rw[e2] at e
  cases e
  have hd:=Obj.data_mapFields e3 (·.setIfInBounds i x)
  exact⟨_,lE _ e2 (Obj.isFreed_of_fields hd),Obj.cls_mapFields ..,by cases o with | mk c d dt sl=>cases dt<;>first | rfl,fun vs' q=>⟨_,hd,by rw[e3] at q;cases q;exact Array.getElem?_setIfInBounds_ne hi⟩⟩
 ·exact⟨u,(jC _ _ (Ne.symm hb)).trans e,rfl,rfl,fun vs q=>⟨vs,q,rfl⟩⟩⟩
theorem slots {a:Addr}{g:Obj->Array (Option Value)}:KD (PySem.update a fun o=>{ o with slots:=g o }):=update fun o=>⟨rfl,rfl,by cases o with | mk c d dt sl=>cases dt<;>rfl,fun vs q=>⟨vs,q,rfl⟩⟩
end KD
theorem zO (env:Env) (outer:List Env):KD (behindIsImport env outer):=by
 unfold behindIsImport
 repeat' with_reducible first | exact KD.pure _ | exact KD.field _ _ | apply KD.ite | apply KD.bind | intro _
theorem zP:KD underTheClaimsCaller:=by
 unfold underTheClaimsCaller
 repeat' with_reducible first | exact KD.pure _ | exact KD.stack | exact KD.unsupported _ | exact KD.field _ _ | apply KD.ite | apply KD.bind | intro _ | split
theorem Ef (env:Env) (i:Bool) (l:List Env):KD (keptBack env i l):=by
 have:=zP
 cases l<;>unfold keptBack<;>repeat' with_reducible first | assumption | exact KD.pure _ | apply KD.ite | apply KD.bind | intro _
theorem vi:∀ l:List Env,KD (readyFrames l)
 | []=>KD.pure _
 | env::outer=>by
  have ih:=vi outer
  have h1:=zO env outer
  have h2:=fun i=>Ef env i outer
  unfold readyFrames
  split
  ·refine KD.bind (KD.load _) fun o=>KD.ite (KD.pure _) (KD.bind h1 fun b=>KD.bind (h2 b) fun v=>KD.bind KD.slots fun _=>ih)
  ·exact KD.unsupported _
theorem qK (l:List Env):KD (frameObject l):=by
 cases l with
 | nil=>exact KD.pure _
 | cons a r=>unfold frameObject;exact KD.bind (vi _) fun _=>KD.pure _
theorem xc (env:Env):KD (PySem.frameOf env):=by
 unfold PySem.frameOf frameEnvs
 refine KD.bind (KD.bind KD.stack fun _=>KD.pure _) fun l=>KD.bind (qK _) fun o=>?_
 cases o with
 | none=>exact KD.unsupported _
 | some v=>exact KD.pure _
theorem BJ (f:Addr) (b:Bool):KD (entryPlaceOf f b):=by
 unfold entryPlaceOf
 repeat' with_reducible first | exact KD.pure _ | exact KD.stack | exact KD.unsupported _ | apply KD.ite | apply KD.bind | intro _ | split
theorem BI (a b c d e:Value) (l:List Value):KD (EntryCells.newEntry a b c d e l):=by
 unfold EntryCells.newEntry newFields newObj newObjAsIs
 repeat' first | exact KD.pure _ | exact KD.alloc _ | exact KD.unsupported _ | apply KD.ite | apply KD.bind | intro _ | split
theorem ua (e:Value) (env:Env):KD (noteFrame e env):=by
 unfold noteFrame
 have h1:=xc env
 have h2:=BJ
 have h3:=BI
 split
 ·repeat' with_reducible first | exact KD.pure _ | exact KD.field _ _ | exact KD.setField _ _ _ (by decide) | exact h1 | exact h2 _ _ | exact h3 _ _ _ _ _ _ | apply KD.ite | apply KD.bind | intro _
 ·exact KD.unsupported _
theorem jx (e:Value) (o:Option Addr):KD (setFlight e o):=by
 unfold setFlight
 repeat' with_reducible first | exact KD.pure _ | exact KD.field _ _ | exact KD.setField _ _ _ (by decide) | apply KD.ite | apply KD.bind | intro _
theorem qL (env:Env) (e:Value):KD (leaving env e):=by
 unfold leaving
 exact KD.bind (ua _ _) fun _=>jx _ _
theorem KD.any {t:Sem α}{Q:α->Shared->Prop} (k:KD t) (h:wpAny M A t Q E s) :
  wpAny M A t (fun a s'=>Q a s'/\DK s.heap s'.heap) (fun e s'=>E e s'/\DK s.heap s'.heap) s:=fun Γ p hΓ=>k.out M Γ _ _ p s (h Γ p hΓ)
theorem xp (x:bH P w H h a o):∃ u,h.get? a=some u:=by
 cases o with
 | lst xs=>obtain⟨_,_,_,_,e⟩:=x;exact⟨_,e⟩
 | tup xs=>obtain⟨_,_,_,ob,e,_⟩:=x;exact⟨_,e⟩
 | dK kvs=>obtain⟨_,_,_,_,ob,_,_,e,_⟩:=x;exact⟨_,e⟩
 | dT kvs=>obtain⟨_,_,_,_,ob,_,_,e,_⟩:=x;exact⟨_,e⟩
 | set S n=>obtain⟨ob,_,_,_,e,_⟩:=x;exact⟨_,e⟩
 | ins C dx fs=>obtain⟨_,_,_,e,_⟩:=x;exact⟨_,e⟩
 | own y=>exact x
 | xd fs=>obtain⟨_,⟨od,_,_,e,_⟩,_⟩:=x;exact⟨_,e⟩
 | rng lo hi=>obtain⟨_,_,_,e⟩:=x;exact⟨_,e⟩
 | frz ob u=>exact⟨_,x.1⟩
 | tbl ps=>obtain⟨_,e,_⟩:=x;exact⟨_,e⟩
 | met f y=>exact⟨_,x⟩
 | ext φ=>exact x.2.1
def XD (o:Obj) (d:Option Addr):Prop:=o.dict=d/\∃ vs,o.data=.fields vs/\vs[2]?=some .none
theorem XD.dk {o o':Obj} (x:XD o d) (h:o'.dict=o.dict) (f:∀ vs,o.data=.fields vs->∃ vs',o'.data=.fields vs'/\vs'[2]?=vs[2]?):XD o' d:=by
 obtain⟨x1,vs,x2,x3⟩:=x
 obtain⟨vs',y1,y2⟩:=f vs x2
 exact⟨h.trans x1,vs',y1,y2.trans x3⟩
def CX1 (P:Program) (w:World):CXT:=fun outer H s E e s'=>∃ (ea C t:Addr) (B:Heap) (H':Hp) (d:Option Addr),e=.ref ea/\s'.os=s.os/\AllBare s'.gens/\Un (frs outer) [] H H' s.heap s'.heap/\HOk P w H' s'.heap ∧
 Heap.FlyingW B outer ea (.ref C) (.ref t) s'.heap/\(∃ oe,s'.heap.get? ea=some oe/\XD oe d)/\(∀ dx,d=some dx->∃ fs,H' dx=some (.xd fs)) ∧
 (∀ b o,s'.heap.get? b=some o->b∉frs outer->(H' b≠none∨∃ u,s.heap.get? b=some u)->B.get? b=some o)/\E (.ref C) d H'
section
variable {X:Cx}{pins:List (Addr×Obj)}{σ:St}{H:Hp}{s:Shared}
theorem uR {B h':Heap} (I:Inv X pins σ H s) (hst:X.stack=X.env::X.outer) (hf:X.env.frame=some X.env.locals) (hex:X.ex=[]) (hB:B.StaysIn h') (hsm:s.heap.UpToSlots h')
  (hk:∀ b o,s.heap.get? b=some o->b∉frs X.stack->(H b≠none∨∃ u,X.s₀.heap.get? b=some u)->B.get? b=some o) :
  Un (frs X.outer) [] X.H₀ H X.s₀.heap h'/\HOk X.prog X.w H h'/\∀ b o,h'.get? b=some o->b∉frs X.outer->(H b≠none∨∃ u,X.s₀.heap.get? b=some u)->B.get? b=some o:=by
 have hfs:frs X.stack=X.env.locals::frs X.outer:=by rw[hst];unfold frs;rw[List.filterMap_cons,hf]
 have old:∀ b u,X.s₀.heap.get? b=some u->b≠X.env.locals:=fun b u e z=>absurd (bB (aF e) (by rw[z];exact I.ok.above)) (gJ _)
 have nstk:∀ b,b≠X.env.locals->b∉frs X.outer->b∉frs X.stack:=fun b h1 h2 z=>by rw[hfs] at z;rcases aD.mp z with z | z;exact h1 z;exact h2 z
 have trk:∀ b,H b≠none->b∉frs X.stack:=fun b h1 z=>h1 (I.nT b z)
 have nx:∀ b:Addr,b∉X.ex:=fun b=>by rw[hex];simp
 have fr:∀ b,b∈frs X.outer->∃ o,s.heap.get? b=some o/\∀ vs,o.data≠.fields vs:=fun b hb=>(I.stack.mem (show b∈frs X.stack by rw[hfs];exact List.mem_cons_of_mem _ hb)).2
 have tkeep:∀ b o,H b≠none->s.heap.get? b=some o->h'.get? b=some o:=fun b o h1 e=>hB b o (hk b o e (trk b h1) (.inl h1))
 have okeep:∀ b o u,X.s₀.heap.get? b=some u->b∉frs X.outer->s.heap.get? b=some o->h'.get? b=some o:=fun b o u e0 h2 e=>hB b o (hk b o e (nstk b (old b u e0) h2) (.inr ⟨u,e0⟩))
 refine⟨⟨fun b o e n hb _=>?_,fun b o e n hb _=>?_,fun b o e n _=>I.base.free b o e n (nx b),fun b o e _=>?_,I.base.tups,I.base.frzs,I.base.tbls⟩,fun a o e=>?_,fun b o e hb hc=>?_⟩
 ·exact okeep b o o e hb (I.base.keep b o e n hb (nx b))
 ·obtain⟨sl,e1⟩:=I.base.slot b o e n hb (nx b)
  obtain⟨o1,e2,hd⟩:=fr b hb
  rw[e1] at e2
  cases e2
  obtain⟨sl',e3⟩:=hsm b _ e1 hd
  exact⟨sl',e3⟩
 ·obtain⟨o1,e1⟩:=I.base.there b o e (nx b)
  by_cases hb:b∈frs X.outer
  ·obtain⟨o2,e2,hd⟩:=fr b hb
   obtain⟨sl',e3⟩:=hsm b _ e2 hd
   exact⟨_,e3⟩
  ·exact⟨o1,okeep b o1 o e hb e1⟩
 ·refine (I.hok a o e).nh (fun c v hc q=>tkeep c v ?_ q) (fun _ q=>q) fun _ _ q=>q
  rcases hc with z | z
  ·rw[z,e];simp
  ·rw[z];simp
 ·rcases hc with h1 | ⟨u,e0⟩
  ·cases q:H b with
   | none=>exact absurd q h1
   | some ob =>
    obtain⟨o1,e1⟩:=xp (I.hok b ob q)
    have:=tkeep b o1 h1 e1
    rw[e] at this
    cases this
    exact hk b o e1 (trk b h1) (.inl h1)
  ·obtain⟨o1,e1⟩:=I.base.there b u e0 (nx b)
   have:=okeep b o1 u e0 hb e1
   rw[e] at this
   cases this
   exact hk b o e1 (nstk b (old b u e0) hb) (.inr ⟨u,e0⟩)
def A6 (X:Cx) (E:St->XK):Prop:=∀ (pins:List (Addr×Obj)) (σ:St) (H:Hp) (s:Shared) (h1:Heap) (e C:Addr) (vs:List Value),Inv X pins σ H s->Heap.MadeExcOf s.heap h1 e (.ref C) vs->E σ (.ref C) none H->X.xe (.ref e) { s with heap:=h1 }
end
section
variable {P:Program}{w:World}{K:PySem.W.Frag}{mg:Str->Option Value}{base:Heap}{N:List Str}{qual:Str}{scope:Scope}{f:Addr}{cd:Value}{A:Around}{outer:List Env}{s:Shared}{H:Hp}{E:XK}
theorem au:Passes (CX1 P w) (mm (CX1 P w) P w K mg base N qual scope f cd A outer s H E) (fun _=>E):=by
 intro pins σ H1 s1 e s' I h
 obtain⟨ea,C,t,B,H',d,rfl,os,bare,un,hok,fl,⟨oe,hoe,hdo⟩,hdx,hkb,hE⟩:=h
 have I':=I.qw (ch:=[]) os un hok bare (fun b z=>absurd z (by simp))
 show wpAny _ _ _ _ _ _
 refine bg (KD.any (E:=fun _ _=>False) (qL _ _) (wpAny_leaves_onW (Q:=fun _ s''=>∃ h',s''={ s' with heap:=h' }/\Heap.FlyingW B outer ea (.ref C) (.ref t) h'/\s'.heap.UpToSlots h') I.ok.frames rfl fl fun h' x1 x2=>⟨h',rfl,x1,x2⟩)) ?_ (fun _ _ z=>False.elim z.1)
 rintro _ s'' ⟨⟨h',rfl,x1,x2⟩,dk⟩
 obtain⟨u1,u2,u3⟩:=uR (B:=B) (h':=h') I' rfl rfl rfl x1.1 x2 (fun b o e1 e2 e3=>hkb b o e1 e2 (e3.elim .inl fun ⟨u,e0⟩=>.inr (I.base.there b u e0 (by show b∉([]:List Addr);simp))))
 obtain⟨oe',hoe',_,hd',hg'⟩:=dk ea oe hoe
 exact⟨ea,C,t,B,H',d,rfl,I'.os,I'.bare,u1,u2,x1,⟨oe',hoe',hdo.dk hd' hg'⟩,hdx,u3,hE⟩
theorem cG:A6 (mm (CX1 P w) P w K mg base N qual scope f cd A outer s H E) (fun _=>E):=by
 intro pins σ H1 s1 h1 e C vs I hx hE
 show wpAny _ _ _ _ _ _
 have hin:∀ env∈(envOfC qual scope s.heap.objs.size f cd::outer),∀ b,env.frame=some b->b∈frs (envOfC qual scope s.heap.objs.size f cd::outer):=fun env he b hb=>List.mem_filterMap.mpr ⟨env,he,hb⟩
 have st:(PySem.W.hideAll s1.heap (frs (envOfC qual scope s.heap.objs.size f cd::outer))).StaysIn s1.heap:=fun b o q=>PySem.W.of_hideAll _ q
 have ff:s1.heap.FunFrames (PySem.W.hideAll s1.heap (frs (envOfC qual scope s.heap.objs.size f cd::outer))) (envOfC qual scope s.heap.objs.size f cd::outer):=PySem.W.funFrames_hide I.stack hin
 obtain⟨tt,het,_,_⟩:=hx.there
 refine bg (KD.any (E:=fun _ _=>False) (qL _ _) (wpAny_leaves_madeW (s:={ s1 with heap:=h1 }) (Q:=fun _ s''=>∃ h' t,s''={ s1 with heap:=h' }/\Heap.FlyingW (PySem.W.hideAll s1.heap (frs (envOfC qual scope s.heap.objs.size f cd::outer))) outer e (.ref C) (.ref t) h'/\h1.UpToSlots h') I.ok.frames rfl st ff hx fun h' t x1 _ _ x4=>⟨h',t,rfl,x1,x4⟩)) ?_ (fun _ _ z=>False.elim z.1)
 rintro _ s'' ⟨⟨h',t,rfl,x1,x4⟩,dk⟩
 obtain⟨u1,u2,u3⟩:=uR (h':=h') I rfl rfl rfl x1.1 ((Heap.UpToSlots.of_keeps hx.keeps).trans x4) (fun b o e1 e2 _=>PySem.W.hideAll_get _ e1 e2)
 obtain⟨oe',hoe',_,hd',hg'⟩:=dk e _ het
 exact⟨e,C,t,_,H1,none,rfl,I.os,I.bare,u1,u2,x1,⟨oe',hoe',XD.dk ⟨rfl,_,rfl,rfl⟩ hd' hg'⟩,(fun dx z=>by cases z),u3,hE⟩
end
theorem mK :Passes (CX1 P w) X E0:=fun _ _ _ _ _ _ _ h=>by
 obtain⟨_,_,_,_,_,_,_,_,_,_,_,_,_,_,_,z⟩:=h
 exact z.elim
theorem sA {outer:List Env}{e:Value}{s':Shared} (h:CX1 P w outer H s (fun _ _ _=>False) e s'):False:=by
 obtain⟨_,_,_,_,_,_,_,_,_,_,_,_,_,_,_,z⟩:=h
 exact z
section
variable {P:Program}{w:World}{K:PySem.W.Frag}{mg:Str->Option Value}{base:Heap}
theorem Fun.okX {x qual:Str}{st:Stmt}{N ps:List Str}{k:Nat} (F:Fun K x qual st f fd) (S:aM N ps (ak st)) (len:∀ vs H Q E,sp vs H Q E->vs.length=ps.length)
  (hbody:∀ (cdv:Value) (A:Around) (outer:List Env) (s:Shared) (H:Hp) (vs:List V) (Q:VK) (E:XK),bZ k (A.deeper (envOfC qual (ak st) s.heap.objs.size f cdv))->sp vs H Q E →
   ∃ t,PSs (mm (CX1 P w) P w K mg base N qual (ak st) f cdv A outer s H E) (bD st) t/\t { nx:=fun _ H'=>Q .non H',rt:=Q } (start N vs) H):bI P w K mg base (CX1 P w) (k+1) f fd ps sp:=by
 obtain⟨oc,od,kV,doc,pm,an,cdv,ct,osl,rfl,lk,hcd⟩:=F.ex
 exact vc lk hcd S len fun A outer s H vs Q E hr hsp=>hbody cdv A outer s H vs Q E hr hsp
theorem A2.ok {k:Nat} (F:A2 P w K mg base CX k f fd ps sp):bI P w K mg base CX k f fd ps sp :=
 ⟨F.len,fun A outer s H args us vs Q E hr=>F.run A outer s H args us vs Q E hr.n (.inl hr.hd)⟩
end
theorem zH {newId:String} (XK:K.In h) (q:PySem.W.excIn K C bmB newId=true) :
  ∃ bm N nm qn bs hd sn sub ab col dd k0 k1 k2 k3 k5 mN,h.get? C=some (excClassObj nm qn C N bs bm hd sn sub ab col dd k0 k1 k2 k3 k5 newId)/\h.Ns N mN/\mN "__init__"=none/\OwnTail h bmB bm:=by
 unfold PySem.W.excIn at q
 split at q
 next dd cd sl ho =>
  split at q
  next C' bm k0 k1 k2 k3 n k5 hm hs =>
   simp only[cf,fT,Bool.not_eq_true'] at q
   obtain⟨⟨⟨⟨⟨e1,e2⟩,e3⟩,e4⟩,e5⟩,e6⟩:=q
   subst e1 e2
   cases cd with
   | mk nm bs mro ns qn hd sn sub ab col del =>
    simp only at hm e3 e5 e6
    subst hm e3
    have z:sl=#[k0,k1,k2,k3,some (.builtin n),k5]:=by
     cases sl with
     | mk l=>simp only at hs;rw[hs]
    subst z
    exact⟨bm,ns,nm,qn,bs,hd,sn,sub,ab,col,dd,k0,k1,k2,k3,k5,_,XK _ _ ho,.of_isNs (PySem.W.isNs_of_in XK e5),PySem.W.nsMap_none_of_in XK e5 e6,PySem.W.tail_of_in XK e4⟩
  next=>cases q
 next=>cases q
def CL (C:Addr) (E:St->XK) (t:TA):TS:=fun _ σ H=>t σ H fun vs H1=>vs.length<=sizeLine/\E σ (.ref C) none H1
theorem AL {C:Addr}{E:St->XK}{t:TA}{D:Ends}{σ:St}{H:Hp}:CL C E t D σ H=t σ H fun vs H1=>vs.length<=sizeLine/\E σ (.ref C) none H1:=propext Iff.rfl
section
variable {X:Cx}
theorem dq {E:St->XK}{B newId initId:String}{e₀:Expr}{rest:List Expr}{t:TA}{np cpos pos:Pos} (FB:ExcBaseFacts B newId initId bmB) (hq:PySem.W.excIn X.K C bmB newId=true) (hm:X.mg x=some (.ref C))
  (hrx:A6 X E) (hc:X.calm=true) (ha:PA X (e₀::rest) t) (hg:X.env.kindOf x=some .globalImplicit:=by kernel_rfl) (hd:(x==("__debug__":Str))=false:=by kernel_rfl) (hs:cV (e₀::rest)=true:=by kernel_rfl) :
  PS X (.Raise (some (.Call (.Name x np) (e₀::rest) [] cpos)) none pos) (CL C E t):=by
 intro pins s σ H D I h
 obtain⟨bm,N,nm,qn,bs,hdct,sn,sub,ab,col,dd,k0,k1,k2,k3,k5,mN,g1,g2,g3,g4⟩:=zH I.ok.mod.kin hq
 have he:=aO (es:=rest) (env:=X.env) (aR hs).1
 refine wpAny_Raise_call_subT (C:=C) (nm:=nm) (q:=qn) (N:=N) (bs:=bs) (bm:=bm) (hdct:=hdct) (sn:=sn) (sub:=sub) (ab:=ab) (col:=col) (dd:=dd) (k0:=k0) (k1:=k1) (k2:=k2) (k3:=k3) (k5:=k5)
  FB (mN:=mN) (g4.hasType FB.hasBase) (I.ok.hd hc) (cx hs) g3 (lZ I hg hm ⟨rfl,?_⟩ hd)
 have ha':=ha cpos pins s σ H _ I h
 rw[he] at ha' ⊢
 refine Calls.evalArgs_plain (bg ha' (fun vs s2 h2=>?_) fun _ _ y=>y)
 obtain⟨xs,H2,I2,r,z,q⟩:=h2
 exact⟨rfl,by rw[←r.length];exact z,I2.bk _ _ g1,g2.keeps I2.bk,g4.keeps I2.bk,fun h' e hx=>hrx pins σ H2 s2 h' e C vs I2 hx q⟩
end
end
section
def nu (a:Addr) (c:Value) (d:Option Addr):HO:=.ext fun h=>∃ o,h.get? a=some o/\o.cls=c/\XD o d
theorem yp {o:Obj} (e:h.get? a=some o) (h1:o.cls=c) (h2:XD o d):bH P w H h a (nu a c d) :=
 ⟨⟨o,e,h1,h2⟩,⟨o,e⟩,fun _ _ ⟨o,e,q⟩ k=>⟨o,k o e,q⟩⟩
theorem yS {l:List Env}{H1 H':Hp}{h1 h' h5 B:Heap} (u:Un (frs l) [] H1 H' h1 h') (hk:∀ b o,h'.get? b=some o->b∉frs l->(H' b≠none∨∃ u,h1.get? b=some u)->B.get? b=some o) (hB:B.StaysIn h5) (hsm:h'.UpToSlots h5)
  (hfr:∀ b∈frs l,∃ o,h'.get? b=some o/\∀ vs,o.data≠.fields vs):Un (frs l) [] H1 H' h1 h5 where
 keep:=fun b o e n hb hx=>hB b o (hk b o (u.keep b o e n hb hx) hb (.inr ⟨o,e⟩))
 slot:=fun b o e n hb hx=>by
  obtain⟨sl,e1⟩:=u.slot b o e n hb hx
  obtain⟨o1,e2,hd⟩:=hfr b hb
  rw[e1] at e2
  cases e2
  obtain⟨sl',e3⟩:=hsm b _ e1 hd
  exact⟨sl',e3⟩
 free:=u.free
 there:=fun b o e hx=>by
  obtain⟨o1,e1⟩:=u.there b o e hx
  by_cases hb:b∈frs l
  ·obtain⟨o2,e2,hd⟩:=hfr b hb
   obtain⟨sl,e3⟩:=hsm b _ e2 hd
   exact⟨_,e3⟩
  ·exact⟨o1,hB b o1 (hk b o1 e1 hb (.inr ⟨o,e⟩))⟩
 tups:=u.tups
 frzs:=u.frzs
 tbls:=u.tbls
theorem vg {l:List Env}{H':Hp}{h1 h' h5 B:Heap} (hok:HOk P w H' h') (hk:∀ b o,h'.get? b=some o->b∉frs l->(H' b≠none∨∃ u,h1.get? b=some u)->B.get? b=some o) (hB:B.StaysIn h5)
  (hf:∀ b∈frs l,H' b=none):HOk P w H' h5:=fun a o e=>by
 refine (hok a o e).nh (fun c v hc q=>hB c v (hk c v q ?_ (.inl ?_))) (fun _ q=>q) fun _ _ q=>q
 ·intro z
  have:=hf c z
  rcases hc with rfl | hc
  ·rw[e] at this;cases this
  ·rw[hc] at this;cases this
 ·rcases hc with rfl | hc
  ·rw[e];simp
  ·rw[hc];simp
section
variable {X:Cx}{pins:List (Addr×Obj)}{σ:St}{H:Hp}{s:Shared}
theorem Inv.FJ {o:HO} (I:Inv X pins σ H s) (hn:H a=none) (h0:X.s₀.heap.get? a=none) (hL:a≠X.env.locals) (hc:∀ x c,X.env.cells.lookup x=some c->c≠a) (hp:∀ p∈X.pn++pins,p.1≠a)
  (ho:bH X.prog X.w (upd H a o) s.heap a o):Inv X pins σ (upd H a o) s where
 ok:=I.ok
 os:=I.os
 bare:=I.bare
 base:=by
  have ne:∀ b u,X.s₀.heap.get? b=some u->b≠a:=fun b u e z=>by rw[z,h0] at e;cases e
  refine⟨I.base.keep,I.base.slot,fun b u e n hx=>by rw[ar (ne b u e)];exact I.base.free b u e n hx,I.base.there,fun b xs q=>?_,fun b ob u q=>?_,fun b ps q=>?_⟩
  ·have:=I.base.tups b xs q
   rw[ar (fun z=>by rw[z,hn] at this;cases this)];exact this
  ·have:=I.base.frzs b ob u q
   rw[ar (fun z=>by rw[z,hn] at this;cases this)];exact this
  ·obtain⟨m,e⟩:=I.base.tbls b ps q
   exact⟨m,by rw[ar (fun z=>by rw[z,hn] at e;cases e)];exact e⟩
 loc:=I.loc
 cell:=I.cell
 free:=by rw[ar (Ne.symm hL)];exact I.free
 freeC:=fun x c e=>by rw[ar (hc x c e)];exact I.freeC x c e
 pin:=fun p h=>by
  obtain⟨h1,h2,h3⟩:=I.pin p h
  exact⟨h1,by rw[ar (hp p h)];exact h2,h3⟩
 hok:=fun b u e=>by
  by_cases hb:b=a
  ·subst hb
   rw[az] at e
   cases e
   exact ho
  ·rw[ar hb] at e
   refine (I.hok b u e).nh (fun _ _ _ q=>q) (fun c q=>?_) fun c xs q=>?_
   ·rw[ar (fun z=>by rw[z,hn] at q;cases q)];exact q
   ·rw[ar (fun z=>by rw[z,hn] at q;cases q)];exact q
 len:=I.len
theorem fB {A:Around}{E:Value->Shared->Prop}{n:Str}{pos:Pos}{Q:Unit->Shared->Prop} (I:Inv X pins σ H s) (hN:X.N.Nodup) (hi:X.N[i]?=some n) (hn:X.env.scope.names.lookup n=some .local)
  (h:∀ s',Inv X pins (σ.set i none) H s'->Q () s'):wpAny (model X.prog X.w) A (do bindName X.env n .none;unbindBehindTheSuite X.env n pos) Q E s:=by
 have hiσ:i<σ.length:=by rw[I.len];exact (bK.mp hi).1
 refine ah (wpAny_bindName (i7 (v:=.non) I hN hi (.inl hn) rfl (fun s1 I1=>?_) (.inr hn)))
 obtain⟨m,hm,hl⟩:=id I1.loc
 obtain⟨u,_,hu⟩:=hl i n .non hi (by rw[nY hiσ]) (.inl hn)
 have hv:∃ v,m n=some v:=by
  rcases hu with ⟨_,e⟩ | ⟨k,_⟩
  ·exact⟨_,e⟩
  ·have k':X.env.scope.names.lookup n=some .cell∨X.env.scope.names.lookup n=some .free:=k
   rw[hn] at k';rcases k' with z | z<;>cases z
 obtain⟨v,hv⟩:=hv
 have hcls:(X.env.scope.kind==.class||(X.env.scope.kind==.module&&X.env.locals != X.env.globals))=false:=by rw[I.ok.kind];rfl
 unfold unbindBehindTheSuite
 refine wpAny_onRaise (wpAny_unbindName_local hn hm hv hcls fun h' w' hn' hs=>h _ ?_)
 have older:∀ b o,X.s₀.heap.get? b=some o->b≠X.env.locals:=fun b o e=>bf (bB (aF e) I.ok.above)
 refine⟨I1.ok,I1.os,I1.bare,⟨fun b o e k hb hx=>(hs.2 b (older b o e)).trans (I1.base.keep b o e k hb hx),fun b o e k hb hx=>?_,I1.base.free,fun b o e hx=>?_,I1.base.tups,I1.base.frzs,I1.base.tbls⟩,
  ⟨_,hn',fun j y v' e1 e2 e3=>?_⟩,fun y c e=>?_,I1.free,I1.freeC,fun p hp=>?_,fun b ob e=>?_,by rw[List.length_set];exact I.len⟩
 ·obtain⟨sl,e1⟩:=I1.base.slot b o e k hb hx
  exact⟨sl,(hs.2 b (older b o e)).trans e1⟩
 ·obtain⟨o',e1⟩:=I1.base.there b o e hx
  exact⟨o',(hs.2 b (older b o e)).trans e1⟩
 ·by_cases hj:j=i
  ·subst hj
   rw[nY hiσ] at e2
   cases e2
  ·rw[nX (Ne.symm hj)] at e2
   obtain⟨u',r',q⟩:=hl j y v' e1 (by rw[nX (Ne.symm hj)];exact e2) e3
   refine⟨u',r',?_⟩
   rcases q with ⟨k,e⟩ | ⟨k,c,e,z⟩
   ·refine .inl ⟨k,?_⟩
    have:y≠n:=fun e=>hj (qV hN e1 (e ▸ hi))
    simp [this,e]
   ·exact .inr ⟨k,c,e,z.sameBut hs (I1.cne y c e)⟩
 ·obtain⟨w2,z⟩:=I1.cell y c e
  exact⟨w2,z.sameBut hs (I1.cne y c e)⟩
 ·obtain⟨e,k,ne,nf,d⟩:=I1.pin p hp
  exact⟨(hs.2 p.1 ne).trans e,k,ne,nf,d⟩
 ·refine (I1.hok b ob e).nh (fun c w2 hc q=>(hs.2 c ?_).trans q) (fun _ q=>q) fun _ _ q=>q
  rintro rfl
  have:=I1.free
  rcases hc with rfl | hc
  ·rw[this] at e;cases e
  ·rw[this] at hc;cases hc
def Ends.un (D:Ends) (i:Nat):Ends:=⟨fun σ H=>D.nx (σ.set i none) H,D.rt,fun σ H=>D.bk (σ.set i none) H,fun σ H=>D.ct (σ.set i none) H⟩
def IQ (K:PySem.W.Frag) (tb:(St->XK)->TS) (CE:Addr) (i:Nat) (th:TS):TS:=fun D σ H =>
 tb (fun σ' c d H'=>PySem.W.exmOne K c (.ref CE)=some true/\∀ ea H2,H' ea=none->aq H' H2->H2 ea=some (nu ea c d)->th (D.un i) (σ'.set i (some (.ref ea))) H2) D σ H
theorem Inv.IE {xe:Value->Shared->Prop} (I:Inv X pins σ H s):Inv { X with pn:=X.pn++pins,xe:=xe } [] σ H s :=
 ⟨⟨I.ok.mod,I.ok.kind,I.ok.glob,I.ok.blt,I.ok.above,I.ok.inj,I.ok.has,I.ok.cab,I.ok.hd,I.ok.frames,I.ok.stk,I.ok.exf,I.ok.bs,I.ok.bsz,I.ok.noex,I.ok.exfs,I.ok.kJ,I.ok.frf⟩,I.os,I.bare,I.base,I.loc,I.cell,I.free,I.freeC,
  fun p h=>I.pin p (by simpa using h),I.hok,I.len⟩
theorem Inv.ja {pins':List (Addr×Obj)} (I:Inv { X with pn:=X.pn++pins,xe:=xe } pins' σ H s):Inv X pins σ H s :=
 ⟨⟨I.ok.mod,I.ok.kind,I.ok.glob,I.ok.blt,I.ok.above,I.ok.inj,I.ok.has,I.ok.cab,I.ok.hd,I.ok.frames,I.ok.stk,I.ok.exf,I.ok.bs,I.ok.bsz,I.ok.noex,I.ok.exfs,I.ok.kJ,I.ok.frf⟩,I.os,I.bare,I.base,I.loc,I.cell,I.free,I.freeC,
  fun p h=>I.pin p (oa _ h),I.hok,I.len⟩
theorem Inv.uc {e:Option Value} (I:Inv X pins σ H s):Inv { X with A:=X.A.mark e,calm:=false,xe:=fun _ _=>False } pins σ H s :=
 ⟨⟨I.ok.mod,I.ok.kind,I.ok.glob,I.ok.blt,I.ok.above,I.ok.inj,I.ok.has,I.ok.cab,(fun z=>by cases z),I.ok.frames,I.ok.stk,I.ok.exf,I.ok.bs,I.ok.bsz,I.ok.noex,I.ok.exfs,I.ok.kJ,I.ok.frf⟩,I.os,I.bare,I.base,I.loc,I.cell,I.free,I.freeC,
  I.pin,I.hok,I.len⟩
theorem Inv.markFrom {e:Option Value} (ok:X.Ok) (I:Inv { X with A:=X.A.mark e,calm:=false,xe:=xe } pins σ H s):Inv X pins σ H s :=
 ⟨ok,I.os,I.bare,I.base,I.loc,I.cell,I.free,I.freeC,I.pin,I.hok,I.len⟩
theorem HC {body:List Stmt}{b₀:Stmt}{suite:List Stmt}{x n:Str}{i:Nat}{CE:Addr}{np hpos pos:Pos}{tb:(St->XK)->TS}{th:TS} (hst:X.stack=X.env::X.outer) (hf:X.env.frame=some X.env.locals) (hex:X.ex=[]) (hN:X.N.Nodup) (hm:X.mg x=some (.ref CE))
  (hb:∀ (pn:List (Addr×Obj)) (xe:Value->Shared->Prop) (E:St->XK),PassesOwn (model X.prog X.w) X.A X.env xe->Passes (CX1 X.prog X.w) { X with pn:=pn,xe:=xe } E->PSs { X with pn:=pn,xe:=xe } body (tb E))
  (hh:∀ ea:Addr,PSs { X with A:=X.A.mark (some (.ref ea)),calm:=false,xe:=fun _ _=>False } (b₀::suite) th)
  (hi:X.N[i]?=some n:=by kernel_rfl) (hn:X.env.scope.names.lookup n=some .local:=by kernel_rfl) (hg:X.env.kindOf x=some .globalImplicit:=by kernel_rfl) (hd:(x==("__debug__":Str))=false:=by kernel_rfl) :
  PS X (.Try body [.ExceptHandler (some (.Name x np)) (some n) (b₀::suite) hpos] [] [] pos) (IQ X.K tb CE i th):=by
 intro pins s σ H D I h
 refine wpAny_Try_except ?_
 refine bg (hb (X.pn++pins) _ _ PassesOwn.looking ?_ [] s σ H D I.IE h) ?_ (fun e s1 he=>he)
 ·intro pins' σ' H1 s1 e s' I' hcx
  obtain⟨ea,C,t,B,H',d,rfl,os,bare,un,hok,fl,⟨oe,hoe,hdo⟩,hdx,hkb,htrue,hE⟩:=hcx
  have IX:Inv X pins σ' H1 s1:=I'.ja
  have I2:Inv X pins σ' H' s':=IX.qw (ch:=[]) os un hok bare (fun b z=>absurd z (by simp))
  have hfr:∀ b∈frs X.stack,∃ o,s'.heap.get? b=some o/\∀ vs,o.data≠.fields vs:=fun b hb=>(I2.stack.mem hb).2
  have hff:∀ b∈frs X.stack,H' b=none:=I2.nT
  obtain⟨oe0,vs0,hoe0,_,hdat0,_⟩:=fl.first
  have nfr:ea∉frs X.stack:=fun z=>by
   obtain⟨o,e1,e2⟩:=hfr ea z
   rw[hoe0] at e1;cases e1;exact e2 _ hdat0
  have hea:H' ea=none:=by
   cases q:H' ea with
   | none=>rfl
   | some o=>have:=hkb ea oe hoe nfr (.inl (by rw[q];simp));rw[fl.2.1] at this;cases this
  have new1:s1.heap.get? ea=none:=by
   cases q:s1.heap.get? ea with
   | none=>rfl
   | some o=>have:=hkb ea oe hoe nfr (.inr ⟨o,q⟩);rw[fl.2.1] at this;cases this
  have new0:X.s₀.heap.get? ea=none:=by
   cases q:X.s₀.heap.get? ea with
   | none=>rfl
   | some o =>
    obtain⟨o2,e2⟩:=IX.base.there ea o q (by rw[hex];simp)
    rw[new1] at e2;cases e2
  have mk:∀ h6,Heap.FlyingW B X.stack ea (.ref C) (.ref t) h6->s'.heap.UpToSlots h6->(∃ o6,h6.get? ea=some o6/\XD o6 d)->Inv X pins σ' (upd H' ea (nu ea (.ref C) d)) { s' with heap:=h6 }:=by
   intro h6 f6 sm6 ⟨o6,e6,d6⟩
   have J:Inv X pins σ' H' { s' with heap:=h6 }:=IX.qw (s':={ s' with heap:=h6 }) (ch:=[]) os (yS un hkb f6.1 sm6 hfr) (vg hok hkb f6.1 hff) bare (fun b z=>absurd z (by simp))
   obtain⟨o7,v7,e7,c7,t7,_⟩:=f6.first
   rw[e6] at e7
   cases e7
   refine J.FJ hea new0 (fun z=>?_) (fun y c e z=>?_) (fun p hp z=>?_) (yp e6 c7 d6)
   ·obtain⟨m,⟨ob,_,_,e9,_⟩,_⟩:=IX.loc
    rw[←z,new1] at e9;cases e9
   ·obtain⟨w9,o9,e9,_⟩:=IX.cell y c e
    rw[z,new1] at e9;cases e9
   ·have e9:=(IX.pin p hp).1
    rw[z,new1] at e9;cases e9
  refine bg (KD.any (E:=fun _ _=>False) (ua _ _) (wpAny_looks_onW (Q:=fun _ s''=>∃ h4,s''={ s' with heap:=h4 }/\Heap.HeldW B X.stack ea (.ref C) (.ref t) X.env.locals h4/\s'.heap.UpToSlots h4) (by rw[←hst];exact I.ok.frames) hf (by rw[←hst];exact fl) fun h4 x1 x2=>⟨h4,rfl,by rw[hst];exact x1,x2⟩)) ?_ (fun _ _ z=>False.elim z.1)
  rintro _ _ ⟨⟨h4,rfl,l4,sm4⟩,dk4⟩
  refine bg (KD.any (E:=fun _ _=>False) (jx _ _) (wpAny_landsW (s:={ s' with heap:=h4 }) (Q:=fun _ s''=>∃ h5,s''={ s' with heap:=h5 }/\Heap.FlyingW B X.stack ea (.ref C) (.ref t) h5/\h4.UpToSlots h5) l4 fun h5 x1 x2=>⟨h5,rfl,x1,x2⟩)) ?_ (fun _ _ z=>False.elim z.1)
  rintro _ _ ⟨⟨h5,rfl,f5,sm5⟩,dk5⟩
  obtain⟨o5,e5,_,d5,g5⟩:=(dk4.trans dk5) ea oe hoe
  have I5:=mk h5 f5 (sm4.trans sm5) ⟨o5,e5,hdo.dk d5 g5⟩
  obtain⟨o5',v5,e5',c5,t5,_⟩:=f5.first
  rw[e5] at e5'
  cases e5'
  refine wpAny_handleBy_cons (codeAny_handlers_test ?_) (by intro q;cases q)
  refine lZ (X:={ X with A:=X.A.mark (some (.ref ea)),calm:=false,xe:=fun _ _=>False }) I5.uc hg hm ?_ hd
  have LT:PySem.W.Looks (model X.prog X.w) h5 (typeOf (.ref ea)) (.ref C):=c5 ▸ (PySem.W.Looks.ld e5).andThen .now
  refine PySem.W.exm_one I5.kIn LT htrue _ _ _ _ (fun _ _ e=>e) ?_
  refine codeAny_handlers_suite_as ?_
  refine bg (KD.any (E:=fun _ _=>False) (jx _ _) (lands_againW (s:={ s' with heap:=h5 }) (Q:=fun _ s''=>∃ h6,s''={ s' with heap:=h6 }/\Heap.FlyingW B X.stack ea (.ref C) (.ref t) h6/\h5.UpToSlots h6) f5 fun h6 x1 x2=>⟨h6,rfl,x1,x2⟩)) ?_ (fun _ _ z=>False.elim z.1)
  rintro _ _ ⟨⟨h6,rfl,f6,sm6⟩,dk6⟩
  obtain⟨o6,e6,_,d6,g6⟩:=dk6 ea o5 e5
  have I6:=mk h6 f6 ((sm4.trans sm5).trans sm6) ⟨o6,e6,(hdo.dk d5 g5).dk d6 g6⟩
  refine i7 (X:={ X with A:=X.A.mark (some (.ref ea)),calm:=false,xe:=fun _ _=>False }) (v:=.ref ea) I6.uc hN hi (.inl hn) rfl (fun s7 I7=>?_) (.inr hn)
  refine bg (hh ea pins s7 _ _ (D.un i) I7 (hE ea _ hea (dw hea) az)) (fun f s8 hsp=>?_) (fun _ _ z=>False.elim z)
  cases f with
  | next =>
   obtain⟨σ9,H9,I9,q9⟩:=hsp
   exact fB (Inv.markFrom I.ok I9) hN hi hn fun s9 J=>⟨_,H9,J,q9⟩
  | brk =>
   obtain⟨σ9,H9,I9,q9⟩:=hsp
   exact fB (Inv.markFrom I.ok I9) hN hi hn fun s9 J=>⟨_,H9,J,q9⟩
  | cont =>
   obtain⟨σ9,H9,I9,q9⟩:=hsp
   exact fB (Inv.markFrom I.ok I9) hN hi hn fun s9 J=>⟨_,H9,J,q9⟩
  | ret u =>
   obtain⟨v9,σ9,H9,I9,r9,q9⟩:=hsp
   exact fB (Inv.markFrom I.ok I9) hN hi hn fun s9 J=>⟨v9,_,H9,J,r9,q9⟩
 ·intro f s1 hsp
  cases f with
  | next =>
   obtain⟨σ9,H9,I9,q9⟩:=hsp
   exact iI ⟨σ9,H9,I9.ja,q9⟩
  | brk =>
   obtain⟨σ9,H9,I9,q9⟩:=hsp
   exact⟨σ9,H9,I9.ja,q9⟩
  | cont =>
   obtain⟨σ9,H9,I9,q9⟩:=hsp
   exact⟨σ9,H9,I9.ja,q9⟩
  | ret u =>
   obtain⟨v9,σ9,H9,I9,r9,q9⟩:=hsp
   exact⟨v9,σ9,H9,I9.ja,r9,q9⟩
end
end
section
theorem DY:builtinKind "BaseException.__getattribute__"=some Manifest.AttrKind.slot:=by decide +kernel
theorem By:splitId "BaseException.__getattribute__"=some ("BaseException","__getattribute__"):=by decide +kernel
theorem Bx {A:Around}{E:Value->Shared->Prop}{x:Addr}{nm:Value}{Q:Unit->Shared->Prop} (l:PySem.W.Looks M s.heap (isInstance (.ref x) (.type "BaseException")) true) (q:Q () s) :
  wpAny M A (checkBuiltinCall "BaseException.__getattribute__" { pos:=[.ref x,nm] }) Q E s :=
 PySem.W.check_slot (i:="BaseException.__getattribute__") (self:=.ref x) (rest:=[nm]) (kw:=[]) DY By l (F.args_bexc_ga _ _) q
theorem Eh {prog:Program}{w:World}{A:Around}{E:Value->Shared->Prop}{s:Shared}{K:PySem.W.Frag}{x D:Addr}{ox:Obj}{odo:Option Obj}{name:Str}{g a:Value}{Q:Option Value->Shared->Prop}
  (X:K.In s.heap) (I:PySem.W.InstAt s.heap x ox D odo)
  (hga:PySem.W.findIn K (.ref D) "__getattribute__"=some (some (.builtin "BaseException.__getattribute__")))
  (hgn:PySem.W.findIn K (.ref D) "__getattr__"=some none)
  (hsub:PySem.W.subIn K (.ref D) (.type "BaseException")=some true)
  (hf:PySem.W.findObj K D odo name=some (.bind g a))
  (h:∀ A',wpAny (model prog w) A' (call g [a,.ref x,.ref D]) (fun v s'=>wpAny (model prog w) A (handedOut v) (fun v s''=>Q (some v) s'') (fun _ _=>False) s') (fun _ _=>False) { s with toks:=s.toks+1 }) :
  wpAny (model prog w) A (getAttr? (.ref x) name) Q E s:=by
 obtain⟨hh,gg,dd,tt,os⟩:=s
 have L0:∀ {M},PySem.W.Looks M hh (typeOf (.ref x)) (.ref D):=I.type
 have L1:∀ {M},PySem.W.Looks M hh (typeLookup (.ref D) "__getattribute__") _:=PySem.W.looks_findIn X hga
 have L2:∀ {M},PySem.W.Looks M hh (typeLookup (.ref D) "__getattr__") _:=PySem.W.looks_findIn X hgn
 have L3:∀ {M},PySem.W.Looks M hh (isSubtype (.ref D) (.type "BaseException")) _:=PySem.W.looks_subIn X hsub
 have L4:∀ {M},PySem.W.Looks M hh (Builtin.ObjectAttr.find (.ref x) (.ref D) name) _:=PySem.W.looks_find X I hf
 have L5:∀ {M},PySem.W.Looks M hh (isInstance (.ref x) (.type "BaseException")) true:=by
  intro M;unfold isInstance;exact PySem.W.Looks.andThen (f:=fun t=>isSubtype t (.type "BaseException")) L0 L3
 have f3:=F.excAttr_ValueError.ga.bind (Value.ref x)
 unfold getAttr?
 refine ah (wpAny_mkText ?_)
 unfold getAttrBy?
 refine ah (wpAny_attempt ?_)
 unfold getAttrBy
 refine da (ah (L0.at (ah (L1.at ?_))))
 refine wpAny_ite_false rfl ?_
 unfold getAttrByItsOwn
 refine ah ?_
 unfold hookBefore
 refine wpAny_ite_true rfl (L2.at ?_)
 refine ah (wpAny_attempt (da ?_))
 unfold callGetattribute
 refine wpAny_ite_false rfl ?_
 unfold boundAndCalled
 refine ah (wpAny_of_eq f3 ?_)
 refine gK (codeAny_call_builtin F.excAttr_ValueError.ga.plain F.entry_bexc_ga ?_)
 refine Bx L5 ?_
 show wpAny _ _ (Builtin.«object.__getattribute__» { pos:=[Value.ref x,Value.str name _] }) _ _ _
 unfold Builtin.«object.__getattribute__»
 refine ah ?_
 unfold slotArgs
 refine wpAny_ite_false rfl (wpAny_ite_false rfl (ax ?_))
 refine ah (ax ?_)
 refine ah (L0.at (ah (L4.at ?_)))
 show wpAny _ _ (Builtin.ObjectAttr.bindTo g a (.ref x) (.ref D)) _ _ _
 unfold Builtin.ObjectAttr.bindTo
 refine ah (da (bg (h _) (fun v s' z=>?_) (fun _ _ z=>z.elim)))
 refine ax ?_
 refine bg z (fun v s' z=>ax z) (fun _ _ z=>z.elim)
structure Az (K:PySem.W.Frag) (C:Addr):Prop where
 ga:PySem.W.findIn K (.ref C) "__getattribute__"=some (some (.builtin "BaseException.__getattribute__"))
 gn:PySem.W.findIn K (.ref C) "__getattr__"=some none
 sb:PySem.W.subIn K (.ref C) (.type "BaseException")=some true
 cl:(PySem.W.clsIn K C).isSome=true
 ha:PySem.W.findIn K (.ref C) "__class__"=some (some (.builtin "object.__class__"))
 hn:PySem.W.specialIn K (.builtin "object.__class__") "__get__"=some (some (.builtin "getset_descriptor.__get__"))
 htk:PySem.W.takesIn K (.builtin "object.__class__")=some true
 hm:PySem.W.mroIn K C (.type "object")=some true
theorem vb {od:Option Obj}{name:Str}{a g:Value} (hc:(PySem.W.clsIn K C).isSome=true) (ha:PySem.W.findIn K (.ref C) name=some (some a)) (hg:PySem.W.specialIn K a "__get__"=some (some g)) (ht:PySem.W.takesIn K a=some true) :
  PySem.W.findObj K C od name=some (.bind g a):=by
 obtain⟨cd,e⟩:=lP.mp hc
 unfold PySem.W.findObj
 rw[e,Option.bind_some,ha,Option.bind_some]
 show (PySem.W.specialIn K a "__get__").bind _=_
 rw[hg,Option.bind_some]
 show (PySem.W.takesIn K a).bind _=_
 rw[ht,Option.bind_some]
def ExcAt (x C:Addr) (h:Heap):Prop:=∃ ox od,PySem.W.InstAt h x ox C od
theorem qM {x C:Addr} (e:Az K C):PySem.W.KitX K (.ref x) (.ref C) (ExcAt x C) where
 ty:=fun _ _ _ ⟨_,_,I⟩=>I.type
 it:=fun _ h XK _=>by
  obtain⟨cd,hc⟩:=lP.mp e.cl
  unfold PySem.W.clsIn at hc
  split at hc
  next c' d' cd' sl' ho =>
   intro A' Q' E' s' k q
   unfold isType loadHead
   exact ah (wpAny_loadPart (k _ _ (XK _ _ ho)) (ax q))
  next=>cases hc
 ne:=fun h tp dd its n sl XK htp=>by
  obtain⟨cd,hc⟩:=lP.mp e.cl
  refine Bool.eq_false_iff.mpr fun q=>?_
  have z:C=tp:=Value.ref.inj (fT.mp q)
  subst z
  unfold PySem.W.clsIn at hc
  split at hc
  next c' d' cd' sl' ho =>
   have z:=(XK _ _ ho).symm.trans htp
   cases z
  next=>cases hc
 ca:=fun {prog w A E Q s} XK I k=>by
  obtain⟨ox,od,I⟩:=I
  have hf:=vb (od:=od) e.cl e.ha e.hn e.htk
  exact Eh XK I e.ga e.gn e.sb hf fun A'=>gK (PySem.W.class_get (s:={ s with toks:=s.toks+1 }) (ox:=ox) (od:=od) XK I e.hm (PySem.W.handed_on rfl k))
def TyX (K:PySem.W.Frag) (H:Hp) (x:V) (t:Value):Prop:=m6 K H x t∨∃ a C,x=.ref a/\t=.ref C/\H a=some (nu a (.ref C) none)/\Az K C
theorem qF {a C:Addr} (x:HOk P w H h) (e:H a=some (nu a (.ref C) none)):ExcAt a C h:=by
 obtain⟨⟨o,e1,e2,e3,vs,e4,_⟩,_⟩:=(show bH P w H h a (nu a (.ref C) none) from x a _ e)
 refine⟨o,none,e1,e2,?_,?_⟩
 ·unfold PySem.W.notCls;rw[e4]
 ·rw[e3];trivial
def Cy (K:PySem.W.Frag):List V->Hp->VK->Prop:=fun vs H Q=>match vs with
 | [x,.ty n]=>∃ t b,TyX K H x t/\PySem.W.kitOne K t (.type n)=some b/\Q (.bl b) H
 | [x,.ref c]=>∃ t b,TyX K H x t/\(PySem.W.kitOne K t (.ref c)=some b∨∃ (a C:Addr) (cs:List Addr),x=.ref a/\t=.ref C/\H a=some (nu a (.ref C) none)/\Az K C/\H c=some (.tup (cs.map V.ref))/\PySem.W.kitAny K t (cs.map Value.ref)=some b)/\Q (.bl b) H
 | _=>False
theorem tJ:∀ {cs:List Addr}{us:List Value},Vals (cs.map V.ref) us->us=cs.map Value.ref
 | [],_,.nil=>rfl
 | c::r,_,.cons h t=>by
  have e:_=Value.ref c:=h
  rw[e,tJ t];rfl
theorem zf :cC X (.builtin "isinstance") (Cy X.K):=by
 intro pins s σ H xs us Q I r h
 match xs,h with
 | [x,.ty n],h =>
  obtain⟨t,b,ht,hk,q⟩:=h
  obtain⟨u,v,rfl,r1,r2⟩:=vals2 r
  cases (show v=Value.type n from r2)
  rcases ht with ht | ⟨a,C,rfl,rfl,hH,hC⟩
  ·exact isinst_ok I r1 ht hk fun tk=>⟨.bl b,H,I.tok _,rfl,q⟩
  ·cases (show u=Value.ref a from r1)
   exact dH (qM hC) I.kIn (qF I.hok hH) hk (fun z=>by cases z) fun tk=>⟨.bl b,H,I.tok _,rfl,q⟩
 | [x,.ref c],h =>
  obtain⟨t,b,ht,hk,q⟩:=h
  obtain⟨u,v,rfl,r1,r2⟩:=vals2 r
  cases (show v=Value.ref c from r2)
  rcases hk with hk | ⟨a,C,cs,rfl,rfl,hH,hC,hc,hk⟩
  ·rcases ht with ht | ⟨a,C,rfl,rfl,hH,hC⟩
   ·exact isinst_ok I r1 ht hk fun tk=>⟨.bl b,H,I.tok _,rfl,q⟩
   ·cases (show u=Value.ref a from r1)
    exact dH (qM hC) I.kIn (qF I.hok hH) hk (fun z=>by cases z) fun tk=>⟨.bl b,H,I.tok _,rfl,q⟩
  ·cases (show u=Value.ref a from r1)
   obtain⟨_,its,rv,⟨ob,e1,e2,n,e3⟩⟩:=(show bH X.prog X.w H s.heap c (.tup (cs.map V.ref)) from I.hok c _ hc)
   have ei:=tJ rv
   subst ei
   obtain⟨oc,dd,od,sl⟩:=ob
   cases e2
   cases e3
   exact PySem.W.kia_tup (qM hC) I.kIn (qF I.hok hH) e1 hk (fun z=>by cases z) fun tk=>⟨.bl b,H,I.tok _,rfl,q⟩
theorem eh (hK:X.K=K):cC X (.builtin "isinstance") (Cy K):=hK ▸ zf
def Bq (K:PySem.W.Frag) (C:Addr):Bool :=
 PySem.W.findIn K (.ref C) "__getattribute__"==some (some (.builtin "BaseException.__getattribute__"))&&PySem.W.findIn K (.ref C) "__getattr__"==some none&&PySem.W.subIn K (.ref C) (.type "BaseException")==some true&&(PySem.W.clsIn K C).isSome&&PySem.W.findIn K (.ref C) "__class__"==some (some (.builtin "object.__class__")) &&
 PySem.W.specialIn K (.builtin "object.__class__") "__get__"==some (some (.builtin "getset_descriptor.__get__"))&&PySem.W.takesIn K (.builtin "object.__class__")==some true&&PySem.W.mroIn K C (.type "object")==some true
theorem Br (h:Bq K C=true):Az K C:=by
 unfold Bq at h
 simp only[cf,fT] at h
 obtain⟨⟨⟨⟨⟨⟨⟨h1,h1'⟩,h1''⟩,h2⟩,h3⟩,h4⟩,h5⟩,h6⟩:=h
 exact⟨h1,h1',h1'',h2,h3,h4,h5,h6⟩
def tU (K:PySem.W.Frag) (b:Addr) (cs:List Addr):Bool :=
 cs.all fun c=>Bq K c&&PySem.W.exmOne K (.ref c) (.ref b)==some true&&PySem.W.kitOne K (.ref c) (.type "ValueError")==some true&&PySem.W.kitOne K (.ref c) (.ref b)==some true &&
  cs.all fun d=>PySem.W.kitOne K (.ref c) (.ref d)==some (c==d)
structure Err (K:PySem.W.Frag) (b:Addr) (cs:List Addr) (c:Addr):Prop where
 ex:Az K c
 em:PySem.W.exmOne K (.ref c) (.ref b)=some true
 ve:PySem.W.kitOne K (.ref c) (.type "ValueError")=some true
 ba:PySem.W.kitOne K (.ref c) (.ref b)=some true
 kd:∀ d∈cs,PySem.W.kitOne K (.ref c) (.ref d)=some (c==d)
theorem wz {b:Addr}{cs:List Addr} (h:tU K b cs=true) {c:Addr} (hc:c∈cs):Err K b cs c:=by
 unfold tU at h
 have h:=ck.mp h c hc
 simp only[cf,fT] at h
 obtain⟨⟨⟨⟨h1,h2⟩,h3⟩,h4⟩,h5⟩:=h
 exact⟨Br h1,h2,h3,h4,fun d hd=>by have:=ck.mp h5 d hd;simpa using this⟩
theorem Err.any {K:PySem.W.Frag}{b:Addr}{cs:List Addr}{c:Addr} (E:Err K b cs c):∀ {ds:List Addr},(∀ d∈ds,d∈cs)->PySem.W.kitAny K (.ref c) (ds.map Value.ref)=some (ds.contains c)
 | [],_=>rfl
 | d::r,h=>by
  show (match PySem.W.kitOne K (.ref c) (.ref d) with | some true=>some true | some false=>PySem.W.kitAny K (.ref c) (r.map Value.ref) | none=>none)=_
  rw[E.kd d (h d List.mem_cons_self),Err.any E (fun x hx=>h x (List.mem_cons_of_mem _ hx)),List.contains_cons]
  cases (c==d)<;>rfl
theorem gC {v:V} (h:∃ u,X.mg x=some u/\RelV v u) (hg:X.env.kindOf x=some .globalImplicit:=by kernel_rfl) (hd:(x==("__debug__":Str))=false:=by kernel_rfl):PE X (.Name x pos) (tC v):=by
 obtain⟨u,h1,h2⟩:=h
 exact yA hg h1 h2 hd
theorem j6 {c:Addr} (h:X.mg x=some (.ref c)) (hg:X.env.kindOf x=some .globalImplicit:=by kernel_rfl) (hd:(x==("__debug__":Str))=false:=by kernel_rfl):PE X (.Name x pos) (tC (.ref c)):=yA hg h rfl hd
theorem Gq {K:PySem.W.Frag}{tb:(St->XK)->TS}{CE:Addr}{i:Nat}{th:TS}{D:Ends}{σ:St}{H:Hp}:IQ K tb CE i th D σ H =
 tb (fun σ' c d H'=>PySem.W.exmOne K c (.ref CE)=some true/\∀ ea H2,H' ea=none->aq H' H2->H2 ea=some (nu ea c d)->th (D.un i) (σ'.set i (some (.ref ea))) H2) D σ H:=propext Iff.rfl
structure HS (P:Program) (w:World) (K:PySem.W.Frag) (mg:Str->Option Value) (base:Heap) (CX:CXT) (k:Nat) (x:Str) (ps:List Str) (sp:Sp):Prop where
 ex:∃ (f:Addr) (fd:FuncData),A2 P w K mg base CX k f fd ps sp/\mg x=some (.ref f)/\PySem.W.keepIn K (.ref f)=true/\Binds K fd ps []
theorem HS.fnc {P:Program}{w:World}{K:PySem.W.Frag}{mg:Str->Option Value}{base:Heap}{CX:CXT}{k:Nat}{x:Str}{ps:List Str}{sp:Sp} (C:HS P w K mg base CX k x ps sp):Fnc P w K mg base CX k x ps sp:=by
 obtain⟨f,fd,F,h⟩:=C.ex
 exact⟨f,fd,F.ok,h⟩
theorem wY {ea:Addr} (h:H ea=some (nu ea c d)):jW (some (.ref ea)) H :=
 .inr ⟨ea,_,rfl,h,fun _ ⟨o,e,_,_,vs,q1,q2⟩=>⟨o,vs,e,q1,q2⟩⟩
theorem jW.same {o:Option Value}{H H':Hp} (h:jW o H) (s:aq H H'):jW o H':=by
 rcases h with h | ⟨ea,φ,e1,e2,e3⟩
 ·exact .inl h
 ·exact .inr ⟨ea,φ,e1,s _ _ e2,e3⟩
end
section
def up (t:TE):TE:=fun σ H R=>∃ R',t σ H R'/\∀ x H,R' x H->R x H
def upA (t:TA):TA:=fun σ H R=>∃ R',t σ H R'/\∀ x H,R' x H->R x H
theorem PE.up {X:Cx}{e:Expr}{t:TE} (h:PE X e t):PE X e (up t):=fun pins s σ H Q I ⟨R',h1,h2⟩=>thn (h pins s σ H R' I h1) fun _ _ ⟨v,H',I',r,q⟩=>⟨v,H',I',r,h2 v H' q⟩
theorem PA.up {t:TA} (h:PA X es t):PA X es (upA t):=fun pos pins s σ H Q I ⟨R',h1,h2⟩=>thn (h pos pins s σ H R' I h1) fun _ _ ⟨v,H',I',r,q⟩=>⟨v,H',I',r,h2 v H' q⟩
def Cu (K:PySem.W.Frag) (f:Str) (x:V) (H:Hp) (Q:VK):Prop:=match x with
 | .ref a=>∃ C dx fs v,H a=some (.ins C dx fs)/\Cls K C/\dW K C f/\fs.lookup f=some v/\Q v H
 | _=>False
def FC (K:PySem.W.Frag) (ta:TE) (f:Str):TE:=fun σ H Q=>ta σ H fun x H1=>Cu K f x H1 Q
theorem FU {K:PySem.W.Frag}{ta:TE}{f:Str}{σ:St}{H:Hp}{Q:VK}:FC K ta f σ H Q=ta σ H fun x H1=>Cu K f x H1 Q:=propext Iff.rfl
def C7 (K:PySem.W.Frag) (f:Str) (y x:V) (H:Hp) (Q:Hp->Prop):Prop:=match x with
 | .ref a=>∃ C dx fs,H a=some (.ins C dx fs)/\Cls K C/\dW K C f/\fs.length<1000/\Q (upd H a (.ins C dx (fm f y fs)))
 | _=>False
def F8 (K:PySem.W.Frag) (ta tv:TE) (f:Str):TS:=fun D σ H=>tv σ H fun y H1=>ta σ H1 fun x H2=>C7 K f y x H2 fun H3=>D.nx σ H3
theorem DB {K:PySem.W.Frag}{ta tv:TE}{f:Str}{D:Ends}{σ:St}{H:Hp}:F8 K ta tv f D σ H=tv σ H fun y H1=>ta σ H1 fun x H2=>C7 K f y x H2 fun H3=>D.nx σ H3:=propext Iff.rfl
section
variable {X:Cx}{K:PySem.W.Frag}
theorem bP {ta:TE}{f:Str} (hK:X.K=K) (he:PE X e ta) (hb:attributeBase e f X.env (eval e X.env)=eval e X.env:=by kernel_rfl):PE X (.Attribute e f pos) (FC K ta f):=by
 subst hK
 intro pins s σ H Q I h
 refine Hu (ta:=up ta) he.up hb pins s σ H Q I ⟨_,h,fun x H1 hx=>?_⟩
 cases x with
 | ref a=>obtain⟨C,dx,fs,v,h1,h2,h3,h4,h5⟩:=hx;exact⟨a,C,dx,fs,v,rfl,h1,h2,h3,h4,h5⟩
 | _=>exact False.elim hx
theorem fL {o value:Expr}{ta tv:TE}{f:Str}{pos pos':Pos} (hK:X.K=K) (ha:PE X o ta) (hv:PE X value tv) (hs:swapsWith value (some (.Attribute o f pos')) pos.line X.env=pure false:=by kernel_rfl) :
  PS X (.Assign [.Attribute o f pos'] value pos) (F8 K ta tv f):=by
 subst hK
 intro pins s σ H D I h
 refine HA (ta:=up ta) (tv:=up tv) ha.up hv.up hs pins s σ H D I ⟨_,h,fun y H1 hy=>⟨_,hy,fun x H2 hx=>?_⟩⟩
 cases x with
 | ref a=>obtain⟨C,dx,fs,h1,h2,h3,h4,h5⟩:=hx;exact⟨a,C,dx,fs,rfl,h1,h2,h3,h4,h5⟩
 | _=>exact False.elim hx
end
structure Mtd (P:Program) (w:World) (K:PySem.W.Frag) (mg:Str->Option Value) (base:Heap) (CX:CXT) (C:Addr) (m:Str) (k:Nat) (ps:List Str) (sp:Sp):Prop where
 ex:∃ (f:Addr) (fd:FuncData),bI P w K mg base CX k f fd ps sp/\Meth K C m f/\Binds K fd ps []
 cl:Cls K C
def mQ (C:Addr) (m:Str) (x:V) (H:Hp) (Q:Hp->Prop):Prop:=match x with
 | .ref a=>∃ dx fs,H a=some (.ins C dx fs)/\fs.lookup m=none/\Q H
 | _=>False
def uC (C:Addr) (m:Str) (sp:Sp) (E:St->XK) (ta:TE) (t:TA):TE:=fun σ H Q=>ta σ H fun x H1=>mQ C m x H1 fun H1=>t σ H1 fun vs H2=>sp (x::vs) H2 Q (E σ)
theorem D7 {C:Addr}{m:Str}{sp:Sp}{E:St->XK}{ta:TE}{t:TA}{σ:St}{H:Hp}{Q:VK}:uC C m sp E ta t σ H Q=ta σ H fun x H1=>mQ C m x H1 fun H1=>t σ H1 fun vs H2=>sp (x::vs) H2 Q (E σ):=propext Iff.rfl
section
variable {X:Cx}{CX:CXT}{E:St->XK}
theorem cJ {pl:Sem Bool}{k:Nat}{o e:Expr}{ta:TE}{t:TA}{apos pos:Pos} (M:Mtd X.prog X.w X.K X.mg X.base CX C m k ps sp) (hx:Passes CX X E) (hr:bZ k X.A) (he:PE X o ta) (ha:PA X (e::es) t)
  (hs:cV (e::es)=true:=by kernel_rfl)
  (ht:eval (.Call (.Attribute o m apos) (e::es) [] pos) X.env=(do
   let ov ←eval o X.env
   standAt apos.atName
   let (f,first) ←holding [ov] (getMethod ov m pl)
   callWith pos f first (backTo pos (starEach (e::es) X.env)) (backToKw pos (keywordEach [] X.env))):=by rfl) :
  PE X (.Call (.Attribute o m apos) (e::es) [] pos) (uC C m sp E ta t):=by
 obtain⟨f,fd,F,hm,hb⟩:=M.ex
 intro pins s σ H Q I h
 refine yB (ta:=up ta) (t:=t) he.up M.cl hm F hr hb .nil hx ha (aO (aR hs).1) (cx (aR hs).2) ht pins s σ H Q I ⟨_,h,fun x H1 q=>?_⟩
 cases x with
 | ref a =>
  obtain⟨dx,fs,h1,h2,h3⟩:=q
  refine⟨a,dx,fs,rfl,h1,h2,?_⟩
  simp only[List.append_nil]
  exact h3
 | _=>exact False.elim q
theorem ie {pl:Sem Bool}{k:Nat}{o:Expr}{ta:TE}{apos pos:Pos} (M:Mtd X.prog X.w X.K X.mg X.base CX C m k ps sp) (hx:Passes CX X E) (hr:bZ k X.A) (he:PE X o ta)
  (ht:eval (.Call (.Attribute o m apos) [] [] pos) X.env=(do
   let ov ←eval o X.env
   standAt apos.atName
   let (f,first) ←holding [ov] (getMethod ov m pl)
   callWith pos f first (backTo pos (starEach [] X.env)) (backToKw pos (keywordEach [] X.env))):=by rfl) :
  PE X (.Call (.Attribute o m apos) [] [] pos) (uC C m sp E ta EZ):=by
 obtain⟨f,fd,F,hm,hb⟩:=M.ex
 intro pins s σ H Q I h
 refine Co (ta:=up ta) he.up M.cl hm F hr hb .nil hx ht pins s σ H Q I ⟨_,h,fun x H1 q=>?_⟩
 cases x with
 | ref a =>
  obtain⟨dx,fs,h1,h2,h3⟩:=q
  exact⟨a,dx,fs,rfl,h1,h2,h3⟩
 | _=>exact False.elim q
end
structure Mak (P:Program) (w:World) (K:PySem.W.Frag) (mg:Str->Option Value) (base:Heap) (CX:CXT) (C:Addr) (x:Str) (k:Nat) (ps:List Str) (sp:Sp):Prop where
 ex:∃ (f:Addr) (fd:FuncData),bI P w K mg base CX k f fd ps sp/\Mk K C f/\Binds K fd ps []
 mg:mg x=some (.ref C)
def CZ (C:Addr) (sp:Sp) (E:St->XK) (t:TA):TE:=fun σ H Q=>t σ H fun vs H1=>∀ x dx H2,H1 x=none->H1 dx=none->dx≠x->aq H1 H2->H2 x=some (.ins C dx [])->H2 dx=some (.own x)->sp (.ref x::vs) H2 (fun v H3=>v=.non/\Q (.ref x) H3) (E σ)
theorem D6 {C:Addr}{sp:Sp}{E:St->XK}{t:TA}{σ:St}{H:Hp}{Q:VK}:CZ C sp E t σ H Q=t σ H fun vs H1=>∀ x dx H2,H1 x=none->H1 dx=none->dx≠x->aq H1 H2->H2 x=some (.ins C dx [])->H2 dx=some (.own x)->sp (.ref x::vs) H2 (fun v H3=>v=.non/\Q (.ref x) H3) (E σ):=propext Iff.rfl
section
variable {X:Cx}{CX:CXT}{E:St->XK}
theorem j7 {k:Nat}{t:TA}{p pos:Pos} (M:Mak X.prog X.w X.K X.mg X.base CX C x k ps sp) (hx:Passes CX X E) (hr:bZ (k+1) X.A) (ha:PA X (e::es) t)
  (hg:X.env.kindOf x=some .globalImplicit:=by kernel_rfl) (hd:(x==("__debug__":Str))=false:=by kernel_rfl) (hs:cV (e::es)=true:=by kernel_rfl) :
  PE X (.Call (.Name x p) (e::es) [] pos) (CZ C sp E t):=by
 obtain⟨f,fd,F,hm,hb⟩:=M.ex
 intro pins s σ H Q I h
 refine EB (t:=upA t) hm F hr hg M.mg hb .nil hx ha.up hd (aO (aR hs).1) (cx (aR hs).2) pins s σ H Q I ⟨_,h,fun vs H1 q x dx h1 h2 h3=>?_⟩
 simp only[List.append_nil]
 refine q x dx _ h1 h2 h3 ((dw h2).fi h1) az ?_
 rw[ar h3,az]
end
end
section
theorem sL {h g:Heap}{l c:Addr}{xs:Array Value} (x:h.IsList l xs) (s:Heap.SameBut c h g) (ne:l≠c):g.IsList l xs:=by
 obtain⟨o,h1,h2⟩:=x
 exact⟨o,(s.2 l ne).trans h1,h2⟩
section
variable {prog:Program}{w:World}{A:Around}{E:Value->Shared->Prop}
theorem uW {c l:Addr}{xs:Array Value} (ne:l≠c):∀ (k j:Nat) (s:Shared) (R:List Value->Shared->Prop),s.heap.IsListIter c l j->s.heap.IsList l xs->j+k<=xs.size →
  (∀ g,g.IsListIter c l (j+k)->Heap.SameBut c s.heap g->R ((xs.toList.drop j).take k) { s with heap:=g })->wpAny (model prog w) A (draw (.ref c) k) R E s
 | 0,j,s,R,i0,_,_,q=>ax (by simpa using q s.heap i0 (Heap.SameBut.refl ..))
 | k+1,j,s,R,i0,l0,hb,q=>by
  have lt:j<xs.size:=by omega
  show wpAny _ _ (pyNext (.ref c) >>= _) R E s
  refine ah (wpAny_pyNext_list_item i0 l0 (x:=xs[j]) (by simp [lt]) fun g1 i1 s1=>?_)
  refine ah (da (uW ne k (j+1) _ _ i1 (sL l0 s1 ne) (by omega) fun g2 i2 s2=>ax ?_))
  have z:=q g2 (by rw[show j+(k+1)=j+1+k by omega];exact i2) (s1.trans s2)
  rw[show xs.toList.drop j=xs[j]::xs.toList.drop (j+1) by simp [List.drop_eq_getElem_cons,lt],List.take_succ_cons] at z
  exact z
theorem xV {l:Addr}{xs:Array Value}{ts:List (Bool×(Value->Sem Unit))}{R:Unit->Shared->Prop} (hh:A.handled=none) (l0:s.heap.IsList l xs) (hn:ts.length=xs.size) (hs:ts.findIdx? (·.1)=none)
  (q:∀ g,Heap.ExtBut s.heap.objs.size s.heap g->wpAny (model prog w) A (assignInOrder (ts.map (·.2)) xs.toList) R E { s with heap:=g }):wpAny (model prog w) A (unpack (.ref l) ts) R E s:=by
 have ne:l≠s.heap.objs.size:=by obtain⟨o,ho,_⟩:=l0;exact bf (aF ho)
 unfold unpack
 rw[hn,hs]
 refine ah (da ?_)
 unfold unpackItems
 refine ah ?_
 unfold notIterableAtAll
 refine ah (wpAny_specialOf l0.typeIs F.slot_list_iter.lookup ?_)
 refine ax ?_
 simp only[ku,eM]
 refine ah (da (wpAny_pyIter_list l0 ?_))
 refine ah (da (uW ne xs.size 0 _ _ ⟨_,aZ _ rfl,rfl,rfl⟩ (l0.push _) (by omega) fun g1 i1 s1=>?_))
 rw[show List.take xs.size (List.drop 0 xs.toList)=xs.toList by rw[List.drop_zero];exact eL (by simp)]
 rw[if_neg (by simp)]
 refine ah (da (wpAny_pyNext_list_end hh i1 (sL (l0.push _) s1 ne) (by simp) fun g2 e2=>?_))
 simp only[Option.isSome_none,ku,eM]
 exact ax (q g2 fun b o hb e=>e2 b o hb (s1.extBut b o hb (aH _ e)))
end
def GF (K:PySem.W.Frag) (n:Nat) (t:TGs):TG:=fun v σ H Q=>match v with
 | .ref a=>∃ xs,Sq K H a xs/\xs.length=n/\t xs σ H Q
 | _=>False
theorem Hx {k:Nat}{t:TGs}{n:Nat}{pos:Pos} (hc:X.calm=true) (h:PGs X es t)
  (hn:(assignEach es X.env).length=n:=by rfl) (hst:(assignEach es X.env).findIdx? (·.1)=none:=by rfl):PG X (.Tuple es k pos) (GF X.K n t):=by
 intro pins s σ H v u Q I r hw
 cases v with
 | ref a =>
  obtain⟨xs,hq | hq,hl,hw⟩:=hw
  ·cases r
   obtain⟨its,rv,p,hz⟩:=I.list hq
   rw[assign_Tuple]
   refine ah (wpAny_standAt (xV (I.ok.hd hc) p.isList (by simp [hn,←hl,rv.length]) hst fun g hx=>?_))
   have I1:Inv X pins σ H { s with heap:=g }:=I.kept (t':=s.toks) fun b o e=>hx b o (bf (aF e)) e
   exact h pins _ σ H xs _ Q I1 (by simpa using rv) hw
  ·exact Cq (pos:=pos) (k:=k) hc h hn hst pins s σ H _ u Q I r ⟨a,xs,rfl,hq,hl,hw⟩
 | _=>exact False.elim hw
theorem ke {k:Nat}{t:TGs}{n:Nat}{pos:Pos} (hK:X.K=K) (hc:X.calm=true) (h:PGs X es t)
  (hn:(assignEach es X.env).length=n:=by rfl) (hst:(assignEach es X.env).findIdx? (·.1)=none:=by rfl):PG X (.Tuple es k pos) (GF K n t):=hK ▸ Hx hc h hn hst
theorem Gs {K:PySem.W.Frag}{n:Nat}{t:TGs}{a:Addr}{σ:St}{H:Hp}{Q:St->Hp->Prop}:GF K n t (.ref a) σ H Q=∃ xs,Sq K H a xs/\xs.length=n/\t xs σ H Q:=propext Iff.rfl
theorem AI {t:TG}{u:TGs}{v:V}{r:List V}{σ:St}{H:Hp}{Q:St->Hp->Prop}:sE t u (v::r) σ H Q=t v σ H fun σ' H'=>u r σ' H' Q:=propext ⟨fun ⟨_,_,e,h⟩=>by cases e;exact h,fun h=>⟨v,r,rfl,h⟩⟩
theorem Dy {σ:St}{H:Hp}{Q:St->Hp->Prop}:DW [] σ H Q=Q σ H:=propext ⟨fun h=>h.2,fun h=>⟨rfl,h⟩⟩
def tS (l:List Nat) (lo hi:Option Int):List Nat:=(l.drop (HT.sIx l.length 0 lo)).take (HT.sIx l.length l.length hi-HT.sIx l.length 0 lo)
theorem uP (l:List Nat) (lo hi:Option Int):(tS l lo hi).length<=l.length:=by
 unfold tS
 rw[gI,dE]
 omega
theorem xC (l:List α) (a k:Nat):((List.range k).map fun j=>a+j).filterMap (l[·]?)=(l.drop a).take k:=by
 induction k with
 | zero=>simp
 | succ k ih =>
  rw[List.range_succ,b9,List.filterMap_append,ih,List.take_succ]
  congr 1
  simp only[bz,List.map_nil,List.filterMap_cons,List.filterMap_nil,nW]
  cases l[a+k]?<;>rfl
def fK:Option Int->Tok->Option (Int×Tok)
 | some i,t=>some (i,t)
 | none,_=>none
def yd (n d:Nat):Option Int->Int
 | none=>d
 | some i=>max 0 (min (if i<0 then i+(n:Int) else i) (n:Int))
theorem vN (n d:Nat) (o:Option Int):yd n d o=((HT.sIx n d o:Nat):Int):=by
 cases o with
 | none=>rfl
 | some v =>
  show max 0 (min (if v<0 then v+(n:Int) else v) (n:Int))=((if v<0 then (v+(n:Int)).toNat else min v.toNat n:Nat):Int)
  by_cases h:v<0
  ·rw[if_pos h,if_pos h];omega
  ·rw[if_neg h,if_neg h];omega
theorem tZ (lo hi:Option Int) (n:Nat):Builtin.Str.strSliceIndices lo hi 1 n=sliceRange (yd n 0 lo) (yd n n hi) 1:=by
 unfold Builtin.Str.strSliceIndices yd
 cases lo<;>cases hi<;>simp
theorem range_one (a b:Nat):sliceRange (a:Int) (b:Int) 1=(List.range (b-a)).map fun j=>a+j:=by
 unfold sliceRange
 have e3:(if (1:Int)>0 then (if (a:Int)<(b:Int) then ((b:Int)-(a:Int)+1-1)/1 else 0) else (if (a:Int)>(b:Int) then ((a:Int)-(b:Int)-1-1)/(-1) else 0)).toNat=b-a:=by
  rw[if_pos (by decide)]
  split<;>omega
 show ((List.range (if (1:Int)>0 then (if (a:Int)<(b:Int) then ((b:Int)-(a:Int)+1-1)/1 else 0) else (if (a:Int)>(b:Int) then ((a:Int)-(b:Int)-1-1)/(-1) else 0)).toNat).map fun (k:Nat)=>((a:Int)+1*(k:Int)).toNat)=_
 rw[e3]
 exact jL fun k _=>by omega
theorem nH (x:Str) (lo hi:Option Int) (t u:Tok):slicePicked x (fK lo t) (fK hi u) none=(List.range (HT.sIx x.length x.length hi-HT.sIx x.length 0 lo)).map fun j=>HT.sIx x.length 0 lo+j:=by
 unfold slicePicked
 have e1:(fK lo t).map (·.1)=lo:=by cases lo<;>rfl
 have e2:(fK hi u).map (·.1)=hi:=by cases hi<;>rfl
 rw[e1,e2]
 show Builtin.Str.strSliceIndices lo hi 1 x.length=_
 rw[tZ,vN,vN,range_one]
theorem xD (x:Str) (lo hi:Option Int) (t u:Tok):(slicePicked x (fK lo t) (fK hi u) none).filterMap (x.cps[·]?)=tS x.cps.toList lo hi:=by
 have e5:(fun i:Nat=>x.cps[i]?)=fun i:Nat=>x.cps.toList[i]?:=by funext i;rw[rR]
 rw[nH,e5,xC]
 unfold tS
 rw[←gr]
theorem EW :SlR X (fun x lo hi H Q=>∃ z,x=.str z/\z.length<=sizeLine/\Q (.str (tx (tS z.cps.toList lo hi))) H):=by
 intro pins s σ H x v vl vu lo hi sl Q I rx hs pl pu h
 obtain⟨z,rfl,hz,q⟩:=h
 obtain⟨t,rfl⟩:=rx
 refine⟨"str",_,F.slot_str_getitem.lookup,typeIs_str s z t,?_⟩
 have h1:∃ tl,vl=partValue (fK lo tl):=by cases pl with | none=>exact⟨0,rfl⟩ | int i t=>exact⟨t,rfl⟩
 have h2:∃ tu,vu=partValue (fK hi tu):=by cases pu with | none=>exact⟨0,rfl⟩ | int i t=>exact⟨t,rfl⟩
 obtain⟨tl,rfl⟩:=h1
 obtain⟨tu,rfl⟩:=h2
 refine wpAny_getItem_str_slice (l:=fK lo tl) (u:=fK hi tu) (st:=none) hs rfl ?_
 have ec:=xD z lo hi tl tu
 have key:tx (tS z.cps.toList lo hi)=⟨((slicePicked z (fK lo tl) (fK hi tu) none).filterMap (z.cps[·]?)).toArray⟩:=by rw[ec];rfl
 unfold sliceMade
 split
 next hh =>
  have hl:(slicePicked z (fK lo tl) (fK hi tu) none).length=z.length:=by simpa using hh
  rw[nH,List.length_map,List.length_range] at hl
  have b1:=HT.CJ z.length 0 (bh _) lo
  have b2:=HT.CJ z.length z.length (ai _) hi
  have e:tx (tS z.cps.toList lo hi)=z:=by
   unfold tS
   rw[←gr,hl]
   by_cases hz0:z.length=0
   ·have:z.cps.toList=[]:=by rw[←List.length_eq_zero_iff,←gr];exact hz0
    rw[this]
    have:=tm z
    rw[‹z.cps.toList=[]›] at this
    simpa using this
   ·rw[show HT.sIx z.length 0 lo=0 by omega,List.drop_zero,eL (by rw[←gr];exact ai _)]
    exact tm z
  rw[e] at q
  exact⟨.str z,H,I,⟨t,rfl⟩,q⟩
 next =>
  rw[←key]
  refine⟨?_,.str _,H,I.tok _,⟨_,rfl⟩,q⟩
  rw[fq]
  have:=uP z.cps.toList lo hi
  rw[←gr] at this
  omega
def HD (K:PySem.W.Frag):V->Option Int->Option Int->Hp->VK->Prop:=fun x lo hi H Q=>match x with
 | .ref a=>∃ xs,SqL K H a xs/\nw H (.lst (pO xs lo hi)) Q
 | .str z=>z.length<=sizeLine/\Q (.str (tx (tS z.cps.toList lo hi))) H
 | _=>False
theorem JD :SlR X (HD X.K):=by
 intro pins s σ H x v vl vu lo hi sl Q I rx hs pl pu h
 cases x with
 | ref a =>
  obtain⟨xs,h1,h2⟩:=h
  exact EV pins s σ H _ v vl vu lo hi sl Q I rx hs pl pu ⟨a,xs,rfl,h1,h2.go⟩
 | str z=>exact EW pins s σ H _ v vl vu lo hi sl Q I rx hs pl pu ⟨z,rfl,h.1,h.2⟩
 | _=>exact False.elim h
theorem yJ (hK:X.K=K):SlR X (HD K):=hK ▸ JD
theorem gv.mark {k:Nat}{A:Around}{e:Option Value} (r:gv k A):gv k (A.mark e):=⟨r.dp,r.un⟩
end
section
def gQ (x:Key) (l:List Key):Bool:=l.any fun y=>decide (y=x)
theorem qS {x:Key}{l:List Key}:gQ x l=true↔x∈l:=by
 unfold gQ
 rw[iD]
 exact⟨fun ⟨y,h,e⟩=>of_decide_eq_true e ▸ h,fun h=>⟨x,h,decide_eq_true rfl⟩⟩
theorem zU (x y:Key) (l:List Key):gQ x (l++[y])=(gQ x l||decide (y=x)):=by
 unfold gQ
 rw[List.any_append];simp
def cR (val:Nat->Key):Nat->List Key
 | 0=>[]
 | i+1=>if gQ (val i) (cR val i)=true then cR val i else cR val i++[val i]
theorem qT (val:Nat->Key):∀ i,(cR val i).length<=i
 | 0=>ai _
 | i+1=>by
  have ih:=qT val i
  unfold cR
  split
  ·omega
  ·rw[bb,lJ];omega
theorem vS {S S':Key->Bool}{n n':Nat} (x:h.SetOf (aY P w) a S n) (e:∀ k,S k=S' k) (en:n=n'):h.SetOf (aY P w) a S' n':=by
 have z:S=S':=funext e
 subst z;subst en;exact x
section
variable {prog:Program}{w:World}{A:Around}{R:Result->Shared->Prop}{c:Addr}{fp wr:List Addr}{G:Array GenState->Array GenState->Prop}{n:Nat}{Pv:Nat->Value->Prop}{Sv:Nat->Shared->Prop}
theorem vZ (W:WalksS prog w A.in1 c fp wr G n Pv Sv) (a:Addr) (na:a∉fp) (val:Nat->Key) (hv:∀ i v,Pv i v->kK (val i) v=true/\v.scannable=true) (hb:n+1<scanBound) :
  ∀ (k i:Nat) (s:Shared),n-i=k->i<=n->Sv i s->s.heap.SetOf (aY prog w) a (fun x=>gQ x (cR val i)) (cR val i).length →
   (∀ s',Moved (a::wr) G s s'->s'.heap.SetOf (aY prog w) a (fun x=>gQ x (cR val n)) (cR val n).length->R (.ok (.ret .none)) s') →
   codeAny (model prog w) A (.builtin "set.update.loop" ⟨[.ref a,.ref c],[]⟩) R s:=by
 have nw':a∉wr:=fun z=>na (W.sub _ z)
 have sb:∀ b∈wr,b∈a::wr:=fun b h=>List.mem_cons_of_mem _ h
 have nh:∀ {s s':Shared}{S:Key->Bool}{m:Nat},Moved wr G s s'->s.heap.SetOf (aY prog w) a S m->s'.heap.SetOf (aY prog w) a S m:=fun mv x=>by
  obtain⟨o,es,ep,t,ho,r⟩:=x
  exact⟨o,es,ep,t,mv.heap a _ nw' ho,r⟩
 intro k
 induction k with
 | zero =>
  intro i s hk hi st x q
  have e:i=n:=by omega
  subst e
  refine jQ PyProof.Rows.F.entry_set_update_loop ?_
  rw[Around.under_plainId rQ _]
  show wpAny _ A.in1 (pyNext (.ref c) >>= _) _ _ s
  refine ah (W.done s _ _ st fun s' mv=>?_)
  exact ax (q s' (mv.mono sb) (nh mv x))
 | succ k ih =>
  intro i s hk hi st x q
  have lt:i<n:=by omega
  refine jQ PyProof.Rows.F.entry_set_update_loop ?_
  rw[Around.under_plainId rQ _]
  show wpAny _ A.in1 (pyNext (.ref c) >>= _) _ _ s
  refine ah (W.item i s _ _ lt st fun v s' pv st' mv=>?_)
  obtain⟨hk1,hk2⟩:=hv i v pv
  have x':=nh mv x
  show wpAny _ A.in1 (holding [v] (setAdd a v) >>= _) _ _ s'
  refine ah (da ?_)
  unfold setAdd
  refine da ?_
  refine ah ((aY prog w).pyHash (k:=val i) hk1 ?_)
  have room:(cR val i).length+1<scanBound:=by have:=qT val i;omega
  refine wpAny_setAddHashed_of (knd:=aY prog w) (s:={ s' with toks:=s'.toks+1 }) hk1 hk2 x' room fun g sg xg=>?_
  have x2:g.SetOf (aY prog w) a (fun y=>gQ y (cR val (i+1))) (cR val (i+1)).length:=by
   refine vS xg (fun y=>?_) ?_
   ·show (gQ y (cR val i)||decide (y=val i))=gQ y (if gQ (val i) (cR val i)=true then cR val i else cR val i++[val i])
    by_cases hc:gQ (val i) (cR val i)=true
    ·rw[if_pos hc]
     by_cases e:y=val i
     ·subst e;rw[hc,Bool.true_or]
     ·rw[decide_eq_false e,Bool.or_false]
    ·rw[if_neg hc,zU]
     congr 1
     by_cases e:y=val i
     ·rw[decide_eq_true e,decide_eq_true e.symm]
     ·rw[decide_eq_false e,decide_eq_false (Ne.symm e)]
   ·show (if gQ (val i) (cR val i)=true then (cR val i).length else (cR val i).length+1)=(if gQ (val i) (cR val i)=true then cR val i else cR val i++[val i]).length
    by_cases hc:gQ (val i) (cR val i)=true
    ·rw[if_pos hc,if_pos hc]
    ·rw[if_neg hc,if_neg hc,bb];rfl
  refine ax ⟨plainId_quiet rQ _,ih (i+1) _ (by omega) lt (W.frame _ s' _ _ st' (iF _) fun b hb o e=>?_) x2 fun s'' mv2 x3=>?_⟩
  ·rw[sg.2 b (fun z:b=a=>na (by rw[←z];exact hb))];exact e
  ·refine q s'' (Moved.trans W.gtrans ((mv.mono sb).then_heap (iF _) fun b o hb e=>?_) mv2) x3
   rw[sg.2 b (fun z:b=a=>hb (by rw[z];exact List.mem_cons_self))];exact e
end
def jt (z:Str) (i:Nat):Key:=Sum.inr ⟨#[z.cps.toList.getD i 0]⟩
theorem sub_str_set:isSubtype (.type "str") (.type "set")=pure false:=by rw[isSubtype_type];kernel_rfl
theorem rM:isSubtype (.type "str") (.type "frozenset")=pure false:=by rw[isSubtype_type];kernel_rfl
set_option maxRecDepth 100000 in
set_option maxHeartbeats 4000000 in
theorem vT {prog:Program}{w:World}{E:Value->Shared->Prop}{s:Shared}{z:Str}{t:Tok}{Q:Value->Shared->Prop} (hh:A.handled=none) (hb:z.cps.size+1<scanBound)
  (q:∀ (g:Heap) (tk:Nat),g.SetOf (aY prog w) s.heap.objs.size (fun x=>gQ x (cR (jt z) z.cps.size)) (cR (jt z) z.cps.size).length->(∀ b o,b<s.heap.objs.size->s.heap.get? b=some o->g.get? b=some o) →
   Q (.ref s.heap.objs.size) { s with heap:=g,toks:=tk }):wpAny (model prog w) A (call (.type "set") [.str z t]) Q E s:=by
 obtain⟨c,tl,hmro⟩:=iV.mro
 have hmade:=iV.made
 have hsub:=iV.sub
 refine gK (codeAny_of_tree ?_)
 show wpAny _ _ (callAny (.type "set") _) _ _ _
 refine ax ⟨Code.quiet_builtin _ (by decide +kernel),jQ F.entry_type_call ?_⟩
 rw[Around.under_plain (weight_type_call_type "set" [.str z t] []) rfl]
 have h1:=iV.notType
 have h2:=iV.canCreate
 have hct:=F.typeCall_set_1 (.str z t)
 repeat (any_goals (first | assumption | wp_step))
 refine fU (code_set_new_1 (.str z t) (E:=E) (Q₁:=fun ob s1=>∃ led:Bool,ob=.ref s.heap.objs.size/\s1={ s with heap:=s.heap.push { cls:=.type "set",dict:=none,data:=.set #[] 0 (.fresh 0 0 led) } }) fun led=>⟨led,rfl,rfl⟩) fun r s1 hr=>?_
 cases r with
 | error e=>exact hr
 | ok fl =>
  cases fl with
  | ret ob =>
   obtain⟨led,rfl,rfl⟩:=hr
   generalize hg1:s.heap.push { cls:=.type "set",dict:=none,data:=.set #[] 0 (.fresh 0 0 led) }=g1
   have hS:g1.get? s.heap.objs.size=some { cls:=.type "set",dict:=none,data:=.set #[] 0 (.fresh 0 0 led) }:=by rw[←hg1];exact aZ _ rfl
   have hsz:g1.objs.size=s.heap.objs.size+1:=by rw[←hg1,iA]
   have hkp:∀ b o,s.heap.get? b=some o->g1.get? b=some o:=fun b o e=>by rw[←hg1];exact aH _ e
   have hT:Shared.TypeIs { s with heap:=g1 } (.ref s.heap.objs.size) "set":=⟨_,hS,rfl⟩
   have hli:=iV.init.lookup
   have hbi:=iV.init.bind (.ref s.heap.objs.size)
   repeat (any_goals (first | assumption | wp_step))
   refine fU (codeAny_call_builtin (R:=wants (fun r s2=>r=.none/\∃ g tk,s2={ s with heap:=g,toks:=tk }/\g.SetOf (aY prog w) s.heap.objs.size (fun x=>gQ x (cR (jt z) z.cps.size)) (cR (jt z) z.cps.size).length ∧
     (∀ b o,b<s.heap.objs.size->s.heap.get? b=some o->g.get? b=some o)) E) iV.init.plain F.entry_set_init (check_set_init_1 hT ?_)) fun r2 s2 hr2=>?_
   ·have k1:=sub_str_set
    have k2:=rM
    have k3:(Value.type "str"==Value.type "dict")=false:=by decide
    have hh3:A.in1.in1.in1.handled=none:=by simp [hh]
    have hval:∀ i v,SignAt z i v->kK (jt z i) v=true/\v.scannable=true:=by
     rintro i v ⟨ch,u,e,rfl⟩
     refine⟨?_,rfl⟩
     have e2:z.cps.toList.getD i 0=ch:=by rw[List.getD_eq_getElem?_getD,rR,e];rfl
     unfold jt
     rw[e2]
     exact sN _ _
    have fin:∀ (g2:Heap),(∀ b o,g1.get? b=some o->g2.get? b=some o)->∀ s',Moved (s.heap.objs.size::[g1.objs.size]) (fun a b=>b=a) { s with heap:=g2 } s' →
      s'.heap.SetOf (aY prog w) s.heap.objs.size (fun x=>gQ x (cR (jt z) z.cps.size)) (cR (jt z) z.cps.size).length →
      ∃ g tk,s'={ s with heap:=g,toks:=tk }/\g.SetOf (aY prog w) s.heap.objs.size (fun x=>gQ x (cR (jt z) z.cps.size)) (cR (jt z) z.cps.size).length/\(∀ b o,b<s.heap.objs.size->s.heap.get? b=some o->g.get? b=some o):=by
     intro g2 k4 s' mv x
     obtain⟨g,ge,d,tk,os⟩:=s'
     have eg:ge=s.gens:=mv.gens
     have ed:d=s.drawn:=mv.drawn
     have eo:os=s.os:=mv.os
     subst eg;subst ed;subst eo
     refine⟨g,tk,rfl,x,fun b o hb e=>mv.heap b o ?_ (k4 b o (hkp b o e))⟩
     simp only[aD,bM,bN,not_or]
     rw[hsz]
     exact⟨bf hb,bf (eY hb)⟩
    have start:∀ g2:Heap,(∀ b o,g1.get? b=some o->g2.get? b=some o)->g2.SetOf (aY prog w) s.heap.objs.size (fun x=>gQ x (cR (jt z) 0)) (cR (jt z) 0).length:=fun g2 k4 =>
     letI:BEq Key:=instBEqOfDecidableEq
     vS ((PyProof.Rows.setObjOf_fresh (knd:=aY prog w) led).setOf (k4 _ _ hS) (by unfold scanBound;omega)) (fun _=>rfl) rfl
    have na:s.heap.objs.size∉[g1.objs.size]:=by simp only[aD,bM,bN];omega
    unfold Builtin.«set.__init__» noKeywords Builtin.Frozenset.updateFrom
    generalize hPI:pyIter=PI
    wp_walk
    subst hPI
    cases ha:z.cps.all (·<128) with
    | true =>
     refine wpAny_pyIter_ascii ha ?_
     refine ah (wpAny_runValue ?_)
     refine vZ ((Walks.strAscii hh3 g1.objs.size z t).toS) s.heap.objs.size na (jt z) hval hb (z.cps.size-0) 0 _ (by omega) (bh _) ⟨_,aZ _ rfl,rfl,rfl⟩ (start _ fun b o e=>aH _ e) fun s' mv x=>?_
     obtain⟨g,tk,e,r1,r2⟩:=fin _ (fun b o e=>aH _ e) s' mv x
     refine ax ?_
     show wpAny _ _ (ret Value.none) _ _ _
     exact ax ⟨rfl,g,tk,e,r1,r2⟩
    | false =>
     refine wpAny_pyIter_wide ha ?_
     refine ah (wpAny_runValue ?_)
     refine vZ ((Walks.strWide hh3 g1.objs.size z t).toS) s.heap.objs.size na (jt z) hval hb (z.cps.size-0) 0 _ (by omega) (bh _) ⟨_,aZ _ rfl,rfl,rfl⟩ (start _ fun b o e=>aH _ e) fun s' mv x=>?_
     obtain⟨g,tk,e,r1,r2⟩:=fin _ (fun b o e=>aH _ e) s' mv x
     refine ax ?_
     show wpAny _ _ (ret Value.none) _ _ _
     exact ax ⟨rfl,g,tk,e,r1,r2⟩
   ·cases r2 with
    | error e=>exact hr2
    | ok fl2 =>
     cases fl2 with
     | ret v =>
      obtain⟨rfl,g,tk,rfl,x1,x2⟩:=hr2
      repeat (any_goals (first | assumption | wp_step))
      exact q _ _ x1 x2
     | _=>exact hr2.elim
  | _=>exact hr.elim
end
section
def xK (P:Program) (w:World) (a:Addr) (l:List Key):HO:=.ext fun h=>h.SetOf (aY P w) a (fun x=>gQ x l) l.length
theorem ET {l:List Key} (x:h.SetOf (aY P w) a (fun x=>gQ x l) l.length):bH P w H h a (xK P w a l):=by
 refine⟨x,?_,fun h1 h2 y k=>?_⟩
 ·obtain⟨o,_,_,_,e,_⟩:=x;exact⟨o,e⟩
 ·obtain⟨o,es,ep,t,e,r⟩:=y;exact⟨o,es,ep,t,k o e,r⟩
def C6 (P:Program) (w:World):List V->Hp->VK->Prop:=fun vs H Q=>match vs with
 | [.str z]=>z.length<=4000/\∀ p H',H p=none->aq H H'->H' p=some (xK P w p (cR (jt z) z.length))->Q (.ref p) H'
 | _=>False
theorem zp (hc:X.calm=true):cC X (.type "set") (C6 X.prog X.w):=by
 intro pins s σ H xs us Q I r h
 match xs,h with
 | [.str z],h =>
  obtain⟨u,rfl,t,rfl⟩:=vals1 r
  have hf:H s.heap.objs.size=none:=I.hok.fresh (ai _)
  have hz:z.cps.size<=4000:=h.1
  refine vT (I.ok.hd hc) (by unfold scanBound;omega) fun g tk x k=>?_
  have kk:∀ b o,s.heap.get? b=some o->g.get? b=some o:=fun b o e=>k b o (aF e) e
  exact⟨.ref s.heap.objs.size,upd H s.heap.objs.size (xK X.prog X.w s.heap.objs.size (cR (jt z) z.length)),I.laid (t':=tk) kk (ai _) (ET x),rfl,h.2 _ _ hf (dw hf) az⟩
def C2 (P:Program) (w:World):List V->Hp->VK->Prop:=fun vs H Q=>match vs with
 | [.ref p]=>∃ l,H p=some (xK P w p l)/\Q (.int l.length) H
 | _=>False
theorem zg :cC X (.builtin "len") (C2 X.prog X.w):=by
 intro pins s σ H xs us Q I r h
 match xs,h with
 | [.ref p],h =>
  obtain⟨l,e,q⟩:=h
  obtain⟨u,rfl,ru⟩:=vals1 r
  cases ru
  obtain⟨⟨o,es,ep,t,e1,e2,e3,_,_,e4,e5,e6⟩,_⟩:=(show bH X.prog X.w H s.heap p (xK X.prog X.w p l) from I.hok p _ e)
  refine call_len_set e1 e2 e3 e5 (by have:es.size<4096:=e4;omega) ⟨.int es.size,H,I.tok _,⟨_,rfl⟩,?_⟩
  rw[e6];exact q
theorem zo (hP:X.prog=P) (hw:X.w=w) (hc:X.calm=true):cC X (.type "set") (C6 P w):=by subst hP hw;exact zp hc
theorem wq (hP:X.prog=P) (hw:X.w=w):cC X (.builtin "len") (C2 P w):=by subst hP hw;exact zg
theorem qU (val:Nat->Key):∀ (n:Nat) (x:Key),x∈cR val n↔∃ i,i<n/\val i=x
 | 0,x=>⟨fun h=>(by cases h),fun ⟨i,h,_⟩=>absurd h (Nat.not_lt_zero _)⟩
 | n+1,x=>by
  have ih:=qU val n
  unfold cR
  by_cases hc:gQ (val n) (cR val n)=true
  ·rw[if_pos hc,ih x]
   obtain⟨j,hj,ej⟩:=(ih (val n)).mp (qS.mp hc)
   constructor
   ·rintro⟨i,h,e⟩;exact⟨i,eY h,e⟩
   ·rintro⟨i,h,e⟩
    rcases og.mp h with h | h
    ·exact⟨i,h,e⟩
    ·exact⟨j,hj,by rw[ej,←h,e]⟩
  ·rw[if_neg hc,bL,bc,ih x]
   constructor
   ·rintro (⟨i,h,e⟩ | e)
    ·exact⟨i,eY h,e⟩
    ·exact⟨n,jM _,e.symm⟩
   ·rintro⟨i,h,e⟩
    rcases og.mp h with h | h
    ·exact .inl ⟨i,h,e⟩
    ·exact .inr (by rw[←e,h])
theorem sP (val:Nat->Key):∀ n,(cR val n).length=n↔∀ i j,i<n->j<n->val i=val j->i=j
 | 0=>⟨fun _ i _ h=>absurd h (Nat.not_lt_zero _),fun _=>rfl⟩
 | n+1=>by
  have ih:=sP val n
  have hl:=qT val n
  unfold cR
  by_cases hc:gQ (val n) (cR val n)=true
  ·rw[if_pos hc]
   obtain⟨j,hj,ej⟩:=(qU val n (val n)).mp (qS.mp hc)
   constructor
   ·intro h;omega
   ·intro h
    have:=h j n (eY hj) (jM _) ej
    omega
  ·rw[if_neg hc,bb,lJ]
   have nm:∀ i,i<n->val i≠val n:=fun i hi e=>hc (qS.mpr ((qU val n (val n)).mpr ⟨i,hi,e⟩))
   constructor
   ·intro h i j hi hj e
    have h2:=ih.mp (by omega)
    rcases og.mp hi with hi | hi<;>rcases og.mp hj with hj | hj
    ·exact h2 i j hi hj e
    ·subst hj;exact absurd e (nm i hi)
    ·subst hi;exact absurd e.symm (nm j hj)
    ·omega
   ·intro h
    have:=ih.mpr fun i j hi hj=>h i j (eY hi) (eY hj)
    omega
theorem sQ (z:Str):(cR (jt z) z.length).length=z.length↔z.cps.toList.Nodup:=by
 rw[sP,List.nodup_iff_pairwise_ne,List.pairwise_iff_getElem]
 have hl:=gr z
 constructor
 ·intro h i j hi hj hij e
  have:=h i j (by omega) (by omega) (by unfold jt;rw[List.getD_eq_getElem?_getD,List.getD_eq_getElem?_getD,List.getElem?_eq_getElem hi,List.getElem?_eq_getElem hj,e])
  omega
 ·intro h i j hi hj e
  have hi':i<z.cps.toList.length:=by omega
  have hj':j<z.cps.toList.length:=by omega
  have e2:z.cps.toList[i]=z.cps.toList[j]:=by
   unfold jt at e
   rw[List.getD_eq_getElem?_getD,List.getD_eq_getElem?_getD,List.getElem?_eq_getElem hi',List.getElem?_eq_getElem hj'] at e
   have e4:=bu Str.cps (Sum.inr.inj e)
   simpa using e4
  rcases Nat.lt_trichotomy i j with z1 | z1 | z1
  ·exact absurd e2 (h i j hi' hj' z1)
  ·exact z1
  ·exact absurd e2.symm (h j i hj' hi' z1)
theorem mw:bootBuiltins "ValueError"=some (.type "ValueError"):=by kernel_rfl
def ndB:List Addr->Bool
 | []=>true
 | a::r=>!r.contains a&&ndB r
theorem BY:∀ {l:List Addr} (_:ndB l=true) {i j:Nat}{a b:Addr},l[i]?=some a->l[j]?=some b->(a==b)=decide (i=j)
 | [],_,_,_,_,_,h,_=>by simp at h
 | x::l,hn,0,0,a,b,ha,hb=>by
  simp at ha hb
  subst ha hb
  simp
 | x::l,hn,0,j+1,a,b,ha,hb=>by
  unfold ndB at hn
  rw[cf,Bool.not_eq_true'] at hn
  simp at ha hb
  subst ha
  have hm:b∈l:=bp hb
  have:x≠b:=fun e=>by rw[e,List.contains_iff_mem.mpr hm] at hn;cases hn.1
  simp [this]
 | x::l,hn,i+1,0,a,b,ha,hb=>by
  unfold ndB at hn
  rw[cf,Bool.not_eq_true'] at hn
  simp at ha hb
  subst hb
  have hm:a∈l:=bp ha
  have:a≠x:=fun e=>by rw[←e,List.contains_iff_mem.mpr hm] at hn;cases hn.1
  simp [this]
 | x::l,hn,i+1,j+1,a,b,ha,hb=>by
  unfold ndB at hn
  rw[cf] at hn
  rw[BY hn.2 (i:=i) (j:=j) (by simpa using ha) (by simpa using hb)]
  exact fV.mpr (by omega)
theorem dA {H H':Hp} (s:aq H H') {x:V}{t:Tg} (h:cz H x=some t):cz H' x=some t:=by
 cases x with
 | ref a =>
  have h':i8 (H a)=some t:=h
  cases e:H a with
  | none=>rw[e] at h';cases h'
  | some o =>
   show i8 (H' a)=some t
   rw[s a o e,←e];exact h'
 | _=>exact h
end
section
theorem pV {k:Nat}:items[((k:Nat):Int).toNat]?=(items.toList.drop k)[0]?:=by
 rw[nW,Int.toNat_natCast,Nat.add_zero,rR]
theorem yk {k:Nat}{r:List Value} (h:items.toList.drop k=v::r):items.toList.drop (k+1)=r:=by
 rw[←List.drop_drop,h];rfl
def kL:List Int->List Int->Bool
 | [],[]=>true
 | [],_::_=>false
 | _::_,[]=>true
 | a::x,c::y=>if a=c then kL x y else decide (c<=a)
theorem DZ (l b:Addr) (items items2:Array Value) (n n2:Nat) (dd dd2:Option Addr) (sl sl2:Array (Option Value)) {prog:Program}{w:World}{A:Around}{R:Result->Shared->Prop}{s:Shared}
  (hl:s.heap.get? l=some { cls:=.type "list",dict:=dd,data:=.seq items n,slots:=sl }) (hb:s.heap.get? b=some { cls:=.type "list",dict:=dd2,data:=.seq items2 n2,slots:=sl2 }) :
  ∀ (xs:List Value) (k:Nat) (ns ms:List Int),items.toList.drop k=xs->IntsAre xs ns->IntsAre (items2.toList.drop k) ms->k<=items.size->k<=items2.size->R (.ok (.ret (.bool (kL ns ms)))) s →
   codeAny (model prog w) A (Code.builtin "list.__eq__.loop" { pos:=[.ref l,.ref b,rawInt (k:Int),rawInt 5] }) R s:=by
 obtain⟨hp,g,d,tk,os⟩:=s
 simp only at hl hb
 intro xs
 induction xs with
 | nil =>
  intro k ns ms hx hi hj hk hk2 h
  refine jQ MeetsSeq3.entry_eq_loop ?_
  show wpAny _ _ (Builtin.«list.__eq__.loop» { pos:=[.ref l,.ref b,Value.int (k:Int) 0,Value.int 5 0] }) _ _ _
  unfold Builtin.«list.__eq__.loop»
  have e1:items[((k:Nat):Int).toNat]?=none:=by rw[pV,hx];rfl
  have hz:items.size=k:=by have:=bu List.length hx;rw[dE,ib,eU] at this;omega
  have hz2:items2.size-k=ms.length:=by have:=hj.length;rw[dE,ib] at this;exact this
  wp_walk using AutoSeq1.wpAny_loadPart' hl,AutoSeq1.wpAny_loadPart' hb
  rw[e1]
  wp_walk using AutoSeq1.wpAny_loadPart' hl,AutoSeq1.wpAny_loadPart' hb
  cases hi
  have e2:kL [] ms=decide (items.size≥items2.size):=by
   cases ms with
   | nil=>exact (decide_eq_true (by simp only[eU] at hz2;omega)).symm
   | cons c y=>exact (decide_eq_false (by simp only[br] at hz2;omega)).symm
  rw[e2] at h
  exact h
 | cons v xs ih =>
  intro k ns ms hx hi hj hk hk2 h
  refine jQ MeetsSeq3.entry_eq_loop ?_
  show wpAny _ _ (Builtin.«list.__eq__.loop» { pos:=[.ref l,.ref b,Value.int (k:Int) 0,Value.int 5 0] }) _ _ _
  unfold Builtin.«list.__eq__.loop»
  have e1:items[((k:Nat):Int).toNat]?=some v:=by rw[pV,hx];rfl
  have hz:items.size=k+(xs.length+1):=by have:=bu List.length hx;rw[dE,ib,br] at this;omega
  wp_walk using AutoSeq1.wpAny_loadPart' hl,AutoSeq1.wpAny_loadPart' hb
  rw[e1]
  cases hi with
  | cons a t hi' =>
  generalize hy:items2.toList.drop k=ys at hj
  cases hj with
  | nil =>
   have e2:items2[((k:Nat):Int).toNat]?=none:=by rw[pV,hy];rfl
   have hz2:items2.size=k:=by have:=bu List.length hy;rw[dE,ib,eU] at this;omega
   rw[e2]
   wp_walk using AutoSeq1.wpAny_loadPart' hl,AutoSeq1.wpAny_loadPart' hb
   have e3:∀ z,kL (a::z) []=decide (items.size≥items2.size):=fun z=>(decide_eq_true (by omega)).symm
   rw[e3] at h
   exact h
  | cons c u hj' =>
   have e2:items2[((k:Nat):Int).toNat]?=some (.int c u):=by rw[pV,hy];rfl
   have hz2:k+1<=items2.size:=by have:=bu List.length hy;rw[dE,ib,br] at this;omega
   rw[e2]
   obtain⟨e,he,hiff⟩:=HT.Bi (A.under (Code.builtin "list.__eq__.loop" { pos:=[.ref l,.ref b,rawInt (k:Int),rawInt 5] })) ⟨hp,g,d,tk,os⟩ a t c u
   refine ah (he prog w _ _ ?_)
   unfold kL at h
   cases e with
   | true =>
    rw[if_pos (hiff.mp rfl)] at h
    wp_walk
    exact⟨by with_unfolding_all rfl,ih (k+1) _ _ (yk hx) hi' (by rw[yk hy];exact hj') (by omega) (by omega) h⟩
   | false =>
    rw[if_neg (fun q=>absurd (hiff.mpr q) bE)] at h
    wp_walk using AutoSeq1.wpAny_loadPart' hl,AutoSeq1.wpAny_loadPart' hb
    rw[e1,e2]
    have hri:∀ (A:Around) (E:Value->Shared->Prop) (Q:Value->Shared->Prop),Q (.bool (decide (c<=a))) ⟨hp,g,d,tk,os⟩->wpAny (model prog w) A (richCompare .GtE (.int a t) (.int c u)) Q E ⟨hp,g,d,tk,os⟩:=fun A E Q h=>(PyProof.Rows.ge_int h:wpAny (model prog w) A (compareOp .GtE (.int a t) (.int c u)) Q E _)
    refine ah (hri _ _ _ ?_)
    wp_walk
    exact h
theorem B0 {l b:Addr}{items items2:Array Value}{ns ms:List Int}{prog:Program}{w:World}{A:Around}{E:Value->Shared->Prop}{Q:Value->Shared->Prop} (hl:s.heap.IsList l items) (hb:s.heap.IsList b items2) (hi:IntsAre items.toList ns) (hj:IntsAre items2.toList ms)
  (hu:A.units<cLine) (h:Q (.bool (kL ns ms)) s):wpAny (model prog w) A (compareOp .GtE (.ref l) (.ref b)) Q E s:=by
 obtain⟨⟨c1,dd,d1,sl⟩,ho,g1,n,g2⟩:=id hl
 obtain⟨⟨c2,dd2,d2,sl2⟩,ho2,g3,n2,g4⟩:=id hb
 simp only at g1 g2 g3 g4
 subst g1 g2 g3 g4
 have m:Meets (Builtin.«list.__ge__» ⟨[.ref l,.ref b],[]⟩) (fun _ R s=>s.heap.get? l=some { cls:=.type "list",dict:=dd,data:=.seq items n,slots:=sl }/\s.heap.get? b=some { cls:=.type "list",dict:=dd2,data:=.seq items2 n2,slots:=sl2 } ∧
    R (.ok (.ret (.bool (kL ns ms)))) s):=by
  intro prog w A R s h
  obtain⟨hp,g,d,tk,os⟩:=s;obtain⟨hl,hb,h⟩:=h
  simp only at hl hb
  have f2:=AutoSeq1.sub_list_list
  unfold Builtin.«list.__ge__»
  wp_walk using AutoSeq1.wpAny_loadPart' hl,AutoSeq1.wpAny_loadPart' hb
  exact⟨by with_unfolding_all rfl,DZ l b items items2 n n2 dd dd2 sl sl2 hl hb _ 0 ns ms rfl hi hj (bh _) (bh _) h⟩
 exact PySem.W.cmp_ofGtE (richCompare_meets_room (op:=.GtE) ⟨_,ho,rfl⟩ ⟨_,ho2,rfl⟩ PySem.F.slot_list_ge PySem.F.entry_list_ge (PySem.F.args_list_ge_2 _ _) m
  ⟨ho,ho2,show Value.bool (kL ns ms)≠Value.notImplemented/\Q (.bool (kL ns ms)) s from ⟨(fun x=>nomatch x),h⟩⟩ hu)
section
variable {X:Cx}{K:PySem.W.Frag}
def IJ (K:PySem.W.Frag):R2:=fun x y H Q=>match x,y with
 | .int i,.int j=>Q (.bl (decide (j<=i))) H
 | .ref a,.ref b=>∃ ns ms,SqL K H a (ns.map V.int)/\SqL K H b (ms.map V.int)/\Q (.bl (kL ns ms)) H
 | _,_=>False
theorem xy (hK:X.K=K) (hu:X.A.units<cLine):OpR X (compareOp .GtE) (IJ K):=by
 subst hK
 intro pins s σ H x y v u Q I rx ry h
 cases x with
 | int i=>cases y with
  | int j=>exact Hh pins s σ H _ _ v u Q I rx ry h
  | _=>exact False.elim h
 | ref a=>cases y with
  | ref b =>
   obtain⟨ns,ms,ha,hb,q⟩:=h
   cases rx
   cases ry
   obtain⟨its,r1,p1,_⟩:=I.list ha
   obtain⟨its2,r2,p2,_⟩:=I.list hb
   exact B0 p1.isList p2.isList (intsAre_of r1) (intsAre_of r2) hu ⟨.bl (kL ns ms),H,I,rfl,q⟩
  | _=>exact False.elim h
 | _=>exact False.elim h
end
theorem cN {t u:TS} (h:∀ nn:TS,nn=u->t { D with nx:=fun σ' H'=>nn D σ' H' } σ H):Fc t u D σ H:=h u rfl
theorem vd {lo:Int}{n:Nat}{g:TG}{tb:TS}{D:Ends} (Pv:Nat->St->Hp->Prop) (h0:Pv 0 σ H)
  (hs:∀ i σ H,i<n->Pv i σ H->∀ N:St->Hp->Prop,(∀ σ' H',Pv (i+1) σ' H'->N σ' H')->g (.int (lo+i)) σ H fun σ2 H2=>tb { D with nx:=N,ct:=N,bk:=D.nx } σ2 H2) (hd:∀ σ H,Pv n σ H->D.nx σ H):ig g tb D (Itr lo n) σ H :=
 yr Pv h0 (fun i σ H hi hp=>hs i σ H hi hp _ fun _ _ h=>h) hd
theorem fH {g:TG}{tb:TS}{D:Ends} (Pv:Nat->St->Hp->Prop) (h0:Pv 0 σ H) (hl:∀ i σ H,i<=xs.length->Pv i σ H->SqL K H a xs)
  (hs:∀ i x σ H,xs[i]?=some x->Pv i σ H->∀ N:St->Hp->Prop,(∀ σ' H',Pv (i+1) σ' H'->N σ' H')->g x σ H fun σ2 H2=>tb { D with nx:=N,ct:=N,bk:=D.nx } σ2 H2) (hd:∀ σ H,Pv xs.length σ H->D.nx σ H):ig g tb D (Itl K a) σ H :=
 yq Pv h0 hl (fun i x σ H hi hp=>hs i x σ H hi hp _ fun _ _ h=>h) hd
end
section
theorem rL (c:Nat):∀ (ls:List (List Nat)),(tx [c]).join (ls.map tx)=tx (Mk.fv c ls)
 | []=>rfl
 | [w]=>by rfl
 | w::v::ws=>by
  have ih:=rL c (v::ws)
  show tx w++tx [c]++(tx [c]).join ((v::ws).map tx)=tx (w++c::Mk.fv c (v::ws))
  rw[ih,pe,pe,List.append_assoc]
  rfl
theorem HL (ls:List Str):(ls.map fun z=>z.cps.toList).map tx=ls:=by
 rw[List.map_map]
 conv=>rhs;rw[←List.map_id ls]
 exact jL fun z _=>tm z
theorem CP (l:List Nat) (c:Nat):Txt.split (tx l) (tx [c])=(Mk.bQ c l).map tx:=by
 have h1:=StrLaws.join_split (tx l) (tx [c])
 have h2:∀ p∈Txt.split (tx l) (tx [c]),c∉p.cps.toList:=fun p hp=>StrLaws.split_free (tx l) c p hp
 have h3:=PyProof.Rows.split_pos (tx l) (tx [c])
 generalize Txt.split (tx l) (tx [c])=ps at h1 h2 h3
 rw[←HL ps] at h1 ⊢
 rw[rL] at h1
 rw[←xU h1,Mk.lA]
 ·intro e
  have:=bu List.length e
  simp at this
  rw[this] at h3
  simp at h3
 ·intro w hw
  obtain⟨p,hp,rfl⟩:=aC.mp hw
  exact h2 p hp
def C9:V->List V->Hp->VK->Prop:=fun x vs H Q=>match x,vs with
 | .str z,[.str y]=>z.length<=100000/\∃ c,y=tx [c]/\nw H (.lst ((Mk.bQ c z.cps.toList).map fun w=>.str (tx w))) Q
 | _,_=>False
theorem tK:∀ (l:List (Str×Tok)),Vals ((l.map fun p=>p.1).map V.str) (strValues l)
 | []=>.nil
 | p::l=>.cons ⟨p.2,rfl⟩ (tK l)
theorem xO {prog:Program}{w:World}{A:Around}{E:Value->Shared->Prop}{s:Shared}{x y:Str}{t u:Tok}{Q:Value->Shared->Prop} (hy:(y.length==0)=false) (hsz:x.length+2<=sizeLine)
  (h:∀ (l:List (Str×Tok)) (k:Nat),l.map (fun p=>p.1)=Txt.split x y->Q (.ref s.heap.objs.size) { s with heap:=s.heap.push { cls:=.type "list",data:=.seq (strValues l).toArray },toks:=k }) :
  wpAny (model prog w) A (call (.builtin "str.split") [.str x t,.str y u]) Q E s:=by
 have ex:Txt.split x y=if (decide (x.length<y.length)||decide (Builtin.Str.strKind x<Builtin.Str.strKind y))=true then [x] else if (Builtin.Str.occurrences x y 0 x.length (x.length+1)).isEmpty=true then [x] else Builtin.Str.partsBetween x (Builtin.Str.occurrences x y 0 x.length (x.length+1)) y.length:=rfl
 cases h1:(decide (x.length<y.length)||decide (Builtin.Str.strKind x<Builtin.Str.strKind y)) with
 | true =>
  rw[h1,if_pos rfl] at ex
  refine call_meets F.slot_str_split (typeIs_str s x t) F.entry_str_split (F.args_str_split_2 (Value.str x t) (Value.str y u)) (meets_str_split_cannot_occur x y t u h1) ?_
  exact h [(x,_)] _ ex.symm
 | false =>
  rw[h1,if_neg (by decide)] at ex
  cases hf:(Builtin.Str.occurrences x y 0 x.length (x.length+1)).isEmpty with
  | true =>
   rw[hf,if_pos rfl] at ex
   refine call_meets F.slot_str_split (typeIs_str s x t) F.entry_str_split (F.args_str_split_2 (Value.str x t) (Value.str y u)) (meets_str_split_not_found x y t u h1 hy hf) ?_
   exact h [(x,_)] _ ex.symm
  | false =>
   rw[hf,if_neg (by decide)] at ex
   have hl:=PyProof.Rows.split_le x y
   rw[ex] at hl
   refine call_meets F.slot_str_split (typeIs_str s x t) F.entry_str_split (F.args_str_split_2 (Value.str x t) (Value.str y u)) (meets_str_split_sep x y t u h1 hy hf (by omega) (by omega)) ?_
   show Q _ _
   rw[strsFrom_eq]
   exact h _ _ ((numbered_texts _ _).trans ex.symm)
theorem BX :MtM X "str.split" C9:=by
 intro pins s σ H x vs v us Q I rx rv h
 match x,vs,h with
 | .str z,[.str y],h =>
  obtain⟨hz,c,rfl,q⟩:=h
  obtain⟨t,rfl⟩:=rx
  obtain⟨u,rfl,ru⟩:=rv.one
  obtain⟨t2,rfl⟩:=ru
  have hb:z.length+2<=sizeLine:=by rw[sizeLine_eq];omega
  refine xO rfl hb fun l k e=>?_
  have e2:l.map (fun p=>p.1)=(Mk.bQ c z.cps.toList).map tx:=by rw[e,←CP,tm]
  have hl:(strValues l).length<=z.length+2:=by
   have:=PyProof.Rows.split_le z (tx [c])
   rw[←e,List.length_map] at this
   rw[show (strValues l).length=l.length from List.length_map ..]
   exact this
  have r:=tK l
  rw[e2,List.map_map] at r
  refine⟨.ref s.heap.objs.size,_,I.laid (t':=k) (o:=.lst ((Mk.bQ c z.cps.toList).map fun w=>.str (tx w))) (fun b ob q=>aH _ q) (ai _) ?_,rfl,q.go _ (I.hok.fresh (ai _))⟩
  refine⟨?_,_,0,r,aZ _ rfl⟩
  have:=r.length
  rw[show ((Mk.bQ c z.cps.toList).map fun w=>V.str (tx w))=(Mk.bQ c z.cps.toList).map (V.str ∘ tx) from rfl,this]
  omega
def Fx:R2:=fun x y H Q=>match x,y with
 | .int i,.int j=>(i.natAbs<2^60∨j.natAbs<2^60)/\Q (.int (i*j)) H
 | _,_=>False
theorem Es :OpR X (binaryOp .Mult) Fx:=by
 intro pins s σ H x y v u Q I rx ry h
 cases x with
 | int i=>cases y with
  | int j =>
   refine (opI (X:=X) (f:=binaryOp .Mult) (C:=fun i j=>i.natAbs<2^60∨j.natAbs<2^60) (g:=fun i j=>i*j) fun i j _ _ _ _ _ hc q=>mul_int q ?_) pins s σ H _ _ v u Q I rx ry ⟨_,_,rfl,rfl,h.1,h.2⟩
   rcases hc with hc | hc
   ·exact IntMulOk.of_left (bA (intBits_le_iff.mpr hc) (by decide))
   ·exact IntMulOk.of_right (bA (intBits_le_iff.mpr hc) (by decide))
  | _=>exact False.elim h
 | _=>exact False.elim h
end
section
theorem wC {i j}{H:Hp}{Q:VK}:yF (.int i) (.int j) H Q=(Q (.int (i+j)) H):=propext Iff.rfl
theorem wD {a b}{H:Hp}{Q:VK}:yF (.str a) (.str b) H Q=(a.length+b.length<=sizeLine/\Q (.str (a++b)) H):=propext Iff.rfl
theorem wF {l b}{H:Hp}{Q:VK}:yF (.ref l) (.ref b) H Q=(∃ xs zs,H l=some (.lst xs)/\H b=some (.lst zs)/\xs.length+zs.length<=sizeLine/\nw H (.lst (xs++zs)) Q):=propext Iff.rfl
theorem wW {i j}{H:Hp}{Q:VK}:F5 (.int i) (.int j) H Q=(Q (.int (i-j)) H):=propext Iff.rfl
theorem wQ {i j}{H:Hp}{Q:VK}:Fy (.int i) (.int j) H Q=(FN i j/\Q (.int (i*j)) H):=propext Iff.rfl
theorem uX {i j}{H:Hp}{Q:VK}:Ct (.int i) (.int j) H Q=((0<j/\j<2^1000)/\Q (.int (i/j)) H):=propext Iff.rfl
theorem wN {i j}{H:Hp}{Q:VK}:Fw (.int i) (.int j) H Q=(0<j/\Q (.int (i%j)) H):=propext Iff.rfl
theorem wR {i j}{H:Hp}{Q:VK}:F1 (.int i) (.int j) H Q=((0<=j/\j<=1000000/\i.natAbs<2^64)/\Q (.int (i^j.toNat)) H):=propext Iff.rfl
theorem wG {f:Int->Int->Bool}{i j}{H:Hp}{Q:VK}:vL f (.int i) (.int j) H Q=(Q (.bl (f i j)) H):=propext Iff.rfl
theorem zy {K:PySem.W.Frag}{i j}{H:Hp}{Q:VK}:IJ K (.int i) (.int j) H Q=(Q (.bl (decide (j<=i))) H):=propext Iff.rfl
theorem zw {K:PySem.W.Frag}{i j}{H:Hp}{Q:VK}:xF K (.int i) (.int j) H Q=(Q (.bl (decide (i=j))) H):=propext Iff.rfl
theorem sD {K:PySem.W.Frag}{i j}{H:Hp}{Q:VK}:xF K (.str i) (.str j) H Q=(Q (.bl (decide (i=j))) H):=propext Iff.rfl
theorem zx {K:PySem.W.Frag}{a b}{H:Hp}{Q:VK}:xF K (.ref a) (.ref b) H Q=(∃ xs ys,SqL K H a xs/\SqL K H b ys/\xs.all dh=true/\ys.all dh=true/\Q (.bl (nt xs ys)) H):=propext Iff.rfl
theorem zC {K:PySem.W.Frag}{i j}{H:Hp}{Q:VK}:C4 K (.int i) (.int j) H Q=(Q (.bl (!decide (i=j))) H):=propext Iff.rfl
theorem zD {K:PySem.W.Frag}{i j}{H:Hp}{Q:VK}:C4 K (.str i) (.str j) H Q=(Q (.bl (!decide (i=j))) H):=propext Iff.rfl
theorem zE {K:PySem.W.Frag}{a b}{H:Hp}{Q:VK}:C4 K (.ref a) (.ref b) H Q=(∃ xs ys,SqL K H a xs/\SqL K H b ys/\xs.all dh=true/\ys.all dh=true/\Q (.bl (!nt xs ys)) H):=propext Iff.rfl
theorem zA {K:PySem.W.Frag}{p i}{H:Hp}{Q:VK}:EN K (.ref p) (.int i) H Q=(∃ xs v,Sq K H p xs/\atI xs i=some v/\Q v H):=propext Iff.rfl
theorem zB {K:PySem.W.Frag}{z i}{H:Hp}{Q:VK}:EN K (.str z) (.int i) H Q=(z.length<=sizeLine/\∃ c,atI z.cps.toList i=some c/\Q (.str ⟨#[c]⟩) H):=propext Iff.rfl
theorem wJ {K:PySem.W.Frag}{z}{H:Hp}{Q:VK}:yG K [.str z] H Q=(z.length<=sizeLine/\Q (.int z.length) H):=propext Iff.rfl
theorem wK {K:PySem.W.Frag}{p}{H:Hp}{Q:VK}:yG K [.ref p] H Q=(∃ xs,Sq K H p xs/\Q (.int xs.length) H):=propext Iff.rfl
theorem wB {i}{H:Hp}{Q:VK}:Fs [.int i] H Q=(Q (.int (i.natAbs:Int)) H):=propext Iff.rfl
theorem wM {i j}{H:Hp}{Q:VK}:Fv [.int i,.int j] H Q=(Q (.int (min i j)) H):=propext Iff.rfl
theorem wL {i j}{H:Hp}{Q:VK}:Fu [.int i,.int j] H Q=(Q (.int (max i j)) H):=propext Iff.rfl
theorem uZ {K:PySem.W.Frag}{a}{H:Hp}{Q:VK}:xH K [.ref a] H Q=(∃ ys,(Sq K H a ys∨∃ lo hi,H a=some (.rng lo hi)/\(-(2^62)<=lo/\lo<2^62/\-(2^62)<=hi/\hi<2^62)/\(hi-lo).toNat<=2^20/\ys=uz lo (hi-lo).toNat)/\nw H (.lst ys) Q):=propext Iff.rfl
theorem wU {j}{H:Hp}{Q:VK}:F2 [.int j] H Q=(nw H (.rng 0 j) Q):=propext Iff.rfl
theorem wH {c:Tg}{x n}{H:Hp}{Q:VK}:Ft c [x,.ty n] H Q=(n=c.name/\∃ t,cz H x=some t/\Q (.bl (t.sub c)) H):=propext Iff.rfl
theorem zF {K:PySem.W.Frag}{a}{lo}{hi}{H:Hp}{Q:VK}:HD K (.ref a) lo hi H Q=(∃ xs,SqL K H a xs/\nw H (.lst (pO xs lo hi)) Q):=propext Iff.rfl
theorem uY {K:PySem.W.Frag}{z p}{H:Hp}{Q:VK}:xG K (.str z) [.ref p] H Q=(∃ ys:List Str,SqL K H p (ys.map V.str)/\(ys.map (·.length)).sum+ys.length*z.length<=16777216/\Q (.str (Txt.join z ys)) H):=propext Iff.rfl
theorem va {z y}{H:Hp}{Q:VK}:C9 (.str z) [.str y] H Q=(z.length<=100000/\∃ c,y=tx [c]/\nw H (.lst ((Mk.bQ c z.cps.toList).map fun w=>.str (tx w))) Q):=propext Iff.rfl
theorem wO {i j}{H:Hp}{Q:VK}:Fx (.int i) (.int j) H Q=((i.natAbs<2^60∨j.natAbs<2^60)/\Q (.int (i*j)) H):=propext Iff.rfl
theorem wV {P:Program}{w:World}{z}{H:Hp}{Q:VK}:C6 P w [.str z] H Q=(z.length<=4000/\∀ p H',H p=none->aq H H'->H' p=some (xK P w p (cR (jt z) z.length))->Q (.ref p) H'):=propext Iff.rfl
theorem wI {P:Program}{w:World}{p}{H:Hp}{Q:VK}:C2 P w [.ref p] H Q=(∃ l,H p=some (xK P w p l)/\Q (.int l.length) H):=propext Iff.rfl
theorem w5 {K:PySem.W.Frag}{a:Addr}{H:Hp}{R:It->Hp->Prop}:yw K (.ref a) H R=(((∃ xs,SqL K H a xs)/\R (Itl K a) H)∨((∃ xs,SqT K H a xs)/\R (Itt K a) H)):=propext Iff.rfl
theorem wA {K:PySem.W.Frag}{z:Str}{H:Hp}{R:It->Hp->Prop}:yw K (.str z) H R=R (Itx z) H:=propext Iff.rfl
end
section
section
variable {X:Cx}
end
section
variable {X:Cx}{tg:Expr}
end
def Iti (ob:Obj) (a:Addr) (kvs:List (Key×V)):It :=
 ⟨fun i H=>i<kvs.length/\H a=some (.frz ob (.dK kvs)),
  fun i H v H'=>∃ k x p,kvs[i]?=some (k,x)/\v=.ref p/\H p=none/\H'=upd H p (.tup [kV k,x]),
  fun i H=>kvs.length<=i/\H a=some (.frz ob (.dK kvs))⟩
theorem yH {k:Key} (h:kK k v=true):RelV (kV k) v:=by
 rcases cg h with ⟨i,t,rfl,rfl⟩ | ⟨x,t,rfl,rfl⟩
 ·exact⟨t,rfl⟩
 ·exact⟨t,rfl⟩
theorem BM {vs:List (Key×Value)} (r:KV kvs vs):∀ {i:Nat}{p:Key×V},kvs[i]?=some p->∃ q,vs[i]?=some q/\p.1=q.1/\RelV p.2 q.2:=by
 unfold KV at r
 induction r with
 | nil=>intro i p h;simp at h
 | @cons a b as bs h t ih =>
  intro i p hp
  cases i with
  | zero =>
   rw[List.getElem?_cons_zero] at hp
   cases hp
   exact⟨b,rfl,h⟩
  | succ i=>exact ih (by simpa using hp)
theorem mq:entryFor table "dict_itemiterator.__iter__"=some Builtin.«dict_keyiterator.__iter__»:=entryFor_alias (id':="dict_keyiterator.__iter__") (by kernel_rfl) (by kernel_rfl) (by kernel_rfl) (by kernel_rfl)
theorem rZ {it d:Addr}{i n ep:Nat}{ok ov:Value} (st:IsItemIter s.heap it d i n ep ok ov) (h:Q (.ref it) s):wpAny (model prog w) A (pyIter (.ref it)) Q E s:=by
 have hT:s.TypeIs (.ref it) "dict_itemiterator":=⟨_,st,rfl⟩
 refine wpAny_pyIter_slot hT F.slot_dict_itemiterator_iter (jS F.slot_dict_itemiterator_iter hT mq ?_ (F.args_dict_itemiterator_iter_1 (Value.ref it)))
 exact ax ⟨.ref it,rfl,"dict_itemiterator",.builtin "dict_itemiterator.__next__",hT,F.slot_dict_itemiterator_next.lookup,h⟩
theorem vf {es:Array DictEntry}{ep:Nat} (x:HOk P w H h) (e:H a=some (.frz ob (.dK kvs))) (hd:ob.data=.dict es ep) :
  ∃ vs,KV kvs vs/\h.DictAt (aY P w) a vs ep:=by
 obtain⟨h1,_,_,vs,r,o,es',ep',h2,h3,h4,h5⟩:=(show bH P w H h a (.frz ob (.dK kvs)) from x a _ e)
 have:o=ob:=Option.some.inj (h2.symm.trans h1)
 subst this
 rw[hd] at h4
 injection h4 with e1 e2
 subst e1 e2
 exact⟨vs,r,o,es,h2,h3,hd,h5⟩
theorem xR {k:Nat} (ob:Obj) (a it:Addr) (kvs:List (Key×V)) (es:Array DictEntry) (ep:Nat) (hd:ob.data=.dict es ep):Turn P w K (.Tuple elts k pos) (Iti ob a kvs) [it] it
  (fun i h=>∃ ok ov,IsItemIter h it a i kvs.length ep ok ov) where
 mem:=by simp
 obj:=fun i h st b hb=>by
  obtain rfl:b=it:=by simpa using hb
  obtain⟨ok,ov,st⟩:=st
  exact⟨_,st,fun v z=>by have z':Data.fields _=Data.cell v:=z;cases z'⟩
 keep:=fun i h h' st k=>by
  obtain⟨ok,ov,st⟩:=st
  exact⟨ok,ov,k it (by simp) _ st⟩
 item:=by
  intro X hP hw hK hc i pins s σ H E I hf st hg
  subst hP hw hK
  obtain⟨hi,hH⟩:=hg
  obtain⟨ok,ov,st⟩:=id st
  obtain⟨vs,r,dd⟩:=vf I.hok hH hd
  have hl:kvs.length=vs.length:=Paired.length r
  obtain⟨⟨k1,x⟩,hk⟩:∃ p,kvs[i]?=some p:=⟨_,List.getElem?_eq_getElem hi⟩
  obtain⟨⟨k2,u⟩,hu,hke,ru⟩:∃ q:Key×Value,vs[i]?=some q/\k1=q.1/\RelV x q.2:=by
   obtain⟨q,h1,h2⟩:=BM r hk
   exact⟨q,h1,h2.1,h2.2⟩
  have hke:k1=k2:=hke
  subst hke
  rw[hl] at st
  refine wpAny_pyNext_items_item st dd hu fun key h' kk0 a1 a3 a4 a5=>?_
  refine⟨_,rfl,wpAny_letOwnedTupleGo_items (s:={ s with heap:=h' }) a1 fun h'' b1 b2=>?_⟩
  have b2':Heap.SameBut it h' h'':=b2
  have ne:it<s.heap.objs.size:=aF st
  have kk:∀ c o,c∉[it]->s.heap.get? c=some o->h''.get? c=some o:=fun c o hc e=>by
   have hc':c≠it:=by simpa using hc
   exact (b2'.2 c hc').trans (a5 c o hc' e)
  have hT:h''.get? s.heap.objs.size=some { cls:=.type "tuple",data:=.seq #[key,u] }:=(b2'.2 _ (Nat.ne_of_gt ne)).trans a3
  have I1:Inv X pins σ (upd H s.heap.objs.size (.tup [kV k1,x])) { s with heap:=h'' }:=by
   refine I.yR (t':=s.toks) (ch:=[it]) hf kk (fun c o ee=>?_) (ai _) (show bH X.prog X.w _ h'' _ (.tup [kV k1,x]) from ⟨by show 2<=sizeLine;decide,[key,u],.cons (yH kk0) (.cons ru .nil),⟨_,hT,rfl,_,rfl⟩⟩)
   by_cases hc:c∈[it]
   ·obtain rfl:c=it:=by simpa using hc
    exact⟨_,b1⟩
   ·exact⟨_,kk c o hc ee⟩
  refine⟨.ref s.heap.objs.size,_,I1,rfl,⟨k1,x,_,hk,rfl,I.hok.fresh (ai _),rfl⟩,⟨_,_,by rw[hl];exact b1⟩,fun c hc=>?_⟩
  obtain rfl:c=it:=by simpa using hc
  rw[ar (bf ne)];exact (hf _ (by simp)).1
 done:=by
  intro X hP hw hK hc i pins s σ H E I hf st hg
  subst hP hw hK
  obtain⟨hi,hH⟩:=hg
  obtain⟨ok,ov,st⟩:=id st
  obtain⟨vs,r,dd⟩:=vf I.hok hH hd
  have hl:kvs.length=vs.length:=Paired.length r
  rw[hl] at st
  refine wpAny_pyNext_items_end (I.ok.hd hc) st dd (List.getElem?_eq_none (by omega)) fun h' kk=>⟨rfl,I.yQ (t':=s.toks) (ch:=[it]) hf fun c o hc e=>?_⟩
  exact kk c o (by simpa using hc) e
 self:=fun _ _ _ _ _ st h=>by
  obtain⟨ok,ov,st⟩:=st
  exact rZ st h
def rO (p d:Addr):HO:=.ext fun h=>h.IsItemsView p d
theorem Dj {p d:Addr} (x:h.IsItemsView p d):bH P w H h p (rO p d):=by
 refine⟨x,?_,fun h1 h2 y k=>?_⟩
 ·obtain⟨o,e,_⟩:=x;exact⟨o,e⟩
 ·obtain⟨o,e,r⟩:=y;exact⟨o,k o e,r⟩
def Cz:V->List V->Hp->VK->Prop:=fun x vs H Q=>match x,vs with
 | .ref d,[]=>∃ kvs,H d=some (.dK kvs)/\∀ p H',H p=none->aq H H'->H' p=some (rO p d)->Q (.ref p) H'
 | _,_=>False
theorem zz {d:Addr}{H:Hp}{Q:VK}:Cz (.ref d) [] H Q=(∃ kvs,H d=some (.dK kvs)/\∀ p H',H p=none->aq H H'->H' p=some (rO p d)->Q (.ref p) H'):=propext Iff.rfl
theorem BU :MtM X "dict.items" Cz:=by
 intro pins s σ H x vs v us Q I rx rv h
 match x,vs,h with
 | .ref d,[],h =>
  obtain⟨kvs,hd,q⟩:=h
  cases rx
  obtain rfl:=rv.zero
  obtain⟨z,hs,xs,rel,dd⟩:=uV I.hok hd
  have hT:s.TypeIs (.ref d) "dict":=by obtain⟨o,_,_,e,ex,_⟩:=dd;exact⟨o,e,ex.1⟩
  refine call_meetsIn F.slot_dict_items hT F.entry_dict_items (F.args_dict_items_1 _) (meets_dict_items (aY X.prog X.w) d hs) ⟨⟨xs,dd⟩,?_⟩
  have hn:=I.hok.fresh (ai s.heap.objs.size)
  refine⟨.ref s.heap.objs.size,_,I.laid (t':=s.toks) (o:=rO s.heap.objs.size d) (fun b ob q=>aH _ q) (ai _) (Dj ⟨_,aZ _ rfl,rfl,rfl⟩),rfl,q _ _ hn (dw hn) az⟩
def Fn (te:TE):TI:=fun σ H R=>te σ H fun x H1=>∃ p a kvs,x=.ref p/\H1 p=some (rO p a)/\H1 a=some (.dK kvs)/\∀ ob H2,(∀ b o,b≠a->H1 b=some o->H2 b=some o)->H2 a=some (.frz ob (.dK kvs))->R (Iti ob a kvs) H2
theorem AK {te:TE}{σ:St}{H:Hp}{R:It->Hp->Prop}:Fn te σ H R=te σ H fun x H1=>∃ p a kvs,x=.ref p/\H1 p=some (rO p a)/\H1 a=some (.dK kvs)/\∀ ob H2,(∀ b o,b≠a->H1 b=some o->H2 b=some o)->H2 a=some (.frz ob (.dK kvs))->R (Iti ob a kvs) H2:=propext Iff.rfl
theorem EC {k:Nat}{l:Expr} (hl:PE X l tl):PI X (.Tuple elts k tpos) l (Fn tl):=by
 intro pins s σ H R I h
 refine thn (hl pins s σ H _ I h) fun v s1 ⟨x,H1,I1,r1,q1⟩=>?_
 obtain⟨p,a,kvs,rfl,hp,ha,q⟩:=q1
 cases r1
 have hv:s1.heap.IsItemsView p a:=(show bH X.prog X.w H1 s1.heap p (rO p a) from I1.hok p _ hp).1
 obtain⟨z,hs,vs,rel,ob,es,ep,e1,e2,e3,e4⟩:=uV I1.hok ha
 have hl':kvs.length=vs.length:=Paired.length rel
 have dd:s1.heap.DictAt (aY X.prog X.w) a vs ep:=⟨ob,es,e1,e2,e3,e4⟩
 refine wpAny_pyIter_items hv dd ?_
 have I2:Inv X pins σ (upd H1 a (.frz ob (.dK kvs))) s1:=I1.write (x:=a) (e:=a) (h':=s1.heap) (t':=s1.toks) (o:=.frz ob (.dK kvs)) (by rw[ha];exact True.intro) (.inl rfl) (fun _ _ _ e=>e) ⟨ob,e1⟩ ⟨e1,z,hs,vs,rel,ob,es,ep,e1,e2,e3,e4⟩
 have I3:Inv X pins σ (upd H1 a (.frz ob (.dK kvs))) { s1 with heap:=s1.heap.push { cls:=.type "dict_itemiterator",data:=.fields #[.none,.bool false,.ref a,.int 0 0,.int (vs.length:Int) 0,.int (ep:Int) 0,.none,.none] } }:=I2.kept (t':=s1.toks) fun b o e=>aH _ e
 refine⟨s1.heap.objs.size,[s1.heap.objs.size],_,_,_,rfl,I3,xR ob a s1.heap.objs.size kvs es ep e3,⟨.none,.none,?_⟩,fun b hb=>?_,q ob _ (fun b o hb e=>by rw[ar hb];exact e) az⟩
 ·rw[hl']
  exact aZ _ rfl
 ·obtain rfl:b=s1.heap.objs.size:=by simpa using hb
  exact I2.qI (ai _) (I2.hok.fresh (ai _))
theorem Bt {g:TG}{tb:TS}{D:Ends} (Pv:Nat->St->Hp->Prop) (h0:Pv 0 σ H) (hl:∀ i σ H,i<=kvs.length->Pv i σ H->H a=some (.frz ob (.dK kvs)))
  (hs:∀ i k x σ H,kvs[i]?=some (k,x)->Pv i σ H->∀ N:St->Hp->Prop,(∀ σ' H',Pv (i+1) σ' H'->N σ' H')->∀ p H',H p=none->aq H H'->H' p=some (.tup [kV k,x])->g (.ref p) σ H' fun σ2 H2=>tb { D with nx:=N,ct:=N,bk:=D.nx } σ2 H2) (hd:∀ σ H,Pv kvs.length σ H->D.nx σ H):ig g tb D (Iti ob a kvs) σ H:=by
 refine⟨fun i m σ H=>i+m=kvs.length/\Pv i σ H,⟨kvs.length,by omega,h0⟩,fun i m σ H hw=>?_⟩
 obtain⟨e,hp⟩:=hw
 have hL:=hl i σ H (by omega) hp
 by_cases hm:m=0
 ·subst hm
  have:i=kvs.length:=by omega
  subst this
  exact .inl ⟨⟨ai _,hL⟩,hd σ H hp⟩
 ·refine .inr ⟨⟨by omega,hL⟩,Pv (i+1),fun σ' H' n=>⟨m-1,by omega,by omega,n⟩,fun v H' hy=>?_⟩
  obtain⟨k,x,p,h1,rfl,h2,rfl⟩:=hy
  exact hs i k x σ H h1 hp _ (fun _ _ h=>h) p _ h2 (dw h2) az
section
variable {X:Cx}
theorem Du {td ty:TE}{σ:St}{H:Hp}{Q:VK}:CV td ty σ H Q=td σ H fun x H1=>ty σ H1 fun y H2=>∃ a v,x=.ref a/\jU H2 a y (some v)/\Q v H2:=propext Iff.rfl
theorem AE {td ty:TE}{σ:St}{H:Hp}{Q:VK}:xQ td ty σ H Q=td σ H fun x H1=>∃ a,x=.ref a/\IsD H1 a/\ty σ H1 fun y H2=>∃ o,jU H2 a y o/\Q (o.getD .non) H2:=propext Iff.rfl
theorem nA {o i:Expr}{td ty:TE} (hu:X.A.units+1<cLine) (ho:PE X o td) (hi:PE X i ty) (hs:Dn i:=by exact fun _ _=>rfl):PE X (.Subscript o i pos) (CV td ty):=EA hu ho hi hs
theorem sR {o e:Expr}{td ty:TE}{apos cpos:Pos} (hu:X.A.units+1<cLine) (ho:PE X o td) (he:PE X e ty) (hbase:attributeBase o "get" X.env (eval o X.env)=eval o X.env:=by kernel_rfl) (hs:cV [e]=true:=by kernel_rfl)
  (hline:(apos.endLine==cpos.line)=true:=by kernel_rfl) (htr:backTo cpos (starEach [e] X.env)=[(false,eval e X.env)]:=by rfl):PE X (.Call (.Attribute o "get" apos) [e] [] cpos) (xQ td ty):=by
 refine Ck hu ho he ⟨hbase,?_,hline,htr⟩
 rw[m8 hs]
 rfl
theorem E5 {o:Expr}{to:TE}{name:Str}{apos cpos:Pos}{T id:String}{r:V->List V->Hp->VK->Prop} (hK:X.K=K) (pa:PlainAttrs T) (slot:Slot T name id) (hty:typeOf (.builtin id)=pure (.type "method_descriptor"))
  (hm:MtR X id r) (ho:PE X o to) (hbase:attributeBase o name X.env (eval o X.env)=eval o X.env:=by kernel_rfl) (hline:(apos.endLine==cpos.line)=true:=by kernel_rfl):PE X (.Call (.Attribute o name apos) [] [] cpos) (HF K T r to) :=
 hK ▸ Hs pa slot hty hm ho hbase hline
end
end
section
def Fo:V->Bool
 | .ref _=>true
 | x=>dh x
theorem nr:∀ {x:V},dh x=true->eqV x x=true
 | .non,_=>rfl
 | .bl b,_=>by show (b==b)=true;simp
 | .int i,_=>by show (i==i)=true;simp
 | .str z,_=>by show (z==z)=true;simp
theorem zv {x:V}{u v:Value} (ru:RelV x u) (rv:RelV x v) (h:Fo x=true):SeqAt.EqAt A s u v true:=by
 cases x with
 | ref a=>cases ru;cases rv;exact SeqAt.EqAt.same _
 | non=>have:=mD (A:=A) (s:=s) ru rv rfl rfl;rwa [nr rfl] at this
 | bl b=>have:=mD (A:=A) (s:=s) ru rv rfl rfl;rwa [nr rfl] at this
 | int b=>have:=mD (A:=A) (s:=s) ru rv rfl rfl;rwa [nr rfl] at this
 | str b=>have:=mD (A:=A) (s:=s) ru rv rfl rfl;rwa [nr rfl] at this
 | _=>cases h
theorem cD {us:List Value} (r:Vals xs us) {j:Nat} (h:j<us.toArray.size):∃ x,xs[j]?=some x/\RelV x us.toArray[j]:=by
 have l:=r.length
 rw[aU] at h
 have e1:xs[j]?=some (xs[j]'(by omega)):=List.getElem?_eq_getElem _
 obtain⟨u,hu,ru⟩:=r.get e1
 refine⟨_,e1,?_⟩
 have:us.toArray[j]=u:=by
  have:=bK.mp hu
  simpa using this.2
 rw[this];exact ru
section
variable {X:Cx}
end
theorem qd {js:List Nat}{te:TE}{Q:VK} (hc:∀ σ H R,R true H->tc σ H R) (hJ:J.Seq H1 xs) (hl:xs.length<sizeLine) (G:HO->Prop) (hG:∀ ys,¬ G (.lst ys))
  (he:∀ x∈xs,∀ H,aq H1 H->∀ R:VK,(∀ p o H',aq H H'->H' p=some o->G o->R (.ref p) H')->te (some x::js.map fun j=>(σ[j]?).join) H R)
  (q:∀ D vs H,H1 D=none->aq H1 H->H D=some (.lst vs)->vs.length=xs.length->(∀ v∈vs,∃ p o,v=.ref p/\H p=some o/\G o)->Q (.ref D) H):eZ (fZ 0) tc te (fY 1 js σ) J H1 Q:=by
 intro D hD
 refine⟨fun i m ys σ1 H=>m=xs.length-i/\i<=xs.length/\(∃ o,σ1=o::js.map fun j=>(σ[j]?).join)/\ys.length=i/\(∀ v∈ys,∃ p o,v=.ref p/\H p=some o/\G o)/\aq H1 H/\H D=some (.lst ys),
  ⟨xs.length,by simp,bh _,⟨none,rfl⟩,rfl,(fun v hv=>nomatch hv),(aq.refl H1).fi hD,az⟩,?_⟩
 rintro i m ys σ1 H ⟨rfl,hi,⟨o,rfl⟩,hy,hg,sH,hL⟩
 refine⟨hL,by omega,?_⟩
 by_cases hlt:i<xs.length
 ·have e:xs[i]?=some xs[i]:=List.getElem?_eq_getElem hlt
  obtain⟨go,yl⟩:=(hJ H sH).1 i xs[i] e
  refine .inr ⟨go,fun x H' y=>?_⟩
  obtain⟨e1,e2⟩:=yl x H' y
  subst e1 e2
  have hm:xs[i]∈xs:=fQ hlt
  show tc (some xs[i]::js.map fun j=>(σ[j]?).join) H' _
  refine hc _ _ _ ?_
  rw[if_pos rfl]
  refine he xs[i] hm H' sH _ fun p o' H4 s4 hp hgo=>?_
  have hL4:=s4 _ _ hL
  have nD:∀ {b:Addr}{u:HO},H4 b=some u->G u->b≠D:=fun hb hu ee=>by
   subst ee;rw[hL4] at hb;cases hb;exact hG _ hu
  refine⟨hL4,xs.length-(i+1),by omega,rfl,hlt,⟨_,rfl⟩,by rw[bb,hy];rfl,fun v hv=>?_,((sH.trans s4)).fi hD,az⟩
  rcases bL.mp hv with hv | hv
  ·obtain⟨b,u,rfl,hb,hu⟩:=hg v hv
   have hb4:=s4 _ _ hb
   exact⟨b,u,rfl,by rw[ar (nD hb4 hu)];exact hb4,hu⟩
  ·rw[bc.mp hv]
   exact⟨p,o',rfl,by rw[ar (nD hp hgo)];exact hp,hgo⟩
 ·have e:i=xs.length:=by omega
  subst e
  exact .inl ⟨(hJ H sH).2 _ (ai _),q D ys H hD sH hL hy hg⟩
end
end L2

namespace L2
variable {w:Int}
section
variable {α:Type} [DecidableEq α]
abbrev Nk (α:Type):=α×Bool
structure Ent (α:Type) where
 key:Nk α
 d:Int
 par:Option (Nk α)
 t:Nat
def xE (fs:List (Ent α)) (e:Ent α):List (Ent α):=if fs.any (fun x=>x.key==e.key) then fs.map (fun x=>if x.key==e.key then e else x) else fs++[e]
theorem gz {fs:List (Ent α)}{e x:Ent α}:x∈xE fs e↔x=e∨(x∈fs/\x.key≠e.key):=by
 unfold xE
 split
 ·rename_i h
  obtain⟨y,hy,hk⟩:=iD.mp h
  rw[aC]
  constructor
  ·rintro⟨z,hz,rfl⟩
   split
   ·exact .inl rfl
   ·rename_i hn
    exact .inr ⟨hz,fun q=>hn (by simp [q])⟩
  ·rintro (rfl | ⟨hx,hn⟩)
   ·exact⟨y,hy,by rw[if_pos hk]⟩
   ·exact⟨x,hx,by rw[if_neg (by simpa using hn)]⟩
 ·rename_i h
  have h':∀ y∈fs,y.key≠e.key:=fun y hy q=>h (iD.mpr ⟨y,hy,by simp [q]⟩)
  rw[bL,bc]
  constructor
  ·rintro (hx | rfl)
   ·exact .inr ⟨hx,h' x hx⟩
   ·exact .inl rfl
  ·rintro (rfl | ⟨hx,_⟩)
   ·exact .inr rfl
   ·exact .inl hx
theorem zR (fs:List (Ent α)) (e:Ent α):(xE fs e).map Ent.key=fs.map Ent.key∨((xE fs e).map Ent.key=fs.map Ent.key++[e.key]/\e.key∉fs.map Ent.key):=by
 unfold xE
 split
 ·left
  rw[List.map_map]
  apply jL
  intro x _
  show (if x.key==e.key then e else x).key=x.key
  split
  ·rename_i h;exact (eq_of_beq h).symm
  ·rfl
 ·rename_i h
  right
  refine⟨by simp,fun q=>?_⟩
  obtain⟨y,hy,hk⟩:=aC.mp q
  exact h (iD.mpr ⟨y,hy,by simp [hk]⟩)
theorem xn {fs:List (Ent α)}{e:Ent α} (h:(fs.map Ent.key).Nodup):((xE fs e).map Ent.key).Nodup:=by
 rcases zR fs e with q | ⟨q,n⟩
 ·rw[q];exact h
 ·rw[q,List.nodup_append]
  exact⟨h,by simp,fun a ha b hb=>by rw[bc.mp hb];exact fun z=>n (z ▸ ha)⟩
structure Dij (St:Nk α->List (Nk α×Int)) (C:Nk α->Nk α×Int->Prop) (u0:Nk α) (fs ss:List (Ent α)):Prop where
 nf:(fs.map Ent.key).Nodup
 sub:∀ e∈ss,e∈fs
 ns:(ss.map Ent.key).Nodup
 st:∃ e∈fs,e.key=u0/\e.d=0
 nn:∀ e∈fs,0<=e.d
 cl:∀ e∈ss,∀ p,C e.key p->∃ e'∈fs,e'.key=p.1/\e'.d<=e.d+p.2
 pa:∀ e∈fs,(e.par=none/\e.key=u0/\e.d=0)∨∃ u∈ss,∃ c,e.par=some u.key/\(e.key,c)∈St u.key/\e.d=u.d+c
 od:∀ e∈ss,∀ e'∈fs,e'∉ss->e.d<=e'.d
 rk:∀ pre e post,ss=pre++e::post->(e.par=none/\e.key=u0/\e.d=0)∨∃ u∈pre,∃ c,e.par=some u.key/\(e.key,c)∈St u.key/\e.d=u.d+c
theorem Eg {fs:List (Ent α)} (h:(fs.map Ent.key).Nodup) {x y:Ent α} (hx:x∈fs) (hy:y∈fs) (e:x.key=y.key):x=y:=by
 induction fs with
 | nil=>cases hx
 | cons z r ih =>
  rw[bz,c9] at h
  rcases aD.mp hx with rfl | hx
  ·rcases aD.mp hy with rfl | hy
   ·rfl
   ·exact absurd (aC.mpr ⟨y,hy,e.symm⟩) h.1
  ·rcases aD.mp hy with q | hy
   ·exact absurd (aC.mpr ⟨x,hx,by rw[←q];exact e⟩) h.1
   ·exact ih h.2 hx hy
theorem Dij.put {St:Nk α->List (Nk α×Int)}{C:Nk α->Nk α×Int->Prop}{u0:Nk α}{fs ss:List (Ent α)} (D:Dij St C u0 fs ss) {e:Ent α} (he:e∈ss) (hm:∀ x∈ss,x.d<=e.d) {q:Nk α×Int} (hq:q∈St e.key) (hc:0<=q.2)
  (hl:∀ x∈fs,x.key=q.1->e.d+q.2<x.d) (t:Nat):Dij St (fun k p=>C k p∨(k=e.key/\p=q)) u0 (xE fs ⟨q.1,e.d+q.2,some e.key,t⟩) ss:=by
 have hns:∀ x∈ss,x.key≠q.1:=fun x hx hk=>by
  have h1:=hl x (D.sub x hx) hk
  have h2:=hm x hx
  omega
 have h0:=D.nn e (D.sub e he)
 refine⟨xn D.nf,fun x hx=>gz.mpr (.inr ⟨D.sub x hx,hns x hx⟩),D.ns,?_,fun x hx=>?_,fun x hx p hp=>?_,fun x hx=>?_,fun x hx y hy hyn=>?_,D.rk⟩
 ·obtain⟨x,hx,hk,hd⟩:=D.st
  refine⟨x,gz.mpr (.inr ⟨hx,fun z=>?_⟩),hk,hd⟩
  have:=hl x hx z
  omega
 ·rcases gz.mp hx with rfl | ⟨h,_⟩
  ·show 0<=e.d+q.2;omega
  ·exact D.nn x h
 ·rcases hp with hp | ⟨h1,rfl⟩
  ·obtain⟨y,hy,hyk,hyd⟩:=D.cl x hx p hp
   by_cases z:y.key=q.1
   ·refine⟨_,gz.mpr (.inl rfl),?_,?_⟩
    ·show q.1=p.1;rw[←z,hyk]
    ·show e.d+q.2<=_
     have:=hl y hy z
     omega
   ·exact⟨y,gz.mpr (.inr ⟨hy,z⟩),hyk,hyd⟩
  ·have:x=e:=Eg D.nf (D.sub x hx) (D.sub e he) h1
   subst this
   exact⟨_,gz.mpr (.inl rfl),rfl,eJ _⟩
 ·rcases gz.mp hx with rfl | ⟨h,_⟩
  ·exact .inr ⟨e,he,q.2,rfl,hq,rfl⟩
  ·exact D.pa x h
 ·rcases gz.mp hy with rfl | ⟨h,_⟩
  ·have:=hm x hx
   show x.d<=e.d+q.2;omega
  ·exact D.od x hx y h hyn
theorem Dij.imp {St:Nk α->List (Nk α×Int)}{C C':Nk α->Nk α×Int->Prop}{u0:Nk α}{fs ss:List (Ent α)} (D:Dij St C u0 fs ss) (h:∀ k p,C' k p->C k p):Dij St C' u0 fs ss :=
 ⟨D.nf,D.sub,D.ns,D.st,D.nn,fun x hx p hp=>D.cl x hx p (h _ _ hp),D.pa,D.od,D.rk⟩
inductive Wk (St:Nk α->List (Nk α×Int)) (u:Nk α):Nk α->Int->Prop
 | nil:Wk St u u 0
 | snoc {v x:Nk α}{w c:Int}:Wk St u v w->(x,c)∈St v->Wk St u x (w+c)
theorem Wk.mono {St St':Nk α->List (Nk α×Int)}{u v:Nk α} (h:∀ k p,p∈St k->p∈St' k) (x:Wk St u v w):Wk St' u v w:=by
 induction x with
 | nil=>exact .nil
 | snoc _ m ih=>exact ih.snoc (h _ _ m)
theorem Wk.cons {St:Nk α->List (Nk α×Int)}{u v y:Nk α}{w c:Int} (m:(v,c)∈St u) (x:Wk St v y w):Wk St u y (c+w):=by
 induction x with
 | nil =>
  have:=Wk.snoc (Wk.nil (St:=St) (u:=u)) m
  rw[Int.zero_add] at this
  rw[Int.add_zero];exact this
 | snoc _ m2 ih =>
  have:=ih.snoc m2
  rw[Int.add_assoc] at this;exact this
theorem Wk.symm {St:Nk α->List (Nk α×Int)}{u v:Nk α} (h:∀ k x c,(x,c)∈St k->(k,c)∈St x) (x:Wk St u v w):Wk St v u w:=by
 induction x with
 | nil=>exact .nil
 | snoc _ m ih=>rw[Int.add_comm];exact Wk.cons (h _ _ _ m) ih
structure Jp (St:Nk α->List (Nk α×Int)) (u0:Nk α) (ss:List (Ent α)):Prop where
 ns:(ss.map Ent.key).Nodup
 le:∀ v w,Wk St u0 v w->∃ e∈ss,e.key=v/\e.d<=w
 wk:∀ e∈ss,Wk St u0 e.key e.d
 rk:∀ pre e post,ss=pre++e::post->(e.par=none/\e.key=u0/\e.d=0)∨∃ u∈pre,∃ c,e.par=some u.key/\(e.key,c)∈St u.key/\e.d=u.d+c
theorem Dk {St:Nk α->List (Nk α×Int)}{u0:Nk α}:∀ (n:Nat) (ss:List (Ent α)),ss.length=n →
  (∀ pre e post,ss=pre++e::post->(e.par=none/\e.key=u0/\e.d=0)∨∃ u∈pre,∃ c,e.par=some u.key/\(e.key,c)∈St u.key/\e.d=u.d+c)->∀ e∈ss,Wk St u0 e.key e.d
 | 0,ss,hl,_,e,he=>by rw[List.length_eq_zero_iff.mp hl] at he;cases he
 | n+1,ss,hl,h,e,he=>by
  obtain⟨pre,post,q⟩:=List.append_of_mem he
  rcases h pre e post q with ⟨_,hk,hd⟩ | ⟨u,hu,c,_,hm,hd⟩
  ·rw[hk,hd];exact .nil
  ·have lp:pre.length<=n:=by
    have:=bu List.length q
    simp at this
    omega
   have ih:∀ e∈pre,Wk St u0 e.key e.d:=wk_pre_le pre.length n lp pre rfl fun p1 e1 p2 q1=>h p1 e1 (p2++e::post) (by rw[q,q1];simp)
   rw[hd]
   exact (ih u hu).snoc hm
where
 wk_pre_le (m n:Nat) (hmn:m<=n) (ss:List (Ent α)) (hl:ss.length=m) (h:∀ pre e post,ss=pre++e::post->(e.par=none/\e.key=u0/\e.d=0)∨∃ u∈pre,∃ c,e.par=some u.key/\(e.key,c)∈St u.key/\e.d=u.d+c):∀ e∈ss,Wk St u0 e.key e.d :=
  Dk m ss hl h
theorem Dij.done {St:Nk α->List (Nk α×Int)}{u0:Nk α}{fs ss:List (Ent α)} (D:Dij St (fun k p=>p∈St k) u0 fs ss) (h:∀ e∈fs,e∈ss):Jp St u0 ss:=by
 refine⟨D.ns,fun v w x=>?_,fun e he=>Dk ss.length ss rfl D.rk e he,D.rk⟩
 induction x with
 | nil =>
  obtain⟨e,he,hk,hd⟩:=D.st
  exact⟨e,h e he,hk,by omega⟩
 | @snoc v x w c _ m ih =>
  obtain⟨e,he,hk,hd⟩:=ih
  obtain⟨e',he',hk',hd'⟩:=D.cl e he (x,c) (by rw[hk];exact m)
  exact⟨e',h e' he',hk',by have:(x,c).2=c:=rfl;omega⟩
structure Ln (α:Type) where
 a:α
 b:α
 p:Option Int
 c:Option Int
def Up (x:Option Int) (w:Int):Prop:=∃ a,x=some a/\a<=w
theorem Up.mono {x:Option Int}{w w':Int} (h:Up x w) (l:w<=w'):Up x w':=by obtain⟨a,e,q⟩:=h;exact⟨a,e,by omega⟩
section
variable {zs bs:List α}{ls:List (Ln α)}{p g:Int}
end
end
end L2

namespace L2
open PySem PySem.Spec PyProof.Rows
variable {A:Around}{C:Addr}{CX:CXT}{D:Obj}{E:Value->Shared->Prop}{H:Hp}{H1:Hp}{K:PySem.W.Frag}{P:Program}{Q:Value->Shared->Prop}{X:Cx}{a:Addr}{base:Heap}{body:List Stmt}{cl:List (Str×Addr)}{es:List Expr}{f:Addr}{fd:FuncData}{g:TG}{h:Heap}{hd:Option Value}{i:Nat}{ifs:List Expr}{js:List Nat}{kvs:List (Key×V)}{lo:Int}{m:Str}{mg:Str->Option Value}{ns:List Int}{ob:Obj}{params:Arguments}{pins:List (Addr×Obj)}{pl:Sem Bool}{pos:Pos}{q:Str}{s:Shared}{scope:Scope}{sp:Sp}{spA:Sp->Sp}{st:Stmt}{ta:TA}{tb:(St->XK)->TS}{tc:TT}{te:TE}{tg:Expr}{th:Addr->TS}{tk:Nat}{ts:List (Addr×Str)}{us:List Value}{vs:Array Value}{w:World}{wi:TI}{x:Str}{xs:List V}{σ:St}
section
abbrev fX (q:Str):HO:=.tbl #[.str q 0]
section
variable {X:Cx}{pins:List (Addr×Obj)}{σ:St}{H:Hp}{s:Shared}
theorem tab_of {P:Addr} (I:Inv X pins σ H s) (e:H P=some (fX q)):∃ qs:Array Value,s.heap.get? P=some { cls:=.none,data:=.fields qs }/\TriplesOk qs.toList ∧
  ∀ pos c,codeAmong pos qs.toList=some c->∃ c' oc vs t,c=.ref c'/\H c'=some (.frz oc (.own P))/\s.heap.get? c'=some oc/\oc.data=.fields vs/\vs[1]?=some (.str q t):=by
 obtain⟨qs,h1,h2,h3⟩:=(show bH X.prog X.w H s.heap P (fX q) from I.hok P _ e)
 refine⟨qs,h1,h2,fun pos c z=>?_⟩
 obtain⟨c',oc,vs,t,q',a1,a2,a4,a5,a6⟩:=h3 pos c z
 have a7:q=q':=by
  have:=bu Array.toList a6
  simp at this
  exact this
 subst a7
 exact⟨c',oc,vs,t,a1,a2,(I.hok c' _ a2).1,a4,a5⟩
theorem Inv.tabled {P c':Addr}{h':Heap}{ps more:Array Value}{tk:Nat}{oc:Obj}{vs:Array Value}{tq:Tok} (I:Inv X pins σ H s) (e:H P=some (fX q)) (hx:∀ b o,b≠P->s.heap.get? b=some o->h'.get? b=some o) (hc:s.heap.objs.size<=c')
  (h1:h'.get? P=some { cls:=.none,data:=.fields more }) (h2:TriplesOk more.toList) (h3:∀ pos c,codeAmong pos more.toList=some c->codeAmong pos ps.toList=some c∨c=.ref c') (h0:s.heap.get? P=some { cls:=.none,data:=.fields ps })
  (c1:h'.get? c'=some oc) (c2:oc.data=.fields vs) (c3:vs[1]?=some (.str q tq)):Inv X pins σ (upd H c' (.frz oc (.own P))) { s with heap:=h',toks:=tk }:=by
 have hn:=I.hok.fresh hc
 have nP:∀ b,H b=none->b≠P:=fun b hb z=>by rw[z,e] at hb;cases hb
 have lt:∀ b o,s.heap.get? b=some o->b≠c':=fun b o z=>bf (bB (aF z) hc)
 obtain⟨qs,g1,g2,g3⟩:=tab_of I e
 have eq:qs=ps:=by
  rw[h0] at g1
  have:=Option.some.inj g1
  injection this with _ _ z
  injection z with z
  exact z.symm
 subst eq
 refine I.un ⟨fun b o z n _ _=>hx b o (nP b n) z,fun b o z n _ _=>⟨o.slots,hx b o (nP b n) z⟩,fun b o z n _=>by rw[ar (lt b o z)];exact n,fun b o z _=>?_,fun b xs z=>by rw[ar (bw z hn)];exact z,fun b u xs z=>by rw[ar (bw z hn)];exact z,
  fun b xs z=>⟨#[],by rw[ar (bw z hn),z];simp⟩⟩ fun b u z=>?_
 ·by_cases hb:b=P
  ·rw[hb];exact⟨_,h1⟩
  ·exact⟨o,hx b o hb z⟩
 ·by_cases hb:b=c'
  ·subst hb
   rw[az] at z;cases z
   exact⟨c1,_,c1⟩
  ·rw[ar hb] at z
   by_cases hp:b=P
   ·subst hp
    rw[e] at z;cases z
    refine⟨more,h1,h2,fun pos c w=>?_⟩
    rcases h3 pos c w with w | rfl
    ·obtain⟨c2',oc2,vs2,t2,a1,a2,a3,a4,a5⟩:=g3 pos c w
     exact⟨c2',oc2,vs2,t2,q,a1,by rw[ar (bw a2 hn)];exact a2,a4,a5,rfl⟩
    ·exact⟨c',oc,vs,tq,q,rfl,az,c2,c3,rfl⟩
   ·refine (I.hok b u z).nh (fun c v hc2 w=>hx c v ?_ w) (fun c w=>by rw[ar (bw w hn)];exact w) fun c xs w=>by rw[ar (bw w hn)];exact w
    rcases hc2 with rfl | w2
    ·exact hp
    ·exact aE w2 e (by intro z;cases z)
end
theorem wj {pos p2:Pos}{c:Value}:∀ (l:List Value),TriplesOk l->∀ x,codeAmong pos (l++[rawInt p2.line,rawInt p2.col,c])=some x->codeAmong pos l=some x∨x=c:=by
 intro l h
 fun_induction TriplesOk l with
 | case1 =>
  intro x e
  simp only[eX,codeAmong,rawInt] at e
  split at e
  ·exact .inr (Option.some.inj e).symm
  ·cases e
 | case2 a t b u y rest ih =>
  intro x e
  simp only[eT,codeAmong] at e ⊢
  split at e
  ·rename_i hc
   rw[if_pos hc];exact .inl e
  ·rename_i hc
   rw[if_neg hc];exact ih h x e
 | case3=>exact h.elim
section
variable {X:Cx}{pins:List (Addr×Obj)}{σ:St}{H:Hp}{s:Shared}{a:Addr}{y v:V}{u:Value}{A:Around}{E:Value->Shared->Prop}
end
section
variable {X:Cx}{pins:List (Addr×Obj)}{σ:St}{H:Hp}{s:Shared}
def pf (H:Hp) (P:Addr) (q:Str) (c':Addr):Prop:=∃ oc vs t,H c'=some (.frz oc (.own P))/\oc.data=.fields vs/\vs[1]?=some (.str q t)
theorem pf.same {H H':Hp}{P c':Addr} (h:pf H P q c') (s:aq H H'):pf H' P q c':=by
 obtain⟨oc,vs,t,h1,h2⟩:=h
 exact⟨oc,vs,t,s _ _ h1,h2⟩
end
section
variable {prog:Program}{w:World}{A:Around}{E:Value->Shared->Prop}{s:Shared}{d it:Addr}{D J:Obj}{es:Array DictEntry}{ep i:Nat}
theorem CB {Q:Value->Shared->Prop} (n0:(d==sysModules)=false) (g1:s.heap.get? d=some D) (g2:D.ExactDict) (g3:D.data=.dict es ep)
  (k:Q (.ref s.heap.objs.size) { s with heap:=s.heap.push { cls:=.type "dict_keyiterator",data:=.fields #[.ref d,.int 0 0,.int es.size 0,.int ep 0] } }):wpAny (model prog w) A (pyIter (.ref d)) Q E s:=by
 have ty:s.TypeIs (.ref d) "dict":=⟨D,g1,g2.1⟩
 refine wpAny_pyIter_slot ty F.slot_dict_iter (jS F.slot_dict_iter ty F.entry_dict_iter ?_ (F.args_dict_iter_1 _))
 unfold Builtin.«dict.__iter__» Builtin.Dict.dictSlotNone
 refine ah (ah (wpAny_notOrdered_dict ty ?_))
 refine ax (show wpAny _ _ (Builtin.Dict.showsAll d >>= _) _ _ s from ?_)
 unfold Builtin.Dict.showsAll
 rw[if_neg (fun z=>by rw[n0] at z;cases z)]
 refine ah (ax (ah (lU g1 g3 (ah (wpAny_dictEpoch g1 g3 ?_)))))
 refine ah (gM (ax ⟨_,rfl,"dict_keyiterator",_,⟨_,aZ _ rfl,rfl⟩,oz.lookup,?_⟩))
 simpa [rawInt] using k
theorem CC {Q:Option Value->Shared->Prop} (j:s.heap.IsKeyIter it d i es.size ep) (g1:s.heap.get? d=some D) (g3:D.data=.dict es ep) (hi:i<es.size)
  (k:∀ h',h'.IsKeyIter it d (i+1) es.size ep->Heap.SameBut it s.heap h'->Q (some es[i].key) { s with heap:=h' }):wpAny (model prog w) A (pyNext (.ref it)) Q E s:=by
 obtain⟨J,j1,j2,j3⟩:=id j
 unfold pyNext
 refine ah (wpAny_attempt (wpAny_callSpecial?_slot (name:=Str.ofString "__next__") j.typeIs oz (jS oz j.typeIs F.entry_dict_keyiterator_next ?_ (F.args_dict_keyiterator_next_1 _))))
 refine ah (ax (ah (ah ?_)))
 first | refine ah (ou j.typeIs (ax (ah (wpAny_fieldsOf j1 j3 ?_)))) | refine ah (oy j.typeIs (ax (ah (wpAny_fieldsOf j1 j3 ?_))))
 have ow:Builtin.Dict_items.ownsTuple "dict_keyiterator"=false:=by decide
 simp only[ow,ku,eM]
 show wpAny _ _ (if (Value.ref d==Value.none)=true then _ else _) _ _ _
 rw[if_neg (fun z:(Value.ref d==Value.none)=true=>bE z)]
 refine ah (ax (ah (lU g1 g3 ?_)))
 rw[if_neg (by simp)]
 refine ah (ax (ah (wpAny_dictEpoch g1 g3 ?_)))
 rw[if_neg (by simp)]
 refine ax ?_
 simp only[show ¬ ((i:Int)<0) from by omega,eM,Int.toNat_natCast,Array.getElem?_eq_getElem hi]
 refine ah ?_
 first | refine ah (ou j.typeIs (ax (ah (wpAny_isOneOf_keyiter j.typeIs ?_)))) | refine ah (oy j.typeIs (ax (ah (wpAny_isOneOf_keyiter j.typeIs ?_))))
 refine show wpAny _ _ (setField (.ref it) 1 (rawInt ((i:Int)+1)) >>= _) _ _ s from ah (wpAny_setField j1 j3 (by simp) ?_)
 have jn:(s.heap.update it (Obj.mapFields (·.setIfInBounds 1 (rawInt ((i:Int)+1))))).IsKeyIter it d (i+1) es.size ep :=
  ⟨_,lE _ j1 (Obj.isFreed_of_fields (Obj.data_mapFields j3 _)),(Obj.cls_mapFields ..).trans j2,by rw[Obj.data_mapFields j3];simp [rawInt]⟩
 refine ah (da (ah (wpAny_isOneOf_keyiter (s:={ s with heap:=s.heap.update it (Obj.mapFields (·.setIfInBounds 1 (rawInt ((i:Int)+1)))) }) jn.typeIs ?_)))
 refine show wpAny _ _ (pure es[i].key) _ _ _ from ?_
 exact ax (ax ⟨_,rfl,ax (k _ jn (Heap.SameBut.update ..))⟩)
theorem EO {Q:Option Value->Shared->Prop} (ha:A.handled=none) (j:s.heap.IsKeyIter it d i es.size ep) (hi:es.size<=i) (g1:s.heap.get? d=some D) (g3:D.data=.dict es ep)
  (k:∀ h',Heap.ExtBut it s.heap h'->Q none { s with heap:=h' }):wpAny (model prog w) A (pyNext (.ref it)) Q E s:=by
 obtain⟨J,j1,j2,j3⟩:=id j
 unfold pyNext
 refine ah (wpAny_attempt (wpAny_callSpecial?_slot (name:=Str.ofString "__next__") j.typeIs oz (jS oz j.typeIs F.entry_dict_keyiterator_next ?_ (F.args_dict_keyiterator_next_1 _))))
 refine ah (ax (ah (ah ?_)))
 first | refine ah (ou j.typeIs (ax (ah (wpAny_fieldsOf j1 j3 ?_)))) | refine ah (oy j.typeIs (ax (ah (wpAny_fieldsOf j1 j3 ?_))))
 have ow:Builtin.Dict_items.ownsTuple "dict_keyiterator"=false:=by decide
 simp only[ow,ku,eM]
 show wpAny _ _ (if (Value.ref d==Value.none)=true then _ else _) _ _ _
 rw[if_neg (fun z:(Value.ref d==Value.none)=true=>bE z)]
 refine ah (ax (ah (lU g1 g3 ?_)))
 rw[if_neg (by simp)]
 refine ah (ax (ah (wpAny_dictEpoch g1 g3 ?_)))
 rw[if_neg (by simp)]
 refine ax ?_
 simp only[show ¬ ((i:Int)<0) from by omega,eM,Int.toNat_natCast,Array.getElem?_eq_none hi]
 refine ah ?_
 first | refine ah (ou j.typeIs (ax ?_)) | refine ah (oy j.typeIs (ax ?_))
 refine show wpAny _ _ (setField (.ref it) 0 .none >>= _) _ _ s from ah (wpAny_setField j1 j3 (by simp) ?_)
 refine show wpAny _ _ (newExc (.type "StopIteration") [] >>= _) _ _ _ from ah ?_
 simp only[newExc,newTuple]
 refine ah (gM (ah (m:=firstArgMember _ _) (wpAny_of_eq (a:=Value.none) (by first | rfl | (simp only[firstArgMember];rfl)) ?_)) (by size_fits))
 refine gM ?_ (by size_fits)
 simp only[raiseNew]
 refine ah (wpAny_handled ?_)
 rw[show A.in1.handled=none from ha]
 refine ah (ax (wpAny_throw ?_))
 refine ah (wpAny_isInstance (T:="StopIteration") (b:=true) ⟨_,aZ _ rfl,rfl⟩ isSubtype_stop (ax ?_))
 exact (k _ (((Heap.SameBut.update ..).extBut.push _).push _))
end
section
variable {X:Cx}{pins:List (Addr×Obj)}{σ:St}{H:Hp}{A:Around}{s0:Shared}{l q I S:Addr}{vs:List Value}{R:Result->Shared->Prop}
end
theorem jU.same {H H':Hp}{y:V}{o:Option V} (s:aq H H') (g:jU H a y o):jU H' a y o:=by
 rcases g with ⟨kvs,k,e,h⟩ | ⟨kvs,k,b,e,h1,h2,h3⟩
 ·exact .inl ⟨kvs,k,e.elim (fun z=>.inl (s _ _ z)) fun ⟨o,z⟩=>.inr ⟨o,s _ _ z⟩,h⟩
 ·exact .inr ⟨kvs,k,b,e.elim (fun z=>.inl (s _ _ z)) fun ⟨o,z⟩=>.inr ⟨o,s _ _ z⟩,h1,s _ _ h2,h3⟩
section
variable {X:Cx}
end
def iL (a:Addr) (D:Obj):HO:=.ext fun h=>h.get? a=some D
theorem B9 (e:h.get? a=some D):bH P w H h a (iL a D):=⟨e,⟨D,e⟩,fun h1 h2 y k=>k D y⟩
theorem mJ {α β:Type}{F G:α->β->Prop}:∀ {l₁:List α}{l₂:List β},Paired F l₁ l₂->(∀ x,∀ y∈l₂,F x y->G x y)->Paired G l₁ l₂
 | _,_,.nil,_=>.nil
 | _,_,.cons r t,f=>.cons (f _ _ List.mem_cons_self r) (mJ t fun x y hy=>f x y (List.mem_cons_of_mem _ hy))
def yM:TE:=fun _ H Q=>nw H (.dT []) Q
theorem AH {σ:St}{H:Hp}{Q:VK}:yM σ H Q=nw H (.dT []) Q:=propext Iff.rfl
theorem Ag :PE X (.Dict [] [] pos) yM:=fun pins s σ H Q I h=>Cn pins s σ H Q I (nw.go h)
theorem Dw {td ty tv:TE}{D:Ends}{σ:St}{H:Hp}:CI td ty tv D σ H=tv σ H fun v H1=>td σ H1 fun x H2=>ty σ H2 fun y H3=>∃ a H4,x=.ref a/\wd H3 a y v H4/\D.nx σ H4:=propext Iff.rfl
theorem iq {o i value:Expr}{pos pos':Pos}{td ty tv:TE} (hu:X.A.units+1<cLine) (ho:PE X o td) (hi:PE X i ty) (hv:PE X value tv) (hs:swapsWith value (some (.Subscript o i pos')) pos.line X.env=pure false:=by kernel_rfl) :
  PS X (.Assign [.Subscript o i pos'] value pos) (CI td ty tv):=EJ hu ho hi hv hs
theorem cE {α β:Type}{F:α->β->Prop}:∀ {l₁:List α}{l₂:List β},Paired F l₁ l₂->∀ {i:Nat}{x:α},l₁[i]?=some x->∃ y,l₂[i]?=some y/\F x y
 | _,_,.nil,i,x,e=>by simp at e
 | _,_,.cons r t,0,x,e=>by simp at e;subst e;exact⟨_,rfl,r⟩
 | _,_,.cons r t,i+1,x,e=>cE t (by simpa using e)
section
variable {P:Program}{w:World}{K:PySem.W.Frag}{mg:Str->Option Value}{base:Heap}
theorem Fun.okT {x qual:Str}{f c:Addr}{N ps:List Str}{k:Nat} (F:Fun K x qual st f fd) (hc:fd.code=.ref c) (S:aM N ps (ak st)) (len:∀ vs H Q E,sp vs H Q E->vs.length=ps.length)
  (hbody:∀ (A:Around) (outer:List Env) (s:Shared) (H:Hp) (vs:List V) (Q:VK) (E:XK),bZ k (A.deeper (envOfC qual (ak st) s.heap.objs.size f (.ref c)))->sp vs H Q E →
   ∃ t,PSs (mm (CX1 P w) P w K mg base N qual (ak st) f (.ref c) A outer s H E) (bD st) t/\t { nx:=fun _ H'=>Q .non H',rt:=Q } (start N vs) H):bI P w K mg base (CX1 P w) (k+1) f fd ps sp:=by
 obtain⟨oc,od,kV,doc,pm,an,cdv,ct,osl,rfl,lk,hcd⟩:=F.ex
 have e:cdv=.ref c:=hc
 subst e
 exact vc lk hcd S len fun A outer s H vs Q E hr hsp=>hbody A outer s H vs Q E hr hsp
end
end
section
section
variable {prog:Program}{w:World}{A:Around}{E:Value->Shared->Prop}{s:Shared}
end
section
variable {prog:Program}{w:World}{A:Around}{E:Value->Shared->Prop}{s:Shared}
end
section
variable {α:Type}
theorem Io {p:List α->Prop} (h:p []) (us:List α) (e:us.length=0):p us:=by
 cases us with
 | nil=>exact h
 | cons _ _=>cases e
theorem bind1 {p:List α->Prop} (h:∀ a,p [a]) (us:List α) (e:us.length=1):p us:=by
 cases us with
 | nil=>cases e
 | cons a r=>exact Io (p:=fun r=>p (a::r)) (h a) r (Nat.succ.inj e)
theorem fu {p:List α->Prop} (h:∀ a b,p [a,b]) (us:List α) (e:us.length=2):p us:=by
 cases us with
 | nil=>cases e
 | cons a r=>exact bind1 (p:=fun r=>p (a::r)) (h a) r (Nat.succ.inj e)
theorem uK {p:List α->Prop} (h:∀ a b c,p [a,b,c]) (us:List α) (e:us.length=3):p us:=by
 cases us with
 | nil=>cases e
 | cons a r=>exact fu (p:=fun r=>p (a::r)) (h a) r (Nat.succ.inj e)
theorem qt {p:List α->Prop} (h:∀ a b c d,p [a,b,c,d]) (us:List α) (e:us.length=4):p us:=by
 cases us with
 | nil=>cases e
 | cons a r=>exact uK (p:=fun r=>p (a::r)) (h a) r (Nat.succ.inj e)
end
end
section
end
section
theorem bZ.hu9 {k:Nat} (r:bZ k A):A.units+9<cLine:=by have:=r.un;omega
theorem gv.hu9 {k:Nat} (r:gv k A):A.units+9<cLine:=by have:=r.un;omega
inductive EqR (K:PySem.W.Frag) (H:Hp):Nat->V->V->Bool->Prop
 | same {n:Nat}{x:V} (h:Fo x=true):EqR K H n x x true
 | flat {n:Nat}{x y:V} (h1:dh x=true) (h2:dh y=true):EqR K H n x y (eqV x y)
 | lst {n:Nat}{p q:Addr}{xs ys:List V} (e:Nat->Bool) (hne:p≠q) (h1:SqL K H p xs) (h2:SqL K H q ys) (hl:xs.length=ys.length) (h:∀ (i:Nat) x y,xs[i]?=some x->ys[i]?=some y->EqR K H n x y (e i)):EqR K H (n+1) (.ref p) (.ref q) ((List.range xs.length).all e)
 | tup {n:Nat}{p q:Addr}{xs ys:List V} (e:Nat->Bool) (hne:p≠q) (h1:SqT K H p xs) (h2:SqT K H q ys) (h:∀ (i:Nat) x y,xs[i]?=some x->ys[i]?=some y->EqR K H n x y (e i)):EqR K H (n+1) (.ref p) (.ref q) ((List.range (min xs.length ys.length)).all e&&xs.length==ys.length)
theorem EqR.at {X:Cx}{pins:List (Addr×Obj)}{s:Shared}{σ:St}{H:Hp} (I:Inv X pins σ H s) {n:Nat}{x y:V}{b:Bool} (h:EqR X.K H n x y b):∀ {A:Around}{u v:Value},A.units+n<cLine->RelV x u->RelV y v->SeqAt.EqAt A s u v b:=by
 induction h with
 | same h=>intro A u v _ ru rv;exact zv ru rv h
 | flat h1 h2=>intro A u v _ ru rv;exact mD ru rv h1 h2
 | @lst n p q xs ys e hne h1 h2 hl _ ih =>
  intro A u v hu ru rv
  cases ru;cases rv
  obtain⟨us,r1,p1,_⟩:=I.list h1
  obtain⟨vs,r2,p2,_⟩:=I.list h2
  have l1:=r1.length
  have l2:=r2.length
  have:=SeqAt.RcAt.lists (A:=A) (s:=s) (e:=e) p1.isList p2.isList (by simp only[aU];omega) (by omega) fun j j1 j2=>by
   obtain⟨x,ex,rx⟩:=cD r1 j1
   obtain⟨y,ey,ry⟩:=cD r2 j2
   exact ih j x y ex ey (show A.units+1+n<cLine by omega) rx ry
  rw[aU,←l1] at this
  exact SeqAt.EqAt.of_refs hne this
 | @tup n p q xs ys e hne h1 h2 _ ih =>
  intro A u v hu ru rv
  cases ru;cases rv
  obtain⟨us,r1,p1,_⟩:=I.tuple h1
  obtain⟨vs,r2,p2,_⟩:=I.tuple h2
  have l1:=r1.length
  have l2:=r2.length
  have:=SeqAt.RcAt.tuples (A:=A) (s:=s) (e:=e) p1 p2 (by omega) fun j j1 j2=>by
   obtain⟨x,ex,rx⟩:=cD r1 j1
   obtain⟨y,ey,ry⟩:=cD r2 j2
   exact ih j x y ex ey (show A.units+1+n<cLine by omega) rx ry
  rw[aU,aU,←l1,←l2] at this
  exact SeqAt.EqAt.of_refs hne this
def RcR (K:PySem.W.Frag) (H:Hp) (n:Nat) (x y:V) (b:Bool):Prop:=∃ p q,x=.ref p/\y=.ref q ∧
 ((∃ xs ys,SqL K H p xs/\SqL K H q ys/\((xs.length≠ys.length/\b=false)∨(xs.length=ys.length/\∃ e:Nat->Bool,(∀ (i:Nat) x y,xs[i]?=some x->ys[i]?=some y->EqR K H n x y (e i))/\b=(List.range xs.length).all e))) ∨
  ∃ xs ys,SqT K H p xs/\SqT K H q ys/\∃ e:Nat->Bool,(∀ (i:Nat) x y,xs[i]?=some x->ys[i]?=some y->EqR K H n x y (e i))/\b=((List.range (min xs.length ys.length)).all e&&xs.length==ys.length))
def IH (K:PySem.W.Frag):R2:=fun x y H Q=>∃ n b,n<=6/\RcR K H n x y b/\Q (.bl b) H
def IM (K:PySem.W.Frag):R2:=fun x y H Q=>∃ n b,n<=6/\RcR K H n x y b/\Q (.bl (!b)) H
theorem DO {K:PySem.W.Frag}{x y:V}{H:Hp}{Q:VK}:IH K x y H Q=(∃ n b,n<=6/\RcR K H n x y b/\Q (.bl b) H):=propext Iff.rfl
theorem DR {K:PySem.W.Frag}{x y:V}{H:Hp}{Q:VK}:IM K x y H Q=(∃ n b,n<=6/\RcR K H n x y b/\Q (.bl (!b)) H):=propext Iff.rfl
section
variable {X:Cx}
theorem ur (hK:X.K=K) (hu:X.A.units+9<cLine):OpR X (compareOp .Eq) (IH K):=by
 subst hK
 intro pins s σ H x y v u Q I rx ry h
 obtain⟨n,b,hn,⟨p,q,rfl,rfl,h⟩,k⟩:=h
 cases rx;cases ry
 rcases h with ⟨xs,ys,h1,h2,h⟩ | ⟨xs,ys,h1,h2,e,h,rfl⟩
 ·obtain⟨us,r1,p1,_⟩:=I.list h1
  obtain⟨vs,r2,p2,_⟩:=I.list h2
  have l1:=r1.length
  have l2:=r2.length
  rcases h with ⟨hl,rfl⟩ | ⟨hl,e,h,rfl⟩
  ·exact SeqAt.eq_list_lengthsAt p1.isList p2.isList (by simp only[aU];simpa using (by omega:us.length≠vs.length)) (by omega) ⟨.bl _,H,I,rfl,k⟩
  ·refine SeqAt.eq_listAt (e:=e) p1.isList p2.isList (by simp only[aU];omega) (by omega) (fun j j1 j2=>?_) ⟨.bl _,H,I,rfl,?_⟩
   ·obtain⟨x,ex,rx⟩:=cD r1 j1
    obtain⟨y,ey,ry⟩:=cD r2 j2
    exact (h j x y ex ey).at I (show X.A.units+1+n<cLine by omega) rx ry
   ·rw[aU,←l1];exact k
 ·obtain⟨us,r1,p1,_⟩:=I.tuple h1
  obtain⟨vs,r2,p2,_⟩:=I.tuple h2
  have l1:=r1.length
  have l2:=r2.length
  refine SeqAt.eq_tupleAt (e:=e) p1 p2 (by omega) (fun j j1 j2=>?_) ⟨.bl _,H,I,rfl,?_⟩
  ·obtain⟨x,ex,rx⟩:=cD r1 j1
   obtain⟨y,ey,ry⟩:=cD r2 j2
   exact (h j x y ex ey).at I (show X.A.units+1+n<cLine by omega) rx ry
  ·rw[aU,aU,←l1,←l2];exact k
theorem mI (hK:X.K=K) (hu:X.A.units+9<cLine):OpR X (compareOp .NotEq) (IM K):=by
 subst hK
 intro pins s σ H x y v u Q I rx ry h
 obtain⟨n,b,hn,⟨p,q,rfl,rfl,h⟩,k⟩:=h
 cases rx;cases ry
 rcases h with ⟨xs,ys,h1,h2,h⟩ | ⟨xs,ys,h1,h2,e,h,rfl⟩
 ·obtain⟨us,r1,p1,_⟩:=I.list h1
  obtain⟨vs,r2,p2,_⟩:=I.list h2
  have l1:=r1.length
  have l2:=r2.length
  rcases h with ⟨hl,rfl⟩ | ⟨hl,e,h,rfl⟩
  ·exact SeqAt.RcNeAt.lists_lengths p1.isList p2.isList (by simp only[aU];simpa using (by omega:us.length≠vs.length)) (by omega) _ _ _ _ ⟨.bl _,H,I,rfl,k⟩
  ·refine SeqAt.RcNeAt.lists (e:=e) p1.isList p2.isList (by simp only[aU];omega) (by omega) (fun j j1 j2=>?_) _ _ _ _ ⟨.bl _,H,I,rfl,?_⟩
   ·obtain⟨x,ex,rx⟩:=cD r1 j1
    obtain⟨y,ey,ry⟩:=cD r2 j2
    exact (h j x y ex ey).at I (show X.A.units+1+n<cLine by omega) rx ry
   ·rw[aU,←l1];exact k
 ·obtain⟨us,r1,p1,_⟩:=I.tuple h1
  obtain⟨vs,r2,p2,_⟩:=I.tuple h2
  have l1:=r1.length
  have l2:=r2.length
  refine SeqAt.RcNeAt.tuples (e:=e) p1 p2 (by omega) (fun j j1 j2=>?_) _ _ _ _ ⟨.bl _,H,I,rfl,?_⟩
  ·obtain⟨x,ex,rx⟩:=cD r1 j1
   obtain⟨y,ey,ry⟩:=cD r2 j2
   exact (h j x y ex ey).at I (show X.A.units+1+n<cLine by omega) rx ry
  ·rw[aU,aU,←l1,←l2];exact k
end
def Al (e:V->Bool):Value->Bool
 | .ref a=>e (.ref a)
 | _=>false
theorem Di (r:Vals xs us) (e:V->Bool) (h:∀ v∈xs,∃ a,v=.ref a):us.any (Al e)=xs.any e/\us.countP (Al e)=xs.countP e:=by
 induction r with
 | nil=>exact⟨rfl,rfl⟩
 | @cons x u xs us r1 r2 ih =>
  obtain⟨a,rfl⟩:=h x List.mem_cons_self
  cases r1
  have:=ih fun v hv=>h v (List.mem_cons_of_mem _ hv)
  rw[iC,iC,List.countP_cons,List.countP_cons,this.1,this.2]
  exact⟨rfl,rfl⟩
def InR (K:PySem.W.Frag) (H:Hp) (x:V) (p:Addr) (xs:List V) (e:V->Bool):Prop:=∃ n,n<=6/\SqL K H p xs/\(∀ v∈xs,∃ a,v=.ref a)/\∀ v∈xs,EqR K H n v x (e v)
def IK (K:PySem.W.Frag) (neg:Bool):R2:=fun x y H Q=>∃ p xs e,y=.ref p/\InR K H x p xs e/\Q (.bl (xs.any e != neg)) H
theorem DQ {K:PySem.W.Frag}{neg:Bool}{x y:V}{H:Hp}{Q:VK}:IK K neg x y H Q=(∃ p xs e,y=.ref p/\InR K H x p xs e/\Q (.bl (xs.any e != neg)) H):=propext Iff.rfl
section
variable {X:Cx}
theorem InR.each (I:Inv X pins σ H s) (hu:X.A.units+9<cLine) {x:V}{p:Addr}{e:V->Bool} (h:InR X.K H x p xs e) {u:Value} (ru:RelV x u) :
  ∃ its,Vals xs its/\s.heap.IsList p its.toArray/\(∀ y,y∈its.toArray->SeqAt.EqAt X.A.in1 s y u (Al e y))/\its.any (Al e)=xs.any e/\its.countP (Al e)=xs.countP e:=by
 obtain⟨n,hn,h1,h2,h3⟩:=h
 obtain⟨its,r,pl,_⟩:=I.list h1
 obtain⟨a1,a2⟩:=Di r e h2
 refine⟨its,r,pl.isList,fun y hy=>?_,a1,a2⟩
 obtain⟨j,hj,rfl⟩:=Array.getElem_of_mem hy
 obtain⟨v,ev,rv⟩:=cD r hj
 have hv:=bp ev
 obtain⟨a,rfl⟩:=h2 v hv
 have e1:=(h3 _ hv).at I (A:=X.A.in1) (show X.A.units+1+n<cLine by omega) rv ru
 rw[show its.toArray[j]=Value.ref a from rv] at e1 ⊢
 exact e1
theorem Ac (hK:X.K=K) (hu:X.A.units+9<cLine):OpR X (compareOp .NotIn) (IK K true):=by
 subst hK
 intro pins s σ H x y v u Q I rx ry h
 obtain⟨p,xs,e,rfl,h,k⟩:=h
 cases ry
 obtain⟨its,r,pl,he,a1,_⟩:=h.each I hu rx
 refine SeqAt.notIn_listAt (Al e) pl he ⟨.bl _,H,I,rfl,?_⟩
 rw[List.any_toArray,a1,←Bool.bne_true (xs.any e)];exact k
end
theorem rA {p q:Addr} (h1:SqL K H p xs) (h2:SqL K H q []):RcR K H 0 (.ref p) (.ref q) (decide (xs=[])):=by
 refine⟨p,q,rfl,rfl,.inl ⟨xs,[],h1,h2,?_⟩⟩
 cases xs with
 | nil=>exact .inr ⟨rfl,fun _=>true,fun i x y e=>by simp at e,rfl⟩
 | cons x r=>exact .inl ⟨by simp,by simp⟩
theorem all_strs (us vs:List Str) (h:us.length=vs.length):((List.range us.length).all fun i=>eqV ((us.map V.str).getD i .non) ((vs.map V.str).getD i .non))=decide (us=vs):=by
 rw[mh,ck,cZ]
 constructor
 ·intro k
  apply List.ext_getElem h
  intro i h1 h2
  have:=k i (cY.mpr h1)
  rw[List.getD_eq_getElem?_getD,List.getD_eq_getElem?_getD,List.getElem?_map,List.getElem?_map,List.getElem?_eq_getElem h1,List.getElem?_eq_getElem h2] at this
  have this':(us[i]==vs[i])=true:=this
  exact eq_of_beq this'
 ·rintro rfl i hi
  have h1:=cY.mp hi
  rw[List.getD_eq_getElem?_getD,List.getElem?_map,List.getElem?_eq_getElem h1]
  show (us[i]==us[i])=true
  simp
theorem n4 (us vs:List Str):(((List.range (min (us.map V.str).length (vs.map V.str).length)).all fun i=>eqV ((us.map V.str).getD i .non) ((vs.map V.str).getD i .non))&&(us.map V.str).length==(vs.map V.str).length)=decide (us=vs):=by
 rw[List.length_map,List.length_map]
 by_cases h:us.length=vs.length
 ·rw[h,Nat.min_self,beq_self_eq_true,Bool.and_true,←h,all_strs us vs h]
 ·rw[show (us.length==vs.length)=false from by simpa using h,Bool.and_false,eq_comm,decide_eq_false_iff_not]
  exact fun e=>h (by rw[e])
theorem sY {n:Nat} (us vs:List Str):∀ (i:Nat) x y,(us.map V.str)[i]?=some x->(vs.map V.str)[i]?=some y->EqR K H n x y (eqV ((us.map V.str).getD i .non) ((vs.map V.str).getD i .non)):=fun i x y e1 e2=>by
 rw[List.getD_eq_getElem?_getD,List.getD_eq_getElem?_getD,e1,e2]
 have f:∀ {ws:List Str}{z:V},(ws.map V.str)[i]?=some z->dh z=true:=fun {ws z} e=>by
  obtain⟨w,_,rfl⟩:=aC.mp (bp e);rfl
 exact .flat (f e1) (f e2)
theorem ER {p q:Addr}{us vs:List Str} (h1:SqT K H p (us.map V.str)) (h2:SqT K H q (vs.map V.str)):RcR K H 0 (.ref p) (.ref q) (decide (us=vs)) :=
 ⟨p,q,rfl,rfl,.inr ⟨_,_,h1,h2,_,sY us vs,(n4 us vs).symm⟩⟩
theorem DN {p q:Addr}{us vs:List Str} (h1:SqT K H p (us.map V.str)) (h2:SqT K H q (vs.map V.str)) (hs:p=q->us=vs):EqR K H 1 (.ref p) (.ref q) (decide (us=vs)):=by
 by_cases e:p=q
 ·have:=hs e
  subst e this
  rw[decide_eq_true rfl];exact .same rfl
 ·rw[←n4 us vs]
  exact .tup _ e h1 h2 (sY us vs)
end
section
section
variable {X:Cx}
end
section
variable {prog:Program}{w:World}{A:Around}{E:Value->Shared->Prop}{s:Shared}
end
section
variable {X:Cx}
end
end
section
structure we (K:PySem.W.Frag) (x qual:Str) (st:Stmt) (f:Addr) (fd:FuncData):Prop where
 ex:∃ (oc:Value) (od:Option Addr) (dV kV doc pm:Value) (an:Option Addr) (cdv ct:Value) (osl:Array (Option Value)),
  fd=PySem.W.fnOf x qual (bT st) (bD st) (ak st) dV kV doc pm an cdv ct/\K.lookup f=some ⟨oc,od,.func fd,osl⟩/\PySem.W.codeIn K cdv qual=true
 kp:PySem.W.keepIn K (.ref f)=true
section
variable {P:Program}{w:World}{K:PySem.W.Frag}{mg:Str->Option Value}{base:Heap}
theorem yt {x qual:Str}{oc:Value}{od an:Option Addr}{osl:Array (Option Value)}{dV kV doc pm cdv ct:Value} (l:K.lookup f=some ⟨oc,od,.func (PySem.W.fnOf x qual (bT st) (bD st) (ak st) dV kV doc pm an cdv ct),osl⟩)
  (c:PySem.W.codeIn K cdv qual=true) (k:PySem.W.keepIn K (.ref f)=true):we K x qual st f (PySem.W.fnOf x qual (bT st) (bD st) (ak st) dV kV doc pm an cdv ct):=⟨⟨oc,od,dV,kV,doc,pm,an,cdv,ct,osl,rfl,l,c⟩,k⟩
theorem we.okX {x qual:Str}{N ps:List Str}{k:Nat} (F:we K x qual st f fd) (S:aM N ps (ak st)) (len:∀ vs H Q E,sp vs H Q E->vs.length=ps.length)
  (hbody:∀ (cdv:Value) (A:Around) (outer:List Env) (s:Shared) (H:Hp) (vs:List V) (Q:VK) (E:XK),bZ k (A.deeper (envOfC qual (ak st) s.heap.objs.size f cdv))->sp vs H Q E →
   ∃ t,PSs (mm (CX1 P w) P w K mg base N qual (ak st) f cdv A outer s H E) (bD st) t/\t { nx:=fun _ H'=>Q .non H',rt:=Q } (start N vs) H):bI P w K mg base (CX1 P w) (k+1) f fd ps sp:=by
 obtain⟨oc,od,dV,kV,doc,pm,an,cdv,ct,osl,rfl,lk,hcd⟩:=F.ex
 exact vc lk hcd S len fun A outer s H vs Q E hr hsp=>hbody cdv A outer s H vs Q E hr hsp
theorem we.okT {x qual:Str}{f c:Addr}{N ps:List Str}{k:Nat} (F:we K x qual st f fd) (hc:fd.code=.ref c) (S:aM N ps (ak st)) (len:∀ vs H Q E,sp vs H Q E->vs.length=ps.length)
  (hbody:∀ (A:Around) (outer:List Env) (s:Shared) (H:Hp) (vs:List V) (Q:VK) (E:XK),bZ k (A.deeper (envOfC qual (ak st) s.heap.objs.size f (.ref c)))->sp vs H Q E →
   ∃ t,PSs (mm (CX1 P w) P w K mg base N qual (ak st) f (.ref c) A outer s H E) (bD st) t/\t { nx:=fun _ H'=>Q .non H',rt:=Q } (start N vs) H):bI P w K mg base (CX1 P w) (k+1) f fd ps sp:=by
 obtain⟨oc,od,dV,kV,doc,pm,an,cdv,ct,osl,rfl,lk,hcd⟩:=F.ex
 have e:cdv=.ref c:=hc
 subst e
 exact vc lk hcd S len fun A outer s H vs Q E hr hsp=>hbody A outer s H vs Q E hr hsp
end
structure A3 (P:Program) (w:World) (K:PySem.W.Frag) (mg:Str->Option Value) (base:Heap) (CX:CXT) (C:Addr) (m:Str) (k:Nat) (ps:List Str) (sp:Sp):Prop where
 ex:∃ (f:Addr) (fd:FuncData),bI P w K mg base CX k f fd ps sp/\Meth K C m f/\Binds K fd ps [.none]
 cl:Cls K C
def spD (sp:Sp):Sp:=fun vs H Q E=>sp (vs++[.non]) H Q E
section
variable {X:Cx}{CX:CXT}{E:St->XK}
theorem vE {pl:Sem Bool}{k:Nat}{ps:List Str}{o e:Expr}{ta:TE}{t:TA}{apos pos:Pos} (M:A3 X.prog X.w X.K X.mg X.base CX C m k ps sp) (hx:Passes CX X E) (hr:bZ k X.A) (he:PE X o ta) (ha:PA X (e::es) t)
  (hs:cV (e::es)=true:=by kernel_rfl)
  (ht:eval (.Call (.Attribute o m apos) (e::es) [] pos) X.env=(do
   let ov ←eval o X.env
   standAt apos.atName
   let (f,first) ←holding [ov] (getMethod ov m pl)
   callWith pos f first (backTo pos (starEach (e::es) X.env)) (backToKw pos (keywordEach [] X.env))):=by rfl) :
  PE X (.Call (.Attribute o m apos) (e::es) [] pos) (uC C m (spD sp) E ta t):=by
 obtain⟨f,fd,F,hm,hb⟩:=M.ex
 intro pins s σ H Q I h
 refine yB (ta:=up ta) (t:=t) he.up M.cl hm F hr hb (.cons (show RelV .non .none from rfl) .nil) hx ha (aO (aR hs).1) (cx (aR hs).2) ht pins s σ H Q I ⟨_,h,fun x H1 q=>?_⟩
 cases x with
 | ref a =>
  obtain⟨dx,fs,h1,h2,h3⟩:=q
  exact⟨a,dx,fs,rfl,h1,h2,h3⟩
 | _=>exact False.elim q
end
section
variable {X:Cx}{pins:List (Addr×Obj)}{σ:St}{H:Hp}{s:Shared}
abbrev qN (q:Str) (params:Arguments) (body:Expr) (scope:Scope) (cl:List (Str×Addr)) (pm cd ctv:Value):Obj :=
 { cls:=.type "function",data:=.func (PySem.W.kla_fn "<lambda>" q params body scope cl pm cd ctv) }
theorem zS {A:Around}{E:Value->Shared->Prop}{Q:Value->Shared->Prop}{P c:Addr}{params:Arguments}{body:Expr}{scope:Scope}{lpos:Pos}{cl:List (Str×Addr)} (I:Inv X pins σ H s) (e:H P=some (fX q))
  (hcd:X.env.code=.ref c) (hC:PySem.W.codeHdIn X.K c P=true) (hq:X.env.qual++"<lambda>"=q) (hd:defaultsOf params X.env=([],[])) (hcl:clo X.env.cells scope.names []=some cl)
  (k:∀ f c' ctv H' s',Inv X pins σ H' s'->aq H H'->H f=none->H' f=some (.frz (qN q params body scope cl ((X.mg "__name__").getD .none) (.ref c') ctv) (.own P))->pf H' P q c'->Q (.ref f) s') :
  wpAny (model X.prog X.w) A (eval (.Lambda params body scope lpos) X.env) Q E s:=by
 refine PySem.W.kla_eval hd ?_
 rw[hq]
 have C:=PySem.W.codeHd_of_K I.kIn hC
 obtain⟨qs,g1,g2,g3⟩:=tab_of I e
 have hg:=I.mod.glob.keeps I.bk
 obtain⟨bm,ob,b1,b2,b3,b4,b5,b6⟩:=I.mod.bmn
 have hgP:mainGlobals≠P:=fun z=>by
  obtain⟨o,es,ep,w1,w2,_⟩:=I.mod.glob
  have:=(I.bs _ _ w1).2
  rw[z,e] at this;cases this
 have hbP:bm≠P:=fun z=>by
  have:=(I.bs _ _ b3).2
  rw[z,e] at this;cases this
 have hbG:bm≠mainGlobals:=fun z=>by
  obtain⟨o,es,ep,w1,w2,_⟩:=I.mod.glob
  rw[z,w1] at b3;cases b3;rw[w2] at b6;cases b6
 have hb:s.heap.BuiltinsAt X.mg P:=⟨bm,ob,b1,b2,hbG,hbP,I.bk _ _ b3,b4,b5,b6⟩
 have hcl':=fG hcl
 cases hf:codeAmong lpos qs.toList with
 | none =>
  refine PySem.W.kla_makeFunction (mg:=X.mg) hcl' I.ok.glob hg hcd C g1 g2 hf hgP hb fun c' ctv h' tk hx hge hlt hrec htb=>?_
  obtain⟨c2,oc,vs,t,z1,z2,z3,z4⟩:=id hrec
  cases z1
  have I1:Inv X pins σ (upd H c' (.frz oc (.own P))) { s with heap:=h',toks:=tk }:=I.tabled (ps:=qs) e (fun b o hb z=>hx b o hb z) hge htb (by simpa using TriplesOk_snoc _ _ _ _ g2) (fun pos x z=>wj qs.toList g2 x (by simpa using z)) g1 z2 z3 z4
  have hn:=I.hok.fresh hge
  have kp:∀ b o,h'.get? b=some o->(h'.push (PySem.W.kla_obj "<lambda>" q params body scope cl ((X.mg "__name__").getD .none) c' ctv)).get? b=some o:=fun b o z=>aH _ z
  have hf1:=I1.hok.fresh (ai h'.objs.size)
  have hfH:H h'.objs.size=none:=I.hok.fresh (aP (dQ hge hlt))
  refine k h'.objs.size c' ctv _ _ (I1.laid (a:=h'.objs.size) (o:=.frz (qN q params body scope cl ((X.mg "__name__").getD .none) (.ref c') ctv) (.own P)) (t':=tk) kp (ai _) ⟨aZ _ rfl,_,aZ _ rfl⟩) ((dw hn).trans (dw hf1)) hfH az ?_
  exact pf.same ⟨oc,vs,t,az,z3,z4⟩ (dw hf1)
 | some cv =>
  obtain⟨c',oc,vs,t,a1,a2,a3,a4,a5⟩:=g3 lpos cv hf
  subst a1
  refine PySem.W.kla_makeFunctionHit (mg:=X.mg) hcl' I.ok.glob hg hcd C g1 g2 hf hb fun ctv h' tk hx hsz=>?_
  have kp:∀ b o,s.heap.get? b=some o->(h'.push { cls:=.type "function",data:=.func (PySem.W.kla_fn "<lambda>" q params body scope cl ((X.mg "__name__").getD .none) (.ref c') ctv) }).get? b=some o:=fun b o z=>aH _ (hx b o z)
  have hf1:=I.hok.fresh hsz
  refine k h'.objs.size c' ctv _ _ (I.laid (a:=h'.objs.size) (o:=.frz (qN q params body scope cl ((X.mg "__name__").getD .none) (.ref c') ctv) (.own P)) (t':=tk) kp hsz ⟨aZ _ rfl,_,aZ _ rfl⟩) (dw hf1) hf1 az ?_
  exact pf.same ⟨oc,vs,t,a2,a4,a5⟩ (dw hf1)
def FL (q:Str) (Pt:Addr) (H:Hp) (f:Addr):Prop:=∃ (pm ctv:Value) (c':Addr) (params:Arguments) (scope:Scope) (x:Str) (j:Nat) (p:Pos),
 H f=some (.frz (qN q params (.Constant (.bool false) j p) scope [] pm (.ref c') ctv) (.own Pt))/\pf H Pt q c' ∧
 (∀ u:Value,bindArgs (PySem.W.kla_fn "<lambda>" q params (.Constant (.bool false) j p) scope [] pm (.ref c') ctv) ⟨[u],[]⟩=pure [(x,u)]) ∧
 scope.isCoroutine=false/\scope.isGenerator=false/\scope.kind=.function/\(∀ y∈scope.names,y.2≠.cell)/\scope.names.lookup x=some .local
theorem FL.same {q:Str}{Pt f:Addr}{H H':Hp} (h:FL q Pt H f) (s:aq H H'):FL q Pt H' f:=by
 obtain⟨pm,ctv,c',params,scope,x,j,p,h1,h2,h3⟩:=h
 exact⟨pm,ctv,c',params,scope,x,j,p,s _ _ h1,h2.same s,h3⟩
end
section
variable {X:Cx}
end
def IL:List V->Hp->VK->Prop:=fun vs H Q=>match vs with
 | [.ref a]=>∃ kvs,Rd H a (.dK kvs)/\Q (.int kvs.length) H
 | _=>False
theorem sx :cC X (.builtin "len") IL:=by
 intro pins s σ H xs us Q I r h
 match xs,h with
 | [.ref a],h =>
  obtain⟨kvs,ha,q⟩:=h
  obtain⟨u,rfl,r2⟩:=vals1 r
  cases r2
  exact Ip I ha fun t s' I'=>⟨.int kvs.length,H,I',⟨t,rfl⟩,q⟩
def C8:List V->Hp->VK->Prop:=fun vs H Q=>match vs with
 | [.ref a]=>∃ kvs:List (Int×V),Rd H a (.dK (kvs.map fun q=>(.inl q.1,q.2)))/\kvs.length<64/\∀ ns:List Int,ns.Perm (kvs.map (·.1))->ns.Pairwise (·<=·)->nw H (.lst (ns.map V.int)) Q
 | _=>False
theorem zG {Q:VK}:C8 [.ref a] H Q=(∃ kvs:List (Int×V),Rd H a (.dK (kvs.map fun q=>(.inl q.1,q.2)))/\kvs.length<64/\∀ ns:List Int,ns.Perm (kvs.map (·.1))->ns.Pairwise (·<=·)->nw H (.lst (ns.map V.int)) Q):=propext Iff.rfl
theorem vh:∀ {vs:List Value}{ns:List Int},vs.length=ns.length->(∀ (i:Nat) v,vs[i]?=some v->∃ n t,ns[i]?=some n/\v=.int n t)->IntsAre vs ns
 | [],[],_,_=>.nil
 | v::vs,n::ns,hl,h=>by
  obtain⟨m,t,e,rfl⟩:=h 0 v rfl
  cases e
  exact .cons _ t (vh (by simpa using hl) fun i v e=>h (i+1) v (by simpa using e))
theorem nV:∀ {ns:List Int}{us:List Value},IntsAre us ns->Vals (ns.map V.int) us
 | _,_,.nil=>.nil
 | _,_,.cons z t h=>.cons ⟨t,rfl⟩ (nV h)
section
variable {prog:Program}{w:World}{A:Around}{E:Value->Shared->Prop}{s:Shared}
theorem CO {T:String}{r d:Addr}{n:Nat}{Pv:Nat->Value->Prop}{OK:Heap->Prop}{Q:Value->Shared->Prop} (K:PySem.W.KdlSrc prog w T r d n Pv OK) (hh:A.handled=none) (hok:OK s.heap) (hn:n<64) (hl:ns.length=n)
  (hv:∀ (i:Nat) v,i<n->Pv i v->∃ m t,ns[i]?=some m/\v=.int m t)
  (k:∀ (h1 h':Heap) (tk:Nat) (out:Array Value) (ms:List Int) (c:Nat),(∀ b o,s.heap.get? b=some o->h1.get? b=some o)->(∀ b o,h1.get? b=some o->h'.get? b=some o)->h'.get? h1.objs.size=some (seqObj "list" out c)->IntsAre out.toList ms->ms.Perm ns->ms.Pairwise (·<=·)->Q (.ref h1.objs.size) { s with heap:=h',toks:=tk }) :
  wpAny (model prog w) A (call (.builtin "sorted") [.ref r]) Q E s:=by
 refine Calls.call_function_entry kind_sorted plain_sorted entry_sorted (args_sorted1 _) ?_
 unfold Builtin.«sorted»
 have hz:n<=sizeLine:=aP (bB hn (by rw[sizeLine_eq];omega))
 refine ah (m:=checkCount "sorted" 1 1 _) (ax (ah (PySem.W.kdu_collect (A:=A.in1) K hh hok hz fun h1 tk acc k1 hacc=>?_)))
 have la:acc.toList.length=n:=by rw[ib];exact hacc.1
 have hI:IntsAre acc.toList ns:=vh (by rw[la,hl]) fun i v e=>hv i v (by rw[←la];exact (bK.mp e).1) (hacc.2 i v (by rw[←rR];exact e))
 generalize acc.toList=vs at hI la
 refine ah (wpAny_newList ?_ (by rw[la];exact hz))
 have gL:(h1.push (seqObj "list" vs.toArray 0)).get? h1.objs.size=some (seqObj "list" vs.toArray 0):=aZ _ rfl
 refine ah (da (jS slot_list_sort ⟨_,gL,rfl⟩ entry_list_sort (list_sort_tree gL hI (by omega) fun out ms b1 b2 b3=>⟨_,rfl,ax ⟨_,rfl,?_⟩⟩) (args_list_sort _)))
 obtain⟨e1,g1⟩:∃ e1,((h1.push (seqObj "list" vs.toArray 0)).update h1.objs.size (Obj.mapSeq fun _=>#[])).get? h1.objs.size=some (seqObj "list" #[] e1):=⟨_,get?_update_seq gL fun _=>#[]⟩
 have g2:((((h1.push (seqObj "list" vs.toArray 0)).update h1.objs.size (Obj.mapSeq fun _=>#[])).push (seqObj "tuple" vs.toArray 0)).push (seqObj "list" #[] 0)).get? h1.objs.size=some (seqObj "list" #[] e1):=aH _ (aH _ g1)
 refine show Q (.ref h1.objs.size) { s with heap:=sortedHeap (h1.push (seqObj "list" vs.toArray 0)) h1.objs.size vs out,toks:=tk } from ?_
 obtain⟨c3,g3⟩:∃ c3,(sortedHeap (h1.push (seqObj "list" vs.toArray 0)) h1.objs.size vs out).get? h1.objs.size=some (seqObj "list" out c3):=⟨_,get?_update_seq g2 fun _=>out⟩
 refine k h1 _ tk out ms c3 k1 (fun b o z=>?_) g3 b1 b2 b3
 have hb:h1.objs.size≠b:=Nat.ne_of_gt (aF z)
 exact (jC _ _ hb).trans (aH _ (aH _ ((jC _ _ hb).trans (aH _ z))))
end
theorem mC (hc:X.calm=true):cC X (.builtin "sorted") C8:=by
 intro pins s σ H xs us Q I r h
 match xs,h with
 | [.ref a],h =>
  obtain⟨kvs,ha,h64,k⟩:=h
  obtain⟨u,rfl,r2⟩:=vals1 r
  cases r2
  obtain⟨z,hd,vs,rel,dd⟩:=nq I.hok ha
  obtain⟨ep,hat⟩:=dd.dictAt
  have lv:(kvs.map fun q=>((.inl q.1,q.2):Key×V)).length=vs.length:=Paired.length rel
  rw[List.length_map] at lv
  refine CO (ns:=kvs.map (·.1)) (PySem.W.kdl_dict (knd:=aY X.prog X.w) (kvs:=vs) (ep:=ep) hd) (I.ok.hd hc) hat (by omega) (by rw[List.length_map];omega) (fun i v hi hP=>?_) fun h1 h' tk out ms c k1 k2 hg hS hp hs=>?_
  ·obtain⟨kk,x,e,hk⟩:=hP
   have e1:kvs[i]?=some (kvs[i]'(by omega)):=List.getElem?_eq_getElem _
   have e2:(kvs.map fun q=>((.inl q.1,q.2):Key×V))[i]?=some (.inl (kvs[i]'(by omega)).1,(kvs[i]'(by omega)).2):=by rw[List.getElem?_map,e1];rfl
   obtain⟨y,ey,f1,f2⟩:=cE rel e2
   rw[e] at ey
   cases ey
   have f1':kk=.inl (kvs[i]'(by omega)).1:=f1.symm
   subst f1'
   obtain⟨t,et⟩:∃ t,v=.int (kvs[i]'(by omega)).1 t:=by
    have hk':kK (Sum.inl (kvs[i]'(by omega)).1) v=true:=hk
    rcases cg hk' with ⟨n,t,e3,e4⟩ | ⟨y,t,e3,e4⟩
    ·rw[Sum.inl.inj e3];exact⟨t,e4⟩
    ·cases e3
   exact⟨_,t,by rw[List.getElem?_map,e1];rfl,et⟩
  ·have I1:Inv X pins σ H { s with heap:=h1,toks:=tk }:=I.kept (t':=tk) k1
   have hn:=I1.hok.fresh (ai h1.objs.size)
   have lw:=hp.length_eq
   rw[List.length_map] at lw
   exact⟨.ref h1.objs.size,upd H h1.objs.size (.lst (ms.map V.int)),I1.laid (t':=tk) (o:=.lst (ms.map V.int)) k2 (ai _) ⟨by rw[List.length_map,lw];exact aP (bB h64 (by rw[sizeLine_eq];omega)),out.toList,c,nV hS,by rw[Array.toArray_toList];exact hg⟩,rfl,k ms hp hs _ _ hn (dw hn) az⟩
end
section
theorem yx {α β:Type} (f:α->β):∀ (l:List α) (j:Nat),(l.map f).eraseIdx j=(l.eraseIdx j).map f
 | [],_=>rfl
 | _::_,0=>rfl
 | x::r,j+1=>by
  show f x::(r.map f).eraseIdx j=f x::(r.eraseIdx j).map f
  rw[yx f r j]
def kP {κ:Type} [DecidableEq κ] (kvs:List (κ×V)) (k:κ):List (κ×V):=kvs.filter fun q=>decide (q.1≠k)
theorem vB {κ:Type} [DecidableEq κ] (kvs:List (κ×V)) (k:κ):(kP kvs k).length<=kvs.length:=jK _ _
theorem KV.out {xs:List (Key×Value)} (r:KV kvs xs) (k:Key):KV (kP kvs k) (without xs k):=by
 induction r with
 | nil=>exact .nil
 | @cons a b l₁ l₂ f t ih =>
  obtain⟨e,rv⟩:=f
  unfold kP without at *
  by_cases h:a.1=k
  ·rw[jF (by simp [h]),jF (by simp [←e,h])];exact ih
  ·rw[jG (by simp [h]),jG (by simp [←e,h])];exact .cons ⟨e,rv⟩ ih
def Fz:V->List V->Hp->VK->Prop:=fun x vs H Q=>match x,vs with
 | .ref d,[y]=>∃ kvs k v,H d=some (.dK kvs)/\y=kV k/\cH kvs k=some v/\Q v (upd H d (.dK (kP kvs k)))
 | _,_=>False
theorem Bm {d:Addr}{y:V}{H:Hp}{Q:VK}:Fz (.ref d) [y] H Q=(∃ kvs k v,H d=some (.dK kvs)/\y=kV k/\cH kvs k=some v/\Q v (upd H d (.dK (kP kvs k)))):=propext Iff.rfl
theorem ud :MtM X "dict.pop" Fz:=by
 intro pins s σ H x vs v us Q I rx rv h
 match x,vs,h with
 | .ref d,[y],h =>
  obtain⟨kvs,k,v',hd,rfl,hv,q⟩:=h
  cases rx
  obtain⟨u1,rfl,ry⟩:=rv.one
  obtain⟨z,hs,xs,rel,dd⟩:=uV I.hok hd
  have hxl:xs.length<=sizeLine:=by rw[←rel.length];exact z
  have hT:s.TypeIs (.ref d) "dict":=by obtain⟨o,_,_,e,ex,_⟩:=dd;exact⟨o,e,ex.1⟩
  obtain⟨w2,hw2,rw2⟩:=iX.some_of (v:=v') (o:=valueAt xs k) (by rw[←hv];exact rel.val k)
  have hpart:(keyPart u1).isSome=true:=by
   cases k with
   | inl i=>obtain⟨t,rfl⟩:=ry;rfl
   | inr i=>obtain⟨t,rfl⟩:=ry;rfl
  refine call_meetsIn F.slot_dict_pop hT F.entry_dict_pop (F.args_dict_pop_2 _ _) (meets_dict_pop_there (aY X.prog X.w) d (pq ry) [] (.inl rfl) hpart) ⟨xs,w2,dd,hxl,hw2,fun h' dd' hsb=>?_⟩
  have he:∃ q,h'.get? d=some q:=let ⟨q,_,_,hq,_⟩:=dd';⟨q,hq⟩
  exact⟨v',_,pX I (by rw[hd];exact True.intro) hsb he (Bb (bA (vB _ _) z) hs (rel.out k) dd'),rw2,q⟩
section
variable {prog:Program}{w:World}{K:Type} [DecidableEq K] {knd:HeapKind prog w K}{A:Around}{E:Value->Shared->Prop}{s:Shared}{d a:Addr}{xs:List (K×Addr×Value)}{k:K}
def uw (xs:List (K×Addr×Value)) (k:K):List (K×Addr×Value):=xs.filter fun q=>decide (q.1≠k)
theorem sC:∀ {xs:List (K×Addr×Value)}{j:Nat}{x:K×Addr×Value},(xs.map (·.1)).Nodup->xs[j]?=some x->xs.eraseIdx j=uw xs x.1
 | y::r,0,x,hn,h=>by
  have e:y=x:=by simpa using h
  subst e
  obtain⟨h1,h2⟩:=c9.mp hn
  show r=uw (y::r) y.1
  unfold uw
  rw[jF (by simp)]
  refine (List.filter_eq_self.mpr fun q hq=>?_).symm
  exact decide_eq_true fun e=>h1 (by show y.1∈_;rw[←e];exact eK hq)
 | y::r,j+1,x,hn,h=>by
  obtain⟨h1,h2⟩:=c9.mp hn
  have hx:r[j]?=some x:=by simpa using h
  show y::r.eraseIdx j=uw (y::r) x.1
  unfold uw
  have hne:y.1≠x.1:=fun e=>h1 (by show y.1∈_;rw[e];exact eK (bp hx))
  rw[jG (by rw[decide_eq_true hne]),sC h2 hx];rfl
theorem Cr {Q:Option DictEntry->Shared->Prop}{p:Addr×Value} (hu:knd.room A) (hkey:knd.is s.heap k a) (hm:s.heap.DictOfH knd d xs) (hsz:xs.length<=sizeLine) (hp:atKey xs k=some p)
  (h:∀ e:DictEntry,e.val=p.2->∀ h',h'.DictOfH knd d (uw xs k)->Heap.SameBut d s.heap h'->Q (some e) { s with heap:=h',toks:=s.toks+knd.draws k }):wpAny (model prog w) A (Builtin.Dict.takeOut d (.ref a)) Q E s:=by
 obtain⟨o,es,ep,g1,g2,g3,g4,g5,g6⟩:=hm
 unfold Builtin.Dict.takeOut
 try with_reducible refine da ?_
 refine ah (knd.pyHash hu hkey (ah (wpAny_dictFind_heap (s:={ s with toks:=s.toks+knd.draws k }) hu hkey g1 g3 g4 g5 g6 (fun hno=>?_) fun j p' hj=>?_)))
 ·rw[atKey_none_of_get hno] at hp;cases hp
 ·have e1:=atKey_of_get g6 hj
  rw[hp] at e1
  cases e1
  have ez:=size_of_entries g4
  refine ah (lU (s:={ s with toks:=s.toks+knd.draws k }) g1 g3 ?_)
  rw[entry_at g4 j,hj]
  refine ah (wpAny_updateDictKeys (hz:=by omega) (s:={ s with toks:=s.toks+knd.draws k }) g1 g3 (ax (h _ rfl _ ⟨_,_,ep+1,lE _ g1 (Obj.isFreed_of_dict (Obj.data_mapDictKeys g3 _)),g2.mapDictKeys _,Obj.data_mapDictKeys g3 _,?_,?_,?_⟩ (Heap.SameBut.update ..))))
  ·rw[←sC g6 hj,←yx,←g4]
   obtain⟨l⟩:=es
   simp
  ·intro x hx
   exact knd.keeps (g5 x ((dF.mp hx).1)) g1 g3 (Heap.SameBut.update ..)
  ·exact jD (jE _ jI) g6
theorem xl:MeetsIn prog w (Builtin.«dict.pop» ⟨[.ref d,.ref a],[]⟩) (fun A R s=>knd.room A.in1/\∃ k xs p,knd.is s.heap k a/\s.heap.DictOfH knd d xs/\xs.length<=sizeLine/\atKey xs k=some p ∧
  (∀ h',h'.DictOfH knd d (uw xs k)->Heap.SameBut d s.heap h'->R (.ok (.ret p.2)) { s with heap:=h',toks:=s.toks+knd.draws k })) :=
 .of_wp fun A R s ⟨hu,k,xs,p,hkey,hm,hz,hp,h⟩=>by
  unfold Builtin.«dict.pop» Builtin.Dict.keyAndDefault
  refine ah (ah (wpAny_notOrdered_dict hm.typeIs ?_))
  refine show wpAny _ _ (pure (d,Value.ref a,none)) _ _ s from ax ?_
  have hm':=hm
  obtain⟨o,es,ep,g1,g2,g3,g4,g5,g6⟩:=hm'
  refine ah (lU g1 g3 ?_)
  refine ah (ax ?_)
  have ne:es.isEmpty=false:=by
   cases hx:xs with
   | nil=>rw[hx] at hp;cases hp
   | cons x r =>
    have:=size_of_entries g4
    rw[hx,br] at this
    simp [Array.isEmpty,this]
  rw[ne]
  refine ah (Cr hu hkey hm hz hp fun e ev h' m' s'=>?_)
  refine ah (wpAny_letGo (ax ⟨e.val,rfl,by rw[ev];exact h h' m' s'⟩))
end
theorem KT.out {kvs:List (List Key×V)}{xs:List (List Key×Addr×Value)} (r:KT H kvs xs) (k:List Key):KT H (kP kvs k) (uw xs k):=by
 unfold KT at *
 induction r with
 | nil=>exact .nil
 | @cons a b l₁ l₂ f t ih =>
  have e:a.1=b.1:=f.1
  unfold kP uw at *
  by_cases h:a.1=k
  ·rw[jF (by simp [h]),jF (by simp [←e,h])];exact ih
  ·rw[jG (by simp [h]),jG (by simp [←e,h])];exact .cons f ih
def F0:V->List V->Hp->VK->Prop:=fun x vs H Q=>match x,vs with
 | .ref d,[.ref b]=>∃ kvs k v,H d=some (.dT kvs)/\H b=some (.tup (k.map kV))/\cH kvs k=some v/\Q v (upd H d (.dT (kP kvs k)))
 | _,_=>False
theorem Bn {d b:Addr}{H:Hp}{Q:VK}:F0 (.ref d) [.ref b] H Q=(∃ kvs k v,H d=some (.dT kvs)/\H b=some (.tup (k.map kV))/\cH kvs k=some v/\Q v (upd H d (.dT (kP kvs k)))):=propext Iff.rfl
theorem Em (hu:X.A.units+1<cLine):MtM X "dict.pop" F0:=by
 intro pins s σ H x vs v us Q I rx rv h
 match x,vs,h with
 | .ref d,[.ref b],h =>
  obtain⟨kvs,k,v',hd,hb,hv,q⟩:=h
  cases rx
  obtain⟨u1,rfl,ry⟩:=rv.one
  cases ry
  obtain⟨z,hs,xs,rel,dd⟩:=Fl I.hok hd
  have hxl:xs.length<=sizeLine:=by rw[←Paired.length rel];exact z
  obtain⟨w2,hw2,rw2⟩:=iX.some_of (v:=v') (o:=(atKey xs k).map (·.2)) (by rw[←hv];exact rel.val k)
  obtain⟨p,hp,hp2⟩:=fS.mp hw2
  refine call_meetsIn F.slot_dict_pop dd.typeIs F.entry_dict_pop (F.args_dict_pop_2 _ _) (xl (knd:=tupleKind (aY X.prog X.w))) ⟨jR hu,k,xs,p,mF I.hok hb,dd,hxl,hp,fun h' dd' hsb=>?_⟩
  obtain⟨q',es,ep,e1,e2,e3,e4,_,e5⟩:=dd'
  refine⟨v',upd H d (.dT (kP kvs k)),pX I (by rw[hd];exact True.intro) hsb ⟨q',e1⟩ ⟨bA (vB _ _) z,hs,_,(rel.out k).keeps fun c ys ec=>?_,q',es,ep,e1,e2,e3,e4,e5⟩,by rw[hp2];exact rw2,q⟩
  rw[ar (aE ec hd (fun z=>nomatch z))]
  exact ec
end
section
section
variable {prog:Program}{w:World}{A:Around}{E:Value->Shared->Prop}{s:Shared}
end
section
variable {prog:Program}{w:World}{A:Around}{E:Value->Shared->Prop}{s:Shared}
end
section
variable {X:Cx}
end
end
section
def UnX (H H':Hp) (h h':Heap):Prop:=∃ fs,Un fs [] H H' h h'
theorem Un.FK {fs fs':List Addr}{H H':Hp}{h h':Heap} (u:Un fs [] H H' h h') (hs:∀ b∈fs,b∈fs'):Un fs' [] H H' h h' where
 keep:=fun b o e n hb he=>u.keep b o e n (fun z=>hb (hs b z)) he
 slot:=fun b o e n _ he=>u.any e n he
 free:=u.free
 there:=u.there
 tups:=u.tups
 frzs:=u.frzs
 tbls:=u.tbls
theorem UnX.trans {H H1 H2:Hp}{h h1 h2:Heap} (a:UnX H H1 h h1) (b:UnX H1 H2 h1 h2):UnX H H2 h h2:=by
 obtain⟨f,a⟩:=a
 obtain⟨g,b⟩:=b
 exact⟨f++g,(a.FK fun x hx=>oa _ hx).trans (b.FK fun x hx=>bV _ hx)⟩
def gW (H:Hp) (f:Addr):Prop:=∃ (q:Str) (params:Arguments) (body:Expr) (scope:Scope) (cl:List (Str×Addr)) (pm cd ctv:Value) (u:HO),H f=some (.frz (qN q params body scope cl pm cd ctv) u)
theorem gW.same {H H':Hp} (h:gW H f) (s:aq H H'):gW H' f:=by
 obtain⟨q,a,b,c,d,e,g,i,u,h⟩:=h
 exact⟨q,a,b,c,d,e,g,i,u,s _ _ h⟩
theorem gW.fn (I:Inv X pins σ H s) (h:gW H f):PySem.W.FnAt f s.heap:=by
 obtain⟨q,a,b,c,d,e,g,i,u,h⟩:=h
 exact⟨_,_,_,_,(I.hok f _ h).1⟩
abbrev XF:XK:=fun _ _ _=>False
section
variable {P:Program}{w:World}{K:PySem.W.Frag}{mg:Str->Option Value}{base:Heap}
def jX (P:Program) (w:World) (K:PySem.W.Frag) (mg:Str->Option Value) (base:Heap) (k n:Nat) (f:Addr) (sp:Sp) (s₀:Shared) (H₀:Hp):Prop :=
 ∀ (A:Around) (outer:List Env) (s:Shared) (H:Hp) (us:List Value) (vs:List V) (Q:VK),bZ k A->oA P w K mg base A outer s H->UnX H₀ H s₀.heap s.heap->Vals vs us->vs.length=n->sp vs H Q XF →
  codeAny (model P w) A (.call (.ref f) ⟨us,[]⟩) (CR (CX1 P w) outer P w H s Q XF) s
theorem jX.later {k n:Nat}{s₀ s₁:Shared}{H₀ H₁:Hp} (S:jX P w K mg base k n f sp s₀ H₀) (u:UnX H₀ H₁ s₀.heap s₁.heap):jX P w K mg base k n f sp s₁ H₁ :=
 fun A outer s H us vs Q hr e0 u2=>S A outer s H us vs Q hr e0 (u.trans u2)
structure uG (P:Program) (w:World) (K:PySem.W.Frag) (mg:Str->Option Value) (base:Heap) (CX:CXT) (k:Nat) (f:Addr) (fd:FuncData) (ps:List Str) (sp:Shared->Sp):Prop where
 len:∀ s vs H Q E,sp s vs H Q E->vs.length=ps.length
 run:∀ (A:Around) (outer:List Env) (s:Shared) (H:Hp) (args:Args) (us:List Value) (vs:List V) (Q:VK) (E:XK),bZ k A->oA P w K mg base A outer s H->BindsTo s fd args (ps.zip us)->Vals vs us->sp s vs H Q E →
  codeAny (model P w) A (.call (.ref f) args) (CR CX outer P w H s Q E) s
end
theorem GB {CX:CXT}{P:Program}{w:World}{K:PySem.W.Frag}{mg:Str->Option Value}{base:Heap}{k:Nat}{f:Addr}{name qual:Str}{params:Arguments}{body:List Stmt}{scope:Scope}{dV kV doc pm cdv ct oc:Value}{an od:Option Addr}
  {osl:Array (Option Value)}{N ps:List Str}{sp:Shared->Sp} (lk:K.lookup f=some ⟨oc,od,.func (PySem.W.fnOf name qual params body scope dV kV doc pm an cdv ct),osl⟩) (hcd:PySem.W.codeIn K cdv qual=true) (S:aM N ps scope)
  (len:∀ s vs H Q E,sp s vs H Q E->vs.length=ps.length)
  (hbody:∀ (A:Around) (outer:List Env) (s:Shared) (H:Hp) (vs:List V) (Q:VK) (E:XK),bZ k (A.deeper (envOfC qual scope s.heap.objs.size f cdv))->sp s vs H Q E →
   ∃ t,PSs (mm CX P w K mg base N qual scope f cdv A outer s H E) body t/\t { nx:=fun _ H'=>Q .non H',rt:=Q } (start N vs) H) :
  uG P w K mg base CX (k+1) f (PySem.W.fnOf name qual params body scope dV kV doc pm an cdv ct) ps sp:=by
 refine⟨len,fun A outer s H args us vs Q E hr e0 hb r hsp=>?_⟩
 have hl:=len _ _ _ _ _ hsp
 have KX:K.In s.heap:=e0.mod.kin.keeps fun b o e=>(e0.bs b o e).1
 have lim:s.heap.NoLimit:=e0.mod.nolimit.keeps fun b o e=>(e0.bs b o e).1
 have hkind:∀ y∈ps.zip us,scope.names.lookup y.1=some .local∨(scope.names.lookup y.1=some .cell/\((cellsFrom (s.heap.objs.size+1) scope.names []).lookup y.1).isSome=true):=fun ⟨n,v⟩ hy=>by
  rcases S.par n (lK hy).1 with q | q
  ·exact .inl q
  ·exact .inr ⟨q,PySem.W.cellsFrom_some _ _ _ (.inl q)⟩
 refine codeAny_call_function hr.depth (KX _ _ lk) rfl S.co S.gen rfl (PySem.W.codeRec_of KX hcd) (hb _ _ _ _ ?_)
 refine wpAny_newFunctionEnv_cells S.kind hkind fun env he s1 x=>?_
 subst he
 refine⟨lim.keeps x.toInCall.keep,codeAny_func ?_⟩
 obtain⟨t,ht,hq⟩:=hbody A outer s H vs Q E (hr.deeper _) hsp
 have I:Inv (mm CX P w K mg base N qual scope f cdv A outer s H E) [] (start N vs) H s1:=sJ S hr.hd e0 hl r x
 refine bg (ht [] s1 (start N vs) H _ I hq) (fun fl s' hs=>?_) fun e s' hs=>hs
 have fin:∀ {σ':St}{H':Hp}{v:V}{u:Value},Inv (mm CX P w K mg base N qual scope f cdv A outer s H E) [] σ' H' s'->RelV v u->Q v H'->CE outer P w H s Q u s' :=
  fun {σ' H' v u} J rv q=>⟨v,H',J.os,J.bare,J.base,J.hok,rv,q⟩
 cases fl with
 | ret u =>
  obtain⟨v,σ',H',J,rv,q⟩:=hs
  exact fin J rv q
 | next =>
  obtain⟨σ',H',J,q⟩:=hs
  exact fin (v:=V.non) (u:=Value.none) J rfl q
 | brk =>
  obtain⟨_,_,_,q⟩:=hs
  exact False.elim q
 | cont =>
  obtain⟨_,_,_,q⟩:=hs
  exact False.elim q
def ye (P:Program) (w:World) (K:PySem.W.Frag) (mg:Str->Option Value) (base:Heap) (N:List Str) (q:Str) (scope:Scope) (f:Addr) (cd:Value) (cl:List (Str×Addr)) (A:Around) (outer:List Env) (s:Shared) (H:Hp):Cx where
 prog:=P
 w:=w
 K:=K
 mg:=mg
 base:=base
 A:=A.deeper (PySem.W.envX q scope s.heap.objs.size f cd cl)
 N:=N
 s₀:=s
 H₀:=H
 env:=PySem.W.envX q scope s.heap.objs.size f cd cl
 outer:=outer
 stack:=PySem.W.envX q scope s.heap.objs.size f cd cl::outer
 ex:=[]
 calm:=true
 fn:=fun _=>false
 pn:=[]
 xe:=fun _ _=>False
theorem sO {x:Str}{u:Value}:∀ {l:List (Str×Value)},(l.map (·.1)).Nodup->(x,u)∈l->l.lookup x=some u
 | [],_,h=>by cases h
 | (y,v)::l,hn,h=>by
  rw[cX]
  rcases aD.mp h with e | e
  ·cases e
   simp
  ·have hne:x≠y:=fun z=>(c9.mp hn).1 (by rw[←z];exact aC.mpr ⟨_,e,rfl⟩)
   rw[show (x==y)=false by simpa using hne]
   exact sO (c9.mp hn).2 e
theorem IsCell.on {H H':Hp}{h h':Heap}{c:Addr}{v:Option Value} (u:UnX H H' h h') (n:H c=none) (e:h.IsCell c v):h'.IsCell c v:=by
 obtain⟨fs,u⟩:=u
 obtain⟨o,e1,e2⟩:=e
 obtain⟨sl,z⟩:=u.any e1 n (by simp)
 exact⟨_,z,e2⟩
def Dm (X:Cx) (scope:Scope) (fr:List Str) (js:List Nat):Prop:=Paired (fun (x:Str) (j:Nat)=>X.N[j]?=some x/\Vis X.env.scope x/\scope.names.lookup x=some .free/\(x,NameKind.free)∈scope.names/\X.env.kindOf x=some .cell) fr js
abbrev uM (js:List Nat) (σ:St):St:=js.map fun j=>σ[j]?.join
theorem yc {X:Cx}{scope:Scope}:∀ {fr:List Str}{js:List Nat},Dm X scope fr js->∀ {i:Nat}{x:Str},fr[i]?=some x->∃ j,js[i]?=some j/\X.N[j]?=some x/\Vis X.env.scope x/\scope.names.lookup x=some .free/\(x,NameKind.free)∈scope.names/\X.env.kindOf x=some .cell
 | _,_,.nil,i,x,e=>by simp at e
 | _,_,.cons h r,0,x,e=>by simp at e;subst e;exact⟨_,rfl,h⟩
 | _,_,.cons h r,i+1,x,e=>yc r (by simpa using e)
theorem uN {X:Cx}{scope:Scope}:∀ {fr:List Str}{js:List Nat},Dm X scope fr js->fr.length=js.length
 | _,_,.nil=>rfl
 | _,_,.cons h r=>bu (·+1) (uN r)
theorem BN {X:Cx}{pins:List (Addr×Obj)}{σ:St}{H:Hp}{s:Shared}{ps fr:List Str}{js:List Nat}{q:Str}{params:Arguments}{body:Expr}{scope:Scope}{cl:List (Str×Addr)}{pm ctv:Value}{c' Pt f:Addr}{te:TE}{k:Nat}
  (I:Inv X pins σ H s) (hf:H f=some (.frz (qN q params body scope cl pm (.ref c') ctv) (.own Pt))) (hc:pf H Pt q c') (hcl:clo X.env.cells scope.names []=some cl)
  (hbind:∀ us:List Value,us.length=ps.length->bindArgs (PySem.W.kla_fn "<lambda>" q params body scope cl pm (.ref c') ctv) ⟨us,[]⟩=pure (ps.zip us))
  (hco:scope.isCoroutine=false) (hgen:scope.isGenerator=false) (hk:scope.kind=.function) (hcell:∀ y∈scope.names,y.2≠.cell) (hps:∀ x∈ps,scope.names.lookup x=some .local) (hnd:ps.Nodup) (hcap:Dm X scope fr js)
  (hbody:∀ (A:Around) (outer:List Env) (s:Shared) (H:Hp),bZ k (A.deeper (PySem.W.envX q scope s.heap.objs.size f (.ref c') cl))->PE (ye X.prog X.w X.K X.mg X.base (ps++fr) q scope f (.ref c') cl A outer s H) body te) :
  jX X.prog X.w X.K X.mg X.base (k+1) ps.length f (fun vs H Q _=>te (vs.map some++uM js σ) H Q) s H:=by
 intro A outer s' H' us vs Q hr e0 u r hl hq
 have hf':H' f=some (.frz (qN q params body scope cl pm (.ref c') ctv) (.own Pt)):=by obtain⟨fs,u⟩:=u;exact u.frzs _ _ _ hf
 have lus:us.length=ps.length:=by rw[←r.length];exact hl
 have hrec:s'.heap.CodeRec (.ref c') q:=by
  obtain⟨oc,vs',t,h1,h2,h3⟩:=hc
  obtain⟨fs,u⟩:=u
  exact⟨c',oc,vs',t,rfl,(e0.hok c' _ (u.frzs _ _ _ h1)).1,h2,h3⟩
 have sub:=lY scope.names [] cl hcl (fun x c e=>by cases e)
 have cells:∀ x c,cl.lookup x=some c->(∀ v,s.heap.IsCell c v->s'.heap.IsCell c v)/\H' c=none:=fun x c e=>by
  have n:=I.freeC x c (sub x c e)
  obtain⟨v,o,o1,o2⟩:=I.cell x c (sub x c e)
  refine⟨fun v hv=>IsCell.on u n hv,?_⟩
  obtain⟨fs,u⟩:=u
  exact u.free c o o1 n (by simp)
 refine PySem.W.kla_callFunE hr.depth (e0.hok f _ hf').1 rfl hco hgen rfl hrec ?_
 rw[hbind us lus]
 refine ax (wpAny_newFunctionEnv hcell (fun y hy=>?_) (fun h₁ hns hsb=>⟨?_,?_⟩) hk)
 ·exact hps _ (lK hy).1
 ·exact (e0.mod.nolimit.keeps fun b o e=>(e0.bs b o e).1).fresh _ hsb
 show codeAny _ _ (.expr _ (PySem.W.envX q scope s'.heap.objs.size f (.ref c') cl)) _ _
 have k1:∀ b o,s'.heap.get? b=some o->h₁.get? b=some o:=fun b o z=>hsb.extBut b o (bf (aF z)) (aH _ z)
 have noA:∀ b:Addr,b∉(ye X.prog X.w X.K X.mg X.base (ps++fr) q scope f (.ref c') cl A outer s' H').ex:=fun b z=>absurd (show b∈([]:List Addr) from z) (by simp)
 have cl1:∀ c v,s'.heap.IsCell c v->h₁.IsCell c v:=fun c v ⟨o,z1,z2⟩=>⟨o,k1 _ _ z1,z2⟩
 have J:Inv (ye X.prog X.w X.K X.mg X.base (ps++fr) q scope f (.ref c') cl A outer s' H') [] (vs.map some++uM js σ) H' { heap:=h₁,gens:=s'.gens,drawn:=s'.drawn,toks:=s'.toks+(ps.zip us).length,os:=s'.os }:=by
  refine⟨⟨e0.mod,hk,rfl,rfl,ai _,fun y z c h1 h2=>I.ok.inj y z c (sub y c h1) (sub z c h2),fun y hy=>?_,fun y c z h=>?_,fun _=>hr.hd,Around.frames_deeper e0.frames,.inr ⟨rfl,rfl⟩,fun b z=>absurd z (noA b),e0.bs,e0.bsz,fun b _ _=>noA b,fun b z=>absurd z (noA b),e0.kJ,e0.frf⟩,
   rfl,e0.bare,Un.kept k1,⟨_,hns,fun i y v h1 h2 h3=>?_⟩,fun y c h=>?_,e0.hok.fresh (ai _),fun y c h=>(cells y c h).2,fun p hp=>absurd (show p∈([]:List (Addr×Obj)) from hp) (by simp),e0.hok.kept k1,?_⟩
  ·have hy:scope.names.lookup y=some .cell∨scope.names.lookup y=some .free:=hy
   rcases hy with hy | hy
   ·exact absurd rfl (hcell _ (iH hy))
   ·exact lX scope.names [] cl hcl y (iH hy)
  ·cases z
  ·have h1':(ps++fr)[i]?=some y:=h1
   by_cases hi:i<ps.length
   ·rw[fO hi] at h1'
    rw[fO (by rw[List.length_map];omega),List.getElem?_map] at h2
    cases ev:vs[i]? with
    | none=>rw[ev] at h2;cases h2
    | some a =>
     rw[ev] at h2
     cases h2
     obtain⟨u',hu',rv⟩:=r.get ev
     refine⟨u',rv,.inl ⟨hps y (bp h1'),?_⟩⟩
     have hz:(ps.zip us)[i]?=some (y,u'):=by rw[List.getElem?_zip_eq_some];exact⟨h1',hu'⟩
     refine sO ?_ (List.mem_reverse.mpr (bp hz))
     rw[List.map_reverse]
     refine List.pairwise_reverse.mpr ?_
     rw[show (fun x:Str×Value=>x.1)=Prod.fst from rfl,List.map_fst_zip (by omega)]
     exact hnd.imp fun h=>h.symm
   ·rw[fP (by omega)] at h1'
    rw[fP (by rw[List.length_map];omega),List.length_map,hl] at h2
    obtain⟨j,hj,hN,hv,hfree,hmem,hkd⟩:=yc hcap h1'
    unfold uM at h2
    rw[List.getElem?_map,hj] at h2
    have h2':σ[j]?=some (some v):=by
     have h2:some (σ[j]?.join)=some (some v):=h2
     cases es:σ[j]? with
     | none=>rw[es] at h2;cases h2
     | some o=>rw[es] at h2;cases o with
      | none=>cases h2
      | some v'=>cases h2;rfl
    obtain⟨m,_,hlk⟩:=I.loc
    obtain⟨u',rv,lk⟩:=hlk j y v hN h2' hv
    refine⟨u',rv,.inr ⟨.inr hfree,?_⟩⟩
    obtain⟨c,hcy⟩:=lX scope.names [] cl hcl y hmem
    refine⟨c,hcy,?_⟩
    rcases lk with ⟨z,_⟩ | ⟨_,c2,z1,z2⟩
    ·rw[hkd] at z;cases z
    ·rw[sub y c hcy] at z1
     cases z1
     exact cl1 _ _ ((cells y c hcy).1 _ z2)
  ·obtain⟨v,hv⟩:=I.cell y c (sub y c h)
   exact⟨v,cl1 _ _ ((cells y c h).1 _ hv)⟩
  ·show _=(ps++fr).length
   rw[bb,List.length_map,bb,hl,List.length_map,uN hcap]
 refine PySem.W.kla_codeExpr (bg (hbody A outer s' H' (hr.deeper _) [] _ _ _ Q J hq) (fun u2 s2 h2=>?_) fun _ _ z=>z.elim)
 obtain⟨v,H2,J2,rv,q2⟩:=h2
 exact⟨v,H2,J2.os,J2.bare,J2.base,J2.hok,rv,q2⟩
def CT (f:Addr) (n:Nat) (sp:Sp) (tv:TE) (t:TA):TE:=fun σ H Q=>tv σ H fun x H1=>x=.ref f/\gW H1 f/\t σ H1 fun vs H2=>gW H2 f/\vs.length=n/\sp vs H2 Q XF
theorem AB {f:Addr}{n:Nat}{sp:Sp}{tv:TE}{t:TA}{σ:St}{H:Hp}{Q:VK}:CT f n sp tv t σ H Q=tv σ H fun x H1=>x=.ref f/\gW H1 f/\t σ H1 fun vs H2=>gW H2 f/\vs.length=n/\sp vs H2 Q XF:=propext Iff.rfl
section
variable {X:Cx}
theorem pvF (i:Nat) {pos:Pos} (hN:X.N[i]?=some x:=by kernel_rfl) (hv:X.env.scope.names.lookup x=some .free:=by kernel_rfl) (hd:(x==("__debug__":Str))=false:=by kernel_rfl)
  (hcd:(x==("__classdict__":Str))=false:=by kernel_rfl):PE X (.Name x pos) (Aq i):=ux hN (.inr (.inr hv)) hd hcd
theorem CH {k n:Nat}{Q:VK}{vs:List V} (S:jX X.prog X.w X.K X.mg X.base k n f sp X.s₀ X.H₀) (hex:X.ex=[]) (hr:bZ k X.A) (I:Inv X pins σ H s) (r:Vals vs us) (hl:vs.length=n) (h:sp vs H Q XF) :
  wpAny (model X.prog X.w) X.A (call (.ref f) us) (EP X pins σ Q) X.xe s:=by
 have u:=I.base
 rw[hex] at u
 refine gK (fU (S X.A X.stack s H us vs Q hr I.Bh ⟨_,u⟩ r hl h) fun r s' hq=>?_)
 cases r with
 | error e=>exact (sA hq).elim
 | ok fl =>
  cases fl with
  | ret u=>exact I.after hq
  | next=>exact False.elim hq
  | brk=>exact False.elim hq
  | cont=>exact False.elim hq
theorem pB {k n:Nat}{e:Expr}{tv:TE}{t:TA}{p pos:Pos} (S:jX X.prog X.w X.K X.mg X.base k n f sp X.s₀ X.H₀) (hex:X.ex=[]) (hr:bZ k X.A) (hv:PE X (.Name x p) tv) (ha:PA X (e::es) t) (hs:cV (e::es)=true:=by kernel_rfl) :
  PE X (.Call (.Name x p) (e::es) [] pos) (CT f n sp tv t):=by
 intro pins s σ H Q I h
 refine lT (thn (hv pins s σ H _ I h) fun u s1 ⟨v,H1,I1,r,ev,B1,q1⟩=>?_)
 subst ev
 cases r
 refine PySem.W.callWith_F (B1.fn I1) (thn (ha pos pins s1 σ H1 _ I1 q1) fun us s2 ⟨vs,H2,I2,r2,B2,l2,q2⟩=>⟨B2.fn I2,?_⟩) (aO (aR hs).1) (cx (aR hs).2)
 exact CH S hex hr I2 r2 l2 q2
end
def EX (P:Program) (w:World) (K:PySem.W.Frag) (mg:Str->Option Value) (base:Heap) (k n:Nat) (spA:Sp->Sp):Shared->Sp:=fun s vs H Q E=>∃ (f:Addr) (spf:Sp),vs.getLast?=some (.ref f)/\gW H f/\jX P w K mg base k n f spf s H/\spA spf vs H Q E
section
variable {X:Cx}
end
def lB (ts:List (Addr×Str)):Hp:=fun b=>(ts.lookup b).map fX
theorem uD:∀ {ts:List (Addr×Str)},(ts.map (·.1)).Nodup->∀ p∈ts,lB ts p.1=some (fX p.2)
 | [],_,p,h=>by cases h
 | t::r,hn,p,h=>by
  unfold lB
  rw[cX]
  rcases aD.mp h with e | e
  ·subst e;simp
  ·have hne:p.1≠t.1:=fun z=>(c9.mp hn).1 (aC.mpr ⟨_,e,z⟩)
   rw[show (p.1==t.1)=false by simpa using hne]
   exact uD (c9.mp hn).2 p e
theorem BS {b:Addr}{q:Str}:∀ {ts:List (Addr×Str)},ts.lookup b=some q->(b,q)∈ts
 | [],h=>by cases h
 | (c,r)::ts,h=>by
  rw[cX] at h
  by_cases e:b=c
  ·subst e
   simp at h
   subst h
   exact List.mem_cons_self
  ·rw[show (b==c)=false by simpa using e] at h
   exact List.mem_cons_of_mem _ (BS h)
theorem nU {b:Addr}{o:HO} (h:lB ts b=some o):∃ p∈ts,p.1=b/\o=fX p.2:=by
 unfold lB at h
 obtain⟨q,e,rfl⟩:=fS.mp h
 exact⟨(b,q),BS e,rfl,rfl⟩
theorem xf {P:Program}{w:World}{K:PySem.W.Frag}{mg mb:Str->Option Value}{CX:CXT}{k:Nat}{fa a:Addr}{ts:List (Addr×Str)}{fd:FuncData}{x:Str}{sp:Sp}{s₁:Shared}{vs:List Value}{ns:List Int}
  (KX:K.In s₁.heap) (hns:s₁.heap.Ns mainGlobals mg) (hb:s₁.heap.Ns builtinsNs mb) (hbb:∀ x:Str,x≠"__name__"->mb x=bootBuiltins x) (hlim:s₁.heap.NoLimit)
  (hbm:∃ bm ob,mg "__builtins__"=some (.ref bm)/\bm≠builtinsNs/\s₁.heap.get? bm=some ob/\ob.cls=.type "module"/\ob.dict=some builtinsNs/\ob.data=.plain) (hg:s₁.gens=#[])
  (ha:s₁.heap.get? a=some { cls:=.type "list",data:=.seq vs.toArray }) (hi:IntsAre vs ns) (hl:ns.length<=sizeLine) (hr:bZ k callerA) (hnd:(ts.map (·.1)).Nodup) (hC:∀ p∈ts,∃ c,PySem.W.codeHdIn K c p.1=true) (hPt:∀ p∈ts,s₁.heap.get? p.1=some { cls:=.none,data:=.fields #[] }) (hKP:∀ p∈ts,K.lookup p.1=none)
  (F:∀ base:Heap,K.In base->base.Ns mainGlobals mg->bI P w K mg base CX k fa fd [x] sp) (hbind:∀ (s:Shared) (u:Value),BindsTo s fd ⟨[u],[]⟩ [(x,u)])
  (hsp:∀ H:Hp,SqL K H a (ns.map V.int)->(∀ p∈ts,H p.1=some (fX p.2))->sp [.ref a] H (fun v _=>v=.bl true) fun _ _ _=>False)
  (hCX:∀ H e s',CX [] H s₁ (fun _ _ _=>False) e s'->False) :
  codeAny (model P w) callerA (.call (.ref fa) ⟨[.ref a],[]⟩) (fun r s'=>r=.ok (.ret (.bool true))/\OldK s₁.heap s'.heap/\s'.os=s₁.os/\AllBare s'.gens) s₁:=by
 have rv:=tF hi
 have lenV:=hi.length
 have nPa:∀ p∈ts,p.1≠a:=fun p hp z=>by have:=hPt p hp;rw[z,ha] at this;cases this
 have core:∀ H:Hp,SqL K H a (ns.map V.int)->HOk P w H s₁.heap->(∀ p∈ts,H p.1=some (fX p.2))->(∀ b,H b≠none->(∃ p∈ts,b=p.1)∨(b=a/\∃ o xs,H b=some (.frz o (.lst xs))))->(H a≠none->K.lookup a=none) →
   codeAny (model P w) callerA (.call (.ref fa) ⟨[.ref a],[]⟩) (fun r s'=>r=.ok (.ret (.bool true))/\OldK s₁.heap s'.heap/\s'.os=s₁.os/\AllBare s'.gens) s₁:=by
  intro H hS hok hT hA hK
  have base_of:∀ {b:Addr}{o:Obj},s₁.heap.get? b=some o->H b=none->(tW s₁.heap H).get? b=some o:=fun e n=>BA e n
  have noO:∀ {b:Addr}{o:Obj},s₁.heap.get? b=some o->(∀ xs n,o.data≠.seq xs n)->(∀ xs,o.data≠.fields xs)->H b=none:=fun {b o} e d1 d2=>by
   cases qb:H b with
   | none=>rfl
   | some u =>
    rcases hA b (by rw[qb];simp) with ⟨p,hp,z⟩ | ⟨z,_⟩
    ·subst z
     rw[hPt p hp] at e;cases e
     exact absurd rfl (d2 _)
    ·subst z
     rw[ha] at e;cases e
     exact absurd rfl (d1 _ _)
  have nsK:∀ {b:Addr}{m:Str->Option Value},s₁.heap.Ns b m->(tW s₁.heap H).Ns b m:=fun {b m} ⟨o,es,ep,e,d,r⟩=>⟨o,es,ep,base_of e (noO e (fun _ _ z=>by rw[d] at z;cases z) fun _ z=>by rw[d] at z;cases z),d,r⟩
  have hKb:K.In (tW s₁.heap H):=fun b o e=>base_of (KX b o e) (by
   cases qb:H b with
   | none=>rfl
   | some u =>
    rcases hA b (by rw[qb];simp) with ⟨p,hp,z⟩ | ⟨z,_⟩
    ·subst z
     rw[hKP p hp] at e;cases e
    ·subst z
     rw[hK (by rw[qb];simp)] at e;cases e)
  have hM:Mod K mg (tW s₁.heap H):=⟨hKb,nsK hns,⟨mb,nsK hb,hbb⟩,let ⟨mc,h1,h2⟩:=hlim;⟨mc,nsK h1,h2⟩,let ⟨bm,ob,b1,b2,b3,b4,b5,b6⟩:=hbm;⟨bm,ob,b1,b2,base_of b3 (noO b3 (fun _ _ z=>by rw[b6] at z;cases z) fun _ z=>by rw[b6] at z;cases z),b4,b5,b6⟩⟩
  have e0:oA P w K mg (tW s₁.heap H) callerA [] s₁ H:=⟨rfl,hM,fun b o e=>Er e,Nat.le_of_eq (zN _ _),trivial,fun b hb=>absurd (show b∈([]:List Addr) from hb) (by simp),hok,.of_eq hg⟩
  refine fU ((F _ hKb (nsK hns)).run callerA [] s₁ H ⟨[.ref a],[]⟩ [.ref a] [.ref a] _ _ hr e0 (hbind s₁ (.ref a)) (.cons rfl .nil) (hsp H hS hT)) fun r s' h=>?_
  cases r with
  | error e=>exact (hCX H e s' h).elim
  | ok fl =>
   cases fl with
   | next=>exact False.elim h
   | brk=>exact False.elim h
   | cont=>exact False.elim h
   | ret u =>
    obtain⟨v,H',os,bare,un,hok',r',qv⟩:=h
    have qv':v=.bl true:=qv
    subst qv'
    obtain rfl:u=Value.bool true:=r'
    refine⟨rfl,⟨fun b o e=>?_,fun b o e=>un.there b o e (by simp)⟩,os,bare⟩
    cases qb:H b with
    | none=>exact .inl (un.keep b o e qb (by intro z;exact absurd (show b∈([]:List Addr) from z) (by simp)) (by simp))
    | some u =>
     rcases hA b (by rw[qb];simp) with ⟨p,hp,z⟩ | ⟨z,ob,xs,z1⟩
     ·subst z
      obtain⟨c,hc⟩:=hC p hp
      have hCd:=PySem.W.codeHd_of_K KX hc
      rw[hPt p hp] at e;cases e
      obtain⟨more,z2⟩:=un.tbls p.1 _ (hT p hp)
      obtain⟨qs,z3,_⟩:=(show bH P w H' s'.heap p.1 _ from hok' p.1 _ z2)
      exact .inr (.inl ⟨(hCd.tab (hPt p hp)).isCodeTable,rfl,#[],qs,rfl,by simpa using z3⟩)
     ·have z2:=un.frzs b ob _ z1
      obtain⟨e1,_⟩:=hok b _ z1
      obtain⟨e2,_⟩:=hok' b _ z2
      rw[e] at e1;cases e1
      exact .inl e2
 have okT:∀ (H:Hp),∀ p∈ts,bH P w H s₁.heap p.1 (fX p.2):=fun H p hp=>⟨#[],hPt p hp,trivial,fun pos c z=>by simp [codeAmong] at z⟩
 have noa:lB ts a=none:=by
  cases q:lB ts a with
  | none=>rfl
  | some o =>
   obtain⟨p,hp,z,_⟩:=nU q
   exact absurd z (nPa p hp)
 cases hk:K.lookup a with
 | some o =>
  have e:=KX a o hk
  rw[ha] at e
  cases e
  refine core (lB ts) (.inr ⟨_,vs.toArray,_,hk,rfl,rfl,rfl,by rw[aU,lenV];exact hl,by simpa using rv⟩) (fun b u z=>?_) (uD hnd) (fun b z=>?_) fun z=>absurd noa z
  ·obtain⟨p,hp,rfl,rfl⟩:=nU z
   exact okT _ p hp
  ·cases q:lB ts b with
   | none=>exact absurd q z
   | some o =>
    obtain⟨p,hp,e,_⟩:=nU q
    exact .inl ⟨p,hp,e.symm⟩
 | none =>
  have hT:∀ p∈ts,upd (lB ts) a (.frz { cls:=.type "list",data:=.seq vs.toArray } (.lst (ns.map V.int))) p.1=some (fX p.2):=fun p hp=>(ar (nPa p hp)).trans (uD hnd p hp)
  refine core (upd (lB ts) a (.frz { cls:=.type "list",data:=.seq vs.toArray } (.lst (ns.map V.int)))) (.inl (.inr ⟨{ cls:=.type "list",data:=.seq vs.toArray },az⟩)) (fun b u z=>?_) hT (fun b z=>?_) fun _=>hk
  ·by_cases hb2:b=a
   ·subst hb2
    rw[az] at z
    cases z
    exact⟨ha,by rw[List.length_map];exact hl,vs,_,rv,ha⟩
   ·rw[ar hb2] at z
    obtain⟨p,hp,rfl,rfl⟩:=nU z
    exact okT _ p hp
  ·by_cases hb2:b=a
   ·exact .inr ⟨hb2,_,_,by rw[hb2];exact az⟩
   ·rw[ar hb2] at z
    cases q:lB ts b with
    | none=>exact absurd q z
    | some o =>
     obtain⟨p,hp,e,_⟩:=nU q
     exact .inl ⟨p,hp,e.symm⟩
theorem Av {l:PySem.W.OpenLaw}{n k:Nat}{qq:Program}{loose:List Str}{XP:(Str->Option Value)->Heap->Prop}{YP:World->Heap->Prop}{d:DefRec}{K:Params->PySem.W.Frag}{CX:World->CXT}{sp:World->Sp}{x:Str} (ts:List (Addr×Str))
  (hn:l.most=some n) (hn2:n<=sizeLine) (hdf:d.params.defaults=[]) (hr:bZ k callerA) (hnd:(ts.map (·.1)).Nodup)
  (hY:∀ (w:World) (h:Heap),YP w h->(K w.params).In h/\∀ p∈ts,h.get? p.1=some { cls:=.none,data:=.fields #[] })
  (F:∀ (w:World) (mg:Str->Option Value) (fa:Addr) (h:Heap),(K w.params).In h->h.Ns mainGlobals mg->mg d.name=some (.ref fa) →
   (∀ p∈ts,∃ c,PySem.W.codeHdIn (K w.params) c p.1=true)/\∃ fd:FuncData,(∀ (s:Shared) (u:Value),BindsTo s fd ⟨[u],[]⟩ [(x,u)]) ∧
    ∀ base:Heap,(K w.params).In base->base.Ns mainGlobals mg->bI l.prog w (K w.params) mg base (CX w) k fa fd [x] (sp w))
  (hKP:∀ w:World,∀ p∈ts,(K w.params).lookup p.1=none)
  (hsp:∀ (w:World) (H:Hp) (a:Addr) (ns:List Int),ns.length<=n->SqL (K w.params) H a (ns.map V.int)->(∀ p∈ts,H p.1=some (fX p.2))->sp w [.ref a] H (fun v _=>v=.bl true) fun _ _ _=>False)
  (hCX:∀ (w:World) (H:Hp) (s:Shared) (e:Value) (s':Shared),CX w [] H s (fun _ _ _=>False) e s'->False) :
  PySem.W.WalkO qq loose XP YP l.row.toRowW d [] (fun f vs=>PySem.call f vs):=by
 refine Att.uI hn hdf fun w s₀ s₁ mg mb fa o pm cd doc a vs ns G Y ho hd hcd hmg hobj hints hlen hg=>?_
 obtain⟨KX,hPt⟩:=hY w _ Y
 obtain⟨hC,fd,hb,hF⟩:=F w mg fa _ KX G.T.g hmg
 exact xf KX G.T.g G.T.b G.T.builtins G.T.nolimit G.T.bmain hg hobj hints (bA hlen hn2) hr hnd hC hPt (hKP w) hF hb (fun H hS hT=>hsp w H a ns hlen hS hT) fun H e s'=>hCX w H s₁ e s'
end
section
theorem rY:entryFor table "proto.unchain"=some Builtin.«proto.unchain»:=entryFor_of_fast (by kernel_rfl)
section
variable {prog:Program}{w:World}{A:Around}{E:Value->Shared->Prop}{s:Shared}
theorem uE {e:Value}{ea:Addr} (h1:s.heap.get? ea=some ob) (h2:ob.data=.fields vs) (h3:vs[2]?=some .none) (h:Q .none s) :
  wpAny (model prog w) A (runValue (.builtin "proto.unchain" ⟨[e,.ref ea,.ref ea,.bool false],[]⟩)) Q E s:=by
 refine wpAny_runValue (jQ rY ?_)
 show wpAny _ _ (field (.ref ea) 2 >>= _) _ _ s
 refine ah (wpAny_field h1 h2 h3 ?_)
 exact ax h
theorem vM {α:Type}{e ea:Addr}{o ob:Obj}{us vs:Array Value}{Q:α->Shared->Prop} (hh:A.handled=some (.ref ea)) (hne:ea≠e) (h1:s.heap.get? ea=some ob) (h2:ob.data=.fields vs) (h3:vs[2]?=some .none)
  (o1:s.heap.get? e=some o) (o2:o.data=.fields us) (o3:2<us.size) (h:E (.ref e) { s with heap:=s.heap.update e (Obj.mapFields (·.setIfInBounds 2 (.ref ea))) }) :
  wpAny (model prog w) A (raiseNew (.ref e):Sem α) Q E s:=by
 unfold raiseNew
 refine ah (wpAny_handled ?_)
 rw[hh]
 dsimp only
 rw[if_pos (by simp only[bne_iff_ne,ne_eq,Value.ref.injEq];exact hne)]
 refine ah (da (uE h1 h2 h3 (ah ?_)))
 refine bg (wpAny_setField (E:=E) o1 o2 o3 (Q:=fun _ s'=>E (.ref e) s') h) (fun _ s' q=>wpAny_throw q) (fun _ _ q=>q)
theorem pR {it ea:Addr}{x left step:Int}{Q:Option Value->Shared->Prop} (hh:A.handled=some (.ref ea)) (h1:s.heap.get? ea=some ob) (h2:ob.data=.fields vs) (h3:vs[2]?=some .none)
  (hit:IsRangeIter s.heap it x left step) (hleft:left<=0) (hQ:∀ h',Heap.ExtBut it s.heap h'->Q none { s with heap:=h' }):wpAny (model prog w) A (pyNext (.ref it)) Q E s:=by
 have hT:s.TypeIs (.ref it) "range_iterator":=⟨_,hit,rfl⟩
 unfold pyNext
 refine ah (wpAny_attempt (wpAny_callSpecial?_slot (name:=Str.ofString "__next__") hT F.slot_range_iterator_next
  (jS F.slot_range_iterator_next hT F.entry_range_iterator_next ?_ (F.args_range_iterator_next_1 _))))
 show wpAny _ _ (field (.ref it) 0 >>= _) _ _ s
 refine ah (wpAny_field hit rfl (x:=rawInt x) rfl ?_)
 show wpAny _ _ (field (.ref it) 1 >>= _) _ _ s
 refine ah (wpAny_field hit rfl (x:=rawInt left) rfl ?_)
 show wpAny _ _ (field (.ref it) 2 >>= _) _ _ s
 refine ah (wpAny_field hit rfl (x:=rawInt step) rfl ?_)
 show wpAny _ _ (if left<=0 then _ else _) _ _ s
 rw[if_pos hleft]
 refine ah (wpAny_rule ?_)
 refine ah ?_
 show wpAny _ _ (newExc (.type "StopIteration") [] >>= _) _ _ _
 refine ah ?_
 simp only[newExc,newTuple]
 refine ah (gM ?_ (by size_fits))
 refine ah (m:=firstArgMember _ _) (wpAny_of_eq (a:=Value.none) (by first | rfl | (simp only[firstArgMember];rfl)) ?_)
 refine gM ?_ (by size_fits)
 have lt:=aF h1
 refine vM (A:=A.in1) hh ?_ (aH _ (aH _ h1)) h2 h3 (aZ _ rfl) rfl (bB (show 2<6 by decide) (by rw[Array.size_append];exact Nat.le_add_right _ _)) ?_
 ·rw[iA];exact bf (eY lt)
 refine ah (wpAny_isInstance (T:="StopIteration") (b:=true) ⟨_,lE _ (aZ _ rfl) rfl,rfl⟩ isSubtype_stop ?_)
 refine ax (hQ _ fun b o hb e=>?_)
 have:=aF e
 refine (jC _ _ ?_).trans (aH _ (aH _ e))
 rw[iA];exact Nat.ne_of_gt (eY this)
end
structure A9 (hd:Option Value) (P:Program) (w:World) (K:PySem.W.Frag) (tg:Expr) (J:It) (fp:List Addr) (it:Addr) (tn:Nat->Heap->Prop):Prop where
 mem:it∈fp
 obj:∀ i h,tn i h->∀ b∈fp,∃ o,h.get? b=some o/\∀ v,o.data≠.cell v
 keep:∀ i h h',tn i h->(∀ b∈fp,∀ o,h.get? b=some o->h'.get? b=some o)->tn i h'
 item:∀ (X:Cx),X.prog=P->X.w=w->X.K=K->X.A.handled=hd->∀ (i:Nat) (pins:List (Addr×Obj)) (s:Shared) (σ:St) (H:Hp) (E:Value->Shared->Prop),Inv X pins σ H s->(∀ b∈fp,jV X pins H b)->tn i s.heap->J.go i H →
  wpAny (model P w) X.A (pyNext (.ref it)) (fun r s1=>∃ u,r=some u ∧
   wpAny (model P w) X.A (letOwnedTupleGo tg (.ref it) u) (fun _ s2=>∃ x H',Inv X pins σ H' s2/\RelV x u/\J.yld i H x H'/\tn (i+1) s2.heap/\∀ b∈fp,H' b=none) E s1) E s
 done:∀ (X:Cx),X.prog=P->X.w=w->X.K=K->X.A.handled=hd->∀ (i:Nat) (pins:List (Addr×Obj)) (s:Shared) (σ:St) (H:Hp) (E:Value->Shared->Prop),Inv X pins σ H s->(∀ b∈fp,jV X pins H b)->tn i s.heap->J.stop i H →
  wpAny (model P w) X.A (pyNext (.ref it)) (fun r s1=>r=none/\Inv X pins σ H s1) E s
 self:∀ (A:Around) (i:Nat) (s:Shared) (Q:Value->Shared->Prop) (E:Value->Shared->Prop),tn i s.heap->Q (.ref it) s->wpAny (model P w) A (pyIter (.ref it)) Q E s
def HU (X:Cx) (pins:List (Addr×Obj)) (σ:St) (tg:Expr) (R:It->Hp->Prop) (itv:Value) (s2:Shared):Prop :=
 ∃ (it:Addr) (fp:List Addr) (tn:Nat->Heap->Prop) (J:It) (H':Hp),itv=.ref it/\Inv X pins σ H' s2/\A9 X.A.handled X.prog X.w X.K tg J fp it tn/\tn 0 s2.heap/\(∀ b∈fp,jV X pins H' b)/\R J H'
def PIH (X:Cx) (tg iter:Expr) (wi:TI):Prop :=
 ∀ (pins:List (Addr×Obj)) (s:Shared) (σ:St) (H:Hp) (R:It->Hp->Prop),Inv X pins σ H s->wi σ H R →
  wpAny (model X.prog X.w) X.A (eval iter X.env) (fun v s1=>wpAny (model X.prog X.w) X.A (pyIter v) (HU X pins σ tg R) X.xe s1) X.xe s

def yU (hd:Option Value) (lo:Int) (n:Nat):It:=⟨fun i _=>i<n,fun i H x H'=>H'=H/\x=.int (lo+i),fun i H=>n<=i/\jW hd H⟩
theorem vX (it:Addr) (lo:Int) (n:Nat):A9 hd P w K tg (yU hd lo n) [it] it (fun i h=>IsRangeIter h it (lo+(i:Nat)*1) ((n:Int)-(i:Nat)) 1) where
 mem:=(i9 (P:=P) (w:=w) (K:=K) (tg:=tg) it lo n).mem
 obj:=(i9 (P:=P) (w:=w) (K:=K) (tg:=tg) it lo n).obj
 keep:=(i9 (P:=P) (w:=w) (K:=K) (tg:=tg) it lo n).keep
 self:=(i9 (P:=P) (w:=w) (K:=K) (tg:=tg) it lo n).self
 item:=by
  intro X hP hw hK hc i pins s σ H E I hf st hg
  subst hP hw hK
  obtain⟨f0,f1,f2,f3,f4,f5⟩:=hf it (by simp)
  refine wpAny_pyNext_range_item st (by have:i<n:=hg;omega) fun h' st' sb=>?_
  have I1:Inv X pins σ H { s with heap:=h',toks:=s.toks+1 }:=I.turned (fun b o hb e=>(sb.2 b hb).trans e) f0 f1 f3 f4 f5
  have e1:lo+((i+1:Nat):Int)*1=lo+((i:Nat):Int)*1+1:=by omega
  have e2:(n:Int)-((i+1:Nat):Int)=(n:Int)-((i:Nat):Int)-1:=by omega
  have st2:IsRangeIter h' it (lo+((i+1:Nat):Int)*1) ((n:Int)-((i+1:Nat):Int)) 1:=by rw[e1,e2];exact st'
  refine⟨_,rfl,sG (s:={ s with heap:=h',toks:=s.toks+1 }) (n:="range_iterator") st' rfl rfl (by decide) ⟨.int (lo+i),H,I1,⟨s.toks,?_⟩,⟨rfl,rfl⟩,st2,fun b hb=>(hf b hb).1⟩⟩
  rw[Int.mul_one]
 done:=by
  intro X hP hw hK hc i pins s σ H E I hf st hg
  subst hP hw hK
  obtain⟨f0,f1,f2,f3,f4,f5⟩:=hf it (by simp)
  obtain⟨hn,hin⟩:=hg
  rcases hin with hin | ⟨ea,φ,e1,e2,e3⟩
  ·exact wpAny_pyNext_range_end (hc.trans hin) st (by omega) fun h' eb=>⟨rfl,I.turned (t':=s.toks) (fun b o hb e=>eb b o hb e) f0 f1 f3 f4 f5⟩
  ·obtain⟨p,_,_⟩:=(show bH X.prog X.w H s.heap ea (.ext φ) from I.hok ea _ e2)
   obtain⟨ob,vs,q1,q2,q3⟩:=e3 _ p
   exact pR (hc.trans e1) q1 q2 q3 st (by omega) fun h' eb=>⟨rfl,I.turned (t':=s.toks) (fun b o hb e=>eb b o hb e) f0 f1 f3 f4 f5⟩
def wZ (hd:Option Value) (ta:TA):TI:=fun σ H R=>ta σ H fun vs H1=>∃ j:Int,vs=[.int j]/\-(2^62)<=j/\j<2^62/\R (yU hd 0 j.toNat) H1
theorem yW {hd:Option Value}{σ:St}{H:Hp}{ta:TA}{R:It->Hp->Prop}:wZ hd ta σ H R=ta σ H fun vs H1=>∃ j:Int,vs=[.int j]/\-(2^62)<=j/\j<2^62/\R (yU hd 0 j.toNat) H1:=propext Iff.rfl
section
variable {X:Cx}{tg:Expr}
theorem Ak {R:It->Hp->Prop}{E:Value->Shared->Prop}{lo hi:Int}{t u v:Tok}{tk:Nat} (I:Inv X pins σ H s) (h1:-(2^62)<=lo) (h2:lo<2^62) (h3:-(2^62)<=hi) (h4:hi<2^62)
  (q:R (yU X.A.handled lo (hi-lo).toNat) H):wpAny (model X.prog X.w) X.A (pyIter (.ref s.heap.objs.size)) (HU X pins σ tg R) E { s with heap:=s.heap.push { cls:=.type "range",data:=.fields #[.int lo t,.int hi u,.int 1 v] },toks:=tk }:=by
 refine wpAny_pyIter_range (IsRange.new ..) (small_one h1 h2 h3 h4) ?_
 have I1:Inv X pins σ H { s with heap:=s.heap.push { cls:=.type "range",data:=.fields #[.int lo t,.int hi u,.int 1 v] },toks:=tk }:=I.kept fun b o e=>aH _ e
 refine⟨(s.heap.push { cls:=.type "range",data:=.fields #[.int lo t,.int hi u,.int 1 v] }).objs.size,[(s.heap.push { cls:=.type "range",data:=.fields #[.int lo t,.int hi u,.int 1 v] }).objs.size],_,_,H,rfl,
  I1.kept (t':=tk) fun b o e=>aH _ e,vX _ lo (hi-lo).toNat,?_,fun b hb=>?_,q⟩
 ·have e1:lo+((0:Nat):Int)*1=lo:=by simp
  have e2:(((hi-lo).toNat:Nat):Int)-((0:Nat):Int)=Builtin.Range.rangeSize lo hi 1:=by rw[rangeSize_one];split<;>omega
  show IsRangeIter _ _ (lo+((0:Nat):Int)*1) ((((hi-lo).toNat:Nat):Int)-((0:Nat):Int)) 1
  rw[e1,e2]
  exact aZ _ rfl
 ·have e:b=(s.heap.push { cls:=.type "range",data:=.fields #[.int lo t,.int hi u,.int 1 v] }).objs.size:=by simpa using hb
  subst e
  exact I1.qI (ai _) (I1.hok.fresh (ai _))
theorem xB {a:Expr}{p pos:Pos} (hg:Gl X "range") (hm:X.mg "range"=none) (ha:PA X [a] ta) (hs:starEach [a] X.env=[(false,eval a X.env)]:=by rfl):PIH X tg (.Call (.Name "range" p) [a] [] pos) (wZ X.A.handled ta):=by
 intro pins s σ H R I h
 refine Call_ (oO I hg hm boot_range (oh (thn (ha pos pins s σ H _ I h) fun us s1 ⟨vs,H1,I1,r1,q1⟩=>?_) hs rfl))
 obtain⟨j,e,q1,q2,q⟩:=q1
 subst e
 cases r1 with
 | cons r rr =>
  cases rr
  obtain⟨t,rfl⟩:=r
  exact call_range_1 (Ak I1 (by omega) (by omega) q1 q2 (by simpa using q))
theorem pE {a:Expr}{p pos:Pos} (hm:X.mg "range"=none) (ha:PA X [a] ta) (hg:X.env.kindOf "range"=some .globalImplicit:=by kernel_rfl) (hs:noStar a=true:=by kernel_rfl):PIH X tg (.Call (.Name "range" p) [a] [] pos) (wZ X.A.handled ta) :=
 xB hg hm ha (aO hs)
end
theorem xJ {n:Nat} (hin:jW hd H1):(yU hd lo n).Seq H1 ((List.range n).map fun (k:Nat)=>V.int (lo+(k:Int))):=fun H s=>by
 obtain⟨h1,h2⟩:=sV (lo:=lo) (n:=n) H s
 exact⟨fun i x e=>h1 i x e,fun i hi=>⟨h2 i hi,hin.same s⟩⟩
section
variable {X:Cx}{pins:List (Addr×Obj)}{σ:St}{H1:Hp}{s₂:Shared}{E:Value->Shared->Prop}
theorem AN {elt target iter:Expr}{ifs:List Expr}{scope:Scope}{pos:Pos}{cl:List (Str×Addr)}{own frn:List Str}{js:List Nat}{g:TG}{tc:TT}{te:TE}{Q:VK}{it:Addr}{fp:List Addr}{tn:Nat->Heap->Prop}{J:It}
  {RR:Value->Addr->Result->Shared->Prop} (B:si X scope cl) (hfr:oB X frn js) (hloc:∀ x∈frn,scope.names.lookup x≠some .local)
  (hg:∀ C s₀ H₀ ex,PG (X.blk (own++frn) scope cl C s₀ H₀ ex) target g) (hi:∀ C s₀ H₀ ex,PIf (X.blk (own++frn) scope cl C s₀ H₀ ex) ifs tc) (he:∀ C s₀ H₀ ex,PE (X.blk (own++frn) scope cl C s₀ H₀ ex) elt te)
  (I:Inv X pins σ H1 s₂) (T:A9 X.A.handled X.prog X.w X.K target J fp it tn) (st0:tn 0 s₂.heap) (hf:∀ b∈fp,jV X pins H1 b) (hq:eZ g tc te (fY own.length js σ) J H1 Q)
  (fin:∀ D C s' H' m,s₂.heap.objs.size<=C->Inv X pins σ H' s'->s'.heap.Ns C m->jV X pins H' C->Q (.ref D) H'->RR (.ref D) C (.ok .next) s') :
  wpAny (model X.prog X.w) X.A (newList []) (fun acc s₃=>wpAny (model X.prog X.w) X.A (newFunctionEnv scope X.env.globals cl [] X.env.qual none .none (some X.env)) (fun cenv s₄ =>
   codeAny (model X.prog X.w) X.A (.compStart (.ListComp elt [⟨target,iter,ifs,0⟩] scope pos) 0 (.ref it) acc { cenv with scope:=relabel scope X.env }) (RR acc cenv.locals) s₄) E s₃) E s₂:=by
 have sub:=lY scope.names [] cl B.clo (fun x c e=>by cases e)
 refine gM (wpAny_newFunctionEnv B.cell (by intro y hy;simp at hy) (fun h₁ hns₁ hsb₁=>?_) B.kind)
 dsimp only at hns₁ hsb₁ ⊢
 generalize hH2:s₂.heap.push { cls:=.type "list",dict:=none,data:=.seq ([]:List Value).toArray }=H2 at hns₁ hsb₁ ⊢
 have hC:H2.objs.size=s₂.heap.objs.size+1:=by rw[←hH2,iA]
 have hDC:s₂.heap.objs.size≠H2.objs.size:=by rw[hC];exact bf (jM _)
 have hCle:s₂.heap.objs.size<=H2.objs.size:=by rw[hC];exact iF _
 have below:∀ b,b<s₂.heap.objs.size->b≠H2.objs.size/\b≠s₂.heap.objs.size:=fun b hb=>⟨by rw[hC];exact bf (eY hb),bf hb⟩
 have old:∀ b o,s₂.heap.get? b=some o->h₁.get? b=some o:=fun b o e=>hsb₁.extBut b o (below b (aF e)).1 (aH _ (hH2 ▸ aH _ e))
 have hacc:h₁.get? s₂.heap.objs.size=some { cls:=.type "list",dict:=none,data:=.seq ([]:List Value).toArray }:=hsb₁.extBut _ _ hDC (aH _ (hH2 ▸ aZ _ rfl))
 have hfo:∀ b∈fp,∃ o,s₂.heap.get? b=some o/\∀ v,o.data≠.cell v:=T.obj 0 _ st0
 have D0:H1 s₂.heap.objs.size=none:=I.hok.fresh (ai _)
 have C0:H1 H2.objs.size=none:=I.hok.fresh hCle
 obtain⟨W,⟨m0,w0⟩,turn⟩:=hq _ D0
 have okX:(X.blk (own++frn) scope cl H2.objs.size s₂ H1 fp).Ok:=I.Fi (N':=own++frn) B hCle hf fun b hb=>let ⟨o,e,_⟩:=hfo b hb;⟨o,e⟩
 have I0:Inv (X.blk (own++frn) scope cl H2.objs.size s₂ H1 fp) [] (fY own.length js σ) (upd H1 s₂.heap.objs.size (.lst [])) { s₂ with heap:=h₁,toks:=s₂.toks+([]:List (Str×Value)).length }:=by
  obtain⟨m,hn,hl⟩:=id I.loc
  refine⟨okX,rfl,I.bare,Un.laid old (ai _) D0,⟨_,hns₁,fun i x v e1 e2 e3=>?_⟩,fun x c e=>?_,?_,fun x c e=>?_,fun p hp=>?_,?_,?_⟩
  ·have e1:(own++frn)[i]?=some x:=e1
   unfold fY at e2
   by_cases hik:i<own.length
   ·rw[fO (by simpa using hik),List.getElem?_replicate,if_pos hik] at e2
    cases e2
   ·rw[fP (by simpa using hik),lI,List.getElem?_map] at e2
    rw[fP (by omega)] at e1
    obtain⟨j,hj,hNj,hk⟩:=hfr.get e1
    rw[hj] at e2
    have e2':(σ[j]?).join=some v:=Option.some.inj e2
    have e2'':σ[j]?=some (some v):=by
     cases q:σ[j]? with
     | none=>rw[q] at e2';cases e2'
     | some o=>rw[q] at e2';cases o with
      | none=>cases e2'
      | some y=>have:y=v:=Option.some.inj e2';rw[this]
    obtain⟨u,r,lk⟩:=hl j x v hNj e2'' (hk.elim (fun z=>.inr (.inl z)) fun z=>.inr (.inr z))
    refine⟨u,r,?_⟩
    rcases lk with ⟨k1,_⟩ | ⟨_,c,hcl,hcell⟩
    ·rcases hk with z | z<;>(rw[k1] at z;cases z)
    ·have hx3:(compEnvC scope cl H2.objs.size X.env).kindOf x=some .local∨(compEnvC scope cl H2.objs.size X.env).kindOf x=some .cell∨(compEnvC scope cl H2.objs.size X.env).kindOf x=some .free:=e3
     rcases hx3 with z | z
     ·exfalso
      have z':(scope.names.map fun (n,k)=>if (k==NameKind.free&&X.env.scope.kind==.function&&X.env.kindOf n==some .cell) then (n,NameKind.cell) else (n,k)).lookup x=some .local:=z
      rcases hV z' with q | ⟨q,_⟩
      ·exact hloc x (bp e1) (B.names _ q rfl)
      ·cases q
     ·obtain⟨c',hc'⟩:=okX.has x z
      have q:=sub x c' hc'
      rw[hcl] at q
      have q':c=c':=Option.some.inj q
      subst q'
      refine .inr ⟨z,c,hc',?_⟩
      obtain⟨o,ho,hd⟩:=hcell
      exact⟨o,old _ _ ho,hd⟩
  ·obtain⟨v,o,ho,hd⟩:=I.cell x c (sub x c e)
   exact⟨v,o,old _ _ ho,hd⟩
  ·show upd H1 _ _ H2.objs.size=none
   rw[ar (Ne.symm hDC)];exact C0
  ·obtain⟨v,o,ho,hd⟩:=I.cell x c (sub x c e)
   rw[ar (below c (aF ho)).2];exact I.freeC x c (sub x c e)
  ·cases hp
  ·exact I.hok.laid old (ai _) ⟨bh _,[],_,.nil,hacc⟩
  ·unfold fY
   show _=(own++frn).length
   rw[bb,bb,lI,List.length_map,hfr.len]
 -- the iterator's objects in the block
 have fpx:∀ {H:Hp},(∀ b∈fp,H b=none)->∀ b∈fp,jV (X.blk (own++frn) scope cl H2.objs.size s₂ H1 fp) [] H b:=fun {H} hn b hb=>by
  obtain⟨f0,f1,f2,f3,f4,f5⟩:=hf b hb
  obtain⟨o,e,_⟩:=hfo b hb
  refine⟨hn b hb,(below b (aF e)).1,fun z=>?_,.inl hb,fun x c e=>f4 x c (sub x c e),fun p hp=>by cases hp⟩
  rcases aD.mp (I.rK b z) with z | z
  ·exact f1 z
  ·exact f2 z
 have st1:tn 0 h₁:=T.keep _ _ _ st0 fun b _ o e=>old b o e
 have fr0:∀ b∈fp,upd H1 s₂.heap.objs.size (.lst []) b=none:=fun b hb=>by
  obtain⟨o,e,_⟩:=hfo b hb
  rw[ar (below b (aF e)).2];exact (hf b hb).1
 have loop:codeAny (model X.prog X.w) X.A (.compLoop (.ListComp elt [⟨target,iter,ifs,0⟩] scope pos) 0 (.ref it) (.ref s₂.heap.objs.size) (compEnvC scope cl H2.objs.size X.env))
   (RR (.ref s₂.heap.objs.size) H2.objs.size) { s₂ with heap:=h₁,toks:=s₂.toks+([]:List (Str×Value)).length }:=by
  refine pk (fun n s'=>∃ i ys σ1 H,Inv (X.blk (own++frn) scope cl H2.objs.size s₂ H1 fp) [] σ1 H s'/\tn i s'.heap/\(∀ b∈fp,H b=none)/\W i n ys σ1 H) ?_ m0 ⟨0,[],_,_,I0,st1,fr0,w0⟩
  rintro n s3 ⟨i,ys,σ3,H3,I3,st3,fr3,w3⟩
  obtain⟨hD3,hsz,alt⟩:=turn i n ys σ3 H3 w3
  rcases alt with ⟨stop,qn⟩ | ⟨go,step⟩
  ·refine thn (T.done (X.blk (own++frn) scope cl H2.objs.size s₂ H1 fp) rfl rfl rfl rfl i [] s3 σ3 H3 _ I3 (fpx fr3) st3 stop) fun r s4 ⟨hr,I4⟩=>?_
   subst hr
   obtain⟨m,hn,_⟩:=id I4.loc
   have hch:∀ b∈fp,(b∈X.ex∨X.s₀.heap.objs.size<=b)/\b≠X.env.locals/\(∀ x c,X.env.cells.lookup x=some c->c≠b)/\∀ p∈X.pn++pins,p.1≠b:=fun b hb=>by
    obtain⟨f0,f1,f2,f3,f4,f5⟩:=hf b hb
    exact⟨f3,f1,f4,f5⟩
   have IX:Inv X pins σ H3 s4:=I.qw I4.os I4.base I4.hok I4.bare hch
   exact fin _ _ s4 H3 m hCle IX hn (I.qI hCle I4.free) qn
  ·refine thn (T.item (X.blk (own++frn) scope cl H2.objs.size s₂ H1 fp) rfl rfl rfl rfl i [] s3 σ3 H3 _ I3 (fpx fr3) st3 go) fun r s4 ⟨u,hr,h4⟩=>?_
   subst hr
   refine thn h4 fun _ s5 ⟨x,H5,I5,r5,y5,st5,fr5⟩=>?_
   have I5':=I5.pinned (fpx fr5) (T.obj _ _ st5)
   refine thn (hg _ _ _ _ _ s5 σ3 H5 x u _ I5' r5 (step x H5 y5)) fun _ s6 ⟨σ6,H6,I6,q6⟩=>?_
   refine thn (hi _ _ _ _ _ s6 σ6 H6 _ I6 q6) fun b s7 ⟨H7,I7,q7⟩=>?_
   have again:∀ {ys':List V}{H8:Hp}{s8:Shared}{m':Nat},Inv (X.blk (own++frn) scope cl H2.objs.size s₂ H1 fp) ([]++mM fp s5.heap) σ6 H8 s8->m'<n->W (i+1) m' ys' σ6 H8 →
     ∃ m,m<n/\∃ i ys σ1 H,Inv (X.blk (own++frn) scope cl H2.objs.size s₂ H1 fp) [] σ1 H s8/\tn i s8.heap/\(∀ b∈fp,H b=none)/\W i m ys σ1 H:=fun {ys' H8 s8 m'} I8 hm w8=>by
    refine⟨m',hm,i+1,ys',σ6,H8,I8.gG,T.keep _ _ _ st5 fun b hb o e=>(I8.pin (b,o) (bV _ (bV _ (eu hb e)))).1,fun b hb=>?_,w8⟩
    obtain⟨o,e,d⟩:=T.obj _ _ st5 b hb
    exact (I8.pin (b,o) (bV _ (bV _ (eu hb e)))).2.1
   cases b with
   | false =>
    rw[if_neg bE] at q7 ⊢
    obtain⟨m',hm,w7⟩:=q7
    exact again I7 hm w7
   | true =>
    rw[if_pos rfl] at q7 ⊢
    refine thn (he _ _ _ _ _ s7 σ6 H7 _ I7 q7) fun v s8 ⟨y,H8,I8,r8,hD8,m',hm,w8⟩=>?_
    refine thn (ic (X:=X.blk (own++frn) scope cl H2.objs.size s₂ H1 fp) _ s8 σ6 H8 (.ref s₂.heap.objs.size) [y] _ [v] (fun _ H9=>W (i+1) m' (ys++[y]) σ6 H9) I8 rfl (.cons r8 .nil) ⟨_,ys,y,rfl,rfl,hD8,hsz,w8⟩) fun _ s9 ⟨_,H9,I9,_,w9⟩=>?_
    exact again I9 hm w9
 exact codeAny_compStart_list loop (T.self X.A 0 _ _ _ st1 loop)
theorem Hv {elt target iter:Expr}{ifs:List Expr}{pos:Pos}{frn:List Str}{wi:TI}{g:TG}{tc:TT}{te:TE} (own:List Str) (B:si X scope cl) (hfr:oB X frn js)
  (hloc:∀ x∈frn,scope.names.lookup x≠some .local) (hi:PIH X target iter wi)
  (hg:∀ C s₀ H₀ ex,PG (X.blk (own++frn) scope cl C s₀ H₀ ex) target g) (hif:∀ C s₀ H₀ ex,PIf (X.blk (own++frn) scope cl C s₀ H₀ ex) ifs tc) (he:∀ C s₀ H₀ ex,PE (X.blk (own++frn) scope cl C s₀ H₀ ex) elt te)
  (hs:∀ x,foldedSetIterable iter X.env x=pure x:=by intro _;rfl):PE X (.ListComp elt [⟨target,iter,ifs,0⟩] scope pos) (tLC own.length js wi g tc te):=by
 intro pins s σ H Q I h
 rw[eval_ListComp]
 refine wpAny_comprehension_free (use:=none) rfl hs (fG B.clo) B.kind B.names (thn (hi pins s σ H _ I h) fun v s1 h1=>thn h1 fun itv s2 h2=>?_)
 obtain⟨it,fp,tn,J,H2,e,I2,T,st2,f2,hq⟩:=h2
 subst e
 refine AN (RR:=fun acc C=>compPost (model X.prog X.w) X.A X.xe none (EP X pins σ Q) acc C) B hfr hloc hg hif he I2 T st2 f2 hq ?_
 intro D C s' H' m hC I' hn fC q
 exact⟨m,hn,fun h' sb=>⟨.ref D,H',I'.turned (t':=s'.toks) (fun b o hb e=>(sb.2 b hb).trans e) fC.1 fC.2.1 fC.2.2.2.1 fC.2.2.2.2.1 fC.2.2.2.2.2,rfl,q⟩⟩
end
def yI (K:PySem.W.Frag) (tb:(St->XK)->TS) (CE:Addr) (i:Nat) (th:Addr->TS):TS:=fun D σ H =>
 tb (fun σ' c d H'=>PySem.W.exmOne K c (.ref CE)=some true/\∀ ea H2,H' ea=none->aq H' H2->H2 ea=some (nu ea c d)->th ea (D.un i) (σ'.set i (some (.ref ea))) H2) D σ H
section
variable {X:Cx}{pins:List (Addr×Obj)}{σ:St}{H:Hp}{s:Shared}
theorem EL {body:List Stmt}{b₀:Stmt}{suite:List Stmt}{x n:Str}{i:Nat}{CE:Addr}{np hpos pos:Pos}{tb:(St->XK)->TS}{th:Addr->TS} (hst:X.stack=X.env::X.outer) (hf:X.env.frame=some X.env.locals) (hex:X.ex=[]) (hN:X.N.Nodup) (hm:X.mg x=some (.ref CE))
  (hb:∀ (pn:List (Addr×Obj)) (xe:Value->Shared->Prop) (E:St->XK),PassesOwn (model X.prog X.w) X.A X.env xe->Passes (CX1 X.prog X.w) { X with pn:=pn,xe:=xe } E->PSs { X with pn:=pn,xe:=xe } body (tb E))
  (hh:∀ ea:Addr,PSs { X with A:=X.A.mark (some (.ref ea)),calm:=false,xe:=fun _ _=>False } (b₀::suite) (th ea))
  (hi:X.N[i]?=some n:=by kernel_rfl) (hn:X.env.scope.names.lookup n=some .local:=by kernel_rfl) (hg:X.env.kindOf x=some .globalImplicit:=by kernel_rfl) (hd:(x==("__debug__":Str))=false:=by kernel_rfl) :
  PS X (.Try body [.ExceptHandler (some (.Name x np)) (some n) (b₀::suite) hpos] [] [] pos) (yI X.K tb CE i th):=by
 intro pins s σ H D I h
 refine wpAny_Try_except ?_
 refine bg (hb (X.pn++pins) _ _ PassesOwn.looking ?_ [] s σ H D I.IE h) ?_ (fun e s1 he=>he)
 ·intro pins' σ' H1 s1 e s' I' hcx
  obtain⟨ea,C,t,B,H',d,rfl,os,bare,un,hok,fl,⟨oe,hoe,hdo⟩,hdx,hkb,htrue,hE⟩:=hcx
  have IX:Inv X pins σ' H1 s1:=I'.ja
  have I2:Inv X pins σ' H' s':=IX.qw (ch:=[]) os un hok bare (fun b z=>absurd z (by simp))
  have hfr:∀ b∈frs X.stack,∃ o,s'.heap.get? b=some o/\∀ vs,o.data≠.fields vs:=fun b hb=>(I2.stack.mem hb).2
  have hff:∀ b∈frs X.stack,H' b=none:=I2.nT
  obtain⟨oe0,vs0,hoe0,_,hdat0,_⟩:=fl.first
  have nfr:ea∉frs X.stack:=fun z=>by
   obtain⟨o,e1,e2⟩:=hfr ea z
   rw[hoe0] at e1;cases e1;exact e2 _ hdat0
  have hea:H' ea=none:=by
   cases q:H' ea with
   | none=>rfl
   | some o=>have:=hkb ea oe hoe nfr (.inl (by rw[q];simp));rw[fl.2.1] at this;cases this
  have new1:s1.heap.get? ea=none:=by
   cases q:s1.heap.get? ea with
   | none=>rfl
   | some o=>have:=hkb ea oe hoe nfr (.inr ⟨o,q⟩);rw[fl.2.1] at this;cases this
  have new0:X.s₀.heap.get? ea=none:=by
   cases q:X.s₀.heap.get? ea with
   | none=>rfl
   | some o =>
    obtain⟨o2,e2⟩:=IX.base.there ea o q (by rw[hex];simp)
    rw[new1] at e2;cases e2
  have mk:∀ h6,Heap.FlyingW B X.stack ea (.ref C) (.ref t) h6->s'.heap.UpToSlots h6->(∃ o6,h6.get? ea=some o6/\XD o6 d)->Inv X pins σ' (upd H' ea (nu ea (.ref C) d)) { s' with heap:=h6 }:=by
   intro h6 f6 sm6 ⟨o6,e6,d6⟩
   have J:Inv X pins σ' H' { s' with heap:=h6 }:=IX.qw (s':={ s' with heap:=h6 }) (ch:=[]) os (yS un hkb f6.1 sm6 hfr) (vg hok hkb f6.1 hff) bare (fun b z=>absurd z (by simp))
   obtain⟨o7,v7,e7,c7,t7,_⟩:=f6.first
   rw[e6] at e7
   cases e7
   refine J.FJ hea new0 (fun z=>?_) (fun y c e z=>?_) (fun p hp z=>?_) (yp e6 c7 d6)
   ·obtain⟨m,⟨ob,_,_,e9,_⟩,_⟩:=IX.loc
    rw[←z,new1] at e9;cases e9
   ·obtain⟨w9,o9,e9,_⟩:=IX.cell y c e
    rw[z,new1] at e9;cases e9
   ·have e9:=(IX.pin p hp).1
    rw[z,new1] at e9;cases e9
  refine bg (KD.any (E:=fun _ _=>False) (ua _ _) (wpAny_looks_onW (Q:=fun _ s''=>∃ h4,s''={ s' with heap:=h4 }/\Heap.HeldW B X.stack ea (.ref C) (.ref t) X.env.locals h4/\s'.heap.UpToSlots h4) (by rw[←hst];exact I.ok.frames) hf (by rw[←hst];exact fl) fun h4 x1 x2=>⟨h4,rfl,by rw[hst];exact x1,x2⟩)) ?_ (fun _ _ z=>False.elim z.1)
  rintro _ _ ⟨⟨h4,rfl,l4,sm4⟩,dk4⟩
  refine bg (KD.any (E:=fun _ _=>False) (jx _ _) (wpAny_landsW (s:={ s' with heap:=h4 }) (Q:=fun _ s''=>∃ h5,s''={ s' with heap:=h5 }/\Heap.FlyingW B X.stack ea (.ref C) (.ref t) h5/\h4.UpToSlots h5) l4 fun h5 x1 x2=>⟨h5,rfl,x1,x2⟩)) ?_ (fun _ _ z=>False.elim z.1)
  rintro _ _ ⟨⟨h5,rfl,f5,sm5⟩,dk5⟩
  obtain⟨o5,e5,_,d5,g5⟩:=(dk4.trans dk5) ea oe hoe
  have I5:=mk h5 f5 (sm4.trans sm5) ⟨o5,e5,hdo.dk d5 g5⟩
  obtain⟨o5',v5,e5',c5,t5,_⟩:=f5.first
  rw[e5] at e5'
  cases e5'
  refine wpAny_handleBy_cons (codeAny_handlers_test ?_) (by intro q;cases q)
  refine lZ (X:={ X with A:=X.A.mark (some (.ref ea)),calm:=false,xe:=fun _ _=>False }) I5.uc hg hm ?_ hd
  have LT:PySem.W.Looks (model X.prog X.w) h5 (typeOf (.ref ea)) (.ref C):=c5 ▸ (PySem.W.Looks.ld e5).andThen .now
  refine PySem.W.exm_one I5.kIn LT htrue _ _ _ _ (fun _ _ e=>e) ?_
  refine codeAny_handlers_suite_as ?_
  refine bg (KD.any (E:=fun _ _=>False) (jx _ _) (lands_againW (s:={ s' with heap:=h5 }) (Q:=fun _ s''=>∃ h6,s''={ s' with heap:=h6 }/\Heap.FlyingW B X.stack ea (.ref C) (.ref t) h6/\h5.UpToSlots h6) f5 fun h6 x1 x2=>⟨h6,rfl,x1,x2⟩)) ?_ (fun _ _ z=>False.elim z.1)
  rintro _ _ ⟨⟨h6,rfl,f6,sm6⟩,dk6⟩
  obtain⟨o6,e6,_,d6,g6⟩:=dk6 ea o5 e5
  have I6:=mk h6 f6 ((sm4.trans sm5).trans sm6) ⟨o6,e6,(hdo.dk d5 g5).dk d6 g6⟩
  refine i7 (X:={ X with A:=X.A.mark (some (.ref ea)),calm:=false,xe:=fun _ _=>False }) (v:=.ref ea) I6.uc hN hi (.inl hn) rfl (fun s7 I7=>?_) (.inr hn)
  refine bg (hh ea pins s7 _ _ (D.un i) I7 (hE ea _ hea (dw hea) az)) (fun f s8 hsp=>?_) (fun _ _ z=>False.elim z)
  cases f with
  | next =>
   obtain⟨σ9,H9,I9,q9⟩:=hsp
   exact fB (Inv.markFrom I.ok I9) hN hi hn fun s9 J=>⟨_,H9,J,q9⟩
  | brk =>
   obtain⟨σ9,H9,I9,q9⟩:=hsp
   exact fB (Inv.markFrom I.ok I9) hN hi hn fun s9 J=>⟨_,H9,J,q9⟩
  | cont =>
   obtain⟨σ9,H9,I9,q9⟩:=hsp
   exact fB (Inv.markFrom I.ok I9) hN hi hn fun s9 J=>⟨_,H9,J,q9⟩
  | ret u =>
   obtain⟨v9,σ9,H9,I9,r9,q9⟩:=hsp
   exact fB (Inv.markFrom I.ok I9) hN hi hn fun s9 J=>⟨v9,_,H9,J,r9,q9⟩
 ·intro f s1 hsp
  cases f with
  | next =>
   obtain⟨σ9,H9,I9,q9⟩:=hsp
   exact iI ⟨σ9,H9,I9.ja,q9⟩
  | brk =>
   obtain⟨σ9,H9,I9,q9⟩:=hsp
   exact⟨σ9,H9,I9.ja,q9⟩
  | cont =>
   obtain⟨σ9,H9,I9,q9⟩:=hsp
   exact⟨σ9,H9,I9.ja,q9⟩
  | ret u =>
   obtain⟨v9,σ9,H9,I9,r9,q9⟩:=hsp
   exact⟨v9,σ9,H9,I9.ja,r9,q9⟩
end
theorem xY {K:PySem.W.Frag}{tb:(St->XK)->TS}{CE:Addr}{i:Nat}{th:Addr->TS}{D:Ends}{σ:St}{H:Hp}:yI K tb CE i th D σ H =
 tb (fun σ' c d H'=>PySem.W.exmOne K c (.ref CE)=some true/\∀ ea H2,H' ea=none->aq H' H2->H2 ea=some (nu ea c d)->th ea (D.un i) (σ'.set i (some (.ref ea))) H2) D σ H:=propext Iff.rfl
theorem Fd {CE:Addr}{D:Ends} (h:∀ th',th'=th->yI K tb CE i th' D σ H):yI K tb CE i th D σ H:=h th rfl
section
variable {X:Cx}{tg:Expr}
theorem EK {iter:Expr}{tb:TS}{pos:Pos} (hp:PassesOwn (model X.prog X.w) X.A X.env X.xe) (hi:PIH X tg iter wi) (hg:PG X tg g) (hb:PSs X body tb)
  (hs:∀ x,foldedSetIterable iter X.env x=pure x:=by intro _;rfl):PS X (.For tg iter body [] pos) (HI wi g tb):=by
 intro pins s σ H D I h
 refine wpAny_For (thn (hi pins s σ H _ I h) fun v s1 h1=>thn h1 fun itv s2 h2=>?_) hs
 obtain⟨it,fp,tn,J,H2,e,I2,T,st2,f2,W,⟨m0,w0⟩,turn⟩:=h2
 subst e
 -- what stays true of the iterator's objects through the loop
 have stat:∀ {H':Hp},(∀ b∈fp,H' b=none)->∀ b∈fp,jV X pins H' b:=fun hn b hb=>⟨hn b hb,(f2 b hb).2⟩
 refine codeAny_forLoop_any (fun n s'=>∃ i σ' H',Inv X pins σ' H' s'/\tn i s'.heap/\(∀ b∈fp,H' b=none)/\W i n σ' H') ?_ m0 ⟨0,σ,H2,I2,st2,fun b hb=>(f2 b hb).1,w0⟩
 rintro n s3 ⟨i,σ3,H3,I3,st3,fr3,w3⟩
 rcases turn i n σ3 H3 w3 with ⟨stop,qn⟩ | ⟨go,N,hN,step⟩
 ·refine dR hp (thn (T.done X rfl rfl rfl rfl i pins s3 σ3 H3 X.xe I3 (stat fr3) st3 stop) fun r s4 ⟨hr,I4⟩=>?_)
  subst hr
  exact iI ⟨σ3,H3,I4,qn⟩
 ·refine dR hp (thn (T.item X rfl rfl rfl rfl i pins s3 σ3 H3 X.xe I3 (stat fr3) st3 go) fun r s4 ⟨u,hr,h4⟩=>?_)
  subst hr
  refine dR hp (thn h4 fun _ s5 ⟨x,H5,I5,r5,y5,st5,fr5⟩=>?_)
  have I5':=I5.pinned (stat fr5) (T.obj _ _ st5)
  refine dR hp (thn (hg _ s5 σ3 H5 x u _ I5' r5 (step x H5 y5)) fun _ s6 ⟨σ6,H6,I6,q6⟩=>?_)
  refine dR hp (thn (hb _ s6 σ6 H6 _ I6 q6) fun f s7 q7=>?_)
  have again:∀ {σ7:St}{H7:Hp},Inv X (pins++mM fp s5.heap) σ7 H7 s7->N σ7 H7->∃ m,m<n/\∃ i σ' H',Inv X pins σ' H' s7/\tn i s7.heap/\(∀ b∈fp,H' b=none)/\W i m σ' H':=fun {σ7 H7} I7 n7=>by
   obtain⟨m',hm,w7⟩:=hN σ7 H7 n7
   refine⟨m',hm,i+1,σ7,H7,I7.gG,T.keep _ _ _ st5 fun b hb o e=>(I7.pin (b,o) (bV _ (bV _ (eu hb e)))).1,fun b hb=>?_,w7⟩
   obtain⟨o,e,d⟩:=T.obj _ _ st5 b hb
   exact (I7.pin (b,o) (bV _ (bV _ (eu hb e)))).2.1
  cases f with
  | next=>obtain⟨σ7,H7,I7,n7⟩:=q7;exact again I7 n7
  | cont=>obtain⟨σ7,H7,I7,n7⟩:=q7;exact again I7 n7
  | brk=>obtain⟨σ7,H7,I7,q7⟩:=q7;exact⟨σ7,H7,I7.gG,q7⟩
  | ret v=>obtain⟨x7,σ7,H7,I7,r7,q7⟩:=q7;exact⟨x7,σ7,H7,I7.gG,r7,q7⟩
end
theorem Bv {lo:Int}{n:Nat}{g:TG}{tb:TS}{D:Ends} (Pv:Nat->St->Hp->Prop) (h0:Pv 0 σ H) (hin:∀ σ H,Pv n σ H->jW hd H)
  (hs:∀ i σ H,i<n->Pv i σ H->∀ N:St->Hp->Prop,(∀ σ' H',Pv (i+1) σ' H'->N σ' H')->g (.int (lo+i)) σ H fun σ2 H2=>tb { D with nx:=N,ct:=N,bk:=D.nx } σ2 H2) (he:∀ σ H,Pv n σ H->D.nx σ H):ig g tb D (yU hd lo n) σ H:=by
 refine⟨fun i m σ H=>m=n-i/\i<=n/\Pv i σ H,⟨n,by simp,bh _,h0⟩,?_⟩
 rintro i m σ H ⟨rfl,hi,p⟩
 by_cases hlt:i<n
 ·refine .inr ⟨hlt,Pv (i+1),fun σ' H' p'=>⟨n-(i+1),by omega,rfl,hlt,p'⟩,fun x H' y=>?_⟩
  obtain⟨e,y⟩:=y
  subst e y
  exact hs i σ _ hlt p _ fun _ _ h=>h
 ·have e:i=n:=by omega
  subst e
  exact .inl ⟨⟨ai _,hin _ _ p⟩,he _ _ p⟩
end
section
end
section
def fj (K:PySem.W.Frag) (x:Str) (st:Stmt):Prop:=∃ f fd,Fun K x x st f fd/\PySem.W.nsIn K mainGlobals x=some (some (.ref f))
def m4 (K:PySem.W.Frag) (C:Addr) (m q:Str) (st:Stmt):Prop:=∃ f fd,Fun K m q st f fd/\PySem.W.findIn K (.ref C) m=some (some (.ref f))/\PySem.W.isFn K (.ref f)=true
section
variable {K:PySem.W.Frag}{x m q:Str}{st:Stmt}{f C:Addr}{oc:Value}{od an:Option Addr}{osl:Array (Option Value)}{kV doc pm cdv ct:Value}
theorem DJ (a:PySem.W.nsIn K mainGlobals x=some (some (.ref f))) (l:K.lookup f=some ⟨oc,od,.func (PySem.W.fnOf x x (bT st) (bD st) (ak st) .none kV doc pm an cdv ct),osl⟩) (c:PySem.W.codeIn K cdv x=true) (k:PySem.W.keepIn K (.ref f)=true):fj K x st:=⟨f,_,kI l c k,a⟩
theorem DL (a:PySem.W.findIn K (.ref C) m=some (some (.ref f))) (i:PySem.W.isFn K (.ref f)=true) (l:K.lookup f=some ⟨oc,od,.func (PySem.W.fnOf m q (bT st) (bD st) (ak st) .none kV doc pm an cdv ct),osl⟩) (c:PySem.W.codeIn K cdv q=true) (k:PySem.W.keepIn K (.ref f)=true):m4 K C m q st:=⟨f,_,kI l c k,a,i⟩
end
section
variable {P:Program}{w:World}{K:PySem.W.Frag}{h base:Heap}{mg:Str->Option Value}{k:Nat}{x m q:Str}{st:Stmt}{C:Addr}{ps:List Str}{sp:Sp}
theorem fj.fnc (X:K.In h) (G:h.Ns mainGlobals mg) (d:fj K x st) (o:∀ f fd,Fun K x x st f fd->bI P w K mg base (CX1 P w) k f fd ps sp)
  (b:∀ (kV doc pm:Value) (an:Option Addr) (cdv ct:Value) (us:List Value),us.length=ps.length->bindArgs (PySem.W.fnOf x x (bT st) (bD st) (ak st) .none kV doc pm an cdv ct) ⟨us,[]⟩=pure (ps.zip us)):Fnc P w K mg base (CX1 P w) k x ps sp:=by
 obtain⟨f,fd,F,a⟩:=d
 exact⟨f,fd,o f fd F,bS X G a,F.kp,F.binds b⟩
theorem m4.mtd (c:Cls K C) (d:m4 K C m q st) (o:∀ f fd,Fun K m q st f fd->bI P w K mg base (CX1 P w) k f fd ps sp)
  (b:∀ (kV doc pm:Value) (an:Option Addr) (cdv ct:Value) (us:List Value),us.length=ps.length->bindArgs (PySem.W.fnOf m q (bT st) (bD st) (ak st) .none kV doc pm an cdv ct) ⟨us,[]⟩=pure (ps.zip us)):Mtd P w K mg base (CX1 P w) C m k ps sp:=by
 obtain⟨f,fd,F,a,i⟩:=d
 exact⟨⟨f,fd,o f fd F,⟨a,i,F.kp⟩,F.binds b⟩,c⟩
end
end
section
structure qo (P:Program) (w:World) (K:PySem.W.Frag) (mg:Str->Option Value) (base:Heap) (CX:CXT) (C:Addr) (m:Str) (d n:Nat) (ps:List Str) (spA:Sp->Sp):Prop where
 ex:∃ (f:Addr) (fd:FuncData),(∀ k,uG P w K mg base CX (k+d) f fd ps (EX P w K mg base k n spA))/\Meth K C m f/\Binds K fd ps []
 cl:Cls K C
theorem Fun.okH {P:Program}{w:World}{mg:Str->Option Value}{base:Heap}{x qual:Str}{N ps:List Str}{j k n:Nat} (F:Fun K x qual st f fd) (S:aM N ps (ak st)) (len:∀ spf vs H Q E,spA spf vs H Q E->vs.length=ps.length)
  (hbody:∀ (cdv:Value) (A:Around) (outer:List Env) (s:Shared) (H:Hp) (vs:List V) (Q:VK) (E:XK),bZ j (A.deeper (envOfC qual (ak st) s.heap.objs.size f cdv))->∀ (lf:Addr) (spf:Sp),vs.getLast?=some (.ref lf)->gW H lf->jX P w K mg base k n lf spf s H->spA spf vs H Q E →
   ∃ t,PSs (mm (CX1 P w) P w K mg base N qual (ak st) f cdv A outer s H E) (bD st) t/\t { nx:=fun _ H'=>Q .non H',rt:=Q } (start N vs) H):uG P w K mg base (CX1 P w) (j+1) f fd ps (EX P w K mg base k n spA):=by
 obtain⟨oc,od,kV,doc,pm,an,cdv,ct,osl,rfl,lk,hcd⟩:=F.ex
 exact GB lk hcd S (fun s vs H Q E ⟨_,_,_,_,_,h⟩=>len _ _ _ _ _ h) fun A outer s H vs Q E hr ⟨lf,spf,h1,h2,h3,h4⟩=>hbody cdv A outer s H vs Q E hr lf spf h1 h2 h3 h4
def yN (C:Addr) (m:Str) (spA:Sp->Sp) (q:Str) (Pt:Addr) (js:List Nat) (te:TE) (E:St->XK) (ta t1 t2:TE):TE:=fun σ H Q=>ta σ H fun x H0=>mQ C m x H0 fun H0=>t1 σ H0 fun y H1=>t2 σ H1 fun z H2=>H2 Pt=some (fX q)/\∀ f H',H2 f=none->aq H2 H'->gW H' f->spA (fun vs H Q _=>te (vs.map some++uM js σ) H Q) [x,y,z,.ref f] H' Q (E σ)
theorem yX {C:Addr}{m:Str}{spA:Sp->Sp}{q:Str}{Pt:Addr}{js:List Nat}{te:TE}{E:St->XK}{ta t1 t2:TE}{σ:St}{H:Hp}{Q:VK}:yN C m spA q Pt js te E ta t1 t2 σ H Q=ta σ H fun x H0=>mQ C m x H0 fun H0=>t1 σ H0 fun y H1=>t2 σ H1 fun z H2=>H2 Pt=some (fX q)/\∀ f H',H2 f=none->aq H2 H'->gW H' f->spA (fun vs H Q _=>te (vs.map some++uM js σ) H Q) [x,y,z,.ref f] H' Q (E σ):=propext Iff.rfl
def yO (C:Addr) (m:Str) (spA:Sp->Sp) (lf:Addr) (spf:Sp) (E:St->XK) (ta tv:TE):TE:=fun σ H Q=>ta σ H fun x H0=>mQ C m x H0 fun H0=>tv σ H0 fun y H1=>y=.ref lf/\gW H1 lf/\spA spf [x,.ref lf] H1 Q (E σ)
theorem yY {C:Addr}{m:Str}{spA:Sp->Sp}{lf:Addr}{spf:Sp}{E:St->XK}{ta tv:TE}{σ:St}{H:Hp}{Q:VK}:yO C m spA lf spf E ta tv σ H Q=ta σ H fun x H0=>mQ C m x H0 fun H0=>tv σ H0 fun y H1=>y=.ref lf/\gW H1 lf/\spA spf [x,.ref lf] H1 Q (E σ):=propext Iff.rfl
section
variable {X:Cx}
theorem sS {pl:Sem Bool}{E:St->XK}{k d n:Nat}{C:Addr}{m q:Str}{gps ps fr:List Str}{js:List Nat}{spA:Sp->Sp}{o e1 e2:Expr}{ta t1 t2 te:TE}{apos pos lpos:Pos}{params:Arguments}{body:Expr}{scope:Scope}{cl:List (Str×Addr)}{c Pt:Addr}
  (M:qo X.prog X.w X.K X.mg X.base (CX1 X.prog X.w) C m d n gps spA) (hn:ps.length=n) (hg4:gps.length=4) (hx:Passes (CX1 X.prog X.w) X E) (hr:bZ (k+1+d) X.A) (he:PE X o ta) (h1:PE X e1 t1) (h2:PE X e2 t2)
  (hcd:X.env.code=.ref c) (hC:PySem.W.codeHdIn X.K c Pt=true) (hq:X.env.qual++"<lambda>"=q) (hcl:clo X.env.cells scope.names []=some cl) (hcap:Dm X scope fr js)
  (hbind:∀ (pm ctv:Value) (c':Addr) (us:List Value),us.length=ps.length->bindArgs (PySem.W.kla_fn "<lambda>" q params body scope cl pm (.ref c') ctv) ⟨us,[]⟩=pure (ps.zip us))
  (hbody:∀ (f c':Addr) (A:Around) (outer:List Env) (s:Shared) (H:Hp),bZ k (A.deeper (PySem.W.envX q scope s.heap.objs.size f (.ref c') cl))->PE (ye X.prog X.w X.K X.mg X.base (ps++fr) q scope f (.ref c') cl A outer s H) body te)
  (hps:∀ y∈ps,scope.names.lookup y=some .local) (hnd:ps.Nodup)
  (hd:defaultsOf params X.env=([],[]):=by rfl)
  (hco:scope.isCoroutine=false:=by rfl) (hgen:scope.isGenerator=false:=by rfl) (hk:scope.kind=.function:=by rfl) (hcell:∀ y∈scope.names,y.2≠.cell:=by decide +kernel)
  (hs:cV [e1,e2,.Lambda params body scope lpos]=true:=by kernel_rfl)
  (ht:eval (.Call (.Attribute o m apos) [e1,e2,.Lambda params body scope lpos] [] pos) X.env=(do
   let ov ←eval o X.env
   standAt apos.atName
   let (f,first) ←holding [ov] (getMethod ov m pl)
   callWith pos f first (backTo pos (starEach [e1,e2,.Lambda params body scope lpos] X.env)) (backToKw pos (keywordEach [] X.env))):=by rfl) :
  PE X (.Call (.Attribute o m apos) [e1,e2,.Lambda params body scope lpos] [] pos) (yN C m spA q Pt js te E ta t1 t2):=by
 obtain⟨g,fd,F,hm,hb⟩:=M.ex
 have s1:=aR hs
 have s2:=aR s1.2
 have s3:=aR s2.2
 intro pins s σ H Q I h
 refine ot (pl:=pl) (thn (he pins s σ H _ I h) fun u s0 ⟨x,H0,I0,rx,q0⟩=>?_) ht
 cases x<;>try exact q0.elim
 next a =>
 obtain⟨dx,fs,ea,l,q1⟩:=q0
 obtain rfl:u=Value.ref a:=rx
 refine jZ I0 ea M.cl hm l ?_
 refine lR (first:=[.ref a]) (h₀:=X.base) I.ok.mod.kin hm.kp ?_ (aO s1.1) (cx s1.2)
 rw[aO s1.1,aO s2.1,aO s3.1]
 refine mj (thn (h1 pins s0 σ H0 _ I0 q1) fun u1 sa ⟨x1,Ha,Ia,ra,qa⟩=>?_)
 refine mj (thn (h2 pins sa σ Ha _ Ia qa) fun u2 sb ⟨x2,Hb,Ib,rb,hP,qb⟩=>?_)
 refine mj (zS Ib hP hcd hC hq hd hcl fun f c' ctv H' s' I' sm hn' hf hc=>?_)
 refine Calls.spliced_nil ⟨I'.kIn,?_⟩
 have la:gW H' f:=⟨_,_,_,_,_,_,_,_,_,hf⟩
 have st:=BN (k:=k) I' hf hc hcl (hbind _ _ _) hco hgen hk hcell hps hnd hcap (fun A outer s H hr=>hbody f c' A outer s H hr)
 rw[hn] at st
 have r:Vals [.ref a,x1,x2,.ref f] [.ref a,u1,u2,.ref f]:=.cons rfl (.cons ra (.cons rb (.cons rfl .nil)))
 refine gK (fU ((F (k+1)).run X.A X.stack s' H' ⟨[.ref a,u1,u2,.ref f],[]⟩ [.ref a,u1,u2,.ref f] [.ref a,x1,x2,.ref f] Q (E σ) hr I'.Bh (by have:=hb s' [.ref a,u1,u2,.ref f] I'.kIn (by rw[hg4];rfl);simpa using this) r ⟨f,_,rfl,la,st,qb f H' hn' sm la⟩) fun r s'' hq=>?_)
 cases r with
 | error e=>exact hx pins σ H' s' e s'' I' hq
 | ok fl =>
  cases fl with
  | ret u=>exact I'.after hq
  | next=>exact False.elim hq
  | brk=>exact False.elim hq
  | cont=>exact False.elim hq
theorem Ah {pl:Sem Bool}{E:St->XK}{k d n:Nat}{C lf:Addr}{m:Str}{gps:List Str}{spA:Sp->Sp}{spf:Sp}{o ev:Expr}{ta tv:TE}{apos pos:Pos}
  (M:qo X.prog X.w X.K X.mg X.base (CX1 X.prog X.w) C m d n gps spA) (S:jX X.prog X.w X.K X.mg X.base k n lf spf X.s₀ X.H₀) (hex:X.ex=[]) (hg2:gps.length=2) (hx:Passes (CX1 X.prog X.w) X E) (hr:bZ (k+d) X.A) (he:PE X o ta) (hv:PE X ev tv)
  (hs:cV [ev]=true:=by kernel_rfl)
  (ht:eval (.Call (.Attribute o m apos) [ev] [] pos) X.env=(do
   let ov ←eval o X.env
   standAt apos.atName
   let (f,first) ←holding [ov] (getMethod ov m pl)
   callWith pos f first (backTo pos (starEach [ev] X.env)) (backToKw pos (keywordEach [] X.env))):=by rfl) :
  PE X (.Call (.Attribute o m apos) [ev] [] pos) (yO C m spA lf spf E ta tv):=by
 obtain⟨g,fd,F,hm,hb⟩:=M.ex
 have s1:=aR hs
 intro pins s σ H Q I h
 refine ot (pl:=pl) (thn (he pins s σ H _ I h) fun u s0 ⟨x,H0,I0,rx,q0⟩=>?_) ht
 cases x<;>try exact q0.elim
 next a =>
 obtain⟨dx,fs,ea,l,q1⟩:=q0
 obtain rfl:u=Value.ref a:=rx
 refine jZ I0 ea M.cl hm l ?_
 refine lR (first:=[.ref a]) (h₀:=X.base) I.ok.mod.kin hm.kp ?_ (aO s1.1) (cx s1.2)
 rw[aO s1.1]
 refine mj (thn (hv pins s0 σ H0 _ I0 q1) fun u1 s' ⟨x1,H',I',ra,e1,la,qa⟩=>?_)
 refine Calls.spliced_nil ⟨I'.kIn,?_⟩
 subst e1
 obtain rfl:u1=Value.ref lf:=ra
 have ub:=I'.base
 rw[hex] at ub
 have st:=S.later (s₁:=s') ⟨_,ub⟩
 have r:Vals [.ref a,.ref lf] [.ref a,.ref lf]:=.cons rfl (.cons rfl .nil)
 refine gK (fU ((F k).run X.A X.stack s' H' ⟨[.ref a,.ref lf],[]⟩ [.ref a,.ref lf] [.ref a,.ref lf] Q (E σ) hr I'.Bh (by have:=hb s' [.ref a,.ref lf] I'.kIn (by rw[hg2];rfl);simpa using this) r ⟨lf,_,rfl,la,st,qa⟩) fun r s'' hq=>?_)
 cases r with
 | error e=>exact hx pins σ H' s' e s'' I' hq
 | ok fl =>
  cases fl with
  | ret u=>exact I'.after hq
  | next=>exact False.elim hq
  | brk=>exact False.elim hq
  | cont=>exact False.elim hq
end
end
section
def pN (P:Program) (w:World) (a:Addr) (kvs:List (Key×V)) (D:Obj):Prop :=
 kvs.length<=sizeLine/\(a==sysModules)=false/\∃ vs,KV kvs vs/\∃ es ep,D.ExactDict/\D.data=.dict es ep/\KeysOf (aY P w) es/\Pairs (aY P w) es.toList vs/\(vs.map (·.1)).Nodup
theorem pN.ok (r:pN P w a kvs D) (g:h.get? a=some D):bH P w H h a (.dK kvs):=by
 obtain⟨z,hs,vs,rel,es,ep,e2,e3,e4,e5,e6⟩:=r
 exact⟨z,hs,vs,rel,D,es,ep,g,e2,e3,e4,e5,e6⟩
theorem pN.dict (r:pN P w a kvs D) (g:h.get? a=some D):∃ vs,KV kvs vs/\h.DictOf (aY P w) a vs:=by
 obtain⟨z,hs,vs,rel,es,ep,e2,e3,e4,e5,e6⟩:=r
 exact⟨vs,rel,D,es,ep,g,e2,e3,e4,e5,e6⟩
def Ith (a:Addr) (D:Obj) (kvs:List (Key×V)):It :=
 ⟨fun i H=>i<kvs.length/\H a=some (iL a D),fun i H v H'=>(∃ k x,kvs[i]?=some (k,x)/\v=kV k)/\H'=H,fun i H=>kvs.length<=i/\H a=some (iL a D)⟩
theorem sU (h:H1 a=some (iL a D)):(Ith a D kvs).Seq H1 (kvs.map fun kv=>kV kv.1):=fun H s =>
 ⟨fun i x e=>by
  rw[List.getElem?_map] at e
  obtain⟨⟨k,v⟩,hk,e2⟩:=fS.mp e
  have e2':kV k=x:=e2
  refine⟨⟨(bK.mp hk).1,s _ _ h⟩,fun y H' z=>?_⟩
  obtain⟨⟨k',v',h1,h2⟩,h3⟩:=z
  rw[hk] at h1
  cases h1
  exact⟨h3,h2.trans e2'⟩,fun i hi=>⟨by rw[List.length_map] at hi;exact hi,s _ _ h⟩⟩
theorem nv (I:Inv X pins σ H s) (h:H a=some (iL a D)):s.heap.get? a=some D:=(show bH X.prog X.w H s.heap a (iL a D) from I.hok a _ h).1
theorem xS {K:PySem.W.Frag}{tg:Expr} (D:Obj) (a it:Addr) (kvs:List (Key×V)) (es:Array DictEntry) (ep:Nat) (kr:pN P w a kvs D) (hd:D.data=.dict es ep) (hz:es.size=kvs.length) :
  Turn P w K tg (Ith a D kvs) [it] it (fun i h=>h.IsKeyIter it a i es.size ep) where
 mem:=by simp
 obj:=fun i h st b hb=>by
  obtain rfl:b=it:=by simpa using hb
  obtain⟨o,e1,e2,e3⟩:=st
  exact⟨o,e1,fun v z=>by rw[e3] at z;cases z⟩
 keep:=fun i h h' st k=>by
  obtain⟨o,e1,e2,e3⟩:=st
  exact⟨o,k it (by simp) o e1,e2,e3⟩
 item:=by
  intro X hP hw hK hc i pins s σ H E I hf st hg
  subst hP hw hK
  obtain⟨hi,hH⟩:=hg
  have g1:=nv I hH
  obtain⟨z,hs,vs,r,es',ep',f2,f3,f4,f5,f6⟩:=id kr
  rw[hd] at f3
  injection f3 with e1 e2
  subst e1
  obtain⟨⟨k1,x⟩,hk⟩:∃ p,kvs[i]?=some p:=⟨_,List.getElem?_eq_getElem hi⟩
  obtain⟨⟨k2,u⟩,hu,hke,ru⟩:∃ q:Key×Value,vs[i]?=some q/\k1=q.1/\RelV x q.2:=by
   obtain⟨q,h1,h2⟩:=BM r hk
   exact⟨q,h1,h2.1,h2.2⟩
  have hke:k1=k2:=hke
  subst hke
  have hi':i<es.size:=by omega
  have ek:kK k1 (es[i]'hi').key=true:=(f5.get? (e:=es[i]'hi') (by simp [hi']) hu).1
  refine CC (es:=es) st g1 hd hi' fun h' st' sb=>⟨_,rfl,?_⟩
  obtain⟨o',q1,q2,q3⟩:=id st'
  refine sG (s:={ s with heap:=h' }) q1 q2 q3 (by decide) ?_
  exact⟨kV k1,H,I.yQ (t':=s.toks) (ch:=[it]) hf (fun c o hc e=>(sb.2 c (by simpa using hc)).trans e),yH ek,⟨⟨k1,x,hk,rfl⟩,rfl⟩,st',fun b hb=>(hf b hb).1⟩
 done:=by
  intro X hP hw hK hc i pins s σ H E I hf st hg
  subst hP hw hK
  obtain⟨hi,hH⟩:=hg
  have g1:=nv I hH
  refine EO (I.ok.hd hc) st (by omega) g1 hd fun h' kk=>⟨rfl,I.yQ (t':=s.toks) (ch:=[it]) hf fun c o hc e=>?_⟩
  exact kk c o (by simpa using hc) e
 self:=fun _ _ _ _ _ st h=>wpAny_pyIter_keyiter st h
def BB (P:Program) (w:World) (te:TE):TI:=fun σ H R=>te σ H fun x H1=>∃ a kvs,x=.ref a/\H1 a=some (.dK kvs) ∧
 ∀ D H2,pN P w a kvs D->(∀ b o,b≠a->H1 b=some o->H2 b=some o)->H2 a=some (iL a D)->R (Ith a D kvs) H2
theorem yV {P:Program}{w:World}{te:TE}{σ:St}{H:Hp}{R:It->Hp->Prop}:BB P w te σ H R=te σ H fun x H1=>∃ a kvs,x=.ref a/\H1 a=some (.dK kvs) ∧
 ∀ D H2,pN P w a kvs D->(∀ b o,b≠a->H1 b=some o->H2 b=some o)->H2 a=some (iL a D)->R (Ith a D kvs) H2:=propext Iff.rfl
theorem vF {tg l:Expr}{tl:TE} (hP:X.prog=P) (hw:X.w=w) (hl:PE X l tl):PI X tg l (BB P w tl):=by
 subst hP hw
 intro pins s σ H R I h
 refine thn (hl pins s σ H _ I h) fun v s1 ⟨x,H1,I1,r1,q1⟩=>?_
 obtain⟨a,kvs,rfl,ha,q⟩:=q1
 cases r1
 obtain⟨z,hs,vs,rel,ob,es,ep,e1,e2,e3,e4,e5,e6⟩:=uV I1.hok ha
 have kr:pN X.prog X.w a kvs ob:=⟨z,hs,vs,rel,es,ep,e2,e3,e4,e5,e6⟩
 have I2:Inv X pins σ (upd H1 a (iL a ob)) s1:=I1.write (x:=a) (e:=a) (h':=s1.heap) (t':=s1.toks) (o:=iL a ob) (by rw[ha];exact True.intro) (.inl rfl) (fun _ _ _ e=>e) ⟨ob,e1⟩ (B9 e1)
 have hz:es.size=kvs.length:=by
  have h1:kvs.length=vs.length:=Paired.length rel
  have h2:=e5.length
  simp at h2
  omega
 refine CB hs e1 e2 e3 ?_
 refine⟨s1.heap.objs.size,[s1.heap.objs.size],_,_,_,rfl,I2.kept (t':=s1.toks) (fun b o e=>aH _ e),xS ob a _ kvs es ep kr e3 hz,⟨_,aZ _ rfl,rfl,rfl⟩,fun b hb=>?_,q ob _ kr (fun b o hb e=>by rw[ar hb];exact e) az⟩
 obtain rfl:b=s1.heap.objs.size:=by simpa using hb
 exact I2.qI (ai _) (I2.hok.fresh (ai _))
def CW (P:Program) (w:World) (td ty:TE):TE:=fun σ H Q=>td σ H fun x H1=>ty σ H1 fun y H2=>∃ a D kvs k v,x=.ref a/\H2 a=some (iL a D)/\pN P w a kvs D/\y=kV k/\cH kvs k=some v/\Q v H2
theorem AG {P:Program}{w:World}{td ty:TE}{σ:St}{H:Hp}{Q:VK}:CW P w td ty σ H Q=td σ H fun x H1=>ty σ H1 fun y H2=>∃ a D kvs k v,x=.ref a/\H2 a=some (iL a D)/\pN P w a kvs D/\y=kV k/\cH kvs k=some v/\Q v H2:=propext Iff.rfl
theorem vD {o i:Expr}{td ty:TE} (hP:X.prog=P) (hw:X.w=w) (ho:PE X o td) (hi:PE X i ty) (hs:Dn i:=by exact fun _ _=>rfl):PE X (.Subscript o i pos) (CW P w td ty):=by
 subst hP hw
 intro pins s σ H Q I h
 refine yK PySem.F.slot_dict_getitem.lookup hs (thn (ho pins s σ H _ I h) fun u s1 ⟨x,H1,I1,rx,q1⟩=>thn (hi pins s1 σ H1 _ I1 q1) fun iv s2 ⟨y,H2,I2,ry,a,D,kvs,k,v,ex,hH,kr,ey,l,q2⟩=>?_)
 subst ex ey
 obtain rfl:u=Value.ref a:=rx
 obtain⟨vs,rel,dd⟩:=kr.dict (nv I2 hH)
 obtain⟨w',hw,rw'⟩:=iX.some_of (v:=v) (o:=valueAt vs k) (by rw[←l];exact rel.val k)
 exact⟨dd.typeIs,wpAny_getItem_of (pq ry) dd.mapOf hw ⟨v,H2,I2.tok _,rw',q2⟩⟩
def De (P:Program) (w:World) (E:Ends):St->Hp->Prop:=fun σ' H3=>∃ a D kvs,H3 a=some (iL a D)/\pN P w a kvs D/\∀ H4,(∀ b u,b≠a->H3 b=some u->H4 b=some u)->H4 a=some (.dK kvs)->E.nx σ' H4
def CM (P:Program) (w:World) (t:TS):TS:=fun E σ H=>t { E with nx:=De P w E } σ H
theorem AM {P:Program}{w:World}{t:TS}{E:Ends}{σ:St}{H:Hp}:CM P w t E σ H=t { E with nx:=De P w E } σ H:=propext Iff.rfl
theorem sj {E:Ends}{σ':St}{H3:Hp}:De P w E σ' H3=(∃ a D kvs,H3 a=some (iL a D)/\pN P w a kvs D/\∀ H4,(∀ b u,b≠a->H3 b=some u->H4 b=some u)->H4 a=some (.dK kvs)->E.nx σ' H4):=propext Iff.rfl
theorem vJ {t:TS} (hP:X.prog=P) (hw:X.w=w) (h:PS X st t):PS X st (CM P w t):=by
 subst hP hw
 intro pins s σ H D I q
 refine thn (h pins s σ H _ I q) fun f s1 z=>?_
 cases f with
 | next =>
  obtain⟨σ1,H1,I1,a,o,kvs,e1,kr,k⟩:=z
  have g1:=nv I1 e1
  refine⟨σ1,upd H1 a (.dK kvs),?_,k _ (fun b u hb e=>by rw[ar hb];exact e) az⟩
  exact I1.write (x:=a) (e:=a) (h':=s1.heap) (t':=s1.toks) (o:=.dK kvs) (by rw[e1];exact True.intro) (.inl rfl) (fun _ _ _ e=>e) ⟨o,g1⟩ (kr.ok g1)
 | ret u=>exact z
 | brk=>exact z
 | cont=>exact z
end
section
def II (K:PySem.W.Frag):R2:=fun x y H Q=>∃ z,y=.str z/\((∃ i,x=.str i/\Q (.bl (decide (i=z))) H)∨((x=.non∨(∃ b,x=.bl b)∨(∃ i,x=.int i)∨∃ p xs,x=.ref p/\SqL K H p xs)/\Q (.bl false) H))
theorem DP {K:PySem.W.Frag}{x:V}{z:Str}{H:Hp}{Q:VK}:II K x (.str z) H Q=((∃ i,x=.str i/\Q (.bl (decide (i=z))) H)∨((x=.non∨(∃ b,x=.bl b)∨(∃ i,x=.int i)∨∃ p xs,x=.ref p/\SqL K H p xs)/\Q (.bl false) H)):=propext ⟨fun ⟨_,e,h⟩=>by cases e;exact h,fun h=>⟨z,rfl,h⟩⟩
theorem Hf (hK:X.K=K) (hu:X.A.units<cLine):OpR X (compareOp .Eq) (II K):=by
 subst hK
 intro pins s σ H x y v u Q I rx ry h
 obtain⟨z,rfl,h⟩:=h
 obtain⟨t,rfl⟩:=ry
 rcases h with ⟨i,rfl,q⟩ | ⟨h,q⟩
 ·obtain⟨t',rfl⟩:=rx
  exact SeqAt.RcAt.str_str i t' z t _ _ _ _ (b8 I q (by rw[mh];simp))
 ·rcases h with rfl | ⟨b,rfl⟩ | ⟨i,rfl⟩ | ⟨p,xs,rfl,hp⟩
  ·cases rx;exact SeqAt.RcAt.none_str z t _ _ _ _ (b8 I q rfl)
  ·cases rx;exact SeqAt.RcAt.bool_str b z t _ _ _ _ (b8 I q rfl)
  ·obtain⟨t',rfl⟩:=rx;exact SeqAt.RcAt.int_str i t' z t _ _ _ _ (b8 I q rfl)
  ·cases rx
   obtain⟨us,r1,p1,_⟩:=I.list hp
   exact SeqAt.RcAt.list_str z t p1.isList hu _ _ _ _ (b8 I q rfl)
end
end L2

namespace Kb
open PySem L2
variable {E:XK}{H:Hp}{K:PySem.W.Frag}{M:Int}{Q:VK}{a:Addr}{al:List Nat}{b:Int}{bar:Int->Bool}{cs:List V}{f:Addr}{fd:FuncData}{i:Nat}{key:List Key}{kvs:List (Key×V)}{l0:Int}{ls:List V}{m:Nat}{p:Addr}{r:Int}{str:Bool}{v:V}{vs:List V}{ws:List Int}{x:V}{xs:List V}{y:V}{α:Type}{κ:Type}
seal L2.PE L2.PA L2.PS L2.PSs L2.PT L2.PW L2.PG L2.PGs L2.PI L2.PO L2.Jo L2.PIf
def top (i:Nat):Stmt:=PySem.Challenge.pw_cablehouse_k36_changes_refused.main.body.getD i (.Pass ⟨0,0,0,0⟩)
abbrev mU:Stmt:=top 10
abbrev gi:Stmt:=top 11
abbrev mR:Stmt:=top 12
abbrev jg:Stmt:=top 15
abbrev mS:Stmt:=top 16
abbrev jf:Stmt:=top 17
abbrev fz:Stmt:=inClass (top 23) 0
abbrev kW:Stmt:=inClass (top 23) 4
abbrev jd:Stmt:=top 26
abbrev kX:Stmt:=top 27
abbrev mT:Stmt:=top 32
abbrev fw:Stmt:=inClass (top 33) 0
abbrev kU:Stmt:=inClass (top 33) 1
abbrev cy:Stmt:=inClass (top 33) 2
abbrev dU:Stmt:=inClass (top 33) 3
abbrev cp:Stmt:=inClass (top 33) 4
abbrev jc:Stmt:=inClass (top 33) 5
abbrev jb:Stmt:=inClass (top 33) 7
abbrev ir:Stmt:=inClass (top 33) 8
abbrev rB:Stmt:=top 37
abbrev cS:Stmt:=inClass (top 38) 0
abbrev bC:Stmt:=inClass (top 38) 1
abbrev fN:Stmt:=inClass (top 38) 2
abbrev gT:Stmt:=inClass (top 38) 3
abbrev eR:Stmt:=inClass (top 38) 4
abbrev dr:Stmt:=inClass (top 38) 5
abbrev eA:Stmt:=inClass (top 38) 6
abbrev dN:Stmt:=inClass (top 38) 7
abbrev jh:Stmt:=top 40
abbrev lb:Stmt:=top 42
abbrev kY:Stmt:=top 43
abbrev jo:Stmt:=top 44
abbrev gj:Stmt:=top 45
abbrev mY:Stmt:=top 46
abbrev mZ:Stmt:=top 47
abbrev mV:Stmt:=top 48
abbrev oW:Stmt:=top 49
abbrev mX:Stmt:=top 50
abbrev ji:Stmt:=top 51
abbrev kZ:Stmt:=top 52
abbrev oV:Stmt:=top 53
abbrev oX:Stmt:=top 54
abbrev jm:Stmt:=top 55
abbrev mW:Stmt:=top 56
abbrev jk:Stmt:=top 57
abbrev nK:Stmt:=top 58
structure Bl (mg:Str->Option Value):Prop where
 isinstance:mg "isinstance"=none
 bool:mg "bool"=none
 int:mg "int"=none
 abs:mg "abs"=none
 all:mg "all"=none
 zip:mg "zip"=none
 len:mg "len"=none
 set:mg "set"=none
 str:mg "str"=none
 list:mg "list"=none
 tuple:mg "tuple"=none
 sorted:mg "sorted"=none
 range:mg "range"=none
 min:mg "min"=none
 ValueError:mg "ValueError"=none
 max:mg "max"=none
structure Ads where
 Code:Addr
 Book:Addr
 Editions:Addr
 CableError:Addr
 NoCode:Addr
 NoNumber:Addr
 NoWord:Addr
 NoEntry:Addr
 Twice:Addr
 TooMany:Addr
 NoDay:Addr
 cd:Addr
 tb:Addr
 cd1:Addr
 tb1:Addr
 none:Unit:=()
def Ads.Bk (Ad:Ads):List Addr:=[Ad.NoCode,Ad.NoNumber,Ad.NoWord,Ad.NoEntry,Ad.Twice,Ad.TooMany,Ad.NoDay]
structure AdF (K:PySem.W.Frag) (mg:Str->Option Value) (Ad:Ads):Prop where
 g_Code:mg "Code"=some (.ref Ad.Code)
 g_Book:mg "Book"=some (.ref Ad.Book)
 g_Editions:mg "Editions"=some (.ref Ad.Editions)
 g_CableError:mg "CableError"=some (.ref Ad.CableError)
 g_NoCode:mg "NoCode"=some (.ref Ad.NoCode)
 g_NoNumber:mg "NoNumber"=some (.ref Ad.NoNumber)
 g_NoWord:mg "NoWord"=some (.ref Ad.NoWord)
 g_NoEntry:mg "NoEntry"=some (.ref Ad.NoEntry)
 g_Twice:mg "Twice"=some (.ref Ad.Twice)
 g_TooMany:mg "TooMany"=some (.ref Ad.TooMany)
 g_NoDay:mg "NoDay"=some (.ref Ad.NoDay)
 c_Code:Cls K Ad.Code
 n_Code_letters:dW K Ad.Code "letters"
 n_Code_factors:dW K Ad.Code "factors"
 n_Code_remainder:dW K Ad.Code "remainder"
 c_Book:Cls K Ad.Book
 n_Book_basis:dW K Ad.Book "basis"
 n_Book_by_number:dW K Ad.Book "by_number"
 n_Book_by_entry:dW K Ad.Book "by_entry"
 c_Editions:Cls K Ad.Editions
 n_Editions_current:dW K Ad.Editions "current"
 n_Editions_changes:dW K Ad.Editions "changes"
 n_Editions_struck:dW K Ad.Editions "struck"
 n_Editions_latest:dW K Ad.Editions "latest"
 q_NoCode:PySem.W.excIn K Ad.NoCode [.type "ValueError",.type "Exception",.type "BaseException",.type "object"] "ValueError.__new__"=true
 q_NoNumber:PySem.W.excIn K Ad.NoNumber [.type "ValueError",.type "Exception",.type "BaseException",.type "object"] "ValueError.__new__"=true
 q_NoWord:PySem.W.excIn K Ad.NoWord [.type "ValueError",.type "Exception",.type "BaseException",.type "object"] "ValueError.__new__"=true
 q_NoEntry:PySem.W.excIn K Ad.NoEntry [.type "ValueError",.type "Exception",.type "BaseException",.type "object"] "ValueError.__new__"=true
 q_Twice:PySem.W.excIn K Ad.Twice [.type "ValueError",.type "Exception",.type "BaseException",.type "object"] "ValueError.__new__"=true
 q_TooMany:PySem.W.excIn K Ad.TooMany [.type "ValueError",.type "Exception",.type "BaseException",.type "object"] "ValueError.__new__"=true
 q_NoDay:PySem.W.excIn K Ad.NoDay [.type "ValueError",.type "Exception",.type "BaseException",.type "object"] "ValueError.__new__"=true
 t_tab:PySem.W.codeHdIn K Ad.cd Ad.tb=true
 t_tab1:PySem.W.codeHdIn K Ad.cd1 Ad.tb1=true
 err:tU K Ad.CableError Ad.Bk=true
 nd:ndB Ad.Bk=true
 v_SMALL_LETTERS:∃ u,mg "SMALL_LETTERS"=some u/\RelV (.str "abcdefghijklmnopqrstuvwxyz") u
 v_LONGEST_WORD:∃ u,mg "LONGEST_WORD"=some u/\RelV (.int 20) u
 v_MOST_ENTRIES:∃ u,mg "MOST_ENTRIES"=some u/\RelV (.int 300) u
 v_MOST_PHRASE_WORDS:∃ u,mg "MOST_PHRASE_WORDS"=some u/\RelV (.int 6) u
 v_MOST_PART_LETTERS:∃ u,mg "MOST_PART_LETTERS"=some u/\RelV (.int 6) u
 v_LATEST_DAY:∃ u,mg "LATEST_DAY"=some u/\RelV (.int 1000000000) u
 v_DAYS_BARRED:∃ u,mg "DAYS_BARRED"=some u/\RelV (.int 31) u
section
variable {P:Program}{w:World}{K:PySem.W.Frag}{mg:Str->Option Value}{base:Heap}{Ad:Ads}
theorem aV {p q:Prop} (a:p) (b:q):p/\q:=⟨a,b⟩
noncomputable def zzV:=aV @FU<|aV @DB<|aV @D7<|aV @D6<|aV @AL<|aV @Gq<|aV @Gs<|aV @AI<|aV @Dy<|aV @FR<|aV @fE<|aV @Gu<|aV @Jt<|aV @Ig<|aV @Im<|aV @HY<|aV @Dt<|aV @FY<|aV @Ds<|aV @Gp<|aV @HZ<|aV @D8<|aV @Dx<|aV @DC<|aV @Js<|aV @FZ<|aV @FQ<|aV @Ih<|aV @Dr<|aV @Gm<|aV @D9<|aV @FW<|aV @FX<|aV @Gr<|aV @Dv<|aV @Ie<|aV @Il<|aV @yZ<|aV @DA<|aV @Dz<|aV @AJ<|aV @D5<|aV @FV<|aV @Gn<|aV @HX<|aV @FT<|aV @AD<|aV @Fm<|aV @Bo<|aV @Bp<|aV @DS<|aV @DT<|aV @DU<|aV @GA<|aV @DV<|aV @AK<|aV @Du<|aV @AE<|aV @zz<|aV @AH<|aV @Dw<|aV @CQ<|aV @wC<|aV @wD<|aV @wF<|aV @wW<|aV @wQ<|aV @uX<|aV @wN<|aV @wR<|aV @wG<|aV @zy<|aV @zw<|aV @sD<|aV @zx<|aV @zC<|aV @zD<|aV @zE<|aV @zA<|aV @zB<|aV @wJ<|aV @wK<|aV @wB<|aV @wM<|aV @wL<|aV @uZ<|aV @wU<|aV @wH<|aV @zF<|aV @uY<|aV @va<|aV @wO<|aV @wV<|aV @wI<|aV @w5<|aV @wA<|aV @DO<|aV @DR<|aV @DQ<|aV @DP<|aV @yX<|aV @yY<|aV @AB<|aV @yV<|aV @AG<|aV @AM<|aV @xY<|aV @yW<|aV @Bm<|@Bn
local macro_rules | `(tactic| and_intros) => `(tactic| try simp only [zzV, Cu, C7, mQ, Cy, Ends.un, fm, nw, Cw, isV, cz, i8, Tg.sub, Tg.name, rU, Cv, Option.join_some, Int.toNat_natCast, List.getElem?_cons_zero, List.getElem?_cons_succ, List.set_cons_zero, List.set_cons_succ, List.map_cons, List.map_nil, List.cons_append, List.nil_append, List.length_cons, List.length_nil, List.replicate_succ, List.replicate_zero, Nat.reduceAdd, Nat.reduceSub, Nat.zero_add, bne_self_eq_false, Bool.true_bne, Bool.false_bne, Bool.not_true, Bool.not_false, if_true, if_false, Bool.false_eq_true, Bool.true_eq_false, reduceIte])
local macro_rules | `(tactic| ac_nf) => `(tactic| (and_intros; repeat (simp only [fF]; and_intros)))
local macro_rules | `(tactic| bv_omega) => `(tactic| try simp only [Fm, Bo, Bp, Bool.not_false, Bool.not_true, if_true, if_false, Bool.false_eq_true, Bool.true_eq_false, true_and, and_true])
set_option hygiene false in
local macro_rules | `(tactic| bv_decide) => `(tactic| (intro vs H Q E h; first | (cases h; subst_vars; rfl) | repeat (first | (obtain ⟨rfl, _⟩ := h; rfl) | obtain ⟨_, h⟩ := h)))
set_option hygiene false in
local macro_rules | `(tactic| cbv) => `(tactic| (rw [hN]; clear hN nn))
set_option hygiene false in
local macro_rules | `(tactic| grind) => `(tactic| (refine cN fun nn hN => ?_; and_intros))
set_option hygiene false in
local macro_rules | `(tactic| bv_normalize) => `(tactic| (intro cdv A outer s H vs Q E hr h; have hu := hr.ft; have hu1 := iM hr))
local macro_rules | `(tactic| subst_eqs) => `(tactic| exact ⟨rfl, rfl, rfl, by decide +kernel, rfl, by decide +kernel, by decide +kernel⟩)
structure gO (al:List Nat) (ws:List Int) (r:Int):Prop where
 a3:3<=al.length
 a26:al.length<=26
 nd:al.Nodup
 abc:∀ c∈al,97<=c/\c<123
 w3:3<=ws.length
 w8:ws.length<=8
 wm:∀ x∈ws,0<=x/\x<(al.length:Int)
 safe:Mk.safe al.length ws=true
 rm:0<=r/\r<(al.length:Int)
def qz (al:List Nat) (q:Addr) (r:Int):List (Str×V):=[("letters",.str (tx al)),("factors",.ref q),("remainder",.int r)]
theorem rX (al:List Nat) (q:Addr) (r:Int):(qz al q r).lookup ("letters":Str)=some (V.str (tx al)):=rfl
theorem rW (al:List Nat) (q:Addr) (r:Int):(qz al q r).lookup ("factors":Str)=some (V.ref q):=rfl
theorem qA {m:Str} (h1:m≠("letters":Str)) (h2:m≠("factors":Str)) (h3:m≠("remainder":Str)) (al:List Nat) (q:Addr) (r:Int):(qz al q r).lookup m=none:=by
 unfold qz
 rw[cX,cX,cX,jP h1,jP h2,jP h3]
 rfl
def gd (Ad:Ads) (H:Hp) (a:Addr) (al:List Nat) (ws:List Int) (r:Int):Prop:=∃ dx q,H a=some (.ins Ad.Code dx (qz al q r))/\H q=some (.lst (ws.map V.int))
theorem gd.same {Ad:Ads}{H H':Hp} (h:gd Ad H a al ws r) (s:aq H H'):gd Ad H' a al ws r:=by
 obtain⟨dx,q,h1,h2⟩:=h
 exact⟨dx,q,s _ _ h1,s _ _ h2⟩
def Parts (H:Hp) (p:Addr) (q:Addr) (al:List Nat) (ws:List Int) (r:Int):Prop:=H p=some (.lst [.str (tx al),.ref q,.int r])/\H q=some (.lst (ws.map V.int))
def qB (H:Hp) (xa xw xr:V) (al:List Nat) (p:Addr) (ws:List Int) (r:Int):Prop:=xa=.str (tx al)/\xw=.ref p/\H p=some (.lst (ws.map V.int))/\xr=.int r/\gO al ws r
def DH (H:Hp) (xa xw xr:V):Prop:=∀ al p ws r,¬ qB H xa xw xr al p ws r


theorem p9 {α β:Type}{F:α->β->Prop}:∀ {a:List α}{b:List β}{c:List α}{d:List β},Paired F a b->Paired F c d->Paired F (a++c) (b++d)
 | _,_,_,_,.nil,h=>h
 | _,_,_,_,.cons r t,h=>.cons r (p9 t h)
theorem pA {α β:Type}{F G:α->β->Prop} (f:∀ x y,F x y->G x y):∀ {a:List α}{b:List β},Paired F a b->Paired G a b
 | _,_,.nil=>.nil
 | _,_,.cons r t=>.cons (f _ _ r) (pA f t)
theorem oE {l:List α}{v:α} (h:l.getLast?=some v):atI l (-1)=some v:=by
 have hne:l≠[]:=fun e=>by subst e;cases h
 have hl:=lH.mpr hne
 unfold atI ixN
 rw[if_neg (by decide),if_pos (by omega)]
 show l[_]?=some v
 rw[List.getLast?_eq_getElem?] at h
 rw[←h]
 congr 1
 omega
theorem qR {β γ:Type}{f:β->γ}{xs:List β}{v:γ} (h:(xs.map f)[i]?=some v):∃ x,xs[i]?=some x/\f x=v:=by
 rw[List.getElem?_map] at h
 exact fS.mp h
def eP (n:Nat) (l:List Nat):Bool:=decide (1<=l.length)&&decide (l.length<=n)&&l.all fun c=>decide (97<=c/\c<123)
def gq (n:Nat):V->Bool
 | .str z=>eP n z.cps.toList
 | _=>false
def m7 (n:Nat) (l:List Nat):Bool:=decide ((Mk.bQ 32 l).length<=n)&&(Mk.bQ 32 l).all (eP 20)
def iK (n:Nat):V->Bool
 | .str z=>m7 n z.cps.toList
 | _=>false
def dX:List V->Bool
 | [.str z]=>decide (z=("end":Str))
 | [.str z,y]=>if z=("phrase":Str) then iK 6 y else if z=("part":Str) then gq 6 y else false
 | _=>false
def dm (H:Hp):V->Bool
 | .ref p=>match H p with
  | some (.tup xs)=>dX xs
  | _=>false
 | _=>false
theorem za {n:Nat}{l:List Nat} (h1:1<=l.length) (h2:l.length<=n) (h3:∀ c∈l,97<=c/\c<123):eP n l=true:=by
 unfold eP
 rw[decide_eq_true h1,decide_eq_true h2,fR,fR,ck]
 exact fun c hc=>decide_eq_true (h3 c hc)
theorem zb {n:Nat}{ws:List (List Nat)} (h1:1<=ws.length) (h2:ws.length<=n) (h3:∀ w∈ws,1<=w.length/\w.length<=20/\∀ c∈w,97<=c/\c<123):m7 n (Mk.fv 32 ws)=true:=by
 unfold m7
 rw[Mk.lA ws (fun e=>by rw[e] at h1;simp at h1) fun w hw hc=>by have:=(h3 w hw).2.2 32 hc;omega,decide_eq_true h2,fR,ck]
 exact fun w hw=>za (h3 w hw).1 (h3 w hw).2.1 (h3 w hw).2.2
def qO:Str:="Book.put.<locals>.<lambda>"
structure Ben where
 num:Int
 key:List Key
 adr:Addr
def pj (ca dn de:Addr):List (Str×V):=[("basis",.ref ca),("by_number",.ref dn),("by_entry",.ref de)]
theorem kC (p q r:Addr):(pj p q r).lookup ("basis":Str)=some (V.ref p):=rfl
theorem gf (p q r:Addr):(pj p q r).lookup ("by_number":Str)=some (V.ref q):=rfl
theorem lW (p q r:Addr):(pj p q r).lookup ("by_entry":Str)=some (V.ref r):=rfl
theorem cI {m:Str} (h1:m≠("basis":Str)) (h2:m≠("by_number":Str)) (h3:m≠("by_entry":Str)) (p q r:Addr):(pj p q r).lookup m=none:=by
 unfold pj
 rw[cX,cX,cX,jP h1,jP h2,jP h3]
 rfl
def di (es:List Ben):List (Key×V):=(es.map fun e=>(e.num,V.ref e.adr)).map fun q=>(.inl q.1,q.2)
def k9 (es:List Ben):List (List Key×V):=es.map fun e=>(e.key,V.int e.num)
structure cQ (Ad:Ads) (H:Hp) (b ca dn de:Addr) (es:List Ben):Prop where
 bk:∃ dx,H b=some (.ins Ad.Book dx (pj ca dn de))
 hn:H dn=some (.dK (di es))
 he:H de=some (.dT (k9 es))
 en:∀ e∈es,H e.adr=some (.tup (e.key.map kV))
 nn:(es.map (·.num)).Nodup
 nk:(es.map (·.key)).Nodup
theorem cQ.same {Ad:Ads}{H H':Hp}{b ca dn de:Addr}{es:List Ben} (h:cQ Ad H b ca dn de es) (s:aq H H'):cQ Ad H' b ca dn de es:=by
 obtain⟨⟨dx,h1⟩,h2,h3,h4,h5,h6⟩:=h
 exact⟨⟨dx,s _ _ h1⟩,s _ _ h2,s _ _ h3,fun e he=>s _ _ (h4 e he),h5,h6⟩
theorem ql {α κ:Type} [DecidableEq κ] {f:α->κ}{g:α->V}:∀ {es:List α}{e:α},(es.map f).Nodup->e∈es->cH (es.map fun x=>(f x,g x)) (f e)=some (g e)
 | x::r,e,hn,he=>by
  obtain⟨h1,h2⟩:=c9.mp hn
  unfold cH
  rw[bz,gH]
  by_cases h:f x=f e
  ·rw[decide_eq_true h]
   rcases aD.mp he with rfl | he
   ·rfl
   ·exact absurd (eK (f:=f) he) (by rw[←h];exact h1)
  ·rw[decide_eq_false h]
   rcases aD.mp he with rfl | he
   ·exact absurd rfl h
   ·exact ql h2 he
theorem xW {α κ:Type} [DecidableEq κ] {f:α->κ}{g:α->V}{k:κ}:∀ {es:List α},k∉es.map f->cH (es.map fun x=>(f x,g x)) k=none
 | [],_=>rfl
 | x::r,h=>by
  rw[bz,aD,not_or] at h
  unfold cH
  rw[bz,gH,decide_eq_false (show ¬ f x=k from fun e=>h.1 e.symm)]
  exact xW h.2
theorem iN (es:List Ben):di es=es.map fun e=>(.inl e.num,V.ref e.adr):=by unfold di;rw[List.map_map];rfl
theorem GG {es:List Ben} (h:(es.map (·.num)).Nodup):(es.map fun e=>(.inl e.num:Key)).Nodup:=by
 have e:(es.map fun e=>(.inl e.num:Key))=(es.map (·.num)).map Sum.inl:=by rw[List.map_map];rfl
 rw[e]
 exact List.Pairwise.map _ (fun a b (h:a≠b) z=>h (Sum.inl.inj z)) h
theorem hO {es:List Ben}{e:Ben} (hn:(es.map (·.num)).Nodup) (he:e∈es):cH (di es) (.inl e.num)=some (.ref e.adr):=by
 rw[iN];exact ql (f:=fun e:Ben=>(.inl e.num:Key)) (GG hn) he
theorem ue {es:List Ben}{k:Int} (h:k∉es.map (·.num)):cH (di es) (.inl k)=none:=by
 rw[iN]
 refine xW (f:=fun e:Ben=>(.inl e.num:Key)) fun m=>h ?_
 obtain⟨e,he,ee⟩:=aC.mp m
 exact aC.mpr ⟨e,he,Sum.inl.inj ee⟩
theorem xo {es:List Ben}{k:Int} (hn:(es.map (·.num)).Nodup):(cH (di es) (.inl k)).isSome=decide (k∈es.map (·.num)):=by
 by_cases h:k∈es.map (·.num)
 ·obtain⟨e,he,rfl⟩:=aC.mp h
  rw[hO hn he,decide_eq_true h];rfl
 ·rw[ue h,decide_eq_false h];rfl
theorem yn {es:List Ben}{e:Ben} (hn:(es.map (·.key)).Nodup) (he:e∈es):cH (k9 es) e.key=some (.int e.num):=ql (f:=fun e:Ben=>e.key) hn he
theorem wu {es:List Ben}{k:List Key} (h:k∉es.map (·.key)):cH (k9 es) k=none:=xW (f:=fun e:Ben=>e.key) h
theorem qg [DecidableEq κ] {kvs:List (κ×V)}{k:κ} (h:cH kvs k=none):putK kvs k v=kvs++[(k,v)]:=by
 unfold putK
 rw[lD,h]
 rfl
theorem oP (es:List Ben) (e:Ben):di (es++[e])=di es++[(.inl e.num,.ref e.adr)]:=by unfold di;simp
theorem zu (es:List Ben) (e:Ben):k9 (es++[e])=k9 es++[(e.key,.int e.num)]:=by unfold k9;simp
theorem jy (es:List Ben):(di es).length=es.length:=by unfold di;simp
structure dI (key:List Key):Prop where
 is:dX (key.map kV)=true
 few:key.length<=2
 short:∀ z,V.str z∈key.map kV->z.length<=10000
def dP (al:List Nat) (ws:List Int):Int:=(al.length:Int)^(ws.length-1)
theorem ym {t:Addr} (ht:H t=some (.tup (key.map kV))) (ok:dI key):dm H (.ref t)=true:=by
 show (match H t with | some (.tup xs)=>dX xs | _=>false)=true
 rw[ht];exact ok.is
theorem AS {es:List Ben}{ns:List Int} (hp:ns.Perm ((es.map fun e=>(e.num,V.ref e.adr)).map (·.1))) (hs:ns.Pairwise (·<=·)) (hn:(es.map (·.num)).Nodup):∃ ms:List Ben,ms.Perm es/\ms.map (·.num)=ns/\(ms.map (·.num)).Pairwise (·<·):=by
 rw[List.map_map] at hp
 have p1:(es.mergeSort fun a b=>decide (a.num<=b.num)).Perm es:=List.mergeSort_perm _ _
 have p2:=List.pairwise_mergeSort (le:=fun a b:Ben=>decide (a.num<=b.num)) (fun a b c h1 h2=>by simp only[cZ] at *;omega) (fun a b=>by simp only[Bool.or_eq_true,cZ];omega) es
 generalize es.mergeSort (fun a b=>decide (a.num<=b.num))=ms at p1 p2
 have p3:(ms.map (·.num)).Pairwise (·<=·):=lL.mpr (List.Pairwise.imp (fun h=>by simpa using h) p2)
 have e:ms.map (·.num)=ns:=PySem.W.ksm_same ((p1.map _).trans hp.symm) p3 hs
 refine⟨ms,p1,e,?_⟩
 have nd:(ms.map (·.num)).Nodup:=(p1.map _).nodup_iff.mpr hn
 exact List.Pairwise.imp (fun {a b} (h:a<=b/\a≠b)=>by omega) (p3.and nd)
def Fh (H:Hp) (vs:List V) (tss:List (List V)):Prop:=Paired (fun v ts=>∃ p,v=V.ref p/\H p=some (.tup ts)) vs tss
theorem kR {α β γ:Type}{F:α->γ->Prop}{f:β->γ}:∀ {l₁:List α}{l₂:List β},Paired F l₁ (l₂.map f)->Paired (fun a b=>F a (f b)) l₁ l₂
 | [],[],_=>.nil
 | _::_,_::_,.cons r t=>.cons r (kR t)
theorem qd {J:It}{H1:Hp}{js:List Nat}{σ:St}{te:TE}{Q:VK} (hJ:J.Seq H1 xs) (hl:xs.length<sizeLine) (tss:List (List V)) (hn:tss.length=xs.length)
  (he:∀ (i:Nat) x ts,xs[i]?=some x->tss[i]?=some ts->∀ H,aq H1 H->∀ R:VK,(∀ p H',H p=none->aq H H'->H' p=some (.tup ts)->R (.ref p) H')->te (some x::js.map fun j=>(σ[j]?).join) H R)
  (q:∀ D vs H,H1 D=none->aq H1 H->H D=some (.lst vs)->Fh H vs tss->Q (.ref D) H):eZ (fZ 0) Ar te (fY 1 js σ) J H1 Q:=by
 intro D hD
 refine⟨fun i m ys σ1 H=>m=xs.length-i/\i<=xs.length/\(∃ o,σ1=o::js.map fun j=>(σ[j]?).join)/\ys.length=i/\Fh H ys (tss.take i)/\aq H1 H/\H D=some (.lst ys),
  ⟨xs.length,by simp,bh _,⟨none,rfl⟩,rfl,.nil,(aq.refl H1).fi hD,az⟩,?_⟩
 rintro i m ys σ1 H ⟨rfl,hi,⟨o,rfl⟩,hy,hg,sH,hL⟩
 refine⟨hL,by omega,?_⟩
 by_cases hlt:i<xs.length
 ·have e:xs[i]?=some xs[i]:=List.getElem?_eq_getElem hlt
  have e2:tss[i]?=some (tss[i]'(by omega)):=List.getElem?_eq_getElem _
  obtain⟨go,yl⟩:=(hJ H sH).1 i xs[i] e
  refine .inr ⟨go,fun x H' y=>?_⟩
  obtain⟨q1,q2⟩:=yl x H' y
  subst q1 q2
  show te (some xs[i]::js.map fun j=>(σ[j]?).join) H' _
  refine he i _ _ e e2 H' sH _ fun p H4 w4 s4 hp=>?_
  have hL4:=s4 _ _ hL
  have pD:p≠D:=(bw hL w4).symm
  refine⟨hL4,xs.length-(i+1),by omega,rfl,hlt,⟨_,rfl⟩,by rw[bb,hy];rfl,?_,(sH.trans s4).fi hD,az⟩
  rw[iE,e2]
  refine p9 (pA (fun v ts ⟨b,eb,hb⟩=>⟨b,eb,?_⟩) hg) (.cons ⟨p,rfl,by rw[ar pD];exact hp⟩ .nil)
  have h4:=s4 _ _ hb
  rw[ar (aE h4 hL4 (by intro z;cases z))];exact h4
 ·have e:i=xs.length:=by omega
  subst e
  rw[eL (by omega)] at hg
  exact .inl ⟨(hJ H sH).2 _ (ai _),q D ys H hD sH hL hg⟩
theorem GO (H:Hp) (z:Key):∃ t,cz H (kV z)=some t:=by
 cases z with
 | inl i=>exact⟨.int,rfl⟩
 | inr s=>exact⟨.str,rfl⟩
def Ay (H:Hp) (p:Addr):Prop:=∃ (ks:List Key),H p=some (.tup (ks.map kV))/\dX (ks.map kV)=true/\1<=ks.length/\ks.length<=2/\∀ z∈ks,∃ l:List Nat,z=.inr (tx l)/\l.length<=1000
theorem Ay.same {H H':Hp} (s:aq H H') (h:Ay H p):Ay H' p:=by
 obtain⟨ks,e1,e2⟩:=h
 exact⟨ks,s _ _ e1,e2⟩
theorem oM {f:Ben->α}{es:List Ben}{x e:Ben} (hn:(es.map f).Nodup) (hx:x∈es) (he:e∈es) (h:f x=f e):x=e:=by
 obtain⟨i,hi,rfl⟩:=List.getElem_of_mem hx
 obtain⟨j,hj,rfl⟩:=List.getElem_of_mem he
 have:=List.pairwise_iff_getElem.mp hn
 rcases Nat.lt_trichotomy i j with l | l | l
 ·exact absurd (by rw[List.getElem_map,List.getElem_map];exact h) (this i j (by rw[List.length_map];exact hi) (by rw[List.length_map];exact hj) l)
 ·subst l;rfl
 ·exact absurd (by rw[List.getElem_map,List.getElem_map];exact h.symm) (this j i (by rw[List.length_map];exact hj) (by rw[List.length_map];exact hi) l)
def xm (c:Int):Int:=(c%10^60*314159265358979323846264338327950288419716939937510582097494+27182818284590452353602874713527)%(10^60+7)
theorem n6 (c:Int):0<=xm c:=cO _ (by decide)
theorem AA:∀ i:Nat,i<26->(Str.ofString "abcdefghijklmnopqrstuvwxyz").cps.toList[i]?=some (97+i):=by decide +kernel
structure FO (H:Hp) (D:Addr) (es:List Ben):Prop where
 d:Rd H D (.dK (di es))
 en:∀ e∈es,H e.adr=some (.tup (e.key.map kV))
 nn:(es.map (·.num)).Nodup
theorem FO.same {H H':Hp}{D:Addr}{es:List Ben} (h:FO H D es) (s:aq H H'):FO H' D es:=⟨h.d.imp (s _ _) fun ⟨o,e⟩=>⟨o,s _ _ e⟩,fun e he=>s _ _ (h.en e he),h.nn⟩
def ny:Str:="Editions.put.<locals>.<lambda>"
def Bar (spf:Sp) (bar:Int->Bool) (H:Hp):Prop:=∀ (n:Int) (H':Hp) (Q:VK),aq H H'->(∀ H'',aq H' H''->Q (.bl (bar n)) H'')->spf [.int n] H' Q XF
theorem Bar.same {spf:Sp}{H H':Hp} (b:Bar spf bar H) (s:aq H H'):Bar spf bar H':=fun n G Q t k=>b n G Q (s.trans t) k
structure m5 (ns:List Int) (bar:Int->Bool) (n:Int):Prop where
 pos:0<=n
 out:n∉ns
 fr:bar n=false
 all:∀ m,0<=m->m<n->m∈ns∨bar m=true
def edF (b cl sd:Addr) (day:Int):List (Str×V):=[("current",.ref b),("changes",.ref cl),("struck",.ref sd),("latest",.int day)]
def pK:Sp:=fun vs H Q _=>∃ x t,vs=[x]/\cz H x=some t/\Q (.bl (decide (t=Tg.int))) H
theorem vR:aM ["thing"] ["thing"] (ak mU):=by subst_eqs
theorem vv (F:Fun K "is_whole" "is_whole" mU f fd) (T:Bl mg) (AF:AdF K mg Ad) :bI P w K mg base (CX1 P w) 1 f fd ["thing"] pK:=by
 refine F.okX (k:=0) vR ?_ ?_
 ·bv_decide
 ·bv_normalize
  obtain⟨x,t,rfl,ht,k⟩:=h
  refine⟨_,aj (aK (mL (ay (dS .int) T.isinstance bt_isinstance (ae (pvL 0) (ae (gR T.int Gw) (aa)))) (kS (Hw (ay (dS .bl) T.isinstance bt_isinstance (ae (pvL 0) (ae (gR T.bool DF) (aa)))))))),?_⟩
  ac_nf
  refine⟨trivial,t,ht,?_⟩
  cases t<;>(simp only[Tg.sub,if_true,eM,ku,reduceCtorEq];first | exact k | exact⟨trivial,_,ht,k⟩)
def iS:Sp:=fun vs H Q _=>∃ a b:Int,vs=[.int a,.int b]/\Q (.int ((Int.gcd a b:Nat):Int)) H
theorem cq:aM ["one","other","left","right","over"] ["one","other"] (ak gi):=by subst_eqs
theorem n8 (F:Fun K "common_divisor" "common_divisor" gi f fd) (T:Bl mg) (AF:AdF K mg Ad) :bI P w K mg base (CX1 P w) 1 f fd ["one","other"] iS:=by
 refine F.okX (k:=0) cq ?_ ?_
 ·bv_decide
 ·bv_normalize
  obtain⟨a,b,rfl,k⟩:=h
  refine⟨_,af (aA (i:=2) cq.nd (ay oH T.abs wo (ae (pvL 0) (aa)))) (af (aA (i:=3) cq.nd (ay oH T.abs wo (ae (pvL 1) (aa)))) (af (rz cm (aJ (fJ (K:=K) rfl hu) (pvL 3) (ag) (aL _)) (af (aA (i:=4) cq.nd (aw aW (pvL 2) (pvL 3))) (af (aA (i:=2) cq.nd (pvL 3)) (aj (aA (i:=3) cq.nd (pvL 4)))))) (aj (aK (pvL 2))))),?_⟩
  ac_nf
  refine uF (fun σ H'=>H'=H/\∃ (l r:Nat) (o:Option V),σ=[some (.int a),some (.int b),some (.int l),some (.int r),o]/\Nat.gcd l r=Int.gcd a b)
   (fun σ _=>match σ with | [_,_,_,some (.int r),_]=>r.toNat | _=>0) ⟨rfl,a.natAbs,b.natAbs,none,rfl,rfl⟩ ?_
  rintro σ H' ⟨rfl,l,r,o,rfl,hg⟩
  ac_nf
  by_cases hr0:r=0
  ·subst hr0
   rw[Nat.gcd_zero_right] at hg
   subst hg
   exact k
  ·have e:(!decide ((r:Int)=0))=true:=by simp [hr0]
   rw[if_pos e]
   refine⟨_,fun _ _ h=>h,by omega,⟨rfl,r,l%r,some (.int ((l%r:Nat):Int)),?_,?_⟩,?_⟩
   ·rw[Int.natCast_emod]
   ·rw[←hg,Nat.gcd_comm l r,Nat.gcd_rec r l,Nat.gcd_comm]
   ·show ((l:Int)%(r:Int)).toNat<((r:Int)).toNat
    have h1:(l:Int)%(r:Int)<r:=dD _ (by omega)
    have h2:0<=(l:Int)%(r:Int):=cO _ (by omega)
    omega
def fI (z:List Nat):Bool:=decide (3<=z.length)&&decide (z.length<=26)&&decide z.Nodup&&z.all fun c=>decide (97<=c/\c<123)
def gx:V->Bool
 | .str z=>fI z.cps.toList
 | _=>false
def lr:Sp:=fun vs H Q _=>∃ (x:V) (t:Tg),vs=[x]/\cz H x=some t/\(∀ z,x=.str z->z.length<=4000)/\∀ H',aq H H'->Q (.bl (gx x)) H'
theorem rG:aM ["thing"] ["thing"] (ak jg):=by subst_eqs
theorem rh (F:Fun K "is_alphabet" "is_alphabet" jg f fd) (T:Bl mg) (AF:AdF K mg Ad) :bI P w K mg base (CX1 P w) 1 f fd ["thing"] lr:=by
 refine F.okX (k:=0) rG ?_ ?_
 ·bv_decide
 ·bv_normalize
  obtain⟨x,t,rfl,ht,hz,k⟩:=h
  refine⟨_,af (bq ((my (cL (bW (ay (dS .str) T.isinstance bt_isinstance (ae (pvL 0) (ae (gR T.str oG) (aa)))))) (kh (cL (nJ ik ik (ag) (ay (bG (K:=K) rfl) T.len cB (ae (pvL 0) (aa))) (ag))))).pt) (aj (aK (e8))) (aI)) (aj (aK (mL (cn (bX (K:=K) rfl hu) (ay (wq (P:=P) (w:=w) rfl rfl) T.len cB (ae (ip (zo (P:=P) (w:=w) rfl rfl rfl) T.set Gy (ae (pvL 0) (aa))) (aa))) (ay (bG (K:=K) rfl) T.len cB (ae (pvL 0) (aa))) (aL _)) (kS (ay (jv (K:=K) rfl rfl) T.all qu (ae (nC ["sign"] rfl ⟨rfl,by decide +kernel,rfl,by decide +kernel⟩ (.nil) (by decide +kernel) (cP (K:=K) rfl (pvL 0)) (fun _ _ _ _=>aB (i:=0) (show (["sign"]:List Str).Nodup from by decide +kernel)) (fun _ _ _ _=>fh) (fun _ _ _ _=>cn (oS (K:=K) rfl hu1) (pvL 0) (gC AF.v_SMALL_LETTERS) (by kernel_rfl))) (aa))))))),?_⟩
  by_cases hs:∃ z,x=.str z
  ·obtain⟨z,rfl⟩:=hs
   cases ht
   have hl:=hz z rfl
   have hc:=gr z
   have ek:gx (.str z)=fI z.cps.toList:=rfl
   ac_nf
   refine⟨trivial,Tg.str,rfl,?_⟩
   ac_nf
   refine⟨aP (ao (by omega)),?_⟩
   by_cases h3:3<=z.length/\z.length<=26
   ·have d1:decide ((3:Int)<=(z.length:Int))=true:=decide_eq_true (by omega)
    have d2:decide ((z.length:Int)<=26)=true:=decide_eq_true (by omega)
    rw[d1]
    bv_omega
    rw[d2]
    bv_omega
    refine⟨by omega,fun p H1 hp s1 h1=>?_⟩
    refine⟨_,h1,aP (ao (by omega)),?_⟩
    by_cases hn:z.cps.toList.Nodup
    ·have e1:=(sQ z).mpr hn
     rw[e1,decide_eq_true rfl]
     bv_omega
     refine xh (fun c:Nat=>V.str ⟨#[c]⟩) BF (CN z) (ao (by omega)) (fun c=>.bl (decide (97<=c/\c<123))) ?_ ?_
     ·intro c hc H2 s2 R hR
      ac_nf
      rw[BE,lV]
      have e2:decide (c∈List.range' 97 26)=decide (97<=c/\c<123):=fV.mpr (by rw[List.mem_range'_1])
      rw[e2]
      exact hR H2 (aq.refl _)
     ·intro D H2 hD s2 h2
      refine⟨D,z.cps.toList.map fun c=>decide (97<=c/\c<123),rfl,.of (by rw[h2,List.map_map];rfl),?_⟩
      have e:(z.cps.toList.map fun c=>decide (97<=c/\c<123)).all id=gx (.str z):=by
       rw[ek]
       unfold fI
       rw[decide_eq_true (show 3<=z.cps.toList.length by omega),decide_eq_true (show z.cps.toList.length<=26 by omega),decide_eq_true hn,List.all_map];rfl
      rw[e]
      exact k H2 (s1.trans s2)
    ·have e1:decide (((cR (jt z) z.length).length:Int)=(z.length:Int))=false:=decide_eq_false fun e=>hn ((sQ z).mp (by omega))
     rw[e1]
     bv_omega
     have e:gx (.str z)=false:=by rw[ek];unfold fI;rw[decide_eq_false hn];simp
     rw[e] at k
     exact k H1 s1
   ·have e:gx (.str z)=false:=by
     rw[ek]
     unfold fI
     by_cases h4:3<=z.length
     ·rw[decide_eq_false (show ¬ z.cps.toList.length<=26 by omega)];simp
     ·rw[decide_eq_false (show ¬ 3<=z.cps.toList.length by omega)];simp
    rw[e] at k
    by_cases h4:3<=z.length
    ·have d1:decide ((3:Int)<=(z.length:Int))=true:=decide_eq_true (by omega)
     have d2:decide ((z.length:Int)<=26)=false:=decide_eq_false (by omega)
     rw[d1]
     bv_omega
     rw[d2]
     bv_omega
     exact k H (aq.refl _)
    ·have d1:decide ((3:Int)<=(z.length:Int))=false:=decide_eq_false (by omega)
     rw[d1]
     bv_omega
     exact k H (aq.refl _)
  ·have hv:gx x=false:=by
    cases x with
    | str z=>exact absurd ⟨z,rfl⟩ hs
    | _=>rfl
   have hne:=qk ht fun z e=>hs ⟨z,e⟩
   rw[hv] at k
   ac_nf
   refine⟨trivial,t,ht,?_⟩
   cases t<;>first
    | exact absurd rfl hne
    | exact k H (aq.refl _)
def km (Ad:Ads):Sp:=fun vs H Q _=>∃ (a:Addr) (al:List Nat) (ws:List Int) (r:Int),vs=[.ref a]/\gd Ad H a al ws r/\al.length<=26/\1<=ws.length/\ws.length<=8/\∀ H',aq H H'->Q (.int ((al.length:Int)^(ws.length-1))) H'
theorem hX:aM ["self","product","weight"] ["self"] (ak kW):=by subst_eqs
theorem ui (F:Fun K "many" "Code.many" kW f fd) (T:Bl mg) (AF:AdF K mg Ad) :bI P w K mg base (CX1 P w) 1 f fd ["self"] (km Ad):=by
 refine F.okX (k:=0) hX ?_ ?_
 ·bv_decide
 ·bv_normalize
  obtain⟨a,al,ws,r,rfl,⟨dx,q,h1,h2⟩,h26,hw1,hw8,k⟩:=h
  refine⟨_,af (aA (i:=1) hX.nd (ag)) (af (fM cm rfl (cP (K:=K) rfl (nE (yJ (K:=K) rfl) (bP (K:=K) rfl (pvL 0)) (nI (ag)) (uy))) (aB (i:=2) hX.nd) (aj (aA (i:=1) hX.nd (aw qe (pvL 1) (ay (bG (K:=K) rfl) T.len cB (ae (bP (K:=K) rfl (pvL 0)) (aa))))))) (aj (aK (pvL 1)))),?_⟩
  and_intros
  rw[fF]
  and_intros
  rw[fF]
  and_intros
  refine⟨_,dx,_,_,h1,AF.c_Code,AF.n_Code_factors,rW al q r,?_⟩
  and_intros
  refine⟨_,.of h2,fun p H1 hp s1 h3=>.inl ⟨⟨_,.of h3⟩,?_⟩⟩
  rw[show (1:Int)=((1:Nat):Int) from rfl,oI,←List.map_drop] at h3
  refine yq (xs:=(ws.drop 1).map V.int) (fun i σ H'=>H'=H1/\∃ o,σ=[some (.ref a),some (.int ((al.length:Int)^i)),o]) ?_ ?_ ?_ ?_
  ·exact⟨rfl,none,by simp⟩
  ·rintro i σ H' _ ⟨rfl,_⟩
   exact .of h3
  ·rintro i x σ H' hx ⟨rfl,o,rfl⟩
   have hi:i<ws.length-1:=by
    have:=(bK.mp hx).1
    rw[List.length_map,dE] at this
    exact this
   ac_nf
   refine⟨_,dx,_,_,s1 _ _ h1,AF.c_Code,AF.n_Code_letters,rX al q r,?_⟩
   ac_nf
   rw[fq]
   refine⟨aP (ao (by omega)),⟨?_,bB (show ((al.length:Int)).natAbs<1000 by omega) (by decide)⟩,trivial,some x,?_⟩
   ·have e:(((al.length:Int))^i).natAbs=al.length^i:=by rw[Int.natAbs_pow];rfl
    rw[e]
    refine dQ (Nat.pow_le_pow_left h26 i) (dQ (Nat.pow_le_pow_right (by decide) (show i<=8 by omega)) (by decide))
   ·rw[←Int.pow_succ]
  ·rintro σ H' ⟨rfl,o,rfl⟩
   rw[List.length_map,dE]
   ac_nf
   exact k _ s1
def iy:Sp:=fun vs H Q _=>∃ (x:V) (t:Tg) (n:Nat),vs=[x,.int n]/\cz H x=some t/\(∀ z,x=.str z->z.length<=100000)/\n<=1000/\∀ H',aq H H'->Q (.bl (gq n x)) H'
theorem rE:aM ["thing","most"] ["thing","most"] (ak jd):=by subst_eqs
theorem qZ (F:Fun K "are_letters" "are_letters" jd f fd) (T:Bl mg) (AF:AdF K mg Ad) :bI P w K mg base (CX1 P w) 1 f fd ["thing","most"] iy:=by
 refine F.okX (k:=0) rE ?_ ?_
 ·bv_decide
 ·bv_normalize
  obtain⟨x,t,n,rfl,ht,hz,hn,k⟩:=h
  refine⟨_,af (bq ((my (cL (bW (ay (dS .str) T.isinstance bt_isinstance (ae (pvL 0) (ae (gR T.str oG) (aa)))))) (kh (cL (nJ ik ik (ag) (ay (bG (K:=K) rfl) T.len cB (ae (pvL 0) (aa))) (pvL 1))))).pt) (aj (aK (e8))) (aI)) (aj (aK (ay (jv (K:=K) rfl rfl) T.all qu (ae (nC ["sign"] rfl ⟨rfl,by decide +kernel,rfl,by decide +kernel⟩ (.nil) (by decide +kernel) (cP (K:=K) rfl (pvL 0)) (fun _ _ _ _=>aB (i:=0) (show (["sign"]:List Str).Nodup from by decide +kernel)) (fun _ _ _ _=>fh) (fun _ _ _ _=>cn (oS (K:=K) rfl hu1) (pvL 0) (gC AF.v_SMALL_LETTERS) (by kernel_rfl))) (aa))))),?_⟩
  by_cases hs:∃ z,x=.str z
  ·obtain⟨z,rfl⟩:=hs
   cases ht
   have hl:=hz z rfl
   have hc:=gr z
   have ek:gq n (.str z)=eP n z.cps.toList:=rfl
   ac_nf
   refine⟨trivial,Tg.str,rfl,?_⟩
   ac_nf
   refine⟨aP (ao (by omega)),?_⟩
   by_cases h1:1<=z.length
   ·rw[decide_eq_true (show (1:Int)<=(z.length:Int) by omega)]
    bv_omega
    by_cases h2:z.length<=n
    ·rw[decide_eq_true (show (z.length:Int)<=(n:Int) by omega)]
     bv_omega
     refine xh (fun c:Nat=>V.str ⟨#[c]⟩) BF (CN z) (ao (by omega)) (fun c=>.bl (decide (97<=c/\c<123))) ?_ ?_
     ·intro c hc H2 s2 R hR
      ac_nf
      rw[BE,lV]
      have e2:decide (c∈List.range' 97 26)=decide (97<=c/\c<123):=fV.mpr (by rw[List.mem_range'_1])
      rw[e2]
      exact hR H2 (aq.refl _)
     ·intro D H2 hD s2 h2'
      refine⟨D,z.cps.toList.map fun c=>decide (97<=c/\c<123),rfl,.of (by rw[h2',List.map_map];rfl),?_⟩
      have e:(z.cps.toList.map fun c=>decide (97<=c/\c<123)).all id=gq n (.str z):=by
       rw[ek]
       unfold eP
       rw[decide_eq_true (show 1<=z.cps.toList.length by omega),decide_eq_true (show z.cps.toList.length<=n by omega),List.all_map];rfl
      rw[e]
      exact k H2 s2
    ·have e:gq n (.str z)=false:=by rw[ek];unfold eP;rw[decide_eq_false (show ¬ z.cps.toList.length<=n by omega)];simp
     rw[e] at k
     rw[decide_eq_false (show ¬ (z.length:Int)<=(n:Int) by omega)]
     bv_omega
     exact k H (aq.refl _)
   ·have e:gq n (.str z)=false:=by rw[ek];unfold eP;rw[decide_eq_false (show ¬ 1<=z.cps.toList.length by omega)];simp
    rw[e] at k
    rw[decide_eq_false (show ¬ (1:Int)<=(z.length:Int) by omega)]
    bv_omega
    exact k H (aq.refl _)
  ·have hv:gq n x=false:=by
    cases x with
    | str z=>exact absurd ⟨z,rfl⟩ hs
    | _=>rfl
   have hne:=qk ht fun z e=>hs ⟨z,e⟩
   rw[hv] at k
   ac_nf
   refine⟨trivial,t,ht,?_⟩
   cases t<;>first
    | exact absurd rfl hne
    | exact k H (aq.refl _)
def hZ (Ad:Ads):Sp:=fun vs H Q _=>∃ (b dx ca:Addr),vs=[.ref b,.ref ca]/\H b=some (.ins Ad.Book dx [])/\∀ dn de H',H dn=none->H de=none->dn≠de->dn≠b->de≠b->(∀ c u,c≠b->H c=some u->H' c=some u)->H' b=some (.ins Ad.Book dx (pj ca dn de))->H' dn=some (.dK [])->H' de=some (.dT [])->Q .non H'
theorem uA:aM ["self","code"] ["self","code"] (ak fw):=by subst_eqs
theorem ug (F:Fun K "__init__" "Book.__init__" fw f fd) (T:Bl mg) (AF:AdF K mg Ad) :bI P w K mg base (CX1 P w) 1 f fd ["self","code"] (hZ Ad):=by
 refine F.okX (k:=0) uA ?_ ?_
 ·bv_decide
 ·bv_normalize
  obtain⟨b,dx,ca,rfl,hb,k⟩:=h
  refine⟨_,af (fL (K:=K) rfl (pvL 0) (pvL 1)) (af (fL (K:=K) rfl (pvL 0) (j4)) (aj (fL (K:=K) rfl (pvL 0) (Ag)))),?_⟩
  ac_nf
  refine⟨_,_,_,hb,AF.c_Book,AF.n_Book_basis,by decide,fun p G1 z1 t1 g1=>?_⟩
  have np1:p≠b:=fun e=>by rw[e,az] at z1;cases z1
  have hb1:=t1 b _ az
  refine⟨_,_,_,hb1,AF.c_Book,AF.n_Book_by_number,dQ (ai 1) (by decide),fun p2 G2 z2 t2 g2=>?_⟩
  have np2:p2≠b:=fun e=>by rw[e,az] at z2;cases z2
  have hb2:=t2 b _ az
  have k1:∀ c u,c≠b->H c=some u->G1 c=some u:=fun c u hc h=>t1 c u (by rw[ar hc];exact h)
  have k2:∀ c u,c≠b->G1 c=some u->G2 c=some u:=fun c u hc h=>t2 c u (by rw[ar hc];exact h)
  have ne:p≠p2:=fun e=>by rw[←e,ar np1,g1] at z2;cases z2
  refine⟨_,_,_,hb2,AF.c_Book,AF.n_Book_by_entry,dQ (ai 2) (by decide),k p p2 _ ?_ ?_ ne np1 np2 (fun c u hc h=>by rw[ar hc];exact k2 c u hc (k1 c u hc h)) (by rw[az];rfl) (by rw[ar np1];exact k2 _ _ np1 g1) (by rw[ar np2];exact g2)⟩
  ·cases e:H p with
   | none=>rfl
   | some o=>rw[ar np1,e] at z1;cases z1
  ·cases e:H p2 with
   | none=>rfl
   | some o=>rw[ar np2,k1 p2 o np2 e] at z2;cases z2
inductive kl (Ad:Ads) (vs:List V) (H:Hp) (Q:VK) (E:XK):Prop
 | mk (b ca dn de:Addr) (es:List Ben) (q0:vs=[.ref b]) (q1:cQ Ad H b ca dn de es) (q2:Q (.ref ca) H):kl Ad vs H Q E
theorem u9:aM ["self"] ["self"] (ak kU):=by subst_eqs
theorem uf (F:Fun K "code" "Book.code" kU f fd) (T:Bl mg) (AF:AdF K mg Ad) :bI P w K mg base (CX1 P w) 1 f fd ["self"] (kl Ad):=by
 refine F.okX (k:=0) u9 ?_ (fun cdv A outer s H vs Q E hr h=>?_)
 ·bv_decide
 ·obtain⟨b,ca,dn,de,es,rfl,B,k⟩:=h
  obtain⟨dx,h1⟩:=B.bk
  have hu:=hr.ft
  have hu1:=iM hr
  refine⟨_,aj (aK (bP (K:=K) rfl (pvL 0))),?_⟩
  ac_nf
  exact⟨_,dx,_,_,h1,AF.c_Book,AF.n_Book_basis,kC ca dn de,k⟩
inductive gU (Ad:Ads) (vs:List V) (H:Hp) (Q:VK) (E:XK):Prop
 | mk (b ca dn de:Addr) (es:List Ben) (q0:vs=[.ref b]) (q1:cQ Ad H b ca dn de es) (q2:es.length<64) (q3:∀ D ws (ms:List Ben) H',H D=none->aq H H'->H' D=some (.lst ws)->ms.Perm es->(ms.map (·.num)).Pairwise (·<·)->Paired (fun v (m:Ben)=>∃ p,v=V.ref p/\H' p=some (.tup [.int m.num,.ref m.adr])) ws ms->Q (.ref D) H'):gU Ad vs H Q E
theorem pT:aM ["self"] ["self"] (ak ir):=by subst_eqs
theorem pQ (F:Fun K "entries" "Book.entries" ir f fd) (T:Bl mg) (AF:AdF K mg Ad) :bI P w K mg base (CX1 P w) 1 f fd ["self"] (gU Ad):=by
 refine F.okX (k:=0) pT ?_ (fun cdv A outer s H vs Q E hr h=>?_)
 ·bv_decide
 ·obtain⟨b,ca,dn,de,es,rfl,B,h64,k⟩:=h
  obtain⟨dx,h1⟩:=B.bk
  have hu:=hr.ft
  have hu1:=iM hr
  refine⟨_,aj (aK (nC ["number"] rfl ⟨rfl,by decide +kernel,rfl,by decide +kernel⟩ (.cons (j:=0) rfl (.inl (by kernel_rfl)) (.nil)) (by decide +kernel) (cP (K:=K) rfl (ay (mC rfl) T.sorted oF (ae (bP (K:=K) rfl (pvC 0)) (aa)))) (fun _ _ _ _=>aB (i:=0) (show (["number","self"]:List Str).Nodup from by decide +kernel)) (fun _ _ _ _=>fh) (fun _ _ _ _=>aS (ae (pvL 0) (ae (nA hu1 (bP (K:=K) rfl (pvC 1)) (pvL 0)) (aa)))))),?_⟩
  ac_nf
  refine⟨_,dx,_,_,h1,AF.c_Book,AF.n_Book_by_number,gf ca dn de,?_⟩
  ac_nf
  refine⟨es.map fun e:Ben=>(e.num,V.ref e.adr),.inl B.hn,by rw[List.length_map];exact h64,fun ns hp hs p G1 z1 t1 g1=>?_⟩
  ac_nf
  obtain⟨ms,mp,mn,ml⟩:=AS hp hs B.nn
  have nl:(ns.map V.int).length<sizeLine:=ao (by rw[List.length_map,hp.length_eq,List.length_map,List.length_map];omega)
  refine .inl ⟨⟨_,.of g1⟩,qd (jB (.of g1)) nl (ms.map fun m=>[V.int m.num,V.ref m.adr]) (by rw[List.length_map,List.length_map,←mn,List.length_map]) ?_ ?_⟩
  ·intro i x ts hx hts G2 t2 R hR
   rw[List.getElem?_map] at hx hts
   obtain⟨m,hm,rfl⟩:=fS.mp hts
   have:ns[i]?=some m.num:=by rw[←mn,List.getElem?_map,hm];rfl
   rw[this] at hx
   cases hx
   have B2:=B.same (t1.trans t2)
   obtain⟨dx2,h2⟩:=B2.bk
   ac_nf
   exact⟨_,dx2,_,_,h2,AF.c_Book,AF.n_Book_by_number,gf ca dn de,_,_,rfl,.inl ⟨_,.inl m.num,.inl B2.hn,rfl,(hO B2.nn (mp.mem_iff.mp (bp hm))).symm⟩,aP (ao (by decide)),fun p2 G3 z3 t3 g3=>hR p2 G3 z3 t3 g3⟩
  ·intro D ws G2 hD t2 g2 hT
   refine k D ws ms G2 (t1.free hD) (t1.trans t2) g2 mp ml (kR hT)
inductive eG (Ad:Ads) (vs:List V) (H:Hp) (Q:VK) (E:XK):Prop
 | mk (ed dx b cl sd:Addr) (l0:Int) (q0:vs=[.ref ed]) (q1:H ed=some (.ins Ad.Editions dx (edF b cl sd l0))) (q2:Q (.int l0) H):eG Ad vs H Q E
theorem lj:aM ["self"] ["self"] (ak eR):=by subst_eqs
theorem kO (F:Fun K "last_day" "Editions.last_day" eR f fd) (T:Bl mg) (AF:AdF K mg Ad) :bI P w K mg base (CX1 P w) 1 f fd ["self"] (eG Ad):=by
 refine F.okX (k:=0) lj ?_ ?_
 ·bv_decide
 ·bv_normalize
  obtain⟨ed,dx,b,cl,sd,l0,rfl,h1,k⟩:=h
  refine⟨_,aj (aK (bP (K:=K) rfl (pvL 0))),?_⟩
  and_intros
  exact⟨_,dx,_,_,h1,AF.c_Editions,AF.n_Editions_latest,rfl,k⟩
theorem vk {ks:List Key} (ok:dI ks):∃ us:List Str,ks=us.map Sum.inr/\ks.map kV=us.map V.str:=by
 have h:=ok.is
 cases ks with
 | nil=>cases h
 | cons a r =>
  cases a with
  | inl i=>cases h
  | inr z =>
   cases r with
   | nil=>exact⟨[z],rfl,rfl⟩
   | cons y r2 =>
    cases r2 with
    | cons _ _=>cases h
    | nil =>
     cases y with
     | inr y=>exact⟨[z,y],rfl,rfl⟩
     | inl i =>
      exfalso
      have h':(if z=("phrase":Str) then false else if z=("part":Str) then false else false)=true:=h
      split at h'
      ·cases h'
      ·split at h'<;>cases h'
theorem CS {us vs:List Str}:us.map (Sum.inr:Str->Key)=vs.map Sum.inr↔us=vs :=
 ⟨fun h=>(nZ fun x y e=>Sum.inr.inj e).mp h,fun h=>by rw[h]⟩
theorem qi {K:PySem.W.Frag}{p q:Addr}{ks ks':List Key} (h1:H p=some (.tup (ks.map kV))) (h2:H q=some (.tup (ks'.map kV))) (o1:dI ks) (o2:dI ks'):RcR K H 0 (.ref p) (.ref q) (decide (ks=ks'))/\EqR K H 1 (.ref p) (.ref q) (decide (ks=ks')):=by
 obtain⟨us,e1,f1⟩:=vk o1
 obtain⟨vs,e2,f2⟩:=vk o2
 have hd:decide (ks=ks')=decide (us=vs):=by rw[e1,e2,fV];exact CS
 rw[hd]
 rw[f1] at h1
 rw[f2] at h2
 refine⟨ER (.of h1) (.of h2),DN (.of h1) (.of h2) fun e=>?_⟩
 subst e
 rw[h1] at h2
 have:us.map V.str=vs.map V.str:=by injection h2 with h2;injection h2
 exact (nZ fun x y e=>V.str.inj e).mp this
abbrev Lk:=Int->Option (Int×List Key)
def rT (H:Hp) (kvs:List (Key×V)) (lk:Lk):Prop:=∀ n:Int,(cH kvs (.inl n)=none/\lk n=none)∨∃ (tp ad:Addr) (d:Int) (key:List Key),cH kvs (.inl n)=some (.ref tp)/\H tp=some (.tup [.int d,.ref ad])/\H ad=some (.tup (key.map kV))/\dI key/\lk n=some (d,key)
theorem rT.same {H H':Hp}{lk:Lk} (h:rT H kvs lk) (s:aq H H'):rT H' kvs lk:=fun n=>(h n).imp id fun ⟨tp,ad,d,key,h1,h2,h3,h4⟩=>⟨tp,ad,d,key,h1,s _ _ h2,s _ _ h3,h4⟩
def gw (lk:Lk) (day:Int) (key:List Key) (n:Int):Bool:=match lk n with
 | none=>false
 | some (d,k)=>!decide (k=key)&&decide (day-d<31)
theorem uJ {lk:Lk}{day d n:Int}{key k:List Key} (h:lk n=some (d,k)):gw lk day key n=(!decide (k=key)&&decide (day-d<31)):=by
 unfold gw
 rw[h]
theorem qp {lk:Lk}{day n:Int} (h:lk n=none):gw lk day key n=false:=by
 unfold gw
 rw[h]
structure Chg where
 day:Int
 num:Int
 ent:Option Addr
def ChP (H:Hp) (v:V) (c:Chg):Prop:=∃ p,v=V.ref p/\H p=some (.tup [.int c.day,.int c.num,c.ent.elim V.non V.ref])
theorem kD {H H':Hp}{ch:List Chg} (h:Paired (ChP H) cs ch) (s:∀ c xs,H c=some (.tup xs)->H' c=some (.tup xs)):Paired (ChP H') cs ch:=by
 induction h with
 | nil=>exact .nil
 | cons f _ ih=>obtain⟨p,e,q⟩:=f;exact .cons ⟨p,e,s _ _ q⟩ ih
theorem gA {α β:Type}{F:α->β->Prop}{a c:List α}{b d:List β} (h:Paired F a b) (h':Paired F c d):Paired F (a++c) (b++d):=by
 induction h with
 | nil=>exact h'
 | cons f _ ih=>exact .cons f ih
structure iW (Ad:Ads) (H:Hp) (ed b ca dn de cl sd:Addr) (es:List Ben) (lk:Lk) (day:Int) (m:Nat) (ch:List Chg):Prop where
 eF:∃ dx,H ed=some (.ins Ad.Editions dx (edF b cl sd day))
 bF:cQ Ad H b ca dn de es
 cF:∃ cs,H cl=some (.lst cs)/\cs.length<=m/\Paired (ChP H) cs ch
 sF:∃ kvs,H sd=some (.dK kvs)/\rT H kvs lk/\kvs.length<=m
 ne:dn≠sd
theorem iW.same {Ad:Ads}{H H':Hp}{ed b ca dn de cl sd:Addr}{es:List Ben}{lk:Lk}{day:Int}{m:Nat}{ch:List Chg} (h:iW Ad H ed b ca dn de cl sd es lk day m ch) (s:aq H H'):iW Ad H' ed b ca dn de cl sd es lk day m ch:=by
 obtain⟨⟨dx,h1⟩,h2,⟨cs,h3,h4,h4'⟩,⟨kvs,h5,h6,h7⟩,h8⟩:=h
 exact⟨⟨dx,s _ _ h1⟩,h2.same s,⟨cs,s _ _ h3,h4,kD h4' fun c xs e=>s _ _ e⟩,⟨kvs,s _ _ h5,h6.same s,h7⟩,h8⟩
theorem rT.past {H H':Hp}{lk:Lk} (h:rT H kvs lk) (s:∀ c xs,H c=some (.tup xs)->H' c=some (.tup xs)):rT H' kvs lk:=fun n=>(h n).imp id fun ⟨tp,ad,d,key,h1,h2,h3,h4⟩=>⟨tp,ad,d,key,h1,s _ _ h2,s _ _ h3,h4⟩
theorem Ir {Ad:Ads}{b ca dn de ed dx bx b' cl sd:Addr} (h:H b=some (.ins Ad.Book bx (pj ca dn de))) (h':H ed=some (.ins Ad.Editions dx (edF b' cl sd l0))):b≠ed:=fun e=>by
 rw[e,h'] at h
 injection h with h
 injection h with _ _ h
 have:=bu (fun l:List (Str×V)=>(l.head?.map (·.1))) h
 have:some ("current":Str)=some ("basis":Str):=this
 exact absurd this (by decide)
theorem cQ.past {Ad:Ads}{H H':Hp}{b ca dn de ed dx b' cl sd:Addr}{es:List Ben} (B:cQ Ad H b ca dn de es) (hed:H ed=some (.ins Ad.Editions dx (edF b' cl sd l0))) (hcl:H cl=some (.lst cs)) (k:∀ c o,c≠ed->c≠cl->H c=some o->H' c=some o):cQ Ad H' b ca dn de es:=by
 obtain⟨⟨bx,h1⟩,h2,h3,h4,h5,h6⟩:=B
 exact⟨⟨bx,k _ _ (Ir h1 hed) (aE h1 hcl (by intro z;cases z)) h1⟩,k _ _ (aE h2 hed (by intro z;cases z)) (aE h2 hcl (by intro z;cases z)) h2,k _ _ (aE h3 hed (by intro z;cases z)) (aE h3 hcl (by intro z;cases z)) h3,fun e he=>k _ _ (aE (h4 e he) hed (by intro z;cases z)) (aE (h4 e he) hcl (by intro z;cases z)) (h4 e he),h5,h6⟩
inductive ef (K:PySem.W.Frag) (Ad:Ads) (vs:List V) (H:Hp) (Q:VK) (E:XK):Prop
 | mk (ed dx b cl sd t:Addr) (l0 day n:Int) (kvs:List (Key×V)) (lk:Lk) (key:List Key) (q0:vs=[.ref ed,.int day,.ref t,.int n]) (q1:H ed=some (.ins Ad.Editions dx (edF b cl sd l0))) (q2:H sd=some (.dK kvs)) (q3:rT H kvs lk) (q4:H t=some (.tup (key.map kV))) (q5:dI key) (q6:∀ H',aq H H'->Q (.bl (gw lk day key n)) H'):ef K Ad vs H Q E
theorem gb:aM ["self","day","entry","number","lately"] ["self","day","entry","number"] (ak eA):=by subst_eqs
theorem kA (F:Fun K "is_barred" "Editions.is_barred" eA f fd) (T:Bl mg) (AF:AdF K mg Ad) :bI P w K mg base (CX1 P w) 1 f fd ["self","day","entry","number"] (ef K Ad):=by
 refine F.okX (k:=0) gb ?_ ?_
 ·bv_decide
 ·bv_normalize
  obtain⟨ed,dx,b,cl,sd,t,l0,day,n,kvs,lk,key,rfl,h1,h2,S,ht,eo,k⟩:=h
  have hu9:=hr.hu9
  refine⟨_,af (aA (i:=4) gb.nd (sR hu1 (bP (K:=K) rfl (pvL 0)) (pvL 3))) (aj (aK (mL (cn md (pvL 4) (cK) (aL _)) (mL (cn (mI (K:=K) rfl hu9) (aX (bO (K:=K) rfl) (pvL 4) (ag) (fun _ _=>rfl)) (pvL 2) (aL _)) (kS (cn oT (aw me (pvL 1) (aX (bO (K:=K) rfl) (pvL 4) (ag) (fun _ _=>rfl))) (gC AF.v_DAYS_BARRED) (aL _))))))),?_⟩
  grind
  refine⟨_,dx,_,_,h1,AF.c_Editions,AF.n_Editions_struck,rfl,sd,rfl,.inl ⟨_,.inl h2⟩,_,.inl ⟨_,.inl n,.inl h2,rfl,rfl⟩,?_⟩
  cbv
  rcases S n with ⟨e1,e2⟩ | ⟨tp,ad,d,key',e1,e2,e3,e4,e5⟩
  ·rw[e1]
   and_intros
   have:=k H (aq.refl _)
   unfold gw at this
   rw[e2] at this
   exact this
  ·rw[e1,show (some (V.ref tp)).getD V.non=V.ref tp from rfl]
   and_intros
   refine⟨_,_,.inr (.of e2),eQ (by decide) rfl,0,_,by decide,(qi e3 ht e4 eo).1,?_⟩
   have kk:=k H (aq.refl _)
   unfold gw at kk
   rw[e5] at kk
   have kk:Q (.bl (!decide (key'=key)&&decide (day-d<31))) H:=kk
   by_cases hk:key'=key
   ·rw[decide_eq_true hk] at kk ⊢
    rw[if_neg (by decide)]
    exact kk
   ·rw[decide_eq_false hk] at kk ⊢
    rw[if_pos (by decide)]
    and_intros
    refine⟨_,_,.inr (.of e2),eQ (by decide) rfl,?_⟩
    and_intros
    exact kk
inductive cw (Ad:Ads) (vs:List V) (H:Hp) (Q:VK) (E:XK):Prop
 | mk (ed dx b cl sd:Addr) (l0 d:Int) (y z:V) (cs:List V) (q0:vs=[.ref ed,.int d,y,z]) (q1:H ed=some (.ins Ad.Editions dx (edF b cl sd l0))) (q2:H cl=some (.lst cs)) (q3:cs.length<1000) (q4:∀ p H',H p=none->(∀ c o,c≠ed->c≠cl->H c=some o->H' c=some o)->H' ed=some (.ins Ad.Editions dx (edF b cl sd d))->H' p=some (.tup [.int d,y,z])->H' cl=some (.lst (cs++[.ref p]))->Q .non H'):cw Ad vs H Q E
theorem jA:aM ["self","day","number","entry"] ["self","day","number","entry"] (ak dN):=by subst_eqs
theorem jz (F:Fun K "note_change" "Editions.note_change" dN f fd) (T:Bl mg) (AF:AdF K mg Ad) :bI P w K mg base (CX1 P w) 1 f fd ["self","day","number","entry"] (cw Ad):=by
 refine F.okX (k:=0) jA ?_ ?_
 ·bv_decide
 ·bv_normalize
  obtain⟨ed,dx,b,cl,sd,l0,d,y,z,cs,rfl,h1,h2,hl,k⟩:=h
  refine⟨_,af (cW (iZ (K:=K) rfl oi om oq ic (bP (K:=K) rfl (pvL 0)) (ae (aS (ae (pvL 1) (ae (pvL 2) (ae (pvL 3) (aa))))) (aa)))) (aj (fL (K:=K) rfl (pvL 0) (pvL 1))),?_⟩
  grind
  refine⟨_,dx,_,_,h1,AF.c_Editions,AF.n_Editions_changes,rfl,?_,aP (ao (by decide)),fun p G1 hp t1 g1=>?_⟩
  ·exact .inl ⟨rfl,_,.of h2⟩
  refine⟨cl,cs,_,rfl,rfl,t1 _ _ h2,ao (by omega),?_⟩
  have nec:ed≠cl:=aE h1 h2 (by intro z;cases z)
  have npc:p≠cl:=fun e=>by rw[e,h2] at hp;cases hp
  have npe:p≠ed:=fun e=>by rw[e,h1] at hp;cases hp
  have k2:∀ c o,c≠cl->G1 c=some o->upd G1 cl (.lst (cs++[V.ref p])) c=some o:=fun c o hc e=>by rw[ar hc];exact e
  have g2:upd G1 cl (.lst (cs++[V.ref p])) cl=some (.lst (cs++[V.ref p])):=az
  generalize upd G1 cl (.lst (cs++[V.ref p]))=G2 at k2 g2
  cbv
  and_intros
  refine⟨_,dx,_,k2 _ _ nec (t1 _ _ h1),AF.c_Editions,AF.n_Editions_latest,by show 4<1000;decide,?_⟩
  exact k p _ hp (fun c o e1 e2 e=>by rw[ar e1];exact k2 c o e2 (t1 _ _ e)) az (by rw[ar npe];exact k2 _ _ npc g1) (by rw[ar nec.symm];exact g2)
def iz (K:PySem.W.Frag):Sp:=fun vs H Q _=>∃ (a:Addr) (ns:List Int) (k:Int),vs=[.ref a,.int k]/\SqL K H a (ns.map V.int)/\0<=k/\Q (.int (ns.getD k.toNat 0)) H
theorem rH:aM ["_law_script","_law_k"] ["_law_script","_law_k"] (ak jh):=by subst_eqs
theorem ri (F:Fun K "_law_cell_at" "_law_cell_at" jh f fd) (T:Bl mg) (AF:AdF K mg Ad) :bI P w K mg base (CX1 P w) 1 f fd ["_law_script","_law_k"] (iz K):=by
 refine F.okX (k:=0) rH ?_ ?_
 ·bv_decide
 ·bv_normalize
  obtain⟨a,ns,i,rfl,hS,hi,k⟩:=h
  refine⟨_,af (bq (aJ oT (pvL 1) (ay (bG (K:=K) rfl) T.len cB (ae (pvL 0) (aa))) (aL _)) (aj (aK (aX (bO (K:=K) rfl) (pvL 0) (pvL 1) (fun _ _=>rfl)))) (aI)) (aj (aK (ag))),?_⟩
  ac_nf
  refine⟨_,.inl hS,?_⟩
  rw[List.length_map]
  by_cases hlt:i<(ns.length:Int)
  ·rw[if_pos (decide_eq_true hlt)]
   refine⟨_,.int (ns.getD i.toNat 0),.inl hS,?_,k⟩
   have e:(ns.map V.int)[i.toNat]?=some (.int (ns.getD i.toNat 0)):=by
    rw[List.getElem?_map,List.getD_eq_getElem?_getD,List.getElem?_eq_getElem (by omega)];rfl
   have:=bt e
   rwa [Int.toNat_of_nonneg hi] at this
  ·rw[if_neg (by rw[cZ];exact hlt)]
   have e:ns.getD i.toNat 0=0:=by rw[List.getD_eq_getElem?_getD,List.getElem?_eq_none (by omega)];rfl
   rw[e] at k
   exact k
def ia:Sp:=fun vs H Q _=>∃ c:Int,vs=[.int c]/\Q (.int (xm c)) H
theorem nQ:aM ["_law_cell","_law_many_here"] ["_law_cell"] (ak lb):=by subst_eqs
theorem uo (F:Fun K "_law_mixed" "_law_mixed" lb f fd) (T:Bl mg) (AF:AdF K mg Ad) :bI P w K mg base (CX1 P w) 1 f fd ["_law_cell"] ia:=by
 refine F.okX (k:=0) nQ ?_ ?_
 ·bv_decide
 ·bv_normalize
  obtain⟨c,rfl,k⟩:=h
  refine⟨_,af (aA (i:=1) nQ.nd (ag)) (aj (aK (aw aW (aw aQ (aw qe (aw aW (pvL 0) (aw gu (ag) (ag))) (pvL 1)) (ag)) (aw aQ (aw gu (ag) (ag)) (ag))))),?_⟩
  ac_nf
  have h1:0<=c%10^60:=cO _ (by decide)
  have h2:c%10^60<10^60:=dD _ (by decide)
  refine⟨⟨by decide,by decide,by decide⟩,by decide,⟨?_,by decide⟩,⟨by decide,by decide,by decide⟩,by decide,k⟩
  have e:(c%10^Int.toNat 60)=c%10^60:=rfl
  rw[e]
  have h3:(10:Int)^60<=((2^1000:Nat):Int):=by decide
  omega
def nS:Sp:=fun vs H Q _=>∃ n m:Int,vs=[.int n,.int m]/\0<=m/\Q (.bl (Mk.cop m n)) H
theorem nO:aM ["_law_number","_law_m"] ["_law_number","_law_m"] (ak kY):=by subst_eqs
theorem uk (F:Fun K "_law_apart" "_law_apart" kY f fd) (T:Bl mg) (AF:AdF K mg Ad) :bI P w K mg base (CX1 P w) 1 f fd ["_law_number","_law_m"] nS:=by
 refine F.okX (k:=0) nO ?_ ?_
 ·bv_decide
 ·bv_normalize
  obtain⟨n,m,rfl,hm,k⟩:=h
  refine⟨_,af (rz cm (aJ (fJ (K:=K) rfl hu) (pvL 1) (ag) (aL _)) (aj (HB (i:=0) (j:=1) rfl nO.nd rfl rfl (by decide) rfl rfl (ae (pvL 1) (ae (aw aW (pvL 0) (pvL 1)) (aa))) rfl))) (aj (aK (cn (bX (K:=K) rfl hu) (ay oH T.abs wo (ae (pvL 0) (aa))) (ag) (aL _)))),?_⟩
  ac_nf
  refine uF (fun σ H'=>H'=H/\∃ (a b:Int),σ=[some (.int a),some (.int b)]/\0<=b/\Int.gcd a b=Int.gcd n m)
   (fun σ _=>match σ with | [_,some (.int b)]=>b.toNat | _=>0) ⟨rfl,n,m,rfl,hm,rfl⟩ ?_
  rintro σ H' ⟨rfl,a,b,rfl,hb,hg⟩
  ac_nf
  by_cases hb0:b=0
  ·subst hb0
   have e:decide ((a.natAbs:Int)=1)=Mk.cop m n:=by
    unfold Mk.cop
    rw[←hg,Int.gcd_zero]
    by_cases h:a.natAbs=1
    ·rw[decide_eq_true h];exact decide_eq_true (by omega)
    ·rw[decide_eq_false h];exact decide_eq_false (by omega)
   rw[←e] at k
   exact k
  ·have e:(!decide (b=0))=true:=by simp [hb0]
   rw[if_pos e]
   refine⟨_,fun _ _ h=>h,by omega,⟨rfl,b,a%b,rfl,cO _ hb0,?_⟩,?_⟩
   ·rw[Mk.Bz,hg]
   ·show (a%b).toNat<b.toNat
    have h1:a%b<b:=dD _ (by omega)
    have h2:0<=a%b:=cO _ hb0
    omega
inductive ly (vs:List V) (H:Hp) (Q:VK) (E:XK):Prop
 | mk (p q:Addr) (al:List Nat) (ws:List Int) (r:Int) (q0:vs=[.ref p]) (q1:Parts H p q al ws r) (q2:1<=ws.length) (q3:ws.length<=8) (q4:al.length<=26) (q5:∀ H',aq H H'->Q (.int (dP al ws)) H'):ly vs H Q E
theorem iR:aM ["_law_parts","_law_many_here","_law_weight"] ["_law_parts"] (ak mY):=by subst_eqs
theorem vz (F:Fun K "_law_many" "_law_many" mY f fd) (T:Bl mg) (AF:AdF K mg Ad) :bI P w K mg base (CX1 P w) 1 f fd ["_law_parts"] ly:=by
 refine F.okX (k:=0) iR ?_ ?_
 ·bv_decide
 ·bv_normalize
  obtain⟨p,q,al,ws,r,rfl,⟨h1,h2⟩,w1,w8,a26,k⟩:=h
  refine⟨_,af (aA (i:=1) iR.nd (ag)) (af (fM cm rfl (cP (K:=K) rfl (nE (yJ (K:=K) rfl) (aX (bO (K:=K) rfl) (pvL 0) (ag) (fun _ _=>rfl)) (nI (ag)) (uy))) (aB (i:=2) iR.nd) (aj (aA (i:=1) iR.nd (aw qe (pvL 1) (ay (bG (K:=K) rfl) T.len cB (ae (aX (bO (K:=K) rfl) (pvL 0) (ag) (fun _ _=>rfl)) (aa))))))) (aj (aK (pvL 1)))),?_⟩
  grind
  cbv
  grind
  refine⟨_,_,.l h1,bt (j:=1) rfl,_,.of h2,fun p1 H1 hp1 s1 g1=>?_⟩
  rw[show (1:Int)=((1:Nat):Int) from rfl,oI,←List.map_drop] at g1
  refine .inl ⟨⟨_,.of g1⟩,fH (xs:=(ws.drop 1).map V.int) (fun i σ G=>(∃ o2,σ=[some (V.ref p),some (V.int ((al.length:Int)^i)),o2])/\G=H1) ⟨⟨_,rfl⟩,rfl⟩ ?_ ?_ ?_⟩
  ·rintro i σ G _ ⟨_,rfl⟩
   exact .of g1
  ·rintro i v σ G hi ⟨⟨o2,rfl⟩,rfl⟩ N hNx
   clear hN
   have hil:=(bK.mp hi).1
   rw[List.length_map,dE] at hil
   and_intros
   refine⟨_,_,.l (s1 _ _ h1),bt (j:=0) rfl,?_⟩
   and_intros
   rw[fq]
   have hb:((al.length:Int)^i).natAbs<=26^8:=by
    have e1:((al.length:Int))^i=((al.length^i:Nat):Int):=by simp
    rw[e1,Int.natAbs_natCast]
    exact bA (Nat.pow_le_pow_left a26 _) (Nat.pow_le_pow_right (by decide) (by omega))
   refine⟨aP (ao (by omega)),⟨dQ hb (by decide),bB (show ((al.length:Int)).natAbs<1000 by omega) (by decide)⟩,hNx _ _ ⟨⟨some v,by rw[Int.pow_succ]⟩,rfl⟩⟩
  ·rintro σ G ⟨⟨o2,rfl⟩,rfl⟩
   show nn _ _ _
   cbv
   and_intros
   rw[List.length_map,dE]
   exact k _ s1
def mx (a b:Nat):List (List Key):=[[.inr ("end":Str)],[.inr ("part":Str),.inr (tx [a])],[.inr ("phrase":Str),.inr (tx [a])],[.inr ("part":Str),.inr (tx [b])],[.inr ("phrase":Str),.inr (tx [a,b])],[.inr ("part":Str),.inr (tx [a,b])],
 [.inr ("phrase":Str),.inr (tx [b,32,a])],[.inr ("phrase":Str),.inr (tx [b])],[.inr ("part":Str),.inr (tx [a,b,a,b,a,a])],[.inr ("phrase":Str),.inr (tx [a,32,b])],[.inr ("part":Str),.inr (tx [b,a])],
 [.inr ("phrase":Str),.inr (tx [a,b,32,a])],[.inr ("phrase":Str),.inr (tx [b,a])],[.inr ("phrase":Str),.inr (tx [a,32,a,b,32,b])]]
theorem Fe {x y:List Nat}:(tx x=tx y)=(x=y):=propext ⟨fun h=>by have:=bu (fun z:Str=>z.cps.toList) h;rwa [ni,ni] at this,fun h=>by rw[h]⟩
theorem EH {a b:Nat} (hab:a≠b) (a1:97<=a) (b1:97<=b):(mx a b).Nodup:=by
 have hba:b≠a:=hab.symm
 have a32:a≠32:=by omega
 have b32:b≠32:=by omega
 have a32':32≠a:=by omega
 have b32':32≠b:=by omega
 have e1:(("part":Str)=("phrase":Str))=False:=by decide
 have e2:(("phrase":Str)=("part":Str))=False:=by decide
 have e3:(("end":Str)=("phrase":Str))=False:=by decide
 unfold mx
 simp [Fe,hab,hba,a32,b32,a32',b32',e1,e2,e3]
theorem Ej {l:List Nat} (h1:1<=l.length) (h2:l.length<=6) (h:∀ c∈l,97<=c/\c<123):eP 6 l=true:=by
 unfold eP
 rw[decide_eq_true h1,decide_eq_true h2,fR,fR,ck]
 exact fun c hc=>decide_eq_true (h c hc)
theorem DM:dI [.inr ("end":Str)]:=⟨rfl,by decide,fun z hz=>by
 have:V.str z=V.str ("end":Str):=bc.mp hz
 cases this;decide⟩
theorem kF {l:List Nat} (h1:1<=l.length) (h2:l.length<=6) (h:∀ c∈l,97<=c/\c<123):dI [.inr ("part":Str),.inr (tx l)]:=⟨by
 show eP 6 (tx l).cps.toList=true
 rw[ni];exact Ej h1 h2 h,ai 2,fun z hz=>by
 have hz':V.str z∈[V.str ("part":Str),V.str (tx l)]:=hz
 rcases aD.mp hz' with e | e
 ·cases e;decide
 ·have e2:V.str z=V.str (tx l):=bc.mp e
  cases e2
  rw[fq];omega⟩
theorem gZ {ws:List (List Nat)} (h1:1<=ws.length) (h2:ws.length<=6) (h:∀ w∈ws,1<=w.length/\w.length<=20/\∀ c∈w,97<=c/\c<123) (h4:(Mk.fv 32 ws).length<=1000):dI [.inr ("phrase":Str),.inr (tx (Mk.fv 32 ws))]:=⟨by
 show m7 6 (tx (Mk.fv 32 ws)).cps.toList=true
 rw[ni];exact zb h1 h2 h,ai 2,fun z hz=>by
 have hz':V.str z∈[V.str ("phrase":Str),V.str (tx (Mk.fv 32 ws))]:=hz
 rcases aD.mp hz' with e | e
 ·cases e;decide
 ·have e2:V.str z=V.str (tx (Mk.fv 32 ws)):=bc.mp e
  cases e2
  rw[fq];omega⟩
theorem EF {a b:Nat} (a1:97<=a) (a2:a<123) (b1:97<=b) (b2:b<123):∀ key∈mx a b,dI key:=by
 have l1:∀ l:List Nat,(∀ c∈l,c=a∨c=b)->∀ c∈l,97<=c/\c<123:=fun l h c hc=>by rcases h c hc with rfl | rfl<;>exact⟨by omega,by omega⟩
 have w1:∀ l:List Nat,1<=l.length->l.length<=20->(∀ c∈l,c=a∨c=b)->1<=l.length/\l.length<=20/\∀ c∈l,97<=c/\c<123:=fun l h1 h2 h=>⟨h1,h2,l1 l h⟩
 have wa:=w1 [a] (by simp) (by simp) (by simp)
 have wb:=w1 [b] (by simp) (by simp) (by simp)
 have wab:=w1 [a,b] (by simp) (by simp) (by simp)
 have wba:=w1 [b,a] (by simp) (by simp) (by simp)
 intro key hk
 unfold mx at hk
 simp only[aD,bM,bN] at hk
 rcases hk with rfl | rfl | rfl | rfl | rfl | rfl | rfl | rfl | rfl | rfl | rfl | rfl | rfl | rfl
 ·exact DM
 ·exact kF (by simp) (by simp) wa.2.2
 ·exact gZ (ws:=[[a]]) (by simp) (by simp) (by simpa using wa) (by simp [Mk.fv])
 ·exact kF (by simp) (by simp) wb.2.2
 ·exact gZ (ws:=[[a,b]]) (by simp) (by simp) (by simpa using wab) (by simp [Mk.fv])
 ·exact kF (by simp) (by simp) wab.2.2
 ·exact gZ (ws:=[[b],[a]]) (by simp) (by simp) (fun w hw=>by rcases aD.mp hw with rfl | hw;exact wb;rw[bc.mp hw];exact wa) (by simp [Mk.fv])
 ·exact gZ (ws:=[[b]]) (by simp) (by simp) (by simpa using wb) (by simp [Mk.fv])
 ·exact kF (by simp) (by simp) (l1 _ (by simp))
 ·exact gZ (ws:=[[a],[b]]) (by simp) (by simp) (fun w hw=>by rcases aD.mp hw with rfl | hw;exact wa;rw[bc.mp hw];exact wb) (by simp [Mk.fv])
 ·exact kF (by simp) (by simp) wba.2.2
 ·exact gZ (ws:=[[a,b],[a]]) (by simp) (by simp) (fun w hw=>by rcases aD.mp hw with rfl | hw;exact wab;rw[bc.mp hw];exact wa) (by simp [Mk.fv])
 ·exact gZ (ws:=[[b,a]]) (by simp) (by simp) (by simpa using wba) (by simp [Mk.fv])
 ·exact gZ (ws:=[[a],[a,b],[b]]) (by simp) (by simp) (fun w hw=>by rcases aD.mp hw with rfl | hw;exact wa;rcases aD.mp hw with rfl | hw;exact wab;rw[bc.mp hw];exact wb) (by simp [Mk.fv])
theorem gh {H H':Hp}{us:List Addr}{ls:List (List Key)} (s:aq H H') (h:Paired (fun (t:Addr) (key:List Key)=>H t=some (.tup (key.map kV))) us ls):Paired (fun (t:Addr) (key:List Key)=>H' t=some (.tup (key.map kV))) us ls:=by
 induction h with
 | nil=>exact .nil
 | cons f _ ih=>exact .cons (s _ _ f) ih
def FP (H:Hp) (D:Addr) (a b:Nat):Prop:=∃ ts:List Addr,H D=some (.lst (ts.map V.ref))/\Paired (fun (t:Addr) (key:List Key)=>H t=some (.tup (key.map kV))) ts (mx a b)
def pM:Sp:=fun vs H Q _=>∃ y:Int,vs=[.int y]/\0<=y/\∀ D a b H',aq H H'->97<=a->a<123->97<=b->b<123->a≠b->FP H' D a b->Q (.ref D) H'
theorem eD:aM ["_law_cell","_law_letters","_law_a","_law_b","_law_some"] ["_law_cell"] (ak mZ):=by subst_eqs
theorem v8 (F:Fun K "_law_pool" "_law_pool" mZ f fd) (T:Bl mg) (AF:AdF K mg Ad) :bI P w K mg base (CX1 P w) 1 f fd ["_law_cell"] pM:=by
 refine F.okX (k:=0) eD ?_ ?_
 ·bv_decide
 ·bv_normalize
  obtain⟨y,rfl,y0,k⟩:=h
  refine⟨_,af (aA (i:=1) eD.nd (av)) (af (aA (i:=2) eD.nd (aX (bO (K:=K) rfl) (pvL 1) (aw aW (pvL 0) (ag)) (fun _ _=>rfl))) (af (aA (i:=3) eD.nd (aX (bO (K:=K) rfl) (pvL 1) (aw aW (aw aQ (aw aQ (pvL 0) (ag)) (aw aW (aw bo (pvL 0) (ag)) (ag))) (ag)) (fun _ _=>rfl))) (af (aA (i:=4) eD.nd (aN (ae (aS (ae (av) (aa))) (ae (aS (ae (av) (ae (pvL 2) (aa)))) (ae (aS (ae (av) (ae (pvL 2) (aa)))) (ae (aS (ae (av) (ae (pvL 3) (aa)))) (ae (aS (ae (av) (ae (aw aQ (pvL 2) (pvL 3)) (aa)))) (ae (aS (ae (av) (ae (aw aQ (pvL 2) (pvL 3)) (aa)))) (aa))))))))) (af (aA (i:=4) eD.nd (aw aQ (pvL 4) (aN (ae (aS (ae (av) (ae (aw aQ (aw aQ (pvL 3) (av)) (pvL 2)) (aa)))) (ae (aS (ae (av) (ae (pvL 3) (aa)))) (aa)))))) (af (aA (i:=4) eD.nd (aw aQ (pvL 4) (aN (ae (aS (ae (av) (ae (aw aQ (aw aQ (aw aQ (aw aQ (aw aQ (pvL 2) (pvL 3)) (pvL 2)) (pvL 3)) (pvL 2)) (pvL 2)) (aa)))) (ae (aS (ae (av) (ae (aw aQ (aw aQ (pvL 2) (av)) (pvL 3)) (aa)))) (ae (aS (ae (av) (ae (aw aQ (pvL 3) (pvL 2)) (aa)))) (aa))))))) (aj (aK (aw aQ (pvL 4) (aN (ae (aS (ae (av) (ae (aw aQ (aw aQ (aw aQ (pvL 2) (pvL 3)) (av)) (pvL 2)) (aa)))) (ae (aS (ae (av) (ae (aw aQ (pvL 3) (pvL 2)) (aa)))) (ae (aS (ae (av) (ae (aw aQ (aw aQ (aw aQ (aw aQ (aw aQ (pvL 2) (av)) (pvL 2)) (pvL 3)) (av)) (pvL 3)) (aa)))) (aa))))))))))))),?_⟩
  have big:∀ {u:Nat},u<=1000->u<=sizeLine:=fun hu=>aP (ao (by omega))
  grind
  cbv
  grind
  have ya:=cO y (show (26:Int)≠0 by decide)
  have yb:=dD y (show (0:Int)<26 by decide)
  refine⟨by decide,big (by decide),97+(y%26).toNat,eQ ya (AA _ (by omega)),?_⟩
  cbv
  grind
  have y2a:=cO (y+1+y/26%25) (show (26:Int)≠0 by decide)
  have y2b:=dD (y+1+y/26%25) (show (0:Int)<26 by decide)
  refine⟨⟨by decide,by decide⟩,by decide,by decide,big (by decide),97+((y+1+y/26%25)%26).toNat,eQ y2a (AA _ (by omega)),?_⟩
  have hab:97+(y%26).toNat≠97+((y+1+y/26%25)%26).toNat:=by omega
  have a1:97<=97+(y%26).toNat/\97+(y%26).toNat<123:=by omega
  have b1:97<=97+((y+1+y/26%25)%26).toNat/\97+((y+1+y/26%25)%26).toNat<123:=by omega
  generalize 97+(y%26).toNat=a at hab a1
  generalize 97+((y+1+y/26%25)%26).toNat=b at hab b1
  clear ya yb y2a y2b
  have e32:Str.ofString " "=tx [32]:=rfl
  rw[show (⟨#[a]⟩:Str)=tx [a] from rfl,show (⟨#[b]⟩:Str)=tx [b] from rfl]
  cbv
  grind
  simp only[e32,pe,fq,eT,eX,br,eU]
  repeat refine⟨big (by decide),?_⟩
  intro t0 G0 _ s0 g0
  repeat refine⟨big (by decide),?_⟩
  intro t1 G1 _ s1 g1
  repeat refine⟨big (by decide),?_⟩
  intro t2 G2 _ s2 g2
  repeat refine⟨big (by decide),?_⟩
  intro t3 G3 _ s3 g3
  repeat refine⟨big (by decide),?_⟩
  intro t4 G4 _ s4 g4
  repeat refine⟨big (by decide),?_⟩
  intro t5 G5 _ s5 g5
  repeat refine⟨big (by decide),?_⟩
  intro D0 H0 _ r0 q0
  cbv
  grind
  simp only[e32,pe,fq,eT,eX,br,eU]
  repeat refine⟨big (by decide),?_⟩
  intro t6 G6 _ s6 g6
  repeat refine⟨big (by decide),?_⟩
  intro t7 G7 _ s7 g7
  repeat refine⟨big (by decide),?_⟩
  intro M1 K1 _ u1 v1
  have q1:=(s6.trans (s7.trans u1)) _ _ q0
  refine⟨_,_,q1,v1,big (by simp),fun D1 H1 _ r1 w1=>?_⟩
  simp only[eT,eX] at w1
  cbv
  grind
  simp only[e32,pe,fq,eT,eX,br,eU]
  repeat refine⟨big (by decide),?_⟩
  intro t8 G8 _ s8 g8
  repeat refine⟨big (by decide),?_⟩
  intro t9 G9 _ s9 g9
  repeat refine⟨big (by decide),?_⟩
  intro t10 G10 _ s10 g10
  repeat refine⟨big (by decide),?_⟩
  intro M2 K2 _ u2 v2
  have q2:=(s8.trans (s9.trans (s10.trans u2))) _ _ w1
  refine⟨_,_,q2,v2,big (by simp),fun D2 H2 _ r2 w2=>?_⟩
  simp only[eT,eX] at w2
  cbv
  and_intros
  simp only[e32,pe,fq,eT,eX,br,eU]
  repeat refine⟨big (by decide),?_⟩
  intro t11 G11 _ s11 g11
  repeat refine⟨big (by decide),?_⟩
  intro t12 G12 _ s12 g12
  repeat refine⟨big (by decide),?_⟩
  intro t13 G13 _ s13 g13
  repeat refine⟨big (by decide),?_⟩
  intro M3 K3 _ u3 v3
  have q3:=(s11.trans (s12.trans (s13.trans u3))) _ _ w2
  refine⟨_,_,q3,v3,big (by simp),fun D3 H3 _ r3 w3=>?_⟩
  simp only[eT,eX] at w3
  have z13:=u3.trans r3
  have z12:=s13.trans z13
  have z11:=s12.trans z12
  have zH2:=s11.trans z11
  have z10:=u2.trans (r2.trans zH2)
  have z9:=s10.trans z10
  have z8:=s9.trans z9
  have zH1:=s8.trans z8
  have z7:=u1.trans (r1.trans zH1)
  have z6:=s7.trans z7
  have z5:=r0.trans (s6.trans z6)
  have z4:=s5.trans z5
  have z3:=s4.trans z4
  have z2:=s3.trans z3
  have z1:=s2.trans z2
  have z0:=s1.trans z1
  refine k D3 a b H3 (s0.trans z0) a1.1 a1.2 b1.1 b1.2 hab ⟨[t0,t1,t2,t3,t4,t5,t6,t7,t8,t9,t10,t11,t12,t13],w3,?_⟩
  exact .cons (z0 _ _ g0) (.cons (z1 _ _ g1) (.cons (z2 _ _ g2) (.cons (z3 _ _ g3) (.cons (z4 _ _ g4) (.cons (z5 _ _ g5) (.cons (z6 _ _ g6) (.cons (z7 _ _ g7) (.cons (z8 _ _ g8) (.cons (z9 _ _ g9) (.cons (z10 _ _ g10) (.cons (z11 _ _ g11) (.cons (z12 _ _ g12) (.cons (z13 _ _ g13) .nil)))))))))))))
structure Lge where
 day:Int
 str:Bool
 adr:Addr
 num:Int
 key:List Key
def LgP (H:Hp) (v:V) (l:Lge):Prop:=∃ p,v=V.ref p/\H p=some (.tup [.int l.day,.str (if l.str then ("strike":Str) else ("put":Str)),.ref l.adr,.int l.num])
theorem nz {H H':Hp}{gs:List Lge} (h:Paired (LgP H) ls gs) (s:∀ c xs,H c=some (.tup xs)->H' c=some (.tup xs)):Paired (LgP H') ls gs:=by
 induction h with
 | nil=>exact .nil
 | cons f _ ih=>obtain⟨p,e,q⟩:=f;exact .cons ⟨p,e,s _ _ q⟩ ih
def eS (l:Lge):Chg:=⟨l.day,l.num,if l.str then none else some l.adr⟩
def eI (es:List Ben) (l:Lge):List Ben:=if l.str then es.filter fun x=>decide (x.num≠l.num) else es++[⟨l.num,l.key,l.adr⟩]
def fD (gs:List Lge):List Ben:=gs.foldl eI []
inductive iJ:List Lge->Prop
 | nil:iJ []
 | snoc {gs:List Lge}{l:Lge} (h:iJ gs) (hs:l.str=true->l.num∈(fD gs).map (·.num)) (hp:l.str=false->l.num∉(fD gs).map (·.num)/\l.key∉(fD gs).map (·.key)):iJ (gs++[l])
theorem j9 (gs:List Lge) (l:Lge):fD (gs++[l])=eI (fD gs) l:=by unfold fD;rw[List.foldl_append];rfl
theorem iJ.take {gs:List Lge} (h:iJ gs):∀ n,iJ (gs.take n):=by
 induction h with
 | nil=>intro n;rw[List.take_nil];exact .nil
 | @snoc gs l h hs hp ih =>
  intro n
  by_cases hn:n<=gs.length
  ·rw[List.take_append_of_le_length hn];exact ih n
  ·rw[eL (by rw[bb];show gs.length+1<=n;omega)]
   exact .snoc h hs hp
theorem iJ.nn {gs:List Lge} (h:iJ gs):((fD gs).map (·.num)).Nodup/\((fD gs).map (·.key)).Nodup:=by
 induction h with
 | nil=>exact⟨.nil,.nil⟩
 | @snoc gs l h hs hp ih =>
  rw[j9]
  unfold eI
  cases hl:l.str with
  | true =>
   rw[if_pos rfl]
   exact⟨jD (jE _ jI) ih.1,jD (jE _ jI) ih.2⟩
  | false =>
   rw[if_neg (by decide),b9,b9]
   exact⟨kb ih.1 (hp hl).1,kb ih.2 (hp hl).2⟩
structure StA (H:Hp) (st nw sk lg:Addr) (es:List Ben) (lk:Lk) (l0:Int) (m:Nat) (gs:List Lge):Prop where
 s:H st=some (.lst [.ref nw,.ref sk,.ref lg])
 n:H nw=some (.dK (di es))
 k:∃ kvs,H sk=some (.dK kvs)/\rT H kvs lk/\kvs.length<=m
 g:∃ ls,H lg=some (.lst ls)/\ls.length<=m/\(ls=[]∨∃ t a b c,ls.getLast?=some (.ref t)/\H t=some (.tup [.int l0,a,b,c]))/\Paired (LgP H) ls gs
 en:∀ e∈es,H e.adr=some (.tup (e.key.map kV))/\dI e.key
 nn:(es.map (·.num)).Nodup
 ne:nw≠sk
 sl:st≠lg
theorem StA.same {H H':Hp}{st nw sk lg:Addr}{es:List Ben}{lk:Lk}{l0:Int}{m:Nat}{gs:List Lge} (h:StA H st nw sk lg es lk l0 m gs) (s:aq H H'):StA H' st nw sk lg es lk l0 m gs:=by
 obtain⟨h1,h2,⟨kvs,h3,h4,h5⟩,⟨ls,h6,h7,h8,h8'⟩,h9,h10,h11,h12⟩:=h
 exact⟨s _ _ h1,s _ _ h2,⟨kvs,s _ _ h3,h4.same s,h5⟩,⟨ls,s _ _ h6,h7,h8.imp id fun ⟨t,a,b,c,e,e2⟩=>⟨t,a,b,c,e,s _ _ e2⟩,nz h8' fun c xs e=>s _ _ e⟩,fun e he=>⟨s _ _ (h9 e he).1,(h9 e he).2⟩,h10,h11,h12⟩
def gX (es:List Ben) (lk:Lk) (day:Int) (key:List Key) (n:Int):Bool:=!decide (n∈es.map (·.num))&&!gw lk day key n
inductive lx (K:PySem.W.Frag) (vs:List V) (H:Hp) (Q:VK) (E:XK):Prop
 | mk (st nw sk lg t:Addr) (es:List Ben) (lk:Lk) (l0 n day:Int) (m:Nat) (gs:List Lge) (key:List Key) (q0:vs=[.ref st,.int n,.int day,.ref t]) (q1:StA H st nw sk lg es lk l0 m gs) (q2:H t=some (.tup (key.map kV))) (q3:dI key) (q4:∀ H',aq H H'->Q (.bl (gX es lk day key n)) H'):lx K vs H Q E
theorem iQ:aM ["_law_state","_law_number","_law_day","_law_entry","_law_now","_law_struck","_law_log"] ["_law_state","_law_number","_law_day","_law_entry"] (ak mV):=by subst_eqs
theorem vw (F:Fun K "_law_free" "_law_free" mV f fd) (T:Bl mg) (AF:AdF K mg Ad) :bI P w K mg base (CX1 P w) 1 f fd ["_law_state","_law_number","_law_day","_law_entry"] (lx K):=by
 refine F.okX (k:=0) iQ ?_ (fun cdv A outer s H vs Q E hr h=>?_)
 ·bv_decide
 ·obtain⟨st,nw,sk,lg,t,es,lk,l0,n,day,m,gs,key,rfl,A0,ht,eo,k⟩:=h
  obtain⟨kvs,hsk,S,_⟩:=A0.k
  have hu:=hr.ft
  have hu1:=iM hr
  have hu9:=hr.hu9
  refine⟨_,af (mO (pvL 0) (ke (K:=K) (n:=3) rfl rfl (aT (aB (i:=4) iQ.nd) (aT (aB (i:=5) iQ.nd) (aT (aB (i:=6) iQ.nd) (fg)))))) (af (bq (aJ (oS (K:=K) rfl hu1) (pvL 1) (pvL 4) (by kernel_rfl)) (aj (aK (e8))) (aI)) (aj (aK (Cp (cn (zZ (K:=K) rfl hu1) (pvL 1) (pvL 5) (by kernel_rfl)) (Cp (cn (ur (K:=K) rfl hu9) (aX (bO (K:=K) rfl) (nA hu1 (pvL 5) (pvL 1)) (ag) (fun _ _=>rfl)) (pvL 3) (aL _)) (kS (cn (xy (K:=K) rfl hu) (pvL 2) (aw aQ (aX (bO (K:=K) rfl) (nA hu1 (pvL 5) (pvL 1)) (ag) (fun _ _=>rfl)) (ag)) (aL _)))))))),?_⟩
  grind
  refine⟨_,.l A0.s,rfl,?_⟩
  and_intros
  cbv
  have kk:=k H (aq.refl _)
  grind
  refine .inr ⟨_,.inl ⟨_,.inl n,.inl A0.n,rfl,rfl⟩,?_⟩
  rw[xo A0.nn]
  unfold gX at kk
  by_cases hm:n∈es.map (·.num)
  ·rw[decide_eq_true hm,if_pos rfl]
   rw[decide_eq_true hm] at kk
   exact kk
  rw[decide_eq_false hm,if_neg (by decide)]
  rw[decide_eq_false hm] at kk
  have kk:Q (.bl (!gw lk day key n)) H:=kk
  cbv
  and_intros
  refine .inr ⟨_,.inl ⟨_,.inl n,.inl hsk,rfl,rfl⟩,?_⟩
  rcases S n with ⟨e1,e2⟩ | ⟨tp,ad,d,key',e1,e2,e3,e4,e5⟩
  ·rw[qp e2] at kk
   rw[e1,if_pos (by decide)]
   exact kk
  rw[uJ e5] at kk
  have dg:jU H sk (.int n) (some (.ref tp)):=.inl ⟨_,.inl n,.inl hsk,rfl,e1.symm⟩
  rw[e1,if_neg (by simp)]
  refine⟨sk,.ref tp,rfl,dg,?_⟩
  and_intros
  refine⟨_,_,.inr (.of e2),eQ (by decide) rfl,0,_,by decide,(qi e3 ht e4 eo).1,?_⟩
  by_cases hk:key'=key
  ·rw[decide_eq_true hk] at kk ⊢
   rw[if_pos rfl]
   exact kk
  rw[decide_eq_false hk] at kk ⊢
  rw[if_neg (by decide)]
  refine⟨sk,.ref tp,rfl,dg,?_⟩
  and_intros
  refine⟨_,_,.inr (.of e2),eQ (by decide) rfl,?_⟩
  and_intros
  have ee:(!(!false&&decide (day-d<31)))=decide (d+31<=day):=by
   by_cases h:day-d<31
   ·rw[decide_eq_true h,decide_eq_false (by omega)];rfl
   ·rw[decide_eq_false h,decide_eq_true (by omega)];rfl
  rw[ee] at kk
  exact kk
theorem Cf [DecidableEq κ] {es:List Ben}{f:Ben->κ}{g:Ben->V}{k:κ}:kP (es.map fun e=>(f e,g e)) k=(es.filter fun e=>decide (f e≠k)).map fun e=>(f e,g e):=by
 unfold kP
 rw[jH];rfl
theorem vC (es:List Ben) (n:Int):kP (di es) (.inl n)=di (es.filter fun e=>decide (e.num≠n)):=by
 rw[iN,iN,Cf]
 congr 1
 refine lF fun e _=>?_
 rw[fV]
 exact⟨fun h z=>h (by rw[z]),fun h z=>h (Sum.inl.inj z)⟩
inductive iU (K:PySem.W.Frag) (vs:List V) (H:Hp) (Q:VK) (E:XK):Prop
 | mk (st nw sk lg q t:Addr) (es:List Ben) (lk:Lk) (l0 day n:Int) (m:Nat) (gs:List Lge) (key:List Key) (y:V) (str:Bool) (q0:vs=[.ref st,.ref q,.int n]) (q1:StA H st nw sk lg es lk l0 m gs) (q2:m<900) (q3:es.length<900) (q4:H q=some (.tup [.str (if str then ("strike":Str) else ("put":Str)),.int day,.ref t,y])) (q5:H t=some (.tup (key.map kV))) (q6:dI key) (q7:((str=true/\∃ e∈es,e.num=n/\e.key=key/\∀ H',(∀ c o,c≠nw->c≠sk->c≠lg->H c=some o->H' c=some o)->StA H' st nw sk lg (es.filter fun x=>decide (x.num≠n)) (fun i=>if i=n then some (day,key) else lk i) day (m+1) (gs++[⟨day,true,t,n,key⟩])->Q .non H')∨(str=false/\n∉es.map (·.num)/\∀ H',(∀ c o,c≠nw->c≠sk->c≠lg->H c=some o->H' c=some o)->StA H' st nw sk lg (es++[⟨n,key,t⟩]) lk day (m+1) (gs++[⟨day,false,t,n,key⟩])->Q .non H'))):iU K vs H Q E
theorem dM:aM ["_law_state","_law_deed","_law_number","_law_now","_law_struck","_law_log","_law_sort","_law_day","_law_entry","_law_told_one"] ["_law_state","_law_deed","_law_number"] (ak mX):=by subst_eqs
theorem vy (F:Fun K "_law_kept" "_law_kept" mX f fd) (T:Bl mg) (AF:AdF K mg Ad) :bI P w K mg base (CX1 P w) 1 f fd ["_law_state","_law_deed","_law_number"] (iU K):=by
 refine F.okX (k:=0) dM ?_ (fun cdv A outer s H vs Q E hr h=>?_)
 ·bv_decide
 ·obtain⟨st,nw,sk,lg,q,t,es,lk,l0,day,n,m,gs,key,y,str,rfl,A0,m9,e9,hq,ht,eo,ks⟩:=h
  obtain⟨kvs,hsk,S,lsk⟩:=A0.k
  obtain⟨ls,hlg,lls,hlast,hgs⟩:=A0.g
  have hu:=hr.ft
  have hu1:=iM hr
  refine⟨_,af (mO (pvL 0) (ke (K:=K) (n:=3) rfl rfl (aT (aB (i:=3) dM.nd) (aT (aB (i:=4) dM.nd) (aT (aB (i:=5) dM.nd) (fg)))))) (af (mO (pvL 1) (ke (K:=K) (n:=4) rfl rfl (aT (aB (i:=6) dM.nd) (aT (aB (i:=7) dM.nd) (aT (aB (i:=8) dM.nd) (aT (aB (i:=9) dM.nd) (fg))))))) (af (bq (aJ (bX (K:=K) rfl hu) (pvL 6) (av) (aL _)) (af (cW (iZ (K:=K) rfl jN oj oo ud (pvL 3) (ae (pvL 2) (aa)))) (aj (iq hu1 (pvL 4) (pvL 2) (aS (ae (pvL 7) (ae (pvL 8) (aa))))))) (aj (iq hu1 (pvL 3) (pvL 2) (pvL 8)))) (aj (cW (iZ (K:=K) rfl oi om oq ic (pvL 5) (ae (aS (ae (pvL 7) (ae (pvL 6) (ae (pvL 8) (ae (pvL 2) (aa)))))) (aa))))))),?_⟩
  have big:∀ {u:Nat},u<=1000->u<=sizeLine:=fun hu=>aP (ao (by omega))
  grind
  refine⟨_,.l A0.s,rfl,?_⟩
  and_intros
  cbv
  grind
  refine⟨_,.inr (.of hq),rfl,?_⟩
  and_intros
  cbv
  have nws:nw≠lg:=aE A0.n hlg (by intro z;cases z)
  have nks:sk≠lg:=aE hsk hlg (by intro z;cases z)
  refine cN fun nn hN=>?_
  rcases ks with ⟨rfl,e,he,en,ek,k⟩ | ⟨rfl,hn,k⟩
  ·and_intros
   rw[if_pos (by decide)]
   refine cN fun n2 hM=>?_
   and_intros
   subst en ek
   refine⟨.inr (.inr (.inl ⟨rfl,.inl ⟨_,A0.n⟩⟩)),?_⟩
   and_intros
   refine⟨_,.inl e.num,_,A0.n,rfl,hO A0.nn he,?_⟩
   rw[vC]
   have k1:∀ c o,c≠nw->H c=some o->upd H nw (.dK (di (es.filter fun x=>decide (x.num≠e.num)))) c=some o:=fun c o hc z=>by rw[ar hc];exact z
   have g1:upd H nw (.dK (di (es.filter fun x=>decide (x.num≠e.num)))) nw=some (.dK (di (es.filter fun x=>decide (x.num≠e.num)))):=az
   generalize upd H nw (.dK (di (es.filter fun x=>decide (x.num≠e.num))))=G1 at k1 g1
   rw[hM]
   clear hM n2
   and_intros
   have hsk1:=k1 _ _ A0.ne.symm hsk
   have hlg1:=k1 _ _ nws.symm hlg
   have tup1:∀ c xs,H c=some (.tup xs)->G1 c=some (.tup xs):=fun c xs z=>k1 _ _ (aE z A0.n (by intro z;cases z)) z
   refine⟨big (by decide),fun p G2 hp t2 g2=>⟨sk,_,rfl,.inl ⟨_,.inl e.num,t2 _ _ hsk1,rfl,ao (by omega),rfl⟩,?_⟩⟩
   have k3:∀ c o,c≠sk->G2 c=some o->upd G2 sk (.dK (putK kvs (.inl e.num) (V.ref p))) c=some o:=fun c o hc z=>by rw[ar hc];exact z
   have g3:upd G2 sk (.dK (putK kvs (.inl e.num) (V.ref p))) sk=some (.dK (putK kvs (.inl e.num) (V.ref p))):=az
   generalize upd G2 sk (.dK (putK kvs (.inl e.num) (V.ref p)))=G3 at k3 g3
   have hlg3:=k3 _ _ nks.symm (t2 _ _ hlg1)
   have tup3:∀ c xs,G2 c=some (.tup xs)->G3 c=some (.tup xs):=fun c xs z=>k3 _ _ (aE z (t2 _ _ hsk1) (by intro z;cases z)) z
   have g31:=k3 _ _ A0.ne (t2 _ _ g1)
   cbv
   and_intros
   refine⟨.inl ⟨rfl,_,.of hlg3⟩,big (by decide),fun p4 G4 hp4 t4 g4=>⟨lg,ls,_,rfl,rfl,t4 _ _ hlg3,ao (by omega),?_⟩⟩
   have k5:∀ c o,c≠lg->G4 c=some o->upd G4 lg (.lst (ls++[V.ref p4])) c=some o:=fun c o hc z=>by rw[ar hc];exact z
   have g5:upd G4 lg (.lst (ls++[V.ref p4])) lg=some (.lst (ls++[V.ref p4])):=az
   generalize upd G4 lg (.lst (ls++[V.ref p4]))=G5 at k5 g5
   have tup5:∀ c xs,G4 c=some (.tup xs)->G5 c=some (.tup xs):=fun c xs z=>k5 _ _ (aE z (t4 _ _ hlg3) (by intro z;cases z)) z
   have tup:∀ c xs,H c=some (.tup xs)->G5 c=some (.tup xs):=fun c xs z=>tup5 _ _ (t4 _ _ (tup3 _ _ (t2 _ _ (tup1 _ _ z))))
   have hst:G5 st=some (.lst [.ref nw,.ref sk,.ref lg]):=by
    have nsn:st≠nw:=aE A0.s A0.n (by intro z;cases z)
    have nsk:st≠sk:=aE A0.s hsk (by intro z;cases z)
    exact k5 _ _ A0.sl (t4 _ _ (k3 _ _ nsk (t2 _ _ (k1 _ _ nsn A0.s))))
   refine k G5 (fun c o c1 c2 c3 z=>k5 c o c3 (t4 _ _ (k3 c o c2 (t2 _ _ (k1 c o c1 z))))) ⟨hst,k5 _ _ nws (t4 _ _ g31),⟨_,k5 _ _ nks (t4 _ _ g3),fun i=>?_,?_⟩,⟨_,g5,?_,.inr ⟨p4,_,_,_,?_,tup5 _ _ g4⟩,?_⟩,fun x hx=>?_,?_,A0.ne,A0.sl⟩
   ·rw[rN]
    dsimp only
    by_cases hi:i=e.num
    ·rw[if_pos (by rw[hi]),if_pos hi]
     exact .inr ⟨p,t,day,e.key,rfl,tup5 _ _ (t4 _ _ (tup3 _ _ g2)),tup _ _ ht,eo,rfl⟩
    ·rw[if_neg (fun z=>hi (Sum.inl.inj z)),if_neg hi]
     exact S.past tup i
   ·have:=gy kvs (Sum.inl e.num) (V.ref p)
    omega
   ·rw[bb];show ls.length+1<=_;omega
   ·rw[List.getLast?_append];rfl
   ·exact gA (nz hgs tup) (.cons ⟨p4,rfl,tup5 _ _ g4⟩ .nil)
   ·obtain⟨hx1,_⟩:=dF.mp hx
    exact⟨tup _ _ (A0.en x hx1).1,(A0.en x hx1).2⟩
   ·exact jD (jE _ jI) A0.nn
  ·and_intros
   rw[if_neg (by decide)]
   refine⟨nw,_,rfl,.inl ⟨_,.inl n,A0.n,rfl,by rw[jy];exact ao (by omega),rfl⟩,?_⟩
   rw[qg (ue hn),show di es++[((.inl n:Key),V.ref t)]=di (es++[⟨n,key,t⟩]) from (oP es ⟨n,key,t⟩).symm]
   have k1:∀ c o,c≠nw->H c=some o->upd H nw (.dK (di (es++[⟨n,key,t⟩]))) c=some o:=fun c o hc z=>by rw[ar hc];exact z
   have g1:upd H nw (.dK (di (es++[⟨n,key,t⟩]))) nw=some (.dK (di (es++[⟨n,key,t⟩]))):=az
   generalize upd H nw (.dK (di (es++[⟨n,key,t⟩])))=G1 at k1 g1
   have hsk1:=k1 _ _ A0.ne.symm hsk
   have hlg1:=k1 _ _ nws.symm hlg
   have tup1:∀ c xs,H c=some (.tup xs)->G1 c=some (.tup xs):=fun c xs z=>k1 _ _ (aE z A0.n (by intro z;cases z)) z
   cbv
   and_intros
   refine⟨.inl ⟨rfl,_,.of hlg1⟩,big (by decide),fun p4 G4 hp4 t4 g4=>⟨lg,ls,_,rfl,rfl,t4 _ _ hlg1,ao (by omega),?_⟩⟩
   have k5:∀ c o,c≠lg->G4 c=some o->upd G4 lg (.lst (ls++[V.ref p4])) c=some o:=fun c o hc z=>by rw[ar hc];exact z
   have g5:upd G4 lg (.lst (ls++[V.ref p4])) lg=some (.lst (ls++[V.ref p4])):=az
   generalize upd G4 lg (.lst (ls++[V.ref p4]))=G5 at k5 g5
   have tup5:∀ c xs,G4 c=some (.tup xs)->G5 c=some (.tup xs):=fun c xs z=>k5 _ _ (aE z (t4 _ _ hlg1) (by intro z;cases z)) z
   have tup:∀ c xs,H c=some (.tup xs)->G5 c=some (.tup xs):=fun c xs z=>tup5 _ _ (t4 _ _ (tup1 _ _ z))
   have hst:G5 st=some (.lst [.ref nw,.ref sk,.ref lg]):=k5 _ _ A0.sl (t4 _ _ (k1 _ _ (aE A0.s A0.n (by intro z;cases z)) A0.s))
   refine k G5 (fun c o c1 c2 c3 z=>k5 c o c3 (t4 _ _ (k1 c o c1 z))) ⟨hst,k5 _ _ nws (t4 _ _ g1),⟨_,k5 _ _ nks (t4 _ _ hsk1),S.past tup,by omega⟩,⟨_,g5,?_,.inr ⟨p4,_,_,_,?_,tup5 _ _ g4⟩,?_⟩,fun x hx=>?_,?_,A0.ne,A0.sl⟩
   ·rw[bb];show ls.length+1<=_;omega
   ·rw[List.getLast?_append];rfl
   ·exact gA (nz hgs tup) (.cons ⟨p4,rfl,tup5 _ _ g4⟩ .nil)
   ·rcases bL.mp hx with hx | hx
    ·exact⟨tup _ _ (A0.en x hx).1,(A0.en x hx).2⟩
    ·rw[bc.mp hx]
     exact⟨tup _ _ ht,eo⟩
   ·rw[b9];exact kb A0.nn hn
theorem iJ.last {gs:List Lge}{l:Lge} (h:iJ (gs++[l])):(l.str=true->l.num∈(fD gs).map (·.num))/\(l.str=false->l.num∉(fD gs).map (·.num)/\l.key∉(fD gs).map (·.key)):=by
 generalize hx:gs++[l]=xs at h
 cases h with
 | nil=>simp at hx
 | snoc h hs hp =>
  obtain⟨e1,e2⟩:=List.append_inj' hx rfl
  cases e2
  subst e1
  exact⟨hs,hp⟩
inductive i3 (K:PySem.W.Frag) (vs:List V) (H:Hp) (Q:VK) (E:XK):Prop
 | mk (st nw sk lg:Addr) (es:List Ben) (lk:Lk) (l0 day:Int) (m j:Nat) (gs:List Lge) (q0:vs=[.ref st,.int day]) (q1:StA H st nw sk lg es lk l0 m gs) (q2:m<64) (q3:iJ gs) (q4:(∀ (i:Nat) l,gs[i]?=some l->(l.day<=day↔i<j))) (q5:∀ D ws (ms:List Ben) H',aq H H'->H' D=some (.lst ws)->ms.Perm (fD (gs.take j))->(ms.map (·.num)).Pairwise (·<·)->Paired (fun v (m:Ben)=>∃ p,v=V.ref p/\H' p=some (.tup [.int m.num,.ref m.adr])) ws ms->Q (.ref D) H'):i3 K vs H Q E
theorem dy:aM ["_law_state","_law_day","_law_found","_law_when","_law_sort","_law_entry","_law_number"] ["_law_state","_law_day"] (ak ji):=by subst_eqs
theorem rj (F:Fun K "_law_edition" "_law_edition" ji f fd) (T:Bl mg) (AF:AdF K mg Ad) :bI P w K mg base (CX1 P w) 1 f fd ["_law_state","_law_day"] (i3 K):=by
 refine F.okX (k:=0) dy ?_ (fun cdv A outer s H vs Q E hr h=>?_)
 ·bv_decide
 ·obtain⟨st,nw,sk,lg,es,lk,l0,day,m,j,gs,rfl,A0,m64,ok,hj,k⟩:=h
  obtain⟨ls,hlg,lls,hlast,hgs⟩:=A0.g
  have hu:=hr.ft
  have hu1:=iM hr
  refine⟨_,af (iO (i:=2) dy.nd (j4)) (af (fM cm rfl (cP (K:=K) rfl (aX (bO (K:=K) rfl) (pvL 0) (ag) (fun _ _=>rfl))) (nG (K:=K) (n:=4) rfl rfl (aT (aB (i:=3) dy.nd) (aT (aB (i:=4) dy.nd) (aT (aB (i:=5) dy.nd) (aT (aB (i:=6) dy.nd) (fg)))))) (aj (bq (aJ ik (pvL 3) (pvL 1) (aL _)) (aj (bq (aJ (bX (K:=K) rfl hu) (pvL 4) (av) (aL _)) (aj (cW (iZ (K:=K) rfl jN oj oo ud (pvC 2) (ae (pvL 6) (aa))))) (aj (iq hu1 (pvC 2) (pvL 6) (pvL 5))))) (aI)))) (aj (aK (nC ["_law_number"] rfl ⟨rfl,by decide +kernel,rfl,by decide +kernel⟩ (.cons (j:=2) rfl (.inl (by kernel_rfl)) (.nil)) (by decide +kernel) (cP (K:=K) rfl (ay (mC rfl) T.sorted oF (ae (pvC 2) (aa)))) (fun _ _ _ _=>aB (i:=0) (show (["_law_number","_law_found"]:List Str).Nodup from by decide +kernel)) (fun _ _ _ _=>fh) (fun _ _ _ _=>aS (ae (pvL 0) (ae (nA hu1 (pvC 1) (pvL 0)) (aa)))))))),?_⟩
  have big:∀ {u:Nat},u<=1000->u<=sizeLine:=fun hu=>aP (ao (by omega))
  have lgs:ls.length=gs.length:=Paired.length hgs
  grind
  intro F G1 hF t1 g1
  cbv
  grind
  refine⟨_,.ref lg,.l (t1 _ _ A0.s),bt (j:=2) rfl,?_⟩
  and_intros
  have nF:∀ {c:Addr}{o:HO},H c=some o->c≠F:=fun e z=>by rw[z,hF] at e;cases e
  have hlen:∀ i,(fD (gs.take i)).length<=i:=fun i=>by
   induction i with
   | zero=>rw[List.take_zero];exact ai _
   | succ i ih =>
    by_cases hi:i<gs.length
    ·rw[iE,List.getElem?_eq_getElem hi]
     show (fD (gs.take i++[gs[i]])).length<=_
     rw[j9]
     unfold eI
     split
     ·exact bA (jK _ _) (by omega)
     ·rw[bb];show (fD (gs.take i)).length+1<=_;omega
    ·rw[eL (by omega)] at ih ⊢;omega
  refine .inl ⟨⟨_,.of (t1 _ _ hlg)⟩,fH (xs:=ls) (fun i σ G=>(∃ o3 o4 o5 o6,σ=[some (V.ref st),some (V.int day),some (V.ref F),o3,o4,o5,o6])/\(∀ c o,c≠F->G1 c=some o->G c=some o)/\G F=some (.dK (di (fD (gs.take (min i j)))))) ⟨⟨_,_,_,_,rfl⟩,fun _ _ _ e=>e,by rw[Nat.zero_min,List.take_zero];exact g1⟩ (fun i σ G _ ⟨_,kp,_⟩=>.of (kp _ _ (nF hlg) (t1 _ _ hlg))) ?_ ?_⟩
  ·rintro i v σ G hi ⟨⟨o3,o4,o5,o6,rfl⟩,kp,gF⟩ N hNx
   clear hN
   obtain⟨l,hl,p,rfl,hp⟩:=cE hgs hi
   have hil:i<gs.length:=(bK.mp hl).1
   have hpG:=kp _ _ (nF hp) (t1 _ _ hp)
   refine⟨p,_,rfl,.of hpG,rfl,?_⟩
   and_intros
   by_cases hd:l.day<=day
   ·have ij:=(hj i l hl).mp hd
    have et:gs.take (i+1)=gs.take i++[l]:=by rw[iE,hl];rfl
    rw[iG (by omega)] at gF
    have ro:=(ok.take (i+1))
    rw[et] at ro
    have rn:=(ok.take i).nn
    have hl64:=hlen i
    have nx:∀ G' o4,(∀ c o,c≠F->G1 c=some o->G' c=some o)->G' F=some (.dK (di (eI (fD (gs.take i)) l)))->N [some (V.ref st),some (V.int day),some (V.ref F),some (V.int l.day),o4,some (V.ref l.adr),some (V.int l.num)] G':=fun G' o4 kp' gF'=>hNx _ _ ⟨⟨_,_,_,_,rfl⟩,kp',by rw[iG (by omega),et,j9];exact gF'⟩
    rw[decide_eq_true hd,if_pos rfl]
    cases hs:l.str with
    | true =>
     rw[if_pos (by decide)]
     obtain⟨e,he,ee⟩:=aC.mp (ro.last.1 hs)
     refine⟨.inr (.inr (.inl ⟨rfl,.inl ⟨_,gF⟩⟩)),_,.inl l.num,_,gF,rfl,by rw[←ee];exact hO rn.1 he,nx _ _ (fun c o hc z=>by rw[ar hc];exact kp c o hc z) ?_⟩
     rw[az,vC]
     unfold eI
     rw[if_pos hs]
    | false =>
     rw[if_neg (by decide)]
     refine⟨F,_,rfl,.inl ⟨_,.inl l.num,gF,rfl,by rw[jy];exact ao (by omega),rfl⟩,nx _ _ (fun c o hc z=>by rw[ar hc];exact kp c o hc z) ?_⟩
     rw[az,qg (ue (ro.last.2 hs).1),show di (fD (gs.take i))++[((.inl l.num:Key),V.ref l.adr)]=di (fD (gs.take i)++[⟨l.num,l.key,l.adr⟩]) from (oP _ ⟨l.num,l.key,l.adr⟩).symm]
     unfold eI
     rw[if_neg (by rw[hs];decide)]
   ·have ij:¬ i<j:=fun z=>hd ((hj i l hl).mpr z)
    rw[decide_eq_false hd,if_neg (by decide)]
    refine hNx _ _ ⟨⟨_,_,_,_,rfl⟩,kp,?_⟩
    rw[lO (by omega)] at gF ⊢
    exact gF
  rintro σ G ⟨⟨o3,o4,o5,o6,rfl⟩,kp,gF⟩
  show nn _ _ _
  cbv
  and_intros
  have ej:min ls.length j=min gs.length j:=by rw[lgs]
  have er:fD (gs.take (min gs.length j))=fD (gs.take j):=by
   by_cases h:j<=gs.length
   ·rw[lO h]
   ·rw[iG (by omega),eL (ai _),eL (by omega)]
  rw[ej,er] at gF
  have rn:=(ok.take j).nn
  have l64:(fD (gs.take j)).length<64:=by
   have h1:=hlen (min gs.length j)
   rw[er] at h1
   omega
  have tG:aq H G:=fun c o e=>kp c o (nF e) (t1 _ _ e)
  generalize fD (gs.take j)=rs at gF rn l64 k
  rw[zG]
  refine⟨rs.map fun e:Ben=>(e.num,V.ref e.adr),.inl gF,by rw[List.length_map];exact l64,fun ns hp hs p G2 z2 t2 g2=>?_⟩
  and_intros
  obtain⟨ms,mp,mn,ml⟩:=AS hp hs rn.1
  have nl:(ns.map V.int).length<sizeLine:=ao (by rw[List.length_map,hp.length_eq,List.length_map,List.length_map];omega)
  refine .inl ⟨⟨_,.of g2⟩,qd (jB (.of g2)) nl (ms.map fun m=>[V.int m.num,V.ref m.adr]) (by rw[List.length_map,List.length_map,←mn,List.length_map]) ?_ ?_⟩
  ·intro i x ts hx hts G3 t3 R hR
   rw[List.getElem?_map] at hx hts
   obtain⟨m',hm,rfl⟩:=fS.mp hts
   have:ns[i]?=some m'.num:=by rw[←mn,List.getElem?_map,hm];rfl
   rw[this] at hx
   cases hx
   and_intros
   exact⟨F,_,rfl,.inl ⟨_,.inl m'.num,.inl ((t2.trans t3) _ _ gF),rfl,(hO rn.1 (mp.mem_iff.mp (bp hm))).symm⟩,big (by decide),fun p2 G4 z4 t4 g4=>hR p2 G4 z4 t4 g4⟩
  ·intro D ws G3 hD t3 g3 hT
   exact k D ws ms G3 (tG.trans (t2.trans t3)) g3 mp ml (kR hT)
def kEq (H:Hp) (xs:List V):V->Bool
 | .ref a=>(match H a with | some (.tup ys)=>decide (ys=xs) | _=>false)
 | _=>false
theorem BH {ks ks':List Key} (h:H a=some (.tup (ks.map kV))):kEq H (ks'.map kV) (.ref a)=decide (ks=ks'):=by
 show (match H a with | some (.tup ys)=>decide (ys=ks'.map kV) | _=>false)=_
 rw[h]
 exact fV.mpr ⟨fun e=>pZ e,fun e=>by rw[e]⟩
def sZ (H:Hp) (t:Addr):List V:=match H t with | some (.tup xs)=>xs | _=>[]
def frB (H:Hp) (es:List Ben) (t:Addr):Bool:=(es.map fun e=>V.ref e.adr).any (kEq H (sZ H t)) != true
theorem GC {es:List Ben}{t:Addr} (ht:H t=some (.tup (key.map kV))) (hes:∀ e∈es,H e.adr=some (.tup (e.key.map kV))) (h:frB H es t=true):key∉es.map (·.key):=fun hm=>by
 obtain⟨e,he,ee⟩:=aC.mp hm
 unfold frB at h
 have:(es.map fun e=>V.ref e.adr).any (kEq H (sZ H t))=true:=iD.mpr ⟨_,aC.mpr ⟨e,he,rfl⟩,by rw[show sZ H t=key.map kV by unfold sZ;rw[ht],BH (hes e he),decide_eq_true ee]⟩
 rw[this] at h
 cases h
def Fq:List (List Str):=[["phrase",""],["phrase","a  b"],["part","abcdefg"],["end","a"],["word","a"]]
inductive ju (H:Hp):V->Prop
 | non:ju H .non
 | str:ju H (.str ("end":Str))
 | lst {p:Addr}{xs:List V} (h:H p=some (.lst xs)):ju H (.ref p)
 | tup {p:Addr}{ss:List Str} (h:H p=some (.tup (ss.map V.str))) (hs:ss∈Fq):ju H (.ref p)
inductive rS (H:Hp) (l0:Int):V->Prop
 | int (d:Int) (h:d<0∨1000000000<d∨d<l0):rS H l0 (.int d)
 | bl (b:Bool):rS H l0 (.bl b)
 | non:rS H l0 .non
 | str (z:Str):rS H l0 (.str z)
 | lst {p:Addr}{xs:List V} (h:H p=some (.lst xs)):rS H l0 (.ref p)
inductive NumV (H:Hp) (M:Int):V->Prop
 | int (n:Int) (h:n<0∨M<=n):NumV H M (.int n)
 | bl (b:Bool):NumV H M (.bl b)
 | str:NumV H M (.str ("0":Str))
 | lst {p:Addr}{xs:List V} (h:H p=some (.lst xs)):NumV H M (.ref p)
theorem ju.same {H H':Hp} (h:ju H v) (s:aq H H'):ju H' v:=by
 cases h with
 | non=>exact .non
 | str=>exact .str
 | lst h=>exact .lst (s _ _ h)
 | tup h hs=>exact .tup (s _ _ h) hs
theorem rS.same {H H':Hp} (h:rS H l0 v) (s:aq H H'):rS H' l0 v:=by
 cases h with
 | int d h=>exact .int d h
 | bl b=>exact .bl b
 | non=>exact .non
 | str z=>exact .str z
 | lst h=>exact .lst (s _ _ h)
theorem NumV.same {H H':Hp} (h:NumV H M v) (s:aq H H'):NumV H' M v:=by
 cases h with
 | int d h=>exact .int d h
 | bl b=>exact .bl b
 | str=>exact .str
 | lst h=>exact .lst (s _ _ h)
theorem kf {l:List V}{i:Int} (h0:0<=i) (h1:i<(l.length:Int)):∃ w∈l,atI l i=some w:=⟨_,fQ (show i.toNat<l.length by omega),eQ h0 (List.getElem?_eq_getElem (by omega))⟩
inductive uH (H:Hp) (es:List Ben) (l0 M:Int):V->V->V->Str->Prop
 | day (dv x:V) (h:rS H l0 dv) (hx:ju H x∨∃ t key,x=.ref t/\H t=some (.tup (key.map kV))/\dI key):uH H es l0 M dv x .non "NoDay"
 | ent (d:Int) (x y:V) (h0:l0<=d) (h1:d<=l0+2) (hx:ju H x) (hy:y=.non∨∃ n,y=.int n):uH H es l0 M (.int d) x y "NoEntry"
 | twice (e:Ben) (y:V) (he:e∈es) (hy:y=.non∨∃ n,y=.int n):uH H es l0 M (.int l0) (.ref e.adr) y "Twice"
 | num (t:Addr) (key:List Key) (y:V) (ht:H t=some (.tup (key.map kV))) (eo:dI key) (hk:key∉es.map (·.key)) (hy:NumV H M y∨∃ e∈es,y=.int e.num):uH H es l0 M (.int l0) (.ref t) y "NoNumber"
 | strike (x:V) (hx:ju H x∨∃ t key,x=.ref t/\H t=some (.tup (key.map kV))/\dI key/\key∉es.map (·.key)):uH H es l0 M (.int l0) x (.str ("strike":Str)) "NoEntry"
inductive ng (K:PySem.W.Frag) (vs:List V) (H:Hp) (Q:VK) (E:XK):Prop
 | mk (st nw sk lg D:Addr) (es:List Ben) (lk:Lk) (l0 M v:Int) (m:Nat) (gs:List Lge) (ts:List Addr) (x y:Nat) (q0:vs=[.ref st,.ref D,.int M,.int v]) (q1:StA H st nw sk lg es lk l0 m gs) (q2:m<=60) (q3:es.length<=60) (q4:(es.map (·.key)).Nodup) (q5:(gs=[]->l0=0)) (q6:(∀ e∈es,0<=e.num/\e.num<M)) (q7:H D=some (.lst (ts.map V.ref))) (q8:Paired (fun (t:Addr) (key:List Key)=>H t=some (.tup (key.map kV))) ts (mx x y)) (q9:(∀ key∈mx x y,dI key)) (q10:1<=M) (q11:M<=100000) (q12:0<=v) (q13:0<=l0) (q14:l0<=1000000) (q15:∀ R dv xv yv due H',aq H H'->H' R=some (.lst [dv,xv,yv,.str due])->uH H' es l0 M dv xv yv due->Q (.ref R) H'):ng K vs H Q E
theorem bY:aM ["_law_state","_law_pool_here","_law_many_here","_law_number","_law_now","_law_last","_law_stands","_law_free_here","_law_entry","_law_none","_law_bad_days","_law_sort","_law_bad","_law_taken"] ["_law_state","_law_pool_here","_law_many_here","_law_number"] (ak oX):=by subst_eqs
theorem xu (F:Fun K "_law_odd" "_law_odd" oX f fd) (T:Bl mg) (AF:AdF K mg Ad) :bI P w K mg base (CX1 P w) 1 f fd ["_law_state","_law_pool_here","_law_many_here","_law_number"] (ng K):=by
 refine F.okX (k:=0) bY ?_ (fun cdv A outer s H vs Q E hr h=>?_)
 ·bv_decide
 ·obtain⟨st,nw,sk,lg,D,es,lk,l0,M,v,m,gs,ts,x,y,rfl,A0,m60,e60,nk,hl0,hnm,hD,hts,en,M1,M2,v0,z0,z1,k⟩:=h
  obtain⟨kvs,hsk,S,_⟩:=A0.k
  obtain⟨ls,hlg,lls,hlast,hgs⟩:=A0.g
  have hu:=hr.ft
  have hu1:=iM hr
  have hu9:=hr.hu9
  refine⟨_,af (iO (i:=4) bY.nd (aX (bO (K:=K) rfl) (pvL 0) (ag) (fun _ _=>rfl))) (af (aA (i:=5) bY.nd (ag)) (af (bq (aJ (mI (K:=K) rfl hu9) (aX (bO (K:=K) rfl) (pvL 0) (ag) (fun _ _=>rfl)) (aN (aa)) (aL _)) (aj (aA (i:=5) bY.nd (aX (bO (K:=K) rfl) (aX (bO (K:=K) rfl) (aX (bO (K:=K) rfl) (pvL 0) (ag) (fun _ _=>rfl)) (pC lC (ag)) (fun _ _=>rfl)) (ag) (fun _ _=>rfl)))) (aI)) (af (vJ (P:=P) (w:=w) rfl rfl (iO (i:=6) bY.nd (nC ["_law_one"] rfl ⟨rfl,by decide +kernel,rfl,by decide +kernel⟩ (.cons (j:=4) rfl (.inl (by kernel_rfl)) (.nil)) (by decide +kernel) (vF (P:=P) (w:=w) rfl rfl (pvC 4)) (fun _ _ _ _=>aB (i:=0) (show (["_law_one","_law_now"]:List Str).Nodup from by decide +kernel)) (fun _ _ _ _=>fh) (fun _ _ _ _=>vD (P:=P) (w:=w) rfl rfl (pvC 1) (pvL 0))))) (af (j8 (i:=7) ["_law_one"] bY.nd rfl (Or.inl rfl) rfl ⟨rfl,by decide +kernel,rfl,by decide +kernel⟩ (.cons (j:=6) rfl (.inl (by kernel_rfl)) (.nil)) (by decide +kernel) (cP (K:=K) rfl (pvL 1)) (fun _ _ _ _=>aB (i:=0) (show (["_law_one","_law_stands"]:List Str).Nodup from by decide +kernel)) (fun _ _ _ _=>qf (aJ (Ac (K:=K) rfl hu9) (pvL 0) (pvC 1) (by kernel_rfl))) (fun _ _ _ _=>pvL 0)) (af (aA (i:=8) bY.nd (aX (bO (K:=K) rfl) (pvL 1) (aw aW (aw bo (pvL 3) (ag)) (ay (bG (K:=K) rfl) T.len cB (ae (pvL 1) (aa)))) (fun _ _=>rfl))) (af (aA (i:=9) bY.nd (aN (ae (cK) (ae (aS (ae (av) (ae (av) (aa)))) (ae (aS (ae (av) (ae (av) (aa)))) (ae (aS (ae (av) (ae (av) (aa)))) (ae (aS (ae (av) (ae (av) (aa)))) (ae (aN (ae (av) (aa))) (ae (aS (ae (av) (ae (av) (aa)))) (ae (av) (aa))))))))))) (af (aA (i:=10) bY.nd (aN (ae (pC lC (ag)) (ae (aw aQ (aw gu (ag) (ag)) (ag)) (ae (e8) (ae (cK) (ae (av) (ae (aw me (pvL 5) (ag)) (ae (aw me (pC lC (ag)) (aw aW (pvL 3) (aw gu (ag) (ag)))) (ae (aN (ae (ag) (aa))) (aa))))))))))) (af (aA (i:=11) bY.nd (aw aW (pvL 3) (ag))) (af (bq (aJ (bX (K:=K) rfl hu) (pvL 11) (ag) (aL _)) (af (aA (i:=12) bY.nd (aX (bO (K:=K) rfl) (pvL 10) (aw aW (aw bo (pvL 3) (ag)) (ag)) (fun _ _=>rfl))) (aj (aK (aN (ae (pvL 12) (ae (aX (bO (K:=K) rfl) (aN (ae (pvL 8) (ae (aX (bO (K:=K) rfl) (pvL 9) (aw aW (aw bo (pvL 3) (ag)) (ag)) (fun _ _=>rfl)) (aa)))) (aw aW (aw bo (pvL 3) (ag)) (ag)) (fun _ _=>rfl)) (ae (cK) (ae (av) (aa))))))))) (aI)) (af (bq ((my (aJ (bX (K:=K) rfl hu) (pvL 11) (ag) (aL _)) (kh (aJ (ur (K:=K) rfl hu9) (pvL 7) (aN (aa)) (aL _)))).pt) (aj (aK (aN (ae (aw aQ (pvL 5) (aw aW (aw bo (pvL 3) (ag)) (ag))) (ae (aX (bO (K:=K) rfl) (pvL 9) (aw aW (aw bo (pvL 3) (ag)) (ag)) (fun _ _=>rfl)) (ae (aX (bO (K:=K) rfl) (aN (ae (cK) (ae (pvL 2) (aa)))) (aw aW (aw bo (pvL 3) (ag)) (ag)) (fun _ _=>rfl)) (ae (av) (aa)))))))) (aI)) (af (bq ((mP (aJ (bX (K:=K) rfl hu) (pvL 11) (ag) (aL _)) (kg (aJ (mI (K:=K) rfl hu9) (pvC 6) (aN (aa)) (aL _)))).pt) (aj (aK (aN (ae (pvL 5) (ae (aX (bO (K:=K) rfl) (pvC 6) (aw aW (aw bo (pvL 3) (ag)) (ay (bG (K:=K) rfl) T.len cB (ae (pvC 6) (aa)))) (fun _ _=>rfl)) (ae (aX (bO (K:=K) rfl) (aN (ae (cK) (ae (pvL 2) (ae (pC lC (ag)) (aa))))) (aw aW (aw bo (pvL 3) (ag)) (ag)) (fun _ _=>rfl)) (ae (av) (aa)))))))) (aI)) (af (bq ((mP (aJ (bX (K:=K) rfl hu) (pvL 11) (ag) (aL _)) (kg (aJ (mI (K:=K) rfl hu9) (pvC 6) (aN (aa)) (aL _)))).pt) (af (aA (i:=13) bY.nd (aX (bO (K:=K) rfl) (ay (mC rfl) T.sorted oF (ae (pvC 4) (aa))) (aw aW (aw bo (pvL 3) (ag)) (ay sx T.len cB (ae (pvC 4) (aa)))) (fun _ _=>rfl))) (aj (aK (aN (ae (pvL 5) (ae (aX (bO (K:=K) rfl) (pvL 7) (aw aW (aw bo (pvL 3) (ag)) (ay (bG (K:=K) rfl) T.len cB (ae (pvL 7) (aa)))) (fun _ _=>rfl)) (ae (pvL 13) (ae (av) (aa))))))))) (aI)) (af (bq (aJ (bX (K:=K) rfl hu) (pvL 11) (ag) (aL _)) (af (aA (i:=12) bY.nd (aX (bO (K:=K) rfl) (aN (ae (pvL 2) (ae (pC lC (ag)) (ae (e8) (ae (av) (ae (aN (ae (ag) (aa))) (ae (aw aQ (pvL 2) (pvL 3)) (aa)))))))) (aw aW (aw bo (pvL 3) (ag)) (ag)) (fun _ _=>rfl))) (aj (aK (aN (ae (pvL 5) (ae (aX (bO (K:=K) rfl) (pvL 7) (aw aW (aw bo (pvL 3) (ag)) (ay (bG (K:=K) rfl) T.len cB (ae (pvL 7) (aa)))) (fun _ _=>rfl)) (ae (pvL 12) (ae (av) (aa))))))))) (aI)) (aj (aK (aN (ae (pvL 5) (ae (aX (bO (K:=K) rfl) (aN (ae (aX (bO (K:=K) rfl) (pvL 7) (aw aW (aw bo (pvL 3) (ag)) (ay (bG (K:=K) rfl) T.len cB (ae (pvL 7) (aa)))) (fun _ _=>rfl)) (ae (aX (bO (K:=K) rfl) (pvL 9) (aw aW (aw bo (pvL 3) (ag)) (ag)) (fun _ _=>rfl)) (aa)))) (aw aW (aw bo (pvL 3) (ag)) (ag)) (fun _ _=>rfl)) (ae (av) (ae (av) (aa))))))))))))))))))))),?_⟩
  have big:∀ {u:Nat},u<=1000->u<=sizeLine:=fun hu=>aP (ao (by omega))
  have lt14:ts.length=14:=Paired.length hts
  grind
  refine⟨_,.ref nw,.l A0.s,bt (j:=0) rfl,?_⟩
  cbv
  grind
  cbv
  refine gY (fun σ G=>σ=[some (V.ref st),some (V.ref D),some (V.int M),some (V.int v),some (V.ref nw),some (V.int l0),none,none,none,none,none,none,none,none]/\aq H G) ?_ ?_
  ·rintro σ G1 ⟨rfl,t1⟩
   have A1:=A0.same t1
   have hts1:=gh t1 hts
   have hD1:=t1 _ _ hD
   grind
   refine⟨nw,_,rfl,A1.n,fun Dh G2 kr k2 g2=>?_⟩
   have ek:(di es).map (fun kv=>kV kv.1)=(es.map (·.num)).map V.int:=by rw[iN,List.map_map,List.map_map];rfl
   refine xh (xs:=es.map (·.num)) V.int ka (by rw[←ek];exact sU g2) (by rw[List.length_map];exact ao (by omega)) (fun n=>(cH (di es) (.inl n)).getD .non) ?_ ?_
   ·intro n hn G3 t3 R hR
    and_intros
    obtain⟨e,he,rfl⟩:=aC.mp hn
    have hv:=hO A0.nn he
    refine⟨nw,Dh,_,.inl e.num,.ref e.adr,rfl,t3 _ _ g2,kr,rfl,hv,?_⟩
    have:=hR G3 (aq.refl _)
    rw[hv] at this
    exact this
   intro Th G3 hTh t3 g3
   rw[sj]
   refine⟨nw,Dh,_,t3 _ _ g2,kr,fun G4 k4 g4=>?_⟩
   have t14:aq G1 G4:=fun c o e=>by
    by_cases hc:c=nw
    ·rw[hc,A1.n] at e;cases e;rw[hc];exact g4
    ·exact k4 c o hc (t3 _ _ (k2 c o hc e))
   have nTh:Th≠nw:=fun z=>by rw[z,g2] at hTh;cases hTh
   have g4':=k4 _ _ nTh g3
   have est:(es.map (·.num)).map (fun n=>(cH (di es) (.inl n)).getD .non)=es.map fun e=>V.ref e.adr:=by
    rw[List.map_map]
    exact jL fun e he=>by show (cH (di es) (.inl e.num)).getD .non=_;rw[hO A0.nn he];rfl
   rw[est] at g4'
   have A4:=A1.same t14
   have hts4:=gh t14 hts1
   have hD4:=t14 _ _ hD1
   have t04:=t1.trans t14
   show nn _ _ _
   rw[hN]
   clear hN nn k2 t3 k4 g3 kr g2 hTh ek est hts1 hD1 g4 A1
   grind
   have hes4:∀ e∈es,G4 e.adr=some (.tup (e.key.map kV)):=fun e he=>(A4.en e he).1
   have hkt:∀ t∈ts,∃ key,G4 t=some (.tup (key.map kV))/\dI key:=fun t ht=>by
    obtain⟨i,hi⟩:=List.getElem?_of_mem ht
    obtain⟨key,hk,hkt⟩:=cE hts4 hi
    exact⟨key,hkt,en key (bp hk)⟩
   refine .inl ⟨⟨_,.of hD4⟩,Ei (xs:=ts) V.ref (fun _ _ e=>V.ref.inj e) (jB (.of hD4)) (ao (by omega)) (frB G4 es) V.ref ?_ ?_ ?_⟩
   ·intro t ht G5 t5 R hR
    and_intros
    obtain⟨key,h1,eo⟩:=hkt t ht
    have et:sZ G4 t=key.map kV:=by unfold sZ;rw[h1]
    refine⟨Th,_,kEq G4 (key.map kV),rfl,⟨1,by decide,.of (t5 _ _ g4'),(fun v hv=>by obtain⟨e,_,rfl⟩:=aC.mp hv;exact⟨_,rfl⟩),fun v hv=>?_⟩,?_⟩
    ·obtain⟨e,he,rfl⟩:=aC.mp hv
     rw[BH (hes4 e he)]
     exact (qi (t5 _ _ (hes4 e he)) (t5 _ _ h1) (A4.en e he).2 eo).2
    ·have:=hR G5 (aq.refl _)
     unfold frB at this
     rw[et] at this
     exact this
   ·intro t ht _ G5 t5 R hR
    and_intros
    exact hR G5 (aq.refl _)
   intro Fr G5 hFr t5 g5
   have hfs:∀ t∈ts.filter (frB G4 es),∃ key,G5 t=some (.tup (key.map kV))/\dI key/\key∉es.map (·.key):=fun t ht=>by
    obtain⟨h1,h2⟩:=dF.mp ht
    obtain⟨key,h3,eo⟩:=hkt t h1
    exact⟨key,t5 _ _ h3,eo,GC h3 hes4 h2⟩
   have lfs:(ts.filter (frB G4 es)).length<=14:=bA (jK _ _) (by omega)
   generalize ts.filter (frB G4 es)=fs at g5 hfs lfs
   have A5:=A4.same t5
   have hTh5:=t5 _ _ g4'
   have hD5:=t5 _ _ hD4
   have hkt5:∀ t∈ts,∃ key,G5 t=some (.tup (key.map kV))/\dI key:=fun t ht=>let ⟨key,h,eo⟩:=hkt t ht;⟨key,t5 _ _ h,eo⟩
   have t05:=t04.trans t5
   rw[hN]
   clear hN nn hkt hes4 g4' hts4 hD4 A4 t5 hFr t14 t1
   grind
   refine⟨⟨by decide,by decide⟩,_,.l hD5,?_⟩
   and_intros
   rw[List.length_map,lt14]
   obtain⟨u,hu,ul⟩:∃ u:Nat,v/100%14=(u:Int)/\u<14:=⟨(v/100%14).toNat,by omega,by omega⟩
   obtain⟨te,hte⟩:∃ t,ts[u]?=some t:=⟨_,List.getElem?_eq_getElem (by omega)⟩
   obtain⟨keyE,hke,eoE⟩:=hkt5 te (bp hte)
   refine⟨by decide,_,.ref te,.l hD5,by rw[show v/100%((14:Nat):Int)=(u:Int) from hu];exact bt (by rw[List.getElem?_map,hte];rfl),?_⟩
   cbv
   grind
   refine⟨big (by decide),fun p1 Ga q1 ta u1=>⟨big (by decide),fun p2 Gb q2 tb u2=>⟨big (by decide),fun p3 Gc q3 tc u3=>⟨big (by decide),fun p4 Gd q4 td u4=>⟨big (by decide),fun p5 Ge q5 te' u5=>⟨big (by decide),fun p6 Gf q6 tf u6=>⟨big (by decide),fun Nl G6 q7 tg gN=>?_⟩⟩⟩⟩⟩⟩⟩
   have hnl:∀ w∈[V.non,V.ref p1,V.ref p2,V.ref p3,V.ref p4,V.ref p5,V.ref p6,V.str ("end":Str)],ju G6 w:=fun w hw=>by
    have sf:=tf.trans tg
    have se:=te'.trans sf
    have sd:=td.trans se
    have sc:=tc.trans sd
    simp only[aD,bM,bN] at hw
    rcases hw with rfl | rfl | rfl | rfl | rfl | rfl | rfl | rfl
    ·exact .non
    ·exact .tup (ss:=["phrase",""]) ((tb.trans sc) _ _ u1) (by decide)
    ·exact .tup (ss:=["phrase","a  b"]) (sc _ _ u2) (by decide)
    ·exact .tup (ss:=["part","abcdefg"]) (sd _ _ u3) (by decide)
    ·exact .tup (ss:=["end","a"]) (se _ _ u4) (by decide)
    ·exact .lst (sf _ _ u5)
    ·exact .tup (ss:=["word","a"]) (tg _ _ u6) (by decide)
    ·exact .str
   have t56:aq G5 G6:=ta.trans (tb.trans (tc.trans (td.trans (te'.trans (tf.trans tg)))))
   have gN:G6 Nl=some (.lst [V.non,V.ref p1,V.ref p2,V.ref p3,V.ref p4,V.ref p5,V.ref p6,V.str ("end":Str)]):=gN
   have lnl:[V.non,V.ref p1,V.ref p2,V.ref p3,V.ref p4,V.ref p5,V.ref p6,V.str ("end":Str)].length=8:=rfl
   generalize [V.non,V.ref p1,V.ref p2,V.ref p3,V.ref p4,V.ref p5,V.ref p6,V.str ("end":Str)]=nl at hnl gN lnl
   clear u1 u2 u3 u4 u5 u6 q1 q2 q3 q4 q5 q6 q7 ta tb tc td te' tf tg
   cbv
   grind
   refine⟨⟨by decide,by decide,by decide⟩,⟨by decide,by decide,by decide⟩,by decide,big (by decide),fun p1 Ga q1 ta u1=>⟨big (by decide),fun Bd G7 q2 tb gB=>?_⟩⟩
   have hbl:∀ w∈[V.int (-1),V.int (10^Int.toNat 9+1),V.bl true,V.non,V.str (Str.ofString "1"),V.int (l0-1),V.int (-1-v%10^Int.toNat 9),V.ref p1],rS G7 l0 w:=fun w hw=>by
    have h9:(10:Int)^Int.toNat 9=1000000000:=by decide
    simp only[aD,bM,bN] at hw
    rcases hw with rfl | rfl | rfl | rfl | rfl | rfl | rfl | rfl
    ·exact .int _ (.inl (by decide))
    ·exact .int _ (.inr (.inl (by omega)))
    ·exact .bl _
    ·exact .non
    ·exact .str _
    ·exact .int _ (.inr (.inr (by omega)))
    ·exact .int _ (.inl (by omega))
    ·exact .lst (tb _ _ u1)
   have lbl:[V.int (-1),V.int (10^Int.toNat 9+1),V.bl true,V.non,V.str (Str.ofString "1"),V.int (l0-1),V.int (-1-v%10^Int.toNat 9),V.ref p1].length=8:=rfl
   generalize [V.int (-1),V.int (10^Int.toNat 9+1),V.bl true,V.non,V.str (Str.ofString "1"),V.int (l0-1),V.int (-1-v%10^Int.toNat 9),V.ref p1]=bl at hbl gB lbl
   have t67:aq G6 G7:=ta.trans tb
   have t57:=t56.trans t67
   have t07:=t05.trans t57
   have A7:=A5.same t57
   have gN7:=t67 _ _ gN
   have hnl7:∀ w∈nl,ju G7 w:=fun w hw=>(hnl w hw).same t67
   have hTh7:=t57 _ _ hTh5
   have gF7:=t57 _ _ g5
   have hfs7:∀ t∈fs,∃ key,G7 t=some (.tup (key.map kV))/\dI key/\key∉es.map (·.key):=fun t ht=>let ⟨key,h,r⟩:=hfs t ht;⟨key,t57 _ _ h,r⟩
   have hkE7:=t57 _ _ hke
   clear u1 q1 q2 ta tb t67 t57 t56 t05 t04 A5 gN hnl hTh5 g5 hfs hke hkt5 hD5
   cbv
   grind
   refine⟨by decide,?_⟩
   cbv
   obtain⟨wn,hwn,awn⟩:=kf (l:=nl) (i:=v/48%8) (by omega) (by omega)
   have hwn:=hnl7 wn hwn
   grind
   by_cases s0:v%6=0
   ·rw[decide_eq_true s0,if_pos rfl]
    obtain⟨wb,hwb,awb⟩:=kf (l:=bl) (i:=v/6%8) (by omega) (by omega)
    have hwb:=hbl wb hwb
    refine cN fun n2 hM=>?_
    and_intros
    refine⟨⟨by decide,by decide⟩,by decide,_,wb,.l gB,awb,?_⟩
    rw[hM]
    clear hM n2
    and_intros
    refine⟨⟨by decide,by decide⟩,by decide,_,wn,.l gN7,awn,big (by decide),fun pl G8 _ t8 g8=>⟨⟨by decide,by decide⟩,by decide,?_⟩⟩
    obtain⟨wx,hwx,awx⟩:=kf (l:=[V.ref te,wn]) (i:=v/400%2) (by omega) (by show v/400%2<2;omega)
    refine⟨_,wx,.l g8,awx,big (by decide),fun R G9 _ t9 g9=>k R wb wx .non _ G9 (t07.trans (t8.trans t9)) g9 (.day _ _ (hwb.same (t8.trans t9)) ?_)⟩
    simp only[aD,bM,bN] at hwx
    rcases hwx with rfl | rfl
    ·exact .inr ⟨te,keyE,rfl,(t8.trans t9) _ _ hkE7,eoE⟩
    ·exact .inl (hwn.same (t8.trans t9))
   rw[decide_eq_false s0,if_neg (by decide)]
   show nn _ _ _
   rw[hN]
   clear hN nn hbl gB lbl s0
   refine gY (fun σ G8=>σ=[some (V.ref st),some (V.ref D),some (V.int M),some (V.int v),some (V.ref nw),some (V.int l0),some (V.ref Th),some (V.ref Fr),some (V.ref te),some (V.ref Nl),some (V.ref Bd),some (V.int (v%6)),none,none]/\aq G7 G8/\fs≠[]) ?_ ?_
   ·rintro σ G8 ⟨rfl,t78,hne⟩
    have t08:=t07.trans t78
    have A8:=A7.same t78
    have gN8:=t78 _ _ gN7
    have hwn8:=hwn.same t78
    have hTh8:=t78 _ _ hTh7
    have gF8:=t78 _ _ gF7
    have hpos:0<fs.length:=lH.mpr hne
    obtain⟨tf,htf,atf⟩:∃ t∈fs,atI (fs.map V.ref) (v/100%(fs.length:Int))=some (V.ref t):=by
     have h1:=cO (v/100) (show (fs.length:Int)≠0 by omega)
     have h2:=dD (v/100) (show (0:Int)<fs.length by omega)
     exact⟨fs[(v/100%(fs.length:Int)).toNat]'(by omega),fQ _,eQ h1 (by rw[List.getElem?_map,List.getElem?_eq_getElem (show (v/100%(fs.length:Int)).toNat<fs.length by omega)];rfl)⟩
    obtain⟨keyF,hkF,eoF,nkF⟩:=hfs7 tf htf
    have hkF8:=t78 _ _ hkF
    clear t07 t78 A7 gN7 hwn hTh7 gF7 hfs7 hkF htf
    refine gY (fun σ G9=>σ=[some (V.ref st),some (V.ref D),some (V.int M),some (V.int v),some (V.ref nw),some (V.int l0),some (V.ref Th),some (V.ref Fr),some (V.ref te),some (V.ref Nl),some (V.ref Bd),some (V.int (v%6)),none,none]/\aq G8 G9) ?_ ?_
    ·rintro σ G9 ⟨rfl,t9⟩
     refine gY (fun σ G10=>(∃ o,σ=[some (V.ref st),some (V.ref D),some (V.int M),some (V.int v),some (V.ref nw),some (V.int l0),some (V.ref Th),some (V.ref Fr),some (V.ref te),some (V.ref Nl),some (V.ref Bd),some (V.int (v%6)),none,o])/\aq G8 G10) ?_ ?_
     ·rintro σ G10 ⟨⟨o13,rfl⟩,t10⟩
      have gF10:=t10 _ _ gF8
      refine gY (fun σ G11=>(∃ o o',σ=[some (V.ref st),some (V.ref D),some (V.int M),some (V.int v),some (V.ref nw),some (V.int l0),some (V.ref Th),some (V.ref Fr),some (V.ref te),some (V.ref Nl),some (V.ref Bd),some (V.int (v%6)),o,o'])/\aq G8 G11) ?_ ?_
      ·rintro σ G11 ⟨⟨o12,o13',rfl⟩,t11⟩
       have gF11:=t11 _ _ gF8
       and_intros
       refine⟨⟨by decide,by decide⟩,_,.l gF11,?_⟩
       rw[List.length_map]
       refine⟨by omega,_,V.ref tf,.l gF11,atf,⟨by decide,by decide⟩,by decide,_,wn,.l (t11 _ _ gN8),awn,big (by decide),fun pl G12 _ t12 g12=>⟨⟨by decide,by decide⟩,by decide,?_⟩⟩
       obtain⟨wx,hwx,awx⟩:=kf (l:=[V.ref tf,wn]) (i:=v/6%2) (by omega) (by show v/6%2<2;omega)
       refine⟨_,wx,.l g12,awx,big (by decide),fun R G13 _ t13 g13=>k R _ _ _ _ G13 (t08.trans (t11.trans (t12.trans t13))) g13 (.strike _ ?_)⟩
       simp only[aD,bM,bN] at hwx
       rcases hwx with rfl | rfl
       ·exact .inr ⟨tf,keyF,rfl,(t11.trans (t12.trans t13)) _ _ hkF8,eoF,nkF⟩
       ·exact .inl (hwn8.same (t11.trans (t12.trans t13)))
      ·intro U hU
       and_intros
       by_cases s4:v%6=4
       ·rw[decide_eq_true s4,if_pos rfl]
        refine cN fun n2 hM=>?_
        and_intros
        refine⟨big (by decide),fun p1 Ga _ ta u1=>⟨big (by decide),fun Bl Gb _ tb gBl=>⟨⟨by decide,by decide⟩,by decide,?_⟩⟩⟩
        obtain⟨wb,hwb,awb⟩:=kf (l:=[V.int M,V.int (-1),V.bl true,V.str (Str.ofString "0"),V.ref p1,V.int (M+v)]) (i:=v/6%6) (by omega) (by show v/6%6<6;omega)
        have hwb:NumV Gb M wb:=by
         simp only[aD,bM,bN] at hwb
         rcases hwb with rfl | rfl | rfl | rfl | rfl | rfl
         ·exact .int _ (.inr (eJ _))
         ·exact .int _ (.inl (by decide))
         ·exact .bl _
         ·exact .str
         ·exact .lst (tb _ _ u1)
         ·exact .int _ (.inr (by omega))
        refine⟨_,wb,.l gBl,awb,?_⟩
        have tab:=ta.trans tb
        rw[hM]
        clear hM n2
        and_intros
        refine⟨⟨by decide,by decide⟩,_,.l (tab _ _ gF10),?_⟩
        rw[List.length_map]
        exact⟨by omega,_,V.ref tf,.l (tab _ _ gF10),atf,big (by decide),fun R Gc _ tc gc=>k R _ _ _ _ Gc (t08.trans (t10.trans (tab.trans tc))) gc (.num tf keyF wb ((t10.trans (tab.trans tc)) _ _ hkF8) eoF nkF (.inl (hwb.same tc)))⟩
       ·rw[decide_eq_false s4,if_neg (by decide)]
        exact hU _ _ ⟨⟨_,_,rfl⟩,t10⟩
     ·intro U hU
      have gF9:=t9 _ _ gF8
      and_intros
      by_cases s3:v%6=3
      ·rw[decide_eq_true s3,if_pos rfl]
       refine⟨bh _,fun p0 Ga _ ta g0=>⟨0,_,by decide,rA (.of ((t9.trans ta) _ _ hTh8)) (.of g0),?_⟩⟩
       have ta8:=t9.trans ta
       by_cases hs:es=[]
       ·rw[decide_eq_true (by rw[hs];rfl),if_neg (by decide)]
        exact hU _ _ ⟨⟨_,rfl⟩,ta8⟩
       ·rw[decide_eq_false (fun z=>hs (List.map_eq_nil_iff.mp z)),if_pos (by decide)]
        have hep:0<es.length:=lH.mpr hs
        have Aa:=A8.same ta8
        refine cN fun n2 hM=>?_
        and_intros
        refine⟨es.map fun e:Ben=>(e.num,V.ref e.adr),.inl Aa.n,by rw[List.length_map];omega,fun ns hp _ pS Gb _ tb gS=>?_⟩
        have Ab:=Aa.same tb
        and_intros
        refine⟨⟨by decide,by decide⟩,_,.inl Ab.n,?_⟩
        and_intros
        rw[jy]
        have lns:ns.length=es.length:=by rw[hp.length_eq,List.length_map,List.length_map]
        have h1:=cO (v/6) (show (es.length:Int)≠0 by omega)
        have h2:=dD (v/6) (show (0:Int)<es.length by omega)
        have ilt:(v/6%(es.length:Int)).toNat<ns.length:=by omega
        obtain⟨e,he,ee⟩:∃ e∈es,ns[(v/6%(es.length:Int)).toNat]=e.num:=by
         have:=hp.mem_iff.mp (fQ ilt)
         rw[List.map_map] at this
         obtain⟨e,he,ee⟩:=aC.mp this
         exact⟨e,he,ee.symm⟩
        refine⟨by omega,_,V.int e.num,.l gS,eQ h1 (by rw[List.getElem?_map,List.getElem?_eq_getElem ilt,ee];rfl),?_⟩
        rw[hM]
        clear hM n2
        and_intros
        refine⟨⟨by decide,by decide⟩,_,.l ((ta.trans tb) _ _ gF9),?_⟩
        rw[List.length_map]
        exact⟨by omega,_,V.ref tf,.l ((ta.trans tb) _ _ gF9),atf,big (by decide),fun R Gc _ tc gc=>k R _ _ _ _ Gc (t08.trans (ta8.trans (tb.trans tc))) gc (.num tf keyF _ ((ta8.trans (tb.trans tc)) _ _ hkF8) eoF nkF (.inr ⟨e,he,rfl⟩))⟩
      ·rw[decide_eq_false s3,if_neg (by decide)]
       exact hU _ _ ⟨⟨_,rfl⟩,t9⟩
    ·intro U hU
     and_intros
     by_cases s2:v%6=2
     ·rw[decide_eq_true s2,if_pos rfl]
      refine⟨bh _,fun p0 G9 _ t9 g9=>⟨0,_,by decide,rA (.of (t9 _ _ hTh8)) (.of g9),?_⟩⟩
      by_cases hs:es=[]
      ·rw[decide_eq_true (by rw[hs];rfl),if_neg (by decide)]
       exact hU _ _ ⟨rfl,t9⟩
      ·rw[decide_eq_false (fun z=>hs (List.map_eq_nil_iff.mp z)),if_pos (by decide)]
       have hep:0<es.length:=lH.mpr hs
       have h1:=cO (v/6) (show (es.length:Int)≠0 by omega)
       have h2:=dD (v/6) (show (0:Int)<es.length by omega)
       have ilt:(v/6%(es.length:Int)).toNat<es.length:=by omega
       obtain⟨wy,hwy,awy⟩:=kf (l:=[V.non,V.int M,V.int (-1)]) (i:=v/400%3) (by omega) (by show v/400%3<3;omega)
       have hyy:wy=.non∨∃ n,wy=.int n:=by
        simp only[aD,bM,bN] at hwy
        rcases hwy with rfl | rfl | rfl
        ·exact .inl rfl
        ·exact .inr ⟨_,rfl⟩
        ·exact .inr ⟨_,rfl⟩
       refine⟨⟨by decide,by decide⟩,_,.l (t9 _ _ hTh8),?_⟩
       rw[List.length_map]
       exact⟨by omega,_,V.ref (es[(v/6%(es.length:Int)).toNat]'ilt).adr,.l (t9 _ _ hTh8),eQ h1 (by rw[List.getElem?_map,List.getElem?_eq_getElem ilt];rfl),big (by decide),fun pl G10 _ t10 g10=>⟨⟨by decide,by decide⟩,by decide,_,wy,.l g10,awy,big (by decide),fun R G11 _ t11 g11=>k R _ _ _ _ G11 (t08.trans (t9.trans (t10.trans t11))) g11 (.twice _ wy (fQ ilt) hyy)⟩⟩
     ·rw[decide_eq_false s2,if_neg (by decide)]
      exact hU _ _ ⟨rfl,aq.refl _⟩
   ·intro U hU
    and_intros
    obtain⟨wy,hwy,awy⟩:=kf (l:=[V.non,V.int M]) (i:=v/400%2) (by omega) (by show v/400%2<2;omega)
    have hyy:wy=.non∨∃ n,wy=.int n:=by
     simp only[aD,bM,bN] at hwy
     rcases hwy with rfl | rfl
     ·exact .inl rfl
     ·exact .inr ⟨_,rfl⟩
    have fin2:∀ G8 R G9,aq G7 G8->aq G8 G9->G9 R=some (.lst [V.int (l0+v/6%3),wn,wy,V.str (Str.ofString "NoEntry")])->Q (.ref R) G9:=fun G8 R G9 t8 t9 g9=>k R _ _ _ _ G9 (t07.trans (t8.trans t9)) g9 (.ent _ _ _ (by omega) (by omega) (hwn.same (t8.trans t9)) hyy)
    by_cases s1:v%6=1
    ·rw[decide_eq_true s1,if_pos rfl]
     exact⟨⟨by decide,by decide⟩,by decide,⟨by decide,by decide⟩,by decide,_,wn,.l gN7,awn,big (by decide),fun pl G8 _ t8 g8=>⟨⟨by decide,by decide⟩,by decide,_,wy,.l g8,awy,big (by decide),fun R G9 _ t9 g9=>fin2 G8 R G9 t8 t9 g9⟩⟩
    rw[decide_eq_false s1,if_neg (by decide)]
    refine⟨bh _,fun p0 G8 _ t8 g8=>⟨0,_,by decide,rA (.of (t8 _ _ gF7)) (.of g8),?_⟩⟩
    by_cases hf:fs.map V.ref=[]
    ·rw[decide_eq_true hf,if_pos rfl]
     exact⟨⟨by decide,by decide⟩,by decide,⟨by decide,by decide⟩,by decide,_,wn,.l (t8 _ _ gN7),awn,big (by decide),fun pl G9 _ t9 g9=>⟨⟨by decide,by decide⟩,by decide,_,wy,.l g9,awy,big (by decide),fun R G10 _ t10 g10=>fin2 G9 R G10 (t8.trans t9) t10 g10⟩⟩
    rw[decide_eq_false hf,if_neg (by decide)]
    exact hU _ _ ⟨rfl,t8,fun z=>hf (by rw[z];rfl)⟩
  ·intro U hU
   and_intros
   refine⟨_,.ref lg,.l A0.s,bt (j:=2) rfl,bh _,fun p1 G1 _ t1 g1=>?_⟩
   refine⟨0,_,by decide,rA (.of (t1 _ _ hlg)) (.of g1),?_⟩
   rcases hlast with rfl | ⟨tl,a,b,c,hl1,hl2⟩
   ·have e0:gs=[]:=by cases hgs;rfl
    rw[decide_eq_true rfl,if_neg (by decide)]
    refine hU _ _ ⟨?_,t1⟩
    rw[hl0 e0]
   ·have hne:ls≠[]:=fun e=>by rw[e] at hl1;cases hl1
    rw[decide_eq_false hne,if_pos (by decide)]
    refine⟨_,.ref lg,.l (t1 _ _ A0.s),bt (j:=2) rfl,?_⟩
    and_intros
    refine⟨_,.ref tl,.l (t1 _ _ hlg),oE hl1,?_⟩
    and_intros
    exact⟨_,_,.inr (.of (t1 _ _ hl2)),eQ (by decide) rfl,hU _ _ ⟨rfl,t1⟩⟩
def pJ:Sp:=fun vs H Q _=>∃ (p:Addr) (ws:List Int) (m:Int),vs=[.ref p,.int m]/\H p=some (.lst (ws.map V.int))/\ws.length<=1000/\∀ H',aq H H'->Q (.bl (Mk.safe m ws)) H'
theorem pG:aM ["weights","m","differences"] ["weights","m"] (ak mR):=by subst_eqs
theorem vp (F:Fun K "are_safe" "are_safe" mR f fd) (T:Bl mg) (AF:AdF K mg Ad) (C_common_divisor:Fnc P w K mg base (CX1 P w) 1 "common_divisor" ["one","other"] iS):bI P w K mg base (CX1 P w) 2 f fd ["weights","m"] pJ:=by
 refine F.okX (k:=1) pG ?_ ?_
 ·bv_decide
 ·bv_normalize
  obtain⟨p,ws,m,rfl,hp,hl,k⟩:=h
  refine⟨_,af (j8 (i:=2) ["ahead","behind"] pG.nd rfl (Or.inl rfl) rfl ⟨rfl,by decide +kernel,rfl,by decide +kernel⟩ (.nil) (by decide +kernel) (ED (K:=K) rfl T.zip (ae (pvL 0) (ae (nE (yJ (K:=K) rfl) (pvL 0) (nI (ag)) (uy)) (aa)))) (fun _ _ _ _=>nG (K:=K) (n:=2) rfl rfl (aT (aB (i:=0) (show (["ahead","behind"]:List Str).Nodup from by decide +kernel)) (aT (aB (i:=1) (show (["ahead","behind"]:List Str).Nodup from by decide +kernel)) (fg)))) (fun _ _ _ _=>fh) (fun _ _ _ _=>aw me (pvL 1) (pvL 0))) (aj (aK (ay (jv (K:=K) rfl rfl) T.all qu (ae (nC ["number"] rfl ⟨rfl,by decide +kernel,rfl,by decide +kernel⟩ (.cons (j:=1) rfl (.inl (by kernel_rfl)) (.nil)) (by decide +kernel) (cP (K:=K) rfl (aw aQ (pvL 0) (pvL 2))) (fun _ _ _ _=>aB (i:=0) (show (["number","m"]:List Str).Nodup from by decide +kernel)) (fun _ _ _ _=>fh) (fun _ _ _ _=>cn (bX (K:=K) rfl hu) (aG C_common_divisor mK (hr.mono (by decide)) (ae (pvL 0) (ae (pvC 1) (aa)))) (ag) (aL _))) (aa))))),?_⟩
  ac_nf
  refine⟨_,.of hp,fun q H1 hq s1 h1=>?_⟩
  have hp1:H1 p=some (.lst (ws.map V.int)):=s1 _ _ hp
  have ec:pO (ws.map V.int) (some 1) none=(ws.drop 1).map V.int:=by rw[show (1:Int)=((1:Nat):Int) from rfl,oI,List.map_drop]
  rw[ec] at h1
  refine⟨⟨_,.of hp1⟩,⟨_,.of h1⟩,Jx V.int V.int ka ka (.of hp1) (.of h1) (ao (by omega)) (fun a b=>.int (b-a)) ?_ ?_⟩
  ·intro a b hab H' s' R hR
   ac_nf
   exact hR H' (aq.refl _)
  ·intro D H2 hD s2 h2
   have e2:H2 D=some (.lst ((Mk.dif ws).map V.int)):=by rw[h2];unfold Mk.dif;rw[List.map_map];rfl
   have hp2:H2 p=some (.lst (ws.map V.int)):=s2 _ _ hp1
   have ldif:(Mk.dif ws).length<=1000:=by unfold Mk.dif;rw[List.length_map,List.length_zip];omega
   ac_nf
   refine⟨_,_,hp2,e2,?_,fun r H3 hr s3 h3=>.inl ⟨⟨_,.of h3⟩,?_⟩⟩
   ·rw[List.length_map,List.length_map];exact aP (ao (by omega))
   ·rw[←b9] at h3
    refine xh (xs:=ws++Mk.dif ws) V.int ka (jB (.of h3)) (by rw[bb];exact ao (by omega)) (fun n=>.bl (Mk.cop m n)) ?_ ?_
    ·intro n hn H' s' R hR
     ac_nf
     refine⟨n,m,rfl,?_⟩
     have e:decide (((Int.gcd n m:Nat):Int)=1)=Mk.cop m n:=by
      unfold Mk.cop
      by_cases h:Int.gcd n m=1
      ·rw[decide_eq_true h];exact decide_eq_true (by omega)
      ·rw[decide_eq_false h];exact decide_eq_false (by omega)
     show R (V.bl (decide (((Int.gcd n m:Nat):Int)=1))) H'
     rw[e]
     exact hR H' (aq.refl _)
    ·intro D' H4 hD' s4 h4
     refine⟨D',(ws++Mk.dif ws).map (Mk.cop m),rfl,.of (by rw[h4,List.map_map];rfl),?_⟩
     have ea:(((ws++Mk.dif ws).map (Mk.cop m)).all id)=Mk.safe m ws:=by unfold Mk.safe;rw[List.all_map];rfl
     rw[ea]
     exact k H4 (s1.trans (s2.trans (s3.trans s4)))
def bj (b:Int):V->Bool
 | .int i=>decide (0<=i)&&decide (i<b)
 | _=>false
def gE:Sp:=fun vs H Q _=>∃ (x:V) (t:Tg) (b:Int),vs=[x,.int b]/\cz H x=some t/\Q (.bl (bj b x)) H
theorem vP:aM ["thing","bound"] ["thing","bound"] (ak mS):=by subst_eqs
theorem vq (F:Fun K "is_below" "is_below" mS f fd) (T:Bl mg) (AF:AdF K mg Ad) (C_is_whole:Fnc P w K mg base (CX1 P w) 1 "is_whole" ["thing"] pK):bI P w K mg base (CX1 P w) 2 f fd ["thing","bound"] gE:=by
 refine F.okX (k:=1) vP ?_ ?_
 ·bv_decide
 ·bv_normalize
  obtain⟨x,t,b,rfl,ht,k⟩:=h
  refine⟨_,aj (aK (mL (aG C_is_whole au (hr.mono (by decide)) (ae (pvL 0) (aa))) (kS (Cj ik oT (ag) (pvL 0) (pvL 1))))),?_⟩
  by_cases hs:∃ i,x=.int i
  ·obtain⟨i,rfl⟩:=hs
   cases ht
   ac_nf
   refine⟨_,Tg.int,rfl,rfl,?_⟩
   ac_nf
   have ek:bj b (.int i)=(decide (0<=i)&&decide (i<b)):=rfl
   rw[ek] at k
   rw[if_pos (by simp)]
   cases h0:decide (0<=i) with
   | false=>rw[h0,kq] at k;bv_omega;exact k
   | true=>rw[h0,fR] at k;bv_omega;exact k
  ·have hv:bj b x=false:=by
    cases x with
    | int i=>exact absurd ⟨i,rfl⟩ hs
    | _=>rfl
   have hne:t≠Tg.int:=fun e=>by
    subst e
    cases x with
    | int i=>exact hs ⟨i,rfl⟩
    | ref a =>
     have h':i8 (H a)=some .int:=ht
     cases e:H a with
     | none=>rw[e] at h';cases h'
     | some o=>rw[e] at h';cases o with
      | frz ob u=>cases u<;>cases h'
      | _=>cases h'
    | _=>cases ht
   rw[hv] at k
   ac_nf
   refine⟨x,t,rfl,ht,?_⟩
   ac_nf
   rw[decide_eq_false hne]
   bv_omega
   exact k
def nR:Sp:=fun vs H Q _=>∃ (x:V) (t:Tg) (n:Nat),vs=[x,.int n]/\cz H x=some t/\(∀ z,x=.str z->z.length<=10000)/\n<=1000/\∀ H',aq H H'->Q (.bl (iK n x)) H'
theorem nN:aM ["thing","most","words"] ["thing","most"] (ak kX):=by subst_eqs
theorem uj (F:Fun K "are_words" "are_words" kX f fd) (T:Bl mg) (AF:AdF K mg Ad) (C_are_letters:Fnc P w K mg base (CX1 P w) 1 "are_letters" ["thing","most"] iy):bI P w K mg base (CX1 P w) 2 f fd ["thing","most"] nR:=by
 refine F.okX (k:=1) nN ?_ ?_
 ·bv_decide
 ·bv_normalize
  obtain⟨x,t,n,rfl,ht,hz,hn,k⟩:=h
  refine⟨_,af (bq (cL (bW (ay (dS .str) T.isinstance bt_isinstance (ae (pvL 0) (ae (gR T.str oG) (aa)))))) (aj (aK (e8))) (aI)) (af (aA (i:=2) nN.nd (iZ (K:=K) rfl PySem.F.plainAttrs_str PySem.F.slot_str_split PySem.F.type_str_split BX (pvL 0) (ae (av) (aa)))) (aj (aK (mL (cn ik (ay (bG (K:=K) rfl) T.len cB (ae (pvL 2) (aa))) (pvL 1) (aL _)) (kS (ay (jv (K:=K) rfl rfl) T.all qu (ae (nC ["word"] rfl ⟨rfl,by decide +kernel,rfl,by decide +kernel⟩ (.nil) (by decide +kernel) (cP (K:=K) rfl (pvL 2)) (fun _ _ _ _=>aB (i:=0) (show (["word"]:List Str).Nodup from by decide +kernel)) (fun _ _ _ _=>fh) (fun _ _ _ _=>aG C_are_letters mK (hr.mono (by decide)) (ae (pvL 0) (ae (gC AF.v_LONGEST_WORD) (aa))))) (aa)))))))),?_⟩
  by_cases hs:∃ z,x=.str z
  ·obtain⟨z,rfl⟩:=hs
   cases ht
   have hl:=hz z rfl
   have hc:=gr z
   have ek:iK n (.str z)=m7 n z.cps.toList:=rfl
   ac_nf
   refine⟨trivial,Tg.str,rfl,?_⟩
   ac_nf
   obtain⟨sl1,sl2⟩:=Mk.rJ (c:=32) z.cps.toList
   refine⟨rfl,by omega,32,rfl,fun p H1 hp s1 h1=>⟨_,.l h1,?_⟩⟩
   rw[List.length_map]
   by_cases h2:(Mk.bQ 32 z.cps.toList).length<=n
   ·rw[decide_eq_true (show ((Mk.bQ 32 z.cps.toList).length:Int)<=(n:Int) by omega)]
    bv_omega
    refine .inl ⟨⟨_,.of h1⟩,xh (fun w:List Nat=>V.str (tx w)) (fun a b e=>xU (V.str.inj e)) (jB (.of h1)) (ao (by omega)) (fun w=>.bl (eP 20 w)) ?_ ?_⟩
    ·intro w hw H2 s2 R hR
     have hwl:=sl2 w hw
     ac_nf
     refine⟨_,Tg.str,20,rfl,rfl,(fun y e=>by cases e;rw[fq];omega),by decide,fun H3 s3=>?_⟩
     have e:gq 20 (.str (tx w))=eP 20 w:=by show eP 20 (tx w).cps.toList=_;rw[ni]
     rw[e]
     exact hR H3 s3
    ·intro D H2 hD s2 h2'
     refine⟨D,(Mk.bQ 32 z.cps.toList).map (eP 20),rfl,.of (by rw[h2',List.map_map];rfl),?_⟩
     have e:((Mk.bQ 32 z.cps.toList).map (eP 20)).all id=iK n (.str z):=by
      rw[ek]
      unfold m7
      rw[decide_eq_true h2,List.all_map];rfl
     rw[e]
     exact k H2 (s1.trans s2)
   ·have e:iK n (.str z)=false:=by rw[ek];unfold m7;rw[decide_eq_false h2];rfl
    rw[e] at k
    rw[decide_eq_false (show ¬ ((Mk.bQ 32 z.cps.toList).length:Int)<=(n:Int) by omega)]
    bv_omega
    exact k H1 s1
  ·have hv:iK n x=false:=by
    cases x with
    | str z=>exact absurd ⟨z,rfl⟩ hs
    | _=>rfl
   have hne:=qk ht fun z e=>hs ⟨z,e⟩
   rw[hv] at k
   ac_nf
   refine⟨trivial,t,ht,?_⟩
   cases t<;>first
    | exact absurd rfl hne
    | exact k H (aq.refl _)
inductive dO (Ad:Ads) (spf:Sp) (vs:List V) (H:Hp) (Q:VK) (E:XK):Prop
 | mk (b ca dn de f:Addr) (es:List Ben) (al:List Nat) (ws:List Int) (r n:Int) (bar:Int->Bool) (q0:vs=[.ref b,.ref f]) (q1:cQ Ad H b ca dn de es) (q2:gd Ad H ca al ws r) (q3:gO al ws r) (q4:Bar spf bar H) (q5:m5 (es.map (·.num)) bar n) (q6:((n<dP al ws/\∀ H',aq H H'->Q (.int n) H')∨(dP al ws<=n/\∀ H',aq H H'->E (.ref Ad.TooMany) none H'))):dO Ad spf vs H Q E
theorem fo:aM ["self","is_barred","k"] ["self","is_barred"] (ak cp):=by subst_eqs
theorem mG {k:Nat} (F:Fun K "least_free" "Book.least_free" cp f fd) (T:Bl mg) (AF:AdF K mg Ad) (M_Code_many:Mtd P w K mg base (CX1 P w) Ad.Code "many" 1 ["self"] (km Ad)):uG P w K mg base (CX1 P w) (k+2) f fd ["self","is_barred"] (EX P w K mg base k 1 (dO Ad)):=by
 refine F.okH (j:=k+1) (k:=k) (n:=1) fo (fun spf vs H Q E h=>?_) (fun cdv A outer s H vs Q E hr lf spf hlf lam step h=>?_)
 ·obtain⟨b,ca,dn,de,f,es,al,ws,r,n,bar,rfl,_⟩:=h
  rfl
 ·obtain⟨b,ca,dn,de,f,es,al,ws,r,n,bar,rfl,B,C,ok,Fb,Lf,k⟩:=h
  obtain rfl:f=lf:=by cases hlf;rfl
  have hu:=hr.ft
  have hu1:=iM hr
  refine⟨_,af (aA (i:=2) fo.nd (ag)) (af (rz cm ((my (aJ (oS (K:=K) rfl hu1) (pvL 2) (bP (K:=K) rfl (pvL 0)) (by kernel_rfl)) (kh (bW (pB step rfl (hr.mono (by omega)) (pvL 1) (ae (pvL 2) (aa)))))).pt) (aj (aA (i:=2) fo.nd (aw aQ (pvL 2) (ag))))) (af (bq (aJ (xy (K:=K) rfl hu) (pvL 2) (ie M_Code_many au (hr.mono (by omega)) (bP (K:=K) rfl (pvL 0))) (aL _)) (aj (dq dG AF.q_TooMany AF.g_TooMany cG rfl (ae (av) (aa)))) (aI)) (aj (aK (pvL 2))))),?_⟩
  grind
  cbv
  grind
  refine uF (fun σ H'=>∃ k:Int,0<=k/\k<=n/\σ=[some (V.ref b),some (V.ref f),some (V.int k)]/\aq H H') (fun σ _=>match σ with | [_,_,some (V.int k)]=>(n-k).toNat | _=>0) ⟨0,by decide,Lf.pos,rfl,aq.refl _⟩ ?_
  rintro σ G ⟨j,j0,jn,rfl,t⟩
  have B1:=B.same t
  obtain⟨dx,h1⟩:=B1.bk
  and_intros
  refine⟨_,dx,_,_,h1,AF.c_Book,AF.n_Book_by_number,gf ca dn de,?_⟩
  refine .inr ⟨_,.inl ⟨_,.inl j,.inl B1.hn,rfl,rfl⟩,?_⟩
  rw[xo B.nn]
  by_cases hm:j∈es.map (·.num)
  ·rw[decide_eq_true hm,if_pos rfl]
   have jl:j≠n:=fun e=>Lf.out (by rw[←e];exact hm)
   refine⟨fun σ G'=>σ=[some (V.ref b),some (V.ref f),some (V.int (j+1))]/\G'=G,?_,rfl,rfl⟩
   rintro σ G' ⟨rfl,rfl⟩
   exact⟨⟨j+1,by omega,by omega,rfl,t⟩,show (n-(j+1)).toNat<(n-j).toNat by omega⟩
  ·rw[decide_eq_false hm,if_neg (by decide)]
   refine⟨trivial,lam.same t,lam.same t,trivial,Fb.same t j G _ (aq.refl _) fun G1 t1=>⟨_,rfl,?_⟩⟩
   by_cases hb:bar j=true
   ·rw[if_pos hb]
    have jl:j≠n:=fun e=>by rw[e,Lf.fr] at hb;cases hb
    refine⟨fun σ G'=>σ=[some (V.ref b),some (V.ref f),some (V.int (j+1))]/\G'=G1,?_,rfl,rfl⟩
    rintro σ G' ⟨rfl,rfl⟩
    exact⟨⟨j+1,by omega,by omega,rfl,t.trans t1⟩,show (n-(j+1)).toNat<(n-j).toNat by omega⟩
   rw[if_neg hb]
   have je:j=n:=by
    rcases Int.lt_or_eq_of_le jn with h | h
    ·rcases Lf.all j j0 h with h | h
     ·exact absurd h hm
     ·exact absurd h hb
    ·exact h
   subst je
   cbv
   have C1:=C.same (t.trans t1)
   have B2:=B1.same t1
   obtain⟨dx2,h12⟩:=B2.bk
   obtain⟨dc,qc,hc1,hc2⟩:=id C1
   grind
   refine⟨_,dx2,_,_,h12,AF.c_Book,AF.n_Book_basis,kC ca dn de,?_⟩
   refine⟨dc,_,hc1,qA (by decide) (by decide) (by decide) al qc r,ca,al,ws,r,rfl,C1,ok.a26,by have:=ok.w3;omega,ok.w8,fun G2 t2=>?_⟩
   and_intros
   have em:(al.length:Int)^(ws.length-1)=dP al ws:=rfl
   rw[em]
   rcases k with ⟨hn,k⟩ | ⟨hn,k⟩
   ·rw[decide_eq_false (show ¬ dP al ws<=j by omega)]
    bv_omega
    show nn _ _ _
    cbv
    and_intros
    exact k G2 (t.trans (t1.trans t2))
   ·rw[decide_eq_true hn]
    bv_omega
    exact⟨aP (ao (by decide)),k G2 (t.trans (t1.trans t2))⟩
def lz:Sp:=fun vs H Q _=>∃ c m n:Int,vs=[.int c,.int m,.int n]/\0<m/\m<=1000/\0<=n/\n<=1000/\∀ p H',H p=none->aq H H'->H' p=some (.lst ((Mk.wts c m n.toNat).map V.int))->Q (.ref p) H'
theorem dz:aM ["_law_cell","_law_m","_law_many_here","_law_found","_law_k","_law_some"] ["_law_cell","_law_m","_law_many_here"] (ak jo):=by subst_eqs
theorem rq (F:Fun K "_law_weights" "_law_weights" jo f fd) (T:Bl mg) (AF:AdF K mg Ad) (C_law_apart:Fnc P w K mg base (CX1 P w) 1 "_law_apart" ["_law_number","_law_m"] nS):bI P w K mg base (CX1 P w) 2 f fd ["_law_cell","_law_m","_law_many_here"] lz:=by
 refine F.okX (k:=1) dz ?_ ?_
 ·bv_decide
 ·bv_normalize
  obtain⟨c,m,n,rfl,hm,hm2,hn0,hn,k⟩:=h
  refine⟨_,af (iO (i:=3) dz.nd (aN (aa))) (af (fM cm rfl (fk T.range (ae (pvL 2) (aa))) (kT (i:=4) dz.nd) (af (j8 (i:=5) ["_law_w"] dz.nd rfl (Or.inl rfl) rfl ⟨rfl,by decide +kernel,rfl,by decide +kernel⟩ (.cons (j:=1) rfl (.inl (by kernel_rfl)) (.cons (j:=4) rfl (.inl (by kernel_rfl)) (.cons (j:=3) rfl (.inl (by kernel_rfl)) (.nil)))) (by decide +kernel) (fk T.range (ae (pvC 1) (aa))) (fun _ _ _ _=>aB (i:=0) (show (["_law_w","_law_m","_law_k","_law_found"]:List Str).Nodup from by decide +kernel)) (fun _ _ _ _=>qf ((mP (bW (aG C_law_apart mK (hr.mono (by decide)) (ae (pvL 0) (ae (pvC 1) (aa))))) (kg ((my (aJ (bX (K:=K) rfl hu) (pvC 2) (ag) (aL _)) (kh (bW (aG C_law_apart mK (hr.mono (by decide)) (ae (aw me (pvL 0) (aX (bO (K:=K) rfl) (pvC 3) (aw me (pvC 2) (ag)) (fun _ _=>rfl))) (ae (pvC 1) (aa))))))).pt))).pt)) (fun _ _ _ _=>pvL 0)) (af (bq (aJ (bX (K:=K) rfl hu) (pvL 5) (aN (aa)) (aL _)) (aj (aA (i:=5) dz.nd (ip (mB (K:=K) rfl rfl) T.list pW (ae (ip zm T.range AQ (ae (pvC 1) (aa))) (aa))))) (aI)) (af (cW (iZ (K:=K) rfl oi om oq ic (pvC 3) (ae (aX (bO (K:=K) rfl) (pvL 5) (aw aW (pvL 0) (ay (bG (K:=K) rfl) T.len cB (ae (pvL 5) (aa)))) (fun _ _=>rfl)) (aa)))) (aj (aA (i:=0) dz.nd (aw bo (pvL 0) (ag)))))))) (aj (aK (pvC 3)))),?_⟩
  ac_nf
  refine⟨by decide,fun p H0 hp s0 h0=>?_⟩
  ac_nf
  refine⟨by omega,by omega,?_⟩
  refine yr (n:=n.toNat) (fun i σ H'=>∃ (ci:Int) (fnd:List Int) (o1 o2:Option V),σ=[some (.int ci),some (.int m),some (.int n),some (.ref p),o1,o2]/\fnd.length=i/\aq H H'/\H' p=some (.lst (fnd.map V.int))/\Mk.mz m (n.toNat-i) ci fnd=Mk.wts c m n.toNat) ?_ ?_ ?_
  ·exact⟨c,[],none,none,rfl,rfl,s0,h0,rfl⟩
  ·rintro i σ H' hi ⟨ci,fnd,o1,o2,rfl,hlen,s1,h1,hgo⟩
   ac_nf
   refine⟨by omega,by omega,?_⟩
   refine xi (xs:=(Mk.ofN m.toNat).map V.int) (qj _) (by rw[List.length_map,Mk.kc];exact ao (by omega)) (pI fun w=>Mk.cop m w&&(fnd.isEmpty||Mk.cop m (w-fnd.getLastD 0))) (fun x=>x) ?_ ?_ ?_
   ·intro x hx H2 s2 R hR
    obtain⟨w,rfl,hw⟩:=BR hx
    have h2:H2 p=some (.lst (fnd.map V.int)):=s2 _ _ h1
    ac_nf
    refine⟨w,m,rfl,by omega,?_⟩
    ac_nf
    have e0:pI (fun w=>Mk.cop m w&&(fnd.isEmpty||Mk.cop m (w-fnd.getLastD 0))) (.int w)=(Mk.cop m w&&(fnd.isEmpty||Mk.cop m (w-fnd.getLastD 0))):=rfl
    rw[e0] at hR
    cases hc:Mk.cop m w with
    | false =>
     rw[hc,kq] at hR
     exact hR H2 (aq.refl _)
    | true =>
     rw[hc,fR] at hR
     bv_omega
     cases hf:fnd with
     | nil =>
      rw[hf] at hlen
      have hi0:i=0:=hlen.symm
      subst hi0
      rw[if_pos (by simp)]
      rw[hf] at hR
      exact hR H2 (aq.refl _)
     | cons a r =>
      have hne:i≠0:=by rw[←hlen,hf];simp
      rw[if_neg (by simp;omega)]
      have hlast:(fnd.map V.int)[i-1]?=some (.int (fnd.getLastD 0)):=by
       rw[List.getElem?_map,←hlen,←List.getLast?_eq_getElem?,List.getLastD_eq_getLast?,hf,List.getLast?_cons];rfl
      have e2:atI (fnd.map V.int) (0+(i:Int)-1)=some (.int (fnd.getLastD 0)):=by
       rw[show 0+(i:Int)-1=((i-1:Nat):Int) by omega];exact bt hlast
      refine⟨_,_,.l h2,e2,_,m,rfl,by omega,?_⟩
      ac_nf
      have e3:fnd.isEmpty=false:=by rw[hf];rfl
      rw[e3,Bool.false_or] at hR
      exact hR H2 (aq.refl _)
   ·intro x hx _ H2 s2 R hR
    ac_nf
    exact hR H2 (aq.refl _)
   ·intro D H2 hD s2 h2
    have h2':H2 D=some (.lst ((Mk.uL m fnd).map V.int)):=by
     rw[h2,List.map_id',zI];rfl
    have hp2:H2 p=some (.lst (fnd.map V.int)):=s2 _ _ h1
    have hsame:∀ H3,aq H' H3->aq H H3:=fun H3 e b o hb=>by
     by_cases hbp:b=p
     ·subst hbp;rw[hp] at hb;cases hb
     ·exact e b o (s1 b o hb)
    have hpk:=Mk.yD hm fnd ci
    have hpos:=Mk.vI hm fnd
    have hat:atI ((Mk.dY m fnd).map V.int) (ci%((Mk.dY m fnd).length:Int))=some (.int ((Mk.dY m fnd).getD (ci%((Mk.dY m fnd).length:Int)).toNat 0)):=by
     have e:((Mk.dY m fnd).map V.int)[(ci%((Mk.dY m fnd).length:Int)).toNat]?=some (.int ((Mk.dY m fnd).getD (ci%((Mk.dY m fnd).length:Int)).toNat 0)):=by
      rw[List.getElem?_map,List.getD_eq_getElem?_getD,List.getElem?_eq_getElem (by omega)];rfl
     have:=bt e
     rwa [Int.toNat_of_nonneg hpk.1] at this
    have hgo2:Mk.mz m (n.toNat-(i+1)) (ci/7) (fnd++[(Mk.dY m fnd).getD (ci%((Mk.dY m fnd).length:Int)).toNat 0])=Mk.wts c m n.toNat:=by
     rw[←hgo,show n.toNat-i=(n.toNat-(i+1))+1 by omega];rfl
    ac_nf
    refine⟨bh _,fun r H3 hr s3 h3=>?_⟩
    refine⟨_,_,.of (s3 _ _ h2'),.of h3,zJ _,rfl,?_⟩
    have s4:aq H' H3:=s2.trans s3
    have hp3:H3 p=some (.lst (fnd.map V.int)):=s3 _ _ hp2
    cases hcand:Mk.uL m fnd with
    | nil =>
     have hpool:Mk.dY m fnd=Mk.ofN m.toNat:=by unfold Mk.dY;rw[if_pos hcand]
     rw[if_pos (show nt (([]:List Int).map V.int) []=true from rfl)]
     intro a H4 ha s5 h4
     refine⟨_,.inr ⟨0,m,h4,⟨by omega,by omega,by omega,by omega⟩,by omega,rfl⟩,fun l H5 hl s6 h5=>?_⟩
     have hp5:H5 p=some (.lst (fnd.map V.int)):=s6 _ _ (s5 _ _ hp3)
     have hl5:H5 l=some (.lst ((Mk.dY m fnd).map V.int)):=by rw[h5,hpool,Int.sub_zero,sT]
     have s7:aq H' H5:=s4.trans (s5.trans s6)
     ac_nf
     refine⟨.inl ⟨rfl,_,.of hp5⟩,_,.l hl5,by rw[List.length_map];omega,_,_,.l hl5,by rw[List.length_map];exact hat,p,_,_,rfl,rfl,hp5,by rw[List.length_map];exact ao (by omega),⟨by decide,by decide⟩,_,_,_,_,rfl,?_,(hsame _ s7).fi hp,?_,hgo2⟩
     ·rw[bb,hlen];rfl
     ·rw[az,b9];rfl
    | cons x y =>
     have hpool:Mk.dY m fnd=Mk.uL m fnd:=by unfold Mk.dY;rw[if_neg (by rw[hcand];simp)]
     rw[if_neg (by simp [nt])]
     have hl3:H3 D=some (.lst ((Mk.dY m fnd).map V.int)):=by rw[hpool];exact s3 _ _ h2'
     refine⟨.inl ⟨rfl,_,.of hp3⟩,_,.l hl3,by rw[List.length_map];omega,_,_,.l hl3,by rw[List.length_map];exact hat,p,_,_,rfl,rfl,hp3,by rw[List.length_map];exact ao (by omega),⟨by decide,by decide⟩,_,_,_,_,rfl,?_,(hsame _ s4).fi hp,?_,hgo2⟩
     ·rw[bb,hlen];rfl
     ·rw[az,b9];rfl
  ·rintro σ H' ⟨ci,fnd,o1,o2,rfl,hlen,s1,h1,hgo⟩
   ac_nf
   refine k p H' hp s1 ?_
   rw[h1,←hgo,Nat.sub_self]
   rfl
inductive kB (es:List Ben) (lk:Lk) (M day:Int) (key:List Key) (y:V):Bool->V->Prop
 | no (h:key∉es.map (·.key)):kB es lk M day key y true (.str ("NoEntry":Str))
 | out (e:Ben) (he:e∈es) (hk:e.key=key):kB es lk M day key y true (.int e.num)
 | twice (h:key∈es.map (·.key)):kB es lk M day key y false (.str ("Twice":Str))
 | num (n:Int) (h:key∉es.map (·.key)) (hy:y=.int n) (h0:0<=n) (h1:n<M) (hf:gX es lk day key n=true):kB es lk M day key y false (.int n)
 | nonum (n:Int) (h:key∉es.map (·.key)) (hy:y=.int n) (h0:0<=n) (h1:n<M) (hf:gX es lk day key n=false):kB es lk M day key y false (.str ("NoNumber":Str))
 | least (n:Int) (h:key∉es.map (·.key)) (hy:y=.non) (hl:m5 (es.map (·.num)) (gw lk day key) n) (h1:n<M):kB es lk M day key y false (.int n)
 | many (h:key∉es.map (·.key)) (hy:y=.non) (hl:∀ n,0<=n->n<M->gX es lk day key n=false):kB es lk M day key y false (.str ("TooMany":Str))
def zM (es:List Ben) (key:List Key) (n:Int):Bool:=es.any fun e=>decide (e.num=n)&&decide (e.key=key)
theorem yu {es:List Ben}{e:Ben} (nn:(es.map (·.num)).Nodup) (he:e∈es):zM es key e.num=decide (e.key=key):=by
 unfold zM
 by_cases hk:e.key=key
 ·rw[decide_eq_true hk,iD]
  exact⟨e,he,by rw[decide_eq_true rfl,decide_eq_true hk];rfl⟩
 ·rw[decide_eq_false hk,List.any_eq_false]
  intro x hx
  by_cases hn:x.num=e.num
  ·rw[oM nn hx he hn,decide_eq_false hk,Bool.and_false];decide
  ·rw[decide_eq_false hn,kq];decide
theorem Iw {key:List Key}:∀ {es:List Ben},(es.map (·.key)).Nodup->(key∉es.map (·.key)/\es.filter (fun e=>decide (e.key=key))=[])∨∃ e∈es,e.key=key/\es.filter (fun e=>decide (e.key=key))=[e]
 | [],_=>.inl ⟨by simp,rfl⟩
 | x::es,nk=>by
  rw[bz,c9] at nk
  by_cases hx:x.key=key
  ·refine .inr ⟨x,List.mem_cons_self,hx,?_⟩
   rw[jG (by rw[decide_eq_true hx]),List.filter_eq_nil_iff.mpr fun e he z=>nk.1 (by rw[hx,←of_decide_eq_true z];exact eK he)]
  ·rw[jF (by rw[decide_eq_false hx];decide)]
   rcases Iw nk.2 with ⟨h1,h2⟩ | ⟨e,he,h1,h2⟩
   ·exact .inl ⟨fun z=>by rcases aD.mp z with z | z;exact hx z.symm;exact h1 z,h2⟩
   ·exact .inr ⟨e,List.mem_cons_of_mem _ he,h1,h2⟩
theorem HK {es:List Ben} (nn:(es.map (·.num)).Nodup) (nk:(es.map (·.key)).Nodup):(key∉es.map (·.key)/\(es.map (·.num)).filter (zM es key)=[])∨∃ e∈es,e.key=key/\(es.map (·.num)).filter (zM es key)=[e.num]:=by
 have e1:(es.map (·.num)).filter (zM es key)=(es.filter fun e=>decide (e.key=key)).map (·.num):=by
  rw[jH]
  congr 1
  exact lF fun e he=>yu nn he
 rcases Iw (key:=key) nk with ⟨h1,h2⟩ | ⟨e,he,h1,h2⟩
 ·exact .inl ⟨h1,by rw[e1,h2];rfl⟩
 ·exact .inr ⟨e,he,h1,by rw[e1,h2];rfl⟩
theorem Bs {N:Nat}{p:Int->Bool}{n:Int}{r:List Int} (h:(Mk.ofN N).filter p=n::r):p n=true/\0<=n/\n<N/\∀ j,0<=j->j<n->p j=false:=by
 obtain⟨l1,l2,e,h1,h2,_⟩:=List.filter_eq_cons_iff.mp h
 have at_:∀ i:Nat,i<N->(Mk.ofN N)[i]?=some (i:Int):=fun i hi=>by unfold Mk.ofN;rw[List.getElem?_map,List.getElem?_range hi];rfl
 have ln:l1.length<N:=by have:=bu List.length e;rw[Mk.kc,bb,br] at this;omega
 have hn:n=(l1.length:Int):=by
  have:=at_ l1.length ln
  rw[e,fP (ai _),Nat.sub_self] at this
  exact Option.some.inj this
 refine⟨h2,by omega,by omega,fun j j0 j1=>?_⟩
 have:=at_ j.toNat (by omega)
 rw[e,fO (by omega)] at this
 have hm:=bp this
 rw[show ((j.toNat:Nat):Int)=j by omega] at hm
 have:=h1 j hm
 cases hp:p j with
 | false=>rfl
 | true=>exact absurd hp this
inductive nc (K:PySem.W.Frag) (vs:List V) (H:Hp) (Q:VK) (E:XK):Prop
 | mk (st nw sk lg q t:Addr) (es:List Ben) (lk:Lk) (l0 M day:Int) (m:Nat) (gs:List Lge) (key:List Key) (y:V) (str:Bool) (q0:vs=[.ref st,.int M,.ref q]) (q1:StA H st nw sk lg es lk l0 m gs) (q2:m<=900) (q3:(es.map (·.key)).Nodup) (q4:es.length<=900) (q5:H q=some (.tup [.str (if str then ("strike":Str) else ("put":Str)),.int day,.ref t,y])) (q6:H t=some (.tup (key.map kV))) (q7:dI key) (q8:l0<=day) (q9:(y=.non∨∃ n,y=.int n/\0<=n/\n<M)) (q10:0<=M) (q11:M<=100000) (q12:∀ v H',aq H H'->kB es lk M day key y str v->Q v H'):nc K vs H Q E
theorem df:aM ["_law_state","_law_many_here","_law_deed","_law_now","_law_struck","_law_log","_law_sort","_law_day","_law_entry","_law_number","_law_there","_law_some"] ["_law_state","_law_many_here","_law_deed"] (ak oW):=by subst_eqs
theorem xt (F:Fun K "_law_due" "_law_due" oW f fd) (T:Bl mg) (AF:AdF K mg Ad) (C_law_free:Fnc P w K mg base (CX1 P w) 1 "_law_free" ["_law_state","_law_number","_law_day","_law_entry"] (lx K)):bI P w K mg base (CX1 P w) 2 f fd ["_law_state","_law_many_here","_law_deed"] (nc K):=by
 refine F.okX (k:=1) df ?_ (fun cdv A outer s H vs Q E hr h=>?_)
 ·bv_decide
 ·obtain⟨st,nw,sk,lg,q,t,es,lk,l0,M,day,m,gs,key,y,str,rfl,A0,m9,nk,e9,hq,ht,eo,ld,hy,M0,M1,k⟩:=h
  obtain⟨kvs,hsk,S,_⟩:=A0.k
  obtain⟨ls,hlg,lls,hlast,_⟩:=A0.g
  have hu:=hr.ft
  have hu1:=iM hr
  have hu9:=hr.hu9
  refine⟨_,af (mO (pvC 0) (ke (K:=K) (n:=3) rfl rfl (aT (kT (i:=3) df.nd) (aT (aB (i:=4) df.nd) (aT (aB (i:=5) df.nd) (fg)))))) (af (mO (pvL 2) (ke (K:=K) (n:=4) rfl rfl (aT (aB (i:=6) df.nd) (aT (kT (i:=7) df.nd) (aT (kT (i:=8) df.nd) (aT (aB (i:=9) df.nd) (fg))))))) (af (bq ((mP (aJ (mI (K:=K) rfl hu9) (pvL 5) (aN (aa)) (aL _)) (kg (aJ oT (pvC 7) (aX (bO (K:=K) rfl) (aX (bO (K:=K) rfl) (pvL 5) (pC lC (ag)) (fun _ _=>rfl)) (ag) (fun _ _=>rfl)) (aL _)))).pt) (aj (aK (av))) (aI)) (af (vJ (P:=P) (w:=w) rfl rfl (j8 (i:=10) ["_law_one"] df.nd rfl (Or.inl rfl) rfl ⟨rfl,by decide +kernel,rfl,by decide +kernel⟩ (.cons (j:=8) rfl (.inl (by kernel_rfl)) (.cons (j:=3) rfl (.inl (by kernel_rfl)) (.nil))) (by decide +kernel) (vF (P:=P) (w:=w) rfl rfl (pvC 3)) (fun _ _ _ _=>aB (i:=0) (show (["_law_one","_law_entry","_law_now"]:List Str).Nodup from by decide +kernel)) (fun _ _ _ _=>qf (aJ (ur (K:=K) rfl hu9) (vD (P:=P) (w:=w) rfl rfl (pvC 2) (pvL 0)) (pvC 1) (aL _))) (fun _ _ _ _=>pvL 0))) (af (bq (aJ (bX (K:=K) rfl hu) (pvL 6) (av) (aL _)) (aj (aK (nB (aJ (fJ (K:=K) rfl hu) (pvL 10) (aN (aa)) (aL _)) (aX (bO (K:=K) rfl) (pvL 10) (ag) (fun _ _=>rfl)) (av)))) (aI)) (af (bq (aJ (fJ (K:=K) rfl hu) (pvL 10) (aN (aa)) (aL _)) (aj (aK (av))) (aI)) (af (bq (aJ md (pvL 9) (cK) (aL _)) (aj (aK (nB ((mP (nJ ik oT (ag) (pvL 9) (pvL 1)) (kg (bW (aG C_law_free au (hr.mono (by decide)) (ae (pvC 0) (ae (pvL 9) (ae (pvC 7) (ae (pvC 8) (aa))))))))).pt) (pvL 9) (av)))) (aI)) (af (j8 (i:=11) ["_law_one"] df.nd rfl (Or.inl rfl) rfl ⟨rfl,by decide +kernel,rfl,by decide +kernel⟩ (.cons (j:=0) rfl (.inl (by kernel_rfl)) (.cons (j:=7) rfl (.inl (by kernel_rfl)) (.cons (j:=8) rfl (.inl (by kernel_rfl)) (.nil)))) (by decide +kernel) (fk T.range (ae (pvL 1) (aa))) (fun _ _ _ _=>aB (i:=0) (show (["_law_one","_law_state","_law_day","_law_entry"]:List Str).Nodup from by decide +kernel)) (fun _ _ _ _=>qf (bW (aG C_law_free mK (hr.mono (by decide)) (ae (pvC 1) (ae (pvL 0) (ae (pvC 2) (ae (pvC 3) (aa)))))))) (fun _ _ _ _=>pvL 0)) (aj (aK (nB (aJ (fJ (K:=K) rfl hu) (pvL 11) (aN (aa)) (aL _)) (aX (bO (K:=K) rfl) (pvL 11) (ag) (fun _ _=>rfl)) (av))))))))))),?_⟩
  grind
  refine⟨_,.l A0.s,rfl,?_⟩
  and_intros
  cbv
  grind
  refine⟨_,.inr (.of hq),rfl,?_⟩
  and_intros
  cbv
  grind
  refine⟨bh _,fun p1 G1 _ t1 g1=>?_⟩
  have A1:=A0.same t1
  have hlg1:=t1 _ _ hlg
  have nx:nn { nx:=fun x H'=>Q V.non H',rt:=Q } [some (V.ref st),some (V.int M),some (V.ref q),some (V.ref nw),some (V.ref sk),some (V.ref lg),some (V.str (if str=true then Str.ofString "strike" else Str.ofString "put")),some (V.int day),some (V.ref t),some y,none,none] G1:=by
   cbv
   grind
   refine⟨nw,_,rfl,A1.n,fun D G2 kr k2 g2=>?_⟩
   have n2:∀ {c:Addr}{o:HO},(∀ kvs,o≠.dK kvs)->G1 c=some o->G2 c=some o:=fun {c o} ho e=>k2 c o (fun z=>by rw[z,A1.n] at e;cases e;exact ho _ rfl) e
   have ek:(di es).map (fun kv=>kV kv.1)=(es.map (·.num)).map V.int:=by rw[iN,List.map_map,List.map_map];rfl
   refine Ei (xs:=es.map (·.num)) V.int ka (by rw[←ek];exact sU g2) (by rw[List.length_map];exact ao (by omega)) (zM es key) V.int ?_ ?_ ?_
   ·intro n hn G3 t3 R hR
    and_intros
    obtain⟨e,he,rfl⟩:=aC.mp hn
    obtain⟨ea,eo'⟩:=A1.en e he
    refine⟨nw,D,_,.inl e.num,.ref e.adr,rfl,t3 _ _ g2,kr,rfl,hO A0.nn he,0,_,by decide,(qi (t3 _ _ (n2 (fun _ z=>by cases z) ea)) (t3 _ _ (n2 (fun _ z=>by cases z) (t1 _ _ ht))) eo' eo).1,?_⟩
    have:=hR G3 (aq.refl _)
    rw[yu A0.nn he] at this
    exact this
   ·intro n hn _ G3 t3 R hR
    and_intros
    exact hR G3 (aq.refl _)
   intro Th G3 hTh t3 g3
   rw[sj]
   refine⟨nw,D,_,t3 _ _ g2,kr,fun G4 k4 g4=>?_⟩
   have t14:aq G1 G4:=fun c o e=>by
    by_cases hc:c=nw
    ·rw[hc,A1.n] at e;cases e;rw[hc];exact g4
    ·exact k4 c o hc (t3 _ _ (k2 c o hc e))
   have nTh:Th≠nw:=fun z=>by rw[z,g2] at hTh;cases hTh
   have g4':=k4 _ _ nTh g3
   have A4:=A1.same t14
   have ht4:=t14 _ _ (t1 _ _ ht)
   have kk:∀ v G,aq G4 G->kB es lk M day key y str v->Q v G:=fun v G tG h=>k v G (t1.trans (t14.trans tG)) h
   show nn _ _ _
   rw[hN]
   clear hN nn k2 t3 k4 g3 kr n2 g2 hTh ek
   grind
   have th:=HK (key:=key) A0.nn nk
   cases str with
   | true =>
    rw[if_pos (by decide)]
    refine⟨bh _,fun p5 G5 _ t5 g5=>?_⟩
    rcases th with ⟨kno,hth⟩ | ⟨e,he,hk,hth⟩
    ·rw[hth] at g4'
     refine⟨_,_,.of (t5 _ _ g4'),.of g5,rfl,rfl,?_⟩
     rw[if_neg (by decide)]
     exact kk _ G5 t5 (.no kno)
    ·rw[hth] at g4'
     refine⟨_,_,.of (t5 _ _ g4'),.of g5,rfl,rfl,?_⟩
     rw[if_pos (by rfl)]
     exact⟨_,_,.l (t5 _ _ g4'),bt (j:=0) rfl,kk _ G5 t5 (.out e he hk)⟩
   | false =>
    rw[if_neg (by decide)]
    show nn _ _ _
    cbv
    grind
    refine⟨bh _,fun p5 G5 _ t5 g5=>?_⟩
    rcases th with ⟨kno,hth⟩ | ⟨e,he,hk,hth⟩
    case inr =>
     rw[hth] at g4'
     refine⟨_,_,.of (t5 _ _ g4'),.of g5,rfl,rfl,?_⟩
     rw[if_pos (by rfl)]
     exact kk _ G5 t5 (.twice (aC.mpr ⟨e,he,hk⟩))
    rw[hth] at g4'
    refine⟨_,_,.of (t5 _ _ g4'),.of g5,rfl,rfl,?_⟩
    rw[if_neg (by decide)]
    show nn _ _ _
    cbv
    have A5:=A4.same t5
    have ht5:=t5 _ _ ht4
    refine cN fun nn hN=>?_
    rcases hy with rfl | ⟨n,rfl,n0,n1⟩
    ·and_intros
     show nn _ _ _
     cbv
     grind
     refine⟨by omega,by omega,Ei (xs:=Mk.ofN M.toNat) V.int ka (qj M.toNat) (by rw[Mk.kc];exact ao (by omega)) (gX es lk day key) V.int ?_ ?_ ?_⟩
     ·intro n hn G6 t6 R hR
      and_intros
      refine⟨st,nw,sk,lg,t,es,lk,l0,n,day,m,gs,key,rfl,A5.same t6,t6 _ _ ht5,eo,fun G7 t7=>⟨_,rfl,hR G7 t7⟩⟩
     ·intro n hn _ G6 t6 R hR
      and_intros
      exact hR G6 (aq.refl _)
     intro Sm G6 hSm t6 g6
     cbv
     and_intros
     refine⟨bh _,fun p7 G7 _ t7 g7=>?_⟩
     cases hf:(Mk.ofN M.toNat).filter (gX es lk day key) with
     | nil =>
      rw[hf] at g6
      refine⟨_,_,.of (t7 _ _ g6),.of g7,rfl,rfl,?_⟩
      rw[if_neg (by decide)]
      refine kk _ G7 (t5.trans (t6.trans t7)) (.many kno rfl fun n n0 n1=>?_)
      have:=List.filter_eq_nil_iff.mp hf n (Mk.ma.mpr ⟨n0,by omega⟩)
      cases hp:gX es lk day key n with
      | false=>rfl
      | true=>exact absurd hp this
     | cons n r =>
      rw[hf] at g6
      obtain⟨f1,f2,f3,f4⟩:=Bs hf
      have fr:∀ {j:Int},gX es lk day key j=true->j∉es.map (·.num)/\gw lk day key j=false:=fun {j} h=>by
       unfold gX at h
       rw[cf] at h
       exact⟨fun z=>by rw[decide_eq_true z] at h;exact absurd h.1 (by decide),by cases hb:gw lk day key j with | false=>rfl | true=>rw[hb] at h;exact absurd h.2 (by decide)⟩
      refine⟨_,_,.of (t7 _ _ g6),.of g7,?_,rfl,?_⟩
      ·exact ck.mpr fun v hv=>by obtain⟨w,_,rfl⟩:=aC.mp hv;rfl
      rw[if_pos (by rfl)]
      refine⟨_,_,.l (t7 _ _ g6),bt (j:=0) rfl,kk _ G7 (t5.trans (t6.trans t7)) (.least n kno rfl ⟨f2,(fr f1).1,(fr f1).2,fun j j0 j1=>?_⟩ (by omega))⟩
      have:=f4 j j0 j1
      unfold gX at this
      by_cases hj:j∈es.map (·.num)
      ·exact .inl hj
      ·rw[decide_eq_false hj] at this
       refine .inr ?_
       cases hb:gw lk day key j with
       | true=>rfl
       | false=>rw[hb] at this;exact absurd this (by decide)
    ·and_intros
     rw[decide_eq_true n0,if_pos rfl,decide_eq_true n1,if_pos rfl]
     refine⟨st,nw,sk,lg,t,es,lk,l0,n,day,m,gs,key,rfl,A5,ht5,eo,fun G6 t6=>⟨_,rfl,?_⟩⟩
     cases hf:gX es lk day key n with
     | true =>
      rw[if_pos rfl]
      exact kk _ G6 (t5.trans t6) (.num n kno rfl n0 n1 hf)
     | false =>
      rw[if_neg (by decide)]
      exact kk _ G6 (t5.trans t6) (.nonum n kno rfl n0 n1 hf)
  rcases hlast with rfl | ⟨tl,a,b,c,hl1,hl2⟩
  ·refine⟨0,true,by decide,⟨lg,p1,rfl,rfl,.inl ⟨_,_,.of hlg1,.of g1,.inr ⟨rfl,fun _=>true,fun i x y h=>by simp at h,rfl⟩⟩⟩,?_⟩
   rw[if_neg (by decide)]
   exact nx
  ·have hne:ls≠[]:=fun e=>by rw[e] at hl1;cases hl1
   refine⟨0,false,by decide,⟨lg,p1,rfl,rfl,.inl ⟨_,_,.of hlg1,.of g1,.inl ⟨fun e=>hne (List.eq_nil_of_length_eq_zero e),rfl⟩⟩⟩,?_⟩
   rw[if_pos (by decide)]
   refine⟨_,.ref tl,.l hlg1,oE hl1,?_⟩
   and_intros
   refine⟨_,_,.inr (.of (t1 _ _ hl2)),eQ (by decide) rfl,?_⟩
   and_intros
   rw[decide_eq_false (show ¬ day<l0 by omega),if_neg (by decide)]
   exact nx
structure Ded where
 str:Bool
 day:Int
 t:Addr
 key:List Key
 y:V
def DdP (H:Hp) (v:V) (d:Ded):Prop:=∃ p,v=V.ref p/\H p=some (.tup [.str (if d.str then ("strike":Str) else ("put":Str)),.int d.day,.ref d.t,d.y])
theorem AY {H H':Hp}{ds:List Ded} (h:Paired (DdP H) ls ds) (s:∀ c xs,H c=some (.tup xs)->H' c=some (.tup xs)):Paired (DdP H') ls ds:=by
 induction h with
 | nil=>exact .nil
 | cons f _ ih=>obtain⟨p,e,q⟩:=f;exact .cons ⟨p,e,s _ _ q⟩ ih
structure HR (ts:List Addr) (pl:List (List Key)) (M lo hi:Int) (ds:List Ded):Prop where
 dY:∀ d∈ds,∃ i:Nat,ts[i]?=some d.t/\pl[i]?=some d.key
 num:∀ d∈ds,d.y=.non∨∃ n,d.y=.int n/\0<=n/\n<M
 up:(ds.map (·.day)).Pairwise (·<=·)
 lo:∀ d∈ds,lo<=d.day/\d.day<=hi
inductive ko (K:PySem.W.Frag) (vs:List V) (H:Hp) (Q:VK) (E:XK):Prop
 | mk (cl D:Addr) (ns:List Int) (ts:List Addr) (M f0:Int) (x y:Nat) (q0:vs=[.ref cl,.ref D,.int M,.int f0]) (q1:SqL K H cl (ns.map V.int)) (q2:ns.length<=40) (q3:H D=some (.lst (ts.map V.ref))) (q4:Paired (fun (t:Addr) (key:List Key)=>H t=some (.tup (key.map kV))) ts (mx x y)) (q5:1<=M) (q6:M<=100000) (q7:0<=f0) (q8:f0<=1000) (q9:∀ L ls ds H',H L=none->aq H H'->H' L=some (.lst ls)->Paired (DdP H') ls ds->ds.length=ns.length->HR ts (mx x y) M f0 (f0+50*ns.length) ds->Q (.ref L) H'):ko K vs H Q E
theorem cb:aM ["_law_cells","_law_pool_here","_law_many_here","_law_first","_law_found","_law_day","_law_cell","_law_number","_law_entry","_law_sort","_law_told_one"] ["_law_cells","_law_pool_here","_law_many_here","_law_first"] (ak kZ):=by subst_eqs
theorem um (F:Fun K "_law_deeds" "_law_deeds" kZ f fd) (T:Bl mg) (AF:AdF K mg Ad) (C_law_mixed:Fnc P w K mg base (CX1 P w) 1 "_law_mixed" ["_law_cell"] ia):bI P w K mg base (CX1 P w) 2 f fd ["_law_cells","_law_pool_here","_law_many_here","_law_first"] (ko K):=by
 refine F.okX (k:=1) cb ?_ ?_
 ·bv_decide
 ·bv_normalize
  obtain⟨cl,D,ns,ts,M,f0,x,y,rfl,hS,n40,hD,hts,M1,M2,f0',f1,k⟩:=h
  refine⟨_,af (aA (i:=4) cb.nd (aN (aa))) (af (aA (i:=5) cb.nd (pvL 3)) (af (fM cm rfl (cP (K:=K) rfl (pvL 0)) (aB (i:=6) cb.nd) (af (aA (i:=7) cb.nd (aG C_law_mixed au (hr.mono (by decide)) (ae (pvL 6) (aa)))) (af (aA (i:=5) cb.nd (aw aQ (pvL 5) (aX (bO (K:=K) rfl) (aN (ae (ag) (ae (ag) (ae (ag) (ae (ag) (ae (ag) (ae (ag) (ae (ag) (ae (aw aW (aw bo (pvL 7) (ag)) (ag)) (aa)))))))))) (aw aW (pvL 7) (ag)) (fun _ _=>rfl)))) (af (aA (i:=8) cb.nd (aX (bO (K:=K) rfl) (pvL 1) (aw aW (aw bo (pvL 7) (ag)) (ay (bG (K:=K) rfl) T.len cB (ae (pvL 1) (aa)))) (fun _ _=>rfl))) (af (aA (i:=9) cb.nd (aX (bO (K:=K) rfl) (aN (ae (av) (ae (av) (ae (av) (aa))))) (aw aW (aw bo (pvL 7) (ag)) (ag)) (fun _ _=>rfl))) (af (aA (i:=10) cb.nd (cK)) (af (bq (aJ (bX (K:=K) rfl hu) (aw aW (aw bo (pvL 7) (ag)) (ag)) (ag) (aL _)) (aj (aA (i:=10) cb.nd (aw aW (aw bo (pvL 7) (aw gu (ag) (ag))) (ay (sy rfl) T.min AO (ae (pvL 2) (ae (ag) (aa))))))) (aI)) (aj (cW (iZ (K:=K) rfl oi om oq ic (pvL 4) (ae (aS (ae (pvL 9) (ae (pvL 5) (ae (pvL 8) (ae (pvL 10) (aa)))))) (aa)))))))))))) (aj (aK (pvL 4))))),?_⟩
  have big:∀ {u:Nat},u<=1000->u<=sizeLine:=fun hu=>aP (ao (by omega))
  have lt14:ts.length=14:=Paired.length hts
  grind
  refine⟨bh _,fun L G1 hL t1 g1=>?_⟩
  cbv
  grind
  cbv
  grind
  have nLc:∀ {c:Addr}{o:HO},H c=some o->c≠L:=fun e z=>by rw[z,hL] at e;cases e
  refine .inl ⟨⟨_,t1.seq hS⟩,fH (xs:=ns.map V.int) (fun i σ G=>∃ (o6 o7 o8 o9 o10:Option V) (day:Int) (ls:List V) (ds:List Ded),σ=[some (V.ref cl),some (V.ref D),some (V.int M),some (V.int f0),some (V.ref L),some (V.int day),o6,o7,o8,o9,o10]/\aq H G/\G L=some (.lst ls)/\Paired (DdP G) ls ds/\ds.length=i/\f0<=day/\day<=f0+50*i/\HR ts (mx x y) M f0 day ds) ?_ ?_ ?_ ?_⟩
  ·exact⟨_,_,_,_,_,f0,[],[],rfl,t1,g1,.nil,rfl,eJ _,by omega,⟨(fun d h=>by cases h),(fun d h=>by cases h),.nil,(fun d h=>by cases h)⟩⟩
  ·rintro i σ G _ ⟨o6,o7,o8,o9,o10,day,ls,ds,_,t,_⟩
   exact t.seq hS
  ·rintro i v σ G hi ⟨o6,o7,o8,o9,o10,day,ls,ds,rfl,t,gL,pd,dl,b0,b1,ok⟩ N hNx
   clear hN
   obtain⟨c1,hci,rfl⟩:=qR hi
   have hil:i<ns.length:=(bK.mp hci).1
   rw[fE]
   refine cN fun n2 hM=>?_
   and_intros
   refine⟨c1,rfl,?_⟩
   have v0:=n6 c1
   generalize xm c1=v at v0
   rw[hM]
   clear hM n2
   refine cN fun n2 hM=>?_
   and_intros
   obtain⟨st,hst,st0,st1⟩:∃ st:Int,atI [V.int 0,V.int 0,V.int 1,V.int 10,V.int 29,V.int 30,V.int 31,V.int (v/1000%50)] (v%8)=some (V.int st)/\0<=st/\st<=50:=by
    rcases (show v%8=0∨v%8=1∨v%8=2∨v%8=3∨v%8=4∨v%8=5∨v%8=6∨v%8=7 by omega) with e | e | e | e | e | e | e | e<;>rw[e]
    ·exact⟨0,rfl,by omega,by omega⟩
    ·exact⟨0,rfl,by omega,by omega⟩
    ·exact⟨1,rfl,by omega,by omega⟩
    ·exact⟨10,rfl,by omega,by omega⟩
    ·exact⟨29,rfl,by omega,by omega⟩
    ·exact⟨30,rfl,by omega,by omega⟩
    ·exact⟨31,rfl,by omega,by omega⟩
    ·exact⟨v/1000%50,rfl,by omega,by omega⟩
   refine⟨⟨by decide,by decide⟩,by decide,big (by decide),fun p2 G2 _ t2 g2=>⟨by decide,_,_,.l g2,hst,?_⟩⟩
   clear hst g2
   and_intros
   rw[hM]
   clear hM n2
   refine cN fun n2 hM=>?_
   and_intros
   refine⟨⟨by decide,by decide⟩,_,.l ((t.trans t2) _ _ hD),?_⟩
   and_intros
   rw[List.length_map,lt14]
   obtain⟨u,hu,ul⟩:∃ u:Nat,v/8%14=(u:Int)/\u<14:=⟨(v/8%14).toNat,by omega,by omega⟩
   obtain⟨tt,htt⟩:∃ t,ts[u]?=some t:=⟨_,List.getElem?_eq_getElem (by omega)⟩
   obtain⟨key,hk,hkt⟩:=cE hts htt
   refine⟨by decide,_,.ref tt,.l ((t.trans t2) _ _ hD),by rw[show v/8%((14:Nat):Int)=(u:Int) from hu];exact bt (by rw[List.getElem?_map,htt];rfl),?_⟩
   rw[hM]
   clear hM n2
   refine cN fun n2 hM=>?_
   and_intros
   obtain⟨str,hstr⟩:∃ str:Bool,atI [V.str (Str.ofString "put"),V.str (Str.ofString "put"),V.str (Str.ofString "strike")] (v/128%3)=some (V.str (if str then ("strike":Str) else ("put":Str))):=by
    rcases (show v/128%3=0∨v/128%3=1∨v/128%3=2 by omega) with e | e | e<;>rw[e]
    ·exact⟨false,rfl⟩
    ·exact⟨false,rfl⟩
    ·exact⟨true,rfl⟩
   refine⟨big (by decide),fun p3 G3 _ t3 g3=>⟨⟨by decide,by decide⟩,by decide,_,_,.l g3,hstr,?_⟩⟩
   clear hstr g3
   rw[hM]
   clear hM n2
   refine cN fun n2 hM=>?_
   and_intros
   rw[hM]
   clear hM n2
   have tG3:=t.trans (t2.trans t3)
   refine gY (fun σ G'=>∃ yv:V,σ=[some (V.ref cl),some (V.ref D),some (V.int M),some (V.int f0),some (V.ref L),some (V.int (day+st)),some (V.int c1),some (V.int v),some (V.ref tt),some (V.str (if str=true then Str.ofString "strike" else Str.ofString "put")),some yv]/\G'=G3/\(yv=.non∨∃ n,yv=.int n/\0<=n/\n<M)) ?_ ?_
   ·rintro σ G' ⟨yv,rfl,rfl,hyv⟩
    and_intros
    have gL3:=(t2.trans t3) _ _ gL
    refine⟨.inl ⟨rfl,_,.of gL3⟩,big (by decide),fun p4 G4 hp4 t4 g4=>⟨L,ls,_,rfl,rfl,t4 _ _ gL3,?_,?_⟩⟩
    ·have:=Paired.length pd;exact ao (by omega)
    have k5:∀ c o,c≠L->G4 c=some o->upd G4 L (.lst (ls++[V.ref p4])) c=some o:=fun c o hc z=>by rw[ar hc];exact z
    have g5:upd G4 L (.lst (ls++[V.ref p4])) L=some (.lst (ls++[V.ref p4])):=az
    generalize upd G4 L (.lst (ls++[V.ref p4]))=G5 at k5 g5
    have tup5:∀ c xs,G4 c=some (.tup xs)->G5 c=some (.tup xs):=fun c xs z=>k5 _ _ (aE z (t4 _ _ gL3) (by intro z;cases z)) z
    have tup:∀ c xs,G c=some (.tup xs)->G5 c=some (.tup xs):=fun c xs z=>tup5 _ _ (t4 _ _ ((t2.trans t3) _ _ z))
    refine hNx _ _ ⟨_,_,_,_,_,day+st,ls++[V.ref p4],ds++[⟨str,day+st,tt,key,yv⟩],rfl,fun c o z=>k5 c o (nLc z) (t4 _ _ (tG3 _ _ z)),g5,gA (AY pd tup) (.cons ⟨p4,rfl,tup5 _ _ g4⟩ .nil),by rw[bb,dl];rfl,by omega,by omega,⟨fun d hd=>?_,fun d hd=>?_,?_,fun d hd=>?_⟩⟩
    ·rcases bL.mp hd with hd | hd
     ·exact ok.dY d hd
     ·rw[bc.mp hd];exact⟨u,htt,hk⟩
    ·rcases bL.mp hd with hd | hd
     ·exact ok.num d hd
     ·rw[bc.mp hd];exact hyv
    ·rw[b9]
     refine List.pairwise_append.mpr ⟨ok.up,List.pairwise_singleton _ _,fun a ha b hb=>?_⟩
     obtain⟨d,hd,rfl⟩:=aC.mp ha
     have hb':b=day+st:=bc.mp hb
     have:=(ok.lo d hd).2
     omega
    ·rcases bL.mp hd with hd | hd
     ·have:=ok.lo d hd;exact⟨this.1,by omega⟩
     ·rw[bc.mp hd];exact⟨by show f0<=day+st;omega,eJ _⟩
   ·intro U hU
    and_intros
    refine⟨⟨by decide,by decide⟩,by decide,?_⟩
    by_cases h5:v/512%2=1
    ·rw[decide_eq_true h5,if_pos rfl]
     have hm:0<min M 12/\min M 12<=M:=by omega
     refine⟨⟨by decide,by decide,by decide⟩,⟨by decide,by decide⟩,hm.1,hU _ _ ⟨_,rfl,rfl,.inr ⟨_,rfl,cO _ (by omega),?_⟩⟩⟩
     have:=dD (v/10^Int.toNat 6) hm.1
     omega
    ·rw[decide_eq_false h5,if_neg (by decide)]
     exact hU _ _ ⟨.non,rfl,rfl,.inl rfl⟩
  rintro σ G ⟨o6,o7,o8,o9,o10,day,ls,ds,rfl,t,gL,pd,dl,b0,b1,ok⟩
  show nn _ _ _
  cbv
  and_intros
  rw[List.length_map] at dl b1
  exact k L ls ds G hL t gL pd dl ⟨ok.dY,ok.num,ok.up,fun d hd=>⟨(ok.lo d hd).1,Int.le_trans (ok.lo d hd).2 b1⟩⟩
def dJ (H:Hp) (m:Int):V->Bool
 | .ref p=>match H p with
  | some (.lst xs)=>decide (3<=xs.length)&&decide (xs.length<=8)&&xs.all (bj m)
  | _=>false
 | _=>false
def lq:Sp:=fun vs H Q _=>∃ (x:V) (t:Tg) (m:Int),vs=[x,.int m]/\cz H x=some t/\(∀ p o u,x=.ref p->H p≠some (.frz o u))/\(∀ p xs,x=.ref p->H p=some (.lst xs)->xs.length<=1000/\∀ y∈xs,∃ t,cz H y=some t) ∧
 ∀ H',aq H H'->Q (.bl (dJ H m x)) H'
theorem rF:aM ["thing","m"] ["thing","m"] (ak jf):=by subst_eqs
theorem rg (F:Fun K "are_weights" "are_weights" jf f fd) (T:Bl mg) (AF:AdF K mg Ad) (C_is_below:Fnc P w K mg base (CX1 P w) 2 "is_below" ["thing","bound"] gE):bI P w K mg base (CX1 P w) 3 f fd ["thing","m"] lq:=by
 refine F.okX (k:=2) rF ?_ ?_
 ·bv_decide
 ·bv_normalize
  obtain⟨x,t,m,rfl,ht,hfz,hit,k⟩:=h
  refine⟨_,af (bq ((my (cL (bW (ay (dS .lst) T.isinstance bt_isinstance (ae (pvL 0) (ae (gR T.list pW) (aa)))))) (kh (cL (nJ ik ik (ag) (ay (bG (K:=K) rfl) T.len cB (ae (pvL 0) (aa))) (ag))))).pt) (aj (aK (e8))) (aI)) (aj (aK (ay (jv (K:=K) rfl rfl) T.all qu (ae (nC ["weight"] rfl ⟨rfl,by decide +kernel,rfl,by decide +kernel⟩ (.cons (j:=1) rfl (.inl (by kernel_rfl)) (.nil)) (by decide +kernel) (cP (K:=K) rfl (pvL 0)) (fun _ _ _ _=>aB (i:=0) (show (["weight","m"]:List Str).Nodup from by decide +kernel)) (fun _ _ _ _=>fh) (fun _ _ _ _=>aG C_is_below mK (hr.mono (by decide)) (ae (pvL 0) (ae (pvC 1) (aa))))) (aa))))),?_⟩
  by_cases hs:∃ p xs,x=.ref p/\H p=some (.lst xs)
  ·obtain⟨p,xs,rfl,hp⟩:=hs
   obtain⟨hl,hty⟩:=hit p xs rfl hp
   have et:t=Tg.lst:=by
    have:i8 (H p)=some t:=ht
    rw[hp] at this;cases this;rfl
   subst et
   have ek:dJ H m (.ref p)=(decide (3<=xs.length)&&decide (xs.length<=8)&&xs.all (bj m)):=by
    show (match H p with | some (.lst xs)=>_ | _=>false)=_
    rw[hp]
   rw[ek] at k
   ac_nf
   refine⟨trivial,Tg.lst,ht,?_⟩
   ac_nf
   refine⟨_,.l hp,?_⟩
   by_cases h3:3<=xs.length
   ·rw[decide_eq_true h3,fR] at k
    rw[decide_eq_true (show (3:Int)<=(xs.length:Int) by omega)]
    bv_omega
    by_cases h8:xs.length<=8
    ·rw[decide_eq_true h8,fR] at k
     rw[decide_eq_true (show (xs.length:Int)<=8 by omega)]
     bv_omega
     refine .inl ⟨⟨_,.of hp⟩,GU (xs:=xs) (jB (.of hp)) (ao (by omega)) (fun y=>.bl (bj m y)) ?_ ?_⟩
     ·intro y hy H2 s2 R hR
      obtain⟨ty,hty⟩:=hty y hy
      have hty2:cz H2 y=some ty:=dA s2 hty
      ac_nf
      refine⟨y,ty,m,rfl,hty2,?_⟩
      exact hR H2 (aq.refl _)
     ·intro D H2 hD s2 h2
      refine⟨D,xs.map (bj m),rfl,.of (by rw[h2,List.map_map];rfl),?_⟩
      have e:(xs.map (bj m)).all id=xs.all (bj m):=by rw[List.all_map];rfl
      rw[e]
      exact k H2 s2
    ·rw[decide_eq_false h8,kq] at k
     rw[decide_eq_false (show ¬ (xs.length:Int)<=8 by omega)]
     bv_omega
     exact k H (aq.refl _)
   ·rw[decide_eq_false h3,kq,kq] at k
    rw[decide_eq_false (show ¬ (3:Int)<=(xs.length:Int) by omega)]
    bv_omega
    exact k H (aq.refl _)
  ·have hv:dJ H m x=false:=by
    cases x with
    | ref p =>
     show (match H p with | some (.lst xs)=>_ | _=>false)=_
     split
     ·rename_i xs hp;exact absurd ⟨p,xs,rfl,hp⟩ hs
     ·rfl
    | _=>rfl
   have hne:t≠Tg.lst:=fun e=>by
    subst e
    cases x with
    | ref a =>
     have h':i8 (H a)=some .lst:=ht
     cases e:H a with
     | none=>rw[e] at h';cases h'
     | some o=>rw[e] at h';cases o with
      | lst xs=>exact hs ⟨a,xs,rfl,e⟩
      | frz ob u=>exact hfz a ob u rfl e
      | _=>cases h'
    | _=>cases ht
   rw[hv] at k
   ac_nf
   refine⟨trivial,t,ht,?_⟩
   cases t<;>first
    | exact absurd rfl hne
    | exact k H (aq.refl _)
def lu:Sp:=fun vs H Q _=>∃ (x:V) (t:Tg),vs=[x]/\cz H x=some t/\(∀ p xs,x=.ref p->H p=some (.tup xs)->xs.length<=1000/\∀ y∈xs,(∃ t,cz H y=some t)/\∀ z,y=.str z->z.length<=10000)/\∀ H',aq H H'->Q (.bl (dm H x)) H'
theorem vQ:aM ["thing"] ["thing"] (ak mT):=by subst_eqs
theorem vt (F:Fun K "is_entry" "is_entry" mT f fd) (T:Bl mg) (AF:AdF K mg Ad) (C_are_letters:Fnc P w K mg base (CX1 P w) 1 "are_letters" ["thing","most"] iy) (C_are_words:Fnc P w K mg base (CX1 P w) 2 "are_words" ["thing","most"] nR):bI P w K mg base (CX1 P w) 3 f fd ["thing"] lu:=by
 refine F.okX (k:=2) vQ ?_ ?_
 ·bv_decide
 ·bv_normalize
  obtain⟨x,t,rfl,ht,hit,k⟩:=h
  refine⟨_,af (bq ((my (cL (bW (ay (dS .tup) T.isinstance bt_isinstance (ae (pvL 0) (ae (gR T.tuple AR) (aa)))))) (my (aJ (bX (K:=K) rfl hu) (ay (bG (K:=K) rfl) T.len cB (ae (pvL 0) (aa))) (ag) (aL _)) (kh (cL (bW (ay (dS .str) T.isinstance bt_isinstance (ae (aX (bO (K:=K) rfl) (pvL 0) (ag) (fun _ _=>rfl)) (ae (gR T.str oG) (aa))))))))).pt) (aj (aK (e8))) (aI)) (af (bq (aJ (bX (K:=K) rfl hu) (ay (bG (K:=K) rfl) T.len cB (ae (pvL 0) (aa))) (ag) (aL _)) (aj (aK (cn (bX (K:=K) rfl hu) (aX (bO (K:=K) rfl) (pvL 0) (ag) (fun _ _=>rfl)) (av) (aL _)))) (aI)) (af (bq (aJ (fJ (K:=K) rfl hu) (ay (bG (K:=K) rfl) T.len cB (ae (pvL 0) (aa))) (ag) (aL _)) (aj (aK (e8))) (aI)) (af (bq (aJ (bX (K:=K) rfl hu) (aX (bO (K:=K) rfl) (pvL 0) (ag) (fun _ _=>rfl)) (av) (aL _)) (aj (aK (aG C_are_words au (hr.mono (by decide)) (ae (aX (bO (K:=K) rfl) (pvL 0) (ag) (fun _ _=>rfl)) (ae (gC AF.v_MOST_PHRASE_WORDS) (aa)))))) (aI)) (aj (aK (mL (cn (bX (K:=K) rfl hu) (aX (bO (K:=K) rfl) (pvL 0) (ag) (fun _ _=>rfl)) (av) (aL _)) (kS (aG C_are_letters au (hr.mono (by decide)) (ae (aX (bO (K:=K) rfl) (pvL 0) (ag) (fun _ _=>rfl)) (ae (gC AF.v_MOST_PART_LETTERS) (aa))))))))))),?_⟩
  by_cases hs:∃ p xs,x=.ref p/\H p=some (.tup xs)
  ·obtain⟨p,xs,rfl,hp⟩:=hs
   obtain⟨hl,hty⟩:=hit p xs rfl hp
   have et:t=Tg.tup:=by
    have:i8 (H p)=some t:=ht
    rw[hp] at this;cases this;rfl
   subst et
   have ek:dm H (.ref p)=dX xs:=by
    show (match H p with | some (.tup xs)=>dX xs | _=>false)=_
    rw[hp]
   rw[ek] at k
   have hT:Sq K H p xs:=.t hp
   rw[fF]
   and_intros
   refine⟨trivial,Tg.tup,ht,?_⟩
   and_intros
   refine⟨_,hT,?_⟩
   match xs,hT,hty,hl,k with
   | [],hT,hty,hl,k =>
    and_intros
    exact k H (aq.refl _)
   | v::r,hT,hty,hl,k =>
    rw[decide_eq_false (show ¬ (((v::r).length:Nat):Int)=0 by rw[br];omega)]
    bv_omega
    have a0:atI (v::r) 0=some v:=bt (xs:=v::r) (j:=0) rfl
    refine⟨_,v,hT,a0,?_⟩
    obtain⟨⟨tv,htv⟩,hzv⟩:=hty v List.mem_cons_self
    by_cases hvs:∃ z,v=.str z
    ·obtain⟨z,rfl⟩:=hvs
     refine⟨Tg.str,rfl,?_⟩
     and_intros
     rw[fF]
     and_intros
     refine⟨_,hT,?_⟩
     match r,hT,hty,hl,k with
     | [],hT,hty,hl,k =>
      and_intros
      rw[if_pos (by rfl)]
      refine⟨_,_,hT,bt (xs:=[V.str z]) (j:=0) rfl,k H (aq.refl _)⟩
     | [y],hT,hty,hl,k =>
      rw[decide_eq_false (show ¬ ((([V.str z,y]:List V).length:Nat):Int)=1 by show ¬ (2:Int)=1;decide)]
      bv_omega
      obtain⟨⟨ty,hty1⟩,hzy⟩:=hty y (List.mem_cons_of_mem _ List.mem_cons_self)
      have a0:atI [V.str z,y] 0=some (.str z):=bt (xs:=[V.str z,y]) (j:=0) rfl
      have a1:atI [V.str z,y] 1=some y:=bt (xs:=[V.str z,y]) (j:=1) rfl
      rw[fF]
      and_intros
      refine⟨_,hT,?_⟩
      rw[if_neg (show ¬ (!decide ((([V.str z,y].length:Nat):Int)=2))=true by rw[show [V.str z,y].length=2 from rfl];decide)]
      rw[fF]
      and_intros
      refine⟨_,_,hT,a0,?_⟩
      and_intros
      have ek2:dX [.str z,y]=if z=("phrase":Str) then iK 6 y else if z=("part":Str) then gq 6 y else false:=rfl
      rw[ek2] at k
      by_cases e1:z=("phrase":Str)
      ·rw[if_pos e1] at k
       rw[decide_eq_true e1]
       bv_omega
       refine⟨_,_,hT,a1,?_⟩
       exact⟨y,ty,6,rfl,hty1,hzy,by decide,k⟩
      ·rw[if_neg e1] at k
       rw[decide_eq_false e1]
       bv_omega
       and_intros
       refine⟨_,_,hT,a0,?_⟩
       and_intros
       by_cases e2:z=("part":Str)
       ·rw[if_pos e2] at k
        rw[decide_eq_true e2]
        bv_omega
        refine⟨_,_,hT,a1,?_⟩
        exact⟨y,ty,6,rfl,hty1,(fun w e=>by have:=hzy w e;omega),by decide,k⟩
       ·rw[if_neg e2] at k
        rw[decide_eq_false e2]
        bv_omega
        exact k H (aq.refl _)
     | y::y2::r,hT,hty,hl,k =>
      have hlen:(V.str z::y::y2::r).length=r.length+3:=rfl
      rw[hlen,decide_eq_false (show ¬ (((r.length+3:Nat)):Int)=1 by omega)]
      bv_omega
      rw[fF]
      and_intros
      refine⟨_,hT,?_⟩
      rw[hlen,decide_eq_false (show ¬ (((r.length+3:Nat)):Int)=2 by omega)]
      bv_omega
      exact k H (aq.refl _)
    ·have hv:dX (v::r)=false:=by
      cases v with
      | str z=>exact absurd ⟨z,rfl⟩ hvs
      | _=>cases r with
       | nil=>rfl
       | cons y r=>cases r<;>rfl
     have hne:=qk htv fun z e=>hvs ⟨z,e⟩
     rw[hv] at k
     refine⟨tv,htv,?_⟩
     cases tv<;>first
      | exact absurd rfl hne
      | exact k H (aq.refl _)
  ·have hv:dm H x=false:=by
    cases x with
    | ref p =>
     show (match H p with | some (.tup xs)=>dX xs | _=>false)=_
     split
     ·rename_i xs hp;exact absurd ⟨p,xs,rfl,hp⟩ hs
     ·rfl
    | _=>rfl
   have hne:t≠Tg.tup:=fun e=>by
    subst e
    cases x with
    | ref a =>
     have h':i8 (H a)=some .tup:=ht
     cases e:H a with
     | none=>rw[e] at h';cases h'
     | some o=>rw[e] at h';cases o with
      | tup xs=>exact hs ⟨a,xs,rfl,e⟩
      | frz ob u=>cases u<;>cases h'
      | _=>cases h'
    | _=>cases ht
   rw[hv] at k
   rw[fF]
   and_intros
   refine⟨trivial,t,ht,?_⟩
   cases t<;>first
    | exact absurd rfl hne
    | exact k H (aq.refl _)
def oZ:Sp:=fun vs H Q _=>∃ (x:V) (t:Tg),vs=[x]/\cz H x=some t/\Q (.bl (bj 1000000001 x)) H
theorem An:aM ["thing"] ["thing"] (ak rB):=by subst_eqs
theorem zW (F:Fun K "is_day" "is_day" rB f fd) (T:Bl mg) (AF:AdF K mg Ad) (C_is_below:Fnc P w K mg base (CX1 P w) 2 "is_below" ["thing","bound"] gE):bI P w K mg base (CX1 P w) 3 f fd ["thing"] oZ:=by
 refine F.okX (k:=2) An ?_ ?_
 ·bv_decide
 ·bv_normalize
  obtain⟨x,t,rfl,ht,k⟩:=h
  refine⟨_,aj (aK (aG C_is_below au (hr.mono (by decide)) (ae (pvL 0) (ae (aw aQ (gC AF.v_LATEST_DAY) (ag)) (aa))))),?_⟩
  and_intros
  exact⟨x,t,_,rfl,ht,k⟩
def eO (Ad:Ads):Sp:=fun vs H Q _=>∃ (x dx ca:Addr),vs=[.ref x,.ref ca]/\H x=some (.ins Ad.Editions dx [])/\∀ b dn de cl sd H',H b=none->H dn=none->H de=none->H cl=none->H sd=none->dn≠sd->(∀ c o,c≠x->H c=some o->H' c=some o)->H' x=some (.ins Ad.Editions dx (edF b cl sd 0))->cQ Ad H' b ca dn de []->H' cl=some (.lst [])->H' sd=some (.dK [])->Q .non H'
theorem oY:aM ["self","code"] ["self","code"] (ak cS):=by subst_eqs
theorem oR (F:Fun K "__init__" "Editions.__init__" cS f fd) (T:Bl mg) (AF:AdF K mg Ad) (K_Book:Mak P w K mg base (CX1 P w) Ad.Book "Book" 1 ["self","code"] (hZ Ad)):bI P w K mg base (CX1 P w) 3 f fd ["self","code"] (eO Ad):=by
 refine F.okX (k:=2) oY ?_ ?_
 ·bv_decide
 ·bv_normalize
  obtain⟨x,dx,ca,rfl,hx,k⟩:=h
  refine⟨_,af (fL (K:=K) rfl (pvL 0) (j7 K_Book au (hr.mono (by decide)) (ae (pvL 1) (aa)))) (af (fL (K:=K) rfl (pvL 0) (aN (aa))) (af (fL (K:=K) rfl (pvL 0) (j4)) (aj (fL (K:=K) rfl (pvL 0) (ag))))),?_⟩
  grind
  intro b bx G1 hb hbx hbb t1 g1 g1x
  refine⟨b,bx,ca,rfl,g1,fun dn de G2 hdn hde ne1 ne2 ne3 k2 g2 gn ge=>⟨rfl,?_⟩⟩
  have nxb:x≠b:=fun z=>by rw[←z,hx] at hb;cases hb
  have hx2:=k2 x _ nxb (t1 _ _ hx)
  have hdn0:H dn=none:=t1.free hdn
  have hde0:H de=none:=t1.free hde
  have nxn:x≠dn:=fun z=>by rw[←z,hx] at hdn0;cases hdn0
  have nxe:x≠de:=fun z=>by rw[←z,hx] at hde0;cases hde0
  refine⟨_,_,_,hx2,AF.c_Editions,AF.n_Editions_current,by decide,?_⟩
  cbv
  have h3:upd G2 x (HO.ins Ad.Editions dx (fm (Str.ofString "current") (V.ref b) [])) x=some (.ins Ad.Editions dx [("current",.ref b)]):=az
  have k3:∀ c o,c≠x->G2 c=some o->upd G2 x (HO.ins Ad.Editions dx (fm (Str.ofString "current") (V.ref b) [])) c=some o:=fun c o hc e=>by rw[ar hc];exact e
  have f3:∀ c,c≠x->upd G2 x (HO.ins Ad.Editions dx (fm (Str.ofString "current") (V.ref b) [])) c=none->G2 c=none:=fun c hc e=>by rw[ar hc] at e;exact e
  generalize upd G2 x (HO.ins Ad.Editions dx (fm (Str.ofString "current") (V.ref b) []))=G3 at h3 k3 f3
  grind
  refine⟨bh _,fun cl G4 hcl t4 g4=>⟨_,_,_,t4 _ _ h3,AF.c_Editions,AF.n_Editions_changes,by show 1<1000;decide,?_⟩⟩
  cbv
  have nxc:x≠cl:=fun z=>by rw[←z,h3] at hcl;cases hcl
  have h5:upd G4 x (HO.ins Ad.Editions dx (fm (Str.ofString "changes") (V.ref cl) [("current",.ref b)])) x=some (.ins Ad.Editions dx [("current",.ref b),("changes",.ref cl)]):=az
  have k5:∀ c o,c≠x->G4 c=some o->upd G4 x (HO.ins Ad.Editions dx (fm (Str.ofString "changes") (V.ref cl) [("current",.ref b)])) c=some o:=fun c o hc e=>by rw[ar hc];exact e
  have f5:∀ c,c≠x->upd G4 x (HO.ins Ad.Editions dx (fm (Str.ofString "changes") (V.ref cl) [("current",.ref b)])) c=none->G4 c=none:=fun c hc e=>by rw[ar hc] at e;exact e
  generalize upd G4 x (HO.ins Ad.Editions dx (fm (Str.ofString "changes") (V.ref cl) [("current",.ref b)]))=G5 at h5 k5 f5
  grind
  refine fun sd G6 hsd t6 g6=>⟨_,_,_,t6 _ _ h5,AF.c_Editions,AF.n_Editions_struck,by show 2<1000;decide,?_⟩
  cbv
  have nxs:x≠sd:=fun z=>by rw[←z,h5] at hsd;cases hsd
  have h7:upd G6 x (HO.ins Ad.Editions dx (fm (Str.ofString "struck") (V.ref sd) [("current",.ref b),("changes",.ref cl)])) x=some (.ins Ad.Editions dx [("current",.ref b),("changes",.ref cl),("struck",.ref sd)]):=az
  have k7:∀ c o,c≠x->G6 c=some o->upd G6 x (HO.ins Ad.Editions dx (fm (Str.ofString "struck") (V.ref sd) [("current",.ref b),("changes",.ref cl)])) c=some o:=fun c o hc e=>by rw[ar hc];exact e
  generalize upd G6 x (HO.ins Ad.Editions dx (fm (Str.ofString "struck") (V.ref sd) [("current",.ref b),("changes",.ref cl)]))=G7 at h7 k7
  and_intros
  refine⟨_,_,_,h7,AF.c_Editions,AF.n_Editions_latest,by show 3<1000;decide,?_⟩
  have e24:∀ c o,c≠x->G2 c=some o->G4 c=some o:=fun c o hc e=>t4 _ _ (k3 c o hc e)
  have e46:∀ c o,c≠x->G4 c=some o->G6 c=some o:=fun c o hc e=>t6 _ _ (k5 c o hc e)
  have e02:∀ c o,H c=some o->G2 c=some o:=fun c o e=>k2 c o (fun z=>by rw[z,hb] at e;cases e) (t1 _ _ e)
  have c2:G2 cl=none:=f3 cl nxc.symm hcl
  have s4:G4 sd=none:=f5 sd nxs.symm hsd
  have fin:∀ c o,c≠x->G6 c=some o->upd G7 x (HO.ins Ad.Editions dx (fm (Str.ofString "latest") (V.int 0) [("current",.ref b),("changes",.ref cl),("struck",.ref sd)])) c=some o:=fun c o hc e=>by rw[ar hc];exact k7 c o hc e
  have fin2:∀ c o,c≠x->G2 c=some o->upd G7 x (HO.ins Ad.Editions dx (fm (Str.ofString "latest") (V.int 0) [("current",.ref b),("changes",.ref cl),("struck",.ref sd)])) c=some o:=fun c o hc e=>fin c o hc (e46 c o hc (e24 c o hc e))
  refine k b dn de cl sd _ hb hdn0 hde0 ?_ ?_ ?_ (fun c o hc e=>fin2 c o hc (e02 c o e)) az ⟨⟨bx,fin2 _ _ nxb.symm g2⟩,fin2 _ _ nxn.symm gn,fin2 _ _ nxe.symm ge,(fun e he=>by cases he),.nil,.nil⟩ (fin _ _ nxc.symm (e46 _ _ nxc.symm g4)) (fin _ _ nxs.symm g6)
  ·cases e:H cl with
   | none=>rfl
   | some o=>rw[e02 cl o e] at c2;cases c2
  ·cases e:H sd with
   | none=>rfl
   | some o=>rw[e24 sd o nxs.symm (e02 sd o e)] at s4;cases s4
  ·intro z
   rw[←z,e24 dn _ nxn.symm gn] at s4
   cases s4
def lets (b st:Int) (m:Nat):List Nat:=(List.range m).map fun k:Nat=>97+((b+st*(k:Int))%26).toNat
theorem Ek {b st:Int} (hm:m<=9) (hs:st=1∨st=25∨st=3∨st=7):(lets b st m).Nodup:=by
 unfold lets
 refine lL.mpr (List.Pairwise.imp_of_mem (R:=(·<·)) (fun {i j} hi hj hij e=>?_) List.pairwise_lt_range)
 have hi':=cY.mp hi
 have hj':=cY.mp hj
 rcases hs with rfl | rfl | rfl | rfl<;>omega
theorem BO {b st:Int}:∀ c∈lets b st m,97<=c/\c<123:=fun c hc=>by
 unfold lets at hc
 obtain⟨k,_,rfl⟩:=aC.mp hc
 have:=cO (b+st*(k:Int)) (show (26:Int)≠0 by decide)
 have:=dD (b+st*(k:Int)) (show (0:Int)<26 by decide)
 omega
def iT (K:PySem.W.Frag):Sp:=fun vs H Q _=>∃ (a:Addr) (ns:List Int),vs=[.ref a]/\SqL K H a (ns.map V.int)/\∀ p q al ws r H',aq H H'->Parts H' p q al ws r->gO al ws r->al.length<=9->3<=ws.length->ws.length<=6->Q (.ref p) H'
theorem cu:aM ["_law_script","_law_cell","_law_some","_law_m","_law_step","_law_alphabet"] ["_law_script"] (ak gj):=by subst_eqs
theorem n9 (F:Fun K "_law_code_parts" "_law_code_parts" gj f fd) (T:Bl mg) (AF:AdF K mg Ad) (C_law_weights:Fnc P w K mg base (CX1 P w) 2 "_law_weights" ["_law_cell","_law_m","_law_many_here"] lz) (C_law_mixed:Fnc P w K mg base (CX1 P w) 1 "_law_mixed" ["_law_cell"] ia) (C_law_cell_at:Fnc P w K mg base (CX1 P w) 1 "_law_cell_at" ["_law_script","_law_k"] (iz K)):bI P w K mg base (CX1 P w) 3 f fd ["_law_script"] (iT K):=by
 refine F.okX (k:=2) cu ?_ ?_
 ·bv_decide
 ·bv_normalize
  obtain⟨a,ns,rfl,hS,k⟩:=h
  refine⟨_,af (iO (i:=1) cu.nd (aG C_law_mixed au (hr.mono (by decide)) (ae (aG C_law_cell_at au (hr.mono (by decide)) (ae (pvL 0) (ae (ag) (aa)))) (aa)))) (af (iO (i:=2) cu.nd (av)) (af (aA (i:=3) cu.nd (aX (bO (K:=K) rfl) (aN (ae (ag) (ae (ag) (ae (ag) (ae (ag) (aa)))))) (aw aW (pvC 1) (ag)) (fun _ _=>rfl))) (af (iO (i:=4) cu.nd (aX (bO (K:=K) rfl) (aN (ae (ag) (ae (ag) (ae (ag) (ae (ag) (aa)))))) (aw aW (aw bo (pvC 1) (ag)) (ag)) (fun _ _=>rfl))) (af (aA (i:=5) cu.nd (iZ (K:=K) rfl PySem.F.plainAttrs_str PySem.F.slot_str_join PySem.F.type_str_join (BV (K:=K) rfl) (av) (ae (nC ["_law_k"] rfl ⟨rfl,by decide +kernel,rfl,by decide +kernel⟩ (.cons (j:=2) rfl (.inl (by kernel_rfl)) (.cons (j:=1) rfl (.inl (by kernel_rfl)) (.cons (j:=4) rfl (.inl (by kernel_rfl)) (.nil)))) (by decide +kernel) (fk T.range (ae (pvL 3) (aa))) (fun _ _ _ _=>aB (i:=0) (show (["_law_k","_law_some","_law_cell","_law_step"]:List Str).Nodup from by decide +kernel)) (fun _ _ _ _=>fh) (fun _ _ _ _=>aX (bO (K:=K) rfl) (pvC 1) (aw aW (aw aQ (aw bo (pvC 2) (ag)) (aw qe (pvC 3) (pvL 0))) (ag)) (fun _ _=>rfl))) (aa)))) (aj (aK (aN (ae (pvL 5) (ae (aG C_law_weights au (hr.mono (by decide)) (ae (aw bo (pvC 1) (ag)) (ae (pvL 3) (ae (aw aQ (ag) (aw aW (aw bo (pvC 1) (ag)) (ag))) (aa))))) (ae (aw aW (aw bo (pvC 1) (ag)) (pvL 3)) (aa))))))))))),?_⟩
  have big:∀ {u:Nat},u<=1000->u<=sizeLine:=fun hu=>aP (ao (by omega))
  grind
  refine⟨a,ns,0,rfl,hS,by decide,?_⟩
  generalize ns.getD (0:Int).toNat 0=c0
  refine⟨c0,rfl,?_⟩
  have y0:=n6 c0
  generalize xm c0=y at y0
  cbv
  grind
  cbv
  grind
  obtain⟨m,hm,hb⟩:∃ m:Nat,(m=3∨m=5∨m=7∨m=9)/\atI [V.int 3,V.int 3,V.int 5,V.int 7] (y%4)=some (V.int m):=by
   have hy:y%4=0∨y%4=1∨y%4=2∨y%4=3:=by omega
   rcases hy with e | e | e | e<;>rw[e]
   ·exact⟨3,.inl rfl,rfl⟩
   ·exact⟨3,.inl rfl,rfl⟩
   ·exact⟨5,.inr (.inl rfl),rfl⟩
   ·exact⟨7,.inr (.inr (.inl rfl)),rfl⟩
  refine⟨big (by decide),fun p1 H1 hp1 s1 h1=>⟨by decide,_,_,.l h1,hb,?_⟩⟩
  rw[hN]
  clear hN nn hb
  grind
  obtain⟨st,hst,hb⟩:∃ st:Int,(st=1∨st=25∨st=3∨st=7)/\atI [V.int 1,V.int 25,V.int 3,V.int 7] (y/4%4)=some (V.int st):=by
   have hy:y/4%4=0∨y/4%4=1∨y/4%4=2∨y/4%4=3:=by omega
   rcases hy with e | e | e | e<;>rw[e]
   ·exact⟨1,.inl rfl,rfl⟩
   ·exact⟨25,.inr (.inl rfl),rfl⟩
   ·exact⟨3,.inr (.inr (.inl rfl)),rfl⟩
   ·exact⟨7,.inr (.inr (.inr rfl)),rfl⟩
  refine⟨big (by decide),fun p2 H2 hp2 s2 h2=>⟨⟨by decide,by decide⟩,by decide,_,_,.l h2,hb,?_⟩⟩
  rw[hN]
  clear hN nn hb
  grind
  have m9:m<=9:=by omega
  have m3:3<=m:=by omega
  refine⟨by rfl,by omega,by omega,xh V.int ka (qj m) (by rw[Mk.kc];exact ao (by omega)) (fun x=>.str (tx [97+((y/16+st*x)%26).toNat])) ?_ ?_⟩
  ·intro x hx G t R hR
   obtain⟨x0,x1⟩:=Mk.ma.mp hx
   have f0:=cO (y/16+st*x) (show (26:Int)≠0 by decide)
   have f1:=dD (y/16+st*x) (show (0:Int)<26 by decide)
   and_intros
   refine⟨⟨by decide,by decide⟩,⟨dQ (show st.natAbs<=1000 by omega) (by decide),dQ (show x.natAbs<=1000 by omega) (by decide)⟩,by decide,big (by decide),97+((y/16+st*x)%26).toNat,eQ f0 (AA _ (by omega)),hR G (aq.refl _)⟩
  intro D H3 hD s3 h3
  have el:H3 D=some (.lst ((lets (y/16) st m).map fun c=>V.str (tx [c]))):=by
   rw[h3]
   unfold lets Mk.ofN
   rw[List.map_map,List.map_map];rfl
  and_intros
  refine⟨(lets (y/16) st m).map fun c=>tx [c],GL el,GK (by unfold lets;rw[List.length_map,List.length_range];omega),?_⟩
  rw[Ed]
  cbv
  have ll:(lets (y/16) st m).length=m:=by unfold lets;rw[List.length_map,List.length_range]
  have lnd:=Ek (b:=y/16) m9 hst
  have labc:=BO (b:=y/16) (st:=st) (m:=m)
  generalize lets (y/16) st m=al at ll lnd labc
  and_intros
  have w0:0<=y/64%2/\y/64%2<2:=by omega
  refine⟨⟨by decide,by decide⟩,⟨by decide,by decide⟩,by decide,y/1000,m,_,rfl,by omega,by omega,by omega,by omega,fun q H4 hq s4 h4=>?_⟩
  refine⟨⟨by decide,by decide⟩,by omega,big (by decide),fun p H5 hp s5 h5=>?_⟩
  have wl:=Mk.Ff (y/1000) (m:Int) (3+y/64%2).toNat
  have wm:=Mk.Fg (m:=(m:Int)) (by omega) (y/1000) (3+y/64%2).toNat
  have wsf:=Mk.Dl (m:=(m:Int)) (by omega) (by omega) (by omega) (y/1000) (3+y/64%2).toNat
  refine k p q al _ _ H5 (s1.trans (s2.trans (s3.trans (s4.trans s5)))) ⟨h5,s5 _ _ h4⟩ ⟨by omega,by omega,lnd,labc,by omega,by omega,?_,?_,?_⟩ (by omega) (by omega) (by omega)
  ·rw[ll];exact wm
  ·rw[ll];exact wsf
  ·rw[ll]
   exact⟨cO _ (by omega),dD _ (by omega)⟩
theorem so {b:Int}:∀ {xs:List V},xs.all (bj b)=true->∃ ws:List Int,xs=ws.map V.int/\∀ x∈ws,0<=x/\x<b
 | [],_=>⟨[],rfl,fun _ h=>nomatch h⟩
 | y::ys,h=>by
  rw[iB,cf] at h
  obtain⟨ws,e,hw⟩:=so h.2
  cases y with
  | int i =>
   have h1:(decide (0<=i)&&decide (i<b))=true:=h.1
   rw[cf,cZ,cZ] at h1
   refine⟨i::ws,by rw[e];rfl,fun x hx=>?_⟩
   cases hx with
   | head=>exact h1
   | tail _ hx=>exact hw x hx
  | _=>cases h.1
theorem DD (h:dJ H b x=true):∃ (p:Addr) (ws:List Int),x=.ref p/\H p=some (.lst (ws.map V.int))/\3<=ws.length/\ws.length<=8/\∀ y∈ws,0<=y/\y<b:=by
 cases x with
 | ref p =>
  have h1:(match H p with | some (.lst xs)=>decide (3<=xs.length)&&decide (xs.length<=8)&&xs.all (bj b) | _=>false)=true:=h
  split at h1
  ·rename_i xs e
   simp only[cf,cZ] at h1
   obtain⟨ws,e1,hw⟩:=so h1.2
   subst e1
   rw[List.length_map] at h1
   exact⟨p,ws,rfl,e,h1.1.1,h1.1.2,hw⟩
  ·cases h1
 | _=>cases h
inductive eN (Ad:Ads) (vs:List V) (H:Hp) (Q:VK) (E:XK):Prop
 | mk (a dx:Addr) (xa xw xr:V) (ta tw tr:Tg) (q0:vs=[.ref a,xa,xw,xr]) (q1:H a=some (.ins Ad.Code dx [])) (q2:cz H xa=some ta) (q3:cz H xw=some tw) (q4:cz H xr=some tr) (q5:(∀ z,xa=.str z->z.length<=4000)) (q6:(∀ p o u,xw=.ref p->H p≠some (.frz o u))) (q7:(∀ p xs,xw=.ref p->H p=some (.lst xs)->xs.length<=1000/\∀ y∈xs,∃ t,cz H y=some t)) (q8:(DH H xa xw xr->∀ H',aq H H'->E (.ref Ad.NoCode) none H')) (q9:(∀ al p ws r,qB H xa xw xr al p ws r->∀ q H',H q=none->(∀ b o,b≠a->H b=some o->H' b=some o)->H' a=some (.ins Ad.Code dx (qz al q r))->H' q=some (.lst (ws.map V.int))->Q .non H')):eN Ad vs H Q E
theorem sI {Ad:Ads}{ca cd qn:Addr}{Q:VK}{E:XK} (ha:H ca=some (.ins Ad.Code cd [])) (hq:H qn=some (.lst (ws.map V.int))) (ok:gO al ws r)
  (k:∀ H',(∀ b o,b≠ca->H b=some o->H' b=some o)->gd Ad H' ca al ws r->Q .non H'):eN Ad [.ref ca,.str (tx al),.ref qn,.int r] H Q E:=by
 have g26:=ok.a26
 have w8:=ok.w8
 refine⟨ca,cd,.str (tx al),.ref qn,.int r,Tg.str,Tg.lst,Tg.int,rfl,ha,rfl,?_,rfl,?_,?_,?_,?_,?_⟩
 ·show i8 (H qn)=_
  rw[hq];rfl
 ·intro z e
  cases e
  rw[fq];omega
 ·intro p o u e e2
  cases e
  rw[hq] at e2;cases e2
 ·intro p xs e e2
  cases e
  rw[hq] at e2
  cases e2
  refine⟨by rw[List.length_map];omega,fun y hy=>?_⟩
  obtain⟨x,_,rfl⟩:=aC.mp hy
  exact⟨Tg.int,rfl⟩
 ·intro hb
  exact absurd ⟨rfl,rfl,hq,rfl,ok⟩ (hb al qn ws r)
 ·intro al' p ws' r' hm q H' hq' hs h1 h2
  obtain⟨e1,e2,e3,e4,_⟩:=hm
  have ea:al=al':=by injection e1 with e1;exact xU e1
  have er:r=r':=by injection e4
  have ep:qn=p:=by injection e2
  subst ea er ep
  rw[hq] at e3
  have e6:ws.map V.int=ws'.map V.int:=by injection e3 with e3;injection e3
  have ew:ws=ws':=(nZ (fun x y h=>by injection h)).mp e6
  subst ew
  exact k H' hs ⟨cd,q,h1,h2⟩
theorem nM:aM ["self","alphabet","weights","rest","m"] ["self","alphabet","weights","rest"] (ak fz):=by subst_eqs
theorem uh (F:Fun K "__init__" "Code.__init__" fz f fd) (T:Bl mg) (AF:AdF K mg Ad) (C_are_safe:Fnc P w K mg base (CX1 P w) 2 "are_safe" ["weights","m"] pJ) (C_is_below:Fnc P w K mg base (CX1 P w) 2 "is_below" ["thing","bound"] gE) (C_are_weights:Fnc P w K mg base (CX1 P w) 3 "are_weights" ["thing","m"] lq) (C_is_alphabet:Fnc P w K mg base (CX1 P w) 1 "is_alphabet" ["thing"] lr):bI P w K mg base (CX1 P w) 4 f fd ["self","alphabet","weights","rest"] (eN Ad):=by
 refine F.okX (k:=3) nM ?_ ?_
 ·bv_decide
 ·bv_normalize
  obtain⟨a,dx,xa,xw,xr,ta,tw,tr,rfl,ha,hta,htw,htr,hza,hfz,hit,kE,kQ⟩:=h
  refine⟨_,af (bq (cL (bW (aG C_is_alphabet au (hr.mono (by decide)) (ae (pvL 1) (aa))))) (aj (dq dG AF.q_NoCode AF.g_NoCode cG rfl (ae (av) (aa)))) (aI)) (af (aA (i:=4) nM.nd (ay (bG (K:=K) rfl) T.len cB (ae (pvL 1) (aa)))) (af (bq (cL (bW (aG C_are_weights au (hr.mono (by decide)) (ae (pvL 2) (ae (pvL 4) (aa)))))) (aj (dq dG AF.q_NoCode AF.g_NoCode cG rfl (ae (av) (aa)))) (aI)) (af (bq (cL (bW (aG C_is_below au (hr.mono (by decide)) (ae (pvL 3) (ae (pvL 4) (aa)))))) (aj (dq dG AF.q_NoCode AF.g_NoCode cG rfl (ae (av) (aa)))) (aI)) (af (bq (cL (bW (aG C_are_safe au (hr.mono (by decide)) (ae (pvL 2) (ae (pvL 4) (aa)))))) (aj (dq dG AF.q_NoCode AF.g_NoCode cG rfl (ae (av) (aa)))) (aI)) (af (fL (K:=K) rfl (pvL 0) (pvL 1)) (af (fL (K:=K) rfl (pvL 0) (ip (mB (K:=K) rfl rfl) T.list pW (ae (pvL 2) (aa)))) (aj (fL (K:=K) rfl (pvL 0) (pvL 3))))))))),?_⟩
  rw[fF]
  and_intros
  refine⟨xa,ta,rfl,hta,hza,fun H1 s1=>?_⟩
  and_intros
  cases hA:gx xa with
  | false =>
   bv_omega
   refine⟨by decide,kE (fun al p ws r ⟨e1,_,_,_,e5⟩=>?_) H1 s1⟩
   have:gx xa=true:=by
    rw[e1]
    show fI (tx al).cps.toList=true
    rw[ni]
    unfold fI
    rw[decide_eq_true e5.a3,decide_eq_true e5.a26,decide_eq_true e5.nd,ck.mpr fun c hc=>decide_eq_true (e5.abc c hc)];rfl
   rw[hA] at this;cases this
  | true =>
   bv_omega
   obtain⟨z,rfl⟩:∃ z,xa=.str z:=by
    cases xa with
    | str z=>exact⟨z,rfl⟩
    | _=>cases hA
   have hA':fI z.cps.toList=true:=hA
   have hz:=gr z
   unfold fI at hA'
   simp only[cf,cZ,ck] at hA'
   obtain⟨⟨⟨g3,g26⟩,gnd⟩,gabc⟩:=hA'
   rw[fF]
   and_intros
   refine⟨aP (ao (by omega)),?_⟩
   and_intros
   rw[fF]
   and_intros
   refine⟨xw,tw,_,rfl,dA s1 htw,fun p o u e e2=>?_,fun p xs e e2=>?_,fun H2 s2=>?_⟩
   ·subst e
    have:i8 (H p)=some tw:=htw
    cases e3:H p with
    | none=>rw[e3] at this;cases this
    | some ob =>
     have e4:=s1 p ob e3
     rw[e2] at e4
     cases e4
     exact hfz p o u rfl e3
   ·subst e
    have:i8 (H p)=some tw:=htw
    cases e3:H p with
    | none=>rw[e3] at this;cases this
    | some ob =>
     have e4:=s1 p ob e3
     rw[e2] at e4
     cases e4
     obtain⟨i1,i2⟩:=hit p xs rfl e3
     exact⟨i1,fun y hy=>by obtain⟨ty,hty⟩:=i2 y hy;exact⟨ty,dA s1 hty⟩⟩
   and_intros
   have eW:dJ H1 (z.length:Int) xw=dJ H (z.length:Int) xw:=by
    cases xw with
    | ref p =>
     have:i8 (H p)=some tw:=htw
     cases e3:H p with
     | none=>rw[e3] at this;cases this
     | some ob =>
      show (match H1 p with | some (.lst xs)=>_ | _=>false)=(match H p with | some (.lst xs)=>_ | _=>false)
      rw[s1 p ob e3,e3]
    | _=>rfl
   rw[eW]
   cases hW:dJ H (z.length:Int) xw with
   | false =>
    bv_omega
    refine⟨by decide,kE (fun al p ws r ⟨e1,e2,e3,_,e5⟩=>?_) H2 (s1.trans s2)⟩
    have hal:z=tx al:=by cases e1;rfl
    have:dJ H (z.length:Int) xw=true:=by
     rw[e2,hal,fq]
     show (match H p with | some (.lst xs)=>decide (3<=xs.length)&&decide (xs.length<=8)&&xs.all (bj (al.length:Int)) | _=>false)=true
     rw[e3]
     simp only[List.length_map]
     rw[decide_eq_true e5.w3,decide_eq_true e5.w8,List.all_map,ck.mpr];rfl
     intro x hx
     have:=e5.wm x hx
     show (decide (0<=x)&&decide (x<(al.length:Int)))=true
     rw[decide_eq_true this.1,decide_eq_true this.2];rfl
    rw[hW] at this;cases this
   | true =>
    bv_omega
    rw[fF]
    and_intros
    refine⟨xr,tr,_,rfl,dA (s1.trans s2) htr,?_⟩
    and_intros
    cases hB:bj (z.length:Int) xr with
    | false =>
     bv_omega
     refine⟨by decide,kE (fun al p ws r ⟨e1,e2,e3,e4,e5⟩=>?_) H2 (s1.trans s2)⟩
     have hal:z=tx al:=by cases e1;rfl
     have:bj (z.length:Int) xr=true:=by
      rw[e4,hal,fq]
      show (decide (0<=r)&&decide (r<(al.length:Int)))=true
      rw[decide_eq_true e5.rm.1,decide_eq_true e5.rm.2];rfl
     rw[hB] at this;cases this
    | true =>
     bv_omega
     obtain⟨r,rfl⟩:∃ r,xr=.int r:=by
      cases xr with
      | int r=>exact⟨r,rfl⟩
      | _=>cases hB
     have hB':(decide (0<=r)&&decide (r<(z.length:Int)))=true:=hB
     rw[cf,cZ,cZ] at hB'
     obtain⟨p,ws,rfl,hp,w3,w8,wm⟩:=DD hW
     have hp2:H2 p=some (.lst (ws.map V.int)):=s2 _ _ (s1 _ _ hp)
     rw[fF]
     and_intros
     refine⟨p,ws,_,rfl,hp2,by omega,fun H3 s3=>?_⟩
     and_intros
     have s03:aq H H3:=(s1.trans s2).trans s3
     have el:(z.length:Int)=(z.cps.toList.length:Int):=by rw[hz]
     cases hS:Mk.safe (z.length:Int) ws with
     | false =>
      bv_omega
      refine⟨by decide,kE (fun al p' ws' r' ⟨e1,e2,e3,e4,e5⟩=>?_) H3 s03⟩
      have hal:z=tx al:=by cases e1;rfl
      have hpp:p'=p:=by cases e2;rfl
      subst hpp
      have hww:ws'=ws:=by
       rw[hp] at e3
       have e6:ws.map V.int=ws'.map V.int:=by injection e3 with e3;injection e3
       exact (nZ (fun x y h=>by injection h)).mp e6.symm
      subst hww
      have:=e5.safe
      rw[hal,fq] at hS
      rw[hS] at this;cases this
     | true =>
      bv_omega
      have ha3:=s03 _ _ ha
      have hp3:H3 p=some (.lst (ws.map V.int)):=s03 _ _ hp
      have hne:p≠a:=fun e=>by rw[e,ha] at hp;cases hp
      have hM:qB H (.str z) (.ref p) (.int r) z.cps.toList p ws r:=⟨by rw[tm],rfl,hp,rfl,⟨g3,g26,gnd,gabc,w3,w8,by rw[←el];exact wm,by rw[←el];exact hS,by rw[←el];exact hB'⟩⟩
      ac_nf
      refine⟨_,_,_,ha3,AF.c_Code,AF.n_Code_letters,by decide,ws.map V.int,.inl (.inl (.of (by rw[ar hne];exact hp3))),fun q H4 hq s4 h4=>?_⟩
      have ha4:=s4 a _ az
      refine⟨_,_,_,ha4,AF.c_Code,AF.n_Code_factors,dQ (ai 1) (by decide),_,_,_,az,AF.c_Code,AF.n_Code_remainder,dQ (ai 2) (by decide),?_⟩
      have hqa:q≠a:=fun e=>by rw[e,az] at hq;cases hq
      rw[ar hqa] at hq
      have hq0:H q=none:=by
       cases e:H q with
       | none=>rfl
       | some o=>rw[s03 q o e] at hq;cases hq
      refine kQ z.cps.toList p ws r hM q _ hq0 (fun b o hb e=>?_) ?_ ?_
      ·rw[ar hb,ar hb]
       exact s4 b o (by rw[ar hb];exact s03 b o e)
      ·rw[az]
       unfold qz
       rw[tm]
       rfl
      ·rw[ar hqa,ar hqa];exact h4
theorem jY {b k:Int} (h0:0<=k) (h1:k<b):bj b (.int k)=true:=by
 show (decide (0<=k)&&decide (k<b))=true
 rw[decide_eq_true h0,decide_eq_true h1];rfl
theorem qr (h:bj b x=true):∃ k,x=.int k/\0<=k/\k<b:=by
 cases x with
 | int k =>
  have h':(decide (0<=k)&&decide (k<b))=true:=h
  rw[cf,cZ,cZ] at h'
  exact⟨k,rfl,h'⟩
 | _=>cases h
def jT (H:Hp) (x:V):Prop:=(∃ t,cz H x=some t)/\∀ p xs,x=.ref p->H p=some (.tup xs)->xs.length<=1000/\∀ y∈xs,(∃ t,cz H y=some t)/\∀ z,y=.str z->z.length<=10000
theorem dj {t:Addr} (ht:H t=some (.tup (key.map kV))) (eo:dI key):jT H (.ref t):=by
 refine⟨⟨.tup,by show i8 (H t)=_;rw[ht];rfl⟩,fun p xs ep hp=>?_⟩
 cases ep
 rw[ht] at hp
 cases hp
 refine⟨by rw[List.length_map];have:=eo.few;omega,fun v hv=>?_⟩
 obtain⟨z,hz,rfl⟩:=aC.mp hv
 exact⟨GO H z,fun s es=>eo.short s (by rw[←es];exact hv)⟩
theorem jT.same {H H':Hp} (h:jT H x) (s:aq H H'):jT H' x:=by
 obtain⟨⟨t,ht⟩,h2⟩:=h
 refine⟨⟨t,dA s ht⟩,fun p xs e hp=>?_⟩
 subst e
 have ht':i8 (H p)=some t:=ht
 cases ho:H p with
 | none=>rw[ho] at ht';cases ht'
 | some o =>
  have:=s _ _ ho
  rw[hp] at this
  cases this
  obtain⟨q1,q2⟩:=h2 p xs rfl ho
  exact⟨q1,fun y hy=>⟨by obtain⟨t',h'⟩:=(q2 y hy).1;exact⟨t',dA s h'⟩,(q2 y hy).2⟩⟩
theorem oJ {H H':Hp} (s:aq H H') (h:jT H x):dm H' x=dm H x:=by
 cases x with
 | ref p =>
  obtain⟨⟨t,ht⟩,_⟩:=h
  have ht':i8 (H p)=some t:=ht
  show (match H' p with | some (.tup xs)=>dX xs | _=>false)=(match H p with | some (.tup xs)=>dX xs | _=>false)
  cases ho:H p with
  | none=>rw[ho] at ht';cases ht'
  | some o=>rw[s _ _ ho]
 | _=>rfl
theorem BG {t:Tg} (h:cz H y=some t) (hn:y≠.non):isV y .non=some false:=by
 cases y with
 | non=>exact absurd rfl hn
 | byt _=>cases h
 | flt _=>cases h
 | ty _=>cases h
 | _=>rfl
def Chs (Ad:Ads) (es:List Ben) (M:Int) (key:List Key) (y:V) (bar:Int->Bool) (F:Addr->Prop) (S:Int->Prop):Prop :=
 (key∈es.map (·.key)/\F Ad.Twice)∨(key∉es.map (·.key) ∧
  ((y≠.non/\bj M y=false/\F Ad.NoNumber) ∨
  (∃ n,y=.int n/\0<=n/\n<M/\(n∈es.map (·.num)∨bar n=true)/\F Ad.NoNumber) ∨
  (300<=es.length/\(y=.non∨∃ n,y=.int n/\0<=n/\n<M/\n∉es.map (·.num)/\bar n=false)/\F Ad.TooMany) ∨
  (es.length<300/\∃ n,((y=.int n/\0<=n/\n∉es.map (·.num)/\bar n=false)∨(y=.non/\m5 (es.map (·.num)) bar n))/\n<M/\S n) ∨
  (es.length<300/\y=.non/\∃ n,m5 (es.map (·.num)) bar n/\M<=n/\F Ad.TooMany)))
theorem Chs.imp {Ad:Ads}{es:List Ben}{F F':Addr->Prop}{S S':Int->Prop} (h:Chs Ad es M key y bar F S) (hF:∀ c,F c->F' c) (hS:∀ n,key∉es.map (·.key)->es.length<300->0<=n->n<M->n∉es.map (·.num)->S n->S' n):Chs Ad es M key y bar F' S':=by
 rcases h with ⟨a,k⟩ | ⟨a,⟨b,c,k⟩ | ⟨n,b,c,d,e,k⟩ | ⟨b,c,k⟩ | ⟨b,n,c,d,k⟩ | ⟨b,c,n,d,e,k⟩⟩
 ·exact .inl ⟨a,hF _ k⟩
 ·exact .inr ⟨a,.inl ⟨b,c,hF _ k⟩⟩
 ·exact .inr ⟨a,.inr (.inl ⟨n,b,c,d,e,hF _ k⟩)⟩
 ·exact .inr ⟨a,.inr (.inr (.inl ⟨b,c,hF _ k⟩))⟩
 ·refine .inr ⟨a,.inr (.inr (.inr (.inl ⟨b,n,c,d,hS n a b ?_ d ?_ k⟩)))⟩
  ·rcases c with ⟨_,h,_⟩ | ⟨_,h⟩
   ·exact h
   ·exact h.pos
  ·rcases c with ⟨_,_,h,_⟩ | ⟨_,h⟩
   ·exact h
   ·exact h.out
 ·exact .inr ⟨a,.inr (.inr (.inr (.inr ⟨b,c,n,d,e,hF _ k⟩)))⟩
inductive eE (Ad:Ads) (spf:Sp) (vs:List V) (H:Hp) (Q:VK) (E:XK):Prop
 | mk (b ca dn de f:Addr) (es:List Ben) (al:List Nat) (ws:List Int) (r:Int) (x y:V) (q0:vs=[.ref b,x,y,.ref f]) (q1:cQ Ad H b ca dn de es) (q2:gd Ad H ca al ws r) (q3:gO al ws r) (q4:jT H x) (q5:(∃ t,cz H y=some t)) (q6:((dm H x=false/\∀ H',aq H H'->E (.ref Ad.NoEntry) none H')∨∃ t key bar,x=.ref t/\H t=some (.tup (key.map kV))/\dI key/\Bar spf bar H/\Chs Ad es (dP al ws) key y bar (fun c=>∀ H',aq H H'->E (.ref c) none H') (fun n=>∀ H',aq H H'->Q (.int n) H'))):eE Ad spf vs H Q E
theorem rC:aM ["self","entry","number","is_barred"] ["self","entry","number","is_barred"] (ak dU):=by subst_eqs
theorem qW {k:Nat} (F:Fun K "choose" "Book.choose" dU f fd) (T:Bl mg) (AF:AdF K mg Ad) (C_is_below:Fnc P w K mg base (CX1 P w) 2 "is_below" ["thing","bound"] gE) (C_is_entry:Fnc P w K mg base (CX1 P w) 3 "is_entry" ["thing"] lu) (M_Book_least_free:qo P w K mg base (CX1 P w) Ad.Book "least_free" 2 1 ["self","is_barred"] (dO Ad)) (M_Code_many:Mtd P w K mg base (CX1 P w) Ad.Code "many" 1 ["self"] (km Ad)):uG P w K mg base (CX1 P w) (k+4) f fd ["self","entry","number","is_barred"] (EX P w K mg base k 1 (eE Ad)):=by
 refine F.okH (j:=k+3) (k:=k) (n:=1) rC (fun spf vs H Q E h=>?_) (fun cdv A outer s H vs Q E hr lf spf hlf lam step h=>?_)
 ·obtain⟨b,ca,dn,de,f,es,al,ws,r,x,y,rfl,_⟩:=h
  rfl
 ·obtain⟨b,ca,dn,de,f,es,al,ws,r,x,y,rfl,B,C,ok,⟨⟨tx0,htx⟩,hax⟩,⟨ty,hty⟩,ks⟩:=h
  obtain rfl:f=lf:=by cases hlf;rfl
  obtain⟨dx,h1⟩:=B.bk
  have hu:=hr.ft
  have hu1:=iM hr
  refine⟨_,af (bq (cL (bW (aG C_is_entry au (hr.mono (by omega)) (ae (pvL 1) (aa))))) (aj (dq dG AF.q_NoEntry AF.g_NoEntry cG rfl (ae (av) (aa)))) (aI)) (af (bq (aJ (oS (K:=K) rfl hu1) (pvL 1) (bP (K:=K) rfl (pvL 0)) (by kernel_rfl)) (aj (dq dG AF.q_Twice AF.g_Twice cG rfl (ae (av) (aa)))) (aI)) (af (bq (aJ md (pvL 2) (cK) (aL _)) (af (bq (cL (bW (aG C_is_below au (hr.mono (by omega)) (ae (pvL 2) (ae (ie M_Code_many au (hr.mono (by omega)) (bP (K:=K) rfl (pvL 0))) (aa)))))) (aj (dq dG AF.q_NoNumber AF.g_NoNumber cG rfl (ae (av) (aa)))) (aI)) (aj (bq ((my (aJ (oS (K:=K) rfl hu1) (pvL 2) (bP (K:=K) rfl (pvL 0)) (by kernel_rfl)) (kh (bW (pB step rfl (hr.mono (by omega)) (pvL 3) (ae (pvL 2) (aa)))))).pt) (aj (dq dG AF.q_NoNumber AF.g_NoNumber cG rfl (ae (av) (aa)))) (aI)))) (aI)) (af (bq (aJ (xy (K:=K) rfl hu) (ay sx T.len cB (ae (bP (K:=K) rfl (pvL 0)) (aa))) (gC AF.v_MOST_ENTRIES) (aL _)) (aj (dq dG AF.q_TooMany AF.g_TooMany cG rfl (ae (av) (aa)))) (aI)) (aj (aK (nB (aJ xA (pvL 2) (cK) (aL _)) (Ah M_Book_least_free step rfl rfl au (hr.mono (by omega)) (pvL 0) (pvL 3)) (pvL 2))))))),?_⟩
  grind
  refine⟨_,tx0,rfl,htx,hax,fun G1 t1=>?_⟩
  rcases ks with ⟨hent,k⟩ | ⟨t,key,bar,rfl,ht,eo,Fb,ks⟩
  ·rw[hent]
   and_intros
   exact⟨aP (ao (by decide)),k G1 t1⟩
  rw[ym ht eo]
  and_intros
  cbv
  have B1:=B.same t1
  obtain⟨dx1,h11⟩:=B1.bk
  grind
  refine⟨_,dx1,_,_,h11,AF.c_Book,AF.n_Book_by_entry,lW ca dn de,?_⟩
  refine .inr ⟨_,.inr ⟨_,key,t,.inl B1.he,rfl,t1 _ _ ht,rfl⟩,?_⟩
  rcases ks with ⟨hk,k⟩ | ⟨hk,ks⟩
  ·obtain⟨e,he,rfl⟩:=aC.mp hk
   rw[show cH (k9 es) e.key=some (V.int e.num) from ql (f:=fun e:Ben=>e.key) B.nk he]
   bv_omega
   exact⟨aP (ao (by decide)),k G1 t1⟩
  rw[wu hk]
  bv_omega
  show nn _ _ _
  cbv
  refine gY (fun σ G=>σ=[some (V.ref b),some (V.ref t),some y,some (V.ref f)]/\aq H G/\((300<=es.length/\∀ H',aq H H'->E (.ref Ad.TooMany) none H')∨(es.length<300/\((∃ n,y=.int n/\∀ H',aq H H'->Q (.int n) H')∨(y=.non/\∃ n,m5 (es.map (·.num)) bar n/\((n<dP al ws/\∀ H',aq H H'->Q (.int n) H')∨(dP al ws<=n/\∀ H',aq H H'->E (.ref Ad.TooMany) none H'))))))) ?_ ?_
  ·rintro σ G2 ⟨rfl,t2,hz⟩
   have B2:=B.same t2
   obtain⟨dx2,h12⟩:=B2.bk
   grind
   refine⟨_,dx2,_,_,h12,AF.c_Book,AF.n_Book_by_number,gf ca dn de,?_⟩
   and_intros
   refine⟨_,.inl B2.hn,?_⟩
   and_intros
   rcases hz with ⟨h3,k⟩ | ⟨h3,hz⟩
   ·rw[jy,decide_eq_true (show (300:Int)<=(es.length:Int) by omega)]
    bv_omega
    exact⟨aP (ao (by decide)),k G2 t2⟩
   rw[jy,decide_eq_false (show ¬ (300:Int)<=(es.length:Int) by omega)]
   bv_omega
   show nn _ _ _
   cbv
   rcases hz with ⟨n,rfl,k⟩ | ⟨rfl,n,Lf,k⟩
   ·and_intros
    exact k G2 t2
   ·and_intros
    refine⟨dx2,_,h12,cI (by decide) (by decide) (by decide) ca dn de,trivial,lam.same t2,b,ca,dn,de,f,es,al,ws,r,n,bar,rfl,B2,C.same t2,ok,Fb.same t2,Lf,k.imp (fun ⟨u,k⟩=>⟨u,fun G3 t3=>k G3 (t2.trans t3)⟩) fun ⟨u,k⟩=>⟨u,fun G3 t3=>k G3 (t2.trans t3)⟩⟩
  ·intro U hU
   by_cases hy:y=.non
   ·subst hy
    and_intros
    refine hU _ _ ⟨rfl,t1,?_⟩
    rcases ks with ⟨c,_⟩ | ⟨n,c,_⟩ | ⟨c,_,k⟩ | ⟨c,n,⟨e,_⟩ | ⟨_,L⟩,d,k⟩ | ⟨c,_,n,L,d,k⟩
    ·exact absurd rfl c
    ·cases c
    ·exact .inl ⟨c,k⟩
    ·cases e
    ·exact .inr ⟨c,.inr ⟨rfl,n,L,.inl ⟨d,k⟩⟩⟩
    ·exact .inr ⟨c,.inr ⟨rfl,n,L,.inr ⟨d,k⟩⟩⟩
   ·have C1:=C.same t1
    obtain⟨dc,qc,hc1,hc2⟩:=id C1
    and_intros
    have eV:=BG hty hy
    simp only[isV] at eV
    rw[eV]
    and_intros
    refine cN fun n2 hM=>?_
    and_intros
    refine⟨_,dx1,_,_,h11,AF.c_Book,AF.n_Book_basis,kC ca dn de,?_⟩
    refine⟨dc,_,hc1,qA (by decide) (by decide) (by decide) al qc r,ca,al,ws,r,rfl,C1,ok.a26,by have:=ok.w3;omega,ok.w8,fun G2 t2=>?_⟩
    have t02:=t1.trans t2
    refine⟨y,ty,_,rfl,dA t02 hty,?_⟩
    cases hb:bj ((al.length:Int)^(ws.length-1)) y with
    | false =>
     and_intros
     refine⟨aP (ao (by decide)),?_⟩
     have hb:bj (dP al ws) y=false:=hb
     rcases ks with ⟨_,_,k⟩ | ⟨n,rfl,c,d,_⟩ | ⟨_,c,_⟩ | ⟨_,n,⟨rfl,c,_⟩ | ⟨c,_⟩,d,_⟩ | ⟨_,c,_⟩
     ·exact k G2 t02
     ·rw[jY c d] at hb;cases hb
     ·rcases c with c | ⟨n,rfl,c,d,_⟩
      ·exact absurd c hy
      ·rw[jY c d] at hb;cases hb
     ·rw[jY c d] at hb;cases hb
     ·exact absurd c hy
     ·exact absurd c hy
    | true =>
     obtain⟨n,rfl,n0,n1⟩:=qr hb
     and_intros
     rw[hM]
     clear hM n2
     have B2:=B.same t02
     obtain⟨dx2,h12⟩:=B2.bk
     and_intros
     refine⟨_,dx2,_,_,h12,AF.c_Book,AF.n_Book_by_number,gf ca dn de,?_⟩
     refine .inr ⟨_,.inl ⟨_,.inl n,.inl B2.hn,rfl,rfl⟩,?_⟩
     rw[xo B.nn]
     obtain⟨kk⟩:Nonempty (((n∈es.map (·.num)∨bar n=true)/\∀ H',aq H H'->E (.ref Ad.NoNumber) none H')∨((n∉es.map (·.num)/\bar n=false)/\((300<=es.length/\∀ H',aq H H'->E (.ref Ad.TooMany) none H')∨(es.length<300/\∀ H',aq H H'->Q (.int n) H')))):=by
      rcases ks with ⟨_,c,_⟩ | ⟨n',e,c,d,o,k⟩ | ⟨c,d,k⟩ | ⟨c,n',⟨e,d,o,p⟩ | ⟨e,_⟩,d',k⟩ | ⟨_,e,_⟩
      ·rw[show bj (dP al ws) (.int n)=true from hb] at c;cases c
      ·cases e;exact⟨.inl ⟨o,k⟩⟩
      ·rcases d with e | ⟨n',e,_,_,o,p⟩
       ·cases e
       ·cases e;exact⟨.inr ⟨⟨o,p⟩,.inl ⟨c,k⟩⟩⟩
      ·cases e;exact⟨.inr ⟨⟨o,p⟩,.inr ⟨c,k⟩⟩⟩
      ·cases e
      ·cases e
     by_cases hm:n∈es.map (·.num)
     ·rw[decide_eq_true hm,if_pos rfl]
      rcases kk with ⟨_,k⟩ | ⟨⟨a,_⟩,_⟩
      ·exact⟨aP (ao (by decide)),k G2 t02⟩
      ·exact absurd hm a
     ·rw[decide_eq_false hm,if_neg (by decide)]
      refine⟨trivial,lam.same t02,lam.same t02,trivial,Fb.same t02 n G2 _ (aq.refl _) fun G3 t3=>⟨_,rfl,?_⟩⟩
      rcases kk with ⟨a,k⟩ | ⟨⟨_,b⟩,k⟩
      ·rw[a.resolve_left hm,if_pos rfl]
       exact⟨aP (ao (by decide)),k G3 (t02.trans t3)⟩
      ·rw[b,if_neg (by decide)]
       exact hU _ _ ⟨rfl,t02.trans t3,k.imp id fun ⟨u,k⟩=>⟨u,.inl ⟨n,rfl,k⟩⟩⟩
theorem Bg (h:dX xs=true):∃ key:List Key,xs=key.map kV:=by
 cases xs with
 | nil=>cases h
 | cons a r =>
  cases a with
  | str z =>
   cases r with
   | nil=>exact⟨[.inr z],rfl⟩
   | cons y r2 =>
    cases r2 with
    | cons _ _=>cases h
    | nil =>
     have h':(if z=("phrase":Str) then iK 6 y else if z=("part":Str) then gq 6 y else false)=true:=h
     cases y with
     | str y=>exact⟨[.inr z,.inr y],rfl⟩
     | _ =>
      exfalso
      split at h'
      ·cases h'
      ·split at h'
       ·cases h'
       ·cases h'
  | _=>cases h
inductive iw (Ad:Ads) (vs:List V) (H:Hp) (Q:VK) (E:XK):Prop
 | mk (b ca dn de:Addr) (es:List Ben) (x:V) (t:Tg) (q0:vs=[.ref b,x]) (q1:cQ Ad H b ca dn de es) (q2:cz H x=some t) (q3:(∀ p xs,x=.ref p->H p=some (.tup xs)->xs.length<=1000/\∀ y∈xs,(∃ t,cz H y=some t)/\∀ z,y=.str z->z.length<=10000)) (q4:(dm H x=false->∀ H',aq H H'->Q .non H')) (q5:(∀ p key,x=.ref p->H p=some (.tup (key.map kV))->dX (key.map kV)=true->(∀ e∈es,e.key=key->∀ H',aq H H'->Q (.int e.num) H')/\(key∉es.map (·.key)->∀ H',aq H H'->Q .non H'))):iw Ad vs H Q E
theorem rD:aM ["self","entry"] ["self","entry"] (ak jb):=by subst_eqs
theorem qX (F:Fun K "number" "Book.number" jb f fd) (T:Bl mg) (AF:AdF K mg Ad) (C_is_entry:Fnc P w K mg base (CX1 P w) 3 "is_entry" ["thing"] lu):bI P w K mg base (CX1 P w) 4 f fd ["self","entry"] (iw Ad):=by
 refine F.okX (k:=3) rD ?_ ?_
 ·bv_decide
 ·bv_normalize
  obtain⟨b,ca,dn,de,es,x,t,rfl,B,ht,hx,k1,k2⟩:=h
  refine⟨_,af (bq (cL (bW (aG C_is_entry au (hr.mono (by decide)) (ae (pvL 1) (aa))))) (aj (aK (cK))) (aI)) (aj (aK (sR hu1 (bP (K:=K) rfl (pvL 0)) (pvL 1)))),?_⟩
  grind
  refine⟨x,t,rfl,ht,hx,fun H1 s1=>⟨_,rfl,?_⟩⟩
  cases hv:dm H x with
  | false =>
   bv_omega
   exact k1 hv H1 s1
  | true =>
   bv_omega
   show nn _ _ _
   cbv
   cases x with
   | ref p =>
    have hv':(match H p with | some (.tup xs)=>dX xs | _=>false)=true:=hv
    cases hp:H p with
    | none=>rw[hp] at hv';cases hv'
    | some o =>
     rw[hp] at hv'
     cases o with
     | tup xs =>
      obtain⟨key,rfl⟩:=Bg hv'
      obtain⟨q1,q2⟩:=k2 p key rfl hp hv'
      have B1:=B.same s1
      obtain⟨dx1,h11⟩:=B1.bk
      and_intros
      refine⟨_,dx1,_,_,h11,AF.c_Book,AF.n_Book_by_entry,lW ca dn de,de,rfl,.inr ⟨_,.inl B1.he⟩,_,jU.t (k:=key) B1.he (s1 _ _ hp),?_⟩
      by_cases hm:key∈es.map (·.key)
      ·obtain⟨e,he,ee⟩:=aC.mp hm
       rw[←ee,yn B.nk he]
       exact q1 e he ee H1 s1
      ·rw[wu hm]
       exact q2 hm H1 s1
     | _=>cases hv'
   | _=>cases hv
def qm (l0:Int) (dv:V):Prop:=bj 1000000001 dv=false∨∃ d,dv=.int d/\d<l0
inductive cc (Ad:Ads) (vs:List V) (H:Hp) (Q:VK) (E:XK):Prop
 | mk (ed dx b cl sd:Addr) (l0:Int) (dv:V) (t:Tg) (q0:vs=[.ref ed,dv]) (q1:H ed=some (.ins Ad.Editions dx (edF b cl sd l0))) (q2:cz H dv=some t) (q3:((∃ d,dv=.int d/\0<=d/\d<=1000000000/\l0<=d/\Q .non H)∨(qm l0 dv/\E (.ref Ad.NoDay) none H))):cc Ad vs H Q E
theorem jq:aM ["self","day"] ["self","day"] (ak dr):=by subst_eqs
theorem iY (F:Fun K "check_change" "Editions.check_change" dr f fd) (T:Bl mg) (AF:AdF K mg Ad) (C_is_day:Fnc P w K mg base (CX1 P w) 3 "is_day" ["thing"] oZ):bI P w K mg base (CX1 P w) 4 f fd ["self","day"] (cc Ad):=by
 refine F.okX (k:=3) jq ?_ ?_
 ·bv_decide
 ·bv_normalize
  obtain⟨ed,dx,b,cl,sd,l0,dv,t,rfl,h1,ht,k⟩:=h
  refine⟨_,aj (bq ((my (cL (bW (aG C_is_day au (hr.mono (by decide)) (ae (pvL 1) (aa))))) (kh (aJ oT (pvL 1) (bP (K:=K) rfl (pvL 0)) (aL _)))).pt) (aj (dq dG AF.q_NoDay AF.g_NoDay cG rfl (ae (av) (aa)))) (aI)),?_⟩
  and_intros
  refine⟨_,t,rfl,ht,?_⟩
  cases hb:bj 1000000001 dv with
  | false =>
   and_intros
   rcases k with ⟨d,rfl,d0,d1,_⟩ | ⟨_,k⟩
   ·rw[jY d0 (by omega)] at hb;cases hb
   ·exact⟨aP (ao (by decide)),k⟩
  | true =>
   obtain⟨d,rfl,d0,d1⟩:=qr hb
   and_intros
   refine⟨_,dx,_,_,h1,AF.c_Editions,AF.n_Editions_latest,rfl,?_⟩
   and_intros
   rcases k with ⟨d',e,_,_,a,k⟩ | ⟨a,k⟩
   ·cases e
    rw[decide_eq_false (show ¬ d<l0 by omega),if_neg (by decide)]
    exact k
   ·rcases a with a | ⟨d',e,a⟩
    ·rw[hb] at a;cases a
    ·cases e
     rw[decide_eq_true a,if_pos rfl]
     exact⟨aP (ao (by decide)),k⟩
theorem yz [DecidableEq κ] {es:List Ben}{f:Ben->κ}{g:Ben->V}{k:κ}:kP (es.map fun e=>(f e,g e)) k=(es.filter fun e=>decide (f e≠k)).map fun e=>(f e,g e):=by
 unfold kP
 rw[jH];rfl
theorem Ex (es:List Ben) (n:Int):kP (di es) (.inl n)=di (es.filter fun e=>decide (e.num≠n)):=by
 rw[iN,iN,yz]
 congr 1
 refine lF fun e _=>?_
 rw[fV]
 exact⟨fun h z=>h (by rw[z]),fun h z=>h (Sum.inl.inj z)⟩
theorem Ew (es:List Ben) (k:List Key):kP (k9 es) k=k9 (es.filter fun e=>decide (e.key≠k)):=by
 unfold k9
 rw[yz]
theorem En {es:List Ben}{e:Ben} (h1:(es.map (·.num)).Nodup) (h2:(es.map (·.key)).Nodup) (he:e∈es):es.filter (fun x=>decide (x.num≠e.num))=es.filter fun x=>decide (x.key≠e.key):=by
 refine lF fun x hx=>?_
 rw[fV]
 refine not_congr ⟨fun h=>?_,fun h=>?_⟩
 ·rw[oM h1 hx he h]
 ·rw[oM h2 hx he h]
inductive ix (Ad:Ads) (vs:List V) (H:Hp) (Q:VK) (E:XK):Prop
 | mk (b ca dn de:Addr) (es:List Ben) (x:V) (q0:vs=[.ref b,x]) (q1:cQ Ad H b ca dn de es) (q2:jT H x) (q3:((dm H x=false/\∀ H',aq H H'->E (.ref Ad.NoEntry) none H')∨∃ p key0,x=.ref p/\H p=some (.tup (key0.map kV))/\dI key0/\(∀ e∈es,e.key=key0->∀ H',(∀ c o,c≠dn->c≠de->H c=some o->H' c=some o)->cQ Ad H' b ca dn de (es.filter fun x=>decide (x.num≠e.num))->Q (.int e.num) H')/\(key0∉es.map (·.key)->∀ H',aq H H'->E (.ref Ad.NoEntry) none H'))):ix Ad vs H Q E
theorem lh:aM ["self","entry","freed"] ["self","entry"] (ak jc):=by subst_eqs
theorem qY (F:Fun K "strike" "Book.strike" jc f fd) (T:Bl mg) (AF:AdF K mg Ad) (M_Book_number:Mtd P w K mg base (CX1 P w) Ad.Book "number" 4 ["self","entry"] (iw Ad)):bI P w K mg base (CX1 P w) 5 f fd ["self","entry"] (ix Ad):=by
 refine F.okX (k:=4) lh ?_ (fun cdv A outer s H vs Q E hr h=>?_)
 ·bv_decide
 ·obtain⟨b,ca,dn,de,es,x,rfl,B,⟨⟨tx0,htx⟩,hax⟩,ks⟩:=h
  obtain⟨dx,h1⟩:=B.bk
  have hu:=hr.ft
  have hu1:=iM hr
  refine⟨_,af (aA (i:=2) lh.nd (cJ M_Book_number au (hr.mono (by decide)) (pvL 0) (ae (pvL 1) (aa)))) (af (bq (aJ xA (pvL 2) (cK) (aL _)) (aj (dq dG AF.q_NoEntry AF.g_NoEntry cG rfl (ae (av) (aa)))) (aI)) (af (cW (iZ (K:=K) rfl jN oj oo (Em hu1) (bP (K:=K) rfl (pvL 0)) (ae (pvL 1) (aa)))) (af (cW (iZ (K:=K) rfl jN oj oo ud (bP (K:=K) rfl (pvL 0)) (ae (pvL 2) (aa)))) (aj (aK (pvL 2)))))),?_⟩
  grind
  rcases ks with ⟨hent,kn⟩ | ⟨p,key0,rfl,hp,ok,k,kn⟩
  ·refine⟨dx,_,h1,cI (by decide) (by decide) (by decide) ca dn de,b,ca,dn,de,es,x,tx0,rfl,B,htx,hax,fun _ H1 s1=>?_,fun q key e1 e2 e3=>?_⟩
   ·cbv
    grind
    exact⟨aP (ao (by decide)),kn H1 s1⟩
   ·subst e1
    have:dm H (.ref q)=true:=by show (match H q with | some (.tup xs)=>dX xs | _=>false)=true;rw[e2];exact e3
    rw[this] at hent
    cases hent
  refine⟨dx,_,h1,cI (by decide) (by decide) (by decide) ca dn de,b,ca,dn,de,es,.ref p,tx0,rfl,B,htx,hax,fun hv=>?_,fun q key e1 e2 e3=>⟨fun e' he' ek H1 s1=>?_,fun hno=>?_⟩⟩
  ·rw[ym hp ok] at hv;cases hv
  ·cases e1
   rw[hp] at e2
   have ekk:key0.map kV=key.map kV:=by injection e2 with e2;injection e2
   have ek2:key0=e'.key:=by rw[pZ ekk,ek]
   subst ek2
   have he:=he'
   have B1:=B.same s1
   obtain⟨dx1,h11⟩:=B1.bk
   cbv
   grind
   show nn _ _ _
   cbv
   grind
   have dne:dn≠de:=fun e=>by have:=B1.hn;rw[e,B1.he] at this;cases this
   have pne:p≠de:=fun e=>by have:=B1.he;rw[←e,s1 _ _ hp] at this;cases this
   have bne:b≠de:=fun e=>by rw[e,B1.he] at h11;cases h11
   have bnn:b≠dn:=fun e=>by rw[e,B1.hn] at h11;cases h11
   refine⟨_,dx1,_,_,h11,AF.c_Book,AF.n_Book_by_entry,lW ca dn de,.inr (.inr (.inl ⟨rfl,.inr ⟨_,B1.he⟩⟩)),?_⟩
   and_intros
   refine⟨_,e'.key,_,B1.he,s1 _ _ hp,yn B.nk he,?_⟩
   cbv
   grind
   refine⟨_,dx1,_,_,by rw[ar bne];exact h11,AF.c_Book,AF.n_Book_by_number,gf ca dn de,.inr (.inr (.inl ⟨rfl,.inl ⟨_,by rw[ar dne];exact B1.hn⟩⟩)),?_⟩
   and_intros
   refine⟨_,.inl e'.num,_,by rw[ar dne];exact B1.hn,rfl,hO B.nn he,?_⟩
   cbv
   and_intros
   rw[Ex,Ew,←En B.nn B.nk he]
   refine k e' he rfl _ (fun c o c1 c2 ec=>by rw[ar c1,ar c2];exact s1 _ _ ec) ⟨⟨dx1,by rw[ar bnn,ar bne];exact h11⟩,az,by rw[ar (Ne.symm dne)];exact az,fun u hu=>?_,jD (jE _ jI) B.nn,jD (jE _ jI) B.nk⟩
   have hu1:=B1.en u (dF.mp hu).1
   have u1:u.adr≠dn:=fun e=>by rw[e,B1.hn] at hu1;cases hu1
   have u2:u.adr≠de:=fun e=>by rw[e,B1.he] at hu1;cases hu1
   rw[ar u1,ar u2]
   exact hu1
  ·cases e1
   rw[hp] at e2
   have ekk:key0.map kV=key.map kV:=by injection e2 with e2;injection e2
   intro H1 s1
   cbv
   grind
   exact⟨aP (ao (by decide)),kn (by rw[pZ ekk];exact hno) H1 s1⟩
inductive fA (Ad:Ads) (vs:List V) (H:Hp) (Q:VK) (E:XK):Prop
 | mk (b ca dn de t:Addr) (es:List Ben) (al:List Nat) (ws:List Int) (r n:Int) (key:List Key) (y:V) (q0:vs=[.ref b,.ref t,y]) (q1:cQ Ad H b ca dn de es) (q2:gd Ad H ca al ws r) (q3:gO al ws r) (q4:H Ad.tb=some (fX qO)) (q5:H t=some (.tup (key.map kV))) (q6:dI key) (q7:key∉es.map (·.key)) (q8:es.length<300) (q9:0<=n) (q10:n<dP al ws) (q11:n∉es.map (·.num)) (q12:y=.int n) (q13:∀ H',(∀ c o,c≠dn->c≠de->H c=some o->H' c=some o)->cQ Ad H' b ca dn de (es++[⟨n,key,t⟩])->Q (.int n) H'):fA Ad vs H Q E
theorem pF:aM ["self","entry","number","given"] ["self","entry","number"] (ak cy):=by subst_eqs
theorem p8 (F:we K "put" "Book.put" cy f fd) (T:Bl mg) (AF:AdF K mg Ad) (CD:fd.code=.ref Ad.cd) (M_Book_choose:qo P w K mg base (CX1 P w) Ad.Book "choose" 4 1 ["self","entry","number","is_barred"] (eE Ad)):bI P w K mg base (CX1 P w) 6 f fd ["self","entry","number"] (fA Ad):=by
 refine F.okT (k:=5) CD pF ?_ (fun A outer s H vs Q E hr h=>?_)
 ·bv_decide
 ·obtain⟨b,ca,dn,de,t,es,al,ws,r,n,key,y,rfl,B,C,ok,Tb,ht,eo,hk,h300,n0,n1,hnn,hy,k⟩:=h
  obtain⟨dx,h1⟩:=B.bk
  have hu:=hr.ft
  have hu1:=iM hr
  refine⟨_,af (aA (i:=3) pF.nd (sS (k:=0) (ps:=["k"]) (fr:=[]) (js:=[]) (q:=qO) M_Book_choose rfl rfl au (hr.mono (by decide)) (pvL 0) (pvL 1) (pvL 2) rfl AF.t_tab (by kernel_rfl) rfl (.nil) (fun _ _ _=>L2.bind1 fun _=>rfl) (fun _ _ _ _ _ _ hr=>e8) (by decide +kernel) (by decide +kernel))) (af (iq hu1 (bP (K:=K) rfl (pvL 0)) (pvL 3) (pvL 1)) (af (iq hu1 (bP (K:=K) rfl (pvL 0)) (pvL 1) (pvL 3)) (aj (aK (pvL 3))))),?_⟩
  grind
  refine⟨dx,_,h1,cI (by decide) (by decide) (by decide) ca dn de,Tb,fun f G1 z1 t1 _=>?_⟩
  subst hy
  refine⟨b,ca,dn,de,f,es,al,ws,r,.ref t,.int n,rfl,B.same t1,C.same t1,ok,dj (t1 _ _ ht) eo,⟨.int,rfl⟩,.inr ⟨t,key,fun _=>false,rfl,t1 _ _ ht,eo,fun _ G Q' _ k=>k G (aq.refl _),.inr ⟨hk,.inr (.inr (.inr (.inl ⟨h300,n,.inl ⟨rfl,n0,hnn,rfl⟩,n1,fun G2 t2=>?_⟩)))⟩⟩⟩
  have t02:=t1.trans t2
  have B2:=B.same t02
  obtain⟨dx2,h12⟩:=B2.bk
  cbv
  grind
  refine⟨_,dx2,_,_,h12,AF.c_Book,AF.n_Book_by_number,gf ca dn de,dn,_,rfl,.inl ⟨_,.inl n,B2.hn,rfl,by rw[jy];exact ao (by omega),rfl⟩,?_⟩
  rw[qg (ue hnn),show di es++[((.inl n:Key),V.ref t)]=di (es++[⟨n,key,t⟩]) from (oP es ⟨n,key,t⟩).symm]
  have hnb:dn≠b:=aE B2.hn h12 (by intro z;cases z)
  have heb:de≠b:=aE B2.he h12 (by intro z;cases z)
  have hne:dn≠de:=aE B2.hn B2.he (by intro z;cases z)
  have hdt:∀ {c:Addr}{xs:List V},G2 c=some (.tup xs)->c≠dn/\c≠de:=fun h=>⟨aE h B2.hn (by intro z;cases z),aE h B2.he (by intro z;cases z)⟩
  have k3:∀ c o,c≠dn->G2 c=some o->upd G2 dn (.dK (di (es++[⟨n,key,t⟩]))) c=some o:=fun c o hc h=>by rw[ar hc];exact h
  have g3:upd G2 dn (.dK (di (es++[⟨n,key,t⟩]))) dn=some (.dK (di (es++[⟨n,key,t⟩]))):=az
  generalize upd G2 dn (.dK (di (es++[⟨n,key,t⟩])))=G3 at k3 g3
  cbv
  have ht2:=t02 _ _ ht
  have hb3:=k3 _ _ hnb.symm h12
  grind
  refine⟨_,dx2,_,_,hb3,AF.c_Book,AF.n_Book_by_entry,lW ca dn de,de,_,rfl,.inr ⟨_,key,t,k3 _ _ hne.symm B2.he,rfl,k3 _ _ (hdt ht2).1 ht2,by show (k9 es).length<_;unfold k9;rw[List.length_map];exact ao (by omega),rfl⟩,?_⟩
  rw[qg (wu hk),show k9 es++[(key,V.int n)]=k9 (es++[⟨n,key,t⟩]) from (zu es ⟨n,key,t⟩).symm]
  have k4:∀ c o,c≠de->G3 c=some o->upd G3 de (.dT (k9 (es++[⟨n,key,t⟩]))) c=some o:=fun c o hc h=>by rw[ar hc];exact h
  have g4:upd G3 de (.dT (k9 (es++[⟨n,key,t⟩]))) de=some (.dT (k9 (es++[⟨n,key,t⟩]))):=az
  generalize upd G3 de (.dT (k9 (es++[⟨n,key,t⟩])))=G4 at k4 g4
  cbv
  and_intros
  refine k G4 (fun c o h1 h2 h=>k4 _ _ h2 (k3 _ _ h1 (t02 _ _ h))) ⟨⟨dx2,k4 _ _ heb.symm hb3⟩,k4 _ _ hne g3,g4,fun e he=>?_,?_,?_⟩
  ·rcases bL.mp he with he | he
   ·have:=B2.en e he
    exact k4 _ _ (hdt this).2 (k3 _ _ (hdt this).1 this)
   ·rw[bc.mp he]
    exact k4 _ _ (hdt ht2).2 (k3 _ _ (hdt ht2).1 ht2)
  ·rw[b9];exact kb B.nn hnn
  ·rw[b9];exact kb B.nk hk
inductive bJ (Ad:Ads) (vs:List V) (H:Hp) (Q:VK) (E:XK):Prop
 | mk (ed b ca dn de cl sd:Addr) (es:List Ben) (lk:Lk) (l0:Int) (m:Nat) (ch:List Chg) (dv x:V) (td:Tg) (q0:vs=[.ref ed,dv,x]) (q1:iW Ad H ed b ca dn de cl sd es lk l0 m ch) (q2:cz H dv=some td) (q3:jT H x) (q4:m<999) (q5:((qm l0 dv/\E (.ref Ad.NoDay) none H)∨∃ day,dv=.int day/\0<=day/\day<=1000000000/\l0<=day/\((dm H x=false/\∀ H',aq H H'->E (.ref Ad.NoEntry) none H')∨∃ t key0,x=.ref t/\H t=some (.tup (key0.map kV))/\dI key0/\(∀ e∈es,e.key=key0->∀ H',(∀ c o,c≠ed->c≠dn->c≠de->c≠cl->c≠sd->H c=some o->H' c=some o)->iW Ad H' ed b ca dn de cl sd (es.filter fun x=>decide (x.num≠e.num)) (fun i=>if i=e.num then some (day,e.key) else lk i) day (m+1) (ch++[⟨day,e.num,none⟩])->Q (.int e.num) H')/\(key0∉es.map (·.key)->∀ H',aq H H'->E (.ref Ad.NoEntry) none H')))):bJ Ad vs H Q E
theorem iu:aM ["self","day","entry","freed"] ["self","day","entry"] (ak fN):=by subst_eqs
theorem mH (F:Fun K "strike" "Editions.strike" fN f fd) (T:Bl mg) (AF:AdF K mg Ad) (M_Editions_note_change:Mtd P w K mg base (CX1 P w) Ad.Editions "note_change" 1 ["self","day","number","entry"] (cw Ad)) (M_Book_strike:Mtd P w K mg base (CX1 P w) Ad.Book "strike" 5 ["self","entry"] (ix Ad)) (M_Editions_check_change:Mtd P w K mg base (CX1 P w) Ad.Editions "check_change" 4 ["self","day"] (cc Ad)):bI P w K mg base (CX1 P w) 6 f fd ["self","day","entry"] (bJ Ad):=by
 refine F.okX (k:=5) iu ?_ (fun cdv A outer s H vs Q E hr h=>?_)
 ·bv_decide
 ·obtain⟨ed,b,ca,dn,de,cl,sd,es,lk,l0,m,ch,dv,x,td,rfl,D,htd,ask,m9,ks⟩:=h
  obtain⟨dx,h1⟩:=D.eF
  obtain⟨cs,hcl,lcl,hch⟩:=D.cF
  obtain⟨kvs,hsd,S,lsd⟩:=D.sF
  have B:=D.bF
  obtain⟨bx,hb⟩:=B.bk
  have hu:=hr.ft
  have hu1:=iM hr
  refine⟨_,af (cW (cJ M_Editions_check_change au (hr.mono (by decide)) (pvL 0) (ae (pvL 1) (aa)))) (af (aA (i:=3) iu.nd (cJ M_Book_strike au (hr.mono (by decide)) (bP (K:=K) rfl (pvL 0)) (ae (pvL 2) (aa)))) (af (iq hu1 (bP (K:=K) rfl (pvL 0)) (pvL 3) (aS (ae (pvL 1) (ae (pvL 2) (aa))))) (af (cW (cJ M_Editions_note_change au (hr.mono (by decide)) (pvL 0) (ae (pvL 1) (ae (pvL 3) (ae (cK) (aa)))))) (aj (aK (pvL 3)))))),?_⟩
  grind
  refine⟨dx,_,h1,rfl,ed,dx,b,cl,sd,l0,dv,td,rfl,h1,htd,?_⟩
  rcases ks with ⟨a,k⟩ | ⟨day,rfl,d0,d1,ld,ks⟩
  ·exact .inr ⟨a,k⟩
  refine .inl ⟨day,rfl,d0,d1,ld,?_⟩
  cbv
  grind
  refine⟨_,dx,_,_,h1,AF.c_Editions,AF.n_Editions_current,rfl,?_⟩
  and_intros
  refine⟨bx,_,hb,cI (by decide) (by decide) (by decide) ca dn de,b,ca,dn,de,es,x,rfl,B,ask,?_⟩
  rcases ks with ⟨hent,k⟩ | ⟨t,key0,rfl,ht,eo,k,kn⟩
  ·exact .inl ⟨hent,k⟩
  refine .inr ⟨t,key0,rfl,ht,eo,fun e he ekk G1 k1 B1=>?_,kn⟩
  subst ekk
  cbv
  have nen:ed≠dn:=aE h1 B.hn (by intro z;cases z)
  have nee:ed≠de:=aE h1 B.he (by intro z;cases z)
  have ncn:cl≠dn:=aE hcl B.hn (by intro z;cases z)
  have nce:cl≠de:=aE hcl B.he (by intro z;cases z)
  have nse:sd≠de:=aE hsd B.he (by intro z;cases z)
  have h11:=k1 _ _ nen nee h1
  have hcl1:=k1 _ _ ncn nce hcl
  have hsd1:=k1 _ _ D.ne.symm nse hsd
  have ht1:=k1 _ _ (aE ht B.hn (by intro z;cases z)) (aE ht B.he (by intro z;cases z)) ht
  grind
  refine⟨aP (ao (by decide)),fun p G2 hp t2 g2=>?_⟩
  have h12:=t2 _ _ h11
  have hcl2:=t2 _ _ hcl1
  have hsd2:=t2 _ _ hsd1
  have ht2:=t2 _ _ ht1
  refine⟨_,dx,_,_,h12,AF.c_Editions,AF.n_Editions_struck,rfl,sd,_,rfl,.inl ⟨_,.inl e.num,hsd2,rfl,ao (by omega),rfl⟩,?_⟩
  have k3:∀ c o,c≠sd->G2 c=some o->upd G2 sd (HO.dK (putK kvs (Sum.inl e.num) (V.ref p))) c=some o:=fun c o hc z=>by rw[ar hc];exact z
  have g3:upd G2 sd (HO.dK (putK kvs (Sum.inl e.num) (V.ref p))) sd=some (.dK (putK kvs (Sum.inl e.num) (V.ref p))):=az
  generalize upd G2 sd (HO.dK (putK kvs (Sum.inl e.num) (V.ref p)))=G3 at k3 g3
  have ns:∀ {c:Addr}{o:HO},G2 c=some o->(∀ kvs,o≠.dK kvs)->c≠sd:=fun {c o} z hz y=>by rw[y,hsd2] at z;cases z;exact hz _ rfl
  have h13:=k3 _ _ (ns h12 fun _ z=>by cases z) h12
  have hcl3:=k3 _ _ (ns hcl2 fun _ z=>by cases z) hcl2
  cbv
  grind
  refine⟨dx,_,h13,rfl,ed,dx,b,cl,sd,l0,day,.int e.num,.non,cs,rfl,h13,hcl3,by omega,fun p' G4 hp' k4 h14 g4 hcl4=>?_⟩
  cbv
  and_intros
  have B2:=B1.same t2
  obtain⟨bx2,hb2⟩:=B2.bk
  have B3:cQ Ad G3 b ca dn de (es.filter fun x=>decide (x.num≠e.num)):=⟨⟨bx2,k3 _ _ (ns hb2 fun _ z=>by cases z) hb2⟩,k3 _ _ D.ne B2.hn,k3 _ _ (ns B2.he fun _ z=>by cases z) B2.he,fun x hx=>k3 _ _ (ns (B2.en x hx) fun _ z=>by cases z) (B2.en x hx),B2.nn,B2.nk⟩
  have tup2:∀ c xs,G2 c=some (.tup xs)->G4 c=some (.tup xs):=fun c xs z=>by
   have z3:=k3 _ _ (ns z fun _ z=>by cases z) z
   exact k4 _ _ (aE z3 h13 (by intro z;cases z)) (aE z3 hcl3 (by intro z;cases z)) z3
  refine k e he rfl G4 (fun c o e1 e2 e3 e4 e5 z=>k4 c o e1 e4 (k3 c o e5 (t2 _ _ (k1 c o e2 e3 z)))) ⟨⟨dx,h14⟩,B3.past h13 hcl3 k4,⟨_,hcl4,by rw[bb];show cs.length+1<=_;omega,gA (kD (kD hch fun c xs z=>k1 _ _ (aE z B.hn (by intro z;cases z)) (aE z B.he (by intro z;cases z)) z) fun c xs z=>tup2 c xs (t2 _ _ z)) (.cons ⟨p',rfl,g4⟩ .nil)⟩,⟨_,k4 _ _ (aE g3 h13 (by intro z;cases z)) (aE g3 hcl3 (by intro z;cases z)) g3,fun i=>?_,?_⟩,D.ne⟩
  ·rw[rN]
   dsimp only
   by_cases hi:i=e.num
   ·rw[if_pos (by rw[hi]),if_pos hi]
    exact .inr ⟨p,t,day,e.key,rfl,tup2 _ _ g2,tup2 _ _ ht2,eo,rfl⟩
   ·rw[if_neg (fun z=>hi (Sum.inl.inj z)),if_neg hi]
    have S1:rT G1 kvs lk:=S.past fun c xs z=>k1 _ _ (aE z B.hn (by intro z;cases z)) (aE z B.he (by intro z;cases z)) z
    exact (S1.same t2).past tup2 i
  ·have:=gy kvs (Sum.inl e.num) (V.ref p)
   omega
inductive b7 (Ad:Ads) (vs:List V) (H:Hp) (Q:VK) (E:XK):Prop
 | mk (ed b ca dn de cl sd:Addr) (es:List Ben) (lk:Lk) (l0:Int) (m:Nat) (ch:List Chg) (al:List Nat) (ws:List Int) (r:Int) (dv x y:V) (td:Tg) (q0:vs=[.ref ed,dv,x,y]) (q1:iW Ad H ed b ca dn de cl sd es lk l0 m ch) (q2:gd Ad H ca al ws r) (q3:gO al ws r) (q4:H Ad.tb=some (fX qO)) (q5:H Ad.tb1=some (fX ny)) (q6:cz H dv=some td) (q7:jT H x) (q8:(∃ t,cz H y=some t)) (q9:m<999) (q10:((qm l0 dv/\E (.ref Ad.NoDay) none H)∨∃ day,dv=.int day/\0<=day/\day<=1000000000/\l0<=day/\((dm H x=false/\∀ H',aq H H'->E (.ref Ad.NoEntry) none H')∨∃ t key,x=.ref t/\H t=some (.tup (key.map kV))/\dI key/\Chs Ad es (dP al ws) key y (gw lk day key) (fun c=>∀ H',aq H H'->E (.ref c) none H') (fun n=>∀ H',(∀ c o,c≠ed->c≠dn->c≠de->c≠cl->H c=some o->H' c=some o)->iW Ad H' ed b ca dn de cl sd (es++[⟨n,key,t⟩]) lk day (m+1) (ch++[⟨day,n,some t⟩])->Q (.int n) H')))):b7 Ad vs H Q E
theorem ky:aM ["self","day","entry","number","given"] ["self","day","entry","number"] (ak bC):=by subst_eqs
theorem kx (F:we K "put" "Editions.put" bC f fd) (T:Bl mg) (AF:AdF K mg Ad) (CD:fd.code=.ref Ad.cd1) (M_Editions_note_change:Mtd P w K mg base (CX1 P w) Ad.Editions "note_change" 1 ["self","day","number","entry"] (cw Ad)) (M_Book_put:Mtd P w K mg base (CX1 P w) Ad.Book "put" 6 ["self","entry","number"] (fA Ad)) (M_Book_choose:qo P w K mg base (CX1 P w) Ad.Book "choose" 4 1 ["self","entry","number","is_barred"] (eE Ad)) (M_Editions_is_barred:Mtd P w K mg base (CX1 P w) Ad.Editions "is_barred" 1 ["self","day","entry","number"] (ef K Ad)) (M_Editions_check_change:Mtd P w K mg base (CX1 P w) Ad.Editions "check_change" 4 ["self","day"] (cc Ad)):bI P w K mg base (CX1 P w) 7 f fd ["self","day","entry","number"] (b7 Ad):=by
 refine F.okT (k:=6) CD ky ?_ (fun A outer s H vs Q E hr h=>?_)
 ·bv_decide
 ·obtain⟨ed,b,ca,dn,de,cl,sd,es,lk,l0,m,ch,al,ws,r,dv,x,y,td,rfl,D,C,ok,Tb,Tb1,htd,ask,⟨ty,hty⟩,m9,ks⟩:=h
  obtain⟨dx,h1⟩:=D.eF
  obtain⟨cs,hcl,lcl,hch⟩:=D.cF
  obtain⟨kvs,hsd,S,lsd⟩:=D.sF
  have hu:=hr.ft
  have hu1:=iM hr
  refine⟨_,af (cW (cJ M_Editions_check_change au (hr.mono (by decide)) (pvC 0) (ae (pvC 1) (aa)))) (af (aA (i:=4) ky.nd (sS (k:=1) (ps:=["k"]) (fr:=["day","entry","self"]) (js:=[1,2,0]) (q:=ny) M_Book_choose rfl rfl au (hr.mono (by decide)) (bP (K:=K) rfl (pvC 0)) (pvC 2) (pvL 3) rfl AF.t_tab1 (by kernel_rfl) rfl (.cons ⟨rfl,.inr (.inl rfl),rfl,by decide +kernel,rfl⟩ (.cons ⟨rfl,.inr (.inl rfl),rfl,by decide +kernel,rfl⟩ (.cons ⟨rfl,.inr (.inl rfl),rfl,by decide +kernel,rfl⟩ (.nil)))) (fun _ _ _=>L2.bind1 fun _=>rfl) (fun _ _ _ _ _ _ hr=>cJ M_Editions_is_barred mK (hr.mono (by decide)) (pvF 3) (ae (pvF 1) (ae (pvF 2) (ae (pvL 0) (aa))))) (by decide +kernel) (by decide +kernel))) (af (cW (cJ M_Book_put au (hr.mono (by decide)) (bP (K:=K) rfl (pvC 0)) (ae (pvC 2) (ae (pvL 4) (aa))))) (af (cW (cJ M_Editions_note_change au (hr.mono (by decide)) (pvC 0) (ae (pvC 1) (ae (pvL 4) (ae (pvC 2) (aa)))))) (aj (aK (pvL 4)))))),?_⟩
  grind
  refine⟨dx,_,h1,rfl,ed,dx,b,cl,sd,l0,dv,td,rfl,h1,htd,?_⟩
  rcases ks with ⟨a,k⟩ | ⟨day,rfl,d0,d1,ld,ks⟩
  ·exact .inr ⟨a,k⟩
  refine .inl ⟨day,rfl,d0,d1,ld,?_⟩
  cbv
  obtain⟨bx,hb⟩:=D.bF.bk
  grind
  refine⟨_,dx,_,_,h1,AF.c_Editions,AF.n_Editions_current,rfl,?_⟩
  and_intros
  have B:=D.bF
  refine⟨bx,_,hb,cI (by decide) (by decide) (by decide) ca dn de,Tb1,fun f G1 hf t1 _=>?_⟩
  refine⟨b,ca,dn,de,f,es,al,ws,r,x,y,rfl,B.same t1,C.same t1,ok,ask.same t1,⟨_,dA t1 hty⟩,?_⟩
  rcases ks with ⟨hent,k⟩ | ⟨t,key,rfl,ht,eo,ks⟩
  ·exact .inl ⟨(oJ t1 ask).trans hent,fun G2 t2=>k G2 (t1.trans t2)⟩
  refine .inr ⟨t,key,gw lk day key,rfl,t1 _ _ ht,eo,fun i G Q' tG kG=>?_,ks.imp (fun c k G2 t2=>k G2 (t1.trans t2)) fun n hk h300 n0 n1 hn k G2 t2=>?_⟩
  ·exact⟨_,rfl,dx,_,tG _ _ (t1 _ _ h1),rfl,_,rfl,_,rfl,_,rfl,ed,dx,b,cl,sd,t,l0,day,i,kvs,lk,key,rfl,tG _ _ (t1 _ _ h1),tG _ _ (t1 _ _ hsd),S.same (t1.trans tG),tG _ _ (t1 _ _ ht),eo,fun G' t'=>kG G' t'⟩
  rw[hN]
  clear hN nn ks
  have t02:=t1.trans t2
  have h12:=t02 _ _ h1
  have B2:=B.same t02
  obtain⟨bx2,hb2⟩:=B2.bk
  grind
  refine⟨_,dx,_,_,h12,AF.c_Editions,AF.n_Editions_current,rfl,?_⟩
  and_intros
  refine⟨bx2,_,hb2,cI (by decide) (by decide) (by decide) ca dn de,b,ca,dn,de,t,es,al,ws,r,n,key,.int n,rfl,B2,C.same t02,ok,t02 _ _ Tb,t02 _ _ ht,eo,hk,h300,n0,n1,hn,rfl,fun G3 k3 B3=>?_⟩
  cbv
  have nen:ed≠dn:=aE h12 B2.hn (by intro z;cases z)
  have nee:ed≠de:=aE h12 B2.he (by intro z;cases z)
  have ncn:cl≠dn:=aE (t02 _ _ hcl) B2.hn (by intro z;cases z)
  have nce:cl≠de:=aE (t02 _ _ hcl) B2.he (by intro z;cases z)
  have nse:sd≠de:=aE (t02 _ _ hsd) B2.he (by intro z;cases z)
  have h13:=k3 _ _ nen nee h12
  have hcl3:=k3 _ _ ncn nce (t02 _ _ hcl)
  have hsd3:=k3 _ _ D.ne.symm nse (t02 _ _ hsd)
  grind
  refine⟨dx,_,h13,rfl,ed,dx,b,cl,sd,l0,day,.int n,.ref t,cs,rfl,h13,hcl3,by omega,fun p G4 hp k4 h14 g4 hcl4=>?_⟩
  cbv
  and_intros
  have tup4:∀ c xs,H c=some (.tup xs)->G4 c=some (.tup xs):=fun c xs e=>by
   have e2:=t02 _ _ e
   have e3:=k3 _ _ (aE e2 B2.hn (by intro z;cases z)) (aE e2 B2.he (by intro z;cases z)) e2
   exact k4 _ _ (aE e3 h13 (by intro z;cases z)) (aE e3 hcl3 (by intro z;cases z)) e3
  refine k G4 (fun c o e1 e2 e3 e4 e=>k4 c o e1 e4 (k3 c o e2 e3 (t02 _ _ e))) ⟨⟨dx,h14⟩,B3.past h13 hcl3 k4,⟨_,hcl4,by rw[bb];show cs.length+1<=_;omega,?_⟩,⟨kvs,?_,S.past tup4,by omega⟩,D.ne⟩
  ·exact gA (kD hch tup4) (.cons ⟨p,rfl,g4⟩ .nil)
  ·exact k4 _ _ (aE hsd3 h13 (by intro z;cases z)) (aE hsd3 hcl3 (by intro z;cases z)) hsd3
def vU (kvs:List (Key×V)) (c:Chg):List (Key×V):=putK kvs (.inl c.num) (c.ent.elim V.non V.ref)
def mr (ch:List Chg):List (Key×V):=ch.foldl vU []
theorem oU (ch:List Chg) (c:Chg):mr (ch++[c])=vU (mr ch) c:=by unfold mr;rw[List.foldl_append];rfl
theorem CF {gs:List Lge} (h:iJ gs) (n:Int):(∀ e∈fD gs,e.num=n->cH (mr (gs.map eS)) (.inl n)=some (.ref e.adr))/\(n∉(fD gs).map (·.num)->cH (mr (gs.map eS)) (.inl n)=none∨cH (mr (gs.map eS)) (.inl n)=some .non):=by
 induction h with
 | nil=>exact⟨(fun e he=>by cases he),fun _=>.inl rfl⟩
 | @snoc gs l h hs hp ih =>
  rw[b9,List.map_singleton,oU,j9]
  unfold vU eI
  rw[rN,show (eS l).num=l.num from rfl]
  cases hl:l.str with
  | true =>
   have ec:(eS l).ent=none:=by unfold eS;rw[hl];rfl
   rw[if_pos rfl,ec]
   refine⟨fun e he en=>?_,fun hn=>?_⟩
   ·obtain⟨h1,h2⟩:=dF.mp he
    have hne:e.num≠l.num:=of_decide_eq_true h2
    rw[if_neg (fun z=>hne (en.trans (Sum.inl.inj z)))]
    exact ih.1 e h1 en
   ·by_cases hnl:n=l.num
    ·rw[if_pos (by rw[hnl])];exact .inr rfl
    ·rw[if_neg (fun z=>hnl (Sum.inl.inj z))]
     refine ih.2 fun hm=>hn ?_
     obtain⟨e,he,ee⟩:=aC.mp hm
     exact aC.mpr ⟨e,dF.mpr ⟨he,decide_eq_true (by rw[ee];exact hnl)⟩,ee⟩
  | false =>
   have ec:(eS l).ent=some l.adr:=by unfold eS;rw[hl];rfl
   rw[if_neg (by decide),ec]
   refine⟨fun e he en=>?_,fun hn=>?_⟩
   ·rcases bL.mp he with he | he
    ·have hne:n≠l.num:=fun z=>(hp hl).1 (aC.mpr ⟨e,he,en.trans z⟩)
     rw[if_neg (fun z=>hne (Sum.inl.inj z))]
     exact ih.1 e he en
    ·have e1:=bc.mp he
     subst e1
     rw[if_pos (by rw[←en])]
     rfl
   ·rw[b9,bL] at hn
    have hnl:n≠l.num:=fun z=>hn (.inr (by rw[z];exact bc.mpr rfl))
    rw[if_neg (fun z=>hnl (Sum.inl.inj z))]
    exact ih.2 fun hm=>hn (.inl hm)
theorem BK {k:Key} (h:(kvs.map (·.1)).Nodup):((putK kvs k y).map (·.1)).Nodup/\∀ q∈(putK kvs k y).map (·.1),q=k∨q∈kvs.map (·.1):=by
 unfold putK
 by_cases a:(kvs.any fun kv=>decide (kv.1=k))=true
 ·rw[if_pos a,List.map_map,show ((fun x:Key×V=>x.1) ∘ fun kv:Key×V=>if kv.1=k then (kv.1,y) else kv)=fun x:Key×V=>x.1 from funext fun kv=>by show (if kv.1=k then (kv.1,y) else kv).1=kv.1;split<;>rfl]
  exact⟨h,fun q hq=>.inr hq⟩
 ·rw[if_neg a,b9]
  refine⟨kb h fun hm=>a ?_,fun q hq=>?_⟩
  ·obtain⟨kv,h1,h2⟩:=aC.mp hm
   exact iD.mpr ⟨kv,h1,decide_eq_true h2⟩
  ·rcases bL.mp hq with hq | hq
   ·exact .inr hq
   ·exact .inl (bc.mp hq)
theorem qH:∀ (ch:List Chg) (kvs:List (Key×V)),(kvs.map (·.1)).Nodup->(∀ q∈kvs.map (·.1),∃ n,q=(Sum.inl n:Key))->((ch.foldl vU kvs).map (·.1)).Nodup/\∀ q∈(ch.foldl vU kvs).map (·.1),∃ n,q=(Sum.inl n:Key)
 | [],_,h1,h2=>⟨h1,h2⟩
 | c::ch,kvs,h1,h2=>by
  obtain⟨a,b⟩:=BK (k:=.inl c.num) (y:=c.ent.elim V.non V.ref) h1
  exact qH ch _ a fun q hq=>by
   rcases b q hq with e | e
   ·exact⟨_,e⟩
   ·exact h2 q e
theorem qG:∀ (gs:List Lge) (es:List Ben),∀ e∈gs.foldl eI es,e∈es∨∃ l∈gs,e=⟨l.num,l.key,l.adr⟩
 | [],_,_,h=>.inl h
 | l::gs,es,e,h=>by
  rcases qG gs (eI es l) e h with h1 | ⟨l',h1,h2⟩
  ·unfold eI at h1
   split at h1
   ·exact .inl (dF.mp h1).1
   ·rcases bL.mp h1 with h1 | h1
    ·exact .inl h1
    ·exact .inr ⟨l,List.mem_cons_self,bc.mp h1⟩
  ·exact .inr ⟨l',List.mem_cons_of_mem _ h1,h2⟩
theorem mf {gs:List Lge}{e:Ben} (h:e∈fD gs):∃ l∈gs,e=⟨l.num,l.key,l.adr⟩:=(qG gs [] e h).resolve_left (by intro z;cases z)
theorem HM {k:Key}:cH kvs k=some v->∃ i:Nat,kvs[i]?=some (k,v):=by
 induction kvs with
 | nil=>intro h;cases h
 | cons p kvs ih =>
  intro h
  by_cases e:p.1=k
  ·rw[dC e] at h
   exact⟨0,by rw[←e,←Option.some.inj h];rfl⟩
  ·rw[dB e] at h
   obtain⟨i,hi⟩:=ih h
   exact⟨i+1,hi⟩
theorem HN {k:Key} (hn:(kvs.map (·.1)).Nodup) (h:(k,v)∈kvs):cH kvs k=some v:=by
 induction kvs with
 | nil=>cases h
 | cons p kvs ih =>
  rw[bz] at hn
  have hn:=c9.mp hn
  rcases aD.mp h with rfl | h
  ·exact dC rfl
  ·have:¬ p.1=k:=fun e=>hn.1 (by rw[e];exact aC.mpr ⟨(k,v),h,rfl⟩)
   rw[dB this]
   exact ih hn.2 h
theorem Fp {es:List Ben} (h:(es.map (·.num)).Nodup):es.Nodup:=(lL.mp h).imp fun h e=>h (by rw[e])
def gk (Ad:Ads):Sp:=fun vs H Q E=>∃ (ed:Addr) (dv:V),vs=[.ref ed,dv]/\((∃ t,cz H dv=some t/\bj 1000000001 dv=false/\E (.ref Ad.NoDay) none H)∨∃ (b ca dn de cl sd:Addr) (es:List Ben) (lk:Lk) (l0 day:Int) (m j:Nat) (al:List Nat) (ws:List Int) (r:Int) (gs:List Lge),dv=.int day/\iW Ad H ed b ca dn de cl sd es lk l0 m (gs.map eS)/\gd Ad H ca al ws r/\gO al ws r/\H Ad.tb=some (fX qO)/\m<64/\iJ gs/\(∀ (i:Nat) l,gs[i]?=some l->(l.day<=day↔i<j))/\(∀ l∈gs,H l.adr=some (.tup (l.key.map kV))/\dI l.key/\0<=l.num/\l.num<dP al ws)/\0<=day/\day<=1000000000 ∧
 ∀ b' dn' de' es' H',aq H H'->cQ Ad H' b' ca dn' de' es'->es'.Perm (fD (gs.take j))->Q (.ref b') H')
theorem bR:aM ["self","day","standing","changed","number","entry","edition"] ["self","day"] (ak gT):=by subst_eqs
theorem oQ (F:Fun K "book" "Editions.book" gT f fd) (T:Bl mg) (AF:AdF K mg Ad) (C_is_day:Fnc P w K mg base (CX1 P w) 3 "is_day" ["thing"] oZ) (M_Book_put:Mtd P w K mg base (CX1 P w) Ad.Book "put" 6 ["self","entry","number"] (fA Ad)) (M_Book_code:Mtd P w K mg base (CX1 P w) Ad.Book "code" 1 ["self"] (kl Ad)) (K_Book:Mak P w K mg base (CX1 P w) Ad.Book "Book" 1 ["self","code"] (hZ Ad)):bI P w K mg base (CX1 P w) 7 f fd ["self","day"] (gk Ad):=by
 refine F.okX (k:=6) bR ?_ ?_
 ·bv_decide
 ·bv_normalize
  obtain⟨ed,dv,rfl,h⟩:=h
  refine⟨_,af (bq (cL (bW (aG C_is_day au (hr.mono (by decide)) (ae (pvL 1) (aa))))) (aj (dq dG AF.q_NoDay AF.g_NoDay cG rfl (ae (av) (aa)))) (aI)) (af (aA (i:=2) bR.nd (j4)) (af (fM cm rfl (cP (K:=K) rfl (bP (K:=K) rfl (pvL 0))) (nG (K:=K) (n:=3) rfl rfl (aT (aB (i:=3) bR.nd) (aT (aB (i:=4) bR.nd) (aT (aB (i:=5) bR.nd) (fg))))) (aj (bq (aJ ik (pvL 3) (pvL 1) (aL _)) (aj (iq hu1 (pvL 2) (pvL 4) (pvL 5))) (aI)))) (af (aA (i:=6) bR.nd (j7 K_Book au (hr.mono (by decide)) (ae (ie M_Book_code au (hr.mono (by decide)) (bP (K:=K) rfl (pvL 0))) (aa)))) (af (fM cm rfl (EC (E5 (K:=K) rfl jN PySem.F.slot_dict_items PySem.F.type_dict_items BU (pvL 2))) (nG (K:=K) (n:=2) rfl rfl (aT (aB (i:=4) bR.nd) (aT (aB (i:=5) bR.nd) (fg)))) (aj (bq (aJ md (pvL 5) (cK) (aL _)) (aj (cW (cJ M_Book_put au (hr.mono (by decide)) (pvL 6) (ae (pvL 5) (ae (pvL 4) (aa)))))) (aI)))) (aj (aK (pvL 6))))))),?_⟩
  rcases h with ⟨t,ht,hb,k⟩ | ⟨b,ca,dn,de,cl,sd,es,lk,l0,day,m,j,al,ws,r,gs,rfl,D,C,ok,Tb,m64,ro,hj,hg,d0,d1,k⟩
  ·grind
   refine⟨_,t,rfl,ht,_,rfl,?_⟩
   rw[hb,if_pos (by decide)]
   exact⟨aP (ao (by decide)),k⟩
  obtain⟨dx,h1⟩:=D.eF
  obtain⟨cs,hcl,lcl,hch⟩:=D.cF
  grind
  refine⟨_,.int,rfl,rfl,_,rfl,?_⟩
  have e0:bj 1000000001 (.int day)=true:=by
   show (decide (0<=day)&&decide (day<1000000001))=true
   rw[decide_eq_true d0,decide_eq_true (show day<1000000001 by omega)];rfl
  rw[e0,if_neg (by decide)]
  show nn _ _ _
  cbv
  grind
  intro F G1 hF t1 g1
  cbv
  grind
  refine⟨_,dx,_,_,t1 _ _ h1,AF.c_Editions,AF.n_Editions_changes,rfl,?_⟩
  and_intros
  have nF:∀ {c:Addr}{o:HO},H c=some o->c≠F:=fun e z=>by rw[z,hF] at e;cases e
  have lcs:cs.length=gs.length:=by have:=Paired.length hch;rwa [List.length_map] at this
  have lS:∀ i,(mr ((gs.take i).map eS)).length<=i:=fun i=>by
   induction i with
   | zero=>rw[List.take_zero];exact ai _
   | succ i ih =>
    by_cases hi:i<gs.length
    ·rw[iE,List.getElem?_eq_getElem hi]
     show (mr ((gs.take i++[gs[i]]).map eS)).length<=_
     rw[b9,List.map_singleton,oU]
     have:=gy (mr ((gs.take i).map eS)) (.inl (eS gs[i]).num) ((eS gs[i]).ent.elim V.non V.ref)
     show (putK _ _ _).length<=_
     omega
    ·rw[eL (by omega)] at ih ⊢;omega
  refine .inl ⟨⟨_,.of (t1 _ _ hcl)⟩,fH (xs:=cs) (fun i σ G=>(∃ o3 o4 o5,σ=[some (V.ref ed),some (V.int day),some (V.ref F),o3,o4,o5,none])/\(∀ c o,c≠F->G1 c=some o->G c=some o)/\G F=some (.dK (mr ((gs.take (min i j)).map eS)))) ⟨⟨_,_,_,rfl⟩,fun _ _ _ e=>e,by rw[Nat.zero_min,List.take_zero];exact g1⟩ (fun i σ G _ ⟨_,kp,_⟩=>.of (kp _ _ (nF hcl) (t1 _ _ hcl))) ?_ ?_⟩
  ·rintro i v σ G hi ⟨⟨o3,o4,o5,rfl⟩,kp,gF⟩ N hNx
   clear hN
   obtain⟨c,hc,p,rfl,hp⟩:=cE hch hi
   rw[List.getElem?_map] at hc
   obtain⟨l,hl,rfl⟩:=fS.mp hc
   have hil:i<gs.length:=(bK.mp hl).1
   have hpG:=kp _ _ (nF hp) (t1 _ _ hp)
   refine⟨p,_,rfl,.of hpG,rfl,?_⟩
   and_intros
   by_cases hd:l.day<=day
   ·have ij:=(hj i l hl).mp hd
    have et:gs.take (i+1)=gs.take i++[l]:=by rw[iE,hl];rfl
    rw[iG (by omega)] at gF
    have l64:=lS i
    rw[show decide ((eS l).day<=day)=true from decide_eq_true hd,if_pos rfl]
    refine⟨F,_,rfl,.inl ⟨_,.inl l.num,gF,rfl,ao (by omega),rfl⟩,hNx _ _ ⟨⟨_,_,_,rfl⟩,fun c o hc z=>by rw[ar hc];exact kp c o hc z,?_⟩⟩
    rw[iG (by omega),et,b9,List.map_singleton,oU]
    exact az
   ·have ij:¬ i<j:=fun z=>hd ((hj i l hl).mpr z)
    rw[show decide ((eS l).day<=day)=false from decide_eq_false hd,if_neg (by decide)]
    refine hNx _ _ ⟨⟨_,_,_,rfl⟩,kp,?_⟩
    rw[lO (by omega)] at gF ⊢
    exact gF
  rintro σ G ⟨⟨o3,o4,o5,rfl⟩,kp,gF⟩
  show nn _ _ _
  cbv
  have er:mr ((gs.take (min cs.length j)).map eS)=mr ((gs.take j).map eS):=by
   rw[lcs]
   by_cases h:j<=gs.length
   ·rw[lO h]
   ·rw[iG (by omega),eL (ai _),eL (by omega)]
  have lSj:(mr ((gs.take j).map eS)).length<64:=by
   have h1:=lS (min cs.length j)
   rw[er] at h1
   omega
  rw[er] at gF
  have tG:aq H G:=fun c o e=>kp c o (nF e) (t1 _ _ e)
  have DG:=D.same tG
  obtain⟨bx,hb⟩:=DG.bF.bk
  grind
  refine⟨_,dx,_,_,tG _ _ h1,AF.c_Editions,AF.n_Editions_current,rfl,?_⟩
  and_intros
  refine⟨bx,_,hb,cI (by decide) (by decide) (by decide) ca dn de,b,ca,dn,de,es,rfl,DG.bF,?_⟩
  intro b' bx' G2 hb2 hbx2 hbb2 t2 g2 g2x
  refine⟨b',bx',ca,rfl,g2,fun dn' de' G3 hdn hde ne1 ne2 ne3 k3 g3 gn ge=>⟨rfl,?_⟩⟩
  have s3:aq G G3:=fun c o e=>k3 c o (fun z=>by rw[z,hb2] at e;cases e) (t2 _ _ e)
  have B3:cQ Ad G3 b' ca dn' de' []:=⟨⟨bx',g3⟩,gn,ge,(fun e he=>by cases he),.nil,.nil⟩
  have fn:G dn'=none:=t2.free hdn
  have fe:G de'=none:=t2.free hde
  have gF3:=s3 _ _ gF
  cbv
  grind
  refine⟨.inr (.inr (.inl ⟨rfl,.inl ⟨_,gF3⟩⟩)),_,gF3,fun p G4 hp t4 g4=>⟨p,F,_,rfl,g4,t4 _ _ gF3,fun ob G5 k5 g5=>?_⟩⟩
  have T5:aq H G5:=fun c o e=>k5 _ _ (nF e) (t4 _ _ (s3 _ _ (tG _ _ e)))
  have nbF:∀ {c:Addr},G c=none->c≠F:=fun e z=>by rw[z,gF] at e;cases e
  have B5:cQ Ad G5 b' ca dn' de' []:=⟨⟨bx',k5 _ _ (nbF hb2) (t4 _ _ g3)⟩,k5 _ _ (nbF fn) (t4 _ _ gn),k5 _ _ (nbF fe) (t4 _ _ ge),(fun e he=>by cases he),.nil,.nil⟩
  obtain⟨kn,ki⟩:=qH ((gs.take j).map eS) [] .nil (by intro q hq;cases hq)
  have kn:((mr ((gs.take j).map eS)).map (·.1)).Nodup:=kn
  have ki:∀ q∈(mr ((gs.take j).map eS)).map (·.1),∃ n,q=(Sum.inl n:Key):=ki
  have rn:=(ro.take j).nn
  have rv:=fun n=>CF (ro.take j) n
  have rf:∀ e∈fD (gs.take j),G5 e.adr=some (.tup (e.key.map kV))/\dI e.key/\0<=e.num/\e.num<dP al ws:=fun e he=>by
   obtain⟨l,hl,rfl⟩:=mf he
   obtain⟨a1,a2⟩:=hg l (List.mem_of_mem_take hl)
   exact⟨T5 _ _ a1,a2⟩
  clear er hch hcl lcl lS lcs hj hg ro gF3 t4 g4 gF kp B3
  have fn5:H dn'=none:=tG.free fn
  have fe5:H de'=none:=tG.free fe
  generalize fD (gs.take j)=rs at rn rv rf k
  generalize mr ((gs.take j).map eS)=kvs at kn ki rv g5 lSj
  refine Bt (fun i σ G'=>(∃ o4 o5,σ=[some (V.ref ed),some (V.int day),some (V.ref F),o3,o4,o5,some (V.ref b')])/\(∀ c o,c≠dn'->c≠de'->G5 c=some o->G' c=some o)/\∃ es',cQ Ad G' b' ca dn' de' es'/\es'.length<=i/\(∀ e∈es',e∈rs/\∃ u,u<i/\∃ x,kvs[u]?=some (.inl e.num,x))/\∀ u,u<i->∀ n ad,kvs[u]?=some (.inl n,V.ref ad)->n∈es'.map (·.num)) ⟨⟨_,_,rfl⟩,fun _ _ _ _ e=>e,[],B5,ai _,(fun e he=>by cases he),fun u hu=>by omega⟩ (fun i σ G' _ ⟨_,kp',_⟩=>kp' _ _ (fun z=>by rw[←z] at fn;exact nbF fn rfl) (fun z=>by rw[←z] at fe;exact nbF fe rfl) g5) ?_ ?_
  ·rintro i key x σ G' hi ⟨⟨o4,o5,rfl⟩,kp',es',B,le,h1',h2'⟩ N hNx p' G6 hp' t6 g6
   clear hN
   obtain⟨n,rfl⟩:=ki key (eK (bp hi))
   have hx:=HN kn (bp hi)
   have il:i<kvs.length:=(bK.mp hi).1
   refine⟨p',_,rfl,.of g6,rfl,?_⟩
   have un:n∉es'.map (·.num):=fun hm=>by
    obtain⟨e,he,ee⟩:=aC.mp hm
    obtain⟨_,u,hu,x',hu'⟩:=h1' e he
    have:=(List.getElem?_inj (i:=u) (j:=i) (by rw[List.length_map];omega) kn).mp (by rw[List.getElem?_map,List.getElem?_map,hu',hi,ee];rfl)
    omega
   by_cases hm:n∈rs.map (·.num)
   ·obtain⟨e,he,rfl⟩:=aC.mp hm
    have hv:=(rv e.num).1 e he rfl
    rw[hx] at hv
    obtain rfl:=Option.some.inj hv
    obtain⟨a1,a2,a3,a4⟩:=rf e he
    have B6:=B.same t6
    obtain⟨bx6,hb6⟩:=B6.bk
    have T6:aq H G6:=fun c o z=>t6 _ _ (kp' c o (fun y=>by rw[y,fn5] at z;cases z) (fun y=>by rw[y,fe5] at z;cases z) (T5 _ _ z))
    have ek:e.key∉es'.map (·.key):=fun hk=>by
     obtain⟨e',he',ee⟩:=aC.mp hk
     have:=oM rn.2 (h1' e' he').1 he ee
     rw[this] at he'
     exact un (eK he')
    have B5n:=B5.hn
    have B5e:=B5.he
    and_intros
    refine⟨bx6,_,hb6,cI (by decide) (by decide) (by decide) ca dn' de',b',ca,dn',de',e.adr,es',al,ws,r,e.num,e.key,.int e.num,rfl,B6,C.same T6,ok,T6 _ _ Tb,t6 _ _ (kp' _ _ (aE a1 B5n (by intro z;cases z)) (aE a1 B5e (by intro z;cases z)) a1),a2,ek,by omega,a3,a4,un,rfl,fun G7 k7 B7=>hNx _ _ ⟨⟨_,_,rfl⟩,fun c o c1 c2 z=>k7 c o c1 c2 (t6 _ _ (kp' c o c1 c2 z)),_,B7,by rw[bb];show es'.length+1<=_;omega,fun e' he'=>?_,fun u hu n' ad' hu'=>?_⟩⟩
    ·rcases bL.mp he' with he' | he'
     ·obtain⟨b1,u,b2,b3⟩:=h1' e' he'
      exact⟨b1,u,by omega,b3⟩
     ·rw[bc.mp he']
      exact⟨he,i,by omega,_,hi⟩
    ·rw[b9,bL]
     by_cases hui:u=i
     ·subst hui
      rw[hi] at hu'
      cases hu'
      exact .inr (bc.mpr rfl)
     ·exact .inl (h2' u (by omega) n' ad' hu')
   ·have hv:x=V.non:=by
     rcases (rv n).2 hm with z | z
     ·rw[hx] at z;cases z
     ·rw[hx] at z;exact Option.some.inj z
    subst hv
    and_intros
    refine hNx _ _ ⟨⟨_,_,rfl⟩,fun c o c1 c2 z=>t6 _ _ (kp' c o c1 c2 z),es',B.same t6,by omega,fun e' he'=>?_,fun u hu n' ad' hu'=>?_⟩
    ·obtain⟨b1,u,b2,b3⟩:=h1' e' he'
     exact⟨b1,u,by omega,b3⟩
    ·by_cases hui:u=i
     ·subst hui
      rw[hi] at hu'
      cases hu'
     ·exact h2' u (by omega) n' ad' hu'
  rintro σ G' ⟨⟨o4,o5,rfl⟩,kp',es',B,le,h1',h2'⟩
  show nn _ _ _
  cbv
  and_intros
  refine k b' dn' de' es' G' (fun c o z=>kp' c o (fun y=>by rw[y,fn5] at z;cases z) (fun y=>by rw[y,fe5] at z;cases z) (T5 _ _ z)) B ((List.perm_ext_iff_of_nodup (Fp B.nn) (Fp rn.1)).mpr fun e=>⟨fun he=>(h1' e he).1,fun he=>?_⟩)
  obtain⟨u,hu⟩:=HM ((rv e.num).1 e he rfl)
  obtain⟨e',he',ee⟩:=aC.mp (h2' u (bK.mp hu).1 _ _ hu)
  rw[←oM rn.1 (h1' e' he').1 he ee]
  exact he'
def rV (Ad:Ads):Nat->Addr
 | 0=>Ad.NoDay
 | 1=>Ad.NoEntry
 | 2=>Ad.Twice
 | 3=>Ad.NoNumber
 | _=>Ad.TooMany
def ixD:Nat->Nat
 | 0=>6
 | 1=>3
 | 2=>4
 | 3=>1
 | _=>5
def nmD:Nat->Str
 | 0=>"NoDay"
 | 1=>"NoEntry"
 | 2=>"Twice"
 | 3=>"NoNumber"
 | _=>"TooMany"
def EdN (Ad:Ads) (Q:VK):XK:=fun C d H1=>∃ j,j<5/\C=.ref (rV Ad j)/\d=none/\∀ H',aq H1 H'->Q (.str (nmD j)) H'
theorem vK {Ad:Ads}{Q Q':VK}{E E':XK} (h:b7 Ad vs H Q E) (hq:∀ x G,Q x G->Q' x G) (hE:∀ c d G,E c d G->E' c d G):b7 Ad vs H Q' E':=by
 obtain⟨ed,b,ca,dn,de,cl,sd,es,lk,l0,m,ch,al,ws,r,dv,x,y,td,e0,D,C,ok,Tb,Tb1,htd,ask,hty,m9,ks⟩:=h
 refine⟨ed,b,ca,dn,de,cl,sd,es,lk,l0,m,ch,al,ws,r,dv,x,y,td,e0,D,C,ok,Tb,Tb1,htd,ask,hty,m9,?_⟩
 rcases ks with ⟨a,k⟩ | ⟨day,u,v,w,z,⟨a,k⟩ | ⟨t,key,a,c,d,ks⟩⟩
 ·exact .inl ⟨a,hE _ _ _ k⟩
 ·exact .inr ⟨day,u,v,w,z,.inl ⟨a,fun G t=>hE _ _ _ (k G t)⟩⟩
 ·exact .inr ⟨day,u,v,w,z,.inr ⟨t,key,a,c,d,ks.imp (fun c k G t=>hE _ _ _ (k G t)) fun n _ _ _ _ _ k G f e=>hq _ _ (k G f e)⟩⟩
theorem vV {Ad:Ads}{Q Q':VK}{E E':XK} (h:bJ Ad vs H Q E) (hq:∀ x G,Q x G->Q' x G) (hE:∀ c d G,E c d G->E' c d G):bJ Ad vs H Q' E':=by
 obtain⟨ed,b,ca,dn,de,cl,sd,es,lk,l0,m,ch,dv,x,td,e0,D,htd,ask,m9,ks⟩:=h
 refine⟨ed,b,ca,dn,de,cl,sd,es,lk,l0,m,ch,dv,x,td,e0,D,htd,ask,m9,?_⟩
 rcases ks with ⟨a,k⟩ | ⟨day,u,v,w,z,⟨a,k⟩ | ⟨t,key,a,c,d,k,kn⟩⟩
 ·exact .inl ⟨a,hE _ _ _ k⟩
 ·exact .inr ⟨day,u,v,w,z,.inl ⟨a,fun G t=>hE _ _ _ (k G t)⟩⟩
 ·exact .inr ⟨day,u,v,w,z,.inr ⟨t,key,a,c,d,fun e he ek G f x=>hq _ _ (k e he ek G f x),fun hn G t=>hE _ _ _ (kn hn G t)⟩⟩
inductive gm (K:PySem.W.Frag) (Ad:Ads) (vs:List V) (H:Hp) (Q:VK) (E:XK):Prop
 | mk (ed q:Addr) (srt:Str) (dv x y:V) (q0:vs=[.ref ed,.ref q]) (q1:H q=some (.tup [.str srt,dv,x,y])) (q2:(∃ dx fs,H ed=some (.ins Ad.Editions dx fs)/\fs.lookup (Str.ofString "put")=none/\fs.lookup (Str.ofString "strike")=none)) (q3:((srt=("strike":Str)/\bJ Ad [.ref ed,dv,x] H Q (EdN Ad Q))∨(srt=("put":Str)/\(∃ t,cz H y=some t)/\b7 Ad [.ref ed,dv,x,y] H Q (EdN Ad Q)))):gm K Ad vs H Q E
theorem bU:aM ["_law_editions","_law_deed","_law_sort","_law_day","_law_entry","_law_number","_law_found","e","_law_some","_law_k"] ["_law_editions","_law_deed"] (ak oV):=by subst_eqs
theorem xq (F:Fun K "_law_did" "_law_did" oV f fd) (T:Bl mg) (AF:AdF K mg Ad) (M_Editions_strike:Mtd P w K mg base (CX1 P w) Ad.Editions "strike" 6 ["self","day","entry"] (bJ Ad)) (M_Editions_put:Mtd P w K mg base (CX1 P w) Ad.Editions "put" 7 ["self","day","entry","number"] (b7 Ad)) (D_Editions_put:A3 P w K mg base (CX1 P w) Ad.Editions "put" 7 ["self","day","entry","number"] (b7 Ad)):bI P w K mg base (CX1 P w) 8 f fd ["_law_editions","_law_deed"] (gm K Ad):=by
 refine F.okX (k:=7) bU ?_ ?_
 ·bv_decide
 ·bv_normalize
  obtain⟨ed,q,srt,dv,x,y,rfl,hq,⟨dx,fs,he,hfp,hfs⟩,k⟩:=h
  refine⟨_,af (mO (pvL 1) (ke (K:=K) (n:=4) rfl rfl (aT (aB (i:=2) bU.nd) (aT (aB (i:=3) bU.nd) (aT (aB (i:=4) bU.nd) (aT (aB (i:=5) bU.nd) (fg))))))) (af (aA (i:=6) bU.nd (av)) (af (EL (i:=7) rfl rfl rfl bU.nd AF.g_CableError (fun pn xe E1 po px=>aj (bq (aJ (bX (K:=K) rfl hu) (pvL 2) (av) (aL _)) (aj (aA (i:=6) bU.nd (cJ M_Editions_strike px (hr.mono (by decide)) (pvL 0) (ae (pvL 3) (ae (pvL 4) (aa)))))) (aj (bq (aJ xA (pvL 5) (cK) (aL _)) (aj (aA (i:=6) bU.nd (vE D_Editions_put px (hr.mono (by decide)) (pvL 0) (ae (pvL 3) (ae (pvL 4) (aa)))))) (aj (aA (i:=6) bU.nd (cJ M_Editions_put px (hr.mono (by decide)) (pvL 0) (ae (pvL 3) (ae (pvL 4) (ae (pvL 5) (aa))))))))))) (fun _=>af (aA (i:=8) bU.nd (aN (ae (ay (eh (K:=K) rfl) T.isinstance bt_isinstance (ae (pvL 7) (ae (j6 AF.g_NoDay) (aa)))) (ae (ay (eh (K:=K) rfl) T.isinstance bt_isinstance (ae (pvL 7) (ae (j6 AF.g_NoEntry) (aa)))) (ae (ay (eh (K:=K) rfl) T.isinstance bt_isinstance (ae (pvL 7) (ae (j6 AF.g_Twice) (aa)))) (ae (ay (eh (K:=K) rfl) T.isinstance bt_isinstance (ae (pvL 7) (ae (j6 AF.g_NoNumber) (aa)))) (aa))))))) (af (aA (i:=8) bU.nd (aw aQ (pvL 8) (aN (ae (ay (eh (K:=K) rfl) T.isinstance bt_isinstance (ae (pvL 7) (ae (j6 AF.g_TooMany) (aa)))) (ae (ay (eh (K:=K) rfl) T.isinstance bt_isinstance (ae (pvL 7) (ae (gR T.ValueError mw) (aa)))) (aa)))))) (aj (EK PassesOwn.never (pE T.range (ae (ag) (aa))) (kT (i:=9) bU.nd) (aj (bq (aJ (bX (K:=K) rfl hu) (pvL 8) (Hv ["_law_j"] ⟨rfl,by decide +kernel,rfl,by decide +kernel⟩ (.cons (j:=9) rfl (.inl (by kernel_rfl)) (.nil)) (by decide +kernel) (pE T.range (ae (ag) (aa))) (fun _ _ _ _=>aB (i:=0) (show (["_law_j","_law_k"]:List Str).Nodup from by decide +kernel)) (fun _ _ _ _=>fh) (fun _ _ _ _=>Cp (cn (bX (K:=K) rfl hu) (pvL 0) (pvC 1) (aL _)) (kS (cn (bX (K:=K) rfl hu) (pvL 0) (ag) (aL _))))) (aL _)) (aj (aA (i:=6) bU.nd (aX (bO (K:=K) rfl) (aN (ae (av) (ae (av) (ae (av) (ae (av) (ae (av) (aa))))))) (pvC 9) (fun _ _=>rfl)))) (aI)))))))) (aj (aK (pvL 6))))),?_⟩
  have big:∀ {u:Nat},u<=1000->u<=sizeLine:=fun hu=>aP (ao (by omega))
  grind
  refine⟨_,.inr (.of hq),rfl,?_⟩
  and_intros
  cbv
  grind
  cbv
  refine cN fun nn hN=>?_
  refine Fd fun th hTh=>?_
  rw[xY]
  and_intros
  have hj:∀ j,j<5->Ad.Bk[ixD j]?=some (rV Ad j):=fun j hj=>by
   rcases (show j=0∨j=1∨j=2∨j=3∨j=4 by omega) with rfl | rfl | rfl | rfl | rfl<;>rfl
  have hand:∀ (j:Nat) (H1 H2:Hp) (ea:Addr),j<5->(∀ H',aq H1 H'->Q (.str (nmD j)) H')->aq H1 H2->H2 ea=some (nu ea (.ref (rV Ad j)) none)->th ea { nx:=fun σ H=>nn { nx:=fun x H'=>Q V.non H',rt:=Q } (List.set σ 7 none) H,rt:=Q } [some (V.ref ed),some (V.ref q),some (V.str srt),some dv,some x,some y,some (V.str (Str.ofString "none")),some (V.ref ea),none,none] H2:=fun j H1 H2 ea j5 kk s2 h2=>by
   rw[hTh]
   clear hTh th k
   have eC:=wz AF.err (c:=rV Ad j) (bp (hj j j5))
   have kd:∀ {i:Nat}{d:Addr},Ad.Bk[i]?=some d->PySem.W.kitOne K (.ref (rV Ad j)) (.ref d)=some (decide (ixD j=i)):=fun {i d} hd=>by rw[eC.kd d (bp hd),BY AF.nd (hj j j5) hd]
   have tX:∀ {H'},aq H2 H'->TyX K H' (.ref ea) (.ref (rV Ad j)):=fun s=>.inr ⟨ea,_,rfl,rfl,s _ _ h2,eC.ex⟩
   have r0:=aq.refl H2
   refine cN fun n2 hM=>?_
   and_intros
   refine⟨_,_,tX r0,.inl (kd (i:=6) rfl),_,_,tX r0,.inl (kd (i:=3) rfl),_,_,tX r0,.inl (kd (i:=4) rfl),_,_,tX r0,.inl (kd (i:=1) rfl),big (by decide),fun p3 H3 hp3 s3 h3=>?_⟩
   rw[hM]
   clear hM n2
   refine cN fun n2 hM=>?_
   and_intros
   refine⟨_,_,tX s3,.inl (kd (i:=5) rfl),?_⟩
   and_intros
   refine⟨_,_,tX s3,eC.ve,big (by decide),fun p4 H4 hp4 s4 h4=>⟨_,_,s4 _ _ h3,h4,big (by simp),fun p5 H5 hp5 s5 h5=>?_⟩⟩
   have h5':H5 p5=some (.lst [V.bl (decide (ixD j=6)),V.bl (decide (ixD j=3)),V.bl (decide (ixD j=4)),V.bl (decide (ixD j=1)),V.bl (decide (ixD j=5)),V.bl true]):=h5
   have s25:=s3.trans (s4.trans s5)
   clear h5 h4 h3
   rw[hM]
   clear hM n2
   and_intros
   have hin:∀ {G:Hp},aq H5 G->jW (some (.ref ea)) G:=fun t=>wY ((s25.trans t) _ _ h2)
   refine⟨by decide,by decide,Bv (fun i σ G=>(∃ o,σ=[some (V.ref ed),some (V.ref q),some (V.str srt),some dv,some x,some y,some (V.str (if i<=j then Str.ofString "none" else nmD j)),some (V.ref ea),some (V.ref p5),o])/\aq H5 G) ⟨⟨_,by rw[if_pos (bh _)]⟩,aq.refl _⟩ (fun σ G ⟨_,tG⟩=>hin tG) ?_ ?_⟩
   ·rintro i σ G hi ⟨⟨o,rfl⟩,tG⟩ N hNx
    rw[fE,Int.zero_add]
    and_intros
    refine⟨by decide,by decide,xh (xs:=List.range 6) (fun k:Nat=>V.int (0+(k:Int))) (fun x y e=>by have:=V.int.inj e;omega) (xJ (n:=6) (hin tG)) (by rw[List.length_range];exact ao (by decide)) (fun k:Nat=>V.bl (decide (k=i)||decide (k=5))) ?_ ?_⟩
    ·intro u hu' G1 t1 R hR
     and_intros
     have hR1:=hR G1 (aq.refl _)
     by_cases hji:u=i
     ·rw[decide_eq_true (show 0+(u:Int)=i by omega),if_pos rfl]
      rw[decide_eq_true hji,Bool.true_or] at hR1
      exact hR1
     ·rw[decide_eq_false (show ¬ 0+(u:Int)=i by omega),if_neg (by decide),show decide (0+(u:Int)=5)=decide (u=5) from fV.mpr (by omega)]
      rw[decide_eq_false hji,Bool.false_or] at hR1
      exact hR1
    intro D G1 hD t1 g1
    and_intros
    have g5:=(tG.trans t1) _ _ h5'
    have tG1:=tG.trans t1
    have hi5:i<5:=hi
    have eqv:nt [V.bl (decide (ixD j=6)),V.bl (decide (ixD j=3)),V.bl (decide (ixD j=4)),V.bl (decide (ixD j=1)),V.bl (decide (ixD j=5)),V.bl true] ((List.range 6).map fun k:Nat=>V.bl (decide (k=i)||decide (k=5)))=decide (i=j):=by
     rcases (show i=0∨i=1∨i=2∨i=3∨i=4 by omega) with rfl | rfl | rfl | rfl | rfl<;>rcases (show j=0∨j=1∨j=2∨j=3∨j=4 by omega) with rfl | rfl | rfl | rfl | rfl<;>rfl
    have at5:atI [V.str (Str.ofString "NoDay"),V.str (Str.ofString "NoEntry"),V.str (Str.ofString "Twice"),V.str (Str.ofString "NoNumber"),V.str (Str.ofString "TooMany")] (i:Int)=some (V.str (nmD i)):=by
     rcases (show i=0∨i=1∨i=2∨i=3∨i=4 by omega) with rfl | rfl | rfl | rfl | rfl<;>rfl
    refine⟨_,_,.of g5,.of g1,rfl,ck.mpr (fun v hv=>by obtain⟨w,_,rfl⟩:=aC.mp hv;rfl),?_⟩
    rw[eqv]
    by_cases hij:i=j
    ·subst hij
     rw[if_pos (by rw[decide_eq_true rfl])]
     refine⟨big (by decide),fun p6 G6 _ t6 g6=>⟨_,_,.l g6,at5,hNx _ _ ⟨⟨_,by rw[if_neg (by omega)]⟩,tG1.trans t6⟩⟩⟩
    ·rw[decide_eq_false hij,if_neg (by decide)]
     refine hNx _ _ ⟨⟨some (V.int i),?_⟩,tG1⟩
     by_cases hle:i<=j
     ·rw[if_pos hle,if_pos (show i+1<=j by omega)]
     ·rw[if_neg hle,if_neg (show ¬ i+1<=j by omega)]
   rintro σ G ⟨⟨o,rfl⟩,tG⟩
   show nn _ _ _
   rw[hN]
   and_intros
   rw[if_neg (show ¬ (5:Int).toNat<=j by show ¬ 5<=j;omega)]
   exact kk G (s2.trans (s25.trans tG))
  have fin:∀ (c:Value) (d:Option Addr) (G:Hp),EdN Ad Q c d G->PySem.W.exmOne K c (.ref Ad.CableError)=some true/\∀ (ea:Addr) (H2:Hp),G ea=none->aq G H2->H2 ea=some (nu ea c d)->th ea { nx:=fun σ H=>nn { nx:=fun x H'=>Q V.non H',rt:=Q } (List.set σ 7 none) H,rt:=Q } [some (V.ref ed),some (V.ref q),some (V.str srt),some dv,some x,some y,some (V.str (Str.ofString "none")),some (V.ref ea),none,none] H2:=fun c d G ⟨j,j5,e1,e2,kk⟩=>by
   subst e1 e2
   exact⟨(wz AF.err (c:=rV Ad j) (bp (hj j j5))).em,fun ea H2 _ s2 h2=>hand j G H2 ea j5 kk s2 h2⟩
  rcases k with ⟨rfl,k⟩ | ⟨rfl,⟨ty,hty⟩,k⟩
  ·rw[if_pos (by decide)]
   refine⟨dx,fs,he,hfs,vV k (fun x G hx=>?_) fun c d G hE=>fin c d G hE⟩
   rw[hN]
   and_intros
   exact hx
  rw[if_neg (by decide)]
  by_cases hy:y=.non
  ·subst hy
   and_intros
   refine⟨dx,fs,he,hfp,vK k (fun x G hx=>?_) fun c d G hE=>fin c d G hE⟩
   rw[hN]
   and_intros
   exact hx
  ·have eV:=BG hty hy
   simp only[isV] at eV
   rw[eV]
   and_intros
   refine⟨dx,fs,he,hfp,vK k (fun x G hx=>?_) fun c d G hE=>fin c d G hE⟩
   rw[hN]
   and_intros
   exact hx
inductive i4 (Ad:Ads) (vs:List V) (H:Hp) (Q:VK) (E:XK):Prop
 | mk (ed dx b cl sd:Addr) (l0:Int) (dv:V) (t:Tg) (q0:vs=[.ref ed,dv]) (q1:H ed=some (.ins Ad.Editions dx (edF b cl sd l0))) (q2:cz H dv=some t) (q3:bj 1000000001 dv=false) (q4:∀ H',aq H H'->Q (.bl true) H'):i4 Ad vs H Q E
theorem eB:aM ["_law_editions","_law_day","_law_found","e"] ["_law_editions","_law_day"] (ak jk):=by subst_eqs
theorem rl (F:Fun K "_law_no_book" "_law_no_book" jk f fd) (T:Bl mg) (AF:AdF K mg Ad) (M_Editions_book:Mtd P w K mg base (CX1 P w) Ad.Editions "book" 7 ["self","day"] (gk Ad)):bI P w K mg base (CX1 P w) 8 f fd ["_law_editions","_law_day"] (i4 Ad):=by
 refine F.okX (k:=7) eB ?_ ?_
 ·bv_decide
 ·bv_normalize
  obtain⟨ed,dx,b,cl,sd,l0,dv,t,rfl,h1,ht,hb,k⟩:=h
  refine⟨_,af (aA (i:=2) eB.nd (av)) (af (HC (i:=3) rfl rfl rfl eB.nd AF.g_CableError (fun pn xe E1 po px=>aj (cW (cJ M_Editions_book px (hr.mono (by decide)) (pvL 0) (ae (pvL 1) (aa))))) (fun _=>af (aA (i:=2) eB.nd (av)) (aj (bq ((mP (bW (ay (eh (K:=K) rfl) T.isinstance bt_isinstance (ae (pvL 3) (ae (j6 AF.g_NoDay) (aa))))) (kg (bW (ay (eh (K:=K) rfl) T.isinstance bt_isinstance (ae (pvL 3) (ae (gR T.ValueError mw) (aa))))))).pt) (aj (aA (i:=2) eB.nd (av))) (aI))))) (aj (aK (cn (bX (K:=K) rfl hu) (pvL 2) (av) (aL _))))),?_⟩
  grind
  cbv
  grind
  refine⟨dx,_,h1,rfl,ed,dv,rfl,.inl ⟨t,ht,hb,?_⟩⟩
  have eC:=wz AF.err (c:=Ad.NoDay) (bp (i:=6) rfl)
  refine⟨eC.em,fun ea H2 _ s2 h2=>?_⟩
  have kd:∀ {i:Nat}{d:Addr},Ad.Bk[i]?=some d->PySem.W.kitOne K (.ref Ad.NoDay) (.ref d)=some (decide (6=i)):=fun {i d} hd=>by rw[eC.kd d (bp hd),BY AF.nd (i:=6) rfl hd]
  have tX:TyX K H2 (.ref ea) (.ref Ad.NoDay):=.inr ⟨ea,_,rfl,rfl,h2,eC.ex⟩
  refine cN fun n2 hM=>?_
  and_intros
  rw[hM]
  clear hM n2
  and_intros
  refine⟨_,_,tX,.inl (kd (i:=6) rfl),?_⟩
  and_intros
  refine⟨_,_,tX,eC.ve,?_⟩
  and_intros
  cbv
  and_intros
  exact k H2 s2
inductive Odd (H:Hp) (es:List Ben) (lk:Lk) (l0 M:Int):V->V->V->Nat->Prop
 | day (dv x y:V) (h:qm l0 dv) (hs:y≠.str ("strike":Str)):Odd H es lk l0 M dv x y 0
 | ent (d:Int) (x y:V) (h0:l0<=d) (h1:d<=1000000000) (he:dm H x=false) (hs:y≠.str ("strike":Str)):Odd H es lk l0 M (.int d) x y 1
 | twice (t:Addr) (key:List Key) (y:V) (ht:H t=some (.tup (key.map kV))) (eo:dI key) (hk:key∈es.map (·.key)) (hs:y≠.str ("strike":Str)):Odd H es lk l0 M (.int l0) (.ref t) y 2
 | num (t:Addr) (key:List Key) (y:V) (ht:H t=some (.tup (key.map kV))) (eo:dI key) (hk:key∉es.map (·.key)) (hy:y≠.non) (hs:y≠.str ("strike":Str)) (hb:bj M y=false∨∃ n,y=.int n/\0<=n/\n<M/\(n∈es.map (·.num)∨gw lk l0 key n=true)):Odd H es lk l0 M (.int l0) (.ref t) y 3
 | many (t:Addr) (key:List Key) (y:V) (ht:H t=some (.tup (key.map kV))) (eo:dI key) (hk:key∉es.map (·.key)) (hs:y≠.str ("strike":Str)) (h3:300<=es.length) (hb:y=.non∨∃ n,y=.int n/\0<=n/\n<M/\n∉es.map (·.num)/\gw lk l0 key n=false):Odd H es lk l0 M (.int l0) (.ref t) y 4
 | strike (x:V) (hx:dm H x=false∨∃ t key,x=.ref t/\H t=some (.tup (key.map kV))/\dI key/\key∉es.map (·.key)):Odd H es lk l0 M (.int l0) x (.str ("strike":Str)) 1
theorem Odd.same {H H':Hp}{es:List Ben}{lk:Lk}{l0 M:Int}{dv x y:V}{j:Nat} (h:Odd H es lk l0 M dv x y j) (s:aq H H') (a:jT H x):Odd H' es lk l0 M dv x y j:=by
 cases h with
 | day _ _ _ h hs=>exact .day _ _ _ h hs
 | ent d _ _ h0 h1 he hy=>exact .ent d _ _ h0 h1 ((oJ s a).trans he) hy
 | twice t key _ ht eo hk hy=>exact .twice t key _ (s _ _ ht) eo hk hy
 | num t key _ ht eo hk hy hs hb=>exact .num t key _ (s _ _ ht) eo hk hy hs hb
 | many t key _ ht eo hk hs h3 hb=>exact .many t key _ (s _ _ ht) eo hk hs h3 hb
 | strike _ hx=>exact .strike _ (hx.imp (fun he=>(oJ s a).trans he) fun ⟨t,key,e,ht,r⟩=>⟨t,key,e,s _ _ ht,r⟩)
theorem qh {Ad:Ads}{ed b ca dn de cl sd:Addr}{es:List Ben}{lk:Lk}{m j:Nat}{ch:List Chg}{dv x y:V}{td ty:Tg}{Q:VK}{E:XK} (od:Odd H es lk l0 (dP al ws) dv x y j) (hs:y≠.str ("strike":Str)) (D:iW Ad H ed b ca dn de cl sd es lk l0 m ch) (C:gd Ad H ca al ws r) (ok:gO al ws r) (Tb:H Ad.tb=some (fX qO)) (Tb1:H Ad.tb1=some (fX ny)) (htd:cz H dv=some td) (ask:jT H x) (hty:cz H y=some ty) (m9:m<999) (z0:0<=l0) (z1:l0<=1000000000)
  (hE:∀ G,aq H G->E (.ref (rV Ad j)) none G):b7 Ad [.ref ed,dv,x,y] H Q E:=by
 refine⟨ed,b,ca,dn,de,cl,sd,es,lk,l0,m,ch,al,ws,r,dv,x,y,td,rfl,D,C,ok,Tb,Tb1,htd,ask,⟨ty,hty⟩,m9,?_⟩
 cases od with
 | day _ _ _ h=>exact .inl ⟨h,hE H (aq.refl _)⟩
 | ent d _ _ h0 h1 he _=>exact .inr ⟨d,rfl,by omega,h1,h0,.inl ⟨he,hE⟩⟩
 | twice t key _ ht eo hk _=>exact .inr ⟨l0,rfl,z0,z1,eJ _,.inr ⟨t,key,rfl,ht,eo,.inl ⟨hk,hE⟩⟩⟩
 | num t key _ ht eo hk hyn _ hb=>exact .inr ⟨l0,rfl,z0,z1,eJ _,.inr ⟨t,key,rfl,ht,eo,.inr ⟨hk,hb.elim (fun hb=>.inl ⟨hyn,hb,hE⟩) fun ⟨n,e,n0,n1,hm⟩=>.inr (.inl ⟨n,e,n0,n1,hm,hE⟩)⟩⟩⟩
 | many t key _ ht eo hk _ h3 hb=>exact .inr ⟨l0,rfl,z0,z1,eJ _,.inr ⟨t,key,rfl,ht,eo,.inr ⟨hk,.inr (.inr (.inl ⟨h3,hb,hE⟩))⟩⟩⟩
 | strike=>exact absurd rfl hs
inductive i5 (K:PySem.W.Frag) (Ad:Ads) (vs:List V) (H:Hp) (Q:VK) (E:XK):Prop
 | mk (ed b ca dn de cl sd R:Addr) (es:List Ben) (lk:Lk) (l0:Int) (m j:Nat) (ch:List Chg) (al:List Nat) (ws:List Int) (r:Int) (dv x y:V) (td ty:Tg) (q0:vs=[.ref ed,.ref R]) (q1:H R=some (.lst [dv,x,y,.str (nmD j)])) (q2:iW Ad H ed b ca dn de cl sd es lk l0 m ch) (q3:gd Ad H ca al ws r) (q4:gO al ws r) (q5:H Ad.tb=some (fX qO)) (q6:H Ad.tb1=some (fX ny)) (q7:cz H dv=some td) (q8:jT H x) (q9:cz H y=some ty) (q10:(∀ p,y=.ref p->∃ xs,H p=some (.lst xs))) (q11:m<999) (q12:0<=l0) (q13:l0<=1000000000) (q14:Odd H es lk l0 (dP al ws) dv x y j) (q15:∀ H',aq H H'->Q (.bl true) H'):i5 K Ad vs H Q E
theorem cM:aM ["_law_editions","_law_odd_here","_law_day","_law_entry","_law_number","_law_due_here","_law_deed"] ["_law_editions","_law_odd_here"] (ak jm):=by subst_eqs
theorem rp (F:Fun K "_law_refused" "_law_refused" jm f fd) (T:Bl mg) (AF:AdF K mg Ad) (C_law_did:Fnc P w K mg base (CX1 P w) 8 "_law_did" ["_law_editions","_law_deed"] (gm K Ad)):bI P w K mg base (CX1 P w) 9 f fd ["_law_editions","_law_odd_here"] (i5 K Ad):=by
 refine F.okX (k:=8) cM ?_ ?_
 ·bv_decide
 ·bv_normalize
  obtain⟨ed,b,ca,dn,de,cl,sd,R,es,lk,l0,m,j,ch,al,ws,r,dv,x,y,td,ty,rfl,hR,D,C,ok,Tb,Tb1,htd,ask,hty,hyl,m9,z0,z1,od,k⟩:=h
  refine⟨_,af (mO (pvL 1) (ke (K:=K) (n:=4) rfl rfl (aT (aB (i:=2) cM.nd) (aT (aB (i:=3) cM.nd) (aT (aB (i:=4) cM.nd) (aT (aB (i:=5) cM.nd) (fg))))))) (af (aA (i:=6) cM.nd (aS (ae (av) (ae (pvL 2) (ae (pvL 3) (ae (pvL 4) (aa))))))) (af (bq (aJ (Hf (K:=K) rfl hu) (pvL 4) (av) (aL _)) (aj (aA (i:=6) cM.nd (aS (ae (av) (ae (pvL 2) (ae (pvL 3) (ae (cK) (aa)))))))) (aI)) (aj (aK (cn (bX (K:=K) rfl hu) (aG C_law_did au (hr.mono (by decide)) (ae (pvL 0) (ae (pvL 6) (aa)))) (pvL 5) (aL _)))))),?_⟩
  have big:∀ {u:Nat},u<=1000->u<=sizeLine:=fun hu=>aP (ao (by omega))
  grind
  refine⟨_,.l hR,rfl,?_⟩
  and_intros
  cbv
  grind
  refine⟨big (by decide),fun q G1 hq t1 g1=>?_⟩
  cbv
  grind
  have D1:=D.same t1
  have C1:=C.same t1
  have od1:=od.same t1 ask
  have ask1:=ask.same t1
  have Tb':=t1 _ _ Tb
  have Tb1':=t1 _ _ Tb1
  obtain⟨dx,hed⟩:=D1.eF
  have j5:j<5:=by cases od<;>decide
  have rfs:∀ (G2 G3:Hp),aq G1 G2->aq G2 G3->EdN Ad (fun x H1=>xF K x (V.str (nmD j)) H1 Q) (.ref (rV Ad j)) none G3:=fun G2 G3 t2 t3=>⟨j,j5,rfl,rfl,fun G4 t4=>by
   show xF K (V.str (nmD j)) (V.str (nmD j)) G4 Q
   rw[sD,decide_eq_true rfl]
   exact k G4 (t1.trans (t2.trans (t3.trans t4)))⟩
  have r1:=aq.refl G1
  by_cases hy:y=.str ("strike":Str)
  ·subst hy
   refine .inl ⟨_,rfl,?_⟩
   rw[if_pos (by decide)]
   refine⟨big (by decide),fun q2 G2 hq2 t2 g2=>?_⟩
   cbv
   and_intros
   have od2:=od1.same t2 ask1
   refine⟨ed,q2,_,dv,x,.non,rfl,g2,⟨dx,_,t2 _ _ hed,rfl,rfl⟩,.inl ⟨rfl,ed,b,ca,dn,de,cl,sd,es,lk,l0,m,ch,dv,x,td,rfl,D1.same t2,dA (t1.trans t2) htd,ask1.same t2,m9,?_⟩⟩
   cases od2 with
   | day _ _ _ _ hs=>exact absurd rfl hs
   | ent d _ _ _ _ _ hs=>exact absurd rfl hs
   | twice t key _ _ _ _ hs=>exact absurd rfl hs
   | num t key _ _ _ _ _ hs _=>exact absurd rfl hs
   | many t key _ _ _ _ hs _ _=>exact absurd rfl hs
   | strike _ hx =>
    refine .inr ⟨l0,rfl,z0,z1,eJ _,?_⟩
    rcases hx with he | ⟨t,key,e,ht,eo,hk⟩
    ·exact .inl ⟨he,fun G3 t3=>rfs G2 G3 t2 t3⟩
    ·exact .inr ⟨t,key,e,ht,eo,fun e he ek=>absurd (aC.mpr ⟨e,he,ek⟩) hk,fun _ G3 t3=>rfs G2 G3 t2 t3⟩
  have main:nn { nx:=fun x H'=>Q V.non H',rt:=Q } [some (V.ref ed),some (V.ref R),some dv,some x,some y,some (V.str (nmD j)),some (V.ref q)] G1:=by
   cbv
   and_intros
   exact⟨ed,q,_,dv,x,y,rfl,g1,⟨dx,_,hed,rfl,rfl⟩,.inr ⟨rfl,⟨ty,dA t1 hty⟩,qh od1 hy D1 C1 ok Tb' Tb1' (dA t1 htd) ask1 (dA t1 hty) m9 z0 z1 fun G3 t3=>rfs G1 G3 r1 t3⟩⟩
  cases y with
  | non=>exact .inr ⟨.inl rfl,main⟩
  | bl b'=>exact .inr ⟨.inr (.inl ⟨_,rfl⟩),main⟩
  | int i=>exact .inr ⟨.inr (.inr (.inl ⟨_,rfl⟩)),main⟩
  | str i =>
   refine .inl ⟨i,rfl,?_⟩
   rw[if_neg (by rw[cZ];exact fun z=>hy (by rw[z]))]
   exact main
  | ref p =>
   obtain⟨xs,hp⟩:=hyl p rfl
   exact .inr ⟨.inr (.inr (.inr ⟨p,xs,rfl,.of (t1 _ _ hp)⟩)),main⟩
  | byt _=>cases hty
  | flt _=>cases hty
  | ty _=>cases hty
def cT (k:Nat):List Key:=[.inr ("phrase":Str),.inr (tx [97+k/26,97+k%26])]
theorem kH {i j:Nat} (h:cT i=cT j):i=j:=by
 have h1:tx [97+i/26,97+i%26]=tx [97+j/26,97+j%26]:=Sum.inr.inj (List.cons.inj (List.cons.inj h).2).1
 have h2:[97+i/26,97+i%26]=[97+j/26,97+j%26]:=by have:=bu (fun z:Str=>z.cps.toList) h1;simpa only[ni] using this
 have e:=List.cons.inj h2
 have e2:=(List.cons.inj e.2).1
 omega
theorem cU {k:Nat} (h:k<302):dI (cT k):=gZ (ws:=[[97+k/26,97+k%26]]) (by simp) (by simp) (fun w hw=>by
 rw[bc.mp hw]
 refine⟨by simp,by simp,fun c hc=>?_⟩
 simp only[aD,bM,bN] at hc
 omega) (by simp [Mk.fv])
structure Ax where
 dv:V
 x:V
 y:V
 j:Nat
def Aw (G:Hp) (v:V) (a:Ax):Prop:=∃ p q,v=.ref p/\G p=some (.tup [.ref q,.str (nmD a.j)])/\G q=some (.tup [.str ("put":Str),a.dv,a.x,a.y])
theorem oC {G G':Hp}{as:List Ax} (h:Paired (Aw G) vs as) (s:aq G G'):Paired (Aw G') vs as:=by
 induction h with
 | nil=>exact .nil
 | cons f _ ih=>obtain⟨p,q,e,h1,h2⟩:=f;exact .cons ⟨p,q,e,s _ _ h1,s _ _ h2⟩ ih
theorem BQ:dP [97,98,99,100,101,102,103] [1,2,1,2]=343:=by decide
theorem ok7 (v:Int):gO [97,98,99,100,101,102,103] [1,2,1,2] (v%7):=⟨by decide,by decide,by decide,by decide,by decide,by decide,by decide,by decide,by show 0<=v%7/\v%7<7;omega⟩
def pL (Ad:Ads):Sp:=fun vs H Q _=>∃ v:Int,vs=[.int v]/\0<=v/\H Ad.tb=some (fX qO)/\H Ad.tb1=some (fX ny)/\∀ H',aq H H'->Q (.bl true) H'
theorem cj:aM ["_law_number","_law_letters","_law_editions","_law_phrases","_law_k","_law_gone","_law_asked","_law_deed","_law_due_here"] ["_law_number"] (ak mW):=by subst_eqs
theorem vx (F:Fun K "_law_full" "_law_full" mW f fd) (T:Bl mg) (AF:AdF K mg Ad) (C_law_did:Fnc P w K mg base (CX1 P w) 8 "_law_did" ["_law_editions","_law_deed"] (gm K Ad)) (M_Editions_strike:Mtd P w K mg base (CX1 P w) Ad.Editions "strike" 6 ["self","day","entry"] (bJ Ad)) (D_Editions_put:A3 P w K mg base (CX1 P w) Ad.Editions "put" 7 ["self","day","entry","number"] (b7 Ad)) (K_Editions:Mak P w K mg base (CX1 P w) Ad.Editions "Editions" 3 ["self","code"] (eO Ad)) (K_Code:Mak P w K mg base (CX1 P w) Ad.Code "Code" 4 ["self","alphabet","weights","rest"] (eN Ad)):bI P w K mg base (CX1 P w) 9 f fd ["_law_number"] (pL Ad):=by
 refine F.okX (k:=8) cj ?_ ?_
 ·bv_decide
 ·bv_normalize
  obtain⟨v,rfl,v0,Tb,Tb1,k⟩:=h
  refine⟨_,af (iO (i:=1) cj.nd (av)) (af (aA (i:=2) cj.nd (j7 K_Editions au (hr.mono (by decide)) (ae (j7 K_Code au (hr.mono (by decide)) (ae (av) (ae (aN (ae (ag) (ae (ag) (ae (ag) (ae (ag) (aa)))))) (ae (aw aW (pvL 0) (ag)) (aa))))) (aa)))) (af (j8 (i:=3) ["_law_k"] cj.nd rfl (Or.inl rfl) rfl ⟨rfl,by decide +kernel,rfl,by decide +kernel⟩ (.cons (j:=1) rfl (.inl (by kernel_rfl)) (.nil)) (by decide +kernel) (fk T.range (ae (ag) (aa))) (fun _ _ _ _=>aB (i:=0) (show (["_law_k","_law_letters"]:List Str).Nodup from by decide +kernel)) (fun _ _ _ _=>fh) (fun _ _ _ _=>aS (ae (av) (ae (aw aQ (aX (bO (K:=K) rfl) (pvC 1) (aw bo (pvL 0) (ag)) (fun _ _=>rfl)) (aX (bO (K:=K) rfl) (pvC 1) (aw aW (pvL 0) (ag)) (fun _ _=>rfl))) (aa))))) (af (fM cm rfl (fk T.range (ae (ag) (aa))) (aB (i:=4) cj.nd) (aj (bq (aJ (fJ (K:=K) rfl hu) (vE D_Editions_put au (hr.mono (by decide)) (pvL 2) (ae (ag) (ae (aX (bO (K:=K) rfl) (pvL 3) (pvL 4) (fun _ _=>rfl)) (aa)))) (pvL 4) (aL _)) (aj (aK (e8))) (aI)))) (af (aA (i:=5) cj.nd (aw aW (aw bo (pvL 0) (ag)) (ag))) (af (aA (i:=6) cj.nd (aN (ae (aS (ae (aS (ae (av) (ae (ag) (ae (aX (bO (K:=K) rfl) (pvL 3) (ag) (fun _ _=>rfl)) (ae (cK) (aa)))))) (ae (av) (aa)))) (ae (aS (ae (aS (ae (av) (ae (ag) (ae (cK) (ae (ag) (aa)))))) (ae (av) (aa)))) (aa))))) (af (aA (i:=6) cj.nd (aw aQ (pvL 6) (aN (ae (aS (ae (aS (ae (av) (ae (ag) (ae (aX (bO (K:=K) rfl) (pvL 3) (pvL 5) (fun _ _=>rfl)) (ae (ag) (aa)))))) (ae (av) (aa)))) (ae (aS (ae (aS (ae (av) (ae (ag) (ae (aX (bO (K:=K) rfl) (pvL 3) (ag) (fun _ _=>rfl)) (ae (pvL 5) (aa)))))) (ae (av) (aa)))) (aa)))))) (af (aA (i:=6) cj.nd (aw aQ (pvL 6) (aN (ae (aS (ae (aS (ae (av) (ae (ag) (ae (aX (bO (K:=K) rfl) (pvL 3) (ag) (fun _ _=>rfl)) (ae (ag) (aa)))))) (ae (av) (aa)))) (ae (aS (ae (aS (ae (av) (ae (ag) (ae (aX (bO (K:=K) rfl) (pvL 3) (ag) (fun _ _=>rfl)) (ae (ag) (aa)))))) (ae (av) (aa)))) (aa)))))) (af (fM cm rfl (cP (K:=K) rfl (aw aQ (pvL 6) (aN (ae (aS (ae (aS (ae (av) (ae (ag) (ae (aX (bO (K:=K) rfl) (pvL 3) (ag) (fun _ _=>rfl)) (ae (cK) (aa)))))) (ae (av) (aa)))) (aa))))) (nG (K:=K) (n:=2) rfl rfl (aT (aB (i:=7) cj.nd) (aT (aB (i:=8) cj.nd) (fg)))) (aj (bq (aJ (fJ (K:=K) rfl hu) (aG C_law_did au (hr.mono (by decide)) (ae (pvL 2) (ae (pvL 7) (aa)))) (pvL 8) (aL _)) (aj (aK (e8))) (aI)))) (af (bq (aJ (fJ (K:=K) rfl hu) (cJ M_Editions_strike au (hr.mono (by decide)) (pvL 2) (ae (ag) (ae (aX (bO (K:=K) rfl) (pvL 3) (pvL 5) (fun _ _=>rfl)) (aa)))) (pvL 5) (aL _)) (aj (aK (e8))) (aI)) (af (bq (aJ (fJ (K:=K) rfl hu) (aG C_law_did au (hr.mono (by decide)) (ae (pvL 2) (ae (aS (ae (av) (ae (ag) (ae (aX (bO (K:=K) rfl) (pvL 3) (ag) (fun _ _=>rfl)) (ae (pvL 5) (aa)))))) (aa)))) (av) (aL _)) (aj (aK (e8))) (aI)) (af (bq (aJ (fJ (K:=K) rfl hu) (aG C_law_did au (hr.mono (by decide)) (ae (pvL 2) (ae (aS (ae (av) (ae (ag) (ae (aX (bO (K:=K) rfl) (pvL 3) (ag) (fun _ _=>rfl)) (ae (cK) (aa)))))) (aa)))) (ag) (aL _)) (aj (aK (e8))) (aI)) (aj (aK (cn (bX (K:=K) rfl hu) (aG C_law_did au (hr.mono (by decide)) (ae (pvL 2) (ae (aS (ae (av) (ae (ag) (ae (aX (bO (K:=K) rfl) (pvL 3) (ag) (fun _ _=>rfl)) (ae (cK) (aa)))))) (aa)))) (av) (aL _))))))))))))))),?_⟩
  have big:∀ {u:Nat},u<=1000->u<=sizeLine:=fun hu=>aP (ao (by omega))
  grind
  cbv
  grind
  refine⟨big (by decide),fun qn F3 hqn f3 hq3=>⟨by decide,fun ca cd F4 hca hcd hcc f4 h4a h4d=>?_⟩⟩
  have ok:=ok7 v
  refine sI (al:=[97,98,99,100,101,102,103]) (ws:=[1,2,1,2]) h4a (f4 _ _ hq3) ok fun H5 s5 C5=>⟨rfl,?_⟩
  have s05:aq H H5:=fun b o e=>by
   have hb:b≠ca:=fun e2=>by rw[←e2,f3 _ _ e] at hca;cases hca
   exact s5 b o hb (f4 _ _ (f3 _ _ e))
  clear h4a h4d f4 hca hcd hcc hq3 f3 hqn s5
  intro ed edx G1 hed hedx nedx t1 g1 g1x
  refine⟨ed,edx,ca,rfl,g1,fun b dn de cl sd G2 fb fn fd' fc fs nns k2 h2 B2 hcl hsd=>⟨rfl,?_⟩⟩
  have s52:aq H5 G2:=fun c o e=>k2 c o (fun z=>by rw[z,hed] at e;cases e) (t1 _ _ e)
  have n5:H5 dn=none:=t1.free fn
  have d5:H5 de=none:=t1.free fd'
  have c5:H5 cl=none:=t1.free fc
  have sd5:H5 sd=none:=t1.free fs
  have E2:iW Ad G2 ed b ca dn de cl sd [] (fun _=>none) 0 0 []:=⟨⟨edx,h2⟩,B2,⟨_,hcl,ai _,.nil⟩,⟨_,hsd,fun n=>.inl ⟨rfl,rfl⟩,ai _⟩,nns⟩
  cbv
  grind
  refine⟨by decide,by decide,qd (qj 302) (by rw[List.length_map,Mk.kc];exact ao (by decide)) ((List.range 302).map fun k:Nat=>(cT k).map kV) (by rw[List.length_map,List.length_map,Mk.kc,List.length_range]) ?_ ?_⟩
  ·intro i x ts hx hts G3 t3 R hR
   rw[List.getElem?_map] at hx hts
   obtain⟨j,hj,rfl⟩:=fS.mp hts
   have ij:j=i/\i<302:=by
    obtain⟨h1,h2⟩:=bK.mp hj
    rw[List.length_range] at h1
    rw[List.getElem_range] at h2
    exact⟨h2.symm,h1⟩
   obtain⟨rfl,i302⟩:=ij
   have ex:x=V.int (j:Int):=by
    unfold Mk.ofN at hx
    rw[List.getElem?_map,List.getElem?_range i302] at hx
    exact (Option.some.inj hx).symm
   subst ex
   have hc2:atI ("abcdefghijklmnopqrstuvwxyz":Str).cps.toList ((j:Int)%26)=some (97+j%26):=by
    refine eQ (by omega) ?_
    rw[lV,List.getElem?_range' (by omega)]
    simp;omega
   have hc1:atI ("abcdefghijklmnopqrstuvwxyz":Str).cps.toList ((j:Int)/26)=some (97+j/26):=by
    refine eQ (by omega) ?_
    rw[lV,List.getElem?_range' (by omega)]
    simp;omega
   and_intros
   exact⟨⟨by decide,by decide⟩,aP (ao (by decide)),_,hc1,by decide,aP (ao (by decide)),_,hc2,aP (ao (show 1+1<=_ by decide)),big (by decide),fun p G4 hp t4 u4=>hR p G4 hp t4 u4⟩
  intro Ph ws G3 hPh t3 gPh hT
  have lws:ws.length=302:=by have:=Paired.length hT;rwa [List.length_map,List.length_range] at this
  have ph:∀ i:Nat,i<302->∃ p,ws[i]?=some (V.ref p)/\G3 p=some (.tup ((cT i).map kV)):=fun i hi=>by
   have h1:ws[i]?=some (ws[i]'(by omega)):=List.getElem?_eq_getElem _
   obtain⟨ts,h2,p,h3,h4⟩:=cE hT h1
   rw[List.getElem?_map,List.getElem?_range hi] at h2
   cases h2
   exact⟨p,by rw[h1,h3],h4⟩
  clear hT lws
  have nPc:Ph≠cl:=fun z=>by rw[z,hcl] at hPh;cases hPh
  have E3:=E2.same t3
  have s53:=s52.trans t3
  obtain⟨dx3,he3⟩:=E3.eF
  obtain⟨kv3,hsd3,_⟩:=E3.sF
  obtain⟨cs3,hcl3,_⟩:=E3.cF
  have keepP:∀ {G:Hp},(∀ c o,c≠ed->c≠dn->c≠de->c≠cl->c≠sd->G3 c=some o->G c=some o)->G Ph=some (.lst ws):=fun f=>f _ _ (aE gPh he3 (by intro z;cases z)) (aE gPh E3.bF.hn (by intro z;cases z)) (aE gPh E3.bF.he (by intro z;cases z)) nPc (aE gPh hsd3 (by intro z;cases z)) gPh
  have keepT:∀ {G:Hp},(∀ c o,c≠ed->c≠dn->c≠de->c≠cl->c≠sd->G3 c=some o->G c=some o)->∀ c xs,G3 c=some (.tup xs)->G c=some (.tup xs):=fun f c xs e=>f _ _ (aE e he3 (by intro z;cases z)) (aE e E3.bF.hn (by intro z;cases z)) (aE e E3.bF.he (by intro z;cases z)) (aE e hcl3 (by intro z;cases z)) (aE e hsd3 (by intro z;cases z)) e
  have base:∀ {G:Hp},(∀ c o,c≠ed->c≠dn->c≠de->c≠cl->c≠sd->G3 c=some o->G c=some o)->aq H5 G:=fun f c o e=>f c o (fun z=>by rw[z,hed] at e;cases e) (fun z=>by rw[z,n5] at e;cases e) (fun z=>by rw[z,d5] at e;cases e) (fun z=>by rw[z,c5] at e;cases e) (fun z=>by rw[z,sd5] at e;cases e) (s53 _ _ e)
  clear hPh he3 hsd3 hcl3 E2 t1 g1 g1x fb fn fd' fc fs k2 h2 B2 hcl hsd hedx nedx t3
  cbv
  grind
  refine⟨by decide,by decide,vd (n:=300) (fun i σ G=>(∃ o,σ=[some (V.int v),some (V.str (Str.ofString "abcdefghijklmnopqrstuvwxyz")),some (V.ref ed),some (V.ref Ph),o,none,none,none,none])/\(∀ c o,c≠ed->c≠dn->c≠de->c≠cl->c≠sd->G3 c=some o->G c=some o)/\∃ es ch,iW Ad G ed b ca dn de cl sd es (fun _=>none) (if i=0 then 0 else 7) i ch/\es.map (·.num)=(List.range i).map (fun k:Nat=>(k:Int))/\es.map (·.key)=(List.range i).map cT) ⟨⟨_,rfl⟩,fun _ _ _ _ _ _ _ e=>e,[],[],E3,rfl,rfl⟩ ?_ ?_⟩
  ·rintro i σ G hi ⟨⟨o,rfl⟩,fr,es,ch,EG,en,ek⟩ N hNx
   clear hN
   obtain⟨p,hp1,hp2⟩:=ph i (by omega)
   have SG:=base fr
   obtain⟨dxi,hei⟩:=EG.eF
   have hl:es.length=i:=by have:=bu List.length en;simpa using this
   have kno:cT i∉es.map (·.key):=fun h=>by
    rw[ek] at h
    obtain⟨j,hj,e⟩:=aC.mp h
    have h1:=kH e
    have h2:=cY.mp hj
    omega
   have Lb:m5 (es.map (·.num)) (gw (fun _=>none) 7 (cT i)) i:=by
    rw[en]
    refine⟨by omega,fun h=>?_,rfl,fun m m0 m1=>.inl (aC.mpr ⟨m.toNat,cY.mpr (by omega),by omega⟩)⟩
    obtain⟨j,hj,e⟩:=aC.mp h
    have:=cY.mp hj
    omega
   rw[fE,Int.zero_add]
   and_intros
   have hpG:=keepT fr _ _ hp2
   refine⟨dxi,_,hei,rfl,_,.ref p,.l (keepP fr),bt hp1,ed,b,ca,dn,de,cl,sd,es,_,_,i,ch,[97,98,99,100,101,102,103],[1,2,1,2],v%7,.int 7,.ref p,.non,.int,rfl,EG,C5.same SG,ok,(s05.trans SG) _ _ Tb,(s05.trans SG) _ _ Tb1,rfl,dj hpG (cU (by omega)),⟨.non,rfl⟩,by omega,.inr ⟨7,rfl,by decide,by decide,by split<;>decide,.inr ⟨p,cT i,rfl,hpG,cU (by omega),.inr ⟨kno,.inr (.inr (.inr (.inl ⟨by omega,i,.inr ⟨rfl,Lb⟩,by rw[BQ];omega,fun G4 k4 E4=>?_⟩)))⟩⟩⟩⟩
   and_intros
   rw[if_neg (by simp)]
   refine hNx _ _ ⟨⟨_,rfl⟩,fun c o c1 c2 c3 c4 c5 e=>k4 c o c1 c2 c3 c4 (fr c o c1 c2 c3 c4 c5 e),_,_,by rw[if_neg (by omega)];exact E4,?_,?_⟩
   ·rw[b9,en,List.range_succ,b9];rfl
   ·rw[b9,ek,List.range_succ,b9];rfl
  rintro σ G ⟨⟨o,rfl⟩,fr,es,ch,EG,en,ek⟩
  show nn _ _ _
  cbv
  rw[if_neg (by decide)] at EG
  grind
  obtain⟨g,hg,g300⟩:∃ g:Nat,v/7%300=(g:Int)/\g<300:=⟨(v/7%300).toNat,by omega,by omega⟩
  refine⟨⟨by decide,by decide⟩,by decide,?_⟩
  rw[hg,hN]
  clear hN nn
  have hl:es.length=300:=by have:=bu List.length en;simpa using this
  have inN:∀ m:Int,m∈es.map (·.num)↔0<=m/\m<300:=fun m=>by
   rw[en,aC]
   refine⟨fun ⟨j,hj,e⟩=>?_,fun ⟨h0,h1⟩=>⟨m.toNat,cY.mpr (by omega),by show ((m.toNat:Nat):Int)=m;omega⟩⟩
   have h2:=cY.mp hj
   have h3:(j:Int)=m:=e
   omega
  have inK:∀ j:Nat,cT j∈es.map (·.key)↔j<300:=fun j=>by
   rw[ek,aC]
   refine⟨fun ⟨i,hi,e⟩=>?_,fun h=>⟨j,cY.mpr h,rfl⟩⟩
   have h1:=kH e
   have h2:=cY.mp hi
   omega
  obtain⟨pa,a1,a2⟩:=ph 300 (by decide)
  obtain⟨pb,b1,b2⟩:=ph 301 (by decide)
  obtain⟨pg,c1,c2⟩:=ph g (by omega)
  have gP:=keepP fr
  have a3:=keepT fr _ _ a2
  have b3:=keepT fr _ _ b2
  have c3:=keepT fr _ _ c2
  have SG:=base fr
  clear ph keepP keepT
  grind
  refine⟨_,.ref pa,.l gP,bt a1,?_⟩
  and_intros
  refine⟨big (by decide),fun q1 Ga _ ta u1=>⟨big (by decide),fun r1 Gb _ tb w1=>⟨big (by decide),fun q2 Gc _ tc u2=>⟨big (by decide),fun r2 Gd _ td w2=>⟨big (by decide),fun L1 Ge _ te gL1=>?_⟩⟩⟩⟩⟩
  have P1:Paired (Aw Ge) [V.ref r1,V.ref r2] [⟨.int 6,.ref pa,.non,0⟩,⟨.int 7,.non,.int 301,1⟩]:=.cons ⟨r1,q1,rfl,(tc.trans (td.trans te)) _ _ w1,(tb.trans (tc.trans (td.trans te))) _ _ u1⟩ (.cons ⟨r2,q2,rfl,te _ _ w2,(td.trans te) _ _ u2⟩ .nil)
  have tE:aq G Ge:=ta.trans (tb.trans (tc.trans (td.trans te)))
  clear u1 u2 w1 w2 ta tb tc td te
  cbv
  grind
  refine⟨_,.ref pg,.l (tE _ _ gP),bt c1,?_⟩
  and_intros
  refine⟨big (by decide),fun q1 Ga _ ta u1=>⟨big (by decide),fun r3 Gb _ tb w1=>⟨_,.ref pa,.l ((tE.trans (ta.trans tb)) _ _ gP),bt a1,?_⟩⟩⟩
  and_intros
  refine⟨big (by decide),fun q2 Gc _ tc u2=>⟨big (by decide),fun r4 Gd _ td w2=>⟨big (by decide),fun L2 Gf _ te gL2=>?_⟩⟩⟩
  and_intros
  refine⟨_,_,(ta.trans (tb.trans (tc.trans (td.trans te)))) _ _ gL1,gL2,big (by simp),fun L3 Gg _ tf gL3=>?_⟩
  have t2f:aq Ge Gg:=ta.trans (tb.trans (tc.trans (td.trans (te.trans tf))))
  have P2:Paired (Aw Gg) [V.ref r1,V.ref r2,V.ref r3,V.ref r4] [⟨.int 6,.ref pa,.non,0⟩,⟨.int 7,.non,.int 301,1⟩,⟨.int 7,.ref pg,.int 301,2⟩,⟨.int 7,.ref pa,.int g,3⟩]:=gA (oC P1 t2f) (.cons ⟨r3,q1,rfl,(tc.trans (td.trans (te.trans tf))) _ _ w1,(tb.trans (tc.trans (td.trans (te.trans tf)))) _ _ u1⟩ (.cons ⟨r4,q2,rfl,(te.trans tf) _ _ w2,(td.trans (te.trans tf)) _ _ u2⟩ .nil))
  have tG':=tE.trans t2f
  clear u1 u2 w1 w2 ta tb tc td te tf P1 gL1 gL2 t2f tE
  cbv
  grind
  refine⟨_,.ref pa,.l (tG' _ _ gP),bt a1,?_⟩
  and_intros
  refine⟨big (by decide),fun q1 Ga _ ta u1=>⟨big (by decide),fun r5 Gb _ tb w1=>⟨_,.ref pa,.l ((tG'.trans (ta.trans tb)) _ _ gP),bt a1,?_⟩⟩⟩
  and_intros
  refine⟨big (by decide),fun q2 Gc _ tc u2=>⟨big (by decide),fun r6 Gd _ td w2=>⟨big (by decide),fun L4 Gf _ te gL2=>?_⟩⟩⟩
  and_intros
  refine⟨_,_,(ta.trans (tb.trans (tc.trans (td.trans te)))) _ _ gL3,gL2,big (by simp),fun L5 Gh _ tf gL5=>?_⟩
  have t2f:aq Gg Gh:=ta.trans (tb.trans (tc.trans (td.trans (te.trans tf))))
  have P3:Paired (Aw Gh) [V.ref r1,V.ref r2,V.ref r3,V.ref r4,V.ref r5,V.ref r6] [⟨.int 6,.ref pa,.non,0⟩,⟨.int 7,.non,.int 301,1⟩,⟨.int 7,.ref pg,.int 301,2⟩,⟨.int 7,.ref pa,.int g,3⟩,⟨.int 7,.ref pa,.int 343,3⟩,⟨.int 7,.ref pa,.int 301,4⟩]:=gA (oC P2 t2f) (.cons ⟨r5,q1,rfl,(tc.trans (td.trans (te.trans tf))) _ _ w1,(tb.trans (tc.trans (td.trans (te.trans tf)))) _ _ u1⟩ (.cons ⟨r6,q2,rfl,(te.trans tf) _ _ w2,(td.trans (te.trans tf)) _ _ u2⟩ .nil))
  have tH:=tG'.trans t2f
  clear u1 u2 w1 w2 ta tb tc td te tf P2 gL2 gL3 t2f tG'
  cbv
  grind
  refine⟨_,.ref pa,.l (tH _ _ gP),bt a1,?_⟩
  and_intros
  refine⟨big (by decide),fun q1 Ga _ ta u1=>⟨big (by decide),fun r7 Gb _ tb w1=>⟨big (by decide),fun L6 Gc _ tc gL6=>⟨_,_,(ta.trans (tb.trans tc)) _ _ gL5,gL6,big (by simp),fun L7 Gd _ td gL7=>?_⟩⟩⟩⟩
  have t2f:aq Gh Gd:=ta.trans (tb.trans (tc.trans td))
  have P4:=gA (oC P3 t2f) (.cons (a:=V.ref r7) (b:=(⟨.int 7,.ref pa,.non,4⟩:Ax)) ⟨r7,q1,rfl,(tc.trans td) _ _ w1,(tb.trans (tc.trans td)) _ _ u1⟩ .nil)
  have tI:=tH.trans t2f
  clear u1 w1 ta tb tc td P3 gL5 gL6 t2f tH
  have EI:=EG.same tI
  have SI:=SG.trans tI
  have a4:=tI _ _ a3
  have b4:=tI _ _ b3
  have c4:=tI _ _ c3
  have gPI:=tI _ _ gP
  clear a3 b3 c3 gP
  have numOf:∀ e∈es,∃ i:Nat,i<300/\e.num=(i:Int)/\e.key=cT i:=fun e he=>by
   obtain⟨i,hi⟩:=List.getElem?_of_mem he
   have il:i<300:=by have:=(bK.mp hi).1;omega
   have h1:=bu (fun l=>l[i]?) en
   have h2:=bu (fun l=>l[i]?) ek
   simp only[List.getElem?_map,hi,List.getElem?_range il,lQ] at h1 h2
   exact⟨i,il,Option.some.inj h1,Option.some.inj h2⟩
  have n300:cT 300∉es.map (·.key):=fun h=>by have:=(inK 300).mp h;omega
  refine .inl ⟨⟨_,.of gL7⟩,fH (xs:=[V.ref r1,V.ref r2,V.ref r3,V.ref r4,V.ref r5,V.ref r6]++[V.ref r7]) (fun i σ G'=>(∃ o7 o8,σ=[some (V.int v),some (V.str (Str.ofString "abcdefghijklmnopqrstuvwxyz")),some (V.ref ed),some (V.ref Ph),o,some (V.int (g:Int)),some (V.ref L5),o7,o8])/\aq Gd G') ⟨⟨_,_,rfl⟩,aq.refl _⟩ (fun i σ G' _ ⟨_,tG⟩=>.of (tG _ _ gL7)) ?_ ?_⟩
  ·rintro i w σ G' hi ⟨⟨o7,o8,rfl⟩,tG⟩ N hNx
   clear hN
   obtain⟨a,ha,p,q,rfl,h1,h2⟩:=cE P4 hi
   have a5:=tG _ _ a4
   have c5':=tG _ _ c4
   have askA:jT G' (.ref pa):=dj a5 (cU (by decide))
   have hod:a.j<5/\Odd G' es (fun _=>none) 7 (dP [97,98,99,100,101,102,103] [1,2,1,2]) a.dv a.x a.y a.j/\a.y≠.str ("strike":Str)/\jT G' a.x/\(∃ td,cz G' a.dv=some td)/\∃ ty,cz G' a.y=some ty:=by
    have hm:=bp ha
    rw[BQ]
    simp only[eT,eX,aD,bM,bN] at hm
    rcases hm with rfl | rfl | rfl | rfl | rfl | rfl | rfl
    ·exact⟨(show (0:Nat)<5 by decide),.day _ _ _ (.inr ⟨6,rfl,by decide⟩) (by intro z;cases z),(by intro z;cases z),askA,⟨_,rfl⟩,⟨_,rfl⟩⟩
    ·exact⟨(show (1:Nat)<5 by decide),.ent 7 _ _ (by decide) (by decide) rfl (by intro z;cases z),(by intro z;cases z),⟨⟨_,rfl⟩,fun p xs e=>by cases e⟩,⟨_,rfl⟩,⟨_,rfl⟩⟩
    ·exact⟨(show (2:Nat)<5 by decide),.twice pg (cT g) _ c5' (cU (by omega)) ((inK g).mpr g300) (by intro z;cases z),(by intro z;cases z),dj c5' (cU (by omega)),⟨_,rfl⟩,⟨_,rfl⟩⟩
    ·exact⟨(show (3:Nat)<5 by decide),.num pa (cT 300) _ a5 (cU (by decide)) n300 (by intro z;cases z) (by intro z;cases z) (.inr ⟨g,rfl,by omega,by omega,.inl ((inN g).mpr ⟨by omega,by omega⟩)⟩),(by intro z;cases z),askA,⟨_,rfl⟩,⟨_,rfl⟩⟩
    ·exact⟨(show (3:Nat)<5 by decide),.num pa (cT 300) _ a5 (cU (by decide)) n300 (by intro z;cases z) (by intro z;cases z) (.inl (show bj 343 (.int 343)=false by decide)),(by intro z;cases z),askA,⟨_,rfl⟩,⟨_,rfl⟩⟩
    ·exact⟨(show (4:Nat)<5 by decide),.many pa (cT 300) _ a5 (cU (by decide)) n300 (by intro z;cases z) (by omega) (.inr ⟨301,rfl,by decide,by decide,fun h=>by have:=(inN 301).mp h;omega,rfl⟩),(by intro z;cases z),askA,⟨_,rfl⟩,⟨_,rfl⟩⟩
    ·exact⟨(show (4:Nat)<5 by decide),.many pa (cT 300) _ a5 (cU (by decide)) n300 (by intro z;cases z) (by omega) (.inl rfl),(by intro z;cases z),askA,⟨_,rfl⟩,⟨_,rfl⟩⟩
   obtain⟨j5,od,hs,ask,⟨td,htd⟩,ty,hty⟩:=hod
   have E':=EI.same tG
   obtain⟨dxe,hee⟩:=E'.eF
   have S':=SI.trans tG
   refine⟨p,_,rfl,.of (tG _ _ h1),rfl,?_⟩
   and_intros
   refine⟨ed,q,_,a.dv,a.x,a.y,rfl,tG _ _ h2,⟨dxe,_,hee,rfl,rfl⟩,.inr ⟨rfl,⟨ty,hty⟩,qh od hs E' (C5.same S') ok ((s05.trans S') _ _ Tb) ((s05.trans S') _ _ Tb1) htd ask hty (by decide) (by decide) (by decide) fun G3 t3=>⟨a.j,j5,rfl,rfl,fun G4 t4=>?_⟩⟩⟩
   and_intros
   rw[if_neg (by simp)]
   exact hNx _ _ ⟨⟨_,_,rfl⟩,tG.trans (t3.trans t4)⟩
  rintro σ G' ⟨⟨o7,o8,rfl⟩,tG⟩
  show nn _ _ _
  rw[hN]
  clear hN nn P4 gL7
  have E':=EI.same tG
  have S':=SI.trans tG
  have a5:=tG _ _ a4
  have b5:=tG _ _ b4
  have c5':=tG _ _ c4
  have gP':=tG _ _ gPI
  obtain⟨dxe,hee⟩:=E'.eF
  clear EI SI a4 b4 c4 gPI
  grind
  refine⟨dxe,_,hee,rfl,_,.ref pg,.l gP',bt c1,ed,b,ca,dn,de,cl,sd,es,_,7,300,ch,.int 8,.ref pg,.int,rfl,E',rfl,dj c5' (cU (by omega)),by decide,.inr ⟨8,rfl,by decide,by decide,by decide,.inr ⟨pg,cT g,rfl,c5',cU (by omega),fun e he ekk G3 k3 E3=>?_,fun hn=>absurd ((inK g).mpr g300) hn⟩⟩⟩
  obtain⟨i,i300,e1,e2⟩:=numOf e he
  obtain rfl:g=i:=(kH (e2.symm.trans ekk)).symm
  rw[e1,e2] at E3
  rw[e1]
  and_intros
  rw[if_neg (by simp)]
  show nn _ _ _
  cbv
  obtain⟨cse,hcle,_⟩:=E'.cF
  obtain⟨kve,hsde,_⟩:=E'.sF
  have tup3:∀ c xs,G' c=some (.tup xs)->G3 c=some (.tup xs):=fun c xs z=>k3 _ _ (aE z hee (by intro z;cases z)) (aE z E'.bF.hn (by intro z;cases z)) (aE z E'.bF.he (by intro z;cases z)) (aE z hcle (by intro z;cases z)) (aE z hsde (by intro z;cases z)) z
  have fr3:∀ {G4:Hp},aq G3 G4->aq H5 G4:=fun {G4} t4 c o z=>t4 _ _ (k3 c o (fun y=>by rw[y,hed] at z;cases z) (fun y=>by rw[y,n5] at z;cases z) (fun y=>by rw[y,d5] at z;cases z) (fun y=>by rw[y,c5] at z;cases z) (fun y=>by rw[y,sd5] at z;cases z) (S' _ _ z))
  have gP3:=k3 _ _ (aE gP' hee (by intro z;cases z)) (aE gP' E'.bF.hn (by intro z;cases z)) (aE gP' E'.bF.he (by intro z;cases z)) nPc (aE gP' hsde (by intro z;cases z)) gP'
  have a6:=tup3 _ _ a5
  have b6:=tup3 _ _ b5
  have hmp:(es.filter fun x=>decide (x.num≠(g:Int))).map (·.num)=(es.map (·.num)).filter fun m=>decide (m≠(g:Int)):=by rw[jH];rfl
  have inN1:∀ m:Int,m∈(es.filter fun x=>decide (x.num≠(g:Int))).map (·.num)↔0<=m/\m<300/\m≠g:=fun m=>by
   rw[hmp,dF,inN,cZ]
   exact and_assoc
  have l1:(es.filter fun x=>decide (x.num≠(g:Int))).length=299:=by
   have h1:=bu List.length hmp
   rw[List.length_map] at h1
   have h2:(es.map (·.num)).filter (fun m=>decide (m≠(g:Int)))=(es.map (·.num)).erase (g:Int):=by
    rw[List.Nodup.erase_eq_filter E'.bF.nn]
    exact lF fun m _=>by rw[bne_eq,decide_not];rfl
   rw[h1,h2,List.length_erase_of_mem ((inN g).mpr ⟨by omega,by omega⟩),List.length_map,hl]
  have noK1:∀ j:Nat,300<=j->cT j∉(es.filter fun x=>decide (x.num≠(g:Int))).map (·.key):=fun j hj h=>by
   obtain⟨e,he,ee⟩:=aC.mp h
   have:=(inK j).mp (aC.mpr ⟨e,(dF.mp he).1,ee⟩)
   omega
  have barG:∀ j:Nat,300<=j->gw (fun i=>if i=(g:Int) then some (8,cT g) else none) 8 (cT j) g=true:=fun j hj=>by
   rw[uJ (d:=8) (k:=cT g) (if_pos rfl),decide_eq_false (fun z=>by have:=kH z;omega)]
   rfl
  have M7:=BQ
  clear inN inK numOf n300 en ek hmp a5 b5 c5' gP' E' S' tup3
  generalize (es.filter fun x=>decide (x.num≠(g:Int)))=es1 at E3 inN1 l1 noK1
  grind
  refine⟨_,.ref pa,.l gP3,bt a1,big (by decide),fun q1 G4 _ t4 g4=>?_⟩
  and_intros
  have E4:=E3.same t4
  obtain⟨dx4,he4⟩:=E4.eF
  have S4:=fr3 t4
  refine⟨ed,q1,_,.int 8,.ref pa,.int g,rfl,g4,⟨dx4,_,he4,rfl,rfl⟩,.inr ⟨rfl,⟨.int,rfl⟩,qh (j:=3) (.num pa (cT 300) _ (t4 _ _ a6) (cU (by decide)) (noK1 300 (by omega)) (by intro z;cases z) (by intro z;cases z) (.inr ⟨g,rfl,by omega,by rw[M7];omega,.inr (barG 300 (by omega))⟩)) (by intro z;cases z) E4 (C5.same S4) ok ((s05.trans S4) _ _ Tb) ((s05.trans S4) _ _ Tb1) rfl (dj (t4 _ _ a6) (cU (by decide))) rfl (by decide) (by decide) (by decide) fun G5 t5=>⟨3,by decide,rfl,rfl,fun G6 t6=>?_⟩⟩⟩
  and_intros
  rw[if_neg (by decide)]
  show nn _ _ _
  cbv
  have t36:=t4.trans (t5.trans t6)
  grind
  refine⟨_,.ref pb,.l (t36 _ _ gP3),bt b1,big (by decide),fun q2 G7 _ t7 g7=>?_⟩
  and_intros
  have t37:=t36.trans t7
  have E7:=E3.same t37
  obtain⟨dx7,he7⟩:=E7.eF
  have S7:=fr3 t37
  have Lb:m5 (es1.map (·.num)) (gw (fun i=>if i=(g:Int) then some (8,cT g) else none) 8 (cT 301)) 300:=⟨by decide,fun h=>by have:=(inN1 300).mp h;omega,qp (if_neg (by omega)),fun m m0 m1=>by
   by_cases hm:m=g
   ·rw[hm];exact .inr (barG 301 (by omega))
   ·exact .inl ((inN1 m).mpr ⟨m0,m1,hm⟩)⟩
  refine⟨ed,q2,_,.int 8,.ref pb,.non,rfl,g7,⟨dx7,_,he7,rfl,rfl⟩,.inr ⟨rfl,⟨.non,rfl⟩,ed,b,ca,dn,de,cl,sd,es1,_,8,301,_,_,_,v%7,.int 8,.ref pb,.non,.int,rfl,E7,C5.same S7,ok,(s05.trans S7) _ _ Tb,(s05.trans S7) _ _ Tb1,rfl,dj (t37 _ _ b6) (cU (by decide)),⟨.non,rfl⟩,by decide,.inr ⟨8,rfl,by decide,by decide,by decide,.inr ⟨pb,cT 301,rfl,t37 _ _ b6,cU (by decide),.inr ⟨noK1 301 (by omega),.inr (.inr (.inr (.inl ⟨by omega,300,.inr ⟨rfl,Lb⟩,by rw[M7];decide,fun G8 k8 E8=>?_⟩)))⟩⟩⟩⟩⟩
  and_intros
  rw[if_neg (by decide)]
  show nn _ _ _
  cbv
  obtain⟨cs7,hcl7,_⟩:=E7.cF
  have gP7:=t37 _ _ gP3
  have a7:=t37 _ _ a6
  obtain⟨kv7,hsd7,_⟩:=E7.sF
  have gP8:=k8 _ _ (aE gP7 he7 (by intro z;cases z)) (aE gP7 E7.bF.hn (by intro z;cases z)) (aE gP7 E7.bF.he (by intro z;cases z)) nPc gP7
  have a8:=k8 _ _ (aE a7 he7 (by intro z;cases z)) (aE a7 E7.bF.hn (by intro z;cases z)) (aE a7 E7.bF.he (by intro z;cases z)) (aE a7 hcl7 (by intro z;cases z)) a7
  have S8:aq H5 G8:=fun c o z=>k8 c o (fun y=>by rw[y,hed] at z;cases z) (fun y=>by rw[y,n5] at z;cases z) (fun y=>by rw[y,d5] at z;cases z) (fun y=>by rw[y,c5] at z;cases z) (S7 _ _ z)
  have noK2:cT 300∉(es1++[(⟨300,cT 301,pb⟩:Ben)]).map (·.key):=fun h=>by
   rw[b9,bL] at h
   rcases h with h | h
   ·exact noK1 300 (by omega) h
   ·have:=kH (bc.mp h)
    omega
  and_intros
  refine⟨_,.ref pa,.l gP8,bt a1,big (by decide),fun q3 G9 _ t9 g9=>?_⟩
  and_intros
  have E9:=E8.same t9
  obtain⟨dx9,he9⟩:=E9.eF
  have S9:=S8.trans t9
  refine⟨ed,q3,_,.int 8,.ref pa,.non,rfl,g9,⟨dx9,_,he9,rfl,rfl⟩,.inr ⟨rfl,⟨.non,rfl⟩,qh (j:=4) (.many pa (cT 300) _ (t9 _ _ a8) (cU (by decide)) noK2 (by intro z;cases z) (by rw[bb,l1];exact ai 300) (.inl rfl)) (by intro z;cases z) E9 (C5.same S9) ok ((s05.trans S9) _ _ Tb) ((s05.trans S9) _ _ Tb1) rfl (dj (t9 _ _ a8) (cU (by decide))) rfl (by decide) (by decide) (by decide) fun G10 t10=>⟨4,by decide,rfl,rfl,fun G11 t11=>?_⟩⟩⟩
  and_intros
  exact k G11 (s05.trans (S9.trans (t10.trans t11)))
theorem yo {K:PySem.W.Frag}{D1 D2:Addr}{ws1 ws2:List V}{ms:List Ben} (g1:H D1=some (.lst ws1)) (g2:H D2=some (.lst ws2)) (P1:Paired (fun v (m:Ben)=>∃ p,v=V.ref p/\H p=some (.tup [.int m.num,.ref m.adr])) ws1 ms)
  (P2:Paired (fun v (m:Ben)=>∃ p,v=V.ref p/\H p=some (.tup [.int m.num,.ref m.adr])) ws2 ms):RcR K H 1 (.ref D1) (.ref D2) true:=by
 refine⟨D1,D2,rfl,rfl,.inl ⟨ws1,ws2,.of g1,.of g2,.inr ⟨(Paired.length P1).trans (Paired.length P2).symm,fun _=>true,fun i x y e1 e2=>?_,(ck.mpr fun _ _=>rfl).symm⟩⟩⟩
 obtain⟨m1,f1,p1,rfl,h1⟩:=cE P1 e1
 obtain⟨m2,f2,p2,rfl,h2⟩:=cE P2 e2
 rw[f1] at f2
 cases f2
 by_cases e:p1=p2
 ·subst e;exact .same rfl
 ·refine EqR.tup (K:=K) (H:=H) (n:=0) (fun _=>true) e (.of h1) (.of h2) (fun j u v a1 a2=>?_)
  rw[a1] at a2
  cases a2
  match j,a1 with
  | 0,a1=>cases a1;exact .same rfl
  | 1,a1=>cases a1;exact .same rfl
theorem pH {ms ms':List Ben} (h1:(ms.map (·.num)).Pairwise (·<·)) (h2:(ms'.map (·.num)).Pairwise (·<·)) (hp:ms.Perm ms'):ms=ms' :=
 List.Perm.eq_of_pairwise (le:=fun a b:Ben=>a.num<b.num) (fun a b _ _ h1 h2=>absurd h2 (by omega)) (lL.mp h1) (lL.mp h2) hp
theorem StA.keep {Ad:Ads}{H H':Hp}{ed b ca dn de cl sd st nw sk lg:Addr}{es es2:List Ben}{lk lk2:Lk}{l0 l2:Int}{m m2:Nat}{gs:List Lge}{ch:List Chg} (h:StA H st nw sk lg es lk l0 m gs) (E:iW Ad H ed b ca dn de cl sd es2 lk2 l2 m2 ch) (ap:∀ c∈[ed,b,dn,de,cl,sd],∀ c'∈[st,nw,sk,lg],c'≠c)
  (k:∀ c o,c≠ed->c≠dn->c≠de->c≠cl->c≠sd->H c=some o->H' c=some o):StA H' st nw sk lg es lk l0 m gs/\∀ c xs,H c=some (.tup xs)->H' c=some (.tup xs):=by
 obtain⟨dx,he⟩:=E.eF
 obtain⟨cs,hcl,_⟩:=E.cF
 obtain⟨kv2,hsd,_⟩:=E.sF
 have tup:∀ c xs,H c=some (.tup xs)->H' c=some (.tup xs):=fun c xs e=>k c _ (aE e he (by intro z;cases z)) (aE e E.bF.hn (by intro z;cases z)) (aE e E.bF.he (by intro z;cases z)) (aE e hcl (by intro z;cases z)) (aE e hsd (by intro z;cases z)) e
 have at_:∀ c∈[st,nw,sk,lg],∀ o,H c=some o->H' c=some o:=fun c hc o e=>k c o (ap ed (by simp) c hc) (ap dn (by simp) c hc) (ap de (by simp) c hc) (ap cl (by simp) c hc) (ap sd (by simp) c hc) e
 obtain⟨h1,h2,⟨kvs,h3,h4,h5⟩,⟨ls,h6,h7,h8,h8'⟩,h9,h10,h11,h12⟩:=h
 exact⟨⟨at_ _ (by simp) _ h1,at_ _ (by simp) _ h2,⟨kvs,at_ _ (by simp) _ h3,h4.past tup,h5⟩,⟨ls,at_ _ (by simp) _ h6,h7,h8.imp id fun ⟨t,a,b,c,e,e2⟩=>⟨t,a,b,c,e,tup _ _ e2⟩,nz h8' tup⟩,fun e he=>⟨tup _ _ (h9 e he).1,(h9 e he).2⟩,h10,h11,h12⟩,tup⟩
theorem iW.keep {Ad:Ads}{H H':Hp}{ed b ca dn de cl sd st nw sk lg:Addr}{es es2:List Ben}{lk lk2:Lk}{l0 l2:Int}{m m2:Nat}{gs:List Lge}{ch:List Chg} (E:iW Ad H ed b ca dn de cl sd es lk l0 m ch) (h:StA H st nw sk lg es2 lk2 l2 m2 gs) (ap:∀ c∈[ed,b,dn,de,cl,sd],∀ c'∈[st,nw,sk,lg],c'≠c)
  (k:∀ c o,c≠nw->c≠sk->c≠lg->H c=some o->H' c=some o):iW Ad H' ed b ca dn de cl sd es lk l0 m ch/\∀ c xs,H c=some (.tup xs)->H' c=some (.tup xs):=by
 obtain⟨kv2,hsk,_⟩:=h.k
 obtain⟨ls2,hlg,_⟩:=h.g
 have tup:∀ c xs,H c=some (.tup xs)->H' c=some (.tup xs):=fun c xs e=>k c _ (aE e h.n (by intro z;cases z)) (aE e hsk (by intro z;cases z)) (aE e hlg (by intro z;cases z)) e
 have at_:∀ c∈[ed,b,dn,de,cl,sd],∀ o,H c=some o->H' c=some o:=fun c hc o e=>k c o (ap c hc nw (by simp)).symm (ap c hc sk (by simp)).symm (ap c hc lg (by simp)).symm e
 obtain⟨⟨dx,h1⟩,⟨⟨bx,b1⟩,b2,b3,b4,b5,b6⟩,⟨cs,h3,h4,h4'⟩,⟨kvs,h5,h6,h7⟩,h8⟩:=E
 exact⟨⟨⟨dx,at_ _ (by simp) _ h1⟩,⟨⟨bx,at_ _ (by simp) _ b1⟩,at_ _ (by simp) _ b2,at_ _ (by simp) _ b3,fun e he=>tup _ _ (b4 e he),b5,b6⟩,⟨cs,at_ _ (by simp) _ h3,h4,kD h4' tup⟩,⟨kvs,at_ _ (by simp) _ h5,h6.past tup,h7⟩,h8⟩,tup⟩
structure KI (Ad:Ads) (G:Hp) (ed b ca dn de cl sd st nw sk lg:Addr) (M:Int) (i:Nat) (es:List Ben) (lk:Lk) (l0:Int) (m:Nat) (gs:List Lge):Prop where
 E:iW Ad G ed b ca dn de cl sd es lk l0 m (gs.map eS)
 S:StA G st nw sk lg es lk l0 m gs
 mi:m<=i
 er:es=fD gs
 ro:iJ gs
 up:(gs.map (·.day)).Pairwise (·<=·)
 lo:∀ l∈gs,l.day<=l0
 gp:∀ l∈gs,G l.adr=some (.tup (l.key.map kV))/\dI l.key/\0<=l.num/\l.num<M
 gl:es.length<=i
 lM:∀ n,M<=n->lk n=none
theorem KI.same {Ad:Ads}{G G':Hp}{ed b ca dn de cl sd st nw sk lg:Addr}{M:Int}{i j:Nat}{es:List Ben}{lk:Lk}{l0:Int}{m:Nat}{gs:List Lge} (h:KI Ad G ed b ca dn de cl sd st nw sk lg M i es lk l0 m gs) (t:aq G G') (ij:i<=j):KI Ad G' ed b ca dn de cl sd st nw sk lg M j es lk l0 m gs :=
 ⟨h.E.same t,h.S.same t,bA h.mi ij,h.er,h.ro,h.up,h.lo,fun l hl=>⟨t _ _ (h.gp l hl).1,(h.gp l hl).2⟩,bA h.gl ij,h.lM⟩
theorem KI.step {Ad:Ads}{G G':Hp}{ed b ca dn de cl sd st nw sk lg:Addr}{es:List Ben}{lk lk':Lk}{gs:List Lge} (h:KI Ad G ed b ca dn de cl sd st nw sk lg M i es lk l0 m gs) (g:Lge) (hd:l0<=g.day) (hs:g.str=true->g.num∈es.map (·.num)) (hp:g.str=false->g.num∉es.map (·.num)/\g.key∉es.map (·.key)) (hn:0<=g.num/\g.num<M)
  (tup:∀ c xs,G c=some (.tup xs)->G' c=some (.tup xs)) (ht:G g.adr=some (.tup (g.key.map kV))) (eo:dI g.key) (E':iW Ad G' ed b ca dn de cl sd (eI es g) lk' g.day (m+1) ((gs++[g]).map eS)) (S':StA G' st nw sk lg (eI es g) lk' g.day (m+1) (gs++[g])) (hl:∀ n,n≠g.num->lk' n=lk n):KI Ad G' ed b ca dn de cl sd st nw sk lg M (i+1) (eI es g) lk' g.day (m+1) (gs++[g]):=by
 refine⟨E',S',by have:=h.mi;omega,by rw[j9,←h.er],.snoc h.ro (fun z=>by rw[←h.er];exact hs z) (fun z=>by rw[←h.er];exact hp z),?_,fun l hl'=>?_,fun l hl'=>?_,?_,fun n hn'=>by rw[hl n (by omega)];exact h.lM n hn'⟩
 ·rw[b9]
  refine List.pairwise_append.mpr ⟨h.up,List.pairwise_singleton _ _,fun a ha c hc=>?_⟩
  obtain⟨l,hl1,rfl⟩:=aC.mp ha
  rw[bc.mp hc]
  exact Int.le_trans (h.lo l hl1) hd
 ·rcases bL.mp hl' with hl' | hl'
  ·exact Int.le_trans (h.lo l hl') hd
  ·rw[bc.mp hl'];exact eJ _
 ·rcases bL.mp hl' with hl' | hl'
  ·exact⟨tup _ _ (h.gp l hl').1,(h.gp l hl').2⟩
  ·rw[bc.mp hl'];exact⟨tup _ _ ht,eo,hn⟩
 ·have:=h.gl
  unfold eI
  split
  ·exact bA (jK _ _) (by omega)
  ·rw[bb];show es.length+1<=_;omega
theorem oK:∀ (gs:List Lge) (es:List Ben),(gs.foldl eI es).length<=es.length+gs.length
 | [],_=>ai _
 | l::gs,es=>by
  have h:=oK gs (eI es l)
  have:(eI es l).length<=es.length+1:=by
   unfold eI
   split
   ·exact bA (jK _ _) (by omega)
   ·rw[bb];exact ai _
  rw[List.foldl_cons,br]
  omega
theorem tT (day:Int):∀ {gs:List Lge},(gs.map (·.day)).Pairwise (·<=·)->∃ j:Nat,∀ (i:Nat) l,gs[i]?=some l->(l.day<=day↔i<j)
 | [],_=>⟨0,fun i l h=>by simp at h⟩
 | x::gs,h=>by
  rw[bz,List.pairwise_cons] at h
  by_cases hx:x.day<=day
  ·obtain⟨j,hj⟩:=tT day h.2
   refine⟨j+1,fun i l hi=>?_⟩
   cases i with
   | zero=>cases hi;exact⟨fun _=>by omega,fun _=>hx⟩
   | succ i=>rw[hj i l hi];omega
  ·refine⟨0,fun i l hi=>⟨fun z=>absurd z ?_,fun z=>by omega⟩⟩
   cases i with
   | zero=>cases hi;exact hx
   | succ i =>
    have:=h.1 l.day (eK (bp hi))
    omega
theorem AX (ns:List Int) (a b:Nat):∃ l:List Int,pO (ns.map V.int) (some (a:Int)) (some (b:Int))=l.map V.int/\l.length<=b-a:=by
 refine⟨(ns.drop (min a ns.length)).take (min b ns.length-min a ns.length),?_,?_⟩
 ·unfold pO
  rw[HT.u7,HT.u7,List.length_map,List.map_take,List.map_drop]
 ·rw[gI,dE]
  omega
def FrK (ed dn de cl sd nw sk lg:Addr) (G G':Hp):Prop:=∀ c o,c≠ed->c≠dn->c≠de->c≠cl->c≠sd->c≠nw->c≠sk->c≠lg->G c=some o->G' c=some o
theorem FrK.tup {Ad:Ads}{G G':Hp}{ed b ca dn de cl sd st nw sk lg:Addr}{M:Int}{i:Nat}{es:List Ben}{lk:Lk}{l0:Int}{m:Nat}{gs:List Lge} (f:FrK ed dn de cl sd nw sk lg G G') (I:KI Ad G ed b ca dn de cl sd st nw sk lg M i es lk l0 m gs):∀ c xs,G c=some (.tup xs)->G' c=some (.tup xs):=fun c xs e=>by
 obtain⟨dx,he⟩:=I.E.eF
 obtain⟨cs,hcl,_⟩:=I.E.cF
 obtain⟨kv2,hsd,_⟩:=I.E.sF
 obtain⟨kv3,hsk,_⟩:=I.S.k
 obtain⟨ls2,hlg,_⟩:=I.S.g
 exact f c _ (aE e he (by intro z;cases z)) (aE e I.E.bF.hn (by intro z;cases z)) (aE e I.E.bF.he (by intro z;cases z)) (aE e hcl (by intro z;cases z)) (aE e hsd (by intro z;cases z)) (aE e I.S.n (by intro z;cases z)) (aE e hsk (by intro z;cases z)) (aE e hlg (by intro z;cases z)) e
theorem GD {es:List Ben}{lk:Lk}{day n:Int} (h:gX es lk day key n=true):n∉es.map (·.num)/\gw lk day key n=false:=by
 unfold gX at h
 rw[cf] at h
 exact⟨fun z=>by rw[decide_eq_true z] at h;exact absurd h.1 (by decide),by cases hb:gw lk day key n with | false=>rfl | true=>rw[hb] at h;exact absurd h.2 (by decide)⟩
theorem Bw {es:List Ben}{lk:Lk}{day n:Int} (h:gX es lk day key n=false):n∈es.map (·.num)∨gw lk day key n=true:=by
 unfold gX at h
 by_cases hj:n∈es.map (·.num)
 ·exact .inl hj
 ·rw[decide_eq_false hj] at h
  refine .inr ?_
  cases hb:gw lk day key n with
  | true=>rfl
  | false=>rw[hb] at h;exact absurd h (by decide)
structure Did (Ad:Ads) (G1 G:Hp) (ed b ca dn de cl sd:Addr) (M:Int) (es:List Ben) (lk:Lk) (m:Nat) (gs:List Lge) (g:Lge):Prop where
 E:iW Ad G ed b ca dn de cl sd (eI es g) (if g.str then (fun i=>if i=g.num then some (g.day,g.key) else lk i) else lk) g.day (m+1) ((gs++[g]).map eS)
 k:∀ c o,c≠ed->c≠dn->c≠de->c≠cl->c≠sd->G1 c=some o->G c=some o
 hs:g.str=true->∃ e∈es,e.num=g.num/\e.key=g.key
 hp:g.str=false->g.num∉es.map (·.num)/\g.key∉es.map (·.key)
 hn:0<=g.num/\g.num<M
theorem vo {tg:Tg} (h1:dm H v=false) (h2:cz H v=some tg) (h3:∀ p,v≠.ref p):dm H v=false/\jT H v:=⟨h1,⟨_,h2⟩,fun p xs e=>absurd e (h3 p)⟩
theorem Eo (h:H p=some (.lst xs)):dm H (.ref p)=false/\jT H (.ref p):=by
 refine⟨by show (match H p with | some (.tup xs)=>dX xs | _=>false)=false;rw[h],⟨.lst,by show i8 (H p)=_;rw[h];rfl⟩,fun q ys e hq=>?_⟩
 cases e
 rw[h] at hq;cases hq
theorem Ep {ss:List Str} (h:H p=some (.tup (ss.map V.str))) (h1:dX (ss.map V.str)=false) (h2:ss.length<=1000) (h3:∀ z∈ss,z.length<=10000):dm H (.ref p)=false/\jT H (.ref p):=by
 refine⟨by show (match H p with | some (.tup xs)=>dX xs | _=>false)=false;rw[h];exact h1,⟨.tup,by show i8 (H p)=_;rw[h];rfl⟩,fun q ys e hq=>?_⟩
 cases e
 rw[h] at hq;cases hq
 refine⟨by rw[List.length_map];exact h2,fun y hy=>?_⟩
 obtain⟨z,hz,rfl⟩:=aC.mp hy
 exact⟨⟨_,rfl⟩,fun z' e=>by cases e;exact h3 z hz⟩
theorem tV {m i:Int} (h:i<0∨m<=i):bj m (.int i)=false:=by
 show (decide (0<=i)&&decide (i<m))=false
 rcases h with h | h
 ·rw[decide_eq_false (show ¬ 0<=i by omega)];rfl
 ·rw[decide_eq_false (show ¬ i<m by omega)];exact Bool.and_false _
theorem kN (h:ju H x):dm H x=false/\jT H x:=by
 cases h with
 | non=>exact vo rfl rfl (fun p e=>by cases e)
 | str=>exact vo rfl rfl (fun p e=>by cases e)
 | lst h=>exact Eo h
 | @tup p ss h hs =>
  unfold Fq at hs
  simp only[aD,bM,bN] at hs
  rcases hs with rfl | rfl | rfl | rfl | rfl<;>exact Ep h (by decide) (by decide) (by decide)
theorem uH.odd {es:List Ben}{lk:Lk}{l0 M:Int}{dv x y:V}{due:Str} (h:uH H es l0 M dv x y due) (hes:∀ e∈es,H e.adr=some (.tup (e.key.map kV))/\dI e.key) (hnm:∀ e∈es,0<=e.num/\e.num<M) (z0:0<=l0) (z1:l0<=1000000):∃ j td ty,due=nmD j/\cz H dv=some td/\jT H x/\cz H y=some ty/\(∀ p,y=.ref p->∃ xs,H p=some (.lst xs))/\Odd H es lk l0 M dv x y j:=by
 have yy:∀ {y:V},(y=.non∨∃ n,y=.int n)->(∃ ty,cz H y=some ty)/\(∀ p,y=.ref p->∃ xs,H p=some (.lst xs))/\y≠.str ("strike":Str):=fun hy=>by
  rcases hy with rfl | ⟨n,rfl⟩
  ·exact⟨⟨_,rfl⟩,(fun p e=>by cases e),fun e=>by cases e⟩
  ·exact⟨⟨_,rfl⟩,(fun p e=>by cases e),fun e=>by cases e⟩
 cases h with
 | day _ _ h hx =>
  obtain⟨td,htd,hb⟩:∃ td,cz H dv=some td/\qm l0 dv:=by
   cases h with
   | int d h =>
    refine⟨_,rfl,?_⟩
    rcases h with h | h | h
    ·exact .inl (tV (.inl h))
    ·exact .inl (tV (.inr (by omega)))
    ·exact .inr ⟨d,rfl,h⟩
   | bl b=>exact⟨_,rfl,.inl rfl⟩
   | non=>exact⟨_,rfl,.inl rfl⟩
   | str z=>exact⟨_,rfl,.inl rfl⟩
   | lst h=>exact⟨.lst,by show i8 (H _)=_;rw[h];rfl,.inl rfl⟩
  refine⟨0,td,.non,rfl,htd,?_,rfl,(fun p e=>by cases e),.day _ _ _ hb (by intro z;cases z)⟩
  rcases hx with hx | ⟨t,key,rfl,ht,eo⟩
  ·exact (kN hx).2
  ·exact dj ht eo
 | ent d _ _ h0 h1 hx hy =>
  obtain⟨⟨ty,hty⟩,hl,hs⟩:=yy hy
  exact⟨1,.int,ty,rfl,rfl,(kN hx).2,hty,hl,.ent d _ _ h0 (by omega) (kN hx).1 hs⟩
 | twice e _ he hy =>
  obtain⟨⟨ty,hty⟩,hl,hs⟩:=yy hy
  exact⟨2,.int,ty,rfl,rfl,dj (hes e he).1 (hes e he).2,hty,hl,.twice e.adr e.key _ (hes e he).1 (hes e he).2 (eK he) hs⟩
 | num t key _ ht eo hk hy =>
  obtain⟨⟨ty,hty⟩,hl,hn,hs,hb⟩:(∃ ty,cz H y=some ty)/\(∀ p,y=.ref p->∃ xs,H p=some (.lst xs))/\y≠.non/\y≠.str ("strike":Str)/\(bj M y=false∨∃ n,y=.int n/\0<=n/\n<M/\(n∈es.map (·.num)∨gw lk l0 key n=true)):=by
   rcases hy with hy | ⟨e,he,rfl⟩
   ·cases hy with
    | int n h=>exact⟨⟨_,rfl⟩,(fun p e=>by cases e),(by intro z;cases z),(by intro z;cases z),.inl (tV h)⟩
    | bl b=>exact⟨⟨_,rfl⟩,(fun p e=>by cases e),(by intro z;cases z),(by intro z;cases z),.inl rfl⟩
    | str=>exact⟨⟨_,rfl⟩,(fun p e=>by cases e),(by intro z;cases z),(by decide),.inl rfl⟩
    | @lst p xs h=>exact⟨⟨.lst,by show i8 (H p)=_;rw[h];rfl⟩,(fun q e=>by cases e;exact⟨xs,h⟩),(by intro z;cases z),(by intro z;cases z),.inl rfl⟩
   ·exact⟨⟨_,rfl⟩,(fun p e=>by cases e),(by intro z;cases z),(by intro z;cases z),.inr ⟨_,rfl,(hnm e he).1,(hnm e he).2,.inl (eK he)⟩⟩
  exact⟨3,.int,ty,rfl,rfl,dj ht eo,hty,hl,.num t key _ ht eo hk hn hs hb⟩
 | strike _ hx =>
  refine⟨1,.int,.str,rfl,rfl,?_,rfl,(fun p e=>by cases e),.strike _ (hx.imp (fun hx=>(kN hx).1) id)⟩
  rcases hx with hx | ⟨t,key,rfl,ht,eo,_⟩
  ·exact (kN hx).2
  ·exact dj ht eo
theorem yj {K:PySem.W.Frag}{Ad:Ads}{G1:Hp}{ed b ca dn de cl sd st nw sk lg q t:Addr}{r M day l0:Int}{i m:Nat}{es:List Ben}{lk:Lk}{gs:List Lge}{y v:V}{Q:VK}{E:XK} (I1:KI Ad G1 ed b ca dn de cl sd st nw sk lg M i es lk l0 m gs) (hMM:dP al ws=M) (C1:gd Ad G1 ca al ws r) (ok:gO al ws r) (Tb:G1 Ad.tb=some (fX qO)) (Tb1:G1 Ad.tb1=some (fX ny)) (hq:G1 q=some (.tup [.str (if str then ("strike":Str) else ("put":Str)),.int day,.ref t,y])) (ht:G1 t=some (.tup (key.map kV))) (eo:dI key) (hl0d:l0<=day) (d0:0<=day) (d1:day<=1000000000) (hy:y=.non∨∃ n,y=.int n/\0<=n/\n<M) (i250:i<250) (M0:0<=M) (du:kB es lk M day key y str v)
  (hs:∀ s G2,v=V.str s->aq G1 G2->Q (.str s) G2) (hn:∀ n G2,v=V.int n->Did Ad G1 G2 ed b ca dn de cl sd M es lk m gs ⟨day,str,t,n,key⟩->Q (.int n) G2):gm K Ad [.ref ed,.ref q] G1 Q E:=by
 obtain⟨dx1,he1⟩:=I1.E.eF
 have E1:=I1.E
 have mi:=I1.mi
 have gl:=I1.gl
 have rn:(es.map (·.num)).Nodup/\(es.map (·.key)).Nodup:=by rw[I1.er];exact I1.ro.nn
 have ask:=dj ht eo
 have tY:∃ ty,cz G1 y=some ty:=by rcases hy with rfl | ⟨n,rfl,_⟩<;>exact⟨_,rfl⟩
 have rfs:∀ (j:Nat) (G2:Hp),j<5->v=V.str (nmD j)->aq G1 G2->EdN Ad Q (.ref (rV Ad j)) none G2:=fun j G2 j5 e t2=>⟨j,j5,rfl,rfl,fun G3 t3=>hs _ G3 e (t2.trans t3)⟩
 refine⟨ed,q,_,.int day,.ref t,y,rfl,hq,⟨dx1,_,he1,rfl,rfl⟩,?_⟩
 have strk:∀ {P:Prop},((∀ e∈es,e.key=key->∀ H',(∀ c o,c≠ed->c≠dn->c≠de->c≠cl->c≠sd->G1 c=some o->H' c=some o)->iW Ad H' ed b ca dn de cl sd (es.filter fun x=>decide (x.num≠e.num)) (fun i=>if i=e.num then some (day,e.key) else lk i) day (m+1) (gs.map eS++[⟨day,e.num,none⟩])->Q (.int e.num) H')/\(key∉es.map (·.key)->∀ H',aq G1 H'->EdN Ad Q (.ref Ad.NoEntry) none H'))->bJ Ad [.ref ed,.int day,.ref t] G1 Q (EdN Ad Q):=fun {_} h=>⟨ed,b,ca,dn,de,cl,sd,es,lk,l0,m,gs.map eS,.int day,.ref t,.int,rfl,E1,rfl,ask,by omega,.inr ⟨day,rfl,d0,d1,hl0d,.inr ⟨t,key,rfl,ht,eo,h⟩⟩⟩
 have putk:Chs Ad es (dP al ws) key y (gw lk day key) (fun c=>∀ H',aq G1 H'->EdN Ad Q (.ref c) none H') (fun n=>∀ H',(∀ c o,c≠ed->c≠dn->c≠de->c≠cl->G1 c=some o->H' c=some o)->iW Ad H' ed b ca dn de cl sd (es++[⟨n,key,t⟩]) lk day (m+1) (gs.map eS++[⟨day,n,some t⟩])->Q (.int n) H')->b7 Ad [.ref ed,.int day,.ref t,y] G1 Q (EdN Ad Q):=fun h=>⟨ed,b,ca,dn,de,cl,sd,es,lk,l0,m,gs.map eS,al,ws,r,.int day,.ref t,y,.int,rfl,E1,C1,ok,Tb,Tb1,rfl,ask,tY,by omega,.inr ⟨day,rfl,d0,d1,hl0d,.inr ⟨t,key,rfl,ht,eo,h⟩⟩⟩
 rw[hMM] at putk
 cases du with
 | no h=>exact .inl ⟨rfl,strk (P:=True) ⟨fun e he ek=>absurd (aC.mpr ⟨e,he,ek⟩) h,fun _ G2 t2=>rfs 1 G2 (by decide) rfl t2⟩⟩
 | out e he hk =>
  refine .inl ⟨rfl,strk (P:=True) ⟨fun e' he' ek G2 k2 E2=>?_,fun hn=>absurd (aC.mpr ⟨e,he,hk⟩) hn⟩⟩
  obtain rfl:=oM rn.2 he' he (ek.trans hk.symm)
  refine hn _ G2 rfl ⟨?_,k2,fun _=>⟨e',he,rfl,hk⟩,(fun z=>by cases z),?_⟩
  ·rw[b9,←hk];exact E2
  ·rw[I1.er] at he
   obtain⟨l,hl,rfl⟩:=mf he
   exact (I1.gp l hl).2.2
 | twice h=>exact .inr ⟨rfl,tY,putk (.inl ⟨h,fun G2 t2=>rfs 2 G2 (by decide) rfl t2⟩)⟩
 | num n h hy' h0 h1 hf =>
  obtain⟨f1,f2⟩:=GD hf
  exact .inr ⟨rfl,tY,putk (.inr ⟨h,.inr (.inr (.inr (.inl ⟨by omega,n,.inl ⟨hy',h0,f1,f2⟩,h1,fun G2 k2 E2=>hn _ G2 rfl ⟨by rw[b9];exact E2,fun c o c1 c2 c3 c4 _ z=>k2 c o c1 c2 c3 c4 z,(fun z=>by cases z),fun _=>⟨f1,h⟩,h0,h1⟩⟩)))⟩)⟩
 | nonum n h hy' h0 h1 hf=>exact .inr ⟨rfl,tY,putk (.inr ⟨h,.inr (.inl ⟨n,hy',h0,h1,Bw hf,fun G2 t2=>rfs 3 G2 (by decide) rfl t2⟩)⟩)⟩
 | least n h hy' hl h1=>exact .inr ⟨rfl,tY,putk (.inr ⟨h,.inr (.inr (.inr (.inl ⟨by omega,n,.inr ⟨hy',hl⟩,h1,fun G2 k2 E2=>hn _ G2 rfl ⟨by rw[b9];exact E2,fun c o c1 c2 c3 c4 _ z=>k2 c o c1 c2 c3 c4 z,(fun z=>by cases z),fun _=>⟨hl.out,h⟩,hl.pos,h1⟩⟩)))⟩)⟩
 | many h hy' hl =>
  have hMn:M∉es.map (·.num):=fun z=>by
   obtain⟨e,he,ee⟩:=aC.mp z
   rw[I1.er] at he
   obtain⟨l,hl',rfl⟩:=mf he
   have:=(I1.gp l hl').2.2.2
   have ee:l.num=M:=ee
   omega
  exact .inr ⟨rfl,tY,putk (.inr ⟨h,.inr (.inr (.inr (.inr ⟨by omega,hy',M,⟨M0,hMn,qp (I1.lM M (eJ _)),fun j j0 j1=>Bw (hl j j0 j1)⟩,eJ _,fun G2 t2=>rfs 4 G2 (by decide) rfl t2⟩)))⟩)⟩
theorem vj {K:PySem.W.Frag}{Ad:Ads}{G1 G2:Hp}{ed b ca dn de cl sd st nw sk lg q t:Addr}{M day n l0:Int}{i m:Nat}{es:List Ben}{lk:Lk}{gs:List Lge}{Q:VK}{E:XK} (I1:KI Ad G1 ed b ca dn de cl sd st nw sk lg M i es lk l0 m gs) (ap:∀ c∈[ed,b,dn,de,cl,sd],∀ c'∈[st,nw,sk,lg],c'≠c) (hq:G1 q=some (.tup [.str (if str then ("strike":Str) else ("put":Str)),.int day,.ref t,y])) (ht:G1 t=some (.tup (key.map kV))) (eo:dI key) (hl0d:l0<=day) (i250:i<250) (dd:Did Ad G1 G2 ed b ca dn de cl sd M es lk m gs ⟨day,str,t,n,key⟩)
  (hk:∀ lk' es' G3,KI Ad G3 ed b ca dn de cl sd st nw sk lg M (i+1) es' lk' day (m+1) (gs++[⟨day,str,t,n,key⟩])->FrK ed dn de cl sd nw sk lg G1 G3->Q .non G3):iU K [.ref st,.ref q,.int n] G2 Q E:=by
 obtain⟨S2,tup2⟩:=I1.S.keep I1.E ap dd.k
 have mi:=I1.mi
 have gl:=I1.gl
 have fin:∀ G3,(∀ c o,c≠nw->c≠sk->c≠lg->G2 c=some o->G3 c=some o)->StA G3 st nw sk lg (eI es ⟨day,str,t,n,key⟩) (if str then (fun i=>if i=n then some (day,key) else lk i) else lk) day (m+1) (gs++[⟨day,str,t,n,key⟩])->Q .non G3:=fun G3 k3 S3=>by
  obtain⟨E3,tup3⟩:=dd.E.keep S2 ap k3
  refine hk _ _ G3 (I1.step ⟨day,str,t,n,key⟩ hl0d (fun z=>by obtain⟨e,h1,h2,_⟩:=dd.hs z;rw[←h2];exact eK h1) dd.hp dd.hn (fun c xs e=>tup3 _ _ (tup2 _ _ e)) ht eo E3 S3 (fun i' hi'=>?_)) fun c o c1 c2 c3 c4 c5 c6 c7 c8 e=>k3 c o c6 c7 c8 (dd.k c o c1 c2 c3 c4 c5 e)
  cases str with
  | true=>exact if_neg hi'
  | false=>rfl
 refine⟨st,nw,sk,lg,q,t,es,lk,l0,day,n,m,gs,key,y,str,rfl,S2,by omega,by omega,tup2 _ _ hq,tup2 _ _ ht,eo,?_⟩
 cases str with
 | true =>
  obtain⟨e,h1,h2,h3⟩:=dd.hs rfl
  exact .inl ⟨rfl,e,h1,h2,h3,fun G3 k3 S3=>fin G3 k3 S3⟩
 | false=>exact .inr ⟨rfl,(dd.hp rfl).1,fun G3 k3 S3=>fin G3 k3 S3⟩
theorem Be {es:List Ben}{lk:Lk}{M day:Int}{y v:V} (du:kB es lk M day key y str v):(∃ s,v=.str s)∨∃ n,v=.int n:=by
 cases du with
 | no _=>exact .inl ⟨_,rfl⟩
 | out _ _ _=>exact .inr ⟨_,rfl⟩
 | twice _=>exact .inl ⟨_,rfl⟩
 | num _ _ _ _ _ _=>exact .inr ⟨_,rfl⟩
 | nonum _ _ _ _ _ _=>exact .inl ⟨_,rfl⟩
 | least _ _ _ _ _=>exact .inr ⟨_,rfl⟩
 | many _ _ _=>exact .inl ⟨_,rfl⟩
def xN (K:PySem.W.Frag) (tb tb1:Addr):Sp:=fun vs H Q _=>∃ (a:Addr) (ns:List Int),vs=[.ref a]/\SqL K H a (ns.map V.int)/\ns.length<=63/\H tb=some (fX qO)/\H tb1=some (fX ny)/\∀ H',Q (.bl true) H'
theorem dZ:aM ["_law_script","_law_parts","_law_many_here","_law_pool_here","_law_editions","_law_state","_law_deed","_law_due_here","_law_k","_law_odd_here","_law_last","_law_day","_law_number"] ["_law_script"] (ak nK):=by subst_eqs
theorem GX (F:Fun K "law" "law" nK f fd) (T:Bl mg) (AF:AdF K mg Ad) (C_law_edition:Fnc P w K mg base (CX1 P w) 1 "_law_edition" ["_law_state","_law_day"] (i3 K)) (C_law_kept:Fnc P w K mg base (CX1 P w) 1 "_law_kept" ["_law_state","_law_deed","_law_number"] (iU K)) (C_law_did:Fnc P w K mg base (CX1 P w) 8 "_law_did" ["_law_editions","_law_deed"] (gm K Ad)) (C_law_due:Fnc P w K mg base (CX1 P w) 2 "_law_due" ["_law_state","_law_many_here","_law_deed"] (nc K)) (C_law_cell_at:Fnc P w K mg base (CX1 P w) 1 "_law_cell_at" ["_law_script","_law_k"] (iz K)) (C_law_full:Fnc P w K mg base (CX1 P w) 9 "_law_full" ["_law_number"] (pL Ad)) (C_law_mixed:Fnc P w K mg base (CX1 P w) 1 "_law_mixed" ["_law_cell"] ia) (C_law_no_book:Fnc P w K mg base (CX1 P w) 8 "_law_no_book" ["_law_editions","_law_day"] (i4 Ad)) (C_law_refused:Fnc P w K mg base (CX1 P w) 9 "_law_refused" ["_law_editions","_law_odd_here"] (i5 K Ad)) (C_law_odd:Fnc P w K mg base (CX1 P w) 1 "_law_odd" ["_law_state","_law_pool_here","_law_many_here","_law_number"] (ng K)) (C_law_deeds:Fnc P w K mg base (CX1 P w) 2 "_law_deeds" ["_law_cells","_law_pool_here","_law_many_here","_law_first"] (ko K)) (C_law_pool:Fnc P w K mg base (CX1 P w) 1 "_law_pool" ["_law_cell"] pM) (C_law_many:Fnc P w K mg base (CX1 P w) 1 "_law_many" ["_law_parts"] ly) (C_law_code_parts:Fnc P w K mg base (CX1 P w) 3 "_law_code_parts" ["_law_script"] (iT K)) (M_Book_entries:Mtd P w K mg base (CX1 P w) Ad.Book "entries" 1 ["self"] (gU Ad)) (M_Editions_book:Mtd P w K mg base (CX1 P w) Ad.Editions "book" 7 ["self","day"] (gk Ad)) (M_Editions_last_day:Mtd P w K mg base (CX1 P w) Ad.Editions "last_day" 1 ["self"] (eG Ad)) (K_Editions:Mak P w K mg base (CX1 P w) Ad.Editions "Editions" 3 ["self","code"] (eO Ad)) (K_Code:Mak P w K mg base (CX1 P w) Ad.Code "Code" 4 ["self","alphabet","weights","rest"] (eN Ad)):bI P w K mg base (CX1 P w) 10 f fd ["_law_script"] (xN K Ad.tb Ad.tb1):=by
 refine F.okX (k:=9) dZ ?_ ?_
 ·bv_decide
 ·bv_normalize
  obtain⟨a,ns,rfl,hS,hlen,Tb,Tb1,k⟩:=h
  have hu9:=hr.hu9
  refine⟨_,af (aA (i:=1) dZ.nd (aG C_law_code_parts au (hr.mono (by decide)) (ae (pvL 0) (aa)))) (af (aA (i:=2) dZ.nd (aG C_law_many au (hr.mono (by decide)) (ae (pvL 1) (aa)))) (af (aA (i:=3) dZ.nd (aG C_law_pool au (hr.mono (by decide)) (ae (aG C_law_mixed au (hr.mono (by decide)) (ae (aG C_law_cell_at au (hr.mono (by decide)) (ae (pvL 0) (ae (ag) (aa)))) (aa))) (aa)))) (af (aA (i:=4) dZ.nd (j7 K_Editions au (hr.mono (by decide)) (ae (j7 K_Code au (hr.mono (by decide)) (ae (aX (bO (K:=K) rfl) (pvL 1) (ag) (fun _ _=>rfl)) (ae (ip (mB (K:=K) rfl rfl) T.list pW (ae (aX (bO (K:=K) rfl) (pvL 1) (ag) (fun _ _=>rfl)) (aa))) (ae (aX (bO (K:=K) rfl) (pvL 1) (ag) (fun _ _=>rfl)) (aa))))) (aa)))) (af (aA (i:=5) dZ.nd (aN (ae (j4) (ae (j4) (ae (aN (aa)) (aa)))))) (af (fM cm rfl (cP (K:=K) rfl (aG C_law_deeds au (hr.mono (by decide)) (ae (nE (yJ (K:=K) rfl) (pvL 0) (nI (ag)) (nI (ag))) (ae (pvL 3) (ae (pvL 2) (ae (ag) (aa))))))) (aB (i:=6) dZ.nd) (af (aA (i:=7) dZ.nd (aG C_law_due au (hr.mono (by decide)) (ae (pvL 5) (ae (pvL 2) (ae (pvL 6) (aa)))))) (aj (bq (cL (bW (ay (dS .str) T.isinstance bt_isinstance (ae (pvL 7) (ae (gR T.str oG) (aa)))))) (af (bq (aJ (fJ (K:=K) rfl hu) (aG C_law_did au (hr.mono (by decide)) (ae (pvL 4) (ae (pvL 6) (aa)))) (pvL 7) (aL _)) (aj (aK (e8))) (aI)) (aj (cW (aG C_law_kept au (hr.mono (by decide)) (ae (pvL 5) (ae (pvL 6) (ae (pvL 7) (aa)))))))) (aI))))) (af (fM cm rfl (fk T.range (ae (ay (sy rfl) T.min AO (ae (ag) (ae (ay (zj rfl) T.max Gx (ae (ag) (ae (ay (bG (K:=K) rfl) T.len cB (ae (pvL 0) (aa))) (aa)))) (aa)))) (aa))) (aB (i:=8) dZ.nd) (af (aA (i:=9) dZ.nd (aG C_law_odd au (hr.mono (by decide)) (ae (pvL 5) (ae (pvL 3) (ae (pvL 2) (ae (aG C_law_mixed au (hr.mono (by decide)) (ae (aw aQ (aG C_law_cell_at au (hr.mono (by decide)) (ae (pvL 0) (ae (pvL 8) (aa)))) (aw Es (ag) (pvL 8))) (aa))) (aa))))))) (aj (bq (cL (bW (aG C_law_refused au (hr.mono (by decide)) (ae (pvL 4) (ae (pvL 9) (aa)))))) (aj (aK (e8))) (aI))))) (af (aA (i:=10) dZ.nd (ag)) (af (bq (aJ (mI (K:=K) rfl hu9) (aX (bO (K:=K) rfl) (pvL 5) (ag) (fun _ _=>rfl)) (aN (aa)) (aL _)) (aj (aA (i:=10) dZ.nd (aX (bO (K:=K) rfl) (aX (bO (K:=K) rfl) (aX (bO (K:=K) rfl) (pvL 5) (ag) (fun _ _=>rfl)) (pC lC (ag)) (fun _ _=>rfl)) (ag) (fun _ _=>rfl)))) (aI)) (af (fM cm rfl (cP (K:=K) rfl (aN (ae (ag) (ae (pvL 10) (ae (aw aQ (pvL 10) (ag)) (aa)))))) (aB (i:=11) dZ.nd) (aj (bq (aJ (mI (K:=K) rfl hu9) (ie M_Book_entries au (hr.mono (by decide)) (cJ M_Editions_book au (hr.mono (by decide)) (pvL 4) (ae (pvL 11) (aa)))) (aG C_law_edition au (hr.mono (by decide)) (ae (pvL 5) (ae (pvL 11) (aa)))) (aL _)) (aj (aK (e8))) (aI)))) (af (fM cm rfl (cP (K:=K) rfl (aN (ae (pC lC (ag)) (ae (aw aQ (aw gu (ag) (ag)) (ag)) (ae (e8) (ae (cK) (ae (av) (ae (aN (ae (ag) (aa))) (aa))))))))) (aB (i:=11) dZ.nd) (aj (bq (cL (bW (aG C_law_no_book au (hr.mono (by decide)) (ae (pvL 4) (ae (pvL 11) (aa)))))) (aj (aK (e8))) (aI)))) (af (aA (i:=12) dZ.nd (aG C_law_mixed au (hr.mono (by decide)) (ae (aw aQ (aG C_law_cell_at au (hr.mono (by decide)) (ae (pvL 0) (ae (ag) (aa)))) (ag)) (aa)))) (af (bq ((mP (aJ (bX (K:=K) rfl hu) (aw aW (pvL 12) (ag)) (ag) (aL _)) (kg (cL (bW (aG C_law_full au (hr.mono (by decide)) (ae (aw bo (pvL 12) (ag)) (aa))))))).pt) (aj (aK (e8))) (aI)) (af (bq (aJ (fJ (K:=K) rfl hu) (ie M_Editions_last_day au (hr.mono (by decide)) (pvL 4)) (pvL 10) (aL _)) (aj (aK (e8))) (aI)) (af (fM cm rfl (cP (K:=K) rfl (aN (ae (aw aQ (pvL 10) (ag)) (ae (aw gu (ag) (ag)) (ae (aw gu (ag) (ag)) (aa)))))) (aB (i:=11) dZ.nd) (af (aA (i:=6) dZ.nd (aS (ae (av) (ae (pvL 11) (ae (aX (bO (K:=K) rfl) (pvL 3) (aw aW (aw aQ (aG C_law_cell_at au (hr.mono (by decide)) (ae (pvL 0) (ae (ag) (aa)))) (pvL 11)) (ay (bG (K:=K) rfl) T.len cB (ae (pvL 3) (aa)))) (fun _ _=>rfl)) (ae (cK) (aa))))))) (af (aA (i:=7) dZ.nd (aG C_law_due au (hr.mono (by decide)) (ae (pvL 5) (ae (pvL 2) (ae (pvL 6) (aa)))))) (af (bq (aJ (fJ (K:=K) rfl hu) (aG C_law_did au (hr.mono (by decide)) (ae (pvL 4) (ae (pvL 6) (aa)))) (pvL 7) (aL _)) (aj (aK (e8))) (aI)) (aj (bq (cL (bW (ay (dS .str) T.isinstance bt_isinstance (ae (pvL 7) (ae (gR T.str oG) (aa)))))) (aj (cW (aG C_law_kept au (hr.mono (by decide)) (ae (pvL 5) (ae (pvL 6) (ae (pvL 7) (aa))))))) (aI))))))) (aj (aK (cn (ur (K:=K) rfl hu9) (ie M_Book_entries au (hr.mono (by decide)) (cJ M_Editions_book au (hr.mono (by decide)) (pvL 4) (ae (aw gu (ag) (ag)) (aa)))) (aG C_law_edition au (hr.mono (by decide)) (ae (pvL 5) (ae (aw gu (ag) (ag)) (aa)))) (aL _)))))))))))))))))),?_⟩
  have big:∀ {u:Nat},u<=1000->u<=sizeLine:=fun hu=>aP (ao (by omega))
  grind
  refine⟨a,ns,rfl,hS,fun p q al ws r H1 s1 hP ok a9 w3 w6=>?_⟩
  cbv
  grind
  refine⟨p,q,al,ws,r,rfl,hP,by omega,by omega,by omega,fun H2 s2=>?_⟩
  cbv
  have s02:=s1.trans s2
  grind
  refine⟨a,ns,1,rfl,s02.seq hS,by decide,?_⟩
  generalize ns.getD (1:Int).toNat 0=c0
  refine⟨c0,rfl,?_⟩
  have z0:=n6 c0
  generalize xm c0=z at z0
  refine⟨z,rfl,z0,fun D x y H3 s3 x1 x2 y1 y2 hxy hPo=>?_⟩
  obtain⟨ts,hD,hts⟩:=hPo
  have nd:=EH hxy x1 y1
  have en:=EF x1 x2 y1 y2
  cbv
  have s03:=s02.trans s3
  have Pt:Parts H3 p q al ws r:=⟨(s2.trans s3) _ _ hP.1,(s2.trans s3) _ _ hP.2⟩
  grind
  refine⟨_,_,.l Pt.1,bt (j:=0) rfl,_,_,.l Pt.1,bt (j:=1) rfl,?_⟩
  and_intros
  refine⟨_,.inl (.l Pt.2),fun qn F3 hqn f3 hq3=>⟨_,_,.l (f3 _ _ Pt.1),bt (j:=2) rfl,fun ca cd F4 hca hcd hcc f4 h4a h4d=>?_⟩⟩
  refine sI h4a (f4 _ _ hq3) ok fun H5 s5 C5=>⟨rfl,?_⟩
  have s35:aq H3 H5:=fun b o e=>by
   have hb:b≠ca:=fun e2=>by rw[←e2,f3 _ _ e] at hca;cases hca
   exact s5 b o hb (f4 _ _ (f3 _ _ e))
  have s05:=s03.trans s35
  clear h4a h4d f4 hca hcd hcc hq3 f3 hqn s5
  intro ed edx G1 hed hedx nedx t1 g1 g1x
  refine⟨ed,edx,ca,rfl,g1,fun b dn de cl sd G2 fb fn fd' fc fs nns k2 h2 B2 hcl hsd=>⟨rfl,?_⟩⟩
  have s52:aq H5 G2:=fun c o e=>k2 c o (fun z=>by rw[z,hed] at e;cases e) (t1 _ _ e)
  have n5:H5 dn=none:=t1.free fn
  have d5:H5 de=none:=t1.free fd'
  have c5:H5 cl=none:=t1.free fc
  have sd5:H5 sd=none:=t1.free fs
  obtain⟨bx,hb2⟩:=B2.bk
  cbv
  grind
  intro nw G3 hnw t3 g3 sk G4 hsk t4 g4
  refine⟨bh _,fun lg G5 hlg t5 g5=>⟨big (by decide),fun st G6 hst t6 g6=>?_⟩⟩
  cbv
  have s26:aq G2 G6:=t3.trans (t4.trans (t5.trans t6))
  have nn2:∀ {c c':Addr}{o:HO},G2 c=some o->G2 c'=none->c'≠c:=fun e e' z=>by rw[z,e] at e';cases e'
  have fnw:G2 nw=none:=hnw
  have fsk:G2 sk=none:=t3.free hsk
  have flg:G2 lg=none:=(t3.trans t4).free hlg
  have fst:G2 st=none:=(t3.trans (t4.trans t5)).free hst
  have ap:∀ c∈[ed,b,dn,de,cl,sd],∀ c'∈[st,nw,sk,lg],c'≠c:=fun c hc c' hc'=>by
   have h1:∃ o,G2 c=some o:=by
    simp only[aD,bM,bN] at hc
    rcases hc with rfl | rfl | rfl | rfl | rfl | rfl
    ·exact⟨_,h2⟩
    ·exact⟨_,hb2⟩
    ·exact⟨_,B2.hn⟩
    ·exact⟨_,B2.he⟩
    ·exact⟨_,hcl⟩
    ·exact⟨_,hsd⟩
   obtain⟨o,ho⟩:=h1
   refine nn2 ho ?_
   simp only[aD,bM,bN] at hc'
   rcases hc' with rfl | rfl | rfl | rfl
   ·exact fst
   ·exact fnw
   ·exact fsk
   ·exact flg
  have h9M:dP al ws<=100000/\1<=dP al ws:=by
   have a3:=ok.a3
   have h:al.length^(ws.length-1)<=9^5:=bA (Nat.pow_le_pow_left (by omega) _) (Nat.pow_le_pow_right (by decide) (by omega))
   have h':0<al.length^(ws.length-1):=Nat.pow_pos (by omega)
   have h:al.length^(ws.length-1)<=59049:=h
   show (al.length:Int)^(ws.length-1)<=100000/\1<=(al.length:Int)^(ws.length-1)
   rw[←Int.natCast_pow]
   omega
  have I6:KI Ad G6 ed b ca dn de cl sd st nw sk lg (dP al ws) 0 [] (fun _=>none) 0 0 []:=by
   refine⟨⟨⟨edx,s26 _ _ h2⟩,B2.same s26,⟨_,s26 _ _ hcl,ai _,.nil⟩,⟨_,s26 _ _ hsd,fun n=>.inl ⟨rfl,rfl⟩,ai _⟩,nns⟩,⟨g6,(t4.trans (t5.trans t6)) _ _ g3,⟨_,(t5.trans t6) _ _ g4,fun n=>.inl ⟨rfl,rfl⟩,ai _⟩,⟨_,t6 _ _ g5,ai _,.inl rfl,.nil⟩,(fun e he=>by cases he),.nil,(fun z=>by rw[←z,g3] at hsk;cases hsk),(fun z=>by rw[z,g5] at hst;cases hst)⟩,ai _,rfl,.nil,.nil,(fun l hl=>by cases hl),(fun l hl=>by cases hl),ai _,fun _ _=>rfl⟩
  have S56:aq H5 G6:=s52.trans s26
  clear t1 g1 g1x k2 fb fn fd' fc fs t3 t4 t5 t6 g3 g4 g5 g6 hnw hsk hlg hst h2 hcl hsd hb2 nn2
  grind
  refine⟨_,(s05.trans S56).seq hS,fun p11 G11 hp11 t11 g11=>?_⟩
  obtain⟨l1,el1,ll1⟩:=AX ns 2 14
  rw[show pO (ns.map V.int) (some 2) (some 14)=l1.map V.int from el1] at g11
  have hts5:=gh ((s35.trans S56).trans t11) hts
  refine⟨p11,D,l1,ts,dP al ws,5,x,y,rfl,.of g11,by omega,((s35.trans S56).trans t11) _ _ hD,hts5,h9M.2,h9M.1,by decide,by decide,fun L ls ds G12 hL t12 gL pd dsl dok=>?_⟩
  have t612:aq G6 G12:=t11.trans t12
  have I12:=I6.same t612 (ai _)
  have S12:aq H5 G12:=S56.trans t612
  have hts12:=gh (s35.trans S12) hts
  have hD12:=(s35.trans S12) _ _ hD
  have nL:L≠cl/\L≠lg:=⟨(fun z=>by obtain⟨cs,e,_⟩:=(I6.same t11 (ai _)).E.cF;rw[z,e] at hL;cases hL),(fun z=>by obtain⟨cs,e,_⟩:=(I6.same t11 (ai _)).S.g;rw[z,e] at hL;cases hL)⟩
  have fnw5:H5 nw=none:=s52.free fnw
  have fsk5:H5 sk=none:=s52.free fsk
  have flg5:H5 lg=none:=s52.free flg
  have fr5:∀ {G:Hp},FrK ed dn de cl sd nw sk lg G12 G->aq H5 G:=fun {G} f c o e=>f c o (fun z=>by rw[z,hed] at e;cases e) (fun z=>by rw[z,n5] at e;cases e) (fun z=>by rw[z,d5] at e;cases e) (fun z=>by rw[z,c5] at e;cases e) (fun z=>by rw[z,sd5] at e;cases e) (fun z=>by rw[z,fnw5] at e;cases e) (fun z=>by rw[z,fsk5] at e;cases e) (fun z=>by rw[z,flg5] at e;cases e) (S12 _ _ e)
  clear t11 g11 t12 hL hp11 hts5 I6 S56 t612
  generalize hMM:dP al ws=M at *
  refine .inl ⟨⟨_,.of gL⟩,fH (xs:=ls) (fun i σ G=>∃ (o6 o7:Option V) (es:List Ben) (lk:Lk) (l0:Int) (m:Nat) (gs:List Lge),σ=[some (V.ref a),some (V.ref p),some (V.int M),some (V.ref D),some (V.ref ed),some (V.ref st),o6,o7,none,none,none,none,none]/\KI Ad G ed b ca dn de cl sd st nw sk lg M i es lk l0 m gs/\FrK ed dn de cl sd nw sk lg G12 G/\(∀ d∈ds.drop i,l0<=d.day)/\(gs=[]->l0=0)/\0<=l0/\l0<=1000) ?_ ?_ ?_ ?_⟩
  ·exact⟨_,_,_,_,_,_,_,rfl,I12,(fun c o _ _ _ _ _ _ _ _ e=>e),(fun d hd=>by have:=(dok.lo d (List.mem_of_mem_drop hd)).1;omega),fun _=>rfl,by decide,by decide⟩
  ·rintro i σ G _ ⟨o6,o7,es,lk,l0,m,gs,_,_,fr,_⟩
   obtain⟨dx,he⟩:=I12.E.eF
   obtain⟨kv2,hsd,_⟩:=I12.E.sF
   obtain⟨kv3,hsk,_⟩:=I12.S.k
   exact .of (fr _ _ (aE gL he (by intro z;cases z)) (aE gL I12.E.bF.hn (by intro z;cases z)) (aE gL I12.E.bF.he (by intro z;cases z)) nL.1 (aE gL hsd (by intro z;cases z)) (aE gL I12.S.n (by intro z;cases z)) (aE gL hsk (by intro z;cases z)) nL.2 gL)
  ·rintro i v σ G hi ⟨o6,o7,es,lk,l0,m,gs,rfl,I,fr,hl0,hg0,z0,z1⟩ N hNx
   clear hN
   obtain⟨d,hd,q',rfl,hq⟩:=cE pd hi
   have hdm:=bp hd
   have hil:i<ds.length:=(bK.mp hd).1
   obtain⟨u,hu,hku⟩:=dok.dY d hdm
   obtain⟨key',hk',hkt⟩:=cE hts12 hu
   obtain rfl:key'=d.key:=Option.some.inj (hk'.symm.trans hku)
   have eo:=en _ (bp hku)
   have hy:=dok.num d hdm
   have hlo:=dok.lo d hdm
   have hdd:ds.drop i=d::ds.drop (i+1):=by rw[List.drop_eq_getElem_cons hil];rw[List.getElem?_eq_getElem hil] at hd;rw[Option.some.inj hd]
   have hl0d:l0<=d.day:=hl0 d (by rw[hdd];exact List.mem_cons_self)
   have hup:∀ d'∈ds.drop (i+1),d.day<=d'.day:=fun d' hd'=>by
    have:=dok.up
    rw[←List.take_append_drop i ds,hdd,b9,bz] at this
    exact (List.pairwise_cons.mp (List.pairwise_append.mp this).2.1).1 _ (eK hd')
   have hq:=fr.tup I12 _ _ hq
   have ht:=fr.tup I12 _ _ hkt
   have mi:=I.mi
   have gl:=I.gl
   have i12:i<12:=by omega
   have rn:(es.map (·.key)).Nodup:=by rw[I.er];exact I.ro.nn.2
   obtain⟨str,day,t,key,y'⟩:=d
   simp only at hq ht eo hy hlo hl0d hup hkt
   rw[fE]
   refine cN fun n2 hM=>?_
   and_intros
   refine⟨st,nw,sk,lg,q',t,es,lk,l0,M,day,m,gs,key,y',str,rfl,I.S,by omega,rn,by omega,hq,ht,eo,hl0d,hy,by omega,h9M.1,fun v G1 t1 du=>?_⟩
   rw[hM]
   clear hM n2
   have I1:=I.same t1 (ai _)
   have hq1:=t1 _ _ hq
   have ht1:=t1 _ _ ht
   have fr1:FrK ed dn de cl sd nw sk lg G12 G1:=fun c o c1 c2 c3 c4 c5 c6 c7 c8 e=>t1 _ _ (fr c o c1 c2 c3 c4 c5 c6 c7 c8 e)
   have SG1:=fr5 fr1
   clear hq ht fr I t1 hkt
   and_intros
   rcases Be du with ⟨s,rfl⟩ | ⟨n,rfl⟩
   ·and_intros
    refine⟨trivial,.str,rfl,?_⟩
    rw[if_neg (by decide)]
    exact hNx _ _ ⟨_,_,es,lk,l0,m,gs,rfl,I1.same (aq.refl _) (iF _),fr1,(fun d' hd'=>Int.le_trans hl0d (hup d' hd')),hg0,z0,z1⟩
   ·and_intros
    refine⟨trivial,.int,rfl,?_⟩
    rw[if_pos (by decide)]
    refine cN fun n2 hM=>?_
    and_intros
    refine yj I1 hMM (C5.same SG1) ok ((s05.trans SG1) _ _ Tb) ((s05.trans SG1) _ _ Tb1) hq1 ht1 eo hl0d (by omega) (by omega) hy (by omega) (by omega) du (fun s G2 e=>by cases e) fun n' G2 e dd=>?_
    cases e
    and_intros
    rw[if_neg (by simp)]
    show n2 _ _ _
    rw[hM]
    clear hM n2
    and_intros
    exact vj I1 ap hq1 ht1 eo hl0d (by omega) dd fun lk' es' G3 I3 f3=>hNx _ _ ⟨_,_,es',lk',day,m+1,_,rfl,I3,(fun c o c1 c2 c3 c4 c5 c6 c7 c8 e=>f3 c o c1 c2 c3 c4 c5 c6 c7 c8 (fr1 c o c1 c2 c3 c4 c5 c6 c7 c8 e)),hup,(fun z=>by simp at z),by omega,by omega⟩
  rintro σ Gb ⟨o6,o7,es,lk,l0,m,gs,rfl,I,fr,_,hg0,z0,z1⟩
  show nn _ _ _
  cbv
  have SG:=fr5 fr
  have lsl:ls.length=ds.length:=Paired.length pd
  have I:=I.same (aq.refl _) (show ls.length<=12 by omega)
  clear pd dok gL nL
  grind
  have hnm:∀ e∈es,0<=e.num/\e.num<M:=fun e he=>by
   rw[I.er] at he
   obtain⟨l,hl',rfl⟩:=mf he
   exact (I.gp l hl').2.2
  have rk:(es.map (·.key)).Nodup:=by rw[I.er];exact I.ro.nn.2
  have mi:=I.mi
  have gl:=I.gl
  have hDb:=(s35.trans SG) _ _ hD
  have htsb:=gh (s35.trans SG) hts
  refine⟨_,.inl ((s05.trans SG).seq hS),by omega,by omega,vd (fun i σ G=>(∃ o8 o9,σ=[some (V.ref a),some (V.ref p),some (V.int M),some (V.ref D),some (V.ref ed),some (V.ref st),o6,o7,o8,o9,none,none,none])/\aq Gb G) ⟨⟨_,_,rfl⟩,aq.refl _⟩ ?_ ?_⟩
  ·rintro i σ G hi ⟨⟨o8,o9,rfl⟩,tG⟩ N hNx
   clear hN
   have I1:=I.same tG (ai _)
   have SG1:=SG.trans tG
   rw[fE,Int.zero_add]
   refine cN fun n2 hM=>?_
   and_intros
   refine⟨a,ns,i,rfl,(s05.trans SG1).seq hS,by omega,?_⟩
   generalize ns.getD ((i:Nat):Int).toNat 0=c2
   and_intros
   refine⟨.inl (by decide),c2+31*(i:Int),rfl,?_⟩
   have v0:=n6 (c2+31*(i:Int))
   generalize xm (c2+31*(i:Int))=v at v0
   refine⟨st,nw,sk,lg,D,es,lk,l0,M,v,m,gs,ts,x,y,rfl,I1.S,by omega,by omega,rk,hg0,hnm,tG _ _ hDb,gh tG htsb,en,by omega,h9M.1,v0,z0,by omega,fun R dv xv yv due G2 t2 g2 ol=>?_⟩
   rw[hM]
   clear hM n2
   have I2:=I1.same t2 (ai _)
   have SG2:=SG1.trans t2
   obtain⟨j,td,ty,rfl,htd,ask,hty,hl,od⟩:=ol.odd (lk:=lk) (fun e he=>I2.S.en e he) hnm z0 (by omega)
   and_intros
   refine⟨ed,b,ca,dn,de,cl,sd,R,es,lk,l0,m,j,gs.map eS,al,ws,r,dv,xv,yv,td,ty,rfl,g2,I2.E,C5.same SG2,ok,(s05.trans SG2) _ _ Tb,(s05.trans SG2) _ _ Tb1,htd,ask,hty,hl,by omega,z0,by omega,by rw[hMM];exact od,fun G3 t3=>⟨_,rfl,?_⟩⟩
   rw[if_neg (by decide)]
   exact hNx _ _ ⟨⟨_,_,rfl⟩,tG.trans (t2.trans t3)⟩
  rintro σ Gc ⟨⟨o8,o9,rfl⟩,tc⟩
  show nn _ _ _
  cbv
  have Ic:=I.same tc (ai _)
  have Sc:=SG.trans tc
  clear SG tc hDb htsb fr I
  grind
  cbv
  refine gY (fun σ G=>σ=[some (V.ref a),some (V.ref p),some (V.int M),some (V.ref D),some (V.ref ed),some (V.ref st),o6,o7,o8,o9,some (V.int l0),none,none]/\aq Gc G) ?_ ?_
  case refine_2 =>
   intro U hU
   obtain⟨lsg,hlg,lls,hlast,hgs⟩:=Ic.S.g
   and_intros
   refine⟨_,.ref lg,.l Ic.S.s,bt (j:=2) rfl,bh _,fun p1 G1 _ t1 g1=>?_⟩
   refine⟨0,_,by decide,rA (.of (t1 _ _ hlg)) (.of g1),?_⟩
   rcases hlast with rfl | ⟨tl,a',b',c',hl1,hl2⟩
   ·have e0:gs=[]:=by cases hgs;rfl
    rw[decide_eq_true rfl,if_neg (by decide)]
    refine hU _ _ ⟨?_,t1⟩
    rw[hg0 e0]
   ·have hne:lsg≠[]:=fun e=>by rw[e] at hl1;cases hl1
    rw[decide_eq_false hne,if_pos (by decide)]
    refine⟨_,.ref lg,.l (t1 _ _ Ic.S.s),bt (j:=2) rfl,?_⟩
    and_intros
    refine⟨_,.ref tl,.l (t1 _ _ hlg),oE hl1,?_⟩
    and_intros
    exact⟨_,_,.inr (.of (t1 _ _ hl2)),eQ (by decide) rfl,hU _ _ ⟨rfl,t1⟩⟩
  rintro σ Gd ⟨rfl,tcd⟩
  have Id:=Ic.same tcd (ai _)
  have Sd:=Sc.trans tcd
  clear Ic Sc tcd
  grind
  refine⟨big (by decide),fun pD Ge hpD te gD=>.inl ⟨⟨_,.of gD⟩,fH (xs:=[0,l0,l0+1].map V.int) (fun j σ G'=>(∃ o11,σ=[some (V.ref a),some (V.ref p),some (V.int M),some (V.ref D),some (V.ref ed),some (V.ref st),o6,o7,o8,o9,some (V.int l0),o11,none])/\aq Ge G') ⟨⟨_,rfl⟩,aq.refl _⟩ (fun j σ G' _ ⟨_,tG⟩=>.of (tG _ _ gD)) ?_ ?_⟩⟩
  ·rintro j v σ G' hj ⟨⟨o11,rfl⟩,tG⟩ N hNx
   clear hN
   obtain⟨day,hdj,rfl⟩:=qR hj
   have dd:0<=day/\day<=1000000000:=by
    have:=bp hdj
    simp only[aD,bM,bN] at this
    omega
   obtain⟨jj,hjj⟩:=tT day Id.up
   have I1:=Id.same (te.trans tG) (ai _)
   have S1:=Sd.trans (te.trans tG)
   obtain⟨dx1,he1⟩:=I1.E.eF
   rw[fE]
   and_intros
   refine⟨dx1,_,he1,rfl,ed,.int day,rfl,.inr ⟨b,ca,dn,de,cl,sd,es,lk,l0,day,m,jj,al,ws,r,gs,rfl,I1.E,C5.same S1,ok,(s05.trans S1) _ _ Tb,by omega,I1.ro,hjj,(fun l hl=>by rw[hMM];exact I1.gp l hl),dd.1,dd.2,fun b' dn' de' es' G2 t2 B2 pm=>?_⟩⟩
   have I2:=I1.same t2 (ai _)
   obtain⟨bx2,hb2⟩:=B2.bk
   have lpm:es'.length<64:=by
    obtain⟨lsg,_,h2,_,h4⟩:=Id.S.g
    have h5:lsg.length=gs.length:=Paired.length h4
    have h6:=oK (gs.take jj) []
    have h7:es'.length=((gs.take jj).foldl eI []).length:=pm.length_eq
    rw[gI,eU] at h6
    omega
   and_intros
   refine⟨bx2,_,hb2,cI (by decide) (by decide) (by decide) ca dn' de',b',ca,dn',de',es',rfl,B2,lpm,fun D3 ws3 ms3 G3 hD3 t3 g3 mp3 ml3 mP3=>?_⟩
   and_intros
   refine⟨st,nw,sk,lg,es,lk,l0,day,m,jj,gs,rfl,I2.S.same t3,by omega,Id.ro,hjj,fun D4 ws4 ms4 G4 t4 g4 mp4 ml4 mP4=>?_⟩
   obtain rfl:ms4=ms3:=pH ml4 ml3 (mp4.trans (pm.symm.trans mp3.symm))
   refine⟨1,true,by decide,yo (t4 _ _ g3) g4 (mJ mP3 fun v m _ ⟨q,e1,e2⟩=>⟨q,e1,t4 _ _ e2⟩) mP4,?_⟩
   rw[if_neg (by decide)]
   exact hNx _ _ ⟨⟨_,rfl⟩,tG.trans (t2.trans (t3.trans t4))⟩
  rintro σ Gf ⟨⟨o11,rfl⟩,tf⟩
  show nn _ _ _
  cbv
  have If:=Id.same (te.trans tf) (ai _)
  have Sf:=Sd.trans (te.trans tf)
  clear Id Sd te tf gD hpD
  grind
  refine⟨⟨by decide,by decide,by decide⟩,big (by decide),fun p1 Gg _ tg u1=>⟨big (by decide),fun pD Gh hpD th gD=>?_⟩⟩
  have bads:∀ w∈[V.int (-1),V.int (10^Int.toNat 9+1),V.bl true,V.non,V.str (Str.ofString "1"),V.ref p1],(∃ t,cz Gh w=some t)/\bj 1000000001 w=false:=fun w hw=>by
   simp only[aD,bM,bN] at hw
   rcases hw with rfl | rfl | rfl | rfl | rfl | rfl
   ·exact⟨⟨_,rfl⟩,by decide⟩
   ·exact⟨⟨_,rfl⟩,by decide⟩
   ·exact⟨⟨_,rfl⟩,rfl⟩
   ·exact⟨⟨_,rfl⟩,rfl⟩
   ·exact⟨⟨_,rfl⟩,rfl⟩
   ·exact⟨⟨.lst,by show i8 (Gh p1)=_;rw[th _ _ u1];rfl⟩,rfl⟩
  have tfh:=tg.trans th
  refine .inl ⟨⟨_,.of gD⟩,fH (xs:=[V.int (-1),V.int (10^Int.toNat 9+1),V.bl true,V.non,V.str (Str.ofString "1"),V.ref p1]) (fun j σ G'=>(∃ o11,σ=[some (V.ref a),some (V.ref p),some (V.int M),some (V.ref D),some (V.ref ed),some (V.ref st),o6,o7,o8,o9,some (V.int l0),o11,none])/\aq Gh G') ⟨⟨_,rfl⟩,aq.refl _⟩ (fun j σ G' _ ⟨_,tG⟩=>.of (tG _ _ gD)) ?_ ?_⟩
  ·rintro j v σ G' hj ⟨⟨o11,rfl⟩,tG⟩ N hNx
   clear hN
   obtain⟨⟨tt,htt⟩,hb⟩:=bads v (bp hj)
   have I1:=If.same (tfh.trans tG) (ai _)
   obtain⟨dx1,he1⟩:=I1.E.eF
   rw[fE]
   and_intros
   refine⟨ed,dx1,b,cl,sd,l0,v,tt,rfl,he1,dA tG htt,hb,fun G2 t2=>⟨_,rfl,?_⟩⟩
   rw[if_neg (by decide)]
   exact hNx _ _ ⟨⟨_,rfl⟩,tG.trans t2⟩
  rintro σ Gi ⟨⟨o11',rfl⟩,ti⟩
  show nn _ _ _
  rw[hN]
  clear hN nn bads
  have Ii:=If.same (tfh.trans ti) (ai _)
  have Si:=Sf.trans (tfh.trans ti)
  clear If Sf tfh ti tg th gD u1 hpD
  grind
  refine⟨a,ns,1,rfl,(s05.trans Si).seq hS,by decide,?_⟩
  generalize ns.getD (1:Int).toNat 0=c3
  and_intros
  refine⟨c3+2,rfl,?_⟩
  have v0:=n6 (c3+2)
  generalize xm (c3+2)=v at v0
  cbv
  refine gY (fun σ G=>σ=[some (V.ref a),some (V.ref p),some (V.int M),some (V.ref D),some (V.ref ed),some (V.ref st),o6,o7,o8,o9,some (V.int l0),o11',some (V.int v)]/\aq Gi G) ?_ ?_
  case refine_2 =>
   intro U hU
   and_intros
   refine⟨by decide,?_⟩
   by_cases h4:v%4=1
   ·rw[decide_eq_true h4,if_pos rfl]
    refine⟨⟨by decide,by decide⟩,v/4,rfl,by omega,(s05.trans Si) _ _ Tb,(s05.trans Si) _ _ Tb1,fun G1 t1=>⟨_,rfl,?_⟩⟩
    rw[if_neg (by decide)]
    exact hU _ _ ⟨rfl,t1⟩
   ·rw[decide_eq_false h4,if_neg (by decide)]
    exact hU _ _ ⟨rfl,aq.refl _⟩
  rintro σ Gj ⟨rfl,tj⟩
  have Ij:=Ii.same tj (ai _)
  have Sj:=Si.trans tj
  clear Ii Si tj v0
  obtain⟨dxj,hej⟩:=Ij.E.eF
  grind
  refine⟨dxj,_,hej,rfl,ed,dxj,b,cl,sd,l0,rfl,hej,?_⟩
  and_intros
  rw[if_neg (by simp)]
  show nn _ _ _
  cbv
  grind
  refine⟨⟨by decide,by decide,by decide⟩,⟨by decide,by decide,by decide⟩,big (by decide),fun pD Gk hpD tk gD=>?_⟩
  have gD:Gk pD=some (.lst ([l0+40,1000000000,1000000000].map V.int)):=gD
  have Ik:=Ij.same tk (ai _)
  have Sk:=Sj.trans tk
  have npD:pD≠cl/\pD≠lg:=⟨(fun z=>by obtain⟨cs,e,_⟩:=Ij.E.cF;rw[z,e] at hpD;cases hpD),(fun z=>by obtain⟨cs,e,_⟩:=Ij.S.g;rw[z,e] at hpD;cases hpD)⟩
  have frk:∀ {G:Hp},FrK ed dn de cl sd nw sk lg Gk G->aq H5 G:=fun {G} f c o e=>f c o (fun z=>by rw[z,hed] at e;cases e) (fun z=>by rw[z,n5] at e;cases e) (fun z=>by rw[z,d5] at e;cases e) (fun z=>by rw[z,c5] at e;cases e) (fun z=>by rw[z,sd5] at e;cases e) (fun z=>by rw[z,fnw5] at e;cases e) (fun z=>by rw[z,fsk5] at e;cases e) (fun z=>by rw[z,flg5] at e;cases e) (Sk _ _ e)
  clear Ij Sj tk hpD hej hg0 hnm rk fr5
  have lt14:ts.length=14:=Paired.length hts
  refine .inl ⟨⟨_,.of gD⟩,fH (xs:=[l0+40,1000000000,1000000000].map V.int) (fun j σ G=>∃ (o6 o7 o11:Option V) (es:List Ben) (lk:Lk) (l1:Int) (m:Nat) (gs:List Lge),σ=[some (V.ref a),some (V.ref p),some (V.int M),some (V.ref D),some (V.ref ed),some (V.ref st),o6,o7,o8,o9,some (V.int l0),o11,some (V.int v)]/\KI Ad G ed b ca dn de cl sd st nw sk lg M (12+j) es lk l1 m gs/\FrK ed dn de cl sd nw sk lg Gk G/\∀ d∈[l0+40,1000000000,1000000000].drop j,l1<=d) ?_ ?_ ?_ ?_⟩
  ·refine⟨_,_,_,_,_,_,_,_,rfl,Ik,(fun c o _ _ _ _ _ _ _ _ e=>e),fun d hd=>?_⟩
   simp only[List.drop_zero,aD,bM,bN] at hd
   omega
  ·rintro j σ G _ ⟨o6',o7',o11,es,lk,l1,m,gs,_,_,fr,_⟩
   obtain⟨dx,he⟩:=Ik.E.eF
   obtain⟨kv2,hsd,_⟩:=Ik.E.sF
   obtain⟨kv3,hsk,_⟩:=Ik.S.k
   exact .of (fr _ _ (aE gD he (by intro z;cases z)) (aE gD Ik.E.bF.hn (by intro z;cases z)) (aE gD Ik.E.bF.he (by intro z;cases z)) npD.1 (aE gD hsd (by intro z;cases z)) (aE gD Ik.S.n (by intro z;cases z)) (aE gD hsk (by intro z;cases z)) npD.2 gD)
  ·rintro j w σ G hj ⟨o6',o7',o11,es,lk,l1,m,gs,rfl,I,fr,hl1⟩ N hNx
   clear hN
   obtain⟨day,hdj,rfl⟩:=qR hj
   have hjl:j<3:=(bK.mp hdj).1
   obtain⟨dd0,dd1,dd2,dd3⟩:0<=day/\day<=1000000000/\l1<=day/\∀ d∈[l0+40,1000000000,1000000000].drop (j+1),day<=d:=by
    rcases (show j=0∨j=1∨j=2 by omega) with rfl | rfl | rfl<;>cases hdj<;>refine⟨by omega,by omega,hl1 _ List.mem_cons_self,fun d hd=>?_⟩<;>simp at hd<;>omega
   have SG:=frk fr
   have hDG:=(s35.trans SG) _ _ hD
   have htsG:=gh (s35.trans SG) hts
   have mi:=I.mi
   have gl:=I.gl
   have rn:(es.map (·.key)).Nodup:=by rw[I.er];exact I.ro.nn.2
   rw[fE]
   refine cN fun n2 hM=>?_
   and_intros
   refine⟨a,ns,1,rfl,(s05.trans SG).seq hS,by decide,?_⟩
   generalize ns.getD (1:Int).toNat 0=c4
   and_intros
   refine⟨_,.l hDG,?_⟩
   and_intros
   rw[List.length_map,lt14]
   obtain⟨u,hu,ul⟩:∃ u:Nat,(c4+day)%14=(u:Int)/\u<14:=⟨((c4+day)%14).toNat,by omega,by omega⟩
   obtain⟨te,hte⟩:∃ t,ts[u]?=some t:=⟨_,List.getElem?_eq_getElem (by omega)⟩
   obtain⟨key,hk,hkt⟩:=cE htsG hte
   have eo:=en key (bp hk)
   refine⟨by decide,_,.ref te,.l hDG,by rw[show (c4+day)%((14:Nat):Int)=(u:Int) from hu];exact bt (by rw[List.getElem?_map,hte];rfl),big (by decide),fun q G1 _ t1 g1=>?_⟩
   rw[hM]
   clear hM n2
   have I1:=I.same t1 (ai _)
   refine cN fun n2 hM=>?_
   and_intros
   refine⟨st,nw,sk,lg,q,te,es,lk,l1,M,day,m,gs,key,.non,false,rfl,I1.S,by omega,rn,by omega,g1,t1 _ _ hkt,eo,dd2,.inl rfl,by omega,h9M.1,fun w G2 t2 du=>?_⟩
   rw[hM]
   clear hM n2
   have t02:=t1.trans t2
   have I2:=I.same t02 (ai _)
   have fr2:FrK ed dn de cl sd nw sk lg Gk G2:=fun c o c1 c2 c3 c4 c5 c6 c7 c8 e=>t02 _ _ (fr c o c1 c2 c3 c4 c5 c6 c7 c8 e)
   have S2:=frk fr2
   refine cN fun n2 hM=>?_
   and_intros
   refine yj (str:=false) I2 hMM (C5.same S2) ok ((s05.trans S2) _ _ Tb) ((s05.trans S2) _ _ Tb1) (t2 _ _ g1) (t02 _ _ hkt) eo dd2 dd0 dd1 (.inl rfl) (by omega) (by omega) du (fun s G3 e t3=>?_) fun n G3 e dd=>?_
   ·subst e
    and_intros
    rw[if_neg (by simp)]
    show n2 _ _ _
    rw[hM]
    clear hM n2
    and_intros
    refine⟨trivial,.str,rfl,?_⟩
    rw[if_neg (by decide)]
    exact hNx _ _ ⟨_,_,_,es,lk,l1,m,gs,rfl,I2.same t3 (iF _),(fun c o c1 c2 c3 c4 c5 c6 c7 c8 e=>t3 _ _ (fr2 c o c1 c2 c3 c4 c5 c6 c7 c8 e)),fun d hd=>Int.le_trans dd2 (dd3 d hd)⟩
   ·subst e
    and_intros
    rw[if_neg (by simp)]
    show n2 _ _ _
    rw[hM]
    clear hM n2
    and_intros
    refine⟨trivial,.int,rfl,?_⟩
    rw[if_pos (by decide)]
    exact vj (str:=false) I2 ap (t2 _ _ g1) (t02 _ _ hkt) eo dd2 (by omega) dd fun lk' es' G4 I4 f4=>hNx _ _ ⟨_,_,_,es',lk',day,m+1,_,rfl,I4,(fun c o c1 c2 c3 c4 c5 c6 c7 c8 e=>f4 c o c1 c2 c3 c4 c5 c6 c7 c8 (fr2 c o c1 c2 c3 c4 c5 c6 c7 c8 e)),dd3⟩
  rintro σ Gl ⟨o6',o7',o11,es,lk,l1,m,gs,rfl,I,fr,_⟩
  show nn _ _ _
  cbv
  have SG:=frk fr
  have I:KI Ad Gl ed b ca dn de cl sd st nw sk lg M 15 es lk l1 m gs:=I
  have mi:=I.mi
  obtain⟨jj,hjj⟩:=tT 1000000000 I.up
  obtain⟨dx1,he1⟩:=I.E.eF
  and_intros
  refine⟨dx1,_,he1,rfl,⟨by decide,by decide,by decide⟩,?_⟩
  rw[show (10:Int)^Int.toNat 9=1000000000 by decide]
  refine⟨ed,.int 1000000000,rfl,.inr ⟨b,ca,dn,de,cl,sd,es,lk,l1,1000000000,m,jj,al,ws,r,gs,rfl,I.E,C5.same SG,ok,(s05.trans SG) _ _ Tb,by omega,I.ro,hjj,(fun l hl=>by rw[hMM];exact I.gp l hl),by decide,by decide,fun b' dn' de' es' G2 t2 B2 pm=>?_⟩⟩
  have I2:=I.same t2 (ai _)
  obtain⟨bx2,hb2⟩:=B2.bk
  have lpm:es'.length<64:=by
   obtain⟨lsg,_,h2,_,h4⟩:=I.S.g
   have h5:lsg.length=gs.length:=Paired.length h4
   have h6:=oK (gs.take jj) []
   have h7:es'.length=((gs.take jj).foldl eI []).length:=pm.length_eq
   rw[gI,eU] at h6
   omega
  and_intros
  refine⟨bx2,_,hb2,cI (by decide) (by decide) (by decide) ca dn' de',b',ca,dn',de',es',rfl,B2,lpm,fun D3 ws3 ms3 G3 hD3 t3 g3 mp3 ml3 mP3=>⟨⟨by decide,by decide,by decide⟩,?_⟩⟩
  refine⟨st,nw,sk,lg,es,lk,l1,1000000000,m,jj,gs,rfl,I2.S.same t3,by omega,I.ro,hjj,fun D4 ws4 ms4 G4 t4 g4 mp4 ml4 mP4=>?_⟩
  obtain rfl:ms4=ms3:=pH ml4 ml3 (mp4.trans (pm.symm.trans mp3.symm))
  exact⟨1,true,by decide,yo (t4 _ _ g3) g4 (mJ mP3 fun v m _ ⟨q,e1,e2⟩=>⟨q,e1,t4 _ _ e2⟩) mP4,k _⟩
end
theorem all_mk {l:PySem.W.OpenLaw}{w:World}{h:Heap}{mg:Str->Option Value}{fa:Addr}{k_Code k_Book k_Editions k_CableError k_NoCode k_NoNumber k_NoWord k_NoEntry k_Twice k_TooMany k_NoDay k_cd k_tb k_cd1 k_tb1:Addr}{f6 f11 f13 f14 f15 f20 f21 f45:Addr} (X:K.In h) (G:h.Ns mainGlobals mg) (hfa:mg "law"=some (.ref fa))
  {od6 an6 od11 an11 od13 an13 od14 an14 od15 an15 od20 an20 od21 an21 od45 an45:Option Addr}{sl6 sl11 sl13 sl14 sl15 sl20 sl21 sl45:Array (Option Value)}{oc6 kV6 dc6 pm6 cd6 ct6 oc11 kV11 dc11 pm11 cd11 ct11 oc13 kV13 dc13 pm13 ct13 oc14 kV14 dc14 pm14 cd14 ct14 oc15 kV15 dc15 pm15 cd15 ct15 oc20 kV20 dc20 pm20 cd20 ct20 oc21 kV21 dc21 pm21 ct21 oc45 kV45 dc45 pm45 cd45 ct45:Value}
  (y0:PySem.W.nsIn K mainGlobals "Code"=some (some (.ref k_Code)))
  (y1:PySem.W.nsIn K mainGlobals "Book"=some (some (.ref k_Book)))
  (y2:PySem.W.nsIn K mainGlobals "Editions"=some (some (.ref k_Editions)))
  (y3:PySem.W.nsIn K mainGlobals "CableError"=some (some (.ref k_CableError)))
  (y4:PySem.W.nsIn K mainGlobals "NoCode"=some (some (.ref k_NoCode)))
  (y5:PySem.W.nsIn K mainGlobals "NoNumber"=some (some (.ref k_NoNumber)))
  (y6:PySem.W.nsIn K mainGlobals "NoWord"=some (some (.ref k_NoWord)))
  (y7:PySem.W.nsIn K mainGlobals "NoEntry"=some (some (.ref k_NoEntry)))
  (y8:PySem.W.nsIn K mainGlobals "Twice"=some (some (.ref k_Twice)))
  (y9:PySem.W.nsIn K mainGlobals "TooMany"=some (some (.ref k_TooMany)))
  (y10:PySem.W.nsIn K mainGlobals "NoDay"=some (some (.ref k_NoDay)))
  (d0:fj K "is_whole" mU)
  (d1:fj K "common_divisor" gi)
  (d2:fj K "are_safe" mR)
  (d3:fj K "is_alphabet" jg)
  (d4:fj K "is_below" mS)
  (d5:fj K "are_weights" jf)
  (a6:PySem.W.findIn K (.ref k_Code) "__init__"=some (some (.ref f6)))
  (i6:PySem.W.isFn K (.ref f6)=true)
  (l6:K.lookup f6=some ⟨oc6,od6,.func (PySem.W.fnOf "__init__" "Code.__init__" (bT fz) (bD fz) (ak fz) .none kV6 dc6 pm6 an6 cd6 ct6),sl6⟩)
  (c6:PySem.W.codeIn K cd6 "Code.__init__"=true)
  (k6:PySem.W.keepIn K (.ref f6)=true)
  (d7:m4 K k_Code "many" "Code.many" kW)
  (d8:fj K "are_letters" jd)
  (d9:fj K "are_words" kX)
  (d10:fj K "is_entry" mT)
  (a11:PySem.W.findIn K (.ref k_Book) "__init__"=some (some (.ref f11)))
  (i11:PySem.W.isFn K (.ref f11)=true)
  (l11:K.lookup f11=some ⟨oc11,od11,.func (PySem.W.fnOf "__init__" "Book.__init__" (bT fw) (bD fw) (ak fw) .none kV11 dc11 pm11 an11 cd11 ct11),sl11⟩)
  (c11:PySem.W.codeIn K cd11 "Book.__init__"=true)
  (k11:PySem.W.keepIn K (.ref f11)=true)
  (d12:m4 K k_Book "code" "Book.code" kU)
  (a13:PySem.W.findIn K (.ref k_Book) "put"=some (some (.ref f13)))
  (i13:PySem.W.isFn K (.ref f13)=true)
  {dt13:Addr}{tc13:Value}{td13:Option Addr}{tn13:Nat}{ts13:Array (Option Value)}
  (l13:K.lookup f13=some ⟨oc13,od13,.func (PySem.W.fnOf "put" "Book.put" (bT cy) (bD cy) (ak cy) (.ref dt13) kV13 dc13 pm13 an13 (.ref k_cd) ct13),sl13⟩)
  (t13:K.lookup dt13=some ⟨tc13,td13,.seq #[.none] tn13,ts13⟩)
  (c13:PySem.W.codeIn K (.ref k_cd) "Book.put"=true)
  (k13:PySem.W.keepIn K (.ref f13)=true)
  (a14:PySem.W.findIn K (.ref k_Book) "choose"=some (some (.ref f14)))
  (i14:PySem.W.isFn K (.ref f14)=true)
  (l14:K.lookup f14=some ⟨oc14,od14,.func (PySem.W.fnOf "choose" "Book.choose" (bT dU) (bD dU) (ak dU) .none kV14 dc14 pm14 an14 cd14 ct14),sl14⟩)
  (c14:PySem.W.codeIn K cd14 "Book.choose"=true)
  (k14:PySem.W.keepIn K (.ref f14)=true)
  (a15:PySem.W.findIn K (.ref k_Book) "least_free"=some (some (.ref f15)))
  (i15:PySem.W.isFn K (.ref f15)=true)
  (l15:K.lookup f15=some ⟨oc15,od15,.func (PySem.W.fnOf "least_free" "Book.least_free" (bT cp) (bD cp) (ak cp) .none kV15 dc15 pm15 an15 cd15 ct15),sl15⟩)
  (c15:PySem.W.codeIn K cd15 "Book.least_free"=true)
  (k15:PySem.W.keepIn K (.ref f15)=true)
  (d16:m4 K k_Book "strike" "Book.strike" jc)
  (d17:m4 K k_Book "number" "Book.number" jb)
  (d18:m4 K k_Book "entries" "Book.entries" ir)
  (d19:fj K "is_day" rB)
  (a20:PySem.W.findIn K (.ref k_Editions) "__init__"=some (some (.ref f20)))
  (i20:PySem.W.isFn K (.ref f20)=true)
  (l20:K.lookup f20=some ⟨oc20,od20,.func (PySem.W.fnOf "__init__" "Editions.__init__" (bT cS) (bD cS) (ak cS) .none kV20 dc20 pm20 an20 cd20 ct20),sl20⟩)
  (c20:PySem.W.codeIn K cd20 "Editions.__init__"=true)
  (k20:PySem.W.keepIn K (.ref f20)=true)
  (a21:PySem.W.findIn K (.ref k_Editions) "put"=some (some (.ref f21)))
  (i21:PySem.W.isFn K (.ref f21)=true)
  {dt21:Addr}{tc21:Value}{td21:Option Addr}{tn21:Nat}{ts21:Array (Option Value)}
  (l21:K.lookup f21=some ⟨oc21,od21,.func (PySem.W.fnOf "put" "Editions.put" (bT bC) (bD bC) (ak bC) (.ref dt21) kV21 dc21 pm21 an21 (.ref k_cd1) ct21),sl21⟩)
  (t21:K.lookup dt21=some ⟨tc21,td21,.seq #[.none] tn21,ts21⟩)
  (c21:PySem.W.codeIn K (.ref k_cd1) "Editions.put"=true)
  (k21:PySem.W.keepIn K (.ref f21)=true)
  (d22:m4 K k_Editions "strike" "Editions.strike" fN)
  (d23:m4 K k_Editions "book" "Editions.book" gT)
  (d24:m4 K k_Editions "last_day" "Editions.last_day" eR)
  (d25:m4 K k_Editions "check_change" "Editions.check_change" dr)
  (d26:m4 K k_Editions "is_barred" "Editions.is_barred" eA)
  (d27:m4 K k_Editions "note_change" "Editions.note_change" dN)
  (d28:fj K "_law_cell_at" jh)
  (d29:fj K "_law_mixed" lb)
  (d30:fj K "_law_apart" kY)
  (d31:fj K "_law_weights" jo)
  (d32:fj K "_law_code_parts" gj)
  (d33:fj K "_law_many" mY)
  (d34:fj K "_law_pool" mZ)
  (d35:fj K "_law_free" mV)
  (d36:fj K "_law_due" oW)
  (d37:fj K "_law_kept" mX)
  (d38:fj K "_law_edition" ji)
  (d39:fj K "_law_deeds" kZ)
  (d40:fj K "_law_did" oV)
  (d41:fj K "_law_odd" oX)
  (d42:fj K "_law_refused" jm)
  (d43:fj K "_law_full" mW)
  (d44:fj K "_law_no_book" jk)
  (a45:PySem.W.nsIn K mainGlobals "law"=some (some (.ref f45)))
  (l45:K.lookup f45=some ⟨oc45,od45,.func (PySem.W.fnOf "law" "law" (bT nK) (bD nK) (ak nK) .none kV45 dc45 pm45 an45 cd45 ct45),sl45⟩)
  (c45:PySem.W.codeIn K cd45 "law"=true)
  (k45:PySem.W.keepIn K (.ref f45)=true)
  (y90:PySem.W.plainGet K k_Code Str.empty=true)
  (y91:PySem.W.hasDictIn K k_Code=true)
  (y92:PySem.W.plainOver K k_Code=true)
  (y93:PySem.W.findIn K (.ref k_Code) "__setattr__"=some (some (.builtin "object.__setattr__")))
  (y94:PySem.W.makesIn K k_Code=true)
  (y95:PySem.W.keepIn K (.ref k_Code)=true)
  (y96:PySem.W.findIn K (.ref k_Code) "letters"=some none)
  (y97:PySem.W.findIn K (.ref k_Code) "factors"=some none)
  (y98:PySem.W.findIn K (.ref k_Code) "remainder"=some none)
  (y99:PySem.W.plainGet K k_Book Str.empty=true)
  (y100:PySem.W.hasDictIn K k_Book=true)
  (y101:PySem.W.plainOver K k_Book=true)
  (y102:PySem.W.findIn K (.ref k_Book) "__setattr__"=some (some (.builtin "object.__setattr__")))
  (y103:PySem.W.makesIn K k_Book=true)
  (y104:PySem.W.keepIn K (.ref k_Book)=true)
  (y105:PySem.W.findIn K (.ref k_Book) "basis"=some none)
  (y106:PySem.W.findIn K (.ref k_Book) "by_number"=some none)
  (y107:PySem.W.findIn K (.ref k_Book) "by_entry"=some none)
  (y108:PySem.W.plainGet K k_Editions Str.empty=true)
  (y109:PySem.W.hasDictIn K k_Editions=true)
  (y110:PySem.W.plainOver K k_Editions=true)
  (y111:PySem.W.findIn K (.ref k_Editions) "__setattr__"=some (some (.builtin "object.__setattr__")))
  (y112:PySem.W.makesIn K k_Editions=true)
  (y113:PySem.W.keepIn K (.ref k_Editions)=true)
  (y114:PySem.W.findIn K (.ref k_Editions) "current"=some none)
  (y115:PySem.W.findIn K (.ref k_Editions) "changes"=some none)
  (y116:PySem.W.findIn K (.ref k_Editions) "struck"=some none)
  (y117:PySem.W.findIn K (.ref k_Editions) "latest"=some none)
  (y118:PySem.W.excIn K k_NoCode [.type "ValueError",.type "Exception",.type "BaseException",.type "object"] "ValueError.__new__"=true)
  (y119:PySem.W.excIn K k_NoNumber [.type "ValueError",.type "Exception",.type "BaseException",.type "object"] "ValueError.__new__"=true)
  (y120:PySem.W.excIn K k_NoWord [.type "ValueError",.type "Exception",.type "BaseException",.type "object"] "ValueError.__new__"=true)
  (y121:PySem.W.excIn K k_NoEntry [.type "ValueError",.type "Exception",.type "BaseException",.type "object"] "ValueError.__new__"=true)
  (y122:PySem.W.excIn K k_Twice [.type "ValueError",.type "Exception",.type "BaseException",.type "object"] "ValueError.__new__"=true)
  (y123:PySem.W.excIn K k_TooMany [.type "ValueError",.type "Exception",.type "BaseException",.type "object"] "ValueError.__new__"=true)
  (y124:PySem.W.excIn K k_NoDay [.type "ValueError",.type "Exception",.type "BaseException",.type "object"] "ValueError.__new__"=true)
  (tab:PySem.W.codeHdIn K k_cd k_tb=true)
  (y126:PySem.W.codeHdIn K k_cd1 k_tb1=true)
  (err:tU K k_CableError [k_NoCode,k_NoNumber,k_NoWord,k_NoEntry,k_Twice,k_TooMany,k_NoDay]=true)
  (ndx:ndB [k_NoCode,k_NoNumber,k_NoWord,k_NoEntry,k_Twice,k_TooMany,k_NoDay]=true)
  {u_SMALL_LETTERS:Value}
  (y129:PySem.W.nsIn K mainGlobals "SMALL_LETTERS"=some (some u_SMALL_LETTERS))
  (y130:RelV (.str "abcdefghijklmnopqrstuvwxyz") u_SMALL_LETTERS)
  {u_LONGEST_WORD:Value}
  (y131:PySem.W.nsIn K mainGlobals "LONGEST_WORD"=some (some u_LONGEST_WORD))
  (y132:RelV (.int 20) u_LONGEST_WORD)
  {u_MOST_ENTRIES:Value}
  (y133:PySem.W.nsIn K mainGlobals "MOST_ENTRIES"=some (some u_MOST_ENTRIES))
  (y134:RelV (.int 300) u_MOST_ENTRIES)
  {u_MOST_PHRASE_WORDS:Value}
  (y135:PySem.W.nsIn K mainGlobals "MOST_PHRASE_WORDS"=some (some u_MOST_PHRASE_WORDS))
  (y136:RelV (.int 6) u_MOST_PHRASE_WORDS)
  {u_MOST_PART_LETTERS:Value}
  (y137:PySem.W.nsIn K mainGlobals "MOST_PART_LETTERS"=some (some u_MOST_PART_LETTERS))
  (y138:RelV (.int 6) u_MOST_PART_LETTERS)
  {u_LATEST_DAY:Value}
  (y139:PySem.W.nsIn K mainGlobals "LATEST_DAY"=some (some u_LATEST_DAY))
  (y140:RelV (.int 1000000000) u_LATEST_DAY)
  {u_DAYS_BARRED:Value}
  (y141:PySem.W.nsIn K mainGlobals "DAYS_BARRED"=some (some u_DAYS_BARRED))
  (y142:RelV (.int 31) u_DAYS_BARRED)
  (y143:PySem.W.nsIn K mainGlobals "isinstance"=some none)
  (y144:PySem.W.nsIn K mainGlobals "bool"=some none)
  (y145:PySem.W.nsIn K mainGlobals "int"=some none)
  (y146:PySem.W.nsIn K mainGlobals "abs"=some none)
  (y147:PySem.W.nsIn K mainGlobals "all"=some none)
  (y148:PySem.W.nsIn K mainGlobals "zip"=some none)
  (y149:PySem.W.nsIn K mainGlobals "len"=some none)
  (y150:PySem.W.nsIn K mainGlobals "set"=some none)
  (y151:PySem.W.nsIn K mainGlobals "str"=some none)
  (y152:PySem.W.nsIn K mainGlobals "list"=some none)
  (y153:PySem.W.nsIn K mainGlobals "tuple"=some none)
  (y154:PySem.W.nsIn K mainGlobals "sorted"=some none)
  (y155:PySem.W.nsIn K mainGlobals "range"=some none)
  (y156:PySem.W.nsIn K mainGlobals "min"=some none)
  (y157:PySem.W.nsIn K mainGlobals "ValueError"=some none)
  (y158:PySem.W.nsIn K mainGlobals "max"=some none)
  : (∀ p∈[(k_tb,qO),(k_tb1,ny)],∃ c,PySem.W.codeHdIn K c p.1=true)/\∃ fd:FuncData,(∀ (s:Shared) (v:Value),BindsTo s fd ⟨[v],[]⟩ [("_law_script",v)])/\∀ base:Heap,K.In base->base.Ns mainGlobals mg->bI l.prog w K mg base (CX1 l.prog w) 10 fa fd ["_law_script"] (xN K k_tb k_tb1):=by
 have e:=hfa.symm.trans (bS X G a45)
 cases e
 have T:Bl mg:=⟨cA X G y143,cA X G y144,cA X G y145,cA X G y146,cA X G y147,cA X G y148,cA X G y149,cA X G y150,cA X G y151,cA X G y152,cA X G y153,cA X G y154,cA X G y155,cA X G y156,cA X G y157,cA X G y158⟩
 have AF:AdF K mg ⟨k_Code,k_Book,k_Editions,k_CableError,k_NoCode,k_NoNumber,k_NoWord,k_NoEntry,k_Twice,k_TooMany,k_NoDay,k_cd,k_tb,k_cd1,k_tb1,()⟩:=⟨bS X G y0,bS X G y1,bS X G y2,bS X G y3,bS X G y4,bS X G y5,bS X G y6,bS X G y7,bS X G y8,bS X G y9,bS X G y10,⟨y90,y91,y92,y93⟩,y96,y97,y98,⟨y99,y100,y101,y102⟩,y105,y106,y107,⟨y108,y109,y110,y111⟩,y114,y115,y116,y117,y118,y119,y120,y121,y122,y123,y124,tab,y126,err,ndx,⟨_,bS X G y129,y130⟩,⟨_,bS X G y131,y132⟩,⟨_,bS X G y133,y134⟩,⟨_,bS X G y135,y136⟩,⟨_,bS X G y137,y138⟩,⟨_,bS X G y139,y140⟩,⟨_,bS X G y141,y142⟩⟩
 have F6:=kI (st:=fz) l6 c6 k6
 have F11:=kI (st:=fw) l11 c11 k11
 have F13:=yt (st:=cy) l13 c13 k13
 have F14:=kI (st:=dU) l14 c14 k14
 have F15:=kI (st:=cp) l15 c15 k15
 have F20:=kI (st:=cS) l20 c20 k20
 have F21:=yt (st:=bC) l21 c21 k21
 have F45:=kI (st:=nK) l45 c45 k45
 refine⟨jJ.mpr ⟨⟨_,tab⟩,jJ.mpr ⟨⟨_,y126⟩,fun _ h=>nomatch h⟩⟩,PySem.W.fnOf "law" "law" (bT nK) (bD nK) (ak nK) .none kV45 dc45 pm45 an45 cd45 ct45,fun s v=>.of_eq rfl,fun base _ _=>?_⟩
 have Z {k:Nat}{x:Str}{st:Stmt}{ps:List Str}{sp:Sp}:=@fj.fnc l.prog w K h base mg k x st ps sp X G
 have Y {k:Nat}{m q:Str}{st:Stmt}{C:Addr}{ps:List Str}{sp:Sp}:=@m4.mtd l.prog w K base mg k m q st C ps sp
 have C_is_whole:=Z d0 (fun _ _ F=>vv F T AF ) fun _ _ _ _ _ _=>L2.bind1 fun _=>rfl
 have C_common_divisor:=Z d1 (fun _ _ F=>n8 F T AF ) fun _ _ _ _ _ _=>L2.fu fun _ _=>rfl
 have C_is_alphabet:=Z d3 (fun _ _ F=>rh F T AF ) fun _ _ _ _ _ _=>L2.bind1 fun _=>rfl
 have M_Code_many:=Y AF.c_Code d7 (fun _ _ F=>ui F T AF ) fun _ _ _ _ _ _=>L2.bind1 fun _=>rfl
 have C_are_letters:=Z d8 (fun _ _ F=>qZ F T AF ) fun _ _ _ _ _ _=>L2.fu fun _ _=>rfl
 have b11:=F11.binds (ps:=["self","code"]) fun _ _ _ _ _ _=>L2.fu fun _ _=>rfl
 have K_Book:Mak l.prog w K mg base (CX1 l.prog w) k_Book "Book" 1 ["self","code"] (hZ (⟨k_Code,k_Book,k_Editions,k_CableError,k_NoCode,k_NoNumber,k_NoWord,k_NoEntry,k_Twice,k_TooMany,k_NoDay,k_cd,k_tb,k_cd1,k_tb1,()⟩:Ads)):=⟨⟨f11,_,ug F11 T AF ,⟨y103,a11,i11,y104⟩,b11⟩,AF.g_Book⟩
 have M_Book_code:=Y AF.c_Book d12 (fun _ _ F=>uf F T AF ) fun _ _ _ _ _ _=>L2.bind1 fun _=>rfl
 have M_Book_entries:=Y AF.c_Book d18 (fun _ _ F=>pQ F T AF ) fun _ _ _ _ _ _=>L2.bind1 fun _=>rfl
 have M_Editions_last_day:=Y AF.c_Editions d24 (fun _ _ F=>kO F T AF ) fun _ _ _ _ _ _=>L2.bind1 fun _=>rfl
 have M_Editions_is_barred:=Y AF.c_Editions d26 (fun _ _ F=>kA F T AF ) fun _ _ _ _ _ _=>L2.qt fun _ _ _ _=>rfl
 have M_Editions_note_change:=Y AF.c_Editions d27 (fun _ _ F=>jz F T AF ) fun _ _ _ _ _ _=>L2.qt fun _ _ _ _=>rfl
 have C_law_cell_at:=Z d28 (fun _ _ F=>ri F T AF ) fun _ _ _ _ _ _=>L2.fu fun _ _=>rfl
 have C_law_mixed:=Z d29 (fun _ _ F=>uo F T AF ) fun _ _ _ _ _ _=>L2.bind1 fun _=>rfl
 have C_law_apart:=Z d30 (fun _ _ F=>uk F T AF ) fun _ _ _ _ _ _=>L2.fu fun _ _=>rfl
 have C_law_many:=Z d33 (fun _ _ F=>vz F T AF ) fun _ _ _ _ _ _=>L2.bind1 fun _=>rfl
 have C_law_pool:=Z d34 (fun _ _ F=>v8 F T AF ) fun _ _ _ _ _ _=>L2.bind1 fun _=>rfl
 have C_law_free:=Z d35 (fun _ _ F=>vw F T AF ) fun _ _ _ _ _ _=>L2.qt fun _ _ _ _=>rfl
 have C_law_kept:=Z d37 (fun _ _ F=>vy F T AF ) fun _ _ _ _ _ _=>L2.uK fun _ _ _=>rfl
 have C_law_edition:=Z d38 (fun _ _ F=>rj F T AF ) fun _ _ _ _ _ _=>L2.fu fun _ _=>rfl
 have C_law_odd:=Z d41 (fun _ _ F=>xu F T AF ) fun _ _ _ _ _ _=>L2.qt fun _ _ _ _=>rfl
 have C_are_safe:=Z d2 (fun _ _ F=>vp F T AF C_common_divisor) fun _ _ _ _ _ _=>L2.fu fun _ _=>rfl
 have C_is_below:=Z d4 (fun _ _ F=>vq F T AF C_is_whole) fun _ _ _ _ _ _=>L2.fu fun _ _=>rfl
 have C_are_words:=Z d9 (fun _ _ F=>uj F T AF C_are_letters) fun _ _ _ _ _ _=>L2.fu fun _ _=>rfl
 have b15:=F15.binds (ps:=["self","is_barred"]) fun _ _ _ _ _ _=>L2.fu fun _ _=>rfl
 have M_Book_least_free:qo l.prog w K mg base (CX1 l.prog w) k_Book "least_free" 2 1 ["self","is_barred"] (dO (⟨k_Code,k_Book,k_Editions,k_CableError,k_NoCode,k_NoNumber,k_NoWord,k_NoEntry,k_Twice,k_TooMany,k_NoDay,k_cd,k_tb,k_cd1,k_tb1,()⟩:Ads)):=⟨⟨f15,_,fun k=>mG (k:=k) F15 T AF M_Code_many,⟨a15,i15,k15⟩,b15⟩,AF.c_Book⟩
 have C_law_weights:=Z d31 (fun _ _ F=>rq F T AF C_law_apart) fun _ _ _ _ _ _=>L2.uK fun _ _ _=>rfl
 have C_law_due:=Z d36 (fun _ _ F=>xt F T AF C_law_free) fun _ _ _ _ _ _=>L2.uK fun _ _ _=>rfl
 have C_law_deeds:=Z d39 (fun _ _ F=>um F T AF C_law_mixed) fun _ _ _ _ _ _=>L2.qt fun _ _ _ _=>rfl
 have C_are_weights:=Z d5 (fun _ _ F=>rg F T AF C_is_below) fun _ _ _ _ _ _=>L2.fu fun _ _=>rfl
 have C_is_entry:=Z d10 (fun _ _ F=>vt F T AF C_are_letters C_are_words) fun _ _ _ _ _ _=>L2.bind1 fun _=>rfl
 have C_is_day:=Z d19 (fun _ _ F=>zW F T AF C_is_below) fun _ _ _ _ _ _=>L2.bind1 fun _=>rfl
 have b20:=F20.binds (ps:=["self","code"]) fun _ _ _ _ _ _=>L2.fu fun _ _=>rfl
 have K_Editions:Mak l.prog w K mg base (CX1 l.prog w) k_Editions "Editions" 3 ["self","code"] (eO (⟨k_Code,k_Book,k_Editions,k_CableError,k_NoCode,k_NoNumber,k_NoWord,k_NoEntry,k_Twice,k_TooMany,k_NoDay,k_cd,k_tb,k_cd1,k_tb1,()⟩:Ads)):=⟨⟨f20,_,oR F20 T AF K_Book,⟨y112,a20,i20,y113⟩,b20⟩,AF.g_Editions⟩
 have C_law_code_parts:=Z d32 (fun _ _ F=>n9 F T AF C_law_weights C_law_mixed C_law_cell_at) fun _ _ _ _ _ _=>L2.bind1 fun _=>rfl
 have b6:=F6.binds (ps:=["self","alphabet","weights","rest"]) fun _ _ _ _ _ _=>L2.qt fun _ _ _ _=>rfl
 have K_Code:Mak l.prog w K mg base (CX1 l.prog w) k_Code "Code" 4 ["self","alphabet","weights","rest"] (eN (⟨k_Code,k_Book,k_Editions,k_CableError,k_NoCode,k_NoNumber,k_NoWord,k_NoEntry,k_Twice,k_TooMany,k_NoDay,k_cd,k_tb,k_cd1,k_tb1,()⟩:Ads)):=⟨⟨f6,_,uh F6 T AF C_are_safe C_is_below C_are_weights C_is_alphabet,⟨y94,a6,i6,y95⟩,b6⟩,AF.g_Code⟩
 have b14:=F14.binds (ps:=["self","entry","number","is_barred"]) fun _ _ _ _ _ _=>L2.qt fun _ _ _ _=>rfl
 have M_Book_choose:qo l.prog w K mg base (CX1 l.prog w) k_Book "choose" 4 1 ["self","entry","number","is_barred"] (eE (⟨k_Code,k_Book,k_Editions,k_CableError,k_NoCode,k_NoNumber,k_NoWord,k_NoEntry,k_Twice,k_TooMany,k_NoDay,k_cd,k_tb,k_cd1,k_tb1,()⟩:Ads)):=⟨⟨f14,_,fun k=>qW (k:=k) F14 T AF C_is_below C_is_entry M_Book_least_free M_Code_many,⟨a14,i14,k14⟩,b14⟩,AF.c_Book⟩
 have M_Book_number:=Y AF.c_Book d17 (fun _ _ F=>qX F T AF C_is_entry) fun _ _ _ _ _ _=>L2.fu fun _ _=>rfl
 have M_Editions_check_change:=Y AF.c_Editions d25 (fun _ _ F=>iY F T AF C_is_day) fun _ _ _ _ _ _=>L2.fu fun _ _=>rfl
 have M_Book_strike:=Y AF.c_Book d16 (fun _ _ F=>qY F T AF M_Book_number) fun _ _ _ _ _ _=>L2.fu fun _ _=>rfl
 have b13:Binds K (PySem.W.fnOf "put" "Book.put" (bT cy) (bD cy) (ak cy) (.ref dt13) kV13 dc13 pm13 an13 (.ref k_cd) ct13) ["self","entry","number"] []:=fun s us hK hl=>by rcases us with _ | ⟨_,_ | ⟨_,_ | ⟨_,_ | _⟩⟩⟩<;>first | (simp at hl;done) | exact .of_defaults rfl (hK _ _ t13) rfl rfl rfl
 have bd13:Binds K (PySem.W.fnOf "put" "Book.put" (bT cy) (bD cy) (ak cy) (.ref dt13) kV13 dc13 pm13 an13 (.ref k_cd) ct13) ["self","entry","number"] [.none]:=fun s us hK hl=>by rcases us with _ | ⟨_,_ | ⟨_,_ | _⟩⟩<;>first | (simp at hl;done) | exact .of_defaults rfl (hK _ _ t13) rfl rfl rfl
 have M_Book_put:Mtd l.prog w K mg base (CX1 l.prog w) k_Book "put" 6 ["self","entry","number"] (fA (⟨k_Code,k_Book,k_Editions,k_CableError,k_NoCode,k_NoNumber,k_NoWord,k_NoEntry,k_Twice,k_TooMany,k_NoDay,k_cd,k_tb,k_cd1,k_tb1,()⟩:Ads)):=⟨⟨f13,_,p8 F13 T AF rfl M_Book_choose,⟨a13,i13,k13⟩,b13⟩,AF.c_Book⟩
 have D_Book_put:A3 l.prog w K mg base (CX1 l.prog w) k_Book "put" 6 ["self","entry","number"] (fA (⟨k_Code,k_Book,k_Editions,k_CableError,k_NoCode,k_NoNumber,k_NoWord,k_NoEntry,k_Twice,k_TooMany,k_NoDay,k_cd,k_tb,k_cd1,k_tb1,()⟩:Ads)):=⟨⟨f13,_,p8 F13 T AF rfl M_Book_choose,⟨a13,i13,k13⟩,bd13⟩,AF.c_Book⟩
 have M_Editions_strike:=Y AF.c_Editions d22 (fun _ _ F=>mH F T AF M_Editions_note_change M_Book_strike M_Editions_check_change) fun _ _ _ _ _ _=>L2.uK fun _ _ _=>rfl
 have b21:Binds K (PySem.W.fnOf "put" "Editions.put" (bT bC) (bD bC) (ak bC) (.ref dt21) kV21 dc21 pm21 an21 (.ref k_cd1) ct21) ["self","day","entry","number"] []:=fun s us hK hl=>by rcases us with _ | ⟨_,_ | ⟨_,_ | ⟨_,_ | ⟨_,_ | _⟩⟩⟩⟩<;>first | (simp at hl;done) | exact .of_defaults rfl (hK _ _ t21) rfl rfl rfl
 have bd21:Binds K (PySem.W.fnOf "put" "Editions.put" (bT bC) (bD bC) (ak bC) (.ref dt21) kV21 dc21 pm21 an21 (.ref k_cd1) ct21) ["self","day","entry","number"] [.none]:=fun s us hK hl=>by rcases us with _ | ⟨_,_ | ⟨_,_ | ⟨_,_ | _⟩⟩⟩<;>first | (simp at hl;done) | exact .of_defaults rfl (hK _ _ t21) rfl rfl rfl
 have M_Editions_put:Mtd l.prog w K mg base (CX1 l.prog w) k_Editions "put" 7 ["self","day","entry","number"] (b7 (⟨k_Code,k_Book,k_Editions,k_CableError,k_NoCode,k_NoNumber,k_NoWord,k_NoEntry,k_Twice,k_TooMany,k_NoDay,k_cd,k_tb,k_cd1,k_tb1,()⟩:Ads)):=⟨⟨f21,_,kx F21 T AF rfl M_Editions_note_change M_Book_put M_Book_choose M_Editions_is_barred M_Editions_check_change,⟨a21,i21,k21⟩,b21⟩,AF.c_Editions⟩
 have D_Editions_put:A3 l.prog w K mg base (CX1 l.prog w) k_Editions "put" 7 ["self","day","entry","number"] (b7 (⟨k_Code,k_Book,k_Editions,k_CableError,k_NoCode,k_NoNumber,k_NoWord,k_NoEntry,k_Twice,k_TooMany,k_NoDay,k_cd,k_tb,k_cd1,k_tb1,()⟩:Ads)):=⟨⟨f21,_,kx F21 T AF rfl M_Editions_note_change M_Book_put M_Book_choose M_Editions_is_barred M_Editions_check_change,⟨a21,i21,k21⟩,bd21⟩,AF.c_Editions⟩
 have M_Editions_book:=Y AF.c_Editions d23 (fun _ _ F=>oQ F T AF C_is_day M_Book_put M_Book_code K_Book) fun _ _ _ _ _ _=>L2.fu fun _ _=>rfl
 have C_law_did:=Z d40 (fun _ _ F=>xq F T AF M_Editions_strike M_Editions_put D_Editions_put) fun _ _ _ _ _ _=>L2.fu fun _ _=>rfl
 have C_law_no_book:=Z d44 (fun _ _ F=>rl F T AF M_Editions_book) fun _ _ _ _ _ _=>L2.fu fun _ _=>rfl
 have C_law_refused:=Z d42 (fun _ _ F=>rp F T AF C_law_did) fun _ _ _ _ _ _=>L2.fu fun _ _=>rfl
 have C_law_full:=Z d43 (fun _ _ F=>vx F T AF C_law_did M_Editions_strike D_Editions_put K_Editions K_Code) fun _ _ _ _ _ _=>L2.bind1 fun _=>rfl
 exact GX F45 T AF C_law_edition C_law_kept C_law_did C_law_due C_law_cell_at C_law_full C_law_mixed C_law_no_book C_law_refused C_law_odd C_law_deeds C_law_pool C_law_many C_law_code_parts M_Book_entries M_Editions_book M_Editions_last_day K_Editions K_Code
end Kb
open PySem PySem.W PyProof.Rows
local macro_rules | `(tactic| ac_rfl) => `(tactic| first | (refine' L2.DJ ?a ?l ?c ?k; (case a => k_is); (case l => k_is); (case c => k_is); (case k => k_is)) | (refine' L2.DL ?a ?i ?l ?c ?k; (case a => k_is); (case i => k_is); (case l => k_is); (case c => k_is); (case k => k_is)))
set_option maxRecDepth 100000 in
set_option maxHeartbeats 0 in
theorem Hk.Jl:Hk.top.c:=by
 delta Hk.top
 dsimp only
 k_fill
 refine L2.Av (l:=PySem.Challenge.rw_cablehouse_k36_changes_refused) (n:=63) (k:=10) (x:="_law_script") (CX:=fun w=>L2.CX1 PySem.Challenge.rw_cablehouse_k36_changes_refused.prog w) (sp:=fun w=>Kb.xN _ _ _) [(_,Kb.qO),(_,Kb.ny)] rfl (by decide) rfl ⟨rfl,by decide,by decide⟩ (by decide +kernel) (fun w h Y=>⟨PySem.W.km_in_of Y,jJ.mpr ⟨PySem.W.km_tabs_of Y _ (.tail _ (.head _)),jJ.mpr ⟨PySem.W.km_tabs_of Y _ (.head _),fun _ h=>nomatch h⟩⟩⟩) ?F (fun w=>jJ.mpr ⟨by kernel_rfl,jJ.mpr ⟨by kernel_rfl,fun _ h=>nomatch h⟩⟩) (fun _ _ a ns hl hS hT=>⟨a,ns,rfl,hS,hl,hT _ (.head _),hT _ (.tail _ (.head _)),fun _=>rfl⟩) fun _ _ _ _ _ z=>L2.sA z
 case F =>
  intro w mg fa h KX G hmg
  refine' Kb.all_mk KX G hmg ?y0 ?y1 ?y2 ?y3 ?y4 ?y5 ?y6 ?y7 ?y8 ?y9 ?y10 ?d0 ?d1 ?d2 ?d3 ?d4 ?d5 ?a6 ?i6 ?l6 ?c6 ?k6 ?d7 ?d8 ?d9 ?d10 ?a11 ?i11 ?l11 ?c11 ?k11 ?d12 ?a13 ?i13 ?l13 ?t13 ?c13 ?k13 ?a14 ?i14 ?l14 ?c14 ?k14 ?a15 ?i15 ?l15 ?c15 ?k15 ?d16 ?d17 ?d18 ?d19 ?a20 ?i20 ?l20 ?c20 ?k20 ?a21 ?i21 ?l21 ?t21 ?c21 ?k21 ?d22 ?d23 ?d24 ?d25 ?d26 ?d27 ?d28 ?d29 ?d30 ?d31 ?d32 ?d33 ?d34 ?d35 ?d36 ?d37 ?d38 ?d39 ?d40 ?d41 ?d42 ?d43 ?d44 ?a45 ?l45 ?c45 ?k45 ?y90 ?y91 ?y92 ?y93 ?y94 ?y95 ?y96 ?y97 ?y98 ?y99 ?y100 ?y101 ?y102 ?y103 ?y104 ?y105 ?y106 ?y107 ?y108 ?y109 ?y110 ?y111 ?y112 ?y113 ?y114 ?y115 ?y116 ?y117 ?y118 ?y119 ?y120 ?y121 ?y122 ?y123 ?y124 ?tab ?y126 ?err ?ndx ?y129 ?y130 ?y131 ?y132 ?y133 ?y134 ?y135 ?y136 ?y137 ?y138 ?y139 ?y140 ?y141 ?y142 ?y143 ?y144 ?y145 ?y146 ?y147 ?y148 ?y149 ?y150 ?y151 ?y152 ?y153 ?y154 ?y155 ?y156 ?y157 ?y158
  (case y0 | y1 | y2 | y3 | y4 | y5 | y6 | y7 | y8 | y9 | y10=>k_is)
  (case d0 | d1 | d2 | d3 | d4 | d5=>ac_rfl)
  (case a6 | i6 | l6 | c6 | k6=>k_is)
  (case d7 | d8 | d9 | d10=>ac_rfl)
  (case a11 | i11 | l11 | c11 | k11=>k_is)
  (case d12=>ac_rfl)
  (case a13 | i13 | l13 | t13 | c13 | k13 | a14 | i14 | l14 | c14 | k14 | a15 | i15 | l15 | c15 | k15=>k_is)
  (case d16 | d17 | d18 | d19=>ac_rfl)
  (case a20 | i20 | l20 | c20 | k20 | a21 | i21 | l21 | t21 | c21 | k21=>k_is)
  (case d22 | d23 | d24 | d25 | d26 | d27 | d28 | d29 | d30 | d31 | d32 | d33 | d34 | d35 | d36 | d37 | d38 | d39 | d40 | d41 | d42 | d43 | d44=>ac_rfl)
  (case a45 | l45 | c45 | k45 | y90 | y91 | y92 | y93 | y94 | y95 | y96 | y97 | y98 | y99 | y100 | y101 | y102 | y103 | y104 | y105 | y106 | y107 | y108 | y109 | y110 | y111 | y112 | y113 | y114 | y115 | y116 | y117=>k_is)
  (case y118 | y119 | y120 | y121 | y122 | y123 | y124 | tab | y126 | err | ndx=>kernel_rfl)
  (case y129=>k_is)
  (case y130=>exact⟨_,rfl⟩)
  (case y131=>k_is)
  (case y132=>exact⟨_,rfl⟩)
  (case y133=>k_is)
  (case y134=>exact⟨_,rfl⟩)
  (case y135=>k_is)
  (case y136=>exact⟨_,rfl⟩)
  (case y137=>k_is)
  (case y138=>exact⟨_,rfl⟩)
  (case y139=>k_is)
  (case y140=>exact⟨_,rfl⟩)
  (case y141=>k_is)
  (case y142=>exact⟨_,rfl⟩)
  (case y143 | y144 | y145 | y146 | y147 | y148 | y149 | y150 | y151 | y152 | y153 | y154 | y155 | y156 | y157 | y158=>k_is)
theorem PySem.Challenge.cw_cablehouse_k36_changes_refused_holds : PySem.Challenge.rw_cablehouse_k36_changes_refused.Holds :=
 Hk.top.go Hk.Jc Hk.Jd Hk.Je Hk.Jf Hk.Jg Hk.Jh Hk.Ji Hk.Jj Hk.Jk Hk.Jm Hk.Jl
