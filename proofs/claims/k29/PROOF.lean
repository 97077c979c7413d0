import PyProof.Rows.All
import Wide.All
import OpenK.AllK
import Wide.FinOn
import Lean
import PyProof.EqAt
import PyProof.EqKinds
import PyProof.TupleCall
import PySem.Challenge.RW_cablehouse_k29_whole_asked_again
set_option Elab.async false
set_option linter.all false
set_option maxRecDepth 100000
local macro_rules | `(tactic| left) => `(tactic| first | assumption | lia | omega)
local macro_rules | `(⋯) => `(by left)
local macro_rules | `(⇑$x) => `(($x).length)
local macro_rules | `(tactic| nofun) => `(tactic| decide +kernel)
local macro_rules | `(tactic| ext) => `(tactic| kernel_rfl)
noncomputable abbrev Zq:=PySem.Value->PySem.Shared->Prop
noncomputable abbrev Zf:=PySem.W.Frag
noncomputable abbrev Zp:=List (PySem.Addr×PySem.Obj)
theorem Zd {p:Prop}[Decidable p] (h:decide p=true:=by rfl):p:=of_decide_eq_true h
noncomputable abbrev Zk:=PySem.Str->Option PySem.Value
noncomputable abbrev Za:=List Nat
noncomputable abbrev Zb:=List Int
noncomputable abbrev Zc:=List PySem.Value
noncomputable abbrev Ze:=List PySem.Str
noncomputable abbrev Zg:=PySem.Shared
noncomputable abbrev Zh:=PySem.Program
noncomputable abbrev Zi:=PySem.World
abbrev Zv:List PySem.Value:=[.type "ValueError",.type "Exception",.type "BaseException",.type "object"]
namespace Hd
open PySem PySem.W PyProof.Rows
theorem Nj {b1 b2 b3 a:Prop} (main:a) (hl:b1) (hw:b2) (hc:b3):a:=main
structure MM (r:Prop) where
  l1:Prop
  l2:Prop
  l3:Prop
  l4:Prop
  l5:Prop
  l6:Prop
  l7:Prop
  l8:Prop
  l9:Prop
  h:Prop
  c:Prop
  go:l1->l2->l3->l4->l5->l6->l7->l8->l9->h->c->r
theorem two {σ α β γ:Type}{x:Zi->OsState->Option σ}{as:List α}{f:σ->α->β}{h:σ->γ}{g:Zi->List β}{e:Zi->γ} (n:Nat)
    (h1:∀ w os,(x w os).map (fun s=>(as.take n).map (f s))=some ((g w).take n)) (h2:∀ w os,(x w os).map (fun s=>((as.drop n).map (f s),h s))=some ((g w).drop n,e w)):∀ w os,(x w os).map (fun s=>(as.map (f s),h s))=some (g w,e w):=fun w os=>by
  obtain⟨s,e0,e1⟩:=Option.map_eq_some_iff.mp (h1 w os);have e2:=h2 w os;rw[e0] at e2 ⊢;have e2:=Option.some.inj e2;simp only[Prod.mk.injEq] at e2;refine congrArg some (Prod.ext ?_ e2.2);show as.map (f s)=g w;rw[←List.take_append_drop n as,List.map_append,e1,e2.1,List.take_append_drop]
noncomputable def tree:List Obj->Nat->BT->BT
  | [],_,t=>t
  | o::l,n,t=>tree l (n+1) (t.ins n o)
noncomputable def Ą (st:SharedT->Thread->Option (SharedT×Thread)) (ok:Thread->Bool):Nat->SharedT->Thread->Option SharedT
  | 0,_,_=>none
  | n+1,s,t=>match through t with
    | true=>some s
    | false=>match ok t with
      | false=>none
      | true=>match st s t with
        | some (s',t')=>Ą st ok n s' t'
        | none=>none
theorem FX {tb:String->Option Builtin}{p:Zh}{w:Zi}{n₀:Nat}{ann:Option Value}:∀ {n:Nat}{s s':SharedT}{t:Thread},Ą (stepT (denote tb) p w) (stepOk n₀ ann) n s t=some s'->topRun tb p w n₀ ann n s.abs t=some s'.abs
  | 0,_,_,_,h=>nomatch h
  | n+1,s,s',t,h=>by
    unfold Ą at h;unfold topRun;cases ht:through t with
    | true=>rw[ht] at h;cases h;rfl
    | false =>
      rw[ht] at h;cases hk:stepOk n₀ ann t with
      | false=>rw[hk] at h;cases h
      | true =>
        rw[hk] at h;cases hs:stepT (denote tb) p w s t with
        | none=>rw[hs] at h;cases h
        | some r=>obtain⟨s₂,t₂⟩:=r;rw[hs] at h;rw[stepT_spec hs];exact FX h
noncomputable def boot (w:Zi) (os:OsState):SharedT:=⟨tree (boot_heap w.params).objs.toList 0 .nil,(boot_heap w.params).objs.size,(boot_heap w.params).life,#[],boot_drawn,boot_toks,os⟩
noncomputable def Ā (p:Zh) (N:Nat) (w:Zi) (os:OsState):Option SharedT:=Ą (stepT (denote treeTable) p w) (stepOk 11 (some (.ref 6))) N (boot w os) (topStub p)
theorem Dz (P:Params):absHeap (tree (boot_heap P).objs.toList 0 .nil) (boot_heap P).objs.size (boot_heap P).life=boot_heap P:=by ext
theorem Dy (P:Params):((boot_heap P).isNs mainGlobals,(boot_heap P).objs.size,(boot_heap P).nsMap mainGlobals "__annotations__")=(true,11,some (.ref 6)):=by ext
theorem six {σ α β γ δ ε ζ η θ ι:Type}{x:Zi->OsState->Option σ}{f1:σ->α}{f2:σ->β}{f3:σ->γ}{f4:σ->δ}{f5:σ->ε}{f6:σ->ζ}{f7:σ->η}{f8:σ->θ}{f9:σ->ι}{g1:α}{g2:β}{g3:γ}{g4:δ}{g5:ε}{g6:ζ}{g7:η}{g8:θ}{g9:ι}
    (h1:∀ w os,(x w os).map (fun s=>f1 s)=some g1) (h2:∀ w os,(x w os).map (fun s=>(f2 s,f3 s))=some (g2,g3)) (h3:∀ w os,(x w os).map (fun s=>(f4 s,f5 s))=some (g4,g5)) (h4:∀ w os,(x w os).map (fun s=>f6 s)=some g6)
    (h5:∀ w os,(x w os).map (fun s=>(f7 s,f8 s))=some (g7,g8)) (h6:∀ w os,(x w os).map (fun s=>f9 s)=some g9):∀ w os,(x w os).map (fun s=>(f1 s,f2 s,f3 s,f4 s,f5 s,f6 s,f7 s,f8 s,f9 s))=some (g1,g2,g3,g4,g5,g6,g7,g8,g9):=fun w os=>by
  obtain⟨s,e,e1⟩:=Option.map_eq_some_iff.mp (h1 w os);have e2:=h2 w os;have e3:=h3 w os;have e4:=h4 w os;have e5:=h5 w os;have e6:=h6 w os;rw[e] at e2 e3 e4 e5 e6 ⊢;have e2:=Option.some.inj e2;have e3:=Option.some.inj e3;have e4:=Option.some.inj e4;have e5:=Option.some.inj e5;have e6:=Option.some.inj e6;simp only[Prod.mk.injEq] at e2 e3 e5;exact congrArg some (Prod.ext e1 (Prod.ext e2.1 (Prod.ext e2.2 (Prod.ext e3.1 (Prod.ext e3.2 (Prod.ext e4 (Prod.ext e5.1 (Prod.ext e5.2 e6))))))))
theorem left {p q:Zh}{loose:Ze}{Xt:Zg->Bool}{α:Type}{Yf:Zg->α}{Ya:Zi->α}{N:Nat}{g0:Bool}
    (e:opening p=plainProg p.main.scope.names) (hN:Nat.ble 600 N=true) (f:∀ s,fenceModules? p s=some s)
    (r1:∀ w os,(Ā p N w os).map (fun s=>staticsOk (importedModules p.main.body) (boot_heap w.params) s.abs.heap&&namesBound p s.abs.heap&&gensDone s.abs&&laidKept (boot_heap w.params) s.abs.heap)=some true)
    (r2:∀ w os,(Ā p N w os).map (fun s=>openSeen q loose (importedModules p.main.body) Xt g0 s.abs)=some (openGood q loose))
    (r3:∀ w os,(Ā p N w os).map (fun s=>Yf s.abs)=some (Ya w)):LeftO p q loose Xt Yf Ya N g0:=fun w=>by
  obtain⟨⟨h,gs,d,k,os⟩,e,e'⟩:=Option.map_eq_some_iff.mp (boot_open e hN f w);obtain⟨rfl,rfl,rfl,rfl⟩:h=boot_heap w.params/\gs=#[]/\d=boot_drawn/\k=boot_toks:=by simpa using e'
  obtain⟨z1,z2,z3⟩:_/\_/\_:=by simpa only[Prod.mk.injEq] using Dy w.params
  obtain⟨s',r,l1⟩:=Option.map_eq_some_iff.mp (r1 w os);have l2:=r2 w os;have l3:=r3 w os;rw[r] at l2 l3;have l2:=Option.some.inj l2;have l3:=Option.some.inj l3;unfold Ā at r;have r:=FX r;have hB:(boot w os).abs=⟨boot_heap w.params,#[],boot_drawn,boot_toks,os⟩:=by unfold boot SharedT.abs;rw[Dz]
  rw[hB] at r;have t:topFrom treeTable p w N ⟨boot_heap w.params,#[],boot_drawn,boot_toks,os⟩=some s'.abs:=by unfold topFrom;dsimp only;rw[z1,z2,z3,r];show (match staticsOk (importedModules p.main.body) (boot_heap w.params) s'.abs.heap&&namesBound p s'.abs.heap&&gensDone s'.abs&&laidKept (boot_heap w.params) s'.abs.heap with | true=>_ | false=>_)=_;rw[l1]
  unfold openEnds;rw[e];show (topFrom treeTable p w N _).map _=_;rw[t];exact congrArg some (Prod.ext l2 l3)
theorem mq:@Ā=fun p N w os=>Ą (PySem.W.Fast.tw10156331382660048174 (denote PySem.W.Fast.tw14364793385576792824) p w) (PySem.W.Fast.tw6613529449190102663 11 (some (.ref 6))) N (boot w os) (topStub p):=by unfold Ā;rw[PySem.W.Fast.te10156331382660048174,PySem.W.Fast.te6613529449190102663,PySem.W.Fast.te14364793385576792824]
end Hd
section
open PySem PySem.W PyProof.Rows
set_option maxHeartbeats 0
noncomputable def Hk.top:Hd.MM PySem.Challenge.rw_cablehouse_k29_whole_asked_again.Holds:=by
  apply Hd.MM.mk
  case go =>
    intro x1 x2 x3 x4 x5 x6 x7 x8 x9 y z
    w_on;refine PySem.W.holds_law (by ext) fun said=>?_
    apply Hd.Nj
    case main=>k_head
    case hl=>exact Hd.left (by ext) Zd (fun _=>by ext) x1 (Hd.six x2 x4 x5 x6 x7 x8) (Hd.two 180 x3 x9)
    case hw=>exact y
    case hc=>exact z
theorem Hk.NN:Hk.top.l1:=by
  delta Hk.top
  dsimp only;intro w os;rw[Hd.mq]
  ext
theorem Hk.NO:Hk.top.l2:=by
  delta Hk.top
  dsimp only;intro w os;rw[Hd.mq]
  ext
theorem Hk.NP:Hk.top.l3:=by
  delta Hk.top
  dsimp only;intro w os;rw[Hd.mq]
  ext
theorem Hk.NQ:Hk.top.l4:=by
  delta Hk.top
  dsimp only;intro w os;rw[Hd.mq]
  ext
theorem Hk.NR:Hk.top.l5:=by
  delta Hk.top
  dsimp only;intro w os;rw[Hd.mq]
  ext
theorem Hk.NS:Hk.top.l6:=by
  delta Hk.top
  dsimp only;intro w os;rw[Hd.mq]
  ext
theorem Hk.NT:Hk.top.l7:=by
  delta Hk.top
  dsimp only;intro w os;rw[Hd.mq]
  ext
theorem Hk.NU:Hk.top.l8:=by
  delta Hk.top
  dsimp only;intro w os;rw[Hd.mq]
  ext
theorem Hk.NV:Hk.top.l9:=by
  delta Hk.top
  dsimp only;intro w os;rw[Hd.mq]
  ext
theorem Hk.NX:Hk.top.h:=by
  delta Hk.top
  dsimp only
  w_witness2
end
theorem qE:type_of%@PySem.Around.under_plainId:=@PySem.Around.under_plainId
theorem gu:type_of%@Array.getElem?_eq_getElem:=@Array.getElem?_eq_getElem
theorem qF:type_of%@Array.getElem?_eq_none:=@Array.getElem?_eq_none
theorem eI:type_of%@Array.getElem?_toList:=@Array.getElem?_toList
theorem cD:type_of%@Array.length_toList:=@Array.length_toList
theorem uE:type_of%@Array.toArray_toList:=@Array.toArray_toList
theorem fb:type_of%@Array.toList_append:=@Array.toList_append
theorem mG:type_of%@Array.toList_extract:=@Array.toList_extract
theorem rK:type_of%@Array.toList_push:=@Array.toList_push
theorem uF:type_of%@Array.toList_reverse:=@Array.toList_reverse
theorem bT:type_of%@Bool.and_eq_true:=@Bool.and_eq_true
theorem gq:type_of%@Bool.false_and:=@Bool.false_and
theorem iH:type_of%@Bool.false_eq_true:=@Bool.false_eq_true
theorem cu:type_of%@Bool.false_ne_true:=@Bool.false_ne_true
theorem oW:type_of%@Bool.or_eq_true:=@Bool.or_eq_true
theorem dq:type_of%@Bool.true_and:=@Bool.true_and
theorem eJ:type_of%@PySem.F.called_set:=@PySem.F.called_set
theorem aE:type_of%@PySem.Heap.get?_push_of_some:=@PySem.Heap.get?_push_of_some
theorem bz:type_of%@PySem.Heap.get?_push_size:=@PySem.Heap.get?_push_size
theorem dy:type_of%@PySem.Heap.get?_update_other:=@PySem.Heap.get?_update_other
theorem fV:type_of%@PySem.Heap.get?_update_self:=@PySem.Heap.get?_update_self
theorem aH:type_of%@PySem.Heap.lt_size:=@PySem.Heap.lt_size
theorem iQ:type_of%@PySem.Heap.size_push:=@PySem.Heap.size_push
theorem lJ:type_of%@Int.dvd_of_emod_eq_zero:=@Int.dvd_of_emod_eq_zero
theorem iR:type_of%@Int.emod_eq_of_lt:=@Int.emod_eq_of_lt
theorem bZ:type_of%@Int.emod_lt_of_pos:=@Int.emod_lt_of_pos
theorem bY:type_of%@Int.emod_nonneg:=@Int.emod_nonneg
theorem cY:type_of%@Int.eq_ofNat_of_zero_le:=@Int.eq_ofNat_of_zero_le
theorem iS:type_of%@Int.le_of_lt:=@Int.le_of_lt
theorem rB:type_of%@Int.mul_ediv_add_emod:=@Int.mul_ediv_add_emod
theorem rC:type_of%@Int.mul_le_mul_of_nonneg_left:=@Int.mul_le_mul_of_nonneg_left
theorem c8:type_of%@Int.toNat_natCast:=@Int.toNat_natCast
theorem nU:type_of%@Int.toNat_of_nonneg:=@Int.toNat_of_nonneg
theorem jR:type_of%@Int.zero_add:=@Int.zero_add
theorem jS:type_of%@List.Pairwise.filter:=@List.Pairwise.filter
theorem nV:type_of%@List.Pairwise.imp:=@List.Pairwise.imp
theorem rD:type_of%@List.Pairwise.imp_of_mem:=@List.Pairwise.imp_of_mem
theorem iT:type_of%@List.all_cons:=@List.all_cons
theorem c9:type_of%@List.all_eq_true:=@List.all_eq_true
theorem fW:type_of%@List.all_map:=@List.all_map
theorem nW:type_of%@List.any_cons:=@List.any_cons
theorem bJ:type_of%@List.append_assoc:=@List.append_assoc
theorem dM:type_of%@List.append_nil:=@List.append_nil
theorem rE:type_of%@List.dropLast_concat:=@List.dropLast_concat
theorem rF:type_of%@List.dropLast_concat_getLast:=@List.dropLast_concat_getLast
theorem ip:type_of%@List.dropLast_subset:=@List.dropLast_subset
theorem lK:type_of%@List.drop_eq_getElem_cons:=@List.drop_eq_getElem_cons
theorem nX:type_of%@List.drop_of_length_le:=@List.drop_of_length_le
theorem nY:type_of%@List.drop_zero:=@List.drop_zero
theorem fj:type_of%@List.ext_getElem?:=@List.ext_getElem?
theorem lL:type_of%@List.extract_eq_take_drop:=@List.extract_eq_take_drop
theorem nZ:type_of%@List.filterMap_cons:=@List.filterMap_cons
theorem iq:type_of%@List.filter_append:=@List.filter_append
theorem rG:type_of%@List.filter_cons_of_neg:=@List.filter_cons_of_neg
theorem rH:type_of%@List.filter_cons_of_pos:=@List.filter_cons_of_pos
theorem rJ:type_of%@List.filter_eq_nil_iff:=@List.filter_eq_nil_iff
theorem fX:type_of%@List.find?_cons:=@List.find?_cons
theorem oa:type_of%@List.flatMap_cons:=@List.flatMap_cons
theorem lN:type_of%@List.flatten_cons:=@List.flatten_cons
theorem og:type_of%@List.foldl_cons:=@List.foldl_cons
theorem aT:type_of%@List.getD_eq_getElem?_getD:=@List.getD_eq_getElem?_getD
theorem iU:type_of%@List.getElem?_append_left:=@List.getElem?_append_left
theorem ir:type_of%@List.getElem?_append_right:=@List.getElem?_append_right
theorem iu:type_of%@List.getElem?_drop:=@List.getElem?_drop
theorem aD:type_of%@List.getElem?_eq_getElem:=@List.getElem?_eq_getElem
theorem dZ:type_of%@List.getElem?_eq_none:=@List.getElem?_eq_none
theorem br:type_of%@List.getElem?_eq_some_iff:=@List.getElem?_eq_some_iff
theorem aS:type_of%@List.getElem?_map:=@List.getElem?_map
theorem oh:type_of%@List.getElem?_of_mem:=@List.getElem?_of_mem
theorem lO:type_of%@List.getElem?_range:=@List.getElem?_range
theorem iV:type_of%@List.getElem?_set_ne:=@List.getElem?_set_ne
theorem iW:type_of%@List.getElem?_set_self:=@List.getElem?_set_self
theorem rL:type_of%@List.getElem?_take:=@List.getElem?_take
theorem cZ:type_of%@List.getElem_mem:=@List.getElem_mem
theorem jT:type_of%@List.getLastD_eq_getLast?:=@List.getLastD_eq_getLast?
theorem aF:type_of%@List.length_append:=@List.length_append
theorem bf:type_of%@List.length_cons:=@List.length_cons
theorem cq:type_of%@List.length_drop:=@List.length_drop
theorem iX:type_of%@List.length_dropLast:=@List.length_dropLast
theorem oi:type_of%@List.length_eq_zero_iff:=@List.length_eq_zero_iff
theorem jU:type_of%@List.length_filter_le:=@List.length_filter_le
theorem af:type_of%@List.length_map:=@List.length_map
theorem oj:type_of%@List.length_nil:=@List.length_nil
theorem cJ:type_of%@List.length_range:=@List.length_range
theorem jV:type_of%@List.length_replicate:=@List.length_replicate
theorem dN:type_of%@List.length_set:=@List.length_set
theorem dz:type_of%@List.length_singleton:=@List.length_singleton
theorem bK:type_of%@List.length_take:=@List.length_take
theorem fY:type_of%@List.lookup_cons:=@List.lookup_cons
theorem bM:type_of%@List.map_append:=@List.map_append
theorem iY:type_of%@List.map_congr_left:=@List.map_congr_left
theorem bg:type_of%@List.map_cons:=@List.map_cons
theorem iw:type_of%@List.map_drop:=@List.map_drop
theorem aW:type_of%@List.map_map:=@List.map_map
theorem ix:type_of%@List.map_nil:=@List.map_nil
theorem iy:type_of%@List.map_take:=@List.map_take
theorem bG:type_of%@List.mem_append:=@List.mem_append
theorem lP:type_of%@List.mem_append_left:=@List.mem_append_left
theorem fk:type_of%@List.mem_append_right:=@List.mem_append_right
theorem aU:type_of%@List.mem_cons:=@List.mem_cons
theorem aV:type_of%@List.mem_cons_of_mem:=@List.mem_cons_of_mem
theorem aR:type_of%@List.mem_cons_self:=@List.mem_cons_self
theorem cG:type_of%@List.mem_filter:=@List.mem_filter
theorem om:type_of%@List.mem_filterMap:=@List.mem_filterMap
theorem aK:type_of%@List.mem_map:=@List.mem_map
theorem iZ:type_of%@List.mem_map_of_mem:=@List.mem_map_of_mem
theorem bL:type_of%@List.mem_of_getElem?:=@List.mem_of_getElem?
theorem cb:type_of%@List.mem_range:=@List.mem_range
theorem b9:type_of%@List.mem_singleton:=@List.mem_singleton
theorem oq:type_of%@List.nodup_append:=@List.nodup_append
theorem eL:type_of%@List.nodup_cons:=@List.nodup_cons
theorem ou:type_of%@List.nodup_range:=@List.nodup_range
theorem dO:type_of%@List.not_mem_nil:=@List.not_mem_nil
theorem oy:type_of%@List.of_mem_zip:=@List.of_mem_zip
theorem ja:type_of%@List.pairwise_map:=@List.pairwise_map
theorem rM:type_of%@List.perm_append_comm:=@List.perm_append_comm
theorem jW:type_of%@List.range_succ:=@List.range_succ
theorem gz:type_of%@List.replicate_succ:=@List.replicate_succ
theorem rN:type_of%@List.reverse_reverse:=@List.reverse_reverse
theorem rO:type_of%@List.set_getElem_self:=@List.set_getElem_self
theorem bA:type_of%@List.size_toArray:=@List.size_toArray
theorem lQ:type_of%@List.sum_cons:=@List.sum_cons
theorem gA:type_of%@List.take_add_one:=@List.take_add_one
theorem jX:type_of%@List.take_length:=@List.take_length
theorem ef:type_of%@List.take_of_length_le:=@List.take_of_length_le
theorem jY:type_of%@Nat.le_of_eq:=@Nat.le_of_eq
theorem aM:type_of%@Nat.le_of_lt:=@Nat.le_of_lt
theorem av:type_of%@Nat.le_refl:=@Nat.le_refl
theorem fZ:type_of%@Nat.le_succ:=@Nat.le_succ
theorem aX:type_of%@Nat.le_trans:=@Nat.le_trans
theorem fq:type_of%@Nat.lt_irrefl:=@Nat.lt_irrefl
theorem ft:type_of%@Nat.lt_of_le_of_lt:=@Nat.lt_of_le_of_lt
theorem bH:type_of%@Nat.lt_of_lt_of_le:=@Nat.lt_of_lt_of_le
theorem rP:type_of%@Nat.lt_succ_iff_lt_or_eq:=@Nat.lt_succ_iff_lt_or_eq
theorem gb:type_of%@Nat.lt_succ_of_lt:=@Nat.lt_succ_of_lt
theorem jZ:type_of%@Nat.lt_succ_self:=@Nat.lt_succ_self
theorem iz:type_of%@Nat.min_eq_left:=@Nat.min_eq_left
theorem oz:type_of%@Nat.min_le_right:=@Nat.min_le_right
theorem gB:type_of%@Nat.ne_of_gt:=@Nat.ne_of_gt
theorem bh:type_of%@Nat.ne_of_lt:=@Nat.ne_of_lt
theorem lR:type_of%@Nat.one_mul:=@Nat.one_mul
theorem lS:type_of%@Nat.pow_le_pow_right:=@Nat.pow_le_pow_right
theorem bc:type_of%@Nat.zero_le:=@Nat.zero_le
theorem b7:type_of%@Ne.symm:=@Ne.symm
theorem oA:type_of%@Option.isSome_iff_exists:=@Option.isSome_iff_exists
theorem eh:type_of%@Option.map_eq_some_iff:=@Option.map_eq_some_iff
theorem cN:type_of%@PySem.PassesOwn.leaving:=@PySem.PassesOwn.leaving
theorem rQ:type_of%@PyProof.Rows.F.entry_set_update_loop:=@PyProof.Rows.F.entry_set_update_loop
theorem lT:type_of%@PyProof.Rows.F.plain_set_update_loop:=@PyProof.Rows.F.plain_set_update_loop
theorem rR:type_of%@PyProof.Rows.callWith_type1:=@PyProof.Rows.callWith_type1
theorem d0:type_of%@PySem.F.excBase_ValueError:=@PySem.F.excBase_ValueError
theorem gC:type_of%@PySem.F.plainAttrs_list:=@PySem.F.plainAttrs_list
theorem jb:type_of%@PySem.F.plainAttrs_str:=@PySem.F.plainAttrs_str
theorem ka:type_of%@PySem.F.slot_list_append:=@PySem.F.slot_list_append
theorem kb:type_of%@PySem.F.type_list_append:=@PySem.F.type_list_append
theorem rS:type_of%@PySem.W.callWith_K:=@PySem.W.callWith_K
theorem gd:type_of%@PySem.W.kia_one:=@PySem.W.kia_one
theorem rT:type_of%@PySem.W.looks_findIn:=@PySem.W.looks_findIn
theorem dA:type_of%@PySem.W.mg_none_of:=@PySem.W.mg_none_of
theorem cA:type_of%@PySem.W.mg_of:=@PySem.W.mg_of
theorem oB:type_of%@PySem.mem_of_lookup:=@PySem.mem_of_lookup
theorem kc:type_of%@beq_eq_false_iff_ne:=@beq_eq_false_iff_ne
theorem lU:type_of%@beq_false_of_ne:=@beq_false_of_ne
theorem eM:type_of%@beq_iff_eq:=@beq_iff_eq
theorem gD:type_of%@PySem.call_meets:=@PySem.call_meets
theorem gf:type_of%@PySem.codeAny_builtin:=@PySem.codeAny_builtin
theorem oC:type_of%@PySem.codeAny_call_builtin:=@PySem.codeAny_call_builtin
theorem gE:type_of%@PySem.codeAny_mono:=@PySem.codeAny_mono
theorem cc:type_of%@congrArg:=@congrArg
theorem oE:type_of%@decide_eq_decide:=@decide_eq_decide
theorem ay:type_of%@decide_eq_false:=@decide_eq_false
theorem a8:type_of%@decide_eq_true:=@decide_eq_true
theorem bN:type_of%@decide_eq_true_eq:=@decide_eq_true_eq
theorem ke:type_of%@PyProof.Rows.get?_update_seq:=@PyProof.Rows.get?_update_seq
theorem gh:type_of%@if_false:=@if_false
theorem ag:type_of%@if_neg:=@if_neg
theorem ai:type_of%@if_pos:=@if_pos
theorem i3:type_of%@if_true:=@if_true
theorem jc:type_of%@of_decide_eq_true:=@of_decide_eq_true
theorem dP:type_of%@or_false:=@or_false
theorem lV:type_of%@PySem.plainId_quiet:=@PySem.plainId_quiet
theorem gi:type_of%@PySem.sizeLine_eq:=@PySem.sizeLine_eq
theorem oF:type_of%@PySem.tupleKind_room_in1:=@PySem.tupleKind_room_in1
theorem lW:type_of%@PySem.wpAny_Call_Name_kw:=@PySem.wpAny_Call_Name_kw
theorem lX:type_of%@PySem.wpAny_askSetting:=@PySem.wpAny_askSetting
theorem lY:type_of%@PySem.wpAny_attempt:=@PySem.wpAny_attempt
theorem aa:type_of%@PySem.wpAny_bind:=@PySem.wpAny_bind
theorem i4:type_of%@PySem.wpAny_call:=@PySem.wpAny_call
theorem i5:type_of%@PySem.wpAny_call_entry:=@PySem.wpAny_call_entry
theorem lZ:type_of%@PySem.wpAny_execs_nil:=@PySem.wpAny_execs_nil
theorem cB:type_of%@PySem.wpAny_holding:=@PySem.wpAny_holding
theorem oG:type_of%@PySem.wpAny_loadPart_at:=@PySem.wpAny_loadPart_at
theorem bO:type_of%@PySem.wpAny_mono:=@PySem.wpAny_mono
theorem kf:type_of%@PySem.wpAny_newObj_type:=@PySem.wpAny_newObj_type
theorem kg:type_of%@PySem.wpAny_passesOwn:=@PySem.wpAny_passesOwn
theorem aq:type_of%@PySem.wpAny_pure:=@PySem.wpAny_pure
theorem dU:type_of%@PySem.wpAny_rule:=@PySem.wpAny_rule
theorem lH:type_of%@PySem.wpAny_setEntries_of:=@PySem.wpAny_setEntries_of
theorem j3:type_of%@PySem.wpAny_setState_of:=@PySem.wpAny_setState_of
theorem iE:type_of%@PySem.wpAny_standAt:=@PySem.wpAny_standAt
theorem fB:type_of%@PySem.wpAny_truthy_bool:=@PySem.wpAny_truthy_bool
theorem aB:type_of%@PyProof.Rows.wpS_bind:=@PyProof.Rows.wpS_bind
theorem fD:type_of%@PyProof.Rows.wpS_forRange:=@PyProof.Rows.wpS_forRange
theorem aY:type_of%@PyProof.Rows.wpS_pure:=@PyProof.Rows.wpS_pure
set_option Elab.async false
set_option linter.all false
set_option maxRecDepth 100000
namespace L2
open PySem PySem.Spec PyProof.Rows
variable {C:Addr}{E:Zq}{K:Zf}{M:Model}{P:Zh}{Q:Zq}{a:Addr}{b:Addr}{base:Heap}{body:List Stmt}{c:Expr}{ch:List Addr}{d':Drawn}{e:Expr}{es:List Expr}{f:Value->Value->Sem Value}{fp:List Addr}{g':Array GenState}{h:Heap}{i:Nat}{it:Addr}{k:Nat}{kw:List (Str×Value)}{mA:Zk}{mg:Zk}{o:Obj}{op:CmpOp}{outer:List Env}{Yp:Zp}{pl:Sem Bool}{pos:Pos}{s:Zg}{scope:Scope}{t':Nat}{tg:Expr}{u:Value}{us:Zc}{w:Zi}{x:Str}
section
noncomputable abbrev Key:=Sum Int Str
noncomputable def kr:Key->Value->Bool
 | .inl k,v=>Value.isInt k v
 | .inr x,v=>Value.isStrOf x v
noncomputable def Oj (w:Zi):Key->Int
 | .inl k=>hashInt k
 | .inr x=>hashStr w x
theorem cP:∀ {k:Key}{v:Value},kr k v=true->(∃ i t,k=Sum.inl i/\v=Value.int i t)∨(∃ x t,k=Sum.inr x/\v=Value.str x t)
 | .inl i,v,h=>by obtain⟨t,e⟩:=Value.isInt_shape (k:=i) (v:=v) h;exact .inl ⟨i,t,rfl,e⟩
 | .inr x,v,h=>by obtain⟨t,e⟩:=Value.isStrOf_shape (x:=x) (v:=v) h;exact .inr ⟨x,t,rfl,e⟩
theorem E2 (i:Int) (t:Tok):kr (.inl i) (.int i t)=true:=by simp [kr,Value.isInt]
theorem oM (x:Str) (t:Tok):kr (.inr x) (.str x t)=true:=by simp [kr,Value.isStrOf]
theorem LP (a b:Int):decide ((Sum.inl a:Key)=Sum.inl b)=(a==b):=by
 by_cases e:a=b
 ·subst e;simp
 ·have h:¬ (Sum.inl a:Key)=Sum.inl b:=fun q=>e (Sum.inl.inj q);rw[ay h];exact (kc.mpr e).symm
theorem LS (a b:Str):decide ((Sum.inr a:Key)=Sum.inr b)=decide (a=b):=by
 by_cases e:a=b
 ·subst e;simp
 ·have h:¬ (Sum.inr a:Key)=Sum.inr b:=fun q=>e (Sum.inr.inj q);rw[ay h,ay e]
theorem LQ (a:Int) (b:Str):decide ((Sum.inl a:Key)=Sum.inr b)=false:=ay (fun q=>nomatch q)
theorem LR (a:Str) (b:Int):decide ((Sum.inr a:Key)=Sum.inl b)=false:=ay (fun q=>nomatch q)
noncomputable def bj (prog:Zh) (w:Zi):PySem.KeyKind prog w Key where
 is:=kr
 hash:=Oj w
 inj:=fun v a b ha hb=>by
  rcases cP ha with ⟨i,t,rfl,rfl⟩ | ⟨x,t,rfl,rfl⟩
  ·rcases cP hb with ⟨j,u,rfl,e⟩ | ⟨y,u,rfl,e⟩
   ·injection e with e1 _;rw[e1]
   ·exact nomatch e
  ·rcases cP hb with ⟨j,u,rfl,e⟩ | ⟨y,u,rfl,e⟩
   ·exact nomatch e
   ·injection e with e1 _;rw[e1]
 byValue:=fun k v h=>by rcases cP h with ⟨i,t,rfl,rfl⟩ | ⟨x,t,rfl,rfl⟩<;>rfl
 pyHash:=fun hv h=>by
  rcases cP hv with ⟨i,t,rfl,rfl⟩ | ⟨x,t,rfl,rfl⟩
  ·exact wpAny_pyHash_int h
  ·exact wpAny_pyHash_str h
 eqBool:=fun hu hv h=>by
  rcases cP hu with ⟨i,t,rfl,rfl⟩ | ⟨x,t,rfl,rfl⟩
  ·rcases cP hv with ⟨j,u,rfl,rfl⟩ | ⟨y,u,rfl,rfl⟩
   ·rw[LP] at h;exact wpAny_eqBool_int h
   ·rw[LQ] at h;exact SeqAt.EqAt.int_str i t y u _ _ _ _ h
  ·rcases cP hv with ⟨j,u,rfl,rfl⟩ | ⟨y,u,rfl,rfl⟩
   ·rw[LR] at h;exact SeqAt.EqAt.str_int x t j u _ _ _ _ h
   ·rw[LS] at h;exact wpAny_eqBool_str h
 «strs»:=fun k x t v h=>by
  rcases cP h with ⟨i,u,rfl,e⟩ | ⟨y,u,rfl,e⟩
  ·exact nomatch e
  ·injection e with e1 _
   subst e1;cases v<;>rfl
theorem zr (prog:Zh) (w:Zi) (i:Int) (t:Tok):(bj prog w).is (.inl i) (.int i t)=true:=E2 i t
theorem zt (prog:Zh) (w:Zi) (x:Str) (t:Tok):(bj prog w).is (.inr x) (.str x t)=true:=oM x t
end
section
inductive V where
 | non | bl (b:Bool) | int (i:Int) | str (x:Str) | byt (b:Array UInt8) | flt (b:UInt64) | ref (a:Addr) | ty (n:String)
 deriving DecidableEq
noncomputable def RelV:V->Value->Prop
 | .non,u=>u=Value.none
 | .bl b,u=>u=Value.bool b
 | .int i,u=>∃ t,u=Value.int i t
 | .str x,u=>∃ t,u=Value.str x t
 | .byt b,u=>∃ t,u=Value.bytes b t
 | .flt b,u=>∃ t,u=Value.float b t
 | .ref a,u=>u=Value.ref a
 | .ty n,u=>u=Value.type n
noncomputable abbrev Vals:List V->Zc->Prop:=Paired RelV
theorem Vals.length {xs:List V}{us:Zc} (r:Vals xs us):⇑xs=⇑us:=Paired.length r
theorem Vals.get:∀ {xs:List V}{us:Zc}{i:Nat}{x:V},Vals xs us->xs[i]?=some x->∃ u,us[i]?=some u/\RelV x u
 | _,_,_,_,.nil,e=>by simp at e
 | _,_,0,_,.cons r _,e=>by simp at e;subst e;exact⟨_,rfl,r⟩
 | _,_,i+1,x,.cons _ t,e=>by obtain⟨u,h1,h2⟩:=Vals.get (i:=i) (x:=x) t (by simpa using e);exact⟨u,by simpa using h1,h2⟩
theorem Vals.set {x:V}{u:Value} (r:RelV x u):∀ {xs:List V}{us:Zc} (i:Nat),Vals xs us->Vals (xs.set i x) (us.set i u)
 | _,_,_,.nil=>.nil
 | _,_,0,.cons _ t=>.cons r t
 | _,_,i+1,.cons q t=>.cons q (Vals.set r i t)
theorem Vals.append:∀ {xs ys:List V}{us ws:Zc},Vals xs us->Vals ys ws->Vals (xs++ys) (us++ws)
 | _,_,_,_,.nil,s=>s
 | _,_,_,_,.cons r t,s=>.cons r (Vals.append t s)
theorem Vals.take:∀ {xs:List V}{us:Zc} (n:Nat),Vals xs us->Vals (xs.take n) (us.take n)
 | _,_,0,_=>.nil
 | _,_,_+1,.nil=>.nil
 | _,_,n+1,.cons r t=>.cons r (Vals.take n t)
theorem Vals.drop:∀ {xs:List V}{us:Zc} (n:Nat),Vals xs us->Vals (xs.drop n) (us.drop n)
 | _,_,0,r=>r
 | _,_,_+1,.nil=>.nil
 | _,_,n+1,.cons _ t=>Vals.drop n t
noncomputable def kJ:Option V->Option Value->Prop
 | some v,some u=>RelV v u
 | none,none=>True
 | _,_=>False
noncomputable def KV {κ:Type}:List (κ×V)->List (κ×Value)->Prop:=Paired fun (p:κ×V) (q:κ×Value)=>p.1=q.1/\RelV p.2 q.2
noncomputable def kV:Key->V
 | .inl i=>.int i
 | .inr x=>.str x
inductive HO where
  | lst (xs:List V)
  | tup (xs:List V)
  | dK (kvs:List (Key×V)) | dT (kvs:List (List Key×V))
  | set (S:Int->Bool) (n:Nat)
  | ins (C dx:Addr) (fs:List (Str×V))
  | own (x:Addr)
  | xd (fs:List (Str×V))
  | met (f x:Addr)
  | rng (lo hi:Int)
  | frz (o:Obj) (u:HO)
  | tbl (ps:Array Value)
  | ext (φ:Heap->Prop)
noncomputable abbrev Hp:=Addr->Option HO
noncomputable def upd (H:Hp) (a:Addr) (o:HO):Hp:=fun b=>if b=a then some o else H b
theorem aC {H:Hp}{o:HO}:upd H a o a=some o:=by unfold upd;rw[ai rfl]
theorem aG {H:Hp}{a b:Addr}{o:HO} (h:b≠a):upd H a o b=H b:=by unfold upd;rw[ag h]
theorem pq {H:Hp}{a b:Addr}{o u:HO} (h:H a=some o) (h':H b=some u) (d:o≠u):a≠b:=by intro e;subst e;rw[h] at h';exact d (Option.some.inj h')
theorem aQ {H:Hp}{a b:Addr}{o:HO} (h:H a=some o) (h':H b=none):a≠b:=by intro e;subst e;rw[h] at h';cases h'
section
variable (P:Zh) (w:Zi)
noncomputable def cj (H:Hp) (h:Heap) (a:Addr):HO->Prop
 | .lst xs=>⇑xs<=sizeLine/\∃ (its:Zc) (n:Nat),Vals xs its/\h.get? a=some { cls:=.type "list",data:=.seq its.toArray n }
 | .tup xs=>⇑xs<=sizeLine/\∃ its:Zc,Vals xs its/\IsTup h a its.toArray
 | .dK kvs=>⇑kvs<=sizeLine/\(a==sysModules)=false/\∃ vs,KV kvs vs/\h.DictOf (bj P w) a vs
 | .dT kvs=>⇑kvs<=sizeLine/\(a==sysModules)=false/\∃ xs:List (List Key×Addr×Value),
   Paired (fun (p:List Key×V) (q:List Key×Addr×Value)=>p.1=q.1/\H q.2.1=some (.tup (p.1.map kV))/\RelV p.2 q.2.2) kvs xs ∧
   ∃ o es ep,h.get? a=some o/\o.ExactDict/\o.data=.dict es ep/\es.toList=xs.map (entryOfKey (tupleKind (bj P w)))/\(xs.map (·.1)).Nodup
 | .set S n=>h.SetOf (intKind P w) a S n
 | .ins C dx fs=>H dx=some (.own a)/\⇑fs<=1000/\dx≠a/\h.get? a=some (PySem.W.instObj C dx) ∧
   ∃ mA,h.Ns1 dx mA/\(∀ f,kJ (fs.lookup f) (mA f))/\PySem.Within mA (fs.map (·.1))
 | .own _=>∃ o,h.get? a=some o
 | .xd fs=>∃ mA,h.Ns1 a mA/\∀ f,kJ (fs.lookup f) (mA f)
 | .rng lo hi=>∃ t u v,h.get? a=some { cls:=.type "range",data:=.fields #[.int lo t,.int hi u,.int 1 v] }
 | .frz o u=>h.get? a=some o/\cj H h a u
 | .tbl ps=>∃ qs:Array Value,h.get? a=some { cls:=.none,data:=.fields qs }/\TriplesOk qs.toList/\∀ pos c,codeAmong pos qs.toList=some c->∃ c' oc vs t q,c=.ref c'/\H c'=some (.frz oc (.own a))/\oc.data=.fields vs/\vs[1]?=some (.str q t)/\ps=#[.str q 0]
 | .met f x=>h.get? a=some (PySem.W.methodObj (.ref f) (.ref x))
 | .ext φ=>φ h/\(∃ o,h.get? a=some o)/\∀ h1 h2:Heap,φ h1->(∀ o,h1.get? a=some o->h2.get? a=some o)->φ h2
noncomputable def Ð (H:Hp) (h:Heap):Prop:=∀ a o,H a=some o->cj P w H h a o
end
section
variable {P:Zh}{w:Zi}{H H':Hp}{h h':Heap}{a:Addr}{o:HO}
theorem cj.lt (x:cj P w H h a o):a<h.objs.size:=by
 cases o with
 | lst xs=>obtain⟨_,_,_,_,e⟩:=x;exact aH e
 | tup xs=>obtain⟨_,_,_,p⟩:=x;exact p.lt
 | dK kvs=>obtain⟨_,_,_,_,o,_,_,e,_⟩:=x;exact aH e
 | dT kvs=>obtain⟨_,_,_,_,o,_,_,e,_⟩:=x;exact aH e
 | set S n=>obtain⟨o,_,_,_,e,_⟩:=x;exact aH e
 | ins C dx fs=>obtain⟨_,_,_,e,_⟩:=x;exact aH e
 | own y=>obtain⟨_,e⟩:=x;exact aH e
 | xd fs=>obtain⟨_,⟨_,_,_,e,_⟩,_⟩:=x;exact aH e
 | rng lo hi=>obtain⟨_,_,_,e⟩:=x;exact aH e
 | frz ob u=>obtain⟨e,_⟩:=x;exact aH e
 | tbl ps=>obtain⟨_,e,_⟩:=x;exact aH e
 | met f y=>exact aH (show h.get? a=some _ from x)
 | ext φ=>obtain⟨_,⟨_,e⟩,_⟩:=x;exact aH e
theorem Paired.LX {α β:Type}{F G:α->β->Prop}:∀ {l₁:List α}{l₂:List β},Paired F l₁ l₂->(∀ a b,F a b->G a b)->Paired G l₁ l₂
 | _,_,.nil,_=>.nil
 | _,_,.cons r t,f=>.cons (f _ _ r) (Paired.LX t f)
theorem cj.mD (x:cj P w H h a o) (k:∀ b u,(b=a∨H b=some (.own a))->h.get? b=some u->h'.get? b=some u)
  (ho:∀ b,H b=some (.own a)->H' b=some (.own a)) (ht:∀ b xs,H b=some (.tup xs)->H' b=some (.tup xs))
  (hf:∀ b ob u,H b=some (.frz ob u)->H' b=some (.frz ob u):=by first | exact fun _ _ _ q=>q | exact fun c ob u q=>(aG (aQ q (by assumption))).trans q):cj P w H' h' a o:=by
 induction o with
 | lst xs=>obtain⟨z,its,n,r,e⟩:=x;exact⟨z,its,n,r,k _ _ (.inl rfl) e⟩
 | tup xs=>obtain⟨z,its,r,ob,e,c⟩:=x;exact⟨z,its,r,ob,k _ _ (.inl rfl) e,c⟩
 | dK kvs=>obtain⟨z,y,vs,r,ob,es,ep,e,c⟩:=x;exact⟨z,y,vs,r,ob,es,ep,k _ _ (.inl rfl) e,c⟩
 | dT kvs =>obtain⟨z,y,xs,r,ob,es,ep,e,c⟩:=x;exact⟨z,y,xs,Paired.LX r fun p q z=>⟨z.1,ht _ _ z.2.1,z.2.2⟩,ob,es,ep,k _ _ (.inl rfl) e,c⟩
 | set S n=>obtain⟨ob,es,ep,t,e,c⟩:=x;exact⟨ob,es,ep,t,k _ _ (.inl rfl) e,c⟩
 | ins C dx fs =>obtain⟨d,z,ne,e,mA,⟨od,es,ep,e2,c⟩,r⟩:=x;exact⟨ho _ d,z,ne,k _ _ (.inl rfl) e,mA,⟨od,es,ep,k _ _ (.inr d) e2,c⟩,r⟩
 | own y=>obtain⟨ob,e⟩:=x;exact⟨ob,k _ _ (.inl rfl) e⟩
 | xd fs=>obtain⟨mA,⟨od,es,ep,e,c⟩,r⟩:=x;exact⟨mA,⟨od,es,ep,k _ _ (.inl rfl) e,c⟩,r⟩
 | rng lo hi=>obtain⟨t,u,v,e⟩:=x;exact⟨t,u,v,k _ _ (.inl rfl) e⟩
 | frz ob u ih=>obtain⟨e,q⟩:=x;exact⟨k _ _ (.inl rfl) e,ih q⟩
 | tbl ps =>obtain⟨qs,e,t,z⟩:=x;refine⟨qs,k a _ (.inl rfl) e,t,fun pos c q=>?_⟩;obtain⟨c',oc,vs,tk,qq,h1,h2,h3⟩:=z pos c q;exact⟨c',oc,vs,tk,qq,h1,hf _ _ _ h2,h3⟩
 | met f y =>have e:h.get? a=some (PySem.W.methodObj (.ref f) (.ref y)):=x;show h'.get? a=some (PySem.W.methodObj (.ref f) (.ref y));exact k a _ (.inl rfl) e
 | ext φ=>obtain⟨p,⟨o,e⟩,st⟩:=x;exact⟨st _ _ p fun o q=>k _ _ (.inl rfl) q,⟨o,k _ _ (.inl rfl) e⟩,st⟩
theorem Ð.lt (x:Ð P w H h) (e:H a=some o):a<h.objs.size:=(x a o e).lt
theorem Ð.fresh (x:Ð P w H h) (e:h.objs.size<=a):H a=none:=by
 cases q:H a with
 | none=>rfl
 | some u=>exact absurd (bH (x.lt q) e) (fq _)
theorem Ð.kept (x:Ð P w H h) (k:∀ b u,h.get? b=some u->h'.get? b=some u):Ð P w H h':=fun a o e =>(x a o e).mD (fun b u _ q=>k b u q) (fun _ q=>q) fun _ _ q=>q
theorem Ð.laid (x:Ð P w H h) (k:∀ b u,h.get? b=some u->h'.get? b=some u) (hp:h.objs.size<=a) (new:cj P w (upd H a o) h' a o):Ð P w (upd H a o) h':=fun b u e=>by
 have hn:=x.fresh hp
 by_cases hb:b=a
 ·subst hb;rw[aC] at e;cases e;exact new
 ·rw[aG hb] at e;exact (x b u e).mD (fun c v _ q=>k c v q) (fun c q=>by rw[aG (aQ q hn)];exact q) fun c xs q=>by rw[aG (aQ q hn)];exact q
end
noncomputable def Rd (H:Hp) (a:Addr) (u:HO):Prop:=H a=some u∨∃ o,H a=some (.frz o u)
theorem Rd.ok {H:Hp}{u:HO} (r:Rd H a u) (x:Ð P w H h):cj P w H h a u:=by
 rcases r with r | ⟨o,r⟩
 ·exact x a u r
 ·obtain⟨_,q⟩:=x a _ r;exact q
noncomputable def Ă:Option HO->Prop
 | some (.lst _)=>True
 | some (.dK _)=>True
 | some (.dT _)=>True
 | some (.set _ _)=>True
 | some (.ins _ _ _)=>True
 | some (.ext _)=>True
 | _=>False
section
variable {P:Zh}{w:Zi}{H:Hp}{h h':Heap}{x e:Addr}{o':HO}
theorem Ð.write (ok:Ð P w H h) (mu:Ă (H x)) (he:e=x∨H e=some (.own x)) (k:∀ b u,b≠e->h.get? b=some u->h'.get? b=some u) (heo:∃ u,h'.get? e=some u)
  (new:cj P w (upd H x o') h' x o'):Ð P w (upd H x o') h':=fun b u q=>by
 have nown:∀ c y,H c=some (.own y)->c≠x:=fun c y r z=>by subst z;rw[r] at mu;exact mu
 have ntup:∀ c xs,H c=some (.tup xs)->c≠x:=fun c xs r z=>by subst z;rw[r] at mu;exact mu
 by_cases hb:b=x
 ·subst hb;rw[aC] at q;cases q;exact new
 ·rw[aG hb] at q
  by_cases hbe:b=e
  ·have q':H b=some (.own x):=by
    rcases he with z | z
    ·exact absurd (hbe.trans z) hb
    ·rw[hbe];exact z
   rw[q] at q';cases q';obtain⟨v,hv⟩:=heo;exact⟨v,by rw[hbe];exact hv⟩
  ·refine (ok b u q).mD (fun c v hc r=>k c v ?_ r) (fun c r=>by rw[aG (nown c b r)];exact r) (fun c xs r=>by rw[aG (ntup c xs r)];exact r) fun c ob u r=>(aG (fun z=>by subst z;rw[r] at mu;exact mu)).trans r;rcases hc with rfl | hc
   ·exact hbe
   ·rintro rfl;rcases he with z | z
    ·exact nown c b hc z
    ·rw[hc] at z;cases z;exact hb rfl
end
structure Un (fs ex:List Addr) (H H':Hp) (h h':Heap):Prop where
 keep:∀ b o,h.get? b=some o->H b=none->b∉fs->b∉ex->h'.get? b=some o
 slot:∀ b o,h.get? b=some o->H b=none->b∈fs->b∉ex->∃ sl,h'.get? b=some { o with slots:=sl }
 free:∀ b o,h.get? b=some o->H b=none->b∉ex->H' b=none
 there:∀ b o,h.get? b=some o->b∉ex->∃ o',h'.get? b=some o'
 tups:∀ b xs,H b=some (.tup xs)->H' b=some (.tup xs)
 frzs:∀ b o u,H b=some (.frz o u)->H' b=some (.frz o u)
 tbls:∀ b ps,H b=some (.tbl ps)->∃ more,H' b=some (.tbl (ps++more))
section
variable {fs fs' ex ex':List Addr}{H H1 H2:Hp}{h h1 h2 h':Heap}{a x e:Addr}{o:HO}
theorem Un.any (u:Un fs ex H H1 h h1) {ob:Obj} (q:h.get? b=some ob) (n:H b=none) (hx:b∉ex):∃ sl,h1.get? b=some { ob with slots:=sl }:=by
 by_cases hb:b∈fs
 ·exact u.slot b ob q n hb hx
 ·exact⟨ob.slots,u.keep b ob q n hb hx⟩
theorem Un.kept (k:∀ b u,h.get? b=some u->h'.get? b=some u):Un fs ex H H h h' :=
 ⟨fun b ob q _ _ _=>k b ob q,fun b ob q _ _ _=>⟨ob.slots,k b ob q⟩,fun _ _ _ n _=>n,fun b ob q _=>⟨ob,k b ob q⟩,fun _ _ q=>q,fun _ _ _ q=>q,fun _ ps q=>⟨#[],by rw[q];simp⟩⟩
theorem Un.refl:Un fs ex H H h h:=Un.kept fun _ _ q=>q
theorem Un.laid (k:∀ b u,h.get? b=some u->h'.get? b=some u) (hp:h.objs.size<=a) (hn:H a=none):Un fs ex H (upd H a o) h h' where
 keep:=fun b u q _ _ _=>k b u q
 slot:=fun b u q _ _ _=>⟨u.slots,k b u q⟩
 free:=fun b u q n _=>by rw[aG (bh (bH (aH q) hp))];exact n
 there:=fun b u q _=>⟨u,k b u q⟩
 tups:=fun b xs q=>by rw[aG (aQ q hn)];exact q
 frzs:=fun b u xs q=>by rw[aG (aQ q hn)];exact q
 tbls:=fun b ps q=>⟨#[],by rw[aG (aQ q hn),q];simp⟩
theorem Un.write (mu:Ă (H x)) (he:e=x∨H e=some (.own x)) (k:∀ b u,b≠e->h.get? b=some u->h'.get? b=some u) (heo:∃ u,h'.get? e=some u):Un fs ex H (upd H x o) h h':=by
 have hx:∀ b,H b=none->b≠x:=fun b n z=>by subst z;rw[n] at mu;exact mu
 have hb:∀ b,H b=none->b≠e:=fun b n z=>by
  subst z;rcases he with r | r
  ·exact hx b n r
  ·rw[n] at r;cases r
 have hm:∀ b u,H b=some u->¬ Ă (some u)->b≠x:=fun b u q nm z=>by subst z;rw[q] at mu;exact nm mu
 refine⟨fun b u q n _ _=>k b u (hb b n) q,fun b u q n _ _=>⟨u.slots,k b u (hb b n) q⟩,fun b u q n _=>by rw[aG (hx b n)];exact n,fun b u q _=>?_,
  fun b xs q=>by rw[aG (hm b _ q fun z=>z)];exact q,fun b u xs q=>by rw[aG (hm b _ q fun z=>z)];exact q,fun b ps q=>⟨#[],by rw[aG (hm b _ q fun z=>z),q];simp⟩⟩
 by_cases hbe:b=e
 ·subst hbe;exact heo
 ·exact⟨u,k b u hbe q⟩
theorem Un.mono (u:Un fs ex H H1 h h1) (hs:∀ b∈fs,b∈fs') (hx:∀ b∈ex,b∈ex'):Un fs' ex' H H1 h h1 :=
 ⟨fun b ob q n hb he=>u.keep b ob q n (fun z=>hb (hs b z)) fun z=>he (hx b z),fun _ _ q n _ he=>u.any q n fun z=>he (hx _ z),fun b ob q n he=>u.free b ob q n fun z=>he (hx b z),fun b ob q he=>u.there b ob q fun z=>he (hx b z),u.tups,u.frzs,u.tbls⟩
end
noncomputable def ù (h:Heap) (H:Hp):List Addr:=(List.range h.objs.size).filter fun a=>(H a).isSome
noncomputable def xG (h:Heap) (H:Hp):Heap:=PySem.W.hideAll h (ù h H)
theorem Er (h:Heap) (H:Hp):(xG h H).objs.size=h.objs.size:=PySem.W.hideAll_size _ _
theorem Ga {H:Hp} (e:h.get? b=some o) (n:H b=none):(xG h H).get? b=some o :=
 PySem.W.hideAll_get _ e fun hm=>by have q:(H b).isSome=true:=(cG.mp hm).2;rw[n] at q;simp at q
theorem J5 {H:Hp} (e:(xG h H).get? b=some o):h.get? b=some o/\H b=none:=by
 have e':h.get? b=some o:=PySem.W.of_hideAll (ù h H) e;refine⟨e',?_⟩;cases q:H b with
 | none=>rfl
 | some x =>have hm:b∈ù h H:=cG.mpr ⟨cb.mpr (aH e'),by simp [q]⟩;have z:(xG h H).get? b=none:=PySem.W.hideAll_none (ù h H) hm;rw[z] at e;cases e
noncomputable def Iu (g h:Heap) (L:Addr):Zp:=(List.range h.objs.size).filterMap fun a=>if a=L∨(g.get? a).isSome=true then none else (h.get? a).map fun o=>(a,o)
noncomputable def rest (g h:Heap) (L d:Addr):Zp:=(Iu g h L).filter fun p=>decide (p.1≠d)
end
section
structure Mod (K:Zf) (mg:Zk) (base:Heap):Prop where
 kin:K.In base
 glob:base.Ns mainGlobals mg
 blt:∃ mb,base.Ns builtinsNs mb/\∀ x:Str,x≠"__name__"->mb x=bootBuiltins x
 nolimit:base.NoLimit
 bmn:∃ bm ob,mg "__builtins__"=some (.ref bm)/\bm≠builtinsNs/\base.get? bm=some ob/\ob.cls=.type "module"/\ob.dict=some builtinsNs/\ob.data=.plain
structure Cx where
 prog:Zh
 w:Zi
 K:Zf
 mg:Zk
 base:Heap
 A:Around
 N:Ze
 s₀:Zg
 H₀:Hp
 env:Env
 outer:List Env
 stack:List Env
 ex:List Addr
 fn:Str->Bool
 calm:Bool
 pn:Zp
 xe:Zq
noncomputable def Ì (l:List Env):List Addr:=l.filterMap (·.frame)
noncomputable abbrev Cx.fs (X:Cx):List Addr:=Ì X.outer
noncomputable def Vis (sc:Scope) (x:Str):Prop:=sc.names.lookup x=some .local∨sc.names.lookup x=some .cell∨sc.names.lookup x=some .free
noncomputable def Loc (sc:Scope) (x:Str):Prop:=sc.names.lookup x=some .local∨sc.names.lookup x=some .cell
noncomputable def Look (env:Env) (h:Heap) (m:Zk) (x:Str) (u:Value):Prop :=
 (env.kindOf x=some .local/\m x=some u)∨((env.kindOf x=some .cell∨env.kindOf x=some .free)/\∃ c,env.cells.lookup x=some c/\h.IsCell c (some u))
structure Cx.Ok (X:Cx):Prop where
 mod:Mod X.K X.mg X.base
 kind:X.env.scope.kind=.function
 glob:X.env.globals=mainGlobals
 blt:X.env.builtins=builtinsNs
 above:X.s₀.heap.objs.size<=X.env.locals
 inj:∀ x y c,X.env.cells.lookup x=some c->X.env.cells.lookup y=some c->x=y
 has:∀ x,(X.env.kindOf x=some .cell∨X.env.kindOf x=some .free)->∃ c,X.env.cells.lookup x=some c
 cab:∀ x c,X.fn x=true->X.env.cells.lookup x=some c->X.s₀.heap.objs.size<=c
 hd:X.calm=true->X.A.handled=none
 frames:X.A.frames=some X.stack
 stk:X.stack=X.outer∨(X.stack=X.env::X.outer/\X.env.frame=some X.env.locals)
 exf:∀ b∈X.ex,b≠X.env.locals/\∀ x c,X.env.cells.lookup x=some c->c≠b
 bs:∀ b o,X.base.get? b=some o->X.s₀.heap.get? b=some o/\X.H₀ b=none
 bsz:X.base.objs.size<=X.s₀.heap.objs.size
 noex:∀ b o,X.base.get? b=some o->b∉X.ex
 exfs:∀ b∈X.ex,b∉X.fs
 si:X.s₀.heap.FunFrames X.base X.outer
 frf:∀ b∈X.fs,X.H₀ b=none
structure Inv (X:Cx) (Yp:Zp) (σ:List (Option V)) (H:Hp) (s:Zg):Prop where
 ok:X.Ok
 os:s.os=X.s₀.os
 bare:AllBare s.gens
 base:Un X.fs X.ex X.H₀ H X.s₀.heap s.heap
 loc:∃ m,s.heap.Ns X.env.locals m/\∀ (i:Nat) (x:Str) (v:V),X.N[i]?=some x->σ[i]?=some (some v)->Vis X.env.scope x->∃ u,RelV v u/\Look X.env s.heap m x u
 cell:∀ x c,X.env.cells.lookup x=some c->∃ v,s.heap.IsCell c v
 free:H X.env.locals=none
 freeC:∀ x c,X.env.cells.lookup x=some c->H c=none
 pin:∀ p∈X.pn++Yp,s.heap.get? p.1=some p.2/\H p.1=none/\p.1≠X.env.locals/\p.1∉X.fs/\∀ v,p.2.data≠.cell v
 hok:Ð X.prog X.w H s.heap
 len:⇑σ=⇑X.N
section
variable {X:Cx}{Yp:Zp}{σ:List (Option V)}{H H':Hp}{s:Zg}{h':Heap}
theorem Cx.Ok.Om (ok:X.Ok)  (e:X.base.get? b=some o):b∉X.fs:=fun hb=>by have:=(ok.si.mem hb).1;rw[e] at this;cases this
theorem Inv.bs (I:Inv X Yp σ H s):∀ b o,X.base.get? b=some o->s.heap.get? b=some o/\H b=none:=fun b o e =>⟨I.base.keep b o (I.ok.bs b o e).1 (I.ok.bs b o e).2 (I.ok.Om e) (I.ok.noex b o e),I.base.free b o (I.ok.bs b o e).1 (I.ok.bs b o e).2 (I.ok.noex b o e)⟩
theorem Inv.bk (I:Inv X Yp σ H s):∀ b o,X.base.get? b=some o->s.heap.get? b=some o:=fun b o e=>(I.bs b o e).1
theorem Inv.mod (I:Inv X Yp σ H s):Mod X.K X.mg X.base:=I.ok.mod
theorem Inv.Ñ (I:Inv X Yp σ H s):X.K.In s.heap:=I.ok.mod.kin.keeps I.bk
theorem Inv.nolimit (I:Inv X Yp σ H s):s.heap.NoLimit:=I.ok.mod.nolimit.keeps I.bk
theorem Inv.lt (I:Inv X Yp σ H s):X.env.locals<s.heap.objs.size:=let ⟨_,hn,_⟩:=I.loc;hn.lt
theorem Inv.sz (I:Inv X Yp σ H s):X.s₀.heap.objs.size<=s.heap.objs.size:=aX I.ok.above (aM I.lt)
theorem Inv.Oo (I:Inv X Yp σ H s)  (h:s.heap.objs.size<=a):a∉X.fs:=fun hb=>by obtain⟨_,o,ho,_⟩:=I.ok.si.mem hb;exact absurd (bH (aH ho) (aX I.sz h)) (fq _)
theorem Inv.ì (I:Inv X Yp σ H s):∀ x c,X.env.cells.lookup x=some c->c≠X.env.locals:=fun x c e z=>by obtain⟨v,o,ho,hd⟩:=I.cell x c e;obtain⟨m,⟨o',es,ep,ho',hd',_⟩,_⟩:=I.loc;rw[z,ho'] at ho;cases ho;rw[hd'] at hd;cases hd
theorem Inv.si (I:Inv X Yp σ H s):s.heap.FunFrames X.base X.outer:=by
 have all:∀ (l:List Env),(∀ b∈Ì l,b∈X.fs)->X.s₀.heap.FunFrames X.base l->s.heap.FunFrames X.base l:=by
  intro l
  induction l with
  | nil=>intro _ _;trivial
  | cons env r ih =>intro hs hl;obtain⟨hk,⟨L,o,hf,hn,ho,hd⟩,hr⟩:=hl;have hL:L∈X.fs:=hs L (by unfold Ì;rw[nZ,hf];exact aR);obtain⟨sl,e⟩:=I.base.slot L o ho (I.ok.frf L hL) hL fun z=>I.ok.exfs L z hL;exact⟨hk,⟨L,_,hf,hn,e,hd⟩,ih (fun b hb=>hs b (by unfold Ì;rw[nZ,hf];exact aV _ hb)) hr⟩
 exact all X.outer (fun _ hb=>hb) I.ok.si
theorem Inv.stack (I:Inv X Yp σ H s):s.heap.FunFrames X.base X.stack:=by
 rcases I.ok.stk with e | ⟨e,hf⟩
 ·rw[e];exact I.si
 ·rw[e];obtain⟨m,hn,_⟩:=I.loc;refine .cons (by rw[I.ok.kind];decide) hf hn ?_ I.si;exact Heap.get?_none_of_le (aX I.ok.bsz I.ok.above)
theorem Inv.yB (I:Inv X Yp σ H s):∀ b∈Ì X.stack,b∈X.env.locals::X.fs:=fun b hb=>by
 rcases I.ok.stk with e | ⟨e,hf⟩
 ·rw[e] at hb;exact aV _ hb
 ·rw[e] at hb;unfold Ì at hb;rw[nZ,hf] at hb;exact hb
theorem Inv.rq (I:Inv X Yp σ H s):∀ b∈Ì X.stack,H b=none:=fun b hb=>by
 rcases aU.mp (I.yB b hb) with e | hb
 ·rw[e];exact I.free
 ·obtain⟨_,o,ho,_⟩:=I.ok.si.mem hb;exact I.base.free b o ho (I.ok.frf b hb) fun z=>I.ok.exfs b z hb
theorem Inv.step {g':Array GenState}{t':Nat}{d':Drawn}{ch:List Addr} (I:Inv X Yp σ H s)
  (hch:∀ b∈ch,(b∈X.ex∨X.s₀.heap.objs.size<=b)/\b≠X.env.locals/\(∀ x c,X.env.cells.lookup x=some c->c≠b)/\∀ p∈X.pn++Yp,p.1≠b)
  (keep:∀ b o,b≠X.env.locals->b∉X.fs->b∉ch->s.heap.get? b=some o->H b=none->h'.get? b=some o)
  (slot:∀ b o,b≠X.env.locals->b∈X.fs->b∉ch->s.heap.get? b=some o->H b=none->∃ sl,h'.get? b=some { o with slots:=sl }) (free:∀ b o,b∉ch->s.heap.get? b=some o->H b=none->H' b=none)
  (there:∀ b o,b∉ch->s.heap.get? b=some o->∃ o',h'.get? b=some o')
  (tups:∀ b xs,H b=some (.tup xs)->H' b=some (.tup xs)) (frzs:∀ b o u,H b=some (.frz o u)->H' b=some (.frz o u)) (tbls:∀ b ps,H b=some (.tbl ps)->∃ more,H' b=some (.tbl (ps++more)))
  (ns:∀ m,s.heap.Ns X.env.locals m->h'.Ns X.env.locals m) (hok:Ð X.prog X.w H' h') (hg:AllBare g') :
  Inv X Yp σ H' { s with heap:=h',gens:=g',drawn:=d',toks:=t' }:=by
 have neL:∀ b o,X.s₀.heap.get? b=some o->b≠X.env.locals:=fun b o e=>bh (bH (aH e) I.ok.above);have neC:∀ b o,X.s₀.heap.get? b=some o->b∉X.ex->b∉ch:=fun b o e hx hb=>by
  rcases (hch b hb).1 with z | z
  ·exact hx z
  ·exact absurd (bH (aH e) z) (fq _)
 have cellK:∀ x c,X.env.cells.lookup x=some c->∀ v,s.heap.IsCell c v->h'.IsCell c v:=fun x c e v ⟨o,ho,hd⟩=>by
  have nch:c∉ch:=fun z=>(hch c z).2.2.1 x c e rfl
  by_cases hc:c∈X.fs
  ·obtain⟨sl,q⟩:=slot c o (I.ì x c e) hc nch ho (I.freeC x c e);exact⟨_,q,hd⟩
  ·exact⟨o,keep c o (I.ì x c e) hc nch ho (I.freeC x c e),hd⟩
 refine⟨I.ok,I.os,hg,⟨fun b o e n hb hx=>?_,fun b o e n hb hx=>?_,fun b o e n hx=>?_,fun b o e hx=>?_,fun b xs e=>tups b xs (I.base.tups b xs e),fun b o xs e=>frzs b o xs (I.base.frzs b o xs e),fun b ps e=>?_⟩,?_,fun x c e=>?_,?_,fun x c e=>?_,fun p hp=>?_,hok,I.len⟩
 ·exact keep b o (neL b o e) hb (neC b o e hx) (I.base.keep b o e n hb hx) (I.base.free b o e n hx)
 ·obtain⟨sl,e1⟩:=I.base.slot b o e n hb hx;obtain⟨sl',e2⟩:=slot b _ (neL b o e) hb (neC b o e hx) e1 (I.base.free b o e n hx);exact⟨sl',e2⟩
 ·obtain⟨o',e1⟩:=I.base.there b o e hx;exact free b o' (neC b o e hx) e1 (I.base.free b o e n hx)
 ·obtain⟨o',e1⟩:=I.base.there b o e hx;exact there b o' (neC b o e hx) e1
 ·obtain⟨m1,e1⟩:=I.base.tbls b ps e;obtain⟨m2,e2⟩:=tbls b _ e1;exact⟨m1++m2,by rw[e2,Array.append_assoc]⟩
 ·obtain⟨m,hn,hl⟩:=I.loc;refine⟨m,ns m hn,fun i x v e1 e2 e3=>?_⟩;obtain⟨u,r,l⟩:=hl i x v e1 e2 e3;refine⟨u,r,?_⟩;rcases l with l | ⟨k,c,e,z⟩
  ·exact .inl l
  ·exact .inr ⟨k,c,e,cellK x c e _ z⟩
 ·obtain⟨v,z⟩:=I.cell x c e;exact⟨v,cellK x c e v z⟩
 ·obtain⟨m,⟨o,_,_,ho,_⟩,_⟩:=I.loc;exact free _ o (fun z=>(hch _ z).2.1 rfl) ho I.free
 ·obtain⟨v,o,ho,hd⟩:=I.cell x c e;exact free c o (fun z=>(hch c z).2.2.1 x c e rfl) ho (I.freeC x c e)
 ·obtain⟨e,n,ne,nf,d⟩:=I.pin p hp;have nch:p.1∉ch:=fun z=>(hch p.1 z).2.2.2 p hp rfl;exact⟨keep p.1 p.2 ne nf nch e n,free p.1 p.2 nch e n,ne,nf,d⟩
theorem Inv.un {t':Nat} (I:Inv X Yp σ H s) (u:Un X.fs [] H H' s.heap h') (hok:Ð X.prog X.w H' h'):Inv X Yp σ H' { s with heap:=h',toks:=t' }:=by obtain⟨m,⟨o,es,ep,ho,r⟩,_⟩:=id I.loc;obtain⟨sl,hL⟩:=u.any ho I.free (by simp);exact I.step (g':=s.gens) (d':=s.drawn) (ch:=[]) (fun _ z=>nomatch z) (fun b o _ hb _ e n=>u.keep b o e n hb (by simp)) (fun b o _ hb _ e n=>u.slot b o e n hb (by simp)) (fun b o _ e n=>u.free b o e n (by simp)) (fun b o _ e=>u.there b o e (by simp)) u.tups u.frzs u.tbls (fun m' hm=>by obtain⟨o',es',ep',ho',r'⟩:=hm;rw[ho] at ho';cases ho';exact⟨_,es',ep',hL,r'⟩) hok I.bare
theorem Inv.call {t':Nat}{d':Drawn} (I:Inv X Yp σ H s) (u:Un (Ì X.stack) ch H H' s.heap h') (hok:Ð X.prog X.w H' h') (hg:AllBare g')
  (hch:∀ b∈ch,(b∈X.ex∨X.s₀.heap.objs.size<=b)/\b≠X.env.locals/\(∀ x c,X.env.cells.lookup x=some c->c≠b)/\∀ p∈X.pn++Yp,p.1≠b) :
  Inv X Yp σ H' { s with heap:=h',gens:=g',drawn:=d',toks:=t' }:=by
 obtain⟨m,⟨o,es,ep,ho,r⟩,_⟩:=id I.loc;obtain⟨sl,hL⟩:=u.any ho I.free fun z=>(hch _ z).2.1 rfl;exact I.step (ch:=ch) hch (fun b o hL hb hc e n=>u.keep b o e n (fun z=>(aU.mp (I.yB b z)).elim hL hb) hc) (fun b o _ _ hc e n=>u.any e n hc) (fun b o hc e n=>u.free b o e n hc) (fun b o hc e=>u.there b o e hc) u.tups u.frzs u.tbls (fun m' hm=>by obtain⟨o',es',ep',ho',r'⟩:=hm;rw[ho] at ho';cases ho';exact⟨_,es',ep',hL,r'⟩) hok hg
theorem Inv.turned {t':Nat} (I:Inv X Yp σ H s) (k:∀ b o,b≠it->s.heap.get? b=some o->h'.get? b=some o) (hn:H it=none) (hL:it≠X.env.locals)
  (h1:it∈X.ex∨X.s₀.heap.objs.size<=it) (h2:∀ x c,X.env.cells.lookup x=some c->c≠it) (h3:∀ p∈X.pn++Yp,p.1≠it):Inv X Yp σ H { s with heap:=h',toks:=t' }:=by
 have nit:∀ b u,H b=some u->b≠it:=fun b u e z=>by rw[z,hn] at e;cases e
 refine I.step (g':=s.gens) (d':=s.drawn) (ch:=[it]) (fun b hb=>?_) (fun b o _ _ hc e _=>k b o (fun z=>hc (by simp [z])) e) (fun b o _ _ hc e _=>⟨o.slots,k b o (fun z=>hc (by simp [z])) e⟩) (fun _ _ _ _ n=>n)
  (fun b o hc e=>⟨o,k b o (fun z=>hc (by simp [z])) e⟩) (fun _ _ e=>e) (fun _ _ _ e=>e) (fun b ps e=>⟨#[],by rw[e];simp⟩) (fun m hm=>?_) (fun b u e=>?_) I.bare
 ·have e:b=it:=by simpa using hb
  subst e;exact⟨h1,hL,h2,h3⟩
 ·obtain⟨o,es,ep,ho,r⟩:=hm;exact⟨o,es,ep,k _ o (b7 hL) ho,r⟩
 ·refine (I.hok b u e).mD (fun c v hc q=>k c v ?_ q) (fun _ q=>q) fun _ _ q=>q;rcases hc with z | z
  ·rw[z];exact nit b u e
  ·exact nit c _ z
theorem Inv.tok (I:Inv X Yp σ H s) (t:Nat):Inv X Yp σ H { s with toks:=t }:=I.un (h':=s.heap) (t':=t) Un.refl I.hok
theorem Inv.kept {t':Nat} (I:Inv X Yp σ H s) (k:∀ b u,s.heap.get? b=some u->h'.get? b=some u):Inv X Yp σ H { s with heap:=h',toks:=t' }:=I.un (Un.kept k) (I.hok.kept k)
theorem Inv.laid {a:Addr}{o:HO}{t':Nat} (I:Inv X Yp σ H s) (k:∀ b u,s.heap.get? b=some u->h'.get? b=some u) (hp:s.heap.objs.size<=a) (new:cj X.prog X.w (upd H a o) h' a o) :
  Inv X Yp σ (upd H a o) { s with heap:=h',toks:=t' }:=I.un (Un.laid k hp (I.hok.fresh hp)) (I.hok.laid k hp new)
theorem Inv.write {x e:Addr}{o:HO}{t':Nat} (I:Inv X Yp σ H s) (mu:Ă (H x)) (he:e=x∨H e=some (.own x)) (k:∀ b u,b≠e->s.heap.get? b=some u->h'.get? b=some u) (heo:∃ u,h'.get? e=some u)
  (new:cj X.prog X.w (upd H x o) h' x o):Inv X Yp σ (upd H x o) { s with heap:=h',toks:=t' }:=I.un (Un.write mu he k heo) (I.hok.write mu he k heo new)
theorem Inv.CP {pins':Zp} (I:Inv X Yp σ H s) (h:∀ p∈pins',s.heap.get? p.1=some p.2/\H p.1=none/\p.1≠X.env.locals/\p.1∉X.fs/\∀ v,p.2.data≠.cell v):Inv X pins' σ H s :=
 ⟨I.ok,I.os,I.bare,I.base,I.loc,I.cell,I.free,I.freeC,fun p hp=>(bG.mp hp).elim (fun z=>I.pin p (lP _ z)) (h p),I.hok,I.len⟩
theorem vf {N:Ze} (hN:N.Nodup) {i j:Nat} (a:N[i]?=some x) (b:N[j]?=some x):i=j:=by obtain⟨h1,e1⟩:=br.mp a;obtain⟨h2,e2⟩:=br.mp b;exact (List.getElem_inj hN).mp (e1.trans e2.symm)
theorem xl {M:Model}{A:Around}{E:Zq}{v:V}{Q:Unit->Zg->Prop} (I:Inv X Yp σ H s) (hN:X.N.Nodup) (hi:X.N[i]?=some x) (hx:Loc X.env.scope x) (r:RelV v u)
  (h:∀ s',Inv X Yp (σ.set i (some v)) H s'->(∃ a,Heap.SameBut a s.heap s'.heap/\(a=X.env.locals∨X.env.cells.lookup x=some a))->Q () s') (hf:X.fn x=true∨X.env.scope.names.lookup x=some .local:=by first | exact .inl rfl | exact .inr rfl | assumption):wpAny M A (storeName X.env x u) Q E s:=by
 obtain⟨m,hn,hl⟩:=id I.loc;have hcls:(X.env.scope.kind==.class||(X.env.scope.kind==.module&&X.env.locals != X.env.globals))=false:=by rw[I.ok.kind];rfl
 have hiσ:i<⇑σ:=by rw[I.len];exact (br.mp hi).1
 have ì:=I.ì;have tracked:∀ {a:Addr}{h':Heap},(∃ o,s.heap.get? a=some o/\H a=none)->Heap.SameBut a s.heap h'->Ð X.prog X.w H h':=fun {a h'} ha hs b ob e=>by
  obtain⟨_,_,hfree⟩:=ha;refine (I.hok b ob e).mD (fun c w' hc q=>(hs.2 c ?_).trans q) (fun _ q=>q) fun _ _ q=>q;rintro rfl;rcases hc with rfl | hc
  ·rw[hfree] at e;cases e
  ·rw[hfree] at hc;cases hc
 rcases hx with hk | hk
 ·refine wpAny_storeName_local hk hn (fun h' hn' hs=>?_) hcls;obtain⟨oL,_,_,hoL,_⟩:=id hn;refine h _ ⟨I.ok,I.os,I.bare,⟨fun b o e n hb hx=>?_,fun b o e n hb hx=>?_,I.base.free,fun b o e hx=>?_,I.base.tups,I.base.frzs,I.base.tbls⟩,⟨_,hn',fun j y v' e1 e2 e3=>?_⟩,fun y c e=>?_,I.free,I.freeC,fun p hp=>?_,tracked ⟨oL,hoL,I.free⟩ hs,by simpa using I.len⟩ ⟨_,hs,.inl rfl⟩
  ·exact (hs.2 b (bh (bH (aH e) I.ok.above))).trans (I.base.keep b o e n hb hx)
  ·obtain⟨sl,e1⟩:=I.base.slot b o e n hb hx;exact⟨sl,(hs.2 b (bh (bH (aH e) I.ok.above))).trans e1⟩
  ·obtain⟨o',e1⟩:=I.base.there b o e hx;exact⟨o',(hs.2 b (bh (bH (aH e) I.ok.above))).trans e1⟩
  ·by_cases hj:j=i
   ·subst hj;rw[hi] at e1;cases e1;rw[iW hiσ] at e2;cases e2;exact⟨u,r,.inl ⟨hk,by simp⟩⟩
   ·rw[iV (b7 hj)] at e2;obtain⟨u',r',q⟩:=hl j y v' e1 e2 e3;refine⟨u',r',?_⟩;rcases q with ⟨k,e⟩ | ⟨k,c,e,z⟩
    ·refine .inl ⟨k,?_⟩;have:y≠x:=fun e=>hj (vf hN e1 (e ▸ hi));simp [this,e]
    ·exact .inr ⟨k,c,e,z.sameBut hs (ì y c e)⟩
  ·obtain⟨w',z⟩:=I.cell y c e;exact⟨w',z.sameBut hs (ì y c e)⟩
  ·obtain⟨e,n,ne,nf,d⟩:=I.pin p hp;exact⟨(hs.2 p.1 ne).trans e,n,ne,nf,d⟩
 ·have hfn:X.fn x=true:=by
   rcases hf with z | z
   ·exact z
   ·rw[z] at hk;cases hk
  obtain⟨c,hc⟩:=I.ok.has x (.inl hk);obtain⟨w',z⟩:=I.cell x c hc;refine wpAny_storeName_cell I.ok.kind hk hc z (fun h' hc' hs=>?_);obtain⟨oc,hoc,hocd⟩:=id z;refine h { s with heap:=h' } ⟨I.ok,I.os,I.bare,⟨fun b o e n hb hx=>?_,fun b o e n hb hx=>?_,I.base.free,fun b o e hx=>?_,I.base.tups,I.base.frzs,I.base.tbls⟩,⟨m,hn.sameBut hs (b7 (ì x c hc)),fun j y v' e1 e2 e3=>?_⟩,fun y c' e=>?_,I.free,I.freeC,fun p hp=>?_,tracked ⟨oc,hoc,I.freeC x c hc⟩ hs,by simpa using I.len⟩ ⟨c,hs,.inr hc⟩
  ·exact (hs.2 b (bh (bH (aH e) (I.ok.cab x c hfn hc)))).trans (I.base.keep b o e n hb hx)
  ·obtain⟨sl,e1⟩:=I.base.slot b o e n hb hx;exact⟨sl,(hs.2 b (bh (bH (aH e) (I.ok.cab x c hfn hc)))).trans e1⟩
  ·obtain⟨o',e1⟩:=I.base.there b o e hx;exact⟨o',(hs.2 b (bh (bH (aH e) (I.ok.cab x c hfn hc)))).trans e1⟩
  ·by_cases hj:j=i
   ·subst hj;rw[hi] at e1;cases e1;rw[iW hiσ] at e2;cases e2;exact⟨u,r,.inr ⟨.inl hk,c,hc,hc'⟩⟩
   ·rw[iV (b7 hj)] at e2;obtain⟨u',r',q⟩:=hl j y v' e1 e2 e3;refine⟨u',r',?_⟩;rcases q with q | ⟨k,c',e,z'⟩
    ·exact .inl q
    ·refine .inr ⟨k,c',e,z'.sameBut hs ?_⟩;rintro rfl;exact hj (vf hN e1 (I.ok.inj _ _ _ e hc ▸ hi))
  ·by_cases hcc:c'=c
   ·subst hcc;exact⟨_,hc'⟩
   ·obtain⟨w2,z2⟩:=I.cell y c' e;exact⟨w2,z2.sameBut hs hcc⟩
  ·obtain⟨e,n,ne,nf,d⟩:=I.pin p hp;refine⟨(hs.2 p.1 ?_).trans e,n,ne,nf,d⟩;intro q;rw[q,hoc] at e;have q':oc=p.2:=Option.some.inj e;exact d w' (by rw[←q'];exact hocd)
theorem lG {M:Model}{A:Around}{E:Zq}{v:V}{Q:Unit->Zg->Prop} (I:Inv X Yp σ H s) (hN:X.N.Nodup) (hi:X.N[i]?=some x) (hx:Loc X.env.scope x) (r:RelV v u)
  (h:∀ s',Inv X Yp (σ.set i (some v)) H s'->Q () s') (hf:X.fn x=true∨X.env.scope.names.lookup x=some .local:=by first | exact .inl rfl | exact .inr rfl | assumption):wpAny M A (storeName X.env x u) Q E s :=
 xl I hN hi hx r (fun s' I' _=>h s' I') hf
theorem Inv.wD {s':Zg} (I:Inv X Yp σ H s) (ho:s'.os=s.os) (u:Un (Ì X.stack) ch H H' s.heap s'.heap) (hok:Ð X.prog X.w H' s'.heap) (hg:AllBare s'.gens)
  (hch:∀ b∈ch,(b∈X.ex∨X.s₀.heap.objs.size<=b)/\b≠X.env.locals/\(∀ x c,X.env.cells.lookup x=some c->c≠b)/\∀ p∈X.pn++Yp,p.1≠b):Inv X Yp σ H' s':=by
 obtain⟨h',g',d',t',o'⟩:=s';have e:o'=s.os:=ho;subst e;exact I.call (g':=g') (t':=t') (d':=d') u hok hg hch
end
noncomputable abbrev XK:=Value->Option Addr->Hp->Prop
noncomputable abbrev St:=List (Option V)
noncomputable abbrev VK:=V->Hp->Prop
noncomputable abbrev TE:=St->Hp->VK->Prop
noncomputable abbrev TT:=St->Hp->(Bool->Hp->Prop)->Prop
noncomputable abbrev TA:=St->Hp->(List V->Hp->Prop)->Prop
structure Ends where
 nx:St->Hp->Prop
 rt:VK
 bk:St->Hp->Prop:=fun _ _=>False
 ct:St->Hp->Prop:=fun _ _=>False
noncomputable abbrev TS:=Ends->St->Hp->Prop
inductive EP (X:Cx) (Yp:Zp) (σ:St) (Q:VK) (u:Value) (s':Zg):Prop
 | mk (v:V) (H':Hp) (i:Inv X Yp σ H' s') (r:RelV v u) (q:Q v H'):EP X Yp σ Q u s'
inductive TP (X:Cx) (Yp:Zp) (σ:St) (Q:Bool->Hp->Prop) (b:Bool) (s':Zg):Prop
 | mk (H':Hp) (i:Inv X Yp σ H' s') (q:Q b H'):TP X Yp σ Q b s'
inductive AP (X:Cx) (Yp:Zp) (σ:St) (Q:List V->Hp->Prop) (us:Zc) (s':Zg):Prop
 | mk (vs:List V) (H':Hp) (i:Inv X Yp σ H' s') (r:Vals vs us) (q:Q vs H'):AP X Yp σ Q us s'
noncomputable def SP (X:Cx) (Yp:Zp) (D:Ends) (f:Flow) (s':Zg):Prop :=
 match f with
 | .next=>∃ σ' H',Inv X Yp σ' H' s'/\D.nx σ' H'
 | .brk=>∃ σ' H',Inv X Yp σ' H' s'/\D.bk σ' H'
 | .cont=>∃ σ' H',Inv X Yp σ' H' s'/\D.ct σ' H'
 | .ret u=>∃ v σ' H',Inv X Yp σ' H' s'/\RelV v u/\D.rt v H'
noncomputable def PE (X:Cx) (e:Expr) (t:TE):Prop :=
 ∀ (Yp:Zp) (s:Zg) (σ:St) (H:Hp) (Q:VK),Inv X Yp σ H s->t σ H Q->wpAny (model X.prog X.w) X.A (eval e X.env) (EP X Yp σ Q) X.xe s
noncomputable def PT (X:Cx) (e:Expr) (t:TT):Prop :=
 ∀ (Yp:Zp) (s:Zg) (σ:St) (H:Hp) (Q:Bool->Hp->Prop),Inv X Yp σ H s->t σ H Q->wpAny (model X.prog X.w) X.A (isTrue e X.env (eval e X.env)) (TP X Yp σ Q) X.xe s
noncomputable def PW (X:Cx) (e:Expr) (t:TT):Prop :=
 ∀ (whole:Sem Value) (Yp:Zp) (s:Zg) (σ:St) (H:Hp) (Q:Bool->Hp->Prop),Inv X Yp σ H s->t σ H Q->wpAny (model X.prog X.w) X.A (isTrue e X.env whole) (TP X Yp σ Q) X.xe s
theorem PW.pt {X:Cx}{t:TT} (h:PW X e t):PT X e t:=h _
noncomputable def PA (X:Cx) (es:List Expr) (t:TA):Prop :=
 ∀ (pos:Pos) (Yp:Zp) (s:Zg) (σ:St) (H:Hp) (Q:List V->Hp->Prop),Inv X Yp σ H s->t σ H Q->wpAny (model X.prog X.w) X.A (spliced (backTo pos (starEach es X.env))) (AP X Yp σ Q) X.xe s
noncomputable def PS (X:Cx) (st:Stmt) (t:TS):Prop :=
 ∀ (Yp:Zp) (s:Zg) (σ:St) (H:Hp) (D:Ends),Inv X Yp σ H s->t D σ H->wpAny (model X.prog X.w) X.A (exec st X.env) (SP X Yp D) X.xe s
noncomputable def á (X:Cx) (st:List Stmt) (t:TS):Prop :=
 ∀ (Yp:Zp) (s:Zg) (σ:St) (H:Hp) (D:Ends),Inv X Yp σ H s->t D σ H->wpAny (model X.prog X.w) X.A (execs st X.env) (SP X Yp D) X.xe s
theorem Â {α:Type}{t:Sem α}{Q Q':α->Zg->Prop}{A:Around} (h:wpAny M A t Q E s) (hQ:∀ a s,Q a s->Q' a s):wpAny M A t Q' E s:=bO h hQ fun _ _ x=>x
end
section
section
variable {X:Cx}
noncomputable def sZ (i:Nat):TE:=fun σ H Q=>∃ v,σ[i]?=some (some v)/\Q v H
noncomputable def tC (v:V):TE:=fun _ H Q=>Q v H
theorem Hg (hN:X.N[i]?=some x) (hv:Vis X.env.scope x) (hd:(x==("__debug__":Str))=false:=by decide) (hcd:(x==("__classdict__":Str))=false:=by decide):PE X (.Name x pos) (sZ i):=by
 intro Yp s σ H Q I h;obtain⟨v,e,h⟩:=h;obtain⟨m,hn,hl⟩:=I.loc;obtain⟨u,r,l⟩:=hl i x v hN e hv;have fin:EP X Yp σ Q u s:=⟨v,H,I,r,h⟩;rcases l with ⟨hk,hm⟩ | ⟨hk,c,hc,hcell⟩
 ·exact wpAny_Name (wpAny_loadName_local I.ok.kind hk hn hm fin) hd
 ·rcases hk with hk | hk
  ·exact wpAny_Name (wpAny_loadName_cell I.ok.kind hk hc hcell fin) hd
  ·exact wpAny_Name (wpAny_loadName_free I.ok.kind hk hc hcell fin hcd) hd
theorem aA {i j pos}:PE X (.Constant (.int i) j pos) (tC (.int i)):=fun _ _ _ H _ I h=>wpAny_Constant_int ⟨.int i,H,I.tok _,⟨_,rfl⟩,h⟩
theorem ky {b j pos}:PE X (.Constant (.bool b) j pos) (tC (.bl b)):=fun _ _ _ H _ I h=>Constant_bool ⟨.bl b,H,I,rfl,h⟩
theorem jB {j pos}:PE X (.Constant .none j pos) (tC .non):=fun _ _ _ H _ I h=>Constant_none ⟨.non,H,I,rfl,h⟩
theorem bU {x j pos}:PE X (.Constant (.str x) j pos) (tC (.str x)):=fun _ _ _ H _ I h=>Calls.Constant_str ⟨.str x,H,I.tok _,⟨_,rfl⟩,h⟩
noncomputable def Gl (X:Cx) (x:Str):Prop:=X.env.kindOf x=some .globalImplicit
theorem ku {E:Zq}{σ:St}{H:Hp}{pos:Pos} (I:Inv X Yp σ H s) (hg:Gl X x) (hm:X.mg x=some u) (h:Q u s)
  (hd:(x==("__debug__":Str))=false:=by decide):wpAny (model X.prog X.w) X.A (eval (.Name x pos) X.env) Q E s :=
 Calls.Name_function_global I.ok.kind hg (Calls.loadGlobal_global (by rw[I.ok.glob];exact I.mod.glob.keeps I.bk) hm h) hd
theorem su {E:Zq}{σ:St}{H:Hp}{pos:Pos} (I:Inv X Yp σ H s) (hg:Gl X x) (hm:X.mg x=none) (hv:bootBuiltins x=some u) (h:Q u s)
  (hn:x≠"__name__":=by decide) (hd:(x==("__debug__":Str))=false:=by decide):wpAny (model X.prog X.w) X.A (eval (.Name x pos) X.env) Q E s:=by
 obtain⟨mb,h1,h2⟩:=I.mod.blt;exact Calls.Name_function_global I.ok.kind hg (Calls.loadGlobal_builtin (by rw[I.ok.glob];exact I.mod.glob.keeps I.bk) hm (by rw[I.ok.blt];exact h1.keeps I.bk) ((h2 x hn).trans hv) h) hd
theorem JH {v:V} (hg:Gl X x) (hm:X.mg x=some u) (r:RelV v u) (hd:(x==("__debug__":Str))=false:=by decide):PE X (.Name x pos) (tC v) :=
 fun _ _ _ H _ I h=>ku I hg hm ⟨v,H,I,r,h⟩ hd
theorem JD {v:V} (hg:Gl X x) (hm:X.mg x=none) (hv:bootBuiltins x=some u) (r:RelV v u) (hn:x≠"__name__":=by decide) (hd:(x==("__debug__":Str))=false:=by decide):PE X (.Name x pos) (tC v) :=
 fun _ _ _ H _ I h=>su I hg hm hv ⟨v,H,I,r,h⟩ hn hd
variable {a b:Expr}{ta tb:TE}{pos:Pos}
noncomputable def tB (t:TE):TT:=fun σ H Q=>t σ H fun x H1=>∃ c,x=.bl c/\Q c H1
theorem cH {t:TE} (h:PE X e t) (he:∀ whole,isTrue e X.env whole=(do let v ←whole;standAt e.pos;holding [v] (truthy v)):=by intro _;rfl):PT X e (tB t):=by intro Yp s σ H Q I hw;refine isTrue_plain (Â (h Yp s σ H _ I hw) fun v s1 ⟨x,H1,I1,r1,q1⟩=>?_) (he _);obtain⟨d,rfl,q⟩:=q1;cases r1;exact fB ⟨H1,I1,q⟩
variable {tA tB':TT}{rest:List Expr}
noncomputable def NF (t u:TT):TT:=fun σ H Q=>t σ H fun c H1=>if c=true then u σ H1 Q else Q false H1
noncomputable def tOr (t u:TT):TT:=fun σ H Q=>t σ H fun c H1=>if c=true then Q true H1 else u σ H1 Q
noncomputable def NI (t:TT):TT:=fun σ H Q=>t σ H fun c H1=>Q (!c) H1
theorem JR (ha:PT X a tA):PW X (.BoolOp .And [a] pos) tA:=by
 intro wh Yp s σ H Q I h;refine isTrue_and (Â (ha Yp s σ H Q I h) fun c s1 e=>?_);cases c with
 | true=>exact isTrue_and_nil e
 | false=>exact e
theorem kO (ha:PT X a tA):PW X (.BoolOp .Or [a] pos) tA:=by
 intro wh Yp s σ H Q I h;refine isTrue_or (Â (ha Yp s σ H Q I h) fun c s1 e=>?_);cases c with
 | false=>exact isTrue_or_nil e
 | true=>exact e
theorem Hq (ha:PT X a tA) (hb:PW X (.BoolOp .And (b::rest) pos) tB'):PW X (.BoolOp .And (a::b::rest) pos) (NF tA tB'):=by
 intro wh Yp s σ H Q I h;refine isTrue_and (Â (ha Yp s σ H _ I h) fun c s1 ⟨H1,I1,q1⟩=>?_);cases c with
 | true=>exact hb wh Yp s1 σ H1 Q I1 q1
 | false=>exact⟨H1,I1,q1⟩
theorem ng (ha:PT X a tA) (hb:PW X (.BoolOp .Or (b::rest) pos) tB'):PW X (.BoolOp .Or (a::b::rest) pos) (tOr tA tB'):=by
 intro wh Yp s σ H Q I h;refine isTrue_or (Â (ha Yp s σ H _ I h) fun c s1 ⟨H1,I1,q1⟩=>?_);cases c with
 | true=>exact⟨H1,I1,q1⟩
 | false=>exact hb wh Yp s1 σ H1 Q I1 q1
theorem cU (ha:PT X a tA):PT X (.UnaryOp .Not a pos) (NI tA):=by intro Yp s σ H Q I h;exact isTrue_not (Â (ha Yp s σ H (fun c H1=>Q (!c) H1) I h) fun c s1 ⟨H1,I1,q1⟩=>⟨H1,I1,q1⟩)
noncomputable def KO (ta tb:TE):TE:=fun σ H Q=>ta σ H fun x H1=>∃ c,x=.bl c/\if c=true then tb σ H1 Q else Q (.bl false) H1
noncomputable def NJ (ta tb:TE):TE:=fun σ H Q=>ta σ H fun x H1=>∃ c,x=.bl c/\if c=true then Q (.bl true) H1 else tb σ H1 Q
noncomputable def KU (ta:TE):TE:=fun σ H Q=>ta σ H fun x H1=>∃ c,x=.bl c/\Q (.bl (!c)) H1
theorem mh {op}{t:TE} (h:PE X a t):PE X (.BoolOp op [a] pos) t:=fun Yp s σ H Q I hw=>BoolOp_one (h Yp s σ H Q I hw)
theorem pQ (ha:PE X a ta) (hb:PE X (.BoolOp .And (b::rest) pos) tb):PE X (.BoolOp .And (a::b::rest) pos) (KO ta tb):=by
 intro Yp s σ H Q I h;refine BoolOp_and (Â (ha Yp s σ H _ I h) fun v s1 ⟨x,H1,I1,r1,q1⟩=>?_);obtain⟨c,rfl,q1⟩:=q1;cases r1;refine fB ?_;cases c with
 | true=>exact hb Yp s1 σ H1 Q I1 q1
 | false=>exact⟨.bl false,H1,I1,rfl,q1⟩
theorem K3 (ha:PE X a ta) (hb:PE X (.BoolOp .Or (b::rest) pos) tb):PE X (.BoolOp .Or (a::b::rest) pos) (NJ ta tb):=by
 intro Yp s σ H Q I h;refine BoolOp_or (Â (ha Yp s σ H _ I h) fun v s1 ⟨x,H1,I1,r1,q1⟩=>?_);obtain⟨c,rfl,q1⟩:=q1;cases r1;refine fB ?_;cases c with
 | false=>exact hb Yp s1 σ H1 Q I1 q1
 | true=>exact⟨.bl true,H1,I1,rfl,q1⟩
theorem Ms (ha:PE X a ta):PE X (.UnaryOp .Not a pos) (KU ta):=by intro Yp s σ H Q I h;refine UnaryOp_ (Â (ha Yp s σ H _ I h) fun v s1 ⟨x,H1,I1,r1,q1⟩=>?_);obtain⟨c,rfl,q1⟩:=q1;cases r1;exact not_of (fB ⟨.bl (!c),H1,I1,rfl,q1⟩)
noncomputable def Ĕ (t:TT) (ta tb:TE):TE:=fun σ H Q=>t σ H fun c H1=>if c=true then ta σ H1 Q else tb σ H1 Q
theorem zK (hc:PT X c tA) (ha:PE X a ta) (hb:PE X b tb):PE X (.IfExp c a b pos) (Ĕ tA ta tb):=by
 intro Yp s σ H Q I h;refine wpAny_IfExp (Â (hc Yp s σ H _ I h) fun d s1 ⟨H1,I1,q1⟩=>?_);cases d with
 | true=>exact ha Yp s1 σ H1 Q I1 q1
 | false=>exact hb Yp s1 σ H1 Q I1 q1
end
end
section
noncomputable def Æ (K:Zf) (H:Hp) (a:Addr) (xs:List V):Prop :=
 Rd H a (.lst xs) ∨
  ∃ (o:Obj) (its:Array Value) (n:Nat),K.lookup a=some o/\o.cls=.type "list"/\o.dict=none/\o.data=.seq its n/\its.size<=sizeLine/\Vals xs its.toList
noncomputable def Û (K:Zf) (H:Hp) (a:Addr) (xs:List V):Prop :=
 Rd H a (.tup xs) ∨
  ∃ (o:Obj) (its:Array Value) (n:Nat),K.lookup a=some o/\o.cls=.type "tuple"/\o.data=.seq its n/\its.size<=sizeLine/\Vals xs its.toList
noncomputable def Oe:Value->Option V
 | .none=>some .non
 | .bool b=>some (.bl b)
 | .int i _=>some (.int i)
 | .str x _=>some (.str x)
 | .bytes b _=>some (.byt b)
 | .float b _=>some (.flt b)
 | .ref a=>some (.ref a)
 | .type n=>some (.ty n)
 | _=>none
theorem RelV.abs {x:V} (r:RelV x u):Oe u=some x:=by
 cases x with
 | non=>cases r;rfl
 | bl _=>cases r;rfl
 | int _=>obtain⟨t,rfl⟩:=r;rfl
 | str _=>obtain⟨t,rfl⟩:=r;rfl
 | byt _=>obtain⟨t,rfl⟩:=r;rfl
 | flt _=>obtain⟨t,rfl⟩:=r;rfl
 | ref _=>cases r;rfl
 | ty _=>cases r;rfl
theorem RelV.inj {x y:V}{u:Value} (r:RelV x u) (q:RelV y u):x=y:=Option.some.inj (r.abs.symm.trans q.abs)
theorem Vals.inj:∀ {xs ys:List V}{us:Zc},Vals xs us->Vals ys us->xs=ys
 | _,_,_,.nil,.nil=>rfl
 | _,_,_,.cons r t,.cons r' t'=>by rw[r.inj r',Vals.inj t t']
section
variable {X:Cx}{Yp:Zp}{σ:St}{H:Hp}{s:Zg}{a:Addr}{xs ys:List V}
theorem Æ.of (h:H a=some (.lst xs)):Æ K H a xs:=.inl (.inl h)
theorem Û.of (h:H a=some (.tup xs)):Û K H a xs:=.inl (.inl h)
theorem Inv.list (I:Inv X Yp σ H s) (h:Æ X.K H a xs):∃ its:Zc,Vals xs its/\PlainL s.heap a its.toArray/\⇑xs<=sizeLine:=by
 rcases h with h | ⟨o,its,n,hk,hc,hd,hs,hz,r⟩
 ·obtain⟨z,its,n,r,e⟩:=h.ok I.hok;exact⟨its,r,⟨_,n,e,rfl,rfl,rfl⟩,z⟩
 ·refine⟨its.toList,r,⟨o,n,I.Ñ a o hk,hc,hd,by simpa using hs⟩,?_⟩;have e:=⇑r;simp only[cD] at e;left
theorem Inv.tuple (I:Inv X Yp σ H s) (h:Û X.K H a xs):∃ its:Zc,Vals xs its/\IsTup s.heap a its.toArray/\⇑xs<=sizeLine:=by
 rcases h with h | ⟨o,its,n,hk,hc,hs,hz,r⟩
 ·obtain⟨z,its,r,p⟩:=h.ok I.hok;exact⟨its,r,p,z⟩
 ·refine⟨its.toList,r,⟨o,I.Ñ a o hk,hc,n,by simpa using hs⟩,?_⟩;have e:=⇑r;simp only[cD] at e;left
theorem Inv.qO (I:Inv X Yp σ H s) (h:Æ X.K H a xs) (h':Æ X.K H a ys):xs=ys:=by
 obtain⟨its,r,⟨o,n,e,_,_,d⟩,_⟩:=I.list h;obtain⟨its',r',⟨o',n',e',_,_,d'⟩,_⟩:=I.list h';rw[e] at e';cases e';rw[d] at d'
 injection d' with d1 _
 have:its=its':=by simpa using cc Array.toList d1
 subst this;exact r.inj r'
theorem Inv.ET (I:Inv X Yp σ H s) (h:Û X.K H a xs) (h':Û X.K H a ys):xs=ys:=by
 obtain⟨its,r,⟨o,e,_,n,d⟩,_⟩:=I.tuple h;obtain⟨its',r',⟨o',e',_,n',d'⟩,_⟩:=I.tuple h';rw[e] at e';cases e';rw[d] at d'
 injection d' with d1 _
 have:its=its':=by simpa using cc Array.toList d1
 subst this;exact r.inj r'
end
section
variable {X:Cx}{Yp:Zp}{σ:St}{H:Hp}{s:Zg}{E:Zq}
end
section
variable {X:Cx}{st:Stmt}{rest:List Stmt}{t u:TS}{e:Expr}{te:TE}{pos:Pos}
noncomputable def Di:TS:=fun D σ H=>D.nx σ H
noncomputable def Kq (t u:TS):TS:=fun D σ H=>t { D with nx:=u D } σ H
theorem bu:á X [] Di:=fun _ _ σ H _ I h=>lZ ⟨σ,H,I,h⟩
theorem ah (h1:PS X st t) (h2:á X rest u):á X (st::rest) (Kq t u):=by
 intro Yp s σ H D I h;refine wpAny_execs_cons (Â (h1 Yp s σ H { D with nx:=u D } I h) fun f s1 q=>?_);cases f with
 | next =>obtain⟨σ',H',I',q⟩:=q;exact h2 Yp s1 σ' H' D I' q
 | ret v=>exact q
 | brk=>exact q
 | cont=>exact q
theorem ao (h1:PS X st t):á X [st] t:=by
 intro Yp s σ H D I h;refine wpAny_execs_cons (Â (h1 Yp s σ H D I h) fun f s1 q=>?_);cases f with
 | next=>exact lZ q
 | ret v=>exact q
 | brk=>exact q
 | cont=>exact q
theorem Inv.quiet {σ:St}{H:Hp} (I:Inv X Yp σ H s):interactive X.env=false:=by simp [interactive,I.ok.kind]
noncomputable def HW (te:TE):TS:=fun D σ H=>te σ H fun _ H1=>D.nx σ H1
theorem eG (he:PE X e te) (hs:swapsWith e none pos.line X.env=pure false:=by rfl):PS X (.Expr e pos) (HW te):=by intro Yp s σ H D I h;exact wpAny_Expr_any (Â (he Yp s σ H _ I h) fun v s1 ⟨x,H1,I1,r1,q1⟩=>⟨σ,H1,I1,q1⟩) I.quiet hs
noncomputable def MD (te:TE):TS:=fun D σ H=>te σ H D.rt
theorem aJ (he:PE X e te):PS X (.Return (some e) pos) (MD te):=by intro Yp s σ H D I h;exact wpAny_Return_some (Â (he Yp s σ H _ I h) fun v s1 ⟨x,H1,I1,r1,q1⟩=>⟨x,σ,H1,I1,r1,q1⟩)
noncomputable def Kp (c:TT) (t u:TS):TS:=fun D σ H=>c σ H fun b H1=>if b=true then t D σ H1 else u D σ H1
theorem cp {a b:List Stmt}{tc:TT} (hc:PT X c tc) (ha:á X a t) (hb:á X b u):PS X (.If c a b pos) (Kp tc t u):=by
 intro Yp s σ H D I h;refine wpAny_If (Â (hc Yp s σ H _ I h) fun d s1 ⟨H1,I1,q1⟩=>?_);cases d with
 | true=>exact ha Yp s1 σ H1 D I1 q1
 | false=>exact hb Yp s1 σ H1 D I1 q1
end
noncomputable abbrev TG:=V->St->Hp->(St->Hp->Prop)->Prop
noncomputable abbrev å:=List V->St->Hp->(St->Hp->Prop)->Prop
noncomputable def PG (X:Cx) (target:Expr) (t:TG):Prop :=
 ∀ (Yp:Zp) (s:Zg) (σ:St) (H:Hp) (v:V) (u:Value) (Q:St->Hp->Prop),Inv X Yp σ H s->RelV v u->t v σ H Q →
  wpAny (model X.prog X.w) X.A (assign target X.env u) (fun _ s'=>∃ σ' H',Inv X Yp σ' H' s'/\Q σ' H') X.xe s
noncomputable def ò (X:Cx) (ts:List Expr) (t:å):Prop :=
 ∀ (Yp:Zp) (s:Zg) (σ:St) (H:Hp) (vs:List V) (us:Zc) (Q:St->Hp->Prop),Inv X Yp σ H s->Vals vs us->t vs σ H Q →
  wpAny (model X.prog X.w) X.A (assignInOrder ((assignEach ts X.env).map (·.2)) us) (fun _ s'=>∃ σ' H',Inv X Yp σ' H' s'/\Q σ' H') X.xe s
noncomputable abbrev Ir:=V->V->V->Hp->(Hp->Prop)->Prop
noncomputable def Le (X:Cx) (t:Ir):Prop :=
 ∀ (Yp:Zp) (s:Zg) (σ:St) (H:Hp) (o i v:V) (ov iv u:Value) (Q:Hp->Prop),Inv X Yp σ H s->RelV o ov->RelV i iv->RelV v u->t o i v H Q →
  wpAny (model X.prog X.w) X.A (setItem ov iv u) (fun _ s'=>∃ H',Inv X Yp σ H' s'/\Q H') X.xe s
section
variable {X:Cx}{pos:Pos}
noncomputable def fG (i:Nat):TG:=fun v σ H Q=>Q (σ.set i (some v)) H
theorem JK (hN:X.N.Nodup) (hi:X.N[i]?=some x) (hx:Loc X.env.scope x) (hf:X.fn x=true∨X.env.scope.names.lookup x=some .local:=by first | exact .inl rfl | exact .inr rfl | assumption):PG X (.Name x pos) (fG i):=by intro Yp s σ H v u Q I r h;exact wpAny_assign_Name (lG I hN hi hx r (fun s' I'=>⟨_,H,I',h⟩) hf)
noncomputable def El:å:=fun vs σ H Q=>vs=[]/\Q σ H
noncomputable def oZ (t:TG) (u:å):å:=fun vs σ H Q=>∃ v r,vs=v::r/\t v σ H fun σ' H'=>u r σ' H' Q
theorem jt:ò X [] El:=by intro Yp s σ H vs us Q I r h;obtain⟨e,h⟩:=h;subst e;cases r;exact assignInOrder_nil ⟨σ,H,I,h⟩
theorem cE {t:TG}{u:å} (h1:PG X e t) (h2:ò X es u)
  (hs:(assignEach (e::es) X.env).map (·.2)=assign e X.env::(assignEach es X.env).map (·.2):=by rfl):ò X (e::es) (oZ t u):=by
 intro Yp s σ H vs us Q I r h;obtain⟨v,vr,e1,h⟩:=h;subst e1;cases r with
 | cons r rr =>rw[hs];refine assignInOrder_cons (Â (h1 Yp s σ H _ _ _ I r h) fun _ s1 ⟨σ1,H1,I1,q1⟩=>?_);exact h2 Yp s1 σ1 H1 _ _ Q I1 rr q1
noncomputable def Em (K:Zf) (n:Nat) (t:å):TG:=fun v σ H Q=>∃ a xs,v=.ref a/\Û K H a xs/\⇑xs=n/\t xs σ H Q
theorem Hi {k:Nat}{t:å}{n:Nat} (hc:X.calm=true) (h:ò X es t)
  (hn:⇑(assignEach es X.env)=n:=by rfl) (hst:(assignEach es X.env).findIdx? (·.1)=none:=by rfl):PG X (.Tuple es k pos) (Em X.K n t):=by
 intro Yp s σ H v u Q I r hw;obtain⟨a,xs,e1,hq,hl,hw⟩:=hw;subst e1;cases r;obtain⟨its,rv,ht,hz⟩:=I.tuple hq;refine assign_Tuple_tuple (I.ok.hd hc) ht (by simp [hn,←hl,⇑rv]) hst fun h' hx=>?_;have I1:Inv X Yp σ H { s with heap:=h' }:=I.kept (t':=s.toks) fun b o e=>hx b o (bh (aH e)) e;exact h Yp _ σ H xs _ Q I1 (by simpa using rv) hw
noncomputable def Nh (to ti:TE) (t:Ir):TG:=fun v σ H Q=>to σ H fun o H1=>ti σ H1 fun i H2=>t o i v H2 fun H3=>Q σ H3
theorem Mt {o i:Expr}{to ti:TE}{t:Ir} (ho:PE X o to) (hi:PE X i ti) (hs:Le X t)
  (ha:∀ v,assign (.Subscript o i pos) X.env v=(do
   let ov ←holding [v] (eval o X.env);let iv ←holding [v,ov] (eval i X.env)
   standAt pos
   holding [v,ov,iv] (setItem ov iv v)
   release [v,ov,iv] []):=by intro _;rfl):PG X (.Subscript o i pos) (Nh to ti t):=by
 intro Yp s σ H v u Q I r h;rw[ha];refine aa (cB (Â (ho Yp s σ H _ I h) fun ov s1 ⟨x,H1,I1,r1,q1⟩=>?_));refine aa (cB (Â (hi Yp s1 σ H1 _ I1 q1) fun iv s2 ⟨y,H2,I2,r2,q2⟩=>?_));refine aa (iE (aa (cB (Â (hs Yp s2 σ H2 x y v ov iv u _ I2 r1 r2 r q2) fun _ s3 ⟨H3,I3,q3⟩=>?_))));exact wpAny_release ⟨σ,H3,I3,q3⟩
noncomputable def ES (te:TE) (g:TG):TS:=fun D σ H=>te σ H fun x H1=>g x σ H1 D.nx
theorem Hn {tg e:Expr}{te:TE}{g:TG} (he:PE X e te) (hg:PG X tg g) (hs:swapsWithSole [tg] e pos.line X.env=pure false:=by rfl) (hw:swappedStores [tg] e X.env=pure none:=by rfl)
  (h1:(assignEach [tg] X.env).map (·.2)=[assign tg X.env]:=by rfl):PS X (.Assign [tg] e pos) (ES te g):=by
 intro Yp s σ H D I h;refine wpAny_Assign_stores (Â (he Yp s σ H _ I h) fun v s1 ⟨x,H1,I1,r1,q1⟩=>?_) hs hw;rw[h1];exact Â (hg Yp s1 σ H1 x v _ I1 r1 q1) fun _ s2 q=>q
theorem Ho {te:TE}{pos':Pos} (hN:X.N.Nodup) (hi:X.N[i]?=some x) (hx:Loc X.env.scope x) (he:PE X e te) (hs:swapsWith e (some (.Name x pos')) pos.line X.env=pure false:=by rfl) (hf:X.fn x=true∨X.env.scope.names.lookup x=some .local:=by first | exact .inl rfl | exact .inr rfl | assumption) :
  PS X (.Assign [.Name x pos'] e pos) (ES te (fG i)):=by
 intro Yp s σ H D I h;refine wpAny_Assign_Name (Â (he Yp s σ H _ I h) fun v s1 ⟨y,H1,I1,r1,q1⟩=>?_) hs;exact lG I1 hN hi hx r1 (fun s2 I2=>⟨_,H1,I2,q1⟩) hf
noncomputable def NK (i j:Nat) (ta:TA):TS:=fun D σ H=>ta σ H fun vs H1=>∃ v w,vs=[v,w]/\D.nx ((σ.set i (some v)).set j (some w)) H1
theorem Mz {i j:Nat}{x y:Str}{a b:Expr}{ta:TA}{px py pt:Pos}{kt k2 pt2} (hc:X.calm=true) (hN:X.N.Nodup) (hi:X.N[i]?=some x) (hj:X.N[j]?=some y) (hij:i≠j)
  (hx:X.env.scope.names.lookup x=some .local) (hy:X.env.scope.names.lookup y=some .local) (ha:PA X [a,b] ta)
  (hw:swappedStores [.Tuple [.Name x px,.Name y py] kt pt] (.Tuple [a,b] k2 pt2) X.env=pure (some [x,y]))
  (hs:swapsWithSole [.Tuple [.Name x px,.Name y py] kt pt] (.Tuple [a,b] k2 pt2) pos.line X.env=pure false:=by rfl) :
  PS X (.Assign [.Tuple [.Name x px,.Name y py] kt pt] (.Tuple [a,b] k2 pt2) pos) (NK i j ta):=by
 intro Yp s σ H D I h;rw[exec_Assign_arm];refine aa (iE ?_);rw[hs];refine aa (aq ?_);rw[ag (by decide)];refine aa (Tuple_ (Â (ha _ Yp s σ H _ I h) fun us s1 ⟨vs,H1,I1,r1,q1⟩=>?_));obtain⟨v,w,e1,q1⟩:=q1;subst e1;obtain⟨u1,u2,rfl,rv,rw'⟩:∃ u1 u2,us=[u1,u2]/\RelV v u1/\RelV w u2:=by
  cases r1 with
  | cons p q =>
   cases q with
   | cons p' q' =>
    cases q'
    exact⟨_,_,rfl,p,p'⟩
 refine kf ?_ (by show 2<=sizeLine;decide);have I2:Inv X Yp σ H1 { s1 with heap:=s1.heap.push { cls:=.type "tuple",data:=.seq [u1,u2].toArray } }:=I1.kept (t':=s1.toks) fun b o e=>aE _ e;rw[hw];refine aa (aq ?_);show wpAny (model X.prog X.w) X.A (do rule "assign.swapped-stores";let items ←unpackItems (.ref s1.heap.objs.size) 2 none;assignInOrder [fun v=>bindName X.env y v,fun v=>bindName X.env x v] items.reverse;pure Flow.next) _ _ _;refine aa (dU (aa (unpackItems_tuple (items:=#[u1,u2]) (I.ok.hd hc) (IsTup.new s1.heap _) fun h' hx'=>?_)));have I3:=I2.kept (h':=h') (t':=s1.toks) fun b o e=>hx' b o (bh (aH e)) e;show wpAny _ _ (assignInOrder [fun v=>bindName X.env y v,fun v=>bindName X.env x v] [u2,u1] >>= fun _=>pure Flow.next) _ _ _;refine aa (assignInOrder_cons (wpAny_bindName (lG I3 hN hj (.inl hy) rw' (fun s2 I4=>?_) (.inr hy))));refine assignInOrder_cons (wpAny_bindName (lG I4 hN hi (.inl hx) rv (fun s3 I5=>assignInOrder_nil (aq ?_)) (.inr hx)));rw[List.set_comm _ _ (b7 hij)] at I5;exact⟨_,H1,I5,q1⟩
noncomputable def BX (c:TT) (tb:TS):TS:=fun D σ H=>∃ W:Nat->St->Hp->Prop,(∃ m,W m σ H)/\∀ m σ H,W m σ H →
 c σ H fun b H1=>if b=true then ∃ N:St->Hp->Prop,(∀ σ' H',N σ' H'->∃ m',m'<m/\W m' σ' H')/\tb { D with nx:=N,ct:=N,bk:=D.nx } σ H1 else D.nx σ H1
theorem qU {tc:TT}{tb:TS} (hp:PassesOwn (model X.prog X.w) X.A X.env X.xe) (hc:PT X c tc) (hb:á X body tb):PS X (.While c body [] pos) (BX tc tb):=by
 intro Yp s σ H D I h;obtain⟨W,⟨m0,w0⟩,turn⟩:=h;refine wpAny_While (codeAny_whileLoop (fun n s'=>∃ σ' H',Inv X Yp σ' H' s'/\W n σ' H') ?_ m0 ⟨σ,H,I,w0⟩);rintro n s1 ⟨σ1,H1,I1,w1⟩;refine kg hp (Â (hc Yp s1 σ1 H1 _ I1 (turn n σ1 H1 w1)) fun b s2 ⟨H2,I2,q2⟩=>?_);cases b with
 | true =>
  obtain⟨N,hN,q2⟩:=q2;rw[ai rfl];refine kg hp (Â (hb Yp s2 σ1 H2 _ I2 q2) fun f s3 q3=>?_);cases f with
  | next =>obtain⟨σ3,H3,I3,n3⟩:=q3;obtain⟨m',hm,w3⟩:=hN σ3 H3 n3;exact⟨m',hm,σ3,H3,I3,w3⟩
  | cont =>obtain⟨σ3,H3,I3,n3⟩:=q3;obtain⟨m',hm,w3⟩:=hN σ3 H3 n3;exact⟨m',hm,σ3,H3,I3,w3⟩
  | brk=>exact q3
  | ret v=>exact q3
 | false =>rw[ag cu];exact lZ ⟨σ1,H2,I2,q2⟩
end
structure It where
 go:Nat->Hp->Prop
 yld:Nat->Hp->V->Hp->Prop
 stop:Nat->Hp->Prop
noncomputable def tX (X:Cx) (Yp:Zp) (H:Hp) (b:Addr):Prop :=
 H b=none/\b≠X.env.locals/\b∉X.fs/\(b∈X.ex∨X.s₀.heap.objs.size<=b)/\(∀ x c,X.env.cells.lookup x=some c->c≠b)/\∀ p∈X.pn++Yp,p.1≠b
theorem Inv.zb {X:Cx}{σ:St}{H H':Hp} (I:Inv X Yp σ H s) (hb:s.heap.objs.size<=b) (hn:H' b=none):tX X Yp H' b:=by
 refine⟨hn,gB (bH I.lt hb),I.Oo hb,.inr (aX I.sz hb),fun x c e z=>?_,fun p hp z=>?_⟩
 ·obtain⟨v,q⟩:=I.cell x c e;exact absurd (bH q.lt (by rw[z];exact hb)) (fq _)
 ·exact absurd (bH (aH (I.pin p hp).1) (by rw[z];exact hb)) (fq _)
structure Turn (P:Zh) (w:Zi) (K:Zf) (tg:Expr) (J:It) (fp:List Addr) (it:Addr) (tn:Nat->Heap->Prop):Prop where
 mem:it∈fp
 obj:∀ i h,tn i h->∀ b∈fp,∃ o,h.get? b=some o/\∀ v,o.data≠.cell v
 keep:∀ i h h',tn i h->(∀ b∈fp,∀ o,h.get? b=some o->h'.get? b=some o)->tn i h'
 item:∀ (X:Cx),X.prog=P->X.w=w->X.K=K->X.calm=true->∀ (i:Nat) (Yp:Zp) (s:Zg) (σ:St) (H:Hp) (E:Zq),Inv X Yp σ H s->(∀ b∈fp,tX X Yp H b)->tn i s.heap->J.go i H →
  wpAny (model P w) X.A (pyNext (.ref it)) (fun r s1=>∃ u,r=some u ∧
   wpAny (model P w) X.A (letOwnedTupleGo tg (.ref it) u) (fun _ s2=>∃ x H',Inv X Yp σ H' s2/\RelV x u/\J.yld i H x H'/\tn (i+1) s2.heap/\∀ b∈fp,H' b=none) E s1) E s
 done:∀ (X:Cx),X.prog=P->X.w=w->X.K=K->X.calm=true->∀ (i:Nat) (Yp:Zp) (s:Zg) (σ:St) (H:Hp) (E:Zq),Inv X Yp σ H s->(∀ b∈fp,tX X Yp H b)->tn i s.heap->J.stop i H →
  wpAny (model P w) X.A (pyNext (.ref it)) (fun r s1=>r=none/\Inv X Yp σ H s1) E s
 self:∀ (A:Around) (i:Nat) (s:Zg) (Q:Zq) (E:Zq),tn i s.heap->Q (.ref it) s->wpAny (model P w) A (pyIter (.ref it)) Q E s
noncomputable abbrev TI:=St->Hp->(It->Hp->Prop)->Prop
noncomputable def PIE (X:Cx) (Yp:Zp) (σ:St) (tg:Expr) (R:It->Hp->Prop) (itv:Value) (s2:Zg):Prop :=
 ∃ (it:Addr) (fp:List Addr) (tn:Nat->Heap->Prop) (J:It) (H':Hp),itv=.ref it/\Inv X Yp σ H' s2/\Turn X.prog X.w X.K tg J fp it tn/\tn 0 s2.heap/\(∀ b∈fp,tX X Yp H' b)/\R J H'
noncomputable def PI (X:Cx) (tg iter:Expr) (wi:TI):Prop :=
 ∀ (Yp:Zp) (s:Zg) (σ:St) (H:Hp) (R:It->Hp->Prop),Inv X Yp σ H s->wi σ H R →
  wpAny (model X.prog X.w) X.A (eval iter X.env) (fun v s1=>wpAny (model X.prog X.w) X.A (pyIter v) (PIE X Yp σ tg R) X.xe s1) X.xe s
theorem C9 {M:Model}{A:Around}{E:Zq}{tg:Expr}{u:Value}{n:String}{vs:Array Value}{Q:Unit->Zg->Prop} (ho:s.heap.get? it=some o) (hc:o.cls=.type n) (hd:o.data=.fields vs)
  (hn:["enumerate","zip","dict_itemiterator","dict_reverseitemiterator","odict_iterator","itertools.zip_longest","itertools.pairwise"].contains n=false) (hQ:Q () s):wpAny M A (letOwnedTupleGo tg (.ref it) u) Q E s:=by
 unfold letOwnedTupleGo;cases tg<;>first
  | exact aq hQ
  | (cases u<;>first
    | exact aq hQ
    | (refine aa (wpAny_load ho ?_)
       rw[hc,hd];show wpAny M A (if (["enumerate","zip","dict_itemiterator","dict_reverseitemiterator","odict_iterator","itertools.zip_longest","itertools.pairwise"].contains n&&vs[0]?==some (rawInt _))=true then _ else _) Q E s;rw[ag (by intro h;rw[hn,gq] at h;cases h)];exact aq hQ))
noncomputable def ê (K:Zf) (a:Addr):It :=
 ⟨fun i H=>∃ xs x,Æ K H a xs/\xs[i]?=some x,fun i H x H'=>H'=H/\∀ xs,Æ K H a xs->xs[i]?=some x,fun i H=>∃ xs,Æ K H a xs/\⇑xs<=i⟩
noncomputable def Ď (K:Zf) (a:Addr):It :=
 ⟨fun i H=>∃ xs x,Û K H a xs/\xs[i]?=some x,fun i H x H'=>H'=H/\∀ xs,Û K H a xs->xs[i]?=some x,fun i H=>∃ xs,Û K H a xs/\⇑xs<=i⟩
noncomputable def é (lo:Int) (n:Nat):It:=⟨fun i _=>i<n,fun i H x H'=>H'=H/\x=.int (lo+i),fun i _=>n<=i⟩
theorem EV (a it:Addr):Turn P w K tg (ê K a) [it] it (fun i h=>h.IsListIter it a i) where
 mem:=by simp
 obj:=fun i h st b hb=>by
  have e:b=it:=by simpa using hb
  subst e;obtain⟨o,e,c,d⟩:=st;exact⟨o,e,fun v z=>by rw[d] at z;cases z⟩
 keep:=fun i h h' st k=>st.at fun o e=>k it (by simp) o e
 item:=by intro X hP hw hK hc i Yp s σ H E I hf st hg;subst hP hw hK;obtain⟨xs,x,hq,hx⟩:=hg;obtain⟨its,rv,p,hz⟩:=I.list hq;obtain⟨u,hu,ru⟩:=rv.get hx;obtain⟨f0,f1,f2,f3,f4,f5⟩:=hf it (by simp);refine wpAny_pyNext_list_item st p.isList (x:=u) (by simpa using hu) fun h' st' sb=>?_;have I1:Inv X Yp σ H { s with heap:=h' }:=I.turned (t':=s.toks) (fun b o hb e=>(sb.2 b hb).trans e) f0 f1 f3 f4 f5;obtain⟨o,e,c,d⟩:=id st';exact⟨u,rfl,C9 (s:={ s with heap:=h' }) e c d Zd ⟨x,H,I1,ru,⟨rfl,fun ys hy=>by rw[I.qO hy hq];exact hx⟩,st',fun b hb=>(hf b hb).1⟩⟩
 done:=by intro X hP hw hK hc i Yp s σ H E I hf st hg;subst hP hw hK;obtain⟨xs,hq,hx⟩:=hg;obtain⟨its,rv,p,hz⟩:=I.list hq;obtain⟨f0,f1,f2,f3,f4,f5⟩:=hf it (by simp);have hl:=⇑rv;exact wpAny_pyNext_list_end (I.ok.hd hc) st p.isList (by simp;left) fun h' eb=>⟨rfl,I.turned (t':=s.toks) (fun b o hb e=>eb b o hb e) f0 f1 f3 f4 f5⟩
 self:=fun _ _ _ _ _ st h=>wpAny_pyIter_listiter st h
theorem BZ (a it:Addr):Turn P w K tg (Ď K a) [it] it (fun i h=>h.IsTupleIter it a i) where
 mem:=by simp
 obj:=fun i h st b hb=>by
  have e:b=it:=by simpa using hb
  subst e;obtain⟨o,e,c,d⟩:=st;exact⟨o,e,fun v z=>by rw[d] at z;cases z⟩
 keep:=fun i h h' st k=>st.at fun o e=>k it (by simp) o e
 item:=by intro X hP hw hK hc i Yp s σ H E I hf st hg;subst hP hw hK;obtain⟨xs,x,hq,hx⟩:=hg;obtain⟨its,rv,p,hz⟩:=I.tuple hq;obtain⟨u,hu,ru⟩:=rv.get hx;obtain⟨f0,f1,f2,f3,f4,f5⟩:=hf it (by simp);refine wpAny_pyNext_tuple_item st (show s.heap.IsTuple a its.toArray from p) (x:=u) (by simpa using hu) fun h' st' sb=>?_;have I1:Inv X Yp σ H { s with heap:=h' }:=I.turned (t':=s.toks) (fun b o hb e=>(sb.2 b hb).trans e) f0 f1 f3 f4 f5;obtain⟨o,e,c,d⟩:=id st';exact⟨u,rfl,C9 (s:={ s with heap:=h' }) e c d Zd ⟨x,H,I1,ru,⟨rfl,fun ys hy=>by rw[I.ET hy hq];exact hx⟩,st',fun b hb=>(hf b hb).1⟩⟩
 done:=by intro X hP hw hK hc i Yp s σ H E I hf st hg;subst hP hw hK;obtain⟨xs,hq,hx⟩:=hg;obtain⟨its,rv,p,hz⟩:=I.tuple hq;obtain⟨f0,f1,f2,f3,f4,f5⟩:=hf it (by simp);have hl:=⇑rv;exact wpAny_pyNext_tuple_end (I.ok.hd hc) st (show s.heap.IsTuple a its.toArray from p) (by simp;left) fun h' eb=>⟨rfl,I.turned (t':=s.toks) (fun b o hb e=>eb b o hb e) f0 f1 f3 f4 f5⟩
 self:=fun _ _ _ _ _ st h=>wpAny_pyIter_tupleiter st h
theorem BY (it:Addr) (lo:Int) (n:Nat):Turn P w K tg (é lo n) [it] it (fun i h=>IsRangeIter h it (lo+(i:Nat)*1) ((n:Int)-(i:Nat)) 1) where
 mem:=by simp
 obj:=fun i h st b hb=>by
  have e:b=it:=by simpa using hb
  subst e;exact⟨_,st,fun v z=>by have z':Data.fields _=Data.cell v:=z;cases z'⟩
 keep:=fun i h h' st k=>k it (by simp) _ st
 item:=by intro X hP hw hK hc i Yp s σ H E I hf st hg;subst hP hw hK;obtain⟨f0,f1,f2,f3,f4,f5⟩:=hf it (by simp);have W:=Walks.range (prog:=X.prog) (w:=X.w) (I.ok.hd hc) it lo 1 n;refine W.item i s _ _ hg st fun v h' tk hv st' kk=>?_;obtain⟨t,rfl⟩:=hv;have I1:Inv X Yp σ H { s with heap:=h',toks:=tk }:=I.turned (fun b o hb e=>kk b o (by simpa using hb) e) f0 f1 f3 f4 f5;refine⟨_,rfl,C9 (s:={ s with heap:=h',toks:=tk }) (n:="range_iterator") st' rfl rfl Zd ⟨.int (lo+i),H,I1,⟨t,?_⟩,⟨rfl,rfl⟩,st',fun b hb=>(hf b hb).1⟩⟩;rw[Int.mul_one]
 done:=by intro X hP hw hK hc i Yp s σ H E I hf st hg;subst hP hw hK;obtain⟨f0,f1,f2,f3,f4,f5⟩:=hf it (by simp);exact wpAny_pyNext_range_end (I.ok.hd hc) st (by have:n<=i:=hg;left) fun h' eb=>⟨rfl,I.turned (t':=s.toks) (fun b o hb e=>eb b o hb e) f0 f1 f3 f4 f5⟩
 self:=fun _ _ _ _ _ st h=>wpAny_pyIter_rangeiter st h
end
section
section
variable {X:Cx}{tg:Expr}
theorem HE {σ:St}{H:Hp}{R:It->Hp->Prop}{E:Zq}{lo hi:Int}{t u v:Tok}{tk:Nat} (I:Inv X Yp σ H s) (h1:-(2^62)<=lo) (h2:lo<2^62) (h3:-(2^62)<=hi) (h4:hi<2^62)
  (q:R (é lo (hi-lo).toNat) H):wpAny (model X.prog X.w) X.A (pyIter (.ref s.heap.objs.size)) (PIE X Yp σ tg R) E { s with heap:=s.heap.push { cls:=.type "range",data:=.fields #[.int lo t,.int hi u,.int 1 v] },toks:=tk }:=by
 refine wpAny_pyIter_range (IsRange.new ..) (small_one h1 h2 h3 h4) ?_;have I1:Inv X Yp σ H { s with heap:=s.heap.push { cls:=.type "range",data:=.fields #[.int lo t,.int hi u,.int 1 v] },toks:=tk }:=I.kept fun b o e=>aE _ e;refine⟨(s.heap.push { cls:=.type "range",data:=.fields #[.int lo t,.int hi u,.int 1 v] }).objs.size,[(s.heap.push { cls:=.type "range",data:=.fields #[.int lo t,.int hi u,.int 1 v] }).objs.size],_,_,H,rfl,
  I1.kept (t':=tk) fun b o e=>aE _ e,BY _ lo (hi-lo).toNat,?_,fun b hb=>?_,q⟩
 ·have e1:lo+((0:Nat):Int)*1=lo:=by simp
  have e2:(((hi-lo).toNat:Nat):Int)-((0:Nat):Int)=Builtin.Range.rangeSize lo hi 1:=by rw[rangeSize_one];split<;>left
  show IsRangeIter _ _ (lo+((0:Nat):Int)*1) ((((hi-lo).toNat:Nat):Int)-((0:Nat):Int)) 1;rw[e1,e2];exact bz _ rfl
 ·have e:b=(s.heap.push { cls:=.type "range",data:=.fields #[.int lo t,.int hi u,.int 1 v] }).objs.size:=by simpa using hb
  subst e;exact I1.zb (av _) (I1.hok.fresh (av _))
noncomputable def Ge (ta:TA):TI:=fun σ H R=>ta σ H fun vs H1=>∃ j:Int,vs=[.int j]/\-(2^62)<=j/\j<2^62/\R (é 0 j.toNat) H1
theorem EF {a:Expr}{ta:TA}{p pos:Pos} (hg:Gl X "range") (hm:X.mg "range"=none) (ha:PA X [a] ta) (hs:starEach [a] X.env=[(false,eval a X.env)]:=by rfl):PI X tg (.Call (.Name "range" p) [a] [] pos) (Ge ta):=by
 intro Yp s σ H R I h;refine Call_ (su I hg hm boot_range (rR (Â (ha pos Yp s σ H _ I h) fun us s1 ⟨vs,H1,I1,r1,q1⟩=>?_) hs rfl));obtain⟨j,e,q1,q2,q⟩:=q1;subst e;cases r1 with
 | cons r rr =>
  cases rr
  obtain⟨t,rfl⟩:=r;exact call_range_1 (HE I1 ⋯ ⋯ q1 q2 (by simpa using q))
noncomputable def NG (wi:TI) (g:TG) (tb:TS):TS:=fun D σ H=>wi σ H fun J H1=>∃ W:Nat->Nat->St->Hp->Prop,(∃ m,W 0 m σ H1)/\∀ i m σ H,W i m σ H →
 (J.stop i H/\D.nx σ H)∨(J.go i H/\∃ N:St->Hp->Prop,(∀ σ' H',N σ' H'->∃ m',m'<m/\W (i+1) m' σ' H')/\∀ x H',J.yld i H x H'->g x σ H' fun σ2 H2=>tb { D with nx:=N,ct:=N,bk:=D.nx } σ2 H2)
noncomputable def vz (fp:List Addr) (h:Heap):Zp:=fp.filterMap fun b=>(h.get? b).map fun o=>(b,o)
theorem me (hb:b∈fp) (e:h.get? b=some o):(b,o)∈vz fp h:=om.mpr ⟨b,hb,by rw[e];rfl⟩
theorem EA {p:Addr×Obj} (hp:p∈vz fp h):p.1∈fp/\h.get? p.1=some p.2:=by
 obtain⟨b,hb,e⟩:=om.mp hp;cases q:h.get? b with
 | none=>rw[q] at e;cases e
 | some o =>rw[q] at e;have e':(b,o)=p:=Option.some.inj e;subst e';exact⟨hb,q⟩
theorem Inv.pinned {σ:St}{H:Hp} (I:Inv X Yp σ H s) (hf:∀ b∈fp,tX X Yp H b) (ho:∀ b∈fp,∃ o,s.heap.get? b=some o/\∀ v,o.data≠.cell v):Inv X (Yp++vz fp s.heap) σ H s :=
 I.CP fun p hp=>(bG.mp hp).elim (fun z=>I.pin p (fk _ z)) fun z=>by obtain⟨hb,e⟩:=EA z;obtain⟨f0,f1,f2,_⟩:=hf p.1 hb;obtain⟨o,e',d⟩:=ho p.1 hb;rw[e] at e';cases e';exact⟨e,f0,f1,f2,d⟩
theorem Inv.r6 {Yp pl:Zp}{σ:St}{H:Hp} (I:Inv X (Yp++pl) σ H s):Inv X Yp σ H s:=I.CP fun p hp=>I.pin p (fk _ (lP _ hp))
theorem gH {iter:Expr}{wi:TI}{g:TG}{tb:TS}{pos:Pos} (hp:PassesOwn (model X.prog X.w) X.A X.env X.xe) (hc:X.calm=true) (hi:PI X tg iter wi) (hg:PG X tg g) (hb:á X body tb)
  (hs:∀ x,foldedSetIterable iter X.env x=pure x:=by intro _;rfl):PS X (.For tg iter body [] pos) (NG wi g tb):=by
 intro Yp s σ H D I h;refine wpAny_For (Â (hi Yp s σ H _ I h) fun v s1 h1=>Â h1 fun itv s2 h2=>?_) hs;obtain⟨it,fp,tn,J,H2,e,I2,T,st2,f2,W,⟨m0,w0⟩,turn⟩:=h2;subst e
 -- what stays true of the iterator's objects through the loop
 have stat:∀ {H':Hp},(∀ b∈fp,H' b=none)->∀ b∈fp,tX X Yp H' b:=fun hn b hb=>⟨hn b hb,(f2 b hb).2⟩;refine codeAny_forLoop_any (fun n s'=>∃ i σ' H',Inv X Yp σ' H' s'/\tn i s'.heap/\(∀ b∈fp,H' b=none)/\W i n σ' H') ?_ m0 ⟨0,σ,H2,I2,st2,fun b hb=>(f2 b hb).1,w0⟩;rintro n s3 ⟨i,σ3,H3,I3,st3,fr3,w3⟩;rcases turn i n σ3 H3 w3 with ⟨stop,qn⟩ | ⟨go,N,hN,step⟩
 ·refine kg hp (Â (T.done X rfl rfl rfl hc i Yp s3 σ3 H3 X.xe I3 (stat fr3) st3 stop) fun r s4 ⟨hr,I4⟩=>?_);subst hr;exact lZ ⟨σ3,H3,I4,qn⟩
 ·refine kg hp (Â (T.item X rfl rfl rfl hc i Yp s3 σ3 H3 X.xe I3 (stat fr3) st3 go) fun r s4 ⟨u,hr,h4⟩=>?_);subst hr;refine kg hp (Â h4 fun _ s5 ⟨x,H5,I5,r5,y5,st5,fr5⟩=>?_);have I5':=I5.pinned (stat fr5) (T.obj _ _ st5);refine kg hp (Â (hg _ s5 σ3 H5 x u _ I5' r5 (step x H5 y5)) fun _ s6 ⟨σ6,H6,I6,q6⟩=>?_);refine kg hp (Â (hb _ s6 σ6 H6 _ I6 q6) fun f s7 q7=>?_);have again:∀ {σ7:St}{H7:Hp},Inv X (Yp++vz fp s5.heap) σ7 H7 s7->N σ7 H7->∃ m,m<n/\∃ i σ' H',Inv X Yp σ' H' s7/\tn i s7.heap/\(∀ b∈fp,H' b=none)/\W i m σ' H':=fun {σ7 H7} I7 n7=>by
   obtain⟨m',hm,w7⟩:=hN σ7 H7 n7;refine⟨m',hm,i+1,σ7,H7,I7.r6,T.keep _ _ _ st5 fun b hb o e=>(I7.pin (b,o) (fk _ (fk _ (me hb e)))).1,fun b hb=>?_,w7⟩;obtain⟨o,e,d⟩:=T.obj _ _ st5 b hb;exact (I7.pin (b,o) (fk _ (fk _ (me hb e)))).2.1
  cases f with
  | next=>obtain⟨σ7,H7,I7,n7⟩:=q7;exact again I7 n7
  | cont=>obtain⟨σ7,H7,I7,n7⟩:=q7;exact again I7 n7
  | brk=>obtain⟨σ7,H7,I7,q7⟩:=q7;exact⟨σ7,H7,I7.r6,q7⟩
  | ret v=>obtain⟨x7,σ7,H7,I7,r7,q7⟩:=q7;exact⟨x7,σ7,H7,I7.r6,r7,q7⟩
end
theorem FR {xs:List V}{g:TG}{tb:TS}{D:Ends}{σ:St}{H:Hp} (Pv:Nat->St->Hp->Prop) (h0:Pv 0 σ H) (hl:∀ i σ H,i<=⇑xs->Pv i σ H->Æ K H a xs)
  (hs:∀ i x σ H,xs[i]?=some x->Pv i σ H->g x σ H fun σ2 H2=>tb { D with nx:=Pv (i+1),ct:=Pv (i+1),bk:=D.nx } σ2 H2) (hd:∀ σ H,Pv ⇑xs σ H->D.nx σ H) :
  ∃ W:Nat->Nat->St->Hp->Prop,(∃ m,W 0 m σ H)/\∀ i m σ H,W i m σ H →
   ((ê K a).stop i H/\D.nx σ H)∨((ê K a).go i H/\∃ N:St->Hp->Prop,(∀ σ' H',N σ' H'->∃ m',m'<m/\W (i+1) m' σ' H')/\∀ x H',(ê K a).yld i H x H'->g x σ H' fun σ2 H2=>tb { D with nx:=N,ct:=N,bk:=D.nx } σ2 H2):=by
 refine⟨fun i m σ H=>m=⇑xs-i/\i<=⇑xs/\Pv i σ H,⟨⇑xs,by simp,bc _,h0⟩,?_⟩;rintro i m σ H ⟨rfl,hi,p⟩;have q:=hl i σ H hi p
 by_cases hlt:i<⇑xs
 ·refine .inr ⟨⟨xs,xs[i],q,by simp [hlt]⟩,Pv (i+1),fun σ' H' p'=>⟨⇑xs-(i+1),⋯,rfl,hlt,p'⟩,fun x H' y=>?_⟩;obtain⟨e,y⟩:=y;subst e;exact hs i x σ _ (y xs q) p
 ·have e:i=⇑xs:=⋯
  subst e;exact .inl ⟨⟨xs,q,av _⟩,hd σ H p⟩
theorem Ek {lo:Int}{n:Nat}{g:TG}{tb:TS}{D:Ends}{σ:St}{H:Hp} (Pv:Nat->St->Hp->Prop) (h0:Pv 0 σ H)
  (hs:∀ i σ H,i<n->Pv i σ H->g (.int (lo+i)) σ H fun σ2 H2=>tb { D with nx:=Pv (i+1),ct:=Pv (i+1),bk:=D.nx } σ2 H2) (hd:∀ σ H,Pv n σ H->D.nx σ H) :
  ∃ W:Nat->Nat->St->Hp->Prop,(∃ m,W 0 m σ H)/\∀ i m σ H,W i m σ H →
   ((é lo n).stop i H/\D.nx σ H)∨((é lo n).go i H/\∃ N:St->Hp->Prop,(∀ σ' H',N σ' H'->∃ m',m'<m/\W (i+1) m' σ' H')/\∀ x H',(é lo n).yld i H x H'->g x σ H' fun σ2 H2=>tb { D with nx:=N,ct:=N,bk:=D.nx } σ2 H2):=by
 refine⟨fun i m σ H=>m=n-i/\i<=n/\Pv i σ H,⟨n,by simp,bc _,h0⟩,?_⟩;rintro i m σ H ⟨rfl,hi,p⟩
 by_cases hlt:i<n
 ·refine .inr ⟨hlt,Pv (i+1),fun σ' H' p'=>⟨n-(i+1),⋯,rfl,hlt,p'⟩,fun x H' y=>?_⟩;obtain⟨e,y⟩:=y;subst e y;exact hs i σ _ hlt p
 ·have e:i=n:=⋯
  subst e;exact .inl ⟨av _,hd σ H p⟩
end
section
noncomputable abbrev R2:=V->V->Hp->VK->Prop
noncomputable def Ë (X:Cx) (f:Value->Value->Sem Value) (r:R2):Prop :=
 ∀ (Yp:Zp) (s:Zg) (σ:St) (H:Hp) (x y:V) (v u:Value) (Q:VK),Inv X Yp σ H s->RelV x v->RelV y u->r x y H Q →
  wpAny (model X.prog X.w) X.A (f v u) (EP X Yp σ Q) X.xe s
noncomputable def Đ (X:Cx) (f:Value->Sem Value) (r:V->Hp->VK->Prop):Prop :=
 ∀ (Yp:Zp) (s:Zg) (σ:St) (H:Hp) (x:V) (v:Value) (Q:VK),Inv X Yp σ H s->RelV x v->r x H Q →
  wpAny (model X.prog X.w) X.A (f v) (EP X Yp σ Q) X.xe s
noncomputable def da (X:Cx) (f:Value) (r:List V->Hp->VK->Prop):Prop :=
 ∀ (Yp:Zp) (s:Zg) (σ:St) (H:Hp) (xs:List V) (us:Zc) (Q:VK),Inv X Yp σ H s->Vals xs us->r xs H Q →
  wpAny (model X.prog X.w) X.A (call f us) (EP X Yp σ Q) X.xe s
noncomputable def õ (r:R2) (ta tb:TE):TE:=fun σ H Q=>ta σ H fun x H1=>tb σ H1 fun y H2=>r x y H2 Q
noncomputable def tUn (r:V->Hp->VK->Prop) (ta:TE):TE:=fun σ H Q=>ta σ H fun x H1=>r x H1 Q
noncomputable def rI (C:Int->Int->Prop) (g:Int->Int->V):R2:=fun x y H Q=>∃ i j,x=.int i/\y=.int j/\C i j/\Q (g i j) H
noncomputable def ñ (g:Int->Int->V):R2:=fun x y H Q=>∃ i j,x=.int i/\y=.int j/\Q (g i j) H
noncomputable def rU (g:Int->V):V->Hp->VK->Prop:=fun x H Q=>∃ i,x=.int i/\Q (g i) H
section
variable {X:Cx}{a b c:Expr}{ta tb tc:TE}{pos:Pos}
theorem Lx (ha:PE X a ta) (hb:PE X b tb) {σ:St}{H:Hp}{R:V->V->Hp->Prop} (I:Inv X Yp σ H s)
  (h:ta σ H fun x H1=>tb σ H1 fun y H2=>R x y H2) {Q:Zq}{f:Value->Value->Sem Value}
  (hf:∀ v u s2 x y H2,Inv X Yp σ H2 s2->RelV x v->RelV y u->R x y H2->wpAny (model X.prog X.w) X.A (f v u) Q X.xe s2) :
  wpAny (model X.prog X.w) X.A (eval a X.env) (fun v s₁=>wpAny (model X.prog X.w) X.A (eval b X.env) (fun u s₂=>wpAny (model X.prog X.w) X.A (f v u) Q X.xe s₂) X.xe s₁) X.xe s:=by
 refine Â (ha Yp s σ H _ I h) fun v s1 ⟨x,H1,I1,r1,q1⟩=>?_;refine Â (hb Yp s1 σ H1 _ I1 q1) fun u s2 ⟨y,H2,I2,r2,q2⟩=>?_;exact hf v u s2 x y H2 I2 r1 r2 q2
theorem aO {op:Operator}{r:R2} (ho:Ë X (binaryOp op) r) (ha:PE X a ta) (hb:PE X b tb):PE X (.BinOp a op b pos) (õ r ta tb):=by intro Yp s σ H Q I h;exact wpAny_BinOp (Lx ha hb I h fun v u s2 x y H2 I2 rx ry q=>ho Yp s2 σ H2 x y v u Q I2 rx ry q)
theorem CN {op:UnaryOp}{r:V->Hp->VK->Prop} (ho:Đ X (unaryOp op) r) (ha:PE X a ta):PE X (.UnaryOp op a pos) (tUn r ta):=by intro Yp s σ H Q I h;exact UnaryOp_ (Â (ha Yp s σ H _ I h) fun v s1 ⟨x,H1,I1,r1,q1⟩=>ho Yp s1 σ H1 x v Q I1 r1 q1)
theorem ą {f:Value->Value->Sem Value}{C:Int->Int->Prop}{g:Int->Int->Int}
  (rule:∀ (i j:Int) (t u:Tok) (s:Zg) (Q:Zq) (E:Zq),C i j->Q (.int (g i j) s.toks) { s with toks:=s.toks+1 }->wpAny (model X.prog X.w) X.A (f (.int i t) (.int j u)) Q E s) :
  Ë X f (rI C fun i j=>.int (g i j)):=by
 intro Yp s σ H x y v u Q I rx ry h;obtain⟨i,j,rfl,rfl,hc,q⟩:=h;obtain⟨t,rfl⟩:=rx;obtain⟨t',rfl⟩:=ry;exact rule i j t t' s _ _ hc ⟨.int (g i j),H,I.tok _,⟨_,rfl⟩,q⟩
theorem Nt {f:Value->Value->Sem Value}{g:Int->Int->Int}
  (rule:∀ (i j:Int) (t u:Tok) (s:Zg) (Q:Zq) (E:Zq),Q (.int (g i j) s.toks) { s with toks:=s.toks+1 }->wpAny (model X.prog X.w) X.A (f (.int i t) (.int j u)) Q E s) :
  Ë X f (ñ fun i j=>.int (g i j)):=by
 intro Yp s σ H x y v u Q I rx ry h;obtain⟨i,j,rfl,rfl,q⟩:=h;obtain⟨t,rfl⟩:=rx;obtain⟨t',rfl⟩:=ry;exact rule i j t t' s _ _ ⟨.int (g i j),H,I.tok _,⟨_,rfl⟩,q⟩
theorem J8 {f:Value->Value->Sem Value}{g:Int->Int->Bool}
  (rule:∀ (i j:Int) (t u:Tok) (s:Zg) (Q:Zq) (E:Zq),Q (.bool (g i j)) s->wpAny (model X.prog X.w) X.A (f (.int i t) (.int j u)) Q E s) :
  Ë X f (ñ fun i j=>.bl (g i j)):=by
 intro Yp s σ H x y v u Q I rx ry h;obtain⟨i,j,rfl,rfl,q⟩:=h;obtain⟨t,rfl⟩:=rx;obtain⟨t',rfl⟩:=ry;exact rule i j t t' s _ _ ⟨.bl (g i j),H,I,rfl,q⟩
noncomputable def Oa (i j:Int):Prop:=0<=j/\j<=1000000/\i.natAbs<2^64
theorem Md:Ë X (binaryOp .Add) (ñ fun i j=>.int (i+j)):=Nt fun _ _ _ _ _ _ _ q=>add_int q
theorem Mp:Ë X (binaryOp .Sub) (ñ fun i j=>.int (i-j)):=Nt fun _ _ _ _ _ _ _ q=>sub_int q
theorem Mj:Ë X (binaryOp .Mod) (rI (fun _ j=>0<j) fun i j=>.int (i%j)):=ą fun i j _ _ _ _ _ hc q=>by have h1:(0:Int)<j:=hc;exact mod_int' ⋯ (by rw[Int.fmod_eq_emod_of_nonneg i ⋯];exact q)
theorem Mn:Ë X (binaryOp .Pow) (rI Oa fun i j=>.int (i^j.toNat)):=ą fun _ _ _ _ _ _ _ hc q=>pow_int_small hc.1 hc.2.1 hc.2.2 q
theorem unI {f:Value->Sem Value}{g:Int->Int}
  (rule:∀ (i:Int) (t:Tok) (s:Zg) (Q:Zq) (E:Zq),Q (.int (g i) s.toks) { s with toks:=s.toks+1 }->wpAny (model X.prog X.w) X.A (f (.int i t)) Q E s) :
  Đ X f (rU fun i=>.int (g i)):=by
 intro Yp s σ H x v Q I rx h;obtain⟨i,rfl,q⟩:=h;obtain⟨t,rfl⟩:=rx;exact rule i t s _ _ ⟨.int (g i),H,I.tok _,⟨_,rfl⟩,q⟩
theorem yC:Đ X (unaryOp .USub) (rU fun i=>.int (-i)):=unI fun _ _ _ _ _ q=>neg_int q
end
noncomputable def ND:V->V->Bool
 | .non,.non=>true | .non,.int _=>true | .int _,.non=>true | .non,.bl _=>true | .bl _,.non=>true | .non,.str _=>true | .str _,.non=>true
 | .int _,.int _=>true | .bl _,.bl _=>true | .str _,.str _=>true | .byt _,.byt _=>true
 | .int _,.str _=>true | .str _,.int _=>true | .bl _,.str _=>true | .str _,.bl _=>true
 | _,_=>false
noncomputable def rEq:R2:=fun x y H Q=>ND x y=true/\Q (.bl (decide (x=y))) H
noncomputable def rNe:R2:=fun x y H Q=>ND x y=true/\Q (.bl (!decide (x=y))) H
theorem Ct {i j:Int}:decide (V.int i=V.int j)=(i==j):=by rw[Bool.eq_iff_iff];simp
theorem F6 {i j:Bool}:decide (V.bl i=V.bl j)=(i==j):=by rw[Bool.eq_iff_iff];simp
theorem Cu {i j:Str}:decide (V.str i=V.str j)=(i==j):=by rw[Bool.eq_iff_iff];simp
theorem Cs {i j:Array UInt8}:decide (V.byt i=V.byt j)=(i.toList==j.toList):=by rw[Bool.eq_iff_iff];cases i;cases j;simp
section
variable {X:Cx}{a b c:Expr}{ta tb tc:TE}{pos:Pos}
theorem cy {σ:St}{H:Hp}{Q:VK}{k k':Bool} (I:Inv X Yp σ H s) (q:Q (.bl k) H) (e:k=k'):EP X Yp σ Q (.bool k') s:=by subst e;exact⟨.bl k,H,I,rfl,q⟩
theorem GO:Ë X (compareOp .Eq) rEq:=by
 intro Yp s σ H x y v u Q I rx ry h;obtain⟨hs,q⟩:=h;cases x with
 | non =>
  cases rx
  cases y with
  | non=>cases ry;exact PySem.EqNone.eq_none_none (cy I q (by simp))
  | bl j=>cases ry;exact PySem.EqNone.eq_none_bool (cy I q (by simp))
  | int j=>obtain⟨t',rfl⟩:=ry;exact PySem.EqNone.eq_none_int (cy I q (by simp))
  | str j=>obtain⟨t',rfl⟩:=ry;exact PySem.EqNone.eq_none_str (cy I q (by simp))
  | _=>exact absurd (show false=true from hs) cu
 | bl i =>
  cases rx
  cases y with
  | non=>cases ry;exact PySem.EqNone.eq_bool_none (cy I q (by simp))
  | bl j=>cases ry;exact eq_bool (cy I q F6)
  | str j=>obtain⟨t',rfl⟩:=ry;exact PySem.EqMixed.eq_bool_str (cy I q (by simp))
  | _=>exact absurd (show false=true from hs) cu
 | int i =>
  obtain⟨t,rfl⟩:=rx;cases y with
  | non=>cases ry;exact PySem.EqNone.eq_int_none (cy I q (by simp))
  | int j=>obtain⟨t',rfl⟩:=ry;exact eq_int (cy I q Ct)
  | str j=>obtain⟨t',rfl⟩:=ry;exact PySem.EqMixed.eq_int_str (cy I q (by simp))
  | _=>exact absurd (show false=true from hs) cu
 | str i =>
  obtain⟨t,rfl⟩:=rx;cases y with
  | non=>cases ry;exact PySem.EqNone.eq_str_none (cy I q (by simp))
  | bl j=>cases ry;exact PySem.EqMixed.eq_str_bool (cy I q (by simp))
  | int j=>obtain⟨t',rfl⟩:=ry;exact PySem.EqMixed.eq_str_int (cy I q (by simp))
  | str j=>obtain⟨t',rfl⟩:=ry;exact eq_str (cy I q Cu)
  | _=>exact absurd (show false=true from hs) cu
 | byt i =>
  obtain⟨t,rfl⟩:=rx;cases y with
  | byt j=>obtain⟨t',rfl⟩:=ry;exact PySem.W.eq_bytes (cy I q Cs)
  | _=>exact absurd (show false=true from hs) cu
 | _=>cases y<;>exact absurd (show false=true from hs) cu
theorem GS:Ë X (compareOp .NotEq) rNe:=by
 intro Yp s σ H x y v u Q I rx ry h;obtain⟨hs,q⟩:=h;cases x with
 | non =>
  cases rx
  cases y with
  | non=>cases ry;exact PySem.EqNone.ne_none_none (cy I q (by simp))
  | bl j=>cases ry;exact PySem.EqNone.ne_none_bool (cy I q (by simp))
  | int j=>obtain⟨t',rfl⟩:=ry;exact PySem.EqNone.ne_none_int (cy I q (by simp))
  | str j=>obtain⟨t',rfl⟩:=ry;exact PySem.EqNone.ne_none_str (cy I q (by simp))
  | _=>exact absurd (show false=true from hs) cu
 | bl i =>
  cases rx
  cases y with
  | non=>cases ry;exact PySem.EqNone.ne_bool_none (cy I q (by simp))
  | bl j=>cases ry;exact ne_bool (cy I q (cc not F6))
  | str j=>obtain⟨t',rfl⟩:=ry;exact PySem.EqMixed.ne_bool_str (cy I q (by simp))
  | _=>exact absurd (show false=true from hs) cu
 | int i =>
  obtain⟨t,rfl⟩:=rx;cases y with
  | non=>cases ry;exact PySem.EqNone.ne_int_none (cy I q (by simp))
  | int j=>obtain⟨t',rfl⟩:=ry;exact ne_int (cy I q (cc not Ct))
  | str j=>obtain⟨t',rfl⟩:=ry;exact PySem.EqMixed.ne_int_str (cy I q (by simp))
  | _=>exact absurd (show false=true from hs) cu
 | str i =>
  obtain⟨t,rfl⟩:=rx;cases y with
  | non=>cases ry;exact PySem.EqNone.ne_str_none (cy I q (by simp))
  | bl j=>cases ry;exact PySem.EqMixed.ne_str_bool (cy I q (by simp))
  | int j=>obtain⟨t',rfl⟩:=ry;exact PySem.EqMixed.ne_str_int (cy I q (by simp))
  | str j=>obtain⟨t',rfl⟩:=ry;exact ne_str (cy I q (cc not Cu))
  | _=>exact absurd (show false=true from hs) cu
 | byt i =>
  obtain⟨t,rfl⟩:=rx;cases y with
  | byt j=>obtain⟨t',rfl⟩:=ry;exact PySem.W.ne_bytes (cy I q (cc not Cs))
  | _=>exact absurd (show false=true from hs) cu
 | _=>cases y<;>exact absurd (show false=true from hs) cu
theorem Nx:Ë X (compareOp .Lt) (ñ fun i j=>.bl (decide (i<j))):=J8 fun _ _ _ _ _ _ _ q=>lt_int q
theorem Nw:Ë X (compareOp .LtE) (ñ fun i j=>.bl (decide (i<=j))):=J8 fun _ _ _ _ _ _ _ q=>le_int q
theorem Nv:Ë X (compareOp .Gt) (ñ fun i j=>.bl (decide (j<i))):=J8 fun _ _ _ _ _ _ _ q=>gt_int q
theorem Nu:Ë X (compareOp .GtE) (ñ fun i j=>.bl (decide (j<=i))):=J8 fun _ _ _ _ _ _ _ q=>ge_int q
theorem ED:Ë X (compareOp .In) (fun x y H Q=>∃ i j,x=.str i/\y=.str j/\Q (.bl (!(Builtin.Str.occurrences j i 0 ⇑j 1).isEmpty)) H):=by intro Yp s σ H x y v u Q I rx ry h;obtain⟨i,j,rfl,rfl,q⟩:=h;obtain⟨t,rfl⟩:=rx;obtain⟨t',rfl⟩:=ry;exact in_str (cy I q rfl)
theorem Mi:Ë X (compareOp .Is) (fun x y H Q=>y=.non/\Q (.bl (decide (x=.non))) H):=by
 intro Yp s σ H x y v u Q I rx ry h;obtain⟨rfl,q⟩:=h;cases ry;refine is_none_gen (cy I q ?_);cases x<;>first
  | (cases rx;rfl)
  | (obtain⟨t,rfl⟩:=rx;rfl)
theorem JB:Ë X (compareOp .IsNot) (fun x y H Q=>y=.non/\Q (.bl (!decide (x=.non))) H):=by
 intro Yp s σ H x y v u Q I rx ry h;obtain⟨rfl,q⟩:=h;cases ry;refine isnot_none_gen (cy I q ?_);cases x<;>first
  | (cases rx;rfl)
  | (obtain⟨t,rfl⟩:=rx;rfl)
theorem bw (b:Expr)  (h:op≠.In:=by decide) (h2:op≠.NotIn:=by decide):behindInMarks op b=false:=by
 have e1:(op==CmpOp.In)=false:=by cases op<;>first | rfl | exact absurd rfl h
 have e2:(op==CmpOp.NotIn)=false:=by cases op<;>first | rfl | exact absurd rfl h2
 cases b<;>simp [behindInMarks,e1,e2]
theorem cK {r:R2} (ho:Ë X (compareOp op) r) (ha:PE X a ta) (hb:PE X b tb) (hm:behindInMarks op b=false):PE X (.Compare a [op] [b] pos) (õ r ta tb):=by intro Yp s σ H Q I h;exact wpAny_Compare1 (Lx ha hb I h fun v u s2 x y H2 I2 rx ry q=>ho Yp s2 σ H2 x y v u Q I2 rx ry q) hm
noncomputable def xm (t:TE):TT:=fun σ H Q=>t σ H fun x H'=>∃ k,x=.bl k/\Q k H'
theorem bF {r:R2} (ho:Ë X (compareOp op) r) (ha:PE X a ta) (hb:PE X b tb) (hm:behindInMarks op b=false):PT X (.Compare a [op] [b] pos) (xm (õ r ta tb)):=by intro Yp s σ H Q I h;refine wpAny_isTrue_Compare1 (Â (ha Yp s σ H _ I h) fun v s1 ⟨x,H1,I1,r1,q1⟩=>Â (hb Yp s1 σ H1 _ I1 q1) fun u s2 ⟨y,H2,I2,r2,q2⟩ =>Â (ho Yp s2 σ H2 x y v u _ I2 r1 r2 q2) fun c s3 ⟨z,H3,I3,r3,k,e,q3⟩=>?_) hm;subst e;cases r3;exact fB ⟨H3,I3,q3⟩
noncomputable def BV (r r':R2) (ta tb tc:TE):TE:=fun σ H Q=>ta σ H fun x H1=>tb σ H1 fun y H2=>r x y H2 fun z H3=>∃ k,z=.bl k ∧
 (if k=true then tc σ H3 fun w' H4=>r' y w' H4 Q else Q (.bl false) H3)
theorem GX {op op':CmpOp}{r r':R2} (ho:Ë X (compareOp op) r) (ho':Ë X (compareOp op') r') (ha:PE X a ta) (hb:PE X b tb) (hc:PE X c tc)
  (hm:lastMarks [op,op'] [b,c]=false:=by with_unfolding_all rfl):PE X (.Compare a [op,op'] [b,c] pos) (BV r r' ta tb tc):=by
 intro Yp s σ H Q I h;refine Compare_chain (Â (ha Yp s σ H _ I h) fun v s1 ⟨x,H1,I1,r1,q1⟩=>chain_link (Â (hb Yp s1 σ H1 _ I1 q1) fun u s2 ⟨y,H2,I2,r2,q2⟩ =>Â (ho Yp s2 σ H2 x y v u _ I2 r1 r2 q2) fun d s3 ⟨z,H3,I3,r3,k,e,q3⟩=>?_)) hm;subst e;cases r3;refine fB ?_;cases k with
 | false=>exact ite_ff ⟨.bl false,H3,I3,rfl,q3⟩
 | true=>exact ite_tt (chain_last (Â (hc Yp s3 σ H3 _ I3 q3) fun w' s4 ⟨z',H4,I4,r4,q4⟩=>ho' Yp s4 σ H4 y z' u w' Q I4 r2 r4 q4))
theorem qV {op op':CmpOp}{r r':R2} (ho:Ë X (compareOp op) r) (ho':Ë X (compareOp op') r') (ha:PE X a ta) (hb:PE X b tb) (hc:PE X c tc)
  (hm:lastMarks [op,op'] [b,c]=false:=by with_unfolding_all rfl):PT X (.Compare a [op,op'] [b,c] pos) (xm (BV r r' ta tb tc)):=by
 intro Yp s σ H Q I h;refine isTrue_chain (Â (ha Yp s σ H _ I h) fun v s1 ⟨x,H1,I1,r1,q1⟩=>test_link (Â (hb Yp s1 σ H1 _ I1 q1) fun u s2 ⟨y,H2,I2,r2,q2⟩ =>Â (ho Yp s2 σ H2 x y v u _ I2 r1 r2 q2) fun d s3 ⟨z,H3,I3,r3,k,e,q3⟩=>?_)) hm;subst e;cases r3;refine fB ?_;cases k with
 | false =>obtain⟨k',e',q'⟩:=q3;cases e';exact ite_ff ⟨H3,I3,q'⟩
 | true =>refine ite_tt (test_last (Â (hc Yp s3 σ H3 _ I3 q3) fun w' s4 ⟨z',H4,I4,r4,q4⟩=>Â (ho' Yp s4 σ H4 y z' u w' _ I4 r2 r4 q4) fun d' s5 ⟨z2,H5,I5,r5,k2,e2,q5⟩=>?_));subst e2;cases r5;exact fB ⟨H5,I5,q5⟩
theorem sv:(sizeLine:Nat)<2^63:=by rw[gi];decide
theorem Bx:Ë X (binaryOp .Add) (fun x y H Q=>∃ i j,x=.str i/\y=.str j/\⇑i+⇑j<=sizeLine/\Q (.str (i++j)) H):=by intro Yp s σ H x y v u Q I rx ry h;obtain⟨i,j,rfl,rfl,hz,q⟩:=h;obtain⟨t,rfl⟩:=rx;obtain⟨t',rfl⟩:=ry;exact add_str (fun t' tk=>⟨.str (i++j),H,I.tok _,⟨_,rfl⟩,q⟩) hz
theorem vals1 {x:V} (r:Vals [x] us):∃ u,us=[u]/\RelV x u:=by
 cases r with
 | cons r1 r2=>cases r2;exact⟨_,rfl,r1⟩
theorem vals2 {x y:V} (r:Vals [x,y] us):∃ u w',us=[u,w']/\RelV x u/\RelV y w':=by
 cases r with
 | cons r1 r2 =>
  cases r2 with
  | cons r3 r4=>cases r4;exact⟨_,_,rfl,r1,r3⟩
theorem Fz:da X (.builtin "abs") (fun xs H Q=>∃ i,xs=[.int i]/\Q (.int (if i<0 then -i else i)) H):=by intro Yp s σ H xs us Q I r h;obtain⟨i,rfl,q⟩:=h;obtain⟨u,rfl,t,rfl⟩:=vals1 r;exact call_abs_int fun u tk=>⟨.int (if i<0 then -i else i),H,I.tok _,⟨_,rfl⟩,q⟩
theorem DB (hc:X.calm=true):da X (.builtin "min") (fun xs H Q=>∃ i j,xs=[.int i,.int j]/\Q (.int (if j<i then j else i)) H):=by
 intro Yp s σ H xs us Q I r h;obtain⟨i,j,rfl,q⟩:=h;obtain⟨u,w',rfl,⟨t,rfl⟩,⟨t',rfl⟩⟩:=vals2 r;refine min_two_ints (I.ok.hd hc) fun h' tk k=>⟨_,H,I.kept k,?_,q⟩
 by_cases hj:j<i
 ·rw[ai hj,ai hj];exact⟨_,rfl⟩
 ·rw[ag hj,ag hj];exact⟨_,rfl⟩
end
end
section
structure Ar (h:Heap) (x dx C:Addr) (mA:Zk):Prop where
 obj:h.get? x=some (PySem.W.instObj C dx)
 ns:h.Ns1 dx mA
 ne:dx≠x
theorem wV {dx:Addr} (n:h.Ns1 dx mA):∃ od,h.get? dx=some od/\∀ name,PySem.W.lookIn name od=some (mA name):=by
 obtain⟨o,es,ep,ho,hd,hk,_,hm⟩:=n;refine⟨o,ho,fun name=>?_⟩;have e:=hm name;unfold nsFind findBy at e;rw[←Array.find?_toList] at e;unfold PySem.W.lookIn;rw[hd];dsimp only;split
 ·rename_i y q
  rw[q] at e;exact cc some e
 ·rename_i q
  rw[q] at e;have a:es.toList.any (·.refKey)=false:=by rw[List.any_eq_false];intro y hy;obtain⟨z,t,hkey⟩:=hk y (Array.mem_toList_iff.mp hy);simp [DictEntry.refKey,hkey]
  have a':¬ es.toList.any (·.refKey)=true:=by rw[a];exact cu
  rw[ag a'];exact cc some e
theorem Ar.look {x dx C:Addr} (I:Ar h x dx C mA):∃ od,PySem.W.InstAt h x (PySem.W.instObj C dx) C (some od)/\∀ name,PySem.W.lookIn name od=some (mA name) :=
 let ⟨od,ho,hl⟩:=wV I.ns
 ⟨od,⟨I.obj,rfl,rfl,ho⟩,hl⟩
section
variable {prog:Zh}{w:Zi}{A:Around}{E:Zq}{s:Zg}{K:Zf}{x dx C f:Addr}{mA:Zk}{name:Str}{v:Value}
theorem get_map {expr:Bool}{Q:Zq} (X:K.In s.heap) (I:Ar s.heap x dx C mA) (hg:PySem.W.plainGet K C name=true) (hh:PySem.W.hasDictIn K C=true)
  (ha:PySem.W.findIn K (.ref C) name=some none) (hv:mA name=some v) (hv':PySem.W.handedIn v=true) (h:Q v { s with toks:=s.toks+1 }) :
  wpAny (model prog w) A (getAttr (.ref x) name expr) Q E s:=by
 obtain⟨od,J,hl⟩:=I.look;exact PySem.W.get_value X J (PySem.W.plainGet_of hg).1 (PySem.W.findObj_own hh ha rfl (by rw[hl,hv])) hv' h
theorem FW {pl:Sem Bool}{Q:Value×Zc->Zg->Prop} (X:K.In s.heap) (I:Ar s.heap x dx C mA) (hg:PySem.W.plainGet K C name=true)
  (hf:PySem.W.findIn K (.ref C) name=some (some (.ref f))) (ht:PySem.W.isFn K (.ref f)=true) (hv:mA name=none) (h:Q (.ref f,[.ref x]) s) :
  wpAny (model prog w) A (getMethod (.ref x) name pl) Q E s:=by
 obtain⟨od,J,hl⟩:=I.look;exact PySem.W.method_fn X J (PySem.W.plainGet_of hg).1 (PySem.W.plainGet_of hg).2 hf (eM.mp ht) (by show (PySem.W.lookIn name od).map (·.isSome)=some false;rw[hl,hv];rfl) h
theorem Kg {ns:Ze}{Q:Unit->Zg->Prop} (X:K.In s.heap) (I:Ar s.heap x dx C mA)
  (hs:PySem.W.findIn K (.ref C) "__setattr__"=some (some (.builtin "object.__setattr__"))) (hp:PySem.W.plainOver K C=true) (ht:PySem.W.takerIn K C name=some none) (hh:PySem.W.hasDictIn K C=true)
  (hw:PySem.Within mA ns) (hsz:⇑ns<=sizeLine)
  (h:∀ h',Ar h' x dx C (fun y=>if y=name then some v else mA y)->Heap.SameBut dx s.heap h'->Q () { s with heap:=h',toks:=s.toks+2 }) :
  wpAny (model prog w) A (setAttr (.ref x) name v) Q E s:=by
 obtain⟨od,J,hl⟩:=I.look;refine PySem.W.set_plain X J hs (PySem.W.osa_open (s:={ s with toks:=s.toks+1 }) (r:=none) X J hp ht fun b=>?_);obtain⟨cd,hc,hd'⟩:=PySem.W.any_some hh;have hx:s.heap.get? x=some ⟨.ref C,some dx,.plain,#[]⟩:=I.obj;refine aa (aq (aa (aa (wpAny_loadPart hx (aa (PySem.W.Looks.here (s:={ s with toks:=s.toks+1 }) (PySem.W.looks_clsIn X hc) ?_))))));rw[hd'];refine aq (a:=some dx) (aa (aq (aa ?_)));refine wpAny_nsSet1 (s:={ s with toks:=s.toks+1 }) I.ns fun h' hn2 hs2=>?_;obtain⟨oD,esD,epD,hoD,hdD,hcD⟩:=hn2.count (PySem.Within.cons name v hw);refine aa (wpAny_lookBehind hoD (by rw[hdD];exact pastItsLine_dict (aX hcD (by rw[bf];left))) ?_);exact aq (h _ ⟨(hs2.2 _ (b7 I.ne)).trans I.obj,hn2,I.ne⟩ hs2)
theorem GA {R:Result->Zg->Prop}{vs:Zc}{kw:List (Str×Value)} (X:K.In s.heap) (hm:PySem.W.makesIn K C=true)
  (hi:PySem.W.findIn K (.ref C) "__init__"=some (some (.ref f))) (hf:PySem.W.typeIn K (.ref f)=some (.type "function"))
  (h:codeAny (model prog w) (A.under (.builtin "type.__call__" ⟨.ref C::vs,kw⟩)) (.call (.ref f) ⟨.ref (s.heap.objs.size+1)::vs,kw⟩) (PySem.W.InitBack (s.heap.objs.size+1) R)
   { s with heap:=(s.heap.push PySem.W.emptyDict).push (PySem.W.instObj C s.heap.objs.size) }) :
  codeAny (model prog w) A (.call (.ref C) ⟨vs,kw⟩) R s:=by
 obtain⟨hh,g,d,t,os⟩:=s;exact PySem.W.make_core (PySem.W.makes_of X hm) (rT X hi) (fun self=>PySem.W.bind_fn X self hf) (.inl rfl) h
end
noncomputable def mQ (f:Str) (v:V):List (Str×V)->List (Str×V)
 | []=>[(f,v)]
 | (g,x)::r=>if g=f then (g,v)::r else (g,x)::mQ f v r
theorem t9 (f g:Str) (v:V):∀ fs:List (Str×V),(mQ f v fs).lookup g=if g=f then some v else fs.lookup g
 | []=>by
  show List.lookup g [(f,v)]=_
  by_cases h:g=f
  ·have hb:(g==f)=true:=eM.mpr h;simp only[List.lookup,hb,ai h]
  ·have hb:(g==f)=false:=kc.mpr h;simp only[List.lookup,hb,ag h]
 | (k,x)::r=>by
  have ih:=t9 f g v r;rw[show mQ f v ((k,x)::r)=(if k=f then (k,v)::r else (k,x)::mQ f v r) from rfl]
  by_cases hk:k=f
  ·rw[ai hk]
   by_cases h:g=k
   ·have hb:(g==k)=true:=eM.mpr h;simp only[List.lookup,hb,ai (h.trans hk)]
   ·have hb:(g==k)=false:=kc.mpr h;simp only[List.lookup,hb,ag (fun e:g=f=>h (e.trans hk.symm))]
  ·rw[ag hk]
   by_cases h:g=k
   ·have hb:(g==k)=true:=eM.mpr h;simp only[List.lookup,hb,ag (fun e:g=f=>hk (h.symm.trans e))]
   ·have hb:(g==k)=false:=kc.mpr h;simp only[List.lookup,hb];exact ih
theorem sr (f:Str) (v:V):∀ fs:List (Str×V),f∈(mQ f v fs).map (·.1)/\∀ g,g∈fs.map (·.1)->g∈(mQ f v fs).map (·.1)
 | []=>⟨by simp [mQ],fun g h=>by simp at h⟩
 | (k,x)::r=>by
  obtain⟨i1,i2⟩:=sr f v r;rw[show mQ f v ((k,x)::r)=(if k=f then (k,v)::r else (k,x)::mQ f v r) from rfl]
  by_cases hk:k=f
  ·rw[ai hk];subst hk;exact⟨by simp,fun g h=>by simpa using h⟩
  ·rw[ag hk];refine⟨?_,fun g h=>?_⟩
   ·rw[bg];exact aV _ i1
   ·rw[bg] at h ⊢;rcases aU.mp h with e | e
    ·exact aU.mpr (.inl e)
    ·exact aV _ (i2 g e)
theorem tp (f:Str) (v:V):∀ fs:List (Str×V),⇑(mQ f v fs)<=⇑fs+1
 | []=>by simp [mQ]
 | (k,x)::r=>by
  have ih:=tp f v r;rw[show mQ f v ((k,x)::r)=(if k=f then (k,v)::r else (k,x)::mQ f v r) from rfl]
  by_cases hk:k=f
  ·rw[ai hk,bf,bf];left
  ·rw[ag hk,bf,bf];left
theorem kJ.some_of {v:V}{o:Option Value} (r:kJ (some v) o):∃ u,o=some u/\RelV v u:=by
 cases o with
 | none=>exact (show False from r).elim
 | some u=>exact⟨u,rfl,r⟩
theorem kJ.none_of {o:Option Value} (r:kJ none o):o=none:=by
 cases o with
 | none=>rfl
 | some u=>exact (show False from r).elim
theorem Ep {v:V} (r:RelV v u):PySem.W.handedIn u=true:=by
 cases v with
 | non=>cases (show u=Value.none from r);rfl
 | bl b=>cases (show u=Value.bool b from r);rfl
 | int i=>obtain⟨t,e⟩:=(show ∃ t,u=Value.int i t from r);cases e;rfl
 | str x=>obtain⟨t,e⟩:=(show ∃ t,u=Value.str x t from r);cases e;rfl
 | byt b=>obtain⟨t,e⟩:=(show ∃ t,u=Value.bytes b t from r);cases e;rfl
 | flt b=>obtain⟨t,e⟩:=(show ∃ t,u=Value.float b t from r);cases e;rfl
 | ref a=>cases (show u=Value.ref a from r);rfl
 | ty n=>cases (show u=Value.type n from r);rfl
section
variable {P:Zh}{w:Zi}{H H':Hp}{h h':Heap}{a C dx:Addr}{fs fs':List (Str×V)}
theorem u7 (hok:Ð P w H h) (e:H a=some (.ins C dx fs)):∃ mA,Ar h a dx C mA/\(∀ f,kJ (fs.lookup f) (mA f))/\PySem.Within mA (fs.map (·.1))/\⇑fs<=1000/\H dx=some (.own a):=by obtain⟨d,z,ne,ob,mA,n,r,q⟩:=(show cj P w H h a (.ins C dx fs) from hok a _ e);exact⟨mA,⟨ob,n,ne⟩,r,q,z,d⟩
end
structure à (K:Zf) (C:Addr):Prop where
 pg:PySem.W.plainGet K C Str.empty=true
 hd:PySem.W.hasDictIn K C=true
 po:PySem.W.plainOver K C=true
 sa:PySem.W.findIn K (.ref C) "__setattr__"=some (some (.builtin "object.__setattr__"))
theorem à.get (c:à K C) (f:Str):PySem.W.plainGet K C f=true:=c.pg
noncomputable def gZ (K:Zf) (C:Addr) (f:Str):Prop:=PySem.W.findIn K (.ref C) f=some none
theorem gZ.NL {f:Str} (n:gZ K C f):PySem.W.takerIn K C f=some none:=by unfold PySem.W.takerIn;rw[show PySem.W.findIn K (.ref C) f=some none from n];rfl
structure Meth (K:Zf) (C:Addr) (m:Str) (f:Addr):Prop where
 at_:PySem.W.findIn K (.ref C) m=some (some (.ref f))
 fn:PySem.W.isFn K (.ref f)=true
 kp:PySem.W.keepIn K (.ref f)=true
section
variable {X:Cx}{Yp:Zp}{σ:St}{H:Hp}{s:Zg}{a C dx:Addr}{fs:List (Str×V)}{f:Str}{v:V}{A:Around}{E:Zq}
theorem Ba {b:Bool}{Q:Zq} (I:Inv X Yp σ H s) (e:H a=some (.ins C dx fs)) (c:à X.K C) (n:gZ X.K C f) (l:fs.lookup f=some v)
  (h:∀ u s',Inv X Yp σ H s'->RelV v u->Q u s'):wpAny (model X.prog X.w) A (getAttr (.ref a) f b) Q E s:=by
 obtain⟨mA,O,r,_,_,_⟩:=u7 I.hok e;obtain⟨u,hu,ru⟩:=kJ.some_of (v:=v) (o:=mA f) (by rw[←l];exact r f);exact get_map I.Ñ O (c.get f) c.hd n hu (Ep ru) (h u _ (I.tok _) ru)
theorem uV {m:Str}{g:Addr}{pl:Sem Bool}{Q:Value×Zc->Zg->Prop} (I:Inv X Yp σ H s) (e:H a=some (.ins C dx fs)) (c:à X.K C) (k:Meth X.K C m g) (l:fs.lookup m=none)
  (h:Q (.ref g,[.ref a]) s):wpAny (model X.prog X.w) A (getMethod (.ref a) m pl) Q E s:=by
 obtain⟨mA,O,r,_,_,_⟩:=u7 I.hok e;have hn:mA m=none:=kJ.none_of (by rw[←l];exact r m);exact FW I.Ñ O (c.get m) k.at_ k.fn hn h
theorem BR {y:V}{Q:Unit->Zg->Prop} (I:Inv X Yp σ H s) (e:H a=some (.ins C dx fs)) (c:à X.K C) (n:gZ X.K C f) (hl:⇑fs<1000) (ry:RelV y u)
  (h:∀ s',Inv X Yp σ (upd H a (.ins C dx (mQ f y fs))) s'->Q () s'):wpAny (model X.prog X.w) A (setAttr (.ref a) f u) Q E s:=by
 obtain⟨mA,O,r,wi,_,ho⟩:=u7 I.hok e;have hz:⇑(fs.map (·.1))<=sizeLine:=by rw[af,gi];left
 refine Kg I.Ñ O c.sa c.po n.NL c.hd wi hz fun h' O' sb=>h _ ?_;have hd:∃ o,h'.get? dx=some o:=let ⟨o,_,_,e',_⟩:=O'.ns;⟨o,e'⟩;refine I.write (x:=a) (e:=dx) (by rw[e];exact True.intro) (.inr ho) (fun b q hb z=>(sb.2 b hb).trans z) hd ?_;refine⟨by rw[aG O.ne];exact ho,?_,O.ne,O'.obj,_,O'.ns,fun g=>?_,fun g hg=>?_⟩
 ·have:=tp f y fs;left
 ·show kJ ((mQ f y fs).lookup g) (if g=f then some u else mA g);rw[t9]
  by_cases q:g=f
  ·rw[ai q,ai q];exact ry
  ·rw[ag q,ag q];exact r g
 ·by_cases q:g=f
  ·rw[q];exact (sr f y fs).1
  ·refine (sr f y fs).2 g (wi g fun z=>hg ?_);show (if g=f then some u else mA g)=none;rw[ag q];exact z
theorem Inv.made (I:Inv X Yp σ H s):Inv X Yp σ (upd (upd H s.heap.objs.size (.own (s.heap.objs.size+1))) (s.heap.objs.size+1) (.ins C s.heap.objs.size []))
  { s with heap:=(s.heap.push PySem.W.emptyDict).push (PySem.W.instObj C s.heap.objs.size) }:=by
 have e1:(s.heap.push PySem.W.emptyDict).get? s.heap.objs.size=some PySem.W.emptyDict:=bz s.heap rfl;have e2:((s.heap.push PySem.W.emptyDict).push (PySem.W.instObj C s.heap.objs.size)).get? (s.heap.objs.size+1)=some (PySem.W.instObj C s.heap.objs.size):=by
  have:=bz (s.heap.push PySem.W.emptyDict) (o:=PySem.W.instObj C s.heap.objs.size) rfl
  rwa [iQ] at this
 have e3:(s.heap.push PySem.W.emptyDict).Ns s.heap.objs.size (fun _=>none):=⟨PySem.W.emptyDict,#[],_,e1,rfl,(fun e he=>absurd he (by simp)),fun _=>rfl⟩;have I1:=I.laid (a:=s.heap.objs.size) (o:=.own (s.heap.objs.size+1)) (h':=s.heap.push PySem.W.emptyDict) (t':=s.toks) (fun b u q=>aE _ q) (av _) ⟨_,e1⟩;refine I1.laid (a:=s.heap.objs.size+1) (o:=.ins C s.heap.objs.size []) (t':=s.toks) (fun b u q=>aE _ q) (jY (iQ _ _)) ?_;have ne:s.heap.objs.size≠s.heap.objs.size+1:=bh (jZ _);refine⟨by rw[aG ne,aC],bc _,ne,e2,fun _=>none,(Heap.Ns1.of_empty e3).at fun o q=>aE _ q,fun _=>True.intro,fun y hy=>absurd rfl hy⟩
theorem Ck {prog:Zh}{w:Zi}{env:Env}{f:Str}{pos:Pos}{s:Zg}{Q:Zq} (hb:attributeBase e f env (eval e env)=eval e env)
  (h:wpAny (model prog w) A (eval e env) (fun o s₁=>wpAny (model prog w) A (getAttr o f true) Q E s₁) E s):wpAny (model prog w) A (eval (.Attribute e f pos) env) Q E s :=
 Attribute_any_ h (by rw[arm_eval_Attribute,hb])
end
noncomputable def O5 (K:Zf) (ta:TE) (f:Str):TE:=fun σ H Q=>ta σ H fun x H1=>∃ a C dx fs v,x=.ref a/\H1 a=some (.ins C dx fs)/\à K C/\gZ K C f/\fs.lookup f=some v/\Q v H1
noncomputable def O2 (K:Zf) (ta tv:TE) (f:Str):TS:=fun D σ H=>tv σ H fun y H1=>ta σ H1 fun x H2=>∃ a C dx fs,x=.ref a/\H2 a=some (.ins C dx fs)/\à K C/\gZ K C f/\⇑fs<1000 ∧
 D.nx σ (upd H2 a (.ins C dx (mQ f y fs)))
section
variable {X:Cx}{o e value:Expr}{f:Str}{pos pos' tpos:Pos}{ta tv:TE}
theorem Mr (he:PE X e ta) (hb:attributeBase e f X.env (eval e X.env)=eval e X.env):PE X (.Attribute e f pos) (O5 X.K ta f):=by intro Yp s σ H Q I h;refine Ck hb (Â (he Yp s σ H _ I h) fun u s1 hz=>?_);obtain⟨x,H1,I1,rx,a,C,dx,fs,v,ex,ea,c,n,l,q⟩:=hz;subst ex;obtain rfl:u=Value.ref a:=rx;exact Ba I1 ea c n l fun u' s2 I2 ru=>⟨v,H1,I2,ru,q⟩
theorem My (ha:PE X o ta) (hv:PE X value tv) (hs:swapsWith value (some (.Attribute o f pos')) pos.line X.env=pure false):PS X (.Assign [.Attribute o f pos'] value pos) (O2 X.K ta tv f):=by intro Yp s σ H D I h;refine plainObj_wpAny_Assign_Attribute (Â (hv Yp s σ H _ I h) fun u s1 ⟨y,H1,I1,ry,q⟩=>Â (ha Yp s1 σ H1 _ I1 q) fun ov s2 hz=>?_) hs;obtain⟨x,H2,I2,rx,a,C,dx,fs,ex,ea,c,n,l,q2⟩:=hz;subst ex;obtain rfl:ov=Value.ref a:=rx;exact BR I2 ea c n l ry fun s3 I3=>⟨σ,_,I3,q2⟩
end
section
variable {X:Cx}{Yp:Zp}{σ:St}{H:Hp}{s:Zg}{A:Around}{E:Zq}{Q:Zq}{c:Value}{b:Bool}
inductive pC (K:Zf) (H:Hp):V->Value->Prop where
 | non:pC K H .non (.type "NoneType")
 | bl (x:Bool):pC K H (.bl x) (.type "bool")
 | int (i:Int):pC K H (.int i) (.type "int")
 | str (x:Str):pC K H (.str x) (.type "str")
 | flt (x:UInt64):pC K H (.flt x) (.type "float")
 | lst {a:Addr}{xs:List V} (e:H a=some (.lst xs)):pC K H (.ref a) (.type "list")
 | frz {a:Addr}{o:Obj}{xs:List V} (e:H a=some (.frz o (.lst xs))):pC K H (.ref a) (.type "list")
 | tup {a:Addr}{xs:List V} (e:H a=some (.tup xs)):pC K H (.ref a) (.type "tuple")
 | dK {a:Addr}{kvs:List (Key×V)} (e:H a=some (.dK kvs)):pC K H (.ref a) (.type "dict")
 | dT {a:Addr}{kvs:List (List Key×V)} (e:H a=some (.dT kvs)):pC K H (.ref a) (.type "dict")
 | ins {a C dx:Addr}{fs:List (Str×V)} (e:H a=some (.ins C dx fs)) (cl:à K C) (ha:PySem.W.findIn K (.ref C) "__class__"=some (some (.builtin "object.__class__")))
   (hn:PySem.W.specialIn K (.builtin "object.__class__") "__get__"=some (some (.builtin "getset_descriptor.__get__"))) (htk:PySem.W.takesIn K (.builtin "object.__class__")=some true)
   (hm:PySem.W.mroIn K C (.type "object")=some true):pC K H (.ref a) (.ref C)
theorem isinst_ok {x:V}{u t:Value} (I:Inv X Yp σ H s) (rx:RelV x u) (ty:pC X.K H x t) (e:PySem.W.kitOne X.K t c=some b) (h:∀ tk,Q (.bool b) { s with toks:=tk }) :
  wpAny (model X.prog X.w) A (call (.builtin "isinstance") [u,c]) Q E s:=by
 cases ty with
 | non=>cases (show u=Value.none from rx);exact gd PySem.W.kitx_none I.Ñ True.intro e (fun z=>nomatch z) h
 | bl y=>cases (show u=Value.bool y from rx);exact gd PySem.W.kitx_bool I.Ñ True.intro e (fun z=>nomatch z) h
 | int i=>obtain⟨t,q⟩:=(show ∃ t,u=Value.int i t from rx);cases q;exact gd PySem.W.kitx_int I.Ñ True.intro e (fun z=>nomatch z) h
 | str y=>obtain⟨t,q⟩:=(show ∃ t,u=Value.str y t from rx);cases q;exact gd PySem.W.kitx_str I.Ñ True.intro e (fun z=>nomatch z) h
 | flt y=>obtain⟨t,q⟩:=(show ∃ t,u=Value.float y t from rx);cases q;exact gd PySem.W.kitx_float I.Ñ True.intro e (fun z=>nomatch z) h
 | @lst a xs ea =>
  cases (show u=Value.ref a from rx)
  obtain⟨_,_,n,_,h1⟩:=(show cj X.prog X.w H s.heap a (.lst xs) from I.hok a _ ea);exact gd PySem.W.kitx_list I.Ñ ⟨_,h1,rfl⟩ e (fun z=>nomatch z) h
 | @frz a ob xs ea =>
  cases (show u=Value.ref a from rx)
  obtain⟨_,_,_,n,_,h1⟩:=(show cj X.prog X.w H s.heap a (.frz ob (.lst xs)) from I.hok a _ ea);exact gd PySem.W.kitx_list I.Ñ ⟨_,h1,rfl⟩ e (fun z=>nomatch z) h
 | @tup a xs ea =>
  cases (show u=Value.ref a from rx)
  obtain⟨_,_,_,p⟩:=(show cj X.prog X.w H s.heap a (.tup xs) from I.hok a _ ea);obtain⟨o,h1,h2,_⟩:=p;exact gd PySem.W.kitx_tuple I.Ñ ⟨o,h1,h2⟩ e (fun z=>nomatch z) h
 | @dK a kvs ea =>
  cases (show u=Value.ref a from rx)
  obtain⟨_,_,vs,_,p⟩:=(show cj X.prog X.w H s.heap a (.dK kvs) from I.hok a _ ea);obtain⟨o,es,ep,h1,h2,_⟩:=p;exact gd PySem.W.kitx_dict I.Ñ ⟨o,h1,h2.1⟩ e (fun z=>nomatch z) h
 | @dT a kvs ea =>
  cases (show u=Value.ref a from rx)
  obtain⟨_,_,xs,_,o,es,ep,h1,h2,_⟩:=(show cj X.prog X.w H s.heap a (.dT kvs) from I.hok a _ ea);exact gd PySem.W.kitx_dict I.Ñ ⟨o,h1,h2.1⟩ e (fun z=>nomatch z) h
 | @ins a C dx fs ea cl ha hn htk hm =>
  cases (show u=Value.ref a from rx)
  obtain⟨mA,O,_⟩:=u7 I.hok ea;obtain⟨od,J,_⟩:=O.look;exact gd (PySem.W.kitx_own (cl.get _) cl.hd ha hn htk hm) I.Ñ J e (fun z=>nomatch z) h
end
end
section
structure fe (k:Nat) (A:Around):Prop where
 hd:A.handled=none
 dp:A.depth+3*k+5<recursionLimit
 un:A.units+16*k+200<cLine
theorem fe.mono {j k:Nat}{A:Around} (r:fe k A) (h:j<=k):fe j A:=⟨r.hd,by have:=r.dp;left,by have:=r.un;left⟩
theorem fe.deeper {k:Nat}{A:Around} (r:fe (k+1) A) (env:Env):fe k (A.deeper env) :=
 ⟨r.hd,by have:=r.dp;show A.depth+1+3*k+5<_;left,by have:=r.un;show A.units+3+16*k+200<_;left⟩
theorem Bj {A:Around}:(A.under (.builtin "type.__call__" ⟨.ref C::us,kw⟩)).depth=A.depth+1:=by first | rfl | simp [Around.under,Code.weight,Code.isCreation,Code.isGuard,Code.isCaller,Code.frames,Code.isFrame,guardIds]
theorem Bk {A:Around}:(A.under (.builtin "type.__call__" ⟨.ref C::us,kw⟩)).units=A.units+1:=by first | rfl | simp [Around.under,Code.cUnits,Code.frames,Code.isFrame]
theorem fe.make {A:Around} (r:fe (k+1) A) (C:Addr) (us:Zc) (kw:List (Str×Value)):fe k (A.under (.builtin "type.__call__" ⟨.ref C::us,kw⟩)) :=
 ⟨r.hd,by have:=r.dp;rw[Bj];left,by have:=r.un;rw[Bk];left⟩
theorem fe.depth {k:Nat}{A:Around} (r:fe k A):A.depth<recursionLimit:=by have:=r.dp;left
theorem fe.units {k:Nat}{A:Around} (r:fe k A):A.units+64<cLine:=by have:=r.un;left
theorem fe.jQ {A:Around} (r:fe k A):A.units<cLine:=by have:=r.un;left
noncomputable def uq:TA:=fun _ H Q=>Q [] H
noncomputable def p9 (ta:TE) (tr:TA):TA:=fun σ H Q=>ta σ H fun x H1=>tr σ H1 fun xs H2=>Q (x::xs) H2
section
variable {X:Cx}{e:Expr}{es:List Expr}{te:TE}{t:TA}{pos:Pos}
theorem ae:PA X [] uq:=fun _ _ _ _ H Q I h=>Calls.spliced_nil ⟨[],H,I,.nil,h⟩
theorem JC (ha:PE X e te) (hr:PA X es t) (hs:starEach (e::es) X.env=(false,eval e X.env)::starEach es X.env:=by rfl):PA X (e::es) (p9 te t):=by intro pos Yp s σ H Q I h;rw[hs];show wpAny _ _ (spliced ((false,eval e X.env)::backTo pos (starEach es X.env))) _ _ s;refine Calls.spliced_cons (Â (ha Yp s σ H _ I h) fun u s1 ⟨x,H1,I1,r1,q1⟩=>?_);exact Â (hr pos Yp s1 σ H1 _ I1 q1) fun us s2 ⟨xs,H2,I2,r2,q2⟩=>⟨x::xs,H2,I2,.cons r1 r2,q2⟩
end
noncomputable abbrev Sp:=List V->Hp->VK->XK->Prop
noncomputable abbrev Ö:=List Env->Hp->Zg->XK->Zq
structure Aq (P:Zh) (w:Zi) (K:Zf) (mg:Zk) (base:Heap) (A:Around) (outer:List Env) (s:Zg) (H:Hp):Prop where
 frames:A.frames=some outer
 mod:Mod K mg base
 bs:∀ b o,base.get? b=some o->s.heap.get? b=some o/\H b=none
 bsz:base.objs.size<=s.heap.objs.size
 si:s.heap.FunFrames base outer
 frf:∀ b∈Ì outer,H b=none
 hok:Ð P w H s.heap
 bare:AllBare s.gens
noncomputable def CE (outer:List Env) (P:Zh) (w:Zi) (H:Hp) (s:Zg) (Q:VK) (u:Value) (s':Zg):Prop :=
 ∃ v H',s'.os=s.os/\AllBare s'.gens/\Un (Ì outer) [] H H' s.heap s'.heap/\Ð P w H' s'.heap/\RelV v u/\Q v H'
noncomputable def CR (CX:Ö) (outer:List Env) (P:Zh) (w:Zi) (H:Hp) (s:Zg) (Q:VK) (E:XK) (r:Result) (s':Zg):Prop :=
 match r with
 | .ok (.ret u)=>CE outer P w H s Q u s'
 | .ok _=>False
 | .error e=>CX outer H s E e s'
structure bR (P:Zh) (w:Zi) (K:Zf) (mg:Zk) (base:Heap) (CX:Ö) (k:Nat) (f:Addr) (fd:FuncData) (ps:Ze) (sp:Sp):Prop where
 len:∀ vs H Q E,sp vs H Q E->⇑vs=⇑ps
 run:∀ (A:Around) (outer:List Env) (s:Zg) (H:Hp) (args:Args) (us:Zc) (vs:List V) (Q:VK) (E:XK),fe k A->Aq P w K mg base A outer s H->BindsTo s fd args (ps.zip us)->Vals vs us->sp vs H Q E →
  codeAny (model P w) A (.call (.ref f) args) (CR CX outer P w H s Q E) s
theorem bR.mono {P:Zh}{w:Zi}{K:Zf}{mg:Zk}{base:Heap}{CX:Ö}{j k:Nat}{f:Addr}{fd:FuncData}{ps:Ze}{sp:Sp} (F:bR P w K mg base CX j f fd ps sp) (h:j<=k) :
  bR P w K mg base CX k f fd ps sp:=⟨F.len,fun A outer s H args us vs Q E hr=>F.run A outer s H args us vs Q E (hr.mono h)⟩
theorem Aq.make {A:Around}{H:Hp} (e:Aq P w K mg base A outer s H) (C:Addr) (us:Zc) (kw:List (Str×Value)) :
  Aq P w K mg base (A.under (.builtin "type.__call__" ⟨.ref C::us,kw⟩)) outer s H:=⟨by first | exact e.frames | (simpa [Around.under,Code.envs,Code.isFrame,pushEnvs] using e.frames),e.mod,e.bs,e.bsz,e.si,e.frf,e.hok,e.bare⟩
section
variable {X:Cx}{Yp:Zp}{σ:St}{H:Hp}{s s':Zg}
theorem Inv.LA (I:Inv X Yp σ H s):Aq X.prog X.w X.K X.mg X.base X.A X.stack s H :=
 ⟨I.ok.frames,I.ok.mod,I.bs,aX I.ok.bsz I.sz,I.stack,I.rq,I.hok,I.bare⟩
theorem Inv.after {Q:VK} (I:Inv X Yp σ H s) (h:CE X.stack X.prog X.w H s Q u s'):EP X Yp σ Q u s':=by obtain⟨v,H',os,bare,un,hok,r,q⟩:=h;obtain⟨hh,g,d,t,os'⟩:=s';obtain rfl:os'=s.os:=os;exact⟨v,H',I.call (h':=hh) (g':=g) (d':=d) (t':=t) (ch:=[]) un hok bare (fun b z=>absurd z (by simp)),r,q⟩
end
noncomputable def Dg (sp:Sp) (dvs:List V) (E:St->XK) (t:TA):TE:=fun σ H Q=>t σ H fun vs H1=>sp (vs++dvs) H1 Q (E σ)
noncomputable def KS (C:Addr) (m:Str) (sp:Sp) (dvs:List V) (E:St->XK) (ta:TE) (t:TA):TE:=fun σ H Q=>ta σ H fun x H1=>∃ a dx fs,x=.ref a/\H1 a=some (.ins C dx fs)/\fs.lookup m=none ∧
 t σ H1 fun vs H2=>sp (x::(vs++dvs)) H2 Q (E σ)
noncomputable def NH (C:Addr) (sp:Sp) (dvs:List V) (E:St->XK) (t:TA):TE:=fun σ H Q=>t σ H fun vs H1=>∀ x dx,H1 x=none->H1 dx=none->dx≠x →
 sp (.ref x::(vs++dvs)) (upd (upd H1 dx (.own x)) x (.ins C dx [])) (fun v H2=>v=.non/\Q (.ref x) H2) (E σ)
noncomputable def Binds (K:Zf) (fd:FuncData) (ps:Ze) (ds:Zc):Prop :=
 ∀ (s:Zg) (us:Zc),K.In s.heap->⇑(us++ds)=⇑ps->BindsTo s fd ⟨us,[]⟩ (ps.zip (us++ds))
theorem Binds.all {fd:FuncData}{ps:Ze} (h:∀ us:Zc,⇑us=⇑ps->bindArgs fd ⟨us,[]⟩=pure (ps.zip us)):Binds K fd ps []:=fun s us _ hl=>by rw[dM] at hl ⊢;exact .of_eq (h us hl)
noncomputable def Passes (CX:Ö) (X:Cx) (E:St->XK):Prop:=∀ (Yp:Zp) (σ:St) (H:Hp) (s:Zg) (e:Value) (s':Zg),Inv X Yp σ H s->CX X.stack H s (E σ) e s'->X.xe e s'
section
variable {X:Cx}{CX:Ö}{k:Nat}{f C:Addr}{fd:FuncData}{ps:Ze}{sp:Sp}{dvs:List V}{ds:Zc}{E:St->XK}{x m:Str}{p pos apos:Pos}{e o:Expr}{es:List Expr}{ta:TE}{t:TA}
theorem BF {Yp:Zp}{σ:St}{H:Hp}{s:Zg}{Q:VK}{us:Zc}{vs:List V} (F:bR X.prog X.w X.K X.mg X.base CX k f fd ps sp) (hr:fe k X.A) (hb:Binds X.K fd ps ds) (hd:Vals dvs ds) (hx:Passes CX X E)
  (I:Inv X Yp σ H s) (r:Vals vs us) (h:sp (vs++dvs) H Q (E σ)):wpAny (model X.prog X.w) X.A (call (.ref f) us) (EP X Yp σ Q) X.xe s:=by
 have r2:Vals (vs++dvs) (us++ds):=r.append hd;have hl:⇑(us++ds)=⇑ps:=by rw[←⇑r2];exact F.len _ _ _ _ h
 refine i4 (gE (F.run X.A X.stack s H ⟨us,[]⟩ (us++ds) (vs++dvs) Q (E σ) hr I.LA (hb s us I.Ñ hl) r2 h) fun r s' hq=>?_);cases r with
 | error e=>exact hx Yp σ H s e s' I hq
 | ok fl =>
  cases fl with
  | ret u=>exact I.after hq
  | next=>exact False.elim hq
  | brk=>exact False.elim hq
  | cont=>exact False.elim hq
theorem JE (F:bR X.prog X.w X.K X.mg X.base CX k f fd ps sp) (hr:fe k X.A) (hg:Gl X x) (hm:X.mg x=some (.ref f)) (hk:PySem.W.keepIn X.K (.ref f)=true) (hb:Binds X.K fd ps ds) (hd:Vals dvs ds) (hx:Passes CX X E)
  (ha:PA X (e::es) t) (hdb:(x==("__debug__":Str))=false:=by decide) (he:starEach (e::es) X.env=(false,eval e X.env)::starEach es X.env:=by rfl) (hpl:(backTo pos (starEach es X.env)).any (·.1)=false:=by rfl) :
  PE X (.Call (.Name x p) (e::es) [] pos) (Dg sp dvs E t):=by
 intro Yp s σ H Q I h;refine lW (ku I hg hm ?_ hdb);refine rS (h₀:=X.base) I.ok.mod.kin hk (Â (ha pos Yp s σ H _ I h) fun us s1 ⟨vs,H1,I1,r,q⟩=>⟨I1.Ñ,?_⟩) he hpl;exact BF F hr hb hd hx I1 r q
theorem CM {pl:Sem Bool} (he:PE X o ta) (c:à X.K C) (hm:Meth X.K C m f) (F:bR X.prog X.w X.K X.mg X.base CX k f fd ps sp) (hr:fe k X.A) (hb:Binds X.K fd ps ds) (hd:Vals dvs ds) (hx:Passes CX X E) (ha:PA X (e::es) t)
  (hst:starEach (e::es) X.env=(false,eval e X.env)::starEach es X.env:=by rfl) (hpl:(backTo pos (starEach es X.env)).any (·.1)=false:=by rfl)
  (ht:eval (.Call (.Attribute o m apos) (e::es) [] pos) X.env=(do
   let ov ←eval o X.env
   standAt apos.atName
   let (f,first) ←holding [ov] (getMethod ov m pl)
   callWith pos f first (backTo pos (starEach (e::es) X.env)) (backToKw pos (keywordEach [] X.env))):=by rfl) :
  PE X (.Call (.Attribute o m apos) (e::es) [] pos) (KS C m sp dvs E ta t):=by
 intro Yp s σ H Q I h;refine PySem.W.methodCall_KW (pl:=pl) (Â (he Yp s σ H _ I h) fun u s1 hz=>?_) ht;obtain⟨x,H1,I1,rx,a,dx,fs,ex,ea,l,q⟩:=hz;subst ex;obtain rfl:u=Value.ref a:=rx;refine uV I1 ea c hm l ?_;refine rS (first:=[.ref a]) (h₀:=X.base) I.ok.mod.kin hm.kp (Â (ha pos Yp s1 σ H1 _ I1 q) fun us s2 ⟨vs,H2,I2,r,q2⟩=>⟨I2.Ñ,?_⟩) hst hpl;exact BF (us:=.ref a::us) (vs:=.ref a::vs) F hr hb hd hx I2 (.cons rfl r) q2
theorem He {pl:Sem Bool} (he:PE X o ta) (c:à X.K C) (hm:Meth X.K C m f) (F:bR X.prog X.w X.K X.mg X.base CX k f fd ps sp) (hr:fe k X.A) (hb:Binds X.K fd ps ds) (hd:Vals dvs ds) (hx:Passes CX X E)
  (ht:eval (.Call (.Attribute o m apos) [] [] pos) X.env=(do
   let ov ←eval o X.env
   standAt apos.atName
   let (f,first) ←holding [ov] (getMethod ov m pl)
   callWith pos f first (backTo pos (starEach [] X.env)) (backToKw pos (keywordEach [] X.env))):=by rfl) :
  PE X (.Call (.Attribute o m apos) [] [] pos) (KS C m sp dvs E ta uq):=by
 intro Yp s σ H Q I h;refine PySem.W.methodCall_KW (pl:=pl) (Â (he Yp s σ H _ I h) fun u s1 hz=>?_) ht;obtain⟨x,H1,I1,rx,a,dx,fs,ex,ea,l,q⟩:=hz;subst ex;obtain rfl:u=Value.ref a:=rx;refine uV I1 ea c hm l ?_;exact PySem.W.callWith_K0 (first:=[.ref a]) I1.Ñ hm.kp (BF (us:=[.ref a]) (vs:=[.ref a]) F hr hb hd hx I1 (.cons rfl .nil) q)
structure Mk (K:Zf) (C f:Addr):Prop where
 makes:PySem.W.makesIn K C=true
 init:PySem.W.findIn K (.ref C) "__init__"=some (some (.ref f))
 fn:PySem.W.isFn K (.ref f)=true
 kp:PySem.W.keepIn K (.ref C)=true
theorem HG {Yp:Zp}{σ:St}{H:Hp}{s:Zg}{Q:VK}{us:Zc}{vs:List V} (M:Mk X.K C f) (F:bR X.prog X.w X.K X.mg X.base CX k f fd ps sp) (hr:fe (k+1) X.A) (hb:Binds X.K fd ps ds) (hd:Vals dvs ds)
  (hx:Passes CX X E) (I:Inv X Yp σ H s) (r:Vals vs us)
  (h:∀ x dx,H x=none->H dx=none->dx≠x->sp (.ref x::(vs++dvs)) (upd (upd H dx (.own x)) x (.ins C dx [])) (fun v H2=>v=.non/\Q (.ref x) H2) (E σ)) :
  wpAny (model X.prog X.w) X.A (call (.ref C) us) (EP X Yp σ Q) X.xe s:=by
 have hq:=h (s.heap.objs.size+1) s.heap.objs.size (I.hok.fresh (fZ _)) (I.hok.fresh (av _)) (bh (jZ _));have I2:=Inv.made (C:=C) I;have r2:Vals (V.ref (s.heap.objs.size+1)::(vs++dvs)) (Value.ref (s.heap.objs.size+1)::(us++ds)):=.cons rfl (r.append hd);have hl:⇑(Value.ref (s.heap.objs.size+1)::us++ds)=⇑ps:=by have e:=⇑r2;rw[F.len _ _ _ _ hq] at e;exact e.symm
 refine i4 (GA (f:=f) I.Ñ M.makes M.init (eM.mp M.fn) (gE (F.run _ X.stack _ _ ⟨Value.ref (s.heap.objs.size+1)::us,[]⟩ (Value.ref (s.heap.objs.size+1)::(us++ds)) _ _ (E σ) (hr.make C us [])
  (I2.LA.make C us []) (hb _ (Value.ref (s.heap.objs.size+1)::us) I2.Ñ hl) r2 hq) fun r s' hq'=>?_))
 cases r with
 | error e=>exact hx Yp σ _ _ e s' I2 hq'
 | ok fl =>
  cases fl with
  | ret u =>obtain⟨v,H',I3,rv,ev,q3⟩:=I2.after hq';subst ev;exact⟨rv,⟨V.ref (s.heap.objs.size+1),H',I3,rfl,q3⟩⟩
  | next=>exact False.elim hq'
  | brk=>exact False.elim hq'
  | cont=>exact False.elim hq'
theorem JJ (M:Mk X.K C f) (F:bR X.prog X.w X.K X.mg X.base CX k f fd ps sp) (hr:fe (k+1) X.A) (hg:Gl X x) (hm:X.mg x=some (.ref C)) (hb:Binds X.K fd ps ds) (hd:Vals dvs ds) (hx:Passes CX X E)
  (ha:PA X (e::es) t) (hdb:(x==("__debug__":Str))=false:=by decide) (he:starEach (e::es) X.env=(false,eval e X.env)::starEach es X.env:=by rfl) (hpl:(backTo pos (starEach es X.env)).any (·.1)=false:=by rfl) :
  PE X (.Call (.Name x p) (e::es) [] pos) (NH C sp dvs E t):=by
 intro Yp s σ H Q I h;refine lW (ku I hg hm ?_ hdb);refine rS (h₀:=X.base) I.ok.mod.kin M.kp (Â (ha pos Yp s σ H _ I h) fun us s1 ⟨vs,H1,I1,r,q⟩=>⟨I1.Ñ,?_⟩) he hpl;exact HG M F hr hb hd hx I1 r q
end
section
variable {X:Cx}{CX:Ö}{k:Nat}{f C:Addr}{fd:FuncData}{ps ks:Ze}{sp:Sp}{E:St->XK}{x m:Str}{p pos apos kpos:Pos}{e o:Expr}{es:List Expr}{kws:List Keyword}{te ta:TE}{t tk:TA}{nm:Option Str}
variable {g:Zc->Zc->Zc}{gV:List V->List V->List V}
end
structure aI (N P:Ze) (sc:Scope):Prop where
 kind:sc.kind=.function
 co:sc.isCoroutine=false
 gen:sc.isGenerator=false
 nd:N.Nodup
 pre:N.take ⇑P=P
 par:∀ x∈P,sc.names.lookup x=some .local∨sc.names.lookup x=some .cell
 nofree:∀ y∈sc.names,y.2≠.free
theorem wB {kindOf:Str->Option NameKind}{x:Str}:∀ {binds:List (Str×Value)}{m:Zk},(∀ v,(x,v)∉binds)->bindL kindOf binds m x=m x
 | [],_,_=>rfl
 | (n,v)::r,m,h=>by
  unfold bindL;rw[wB fun w hw=>h w (aV _ hw)];split
  ·have:x≠n:=by rintro rfl;exact h v aR
   simp [this]
  ·rfl
theorem wz {kindOf:Str->Option NameKind}{x:Str}:∀ {binds:List (Str×Value)}{m:Zk},(∀ v,(x,v)∉binds)->bindC kindOf binds m x=m x
 | [],_,_=>rfl
 | (n,v)::r,m,h=>by
  unfold bindC;rw[wz fun w hw=>h w (aV _ hw)];split
  ·rfl
  ·have:x≠n:=by rintro rfl;exact h v aR
   simp [this]
theorem wA {kindOf:Str->Option NameKind}{x:Str}{v:Value}:∀ {P:Ze}{vs:Zc}{i:Nat}{m:Zk},P.Nodup->P[i]?=some x->vs[i]?=some v->kindOf x=some .local →
  bindL kindOf (P.zip vs) m x=some v
 | [],_,_,_,_,h,_,_=>by simp at h
 | _::_,[],_,_,_,_,h,_=>by simp at h
 | p::P,w::vs,0,m,nd,h1,h2,hk=>by simp at h1 h2;subst h1;subst h2;show bindL kindOf ((p,w)::P.zip vs) m p=_;unfold bindL;rw[wB fun v hv=>(eL.mp nd).1 (oy hv).1,ai hk];simp
 | p::P,w::vs,i+1,m,nd,h1,h2,hk=>by show bindL kindOf ((p,w)::P.zip vs) m x=_;unfold bindL;exact wA (i:=i) (eL.mp nd).2 (by simpa using h1) (by simpa using h2) hk
theorem wy {kindOf:Str->Option NameKind}{x:Str}{v:Value}:∀ {P:Ze}{vs:Zc}{i:Nat}{m:Zk},P.Nodup->P[i]?=some x->vs[i]?=some v->kindOf x≠some .local →
  bindC kindOf (P.zip vs) m x=some v
 | [],_,_,_,_,h,_,_=>by simp at h
 | _::_,[],_,_,_,_,h,_=>by simp at h
 | p::P,w::vs,0,m,nd,h1,h2,hk=>by simp at h1 h2;subst h1;subst h2;show bindC kindOf ((p,w)::P.zip vs) m p=_;unfold bindC;rw[wz fun v hv=>(eL.mp nd).1 (oy hv).1,ag hk];simp
 | p::P,w::vs,i+1,m,nd,h1,h2,hk=>by show bindC kindOf ((p,w)::P.zip vs) m x=_;unfold bindC;exact wy (i:=i) (eL.mp nd).2 (by simpa using h1) (by simpa using h2) hk
noncomputable def start (N:Ze) (vs:List V):St:=vs.map some++List.replicate (⇑N-⇑vs) none
noncomputable def vV (CX:Ö) (P:Zh) (w:Zi) (K:Zf) (mg:Zk) (base:Heap) (N:Ze) (qual:Str) (scope:Scope) (f:Addr) (cd:Value) (A:Around) (outer:List Env) (s:Zg) (H:Hp) (E:XK):Cx where
 prog:=P
 w:=w
 K:=K
 mg:=mg
 base:=base
 A:=A.deeper (envOfC qual scope s.heap.objs.size f cd)
 N:=N
 s₀:=s
 H₀:=H
 env:=envOfC qual scope s.heap.objs.size f cd
 outer:=outer
 stack:=envOfC qual scope s.heap.objs.size f cd::outer
 ex:=[]
 calm:=true
 fn:=fun _=>true
 pn:=[]
 xe:=fun e s'=>wpAny (model P w) (A.deeper (envOfC qual scope s.heap.objs.size f cd)) (leaving (envOfC qual scope s.heap.objs.size f cd) e) (fun _ s''=>CX outer H s E e s'') (fun e' s''=>CX outer H s E e' s'') s'
theorem yG {sc:Scope}{n:Nat} (h:sc.names.lookup x=some .cell):∃ c,(cellsFrom n sc.names []).lookup x=some c:=by have q:=PySem.W.cellsFrom_some sc.names n [] (.inl h);exact oA.mp q
theorem Ew {CX:Ö}{P:Zh}{w:Zi}{K:Zf}{mg:Zk}{base:Heap}{N ps:Ze}{qual:Str}{scope:Scope}{f:Addr}{cd:Value}{A:Around}{outer:List Env}{s s1:Zg}{H:Hp}{E:XK}{us:Zc}{vs:List V}
  (S:aI N ps scope) (hd:A.handled=none) (e0:Aq P w K mg base A outer s H) (hl:⇑vs=⇑ps) (r:Vals vs us)
  (x:InCallC s s.heap.objs.size (bindL (envOfC qual scope s.heap.objs.size f cd).kindOf (ps.zip us) fun _=>none) (cellsFrom (s.heap.objs.size+1) scope.names []) (bindC (envOfC qual scope s.heap.objs.size f cd).kindOf (ps.zip us) fun _=>none) s1) :
  Inv (vV CX P w K mg base N qual scope f cd A outer s H E) [] (start N vs) H s1:=by
 have hpl:⇑ps<=⇑N:=by have:=cc List.length S.pre;rw[bK] at this;left
 obtain⟨h1,tk,rfl,hk⟩:=x.done;have noA:∀ b:Addr,b∉(vV CX P w K mg base N qual scope f cd A outer s H E).ex:=fun b z=>absurd (show b∈([]:List Addr) from z) (by simp);refine⟨⟨e0.mod,S.kind,rfl,rfl,av _,fun y z c h1 h2=>?_,fun y hy=>?_,fun y c _ h=>?_,fun _=>hd,Around.frames_deeper e0.frames,.inr ⟨rfl,rfl⟩,fun b z=>absurd z (noA b),e0.bs,e0.bsz,fun b _ _=>noA b,fun b z=>absurd z (noA b),e0.si,e0.frf⟩,
  rfl,e0.bare,Un.kept hk,⟨_,x.toInCall.ns,fun i y v h1 h2 h3=>?_⟩,fun y c h=>⟨_,x.cell y c h⟩,e0.hok.fresh (av _),fun y c h=>?_,fun p hp=>absurd (show p∈([]:Zp) from hp) (by simp),e0.hok.kept hk,?_⟩
 ·exact name_of_addr x.apart (oB h1) (oB h2)
 ·have hy:scope.names.lookup y=some .cell∨scope.names.lookup y=some .free:=hy;rcases hy with hy | hy
  ·exact yG hy
  ·exact absurd rfl (S.nofree _ (oB hy))
 ·exact aM (x.above y c (oB h))
 ·have hi:i<⇑vs:=by
   unfold start at h2
   by_cases hi:i<⇑vs
   ·exact hi
   ·rw[ir (by simpa using hi)] at h2;rw[List.getElem?_replicate] at h2;split at h2<;>cases h2
  have ha:vs[i]?=some v:=by
   unfold start at h2;rw[iU (by simpa using hi),aS] at h2;cases e:vs[i]? with
   | none=>rw[e] at h2;cases h2
   | some a=>rw[e] at h2;cases h2;rfl
  obtain⟨u,hu,rv⟩:=r.get ha;have hp:ps[i]?=some y:=by rw[←S.pre,List.getElem?_take_of_lt ⋯];exact h1
  have ndP:ps.Nodup:=by rw[←S.pre];exact S.nd.sublist (List.take_sublist _ _)
  refine⟨u,rv,?_⟩;rcases S.par y (bL hp) with k | k
  ·exact .inl ⟨k,wA ndP hp hu k⟩
  ·obtain⟨c,e⟩:=yG (n:=s.heap.objs.size+1) k;refine .inr ⟨.inl k,c,e,?_⟩;have q:=x.cell y c e;rw[wy ndP hp hu (by show scope.names.lookup y≠_;rw[k];decide)] at q;exact q
 ·exact e0.hok.fresh (aM (x.above y c (oB h)))
 ·unfold start;show _=⇑N;rw[aF,af,jV];left
theorem Kz {CX:Ö}{P:Zh}{w:Zi}{K:Zf}{mg:Zk}{base:Heap}{k:Nat}{f:Addr}{name qual:Str}{params:Arguments}{body:List Stmt}{scope:Scope}{dV kV doc pm cdv ct oc:Value}{an od:Option Addr}
  {osl:Array (Option Value)}{N ps:Ze}{sp:Sp} (lk:K.lookup f=some ⟨oc,od,.func (PySem.W.fnOf name qual params body scope dV kV doc pm an cdv ct),osl⟩) (hcd:PySem.W.codeIn K cdv qual=true) (S:aI N ps scope)
  (len:∀ vs H Q E,sp vs H Q E->⇑vs=⇑ps)
  (hbody:∀ (A:Around) (outer:List Env) (s:Zg) (H:Hp) (vs:List V) (Q:VK) (E:XK),fe k (A.deeper (envOfC qual scope s.heap.objs.size f cdv))->sp vs H Q E →
   ∃ t,á (vV CX P w K mg base N qual scope f cdv A outer s H E) body t/\t { nx:=fun _ H'=>Q .non H',rt:=Q } (start N vs) H) :
  bR P w K mg base CX (k+1) f (PySem.W.fnOf name qual params body scope dV kV doc pm an cdv ct) ps sp:=by
 refine⟨len,fun A outer s H args us vs Q E hr e0 hb r hsp=>?_⟩;have hl:=len _ _ _ _ hsp;have KX:K.In s.heap:=e0.mod.kin.keeps fun b o e=>(e0.bs b o e).1;have lim:s.heap.NoLimit:=e0.mod.nolimit.keeps fun b o e=>(e0.bs b o e).1;have hkind:∀ y∈ps.zip us,scope.names.lookup y.1=some .local∨(scope.names.lookup y.1=some .cell/\((cellsFrom (s.heap.objs.size+1) scope.names []).lookup y.1).isSome=true):=fun ⟨n,v⟩ hy=>by
  rcases S.par n (oy hy).1 with q | q
  ·exact .inl q
  ·exact .inr ⟨q,PySem.W.cellsFrom_some _ _ _ (.inl q)⟩
 refine codeAny_call_function hr.depth (KX _ _ lk) rfl S.co S.gen rfl (PySem.W.codeRec_of KX hcd) (hb _ _ _ _ ?_);refine wpAny_newFunctionEnv_cells S.kind hkind fun env he s1 x=>?_;subst he;refine⟨lim.keeps x.toInCall.keep,codeAny_func ?_⟩;obtain⟨t,ht,hq⟩:=hbody A outer s H vs Q E (hr.deeper _) hsp;have I:Inv (vV CX P w K mg base N qual scope f cdv A outer s H E) [] (start N vs) H s1:=Ew S hr.hd e0 hl r x;refine bO (ht [] s1 (start N vs) H _ I hq) (fun fl s' hs=>?_) fun e s' hs=>hs;have fin:∀ {σ':St}{H':Hp}{v:V}{u:Value},Inv (vV CX P w K mg base N qual scope f cdv A outer s H E) [] σ' H' s'->RelV v u->Q v H'->CE outer P w H s Q u s' :=
  fun {σ' H' v u} J rv q=>⟨v,H',J.os,J.bare,J.base,J.hok,rv,q⟩
 cases fl with
 | ret u =>obtain⟨v,σ',H',J,rv,q⟩:=hs;exact fin J rv q
 | next =>obtain⟨σ',H',J,q⟩:=hs;exact fin (v:=V.non) (u:=Value.none) J rfl q
 | brk =>obtain⟨_,_,_,q⟩:=hs;exact False.elim q
 | cont =>obtain⟨_,_,_,q⟩:=hs;exact False.elim q
end
section
section
variable {X:Cx}{x:Str}{p pos:Pos}{e:Expr}{es:List Expr}{t:TA}{id T:String}{r:List V->Hp->VK->Prop}
noncomputable def ø (r:List V->Hp->VK->Prop) (t:TA):TE:=fun σ H Q=>t σ H fun vs H1=>r vs H1 Q
theorem GV (hc:da X (.builtin id) r) (hg:Gl X x) (hm:X.mg x=none) (hv:bootBuiltins x=some (.builtin id)) (ha:PA X (e::es) t) (hn:x≠"__name__":=by decide) (hdb:(x==("__debug__":Str))=false:=by decide)
  (he:starEach (e::es) X.env=(false,eval e X.env)::starEach es X.env:=by rfl) (hpl:(backTo pos (starEach es X.env)).any (·.1)=false:=by rfl):PE X (.Call (.Name x p) (e::es) [] pos) (ø r t):=by
 intro Yp s σ H Q I h;refine lW (su I hg hm hv ?_ hn hdb);exact PyProof.Rows.callWith_builtin1 (Â (ha pos Yp s σ H _ I h) fun us s1 ⟨vs,H1,I1,r1,q1⟩=>hc Yp s1 σ H1 vs us Q I1 r1 q1) he hpl
theorem EE (hc:da X (.type T) r) (hg:Gl X x) (hm:X.mg x=none) (hv:bootBuiltins x=some (.type T)) (ha:PA X (e::es) t) (hn:x≠"__name__":=by decide) (hdb:(x==("__debug__":Str))=false:=by decide)
  (he:starEach (e::es) X.env=(false,eval e X.env)::starEach es X.env:=by rfl) (hpl:(backTo pos (starEach es X.env)).any (·.1)=false:=by rfl):PE X (.Call (.Name x p) (e::es) [] pos) (ø r t):=by
 intro Yp s σ H Q I h;refine lW (su I hg hm hv ?_ hn hdb);exact rR (Â (ha pos Yp s σ H _ I h) fun us s1 ⟨vs,H1,I1,r1,q1⟩=>hc Yp s1 σ H1 vs us Q I1 r1 q1) he hpl
end
end
end L2
namespace HT
open PySem PyProof.Rows
theorem FD (A:Around) (s:Zg) (a:Int) (t:Tok) (c:Int) (u:Tok):∃ e,SeqAt.EqAt A s (.int a t) (.int c u) e/\(e=true↔a=c) :=
 ⟨(a==c),SeqAt.EqAt.int_int a t c u,by simp⟩
section
open PySem.SeqAt
open PySem.AutoSeq1 (wpAny_loadPart')
open PySem.MeetsSeq PySem.MeetsSeq2 PySem.MeetsSeq3
end
section
variable {prog:Zh}{w:Zi}{A:Around}{E:Zq}{s:Zg}
noncomputable def Ó (n d:Nat):Option Int->Nat
 | none=>d
 | some v=>if v<0 then (v+(n:Int)).toNat else min v.toNat n
theorem qW (n d:Nat):Ó n d none=d:=rfl
theorem uB (n d k:Nat):Ó n d (some (k:Int))=min k n:=by show (if (k:Int)<0 then ((k:Int)+(n:Int)).toNat else min (k:Int).toNat n)=min k n;rw[ag ⋯,c8]
theorem HJ (n d:Nat) (hd:d<=n) (o:Option Int):Ó n d o<=n:=by
 cases o with
 | none=>exact hd
 | some v =>
  show (if v<0 then (v+(n:Int)).toNat else min v.toNat n)<=n
  by_cases hv:v<0
  ·rw[ai hv];left
  ·rw[ag hv];exact oz _ _
end
end HT
namespace L2
open PySem PySem.Spec PyProof.Rows
variable {H:Hp}{H':Hp}{P:Zh}{Q:Zq}{X:Cx}{a:Addr}{h':Heap}{i:Int}{j:Nat}{kvs:List (List Key×V)}{o:Option V}{Yp:Zp}{s:Zg}{t':Nat}{u:Value}{us:Zc}{w:Zi}{x:V}{xs:List (List Key×Addr×Value)}{y:V}{α:Type}{σ:St}
section
noncomputable abbrev TO:=St->Hp->(Option Int->Hp->Prop)->Prop
noncomputable def PO (X:Cx) (e:Option Expr) (t:TO):Prop :=
 ∀ (Yp:Zp) (s:Zg) (σ:St) (H:Hp) (Q:Option Int->Hp->Prop),Inv X Yp σ H s->t σ H Q →
  wpAny (model X.prog X.w) X.A (evalPart e X.env) (fun u s'=>∃ o H',Inv X Yp σ H' s'/\IsPart u o/\Q o H') X.xe s
noncomputable def Dj:TO:=fun _ H Q=>Q none H
noncomputable def KW (t:TE):TO:=fun σ H Q=>t σ H fun x H1=>∃ i,x=.int i/\Q (some i) H1
theorem intsAre_of {ns:Zb}:∀ {us:Zc},Vals (ns.map V.int) us->IntsAre us ns:=by
 induction ns with
 | nil=>intro us r;rw[ix] at r;cases r;exact .nil
 | cons n ns ih =>
  intro us r;rw[bg] at r;cases r with
  | cons r1 r2 =>obtain⟨t,e⟩:=r1;subst e;exact .cons n t (ih r2)
section
variable {X:Cx}{e:Expr}{te:TE}{lo hi:Option Expr}{tl th:TO}{pos p2:Pos}
theorem eF:PO X none Dj:=by intro Yp s σ H Q I h;rw[evalPart_none];exact aq ⟨none,H,I,.none,h⟩
theorem dh (h:PE X e te):PO X (some e) (KW te):=by intro Yp s σ H Q I hw;rw[evalPart_some];refine Â (h Yp s σ H _ I hw) fun u s1 ⟨x,H1,I1,r1,q1⟩=>?_;obtain⟨i,rfl,q⟩:=q1;obtain⟨t,rfl⟩:=r1;exact⟨some i,H1,I1,.int i t,q⟩
noncomputable def ă (X:Cx) (r:V->Option Int->Option Int->Hp->VK->Prop):Prop :=
 ∀ (Yp:Zp) (s:Zg) (σ:St) (H:Hp) (x:V) (v vl vu:Value) (lo hi:Option Int) (sl:Addr) (Q:VK),Inv X Yp σ H s->RelV x v->s.heap.IsSliceOf sl vl vu .none->IsPart vl lo->IsPart vu hi->r x lo hi H Q →
  ∃ T id,typeLookup (.type T) "__getitem__"=pure (some (.builtin id))/\s.TypeIs v T/\wpAny (model X.prog X.w) X.A (getItem v (.ref sl)) (EP X Yp σ Q) X.xe s
noncomputable def tSl (r:V->Option Int->Option Int->Hp->VK->Prop) (te:TE) (tl th:TO):TE:=fun σ H Q=>te σ H fun x H1=>tl σ H1 fun l H2=>th σ H2 fun u H3=>r x l u H3 Q
theorem cS {r:V->Option Int->Option Int->Hp->VK->Prop} (hr:ă X r) (he:PE X e te) (hl:PO X lo tl) (hu:PO X hi th):PE X (.Subscript e (.Slice lo hi none p2) pos) (tSl r te tl th):=by intro Yp s σ H Q I h;refine Subscript_ (Â (he Yp s σ H _ I h) fun v s1 ⟨x,H1,I1,r1,q1⟩=>?_);refine wpAny_Slice (Â (hl Yp s1 σ H1 _ I1 q1) fun vl s2 ⟨l,H2,I2,pl,q2⟩=>Â (hu Yp s2 σ H2 _ I2 q2) fun vu s3 ⟨u,H3,I3,pu,q3⟩=>?_);rw[evalPart_none];refine aq ?_;have I4:Inv X Yp σ H3 { s3 with heap:=s3.heap.push { cls:=.type "slice",data:=.fields #[vl,vu,.none] } }:=I3.kept (t':=s3.toks) fun b ob q=>aE _ q;obtain⟨T,id,hT,ht,hg⟩:=hr Yp { s3 with heap:=s3.heap.push { cls:=.type "slice",data:=.fields #[vl,vu,.none] } } σ H3 x v vl vu l u s3.heap.objs.size Q I4 r1 (Heap.IsSliceOf.new ..) pl pu q3;show wpAny (model X.prog X.w) X.A (subscriptTail e (.Slice lo hi none p2) v (.ref s3.heap.objs.size)) (EP X Yp σ Q) X.xe { s3 with heap:=s3.heap.push { cls:=.type "slice",data:=.fields #[vl,vu,.none] } };exact tail_any (ops:=[.ref s3.heap.objs.size,v]) ht hT hg (by with_unfolding_all rfl)
noncomputable def oX (xs:List V) (lo hi:Option Int):List V:=(xs.drop (HT.Ó ⇑xs 0 lo)).take (HT.Ó ⇑xs ⇑xs hi-HT.Ó ⇑xs 0 lo)
theorem yJ (xs:List V) (lo hi:Option Int):⇑(oX xs lo hi)<=⇑xs:=by unfold oX;rw[bK,cq];left
end
end
section
noncomputable def ð (n:Nat) (i:Int):Option Nat:=if 0<=i then (if i<n then some i.toNat else none) else if -(n:Int)<=i then some (i+n).toNat else none
noncomputable def Þ {α:Type} (xs:List α) (i:Int):Option α:=(ð ⇑xs i).bind fun j=>xs[j]?
theorem CB {n:Nat} (h:ð n i=some j):seqIndex? i n=some j/\j<n/\-(n:Int)<=i/\i<n:=by
 unfold ð at h
 by_cases h0:0<=i
 ·rw[ai h0] at h
  by_cases h1:i<n
  ·rw[ai h1] at h;have e:i.toNat=j:=Option.some.inj h;exact⟨by rw[seqIndex_of h0 h1,e],⋯,⋯,h1⟩
  ·rw[ag h1] at h;cases h
 ·rw[ag h0] at h
  by_cases h1:-(n:Int)<=i
  ·rw[ai h1] at h;have e:(i+n).toNat=j:=Option.some.inj h;exact⟨by rw[seqIndex_neg ⋯ h1,e],⋯,h1,⋯⟩
  ·rw[ag h1] at h;cases h
theorem xu {xs:List α}{v:α} (h:Þ xs i=some v):∃ j,seqIndex? i ⇑xs=some j/\xs[j]?=some v/\j<⇑xs/\-(⇑xs:Int)<=i/\i<⇑xs:=by
 unfold Þ at h;cases e:ð ⇑xs i with
 | none=>rw[e] at h;cases h
 | some j =>rw[e] at h;obtain⟨h1,h2,h3,h4⟩:=CB e;exact⟨j,h1,h,h2,h3,h4⟩
theorem df {xs:List α}{v:α} (h:xs[j]?=some v):Þ xs (j:Int)=some v:=by
 have hj:j<⇑xs:=(br.mp h).1;have e:ð ⇑xs (j:Int)=some j:=by unfold ð;rw[ai ⋯,ai ⋯];simp
 unfold Þ;rw[e];exact h
noncomputable def Ip (b:Expr):Prop:=∀ o i,subscripted b false o i=operate [o,i] (getItem o i)
noncomputable def ý (X:Cx) (r:R2):Prop :=
 ∀ (value slice:Expr) (Yp:Zp) (s:Zg) (σ:St) (H:Hp) (x y:V) (v u:Value) (Q:VK),Inv X Yp σ H s->RelV x v->RelV y u->r x y H Q →
  subscripted slice false v u=operate [v,u] (getItem v u)->wpAny (model X.prog X.w) X.A (subscriptTail value slice v u) (EP X Yp σ Q) X.xe s
noncomputable def ď (X:Cx) (id:String) (r:V->List V->Hp->VK->Prop):Prop :=
 ∀ (Yp:Zp) (s:Zg) (σ:St) (H:Hp) (x:V) (xs:List V) (v:Value) (us:Zc) (Q:VK),Inv X Yp σ H s->RelV x v->Vals xs us->r x xs H Q →
  wpAny (model X.prog X.w) X.A (call (.builtin id) (v::us)) (EP X Yp σ Q) X.xe s
section
variable {X:Cx}{a b:Expr}{ta tb:TE}{pos:Pos}
theorem cL {r:R2} (hr:ý X r) (ha:PE X a ta) (hb:PE X b tb) (hs:Ip b):PE X (.Subscript a b pos) (õ r ta tb):=by intro Yp s σ H Q I h;exact Subscript_ (Lx ha hb I h fun v u s2 x y H2 I2 rx ry q=>hr a b Yp s2 σ H2 x y v u Q I2 rx ry q (hs _ _))
noncomputable def Ow (K:Zf):R2:=fun x y H Q=>∃ p xs i v,x=.ref p/\y=.int i/\Æ K H p xs/\Þ xs i=some v/\Q v H
noncomputable def Oy (K:Zf):R2:=fun x y H Q=>∃ p xs i v,x=.ref p/\y=.int i/\Û K H p xs/\Þ xs i=some v/\Q v H
noncomputable def Ox:R2:=fun x y H Q=>∃ z i c,x=.str z/\y=.int i/\⇑z<=sizeLine/\Þ z.cps.toList i=some c/\Q (.str ⟨#[c]⟩) H
theorem Ju:ý X (Ow X.K):=by
 intro value slice Yp s σ H x y v u Q I rx ry h hs;obtain⟨p,xs,i,z,rfl,rfl,hq,he,q⟩:=h;cases rx;obtain⟨t,rfl⟩:=ry;obtain⟨its,r,pl,hz⟩:=I.list hq;obtain⟨j,h1,h2,h3,h4,h5⟩:=xu he;obtain⟨w,ew,rw'⟩:=r.get h2;have hl:=⇑r;have hn:=sv;have fin:EP X Yp σ Q w s:=⟨z,H,I,rw',q⟩
 by_cases h0:0<=i
 ·have hj:i.toNat=j:=by
   rw[seqIndex_of h0 h5] at h1;exact Option.some.inj h1
  exact item_listR pl.isList h0 ⋯ (by rw[hj];simpa using ew) fin hs
 ·have hj:(i+(its.toArray.size:Int)).toNat=j:=by
   rw[seqIndex_neg ⋯ h4] at h1;rw[bA,←hl];exact Option.some.inj h1
  exact subscriptTail_builtinR (x:=w) pl.isList.typeIs slot_list_getitem.lookup
   (wpAny_getItem_list_neg (Q:=fun r s'=>r=w/\EP X Yp σ Q r s') pl.isList ⋯ (by rw[bA]<;>left) ⋯ (by rw[hj];simpa using ew) ⟨rfl,fin⟩) hs
theorem LN:ý X (Oy X.K):=by
 intro value slice Yp s σ H x y v u Q I rx ry h hs;obtain⟨p,xs,i,z,rfl,rfl,hq,he,q⟩:=h;cases rx;obtain⟨t,rfl⟩:=ry;obtain⟨its,r,pl,hz⟩:=I.tuple hq;obtain⟨j,h1,h2,h3,h4,h5⟩:=xu he;obtain⟨w,ew,rw'⟩:=r.get h2;have hl:=⇑r;have hn:=sv;have fin:EP X Yp σ Q w s:=⟨z,H,I,rw',q⟩;exact subscriptTail_builtinR (x:=w) pl.typeIs slot_tuple_getitem.lookup
  (getItem_tuple (j:=j) (Q:=fun r s'=>r=w/\EP X Yp σ Q r s') pl ⋯ ⋯ (by rw[bA,←hl];exact h1) (by simpa using ew) ⟨rfl,fin⟩) hs
theorem LM:ý X Ox:=by
 intro value slice Yp s σ H x y v u Q I rx ry h hs;obtain⟨z,i,c,rfl,rfl,hz,he,q⟩:=h;obtain⟨t,rfl⟩:=rx;obtain⟨t',rfl⟩:=ry;obtain⟨j,h1,h2,h3,h4,h5⟩:=xu he;have hl:⇑z.cps.toList=⇑z:=by simp [Str.length]
 rw[hl] at h1 h4 h5;have hn:=sv;exact tail_any (typeIs_str s z t) slot_str_getitem.lookup (getItem_str (c:=c) (by have e1:decide (i < -(2^63:Int))=false:=ay ⋯;have e2:decide (i≥2^63)=false:=ay ⋯;rw[e1,e2,Bool.or_false]) (by rw[h1];simpa using h2) ⟨.str ⟨#[c]⟩,H,I.tok _,⟨_,rfl⟩,q⟩) hs
theorem Bm (its:Zc) (n j:Nat) (u:Value):Obj.mapSeq (·.setIfInBounds j u) { cls:=.type "list",data:=.seq its.toArray n }={ cls:=.type "list",data:=.seq (its.set j u).toArray n }:=by simp [Obj.mapSeq]
theorem Inv.lst {Yp:Zp}{σ:St}{H:Hp}{s:Zg}{p:Addr}{xs:List V} (I:Inv X Yp σ H s) (h:H p=some (.lst xs)) :
  ∃ (its:Zc) (n:Nat),Vals xs its/\s.heap.get? p=some { cls:=.type "list",data:=.seq its.toArray n }/\⇑xs<=sizeLine:=by
 obtain⟨z,its,n,r,e⟩:=I.hok p _ h;exact⟨its,n,r,e,z⟩
theorem Inv.LW {p:Addr}{xs ys:List V}{its its':Zc}{n n':Nat}{f:Obj->Obj} (I:Inv X Yp σ H s) (h:H p=some (.lst xs))
  (ho:s.heap.get? p=some { cls:=.type "list",data:=.seq its.toArray n }) (hf:f { cls:=.type "list",data:=.seq its.toArray n }={ cls:=.type "list",data:=.seq its'.toArray n' }) (r:Vals ys its') (hz:⇑ys<=sizeLine) (t:Nat) :
  Inv X Yp σ (upd H p (.lst ys)) { s with heap:=s.heap.update p f,toks:=t }:=by
 have e:(s.heap.update p f).get? p=some { cls:=.type "list",data:=.seq its'.toArray n' }:=by rw[fV f ho (by rw[hf]<;>rfl),hf]
 refine I.write (x:=p) (e:=p) (by rw[h];trivial) (.inl rfl) (fun b u hb q=>(dy _ _ (b7 hb)).trans q) ⟨_,e⟩ ?_;exact⟨hz,its',n',r,e⟩
noncomputable def NA:V->V->V->Hp->(Hp->Prop)->Prop:=fun o i v H Q=>∃ p xs k j,o=.ref p/\i=.int k/\H p=some (.lst xs)/\ð ⇑xs k=some j/\Q (upd H p (.lst (xs.set j v)))
theorem set_list:Le X NA:=by
 intro Yp s σ H o i v ov iv u Q I ro ri rv h;obtain⟨p,xs,k,j,rfl,rfl,hp,hj,q⟩:=h;cases ro;obtain⟨t,rfl⟩:=ri;obtain⟨its,n,r,ho,hz⟩:=I.lst hp;obtain⟨h1,h2,h3,h4⟩:=CB hj;have hl:=⇑r;have hn:=sv;have I':Inv X Yp σ (upd H p (.lst (xs.set j v))) { s with heap:=s.heap.update p (Obj.mapSeq (·.setIfInBounds j u)) } :=
  I.LW hp ho (Bm its n j u) (r.set rv j) (by rw[dN];exact hz) s.toks
 by_cases h0:0<=k
 ·have hk:k.toNat=j:=by
   rw[seqIndex_of h0 h4] at h1;exact Option.some.inj h1
  exact PySem.W.ki_setAt ho h0 ⋯ (by rw[bA,←hl];exact h4) (by rw[hk];exact⟨_,I',q⟩)
 ·have hk:(k+(its.toArray.size:Int)).toNat=j:=by
   rw[seqIndex_neg ⋯ h3] at h1;rw[bA,←hl];exact Option.some.inj h1
  exact PySem.W.ki_setBack ho ⋯ (by rw[bA,←hl];exact h3) ⋯ (by rw[hk];exact⟨_,I',q⟩)
theorem yx (lo hi:Option Int) (n:Nat):(sliceBounds lo hi none n).1=((HT.Ó n 0 lo:Nat):Int)/\(sliceBounds lo hi none n).2.1=((HT.Ó n n hi:Nat):Int)/\(sliceBounds lo hi none n).2.2=1:=by
 refine⟨?_,?_,rfl⟩
 ·cases lo with
  | none=>simp [sliceBounds,HT.Ó]
  | some i =>
   simp only[sliceBounds,HT.Ó,Option.getD_none,show (1:Int)>0 by decide,i3]
   by_cases h:i<0
   ·simp only[h,i3]<;>left
   ·simp only[h,gh]<;>left
 ·cases hi with
  | none=>simp [sliceBounds,HT.Ó]
  | some i =>
   simp only[sliceBounds,HT.Ó,Option.getD_none,show (1:Int)>0 by decide,i3]
   by_cases h:i<0
   ·simp only[h,i3]<;>left
   ·simp only[h,gh]<;>left
theorem wc (its:Zc) (lo hi:Option Int):slicePick its.toArray lo hi none=((its.drop (HT.Ó ⇑its 0 lo)).take (HT.Ó ⇑its ⇑its hi-HT.Ó ⇑its 0 lo)).toArray:=by obtain⟨h1,h2,h3⟩:=yx lo hi its.toArray.size;unfold slicePick;rw[h1,h2,h3];simp only[sliceRange_one,pick_run,bA]<;>rfl
noncomputable def O1 (K:Zf):V->Option Int->Option Int->Hp->VK->Prop:=fun x lo hi H Q=>∃ a xs,x=.ref a/\Æ K H a xs/\∀ p,H p=none->Q (.ref p) (upd H p (.lst (oX xs lo hi)))
theorem Ki:ă X (O1 X.K):=by intro Yp s σ H x v vl vu lo hi sl Q I rx hs pl pu h;obtain⟨a,xs,rfl,hx,q⟩:=h;cases rx;obtain⟨its,r,ht,hz⟩:=I.list hx;have hlen:=⇑r;refine⟨"list",_,slot_list_getitem.lookup,ht.isList.typeIs,?_⟩;refine wpAny_getItem_list_slice ht.isList hs pl pu .none (by simp) ?_ (by rw[bA]<;>left);rw[wc,←hlen];refine⟨.ref s.heap.objs.size,_,I.laid (t':=s.toks) (o:=.lst (oX xs lo hi)) (fun b ob q=>aE _ q) (av _) ?_,rfl,q _ (I.hok.fresh (av _))⟩;exact⟨aX (yJ xs lo hi) hz,_,0,(r.drop (HT.Ó ⇑xs 0 lo)).take (HT.Ó ⇑xs ⇑xs hi-HT.Ó ⇑xs 0 lo),bz _ rfl⟩
noncomputable def eK:V->Bool
 | .non=>true
 | .bl _=>true
 | .int _=>true
 | .str _=>true
 | _=>false
noncomputable def â:V->V->Bool
 | .non,.non=>true
 | .bl a,.bl b=>a==b
 | .bl a,.int b=>(if a then 1 else 0)==b
 | .int a,.bl b=>a==(if b then 1 else 0)
 | .int a,.int b=>a==b
 | .str a,.str b=>a==b
 | _,_=>false
theorem FC {A:Around}{y x:V}{u v:Value} (ry:RelV y u) (rx:RelV x v) (fy:eK y=true) (fx:eK x=true):SeqAt.EqAt A s u v (â y x):=by
 cases y with
 | non =>
  cases ry
  cases x with
  | non=>cases rx;exact SeqAt.EqAt.same _
  | bl b=>cases rx;exact SeqAt.EqAt.none_bool b
  | int b=>obtain⟨t,rfl⟩:=rx;exact SeqAt.EqAt.none_int b t
  | str b=>obtain⟨t,rfl⟩:=rx;exact SeqAt.EqAt.none_str b t
  | _=>exact absurd (show false=true from fx) cu
 | bl a =>
  cases ry
  cases x with
  | non=>cases rx;exact SeqAt.EqAt.bool_none a
  | bl b=>cases rx;exact SeqAt.EqAt.bool_bool a b
  | int b=>obtain⟨t,rfl⟩:=rx;exact SeqAt.EqAt.bool_int a b t
  | str b=>obtain⟨t,rfl⟩:=rx;exact SeqAt.EqAt.bool_str a b t
  | _=>exact absurd (show false=true from fx) cu
 | int a =>
  obtain⟨t',rfl⟩:=ry;cases x with
  | non=>cases rx;exact SeqAt.EqAt.int_none a t'
  | bl b=>cases rx;exact SeqAt.EqAt.int_bool a t' b
  | int b=>obtain⟨t,rfl⟩:=rx;exact SeqAt.EqAt.int_int a t' b t
  | str b=>obtain⟨t,rfl⟩:=rx;exact SeqAt.EqAt.int_str a t' b t
  | _=>exact absurd (show false=true from fx) cu
 | str a =>
  obtain⟨t',rfl⟩:=ry;cases x with
  | non=>cases rx;exact SeqAt.EqAt.str_none a t'
  | bl b=>cases rx;exact SeqAt.EqAt.str_bool a t' b
  | int b=>obtain⟨t,rfl⟩:=rx;exact SeqAt.EqAt.str_int a t' b t
  | str b=>obtain⟨t,rfl⟩:=rx;exact SeqAt.EqAt.str_str a t' b t
  | _=>exact absurd (show false=true from fx) cu
 | _=>exact absurd (show false=true from fy) cu
noncomputable def î (x:V) (u:Value):Bool:=match u with
 | .none=>â .non x
 | .bool b=>â (.bl b) x
 | .int i _=>â (.int i) x
 | .str z _=>â (.str z) x
 | _=>false
theorem FE {x y:V} (r:RelV y u) (f:eK y=true):î x u=â y x:=by
 cases y with
 | non=>cases r;rfl
 | bl b=>cases r;rfl
 | int i=>obtain⟨t,rfl⟩:=r;rfl
 | str z=>obtain⟨t,rfl⟩:=r;rfl
 | _=>exact absurd (show false=true from f) cu
theorem xt {x:V}:∀ {xs:List V}{us:Zc},Vals xs us->xs.all eK=true->us.any (î x)=xs.any fun y=>â y x
 | _,_,.nil,_=>rfl
 | y::xs,u::us,.cons r t,f=>by rw[iT,bT] at f;rw[nW,nW,FE r f.1,xt t f.2]
theorem uZ {A:Around}{s:Zg}{x:V}{v:Value} (rx:RelV x v) (fx:eK x=true):∀ {xs:List V}{us:Zc},Vals xs us->xs.all eK=true->∀ u∈us,SeqAt.EqAt A s u v (î x u)
 | _,_,.nil,_=>fun u hu=>by cases hu
 | y::xs,u::us,.cons r t,f=>fun u' hu=>by
  rw[iT,bT] at f;rcases aU.mp hu with rfl | hu
  ·rw[FE r f.1];exact FC r rx f.1 fx
  ·exact uZ rx fx t f.2 u' hu
noncomputable def ÿ (x:V) (xs:List V):Bool:=xs.any fun y=>â y x
noncomputable def rIn (K:Zf) (neg:Bool):R2:=fun x y H Q=>∃ p xs,y=.ref p/\(Æ K H p xs∨Û K H p xs)/\eK x=true/\xs.all eK=true/\Q (.bl (if neg then !ÿ x xs else ÿ x xs)) H
theorem EC:Ë X (compareOp .In) (rIn X.K false):=by
 intro Yp s σ H x y v u Q I rx ry h;obtain⟨p,xs,rfl,hq,fx,fs,q⟩:=h;cases ry;rcases hq with hq | hq
 ·obtain⟨its,r,pl,hz⟩:=I.list hq;refine SeqAt.in_listAt (î x) pl.isList (fun w hw=>uZ rx fx r fs w (by simpa using hw)) ⟨.bl _,H,I,rfl,?_⟩;rw[show its.toArray.any (î x)=its.any (î x) by simp,xt r fs];exact q
 ·obtain⟨its,r,pl,hz⟩:=I.tuple hq;refine SeqAt.in_tupleAt (î x) pl (fun w hw=>uZ rx fx r fs w (by simpa using hw)) ⟨.bl _,H,I,rfl,?_⟩;rw[show its.toArray.any (î x)=its.any (î x) by simp,xt r fs];exact q
theorem xx:da X (.builtin "len") (fun xs H Q=>∃ p ys,xs=[.ref p]/\(Æ X.K H p ys∨Û X.K H p ys)/\Q (.int ⇑ys) H):=by
 intro Yp s σ H xs us Q I r h;obtain⟨p,ys,rfl,hq,q⟩:=h;obtain⟨u,rfl,rx⟩:=vals1 r;cases rx;have hn:=sv;rcases hq with hq | hq
 ·obtain⟨its,r',pl,hz⟩:=I.list hq;have hlen:=⇑r';exact Calls.call_len_list pl.isList (by simp only[bA]<;>left) ⟨.int ⇑ys,H,I.tok _,⟨s.toks+1,by rw[bA,hlen]⟩,q⟩
 ·obtain⟨its,r',pl,hz⟩:=I.tuple hq;have hlen:=⇑r';exact len_tuple pl (by simp only[bA]<;>left) ⟨.int ⇑ys,H,I.tok _,⟨s.toks+1,by rw[bA,hlen]⟩,q⟩
theorem xy:da X (.builtin "len") (fun xs H Q=>∃ z,xs=[.str z]/\⇑z<=sizeLine/\Q (.int ⇑z) H):=by intro Yp s σ H xs us Q I r h;obtain⟨z,rfl,hz,q⟩:=h;obtain⟨u,rfl,t,rfl⟩:=vals1 r;have hn:=sv;exact len_str ⋯ ⟨.int ⇑z,H,I.tok _,⟨_,rfl⟩,q⟩
theorem xB:da X (.type "list") (fun xs H Q=>∃ p ys,xs=[.ref p]/\(Æ X.K H p ys∨Û X.K H p ys)/\∀ l,H l=none->Q (.ref l) (upd H l (.lst ys))):=by
 intro Yp s σ H xs us Q I r h;obtain⟨p,ys,rfl,hq,q⟩:=h;obtain⟨u,rfl,rx⟩:=vals1 r;cases rx;have fin:∀ (its:Zc),Vals ys its->⇑ys<=sizeLine->∀ (h':Heap) (c':Nat),(∀ b o',s.heap.get? b=some o'->h'.get? b=some o') →
   h'.get? s.heap.objs.size=some { cls:=.type "list",dict:=none,data:=.seq its.toArray c',slots:=#[] }->EP X Yp σ Q (.ref s.heap.objs.size) { s with heap:=h' }:=fun its r' hz h' c' kp e =>
  ⟨.ref s.heap.objs.size,_,I.laid (t':=s.toks) kp (av _) (show cj X.prog X.w _ h' _ (.lst ys) from ⟨hz,its,c',r',e⟩),rfl,q _ (I.hok.fresh (av _))⟩
 rcases hq with hq | hq
 ·obtain⟨its,r',pl,hz⟩:=I.list hq;have hlen:=⇑r';obtain⟨o,ho,hc,n,hd⟩:=pl.isList;exact call_list_seq p (.inl rfl) ho hc hd (fun h' c' kp e=>fin its r' hz h' c' kp e) (by simp only[bA]<;>left)
 ·obtain⟨its,r',pl,hz⟩:=I.tuple hq;have hlen:=⇑r';obtain⟨o,ho,hc,n,hd⟩:=pl;exact call_list_seq p (.inr rfl) ho hc hd (fun h' c' kp e=>fin its r' hz h' c' kp e) (by simp only[bA]<;>left)
noncomputable def Ė (K:Zf) (T:String) (x:V) (H:Hp):Prop:=match x with
 | .str _=>T="str"
 | .int _=>T="int"
 | .ref p=>(T="list"/\∃ xs,Æ K H p xs)∨(T="tuple"/\∃ o,K.lookup p=some o/\o.cls=.type "tuple"/\o.dict=none) ∨
   (T="dict"/\((∃ kvs,H p=some (.dK kvs))∨∃ kvs,H p=some (.dT kvs)))∨(T="set"/\∃ S n,H p=some (.set S n))
 | _=>False
theorem MG {T:String}{v:Value} (I:Inv X Yp σ H s) (r:RelV x v) (ty:Ė X.K T x H) :
  s.TypeIs v T/\∀ a,v=.ref a->∃ ob,s.heap.get? a=some ob/\ob.dict=none:=by
 cases x with
 | str z =>obtain⟨t,rfl⟩:=r;cases (show T="str" from ty);exact⟨typeIs_str s z t,fun _ e=>nomatch e⟩
 | int i =>obtain⟨t,rfl⟩:=r;cases (show T="int" from ty);exact⟨typeIs_int s i t,fun _ e=>nomatch e⟩
 | ref p =>
  cases r
  rcases ty with ⟨rfl,xs,hq⟩ | ⟨rfl,o,hk,hc,hd⟩ | ⟨rfl,hk⟩ | ⟨rfl,S,n,hk⟩
  ·obtain⟨its,_,pl,_⟩:=I.list hq;refine⟨pl.isList.typeIs,fun a e=>?_⟩;cases e;obtain⟨o,n,e,c,hd,_⟩:=pl;exact⟨o,e,hd⟩
  ·refine⟨⟨o,I.Ñ p o hk,hc⟩,fun a e=>?_⟩;cases e;exact⟨o,I.Ñ _ o hk,hd⟩
  ·have z:∃ o,s.heap.get? p=some o/\o.ExactDict:=by
    rcases hk with ⟨kvs,hk⟩ | ⟨kvs,hk⟩
    ·obtain⟨_,_,_,_,o,_,_,e,ex,_⟩:=I.hok p _ hk;exact⟨o,e,ex⟩
    ·obtain⟨_,_,_,_,o,_,_,e,ex,_⟩:=I.hok p _ hk;exact⟨o,e,ex⟩
   obtain⟨o,e,ex⟩:=z;refine⟨⟨o,e,ex.1⟩,fun a e2=>?_⟩;cases e2;exact⟨o,e,ex.2.1⟩
  ·obtain⟨o,_,_,_,e,ex,_⟩:=I.hok p _ hk;refine⟨⟨o,e,ex.1⟩,fun a e2=>?_⟩;cases e2;exact⟨o,e,ex.2.1⟩
 | _=>exact False.elim ty
noncomputable def Č (K:Zf) (T:String) (r:V->List V->Hp->VK->Prop) (to:TE) (t:TA):TE:=fun σ H Q=>to σ H fun x H1=>Ė K T x H1/\t σ H1 fun xs H2=>r x xs H2 Q
variable {o e:Expr}{es:List Expr}{to:TE}{t:TA}{name:Str}{apos cpos:Pos}{T id:String}{r:V->List V->Hp->VK->Prop}
theorem Ny (pa:PlainAttrs T) (slot:Slot T name id) (hty:typeOf (.builtin id)=pure (.type "method_descriptor")) (hm:ď X id r) (ho:PE X o to) (ha:PA X (e::es) t)
  (hbase:attributeBase o name X.env (eval o X.env)=eval o X.env:=by rfl)
  (hfew:((backTo cpos (starEach (e::es) X.env)).all (fun x=>!x.1)&&(backToKw cpos (keywordEach [] X.env)).all (fun x=>x.1.isSome)
   && decide (⇑(e::es)+⇑([]:List Keyword)+(if ([]:List Keyword).isEmpty then 0 else 1)<30))=true:=by rfl)
  (hline:(apos.endLine==cpos.line)=true:=by rfl) (hs:starEach (e::es) X.env=(false,eval e X.env)::starEach es X.env:=by rfl) (hplain:(backTo cpos (starEach es X.env)).any (·.1)=false:=by rfl) :
  PE X (.Call (.Attribute o name apos) (e::es) [] cpos) (Č X.K T r to t):=by
 intro Yp s σ H Q I h;refine wpAny_Call_method_late hbase hfew hline rfl (Â (ho Yp s σ H _ I h) fun v s1 ⟨x,H1,I1,r1,ty,q1⟩=>?_);obtain⟨h1,h2⟩:=MG I1 r1 ty;refine⟨T,id,pa,slot,hty,h1,h2,?_⟩;have hA:=ha cpos Yp s1 σ H1 _ I1 q1;rw[hs] at hA ⊢;refine Calls.callWith_builtin (by show (false||(backTo cpos (starEach es X.env)).any (·.1))=false;rw[hplain]<;>rfl) (Calls.evalArgs_plain ?_);exact Â hA fun us s2 ⟨vs,H2,I2,r2,q2⟩=>hm Yp s2 σ H2 x vs v us Q I2 r1 r2 q2
end
end
section
noncomputable def ë (X:Cx) (id:String) (r:V->List V->Hp->VK->Prop):Prop :=
 ∀ (Yp:Zp) (s:Zg) (σ:St) (H:Hp) (x:V) (xs:List V) (v:Value) (us:Zc) (Q:VK),Inv X Yp σ H s->RelV x v->Vals xs us->r x xs H Q →
  wpAny (model X.prog X.w) X.A (call (.builtin id) (v::us)) (EP X Yp σ Q) X.xe s
theorem Vals.one (h:Vals [x] us):∃ u,us=[u]/\RelV x u:=by cases h with | cons r q=>cases q;exact⟨_,rfl,r⟩
theorem Vals.two {x y:V} (h:Vals [x,y] us):∃ u v,us=[u,v]/\RelV x u/\RelV y v:=by cases h with | cons r q=>obtain⟨_,rfl,p⟩:=Vals.one q;exact⟨_,_,rfl,r,p⟩
theorem Vals.eraseIdx:∀ {xs:List V}{us:Zc} (i:Nat),Vals xs us->Vals (xs.eraseIdx i) (us.eraseIdx i)
 | _,_,_,.nil=>.nil
 | _,_,0,.cons _ t=>t
 | _,_,i+1,.cons r t=>.cons r (Vals.eraseIdx i t)
theorem Vals.reverse {xs:List V}{us:Zc} (h:Vals xs us):Vals xs.reverse us.reverse:=by
 induction h with
 | nil=>exact .nil
 | cons r t ih=>rw[List.reverse_cons,List.reverse_cons];exact Vals.append ih (.cons r .nil)
theorem Vals.rep {xs:List V}{us:Zc} (h:Vals xs us):∀ k:Nat,Vals (List.replicate k xs).flatten (List.replicate k us).flatten
 | 0=>.nil
 | k+1=>by rw[gz,gz,lN,lN];exact Vals.append h (Vals.rep h k)
theorem wU {α:Type}:∀ (l:List α) (i:Nat),⇑(l.eraseIdx i)<=⇑l
 | [],_=>av _
 | _::_,0=>fZ _
 | _::r,i+1=>Nat.succ_le_succ (wU r i)
theorem foldl_rep (its:Zc):∀ (k:Nat) (acc:Zc),
  List.foldl (fun x1 x2=>x1++x2) acc.toArray (List.replicate k its.toArray)=(acc++(List.replicate k its).flatten).toArray
 | 0,acc=>by simp
 | k+1,acc=>by
  have e:acc.toArray++its.toArray=(acc++its).toArray:=by simp
  have e2:(acc++its)++(List.replicate k its).flatten=acc++(List.replicate (k+1) its).flatten:=by rw[gz,lN,bJ]
  rw[←e2,←foldl_rep its k (acc++its),←e,gz,og]
section
variable {X:Cx}{Yp:Zp}{σ:St}{H:Hp}{s:Zg}{l b:Addr}{xs ys zs:List V}
theorem Inv.J3 {its its':Zc}{n:Nat}{f:Array Value->Array Value}{t':Nat} (I:Inv X Yp σ H s) (hH:H l=some (.lst xs))
  (e:s.heap.get? l=some { cls:=.type "list",data:=.seq its.toArray n }) (hf:f its.toArray=its'.toArray) (hv:Vals ys its') (hz:⇑ys<=sizeLine) :
  Inv X Yp σ (upd H l (.lst ys)) { s with heap:=s.heap.update l (Obj.mapSeq f),toks:=t' }:=by
 have q:=PySem.IsL.update e f;rw[hf] at q;refine I.write (x:=l) (e:=l) (by rw[hH];exact trivial) (.inl rfl) (fun b' u hb hu=>(dy s.heap (Obj.mapSeq f) (b7 hb)).trans hu) ⟨_,q⟩ ?_;exact⟨hz,its',_,hv,q⟩
theorem Inv.Np {its:Zc}{t':Nat} (I:Inv X Yp σ H s) (hv:Vals ys its) (hz:⇑ys<=sizeLine) :
  Inv X Yp σ (upd H s.heap.objs.size (.lst ys)) { s with heap:=s.heap.push { cls:=.type "list",data:=.seq its.toArray },toks:=t' } :=
 I.laid (fun _ _ q=>aE _ q) (av _) ⟨hz,its,0,hv,bz _ rfl⟩
theorem Inv.fresh (I:Inv X Yp σ H s):H s.heap.objs.size=none:=I.hok.fresh (av _)
theorem Inv.zo (I:Inv X Yp σ H s) (hH:H l=some (.lst xs)):⇑xs<=sizeLine/\∃ (its:Zc) (n:Nat),Vals xs its/\⇑xs=⇑its/\s.heap.get? l=some { cls:=.type "list",data:=.seq its.toArray n }:=by obtain⟨z,its,n,r,e⟩:=I.hok l _ hH;exact⟨z,its,n,r,⇑r,e⟩
theorem zu {n:Nat} (h:n<=sizeLine):Builtin.List.listTooLong n=false:=by unfold Builtin.List.listTooLong;exact ay ⋯
end
section
variable {X:Cx}
noncomputable def JS:V->List V->Hp->VK->Prop:=fun x vs H Q=>∃ l xs y,x=.ref l/\vs=[y]/\H l=some (.lst xs)/\⇑xs<sizeLine/\Q .non (upd H l (.lst (xs++[y])))
theorem gR:ë X "list.append" JS:=by intro Yp s σ H x vs v us Q I rx rv h;obtain⟨l,xs,y,rfl,rfl,hH,hz,q⟩:=h;cases rx;obtain⟨u,rfl,ru⟩:=rv.one;obtain⟨z,its,n,r,hl,e⟩:=I.zo hH;refine gD F.slot_list_append ⟨_,e,rfl⟩ F.entry_list_append (F.args_list_append_2 _ _) (PySem.list_append l its.toArray n u (by rw[bA];left)) ⟨e,?_⟩;refine⟨.non,_,I.J3 (its':=its++[u]) hH e (by simp) (r.append (.cons ru .nil)) ?_,rfl,q⟩;rw[aF,dz];left
noncomputable def JT:V->List V->Hp->VK->Prop:=fun x vs H Q=>∃ l b xs zs,x=.ref l/\vs=[.ref b]/\H l=some (.lst xs)/\H b=some (.lst zs)/\⇑xs+⇑zs<=sizeLine/\Q .non (upd H l (.lst (xs++zs)))
theorem E7:ë X "list.extend" JT:=by
 intro Yp s σ H x vs v us Q I rx rv h;obtain⟨l,b,xs,zs,rfl,rfl,hH,hB,hz,q⟩:=h;cases rx;obtain⟨u,rfl,ru⟩:=rv.one;cases ru;obtain⟨z,its,n,r,hl,e⟩:=I.zo hH;obtain⟨z2,its2,n2,r2,hl2,e2⟩:=I.zo hB;have hsz:its.toArray.size+its2.toArray.size<=sizeLine:=by rw[bA,bA];left
 have hlong:¬ (!its.toArray.isEmpty&&Builtin.List.listTooLong (its.toArray.size+its2.toArray.size))=true:=by rw[zu hsz,Bool.and_false];exact cu
 refine gD F.slot_list_extend ⟨_,e,rfl⟩ F.entry_list_extend (F.args_list_extend_2 _ _)
  (AutoSeq1.list_extend_list_list_0 l its.toArray n b its2.toArray n2 hlong (by rw[bA];left) ⋯) ⟨e,e2,?_⟩
 refine⟨.non,_,I.J3 (its':=its++its2) hH e (by simp) (r.append r2) ?_,rfl,q⟩;rw[aF];left
noncomputable def M5:V->List V->Hp->VK->Prop:=fun x vs H Q=>∃ l xs i k y,x=.ref l/\vs=[.int i]/\H l=some (.lst xs)/\-(2^63)<=i/\i<2^63/\seqIndex? i ⇑xs=some k/\xs[k]?=some y/\Q y (upd H l (.lst (xs.eraseIdx k)))
theorem GG:ë X "list.pop" M5:=by
 intro Yp s σ H x vs v us Q I rx rv h;obtain⟨l,xs,i,k,y,rfl,rfl,hH,h1,h2,hk,hy,q⟩:=h;cases rx;obtain⟨u,rfl,ru⟩:=rv.one;obtain⟨t,rfl⟩:=ru;obtain⟨z,its,n,r,hl,e⟩:=I.zo hH;obtain⟨w,hw,rw'⟩:=r.get hy;refine gD F.slot_list_pop ⟨_,e,rfl⟩ F.entry_list_pop (F.args_list_pop_2 _ _)
  (MeetsSeq.list_pop_at l its.toArray n i t k w (fitsIndex_both h1 h2) (by rw[bA,←hl];exact hk) (by rw[←eI];exact hw) (by rw[bA];left)) ⟨e,?_⟩
 refine⟨y,_,I.J3 (its':=its.eraseIdx k) hH e ?_ (r.eraseIdx k) ?_,rw',q⟩
 ·show its.toArray.eraseIdxIfInBounds k=(its.eraseIdx k).toArray;rw[List.eraseIdxIfInBounds_toArray]
 ·have:=wU xs k;left
noncomputable def Oq:R2:=fun x y H Q=>∃ l b xs zs,x=.ref l/\y=.ref b/\H l=some (.lst xs)/\H b=some (.lst zs)/\⇑xs+⇑zs<=sizeLine/\∀ p,H p=none->Q (.ref p) (upd H p (.lst (xs++zs)))
theorem Me:Ë X (binaryOp .Add) Oq:=by
 intro Yp s σ H x y v u Q I rx ry h;obtain⟨l,b,xs,zs,rfl,rfl,hH,hB,hz,q⟩:=h;cases rx;cases ry;obtain⟨z,its,n,r,hl,e⟩:=I.zo hH;obtain⟨z2,its2,n2,r2,hl2,e2⟩:=I.zo hB;refine PySem.P.add_list e e2 ?_ (by rw[bA,bA];left);have ea:its.toArray++its2.toArray=(its++its2).toArray:=by simp
 rw[ea];exact⟨.ref _,_,I.Np (t':=s.toks) (r.append r2) (by rw[aF];left),rfl,q _ I.fresh⟩
noncomputable def O0:R2:=fun x y H Q=>∃ l k xs,x=.ref l/\y=.int k/\H l=some (.lst xs)/\-(2^63)<=k/\k<2^63/\⇑xs*k.toNat<=sizeLine ∧
 ∀ p,H p=none->Q (.ref p) (upd H p (.lst (List.replicate k.toNat xs).flatten))
theorem len_rep (xs:List α) (k:Nat):(List.replicate k xs).flatten.length=k*⇑xs:=by
 induction k with
 | zero=>simp
 | succ k ih=>rw[gz,lN,aF,ih,Nat.succ_mul,Nat.add_comm]
theorem Mo:Ë X (binaryOp .Mult) O0:=by
 intro Yp s σ H x y v u Q I rx ry h;obtain⟨l,k,xs,rfl,rfl,hH,h1,h2,hz,q⟩:=h;cases rx;obtain⟨t,rfl⟩:=ry;obtain⟨z,its,n,r,hl,e⟩:=I.zo hH;have hlen:its.toArray.size*k.toNat<=sizeLine:=by rw[bA,←hl];exact hz
 have hcap:¬ its.toArray.size*k.toNat>(2^63-1)/8:=by
  have:(sizeLine:Nat)<=(2^63-1)/8:=by decide
  left
 have hfit:¬ (!Builtin.List.listFitsIndex k)=true:=by rw[fitsIndex_both h1 h2];exact cu
 have hlong:¬ Builtin.List.listTooLong (its.toArray.size*k.toNat)=true:=by rw[zu hlen];exact cu
 have hnew:List.foldl (fun x1 x2=>x1++x2) #[] (List.replicate (if its.toArray.isEmpty=true then 0 else k.toNat) its.toArray)=(List.replicate k.toNat its).flatten.toArray:=by
  have f0:∀ m:Nat,List.foldl (fun x1 x2=>x1++x2) #[] (List.replicate m its.toArray)=(List.replicate m its).flatten.toArray:=fun m=>by have:=foldl_rep its m [];rw[List.nil_append] at this;exact this
  rw[f0];cases its with
  | nil=>simp
  | cons a r'=>rw[ag (by simp)]
 refine wpAny_binaryOp_repeat_ref (T:="list") (U:="int") Zd ⟨_,e,rfl⟩ (fun s'=>typeIs_int s' k t) noFill_list_mul F.fills_int_mul F.slot_int_rmul repeat_list F.slot_int_index.lookup
  (gD F.slot_int_rmul (typeIs_int s k t) F.entry_int_rmul (F.args_int_rmul_2 _ _) (int___rmul___int_list k t l its.toArray n)
   ⟨e,rfl,⟨_,e,rfl⟩,gD F.slot_list_mul ⟨_,e,rfl⟩ F.entry_list_mul (F.args_list_mul_2 _ _) (AutoListH.list___mul___list_int_3 l its.toArray n k t hfit hcap hlong) ⟨e,?_⟩⟩)
 rw[hnew];exact⟨.ref _,_,I.Np (t':=s.toks) (r.rep k.toNat) (by rw[len_rep,Nat.mul_comm];exact hz),rfl,q _ I.fresh⟩
end
section
variable {prog:Zh}{w:Zi}{A:Around}{E:Zq}{s:Zg}
end
section
variable {X:Cx}
end
end
section
section
variable {κ:Type} [DecidableEq κ]
noncomputable def fF (kvs:List (κ×V)) (k:κ):Option V:=(kvs.find? fun kv=>decide (kv.1=k)).map (·.2)
noncomputable def putK (kvs:List (κ×V)) (k:κ) (v:V):List (κ×V) :=
 if (kvs.any fun kv=>decide (kv.1=k))=true then kvs.map (fun kv=>if kv.1=k then (kv.1,v) else kv) else kvs++[(k,v)]
theorem fU {p:κ×V}{r:List (κ×V)}{k:κ} (e:p.1=k):fF (p::r) k=some p.2:=by simp [fF,fX,e]
theorem fT {p:κ×V}{r:List (κ×V)}{k:κ} (e:¬ p.1=k):fF (p::r) k=fF r k:=by simp [fF,fX,e]
theorem nS (k:κ):∀ kvs:List (κ×V),(kvs.any fun kv=>decide (kv.1=k))=(fF kvs k).isSome
 | []=>rfl
 | p::r=>by
  rw[nW]
  by_cases e:p.1=k
  ·simp only[fU e,a8 e,Bool.true_or,Option.isSome_some]
  ·rw[fT e,ay e,Bool.false_or];exact nS k r
theorem Am (k j:κ) (y:V):∀ kvs:List (κ×V),fF (kvs.map fun kv=>if kv.1=k then (kv.1,y) else kv) j=(fF kvs j).map fun x=>if j=k then y else x
 | []=>rfl
 | p::r=>by
  have ih:=Am k j y r;rw[bg]
  by_cases h:p.1=k
  ·rw[ai h]
   by_cases e:p.1=j
   ·rw[fU (p:=(p.1,y)) e,fU e,Option.map_some,ai (e.symm.trans h)]
   ·rw[fT (p:=(p.1,y)) e,fT e,ih]
  ·rw[ag h]
   by_cases e:p.1=j
   ·rw[fU (p:=p) e,fU e,Option.map_some,ag (fun z=>h (e.trans z))]
   ·rw[fT (p:=p) e,fT e,ih]
theorem xn (k j:κ) (y:V):∀ kvs:List (κ×V),fF kvs k=none->fF (kvs++[(k,y)]) j=if j=k then some y else fF kvs j
 | [],_=>by
  by_cases e:k=j
  ·rw[ai e.symm];exact fU (p:=(k,y)) e
  ·rw[ag (fun z=>e z.symm)];exact fT (p:=(k,y)) e
 | p::r,hn=>by
  rw[List.cons_append];have hk:¬ p.1=k:=fun z=>by rw[fU z] at hn;cases hn
  rw[fT hk] at hn;have ih:=xn k j y r hn
  by_cases e:p.1=j
  ·rw[fU e,fU e,ag (fun z=>hk (e.trans z))]
  ·rw[fT e,fT e,ih]
theorem Ig (kvs:List (κ×V)) (k j:κ) (y:V):fF (putK kvs k y) j=if j=k then some y else fF kvs j:=by
 unfold putK
 by_cases a:(kvs.any fun kv=>decide (kv.1=k))=true
 ·rw[ai a,Am];rw[nS] at a
  by_cases e:j=k
  ·obtain⟨x,hx⟩:=oA.mp a;rw[ai e,e,hx,Option.map_some,ai rfl]
  ·rw[ag e];cases fF kvs j with
   | none=>rfl
   | some x=>rw[Option.map_some,ag e]
 ·rw[ag a];refine xn k j y kvs ?_;rw[nS] at a;cases q:fF kvs k with
  | none=>rfl
  | some x=>rw[q] at a;exact (a rfl).elim
theorem kx (kvs:List (κ×V)) (k:κ) (v:V):⇑(putK kvs k v)<=⇑kvs+1:=by
 unfold putK;split
 ·rw[af];left
 ·rw[aF,bf,oj];left
theorem kJ.so {u:Option Value} (r:kJ o u):o.isSome=u.isSome:=by
 cases o with
 | none=>cases u with
  | none=>rfl
  | some _=>exact (show False from r).elim
 | some _=>cases u with
  | none=>exact (show False from r).elim
  | some _=>rfl
theorem kJ.getD {o:Option V}{u:Option Value}{d:V}{d':Value} (r:kJ o u) (rd:RelV d d'):RelV (o.getD d) (u.getD d'):=by
 cases o with
 | none=>cases u with
  | none=>exact rd
  | some _=>exact (show False from r).elim
 | some _=>cases u with
  | none=>exact (show False from r).elim
  | some _=>exact r
theorem KV.val {kvs:List (κ×V)}{vs:List (κ×Value)} (r:KV kvs vs) (k:κ):kJ (fF kvs k) (valueAt vs k):=by
 unfold KV at r
 induction r with
 | nil=>exact True.intro
 | @cons p q ps qs h t ih =>
  obtain⟨h1,h2⟩:=h
  by_cases e:p.1=k
  ·have e':q.1=k:=h1.symm.trans e;have b:valueAt (q::qs) k=some q.2:=by simp [valueAt,fX,e']
   rw[fU e,b];exact h2
  ·have e':¬ q.1=k:=fun z=>e (h1.trans z);have b:valueAt (q::qs) k=valueAt qs k:=by simp [valueAt,fX,e']
   rw[fT e,b];exact ih
theorem KV.any {kvs:List (κ×V)}{vs:List (κ×Value)} (r:KV kvs vs) (k:κ):(kvs.any fun kv=>decide (kv.1=k))=vs.any fun kv=>decide (kv.1=k):=by
 unfold KV at r
 induction r with
 | nil=>rfl
 | cons h t ih=>rw[nW,nW,ih,h.1]
theorem KV.M7 {kvs:List (κ×V)}{vs:List (κ×Value)} (r:KV kvs vs) (k:κ)  (ry:RelV y u) :
  KV (kvs.map fun kv=>if kv.1=k then (kv.1,y) else kv) (vs.map fun kv=>if kv.1=k then (kv.1,u) else kv):=by
 unfold KV at r ⊢
 induction r with
 | nil=>exact .nil
 | @cons p q ps qs h t ih =>
  rw[bg,bg];refine .cons ?_ ih;obtain⟨h1,h2⟩:=h
  by_cases e:p.1=k
  ·rw[ai e,ai (h1.symm.trans e)];exact⟨h1,ry⟩
  ·rw[ag e,ag (fun z=>e (h1.trans z))];exact⟨h1,h2⟩
theorem KV.put {kvs:List (κ×V)}{vs:List (κ×Value)} (r:KV kvs vs) (k:κ)  (ry:RelV y u):KV (putK kvs k y) (stored vs k u):=by
 unfold putK stored;rw[r.any k]
 by_cases e:(vs.any fun kv=>decide (kv.1=k))=true
 ·rw[ai e,ai e];exact r.M7 k ry
 ·rw[ag e,ag e];exact Paired.snoc r ⟨rfl,ry⟩
theorem KV.length {kvs:List (κ×V)}{vs:List (κ×Value)} (r:KV kvs vs):⇑kvs=⇑vs:=Paired.length r
end
theorem zf {k:Key} (r:RelV (kV k) u):(bj P w).is k u=true:=by
 cases k with
 | inl i=>obtain⟨t,e⟩:=(show ∃ t,u=Value.int i t from r);subst e;exact zr P w i t
 | inr x=>obtain⟨t,e⟩:=(show ∃ t,u=Value.str x t from r);subst e;exact zt P w x t
theorem wQ {P:Zh}{w:Zi}:∀ {ks:List Key}{us:Zc},Vals (ks.map kV) us->ItemsAre (bj P w) ks us
 | [],_,r=>by rw[ix] at r;cases r;exact .nil
 | k::ks,_,r=>by
  rw[bg] at r;cases r with
  | cons h t=>exact .cons (zf h) (wQ t)
noncomputable abbrev KT (H:Hp):List (List Key×V)->List (List Key×Addr×Value)->Prop:=Paired fun p q=>p.1=q.1/\H q.2.1=some (.tup (p.1.map kV))/\RelV p.2 q.2.2
theorem KT.val (r:KT H kvs xs) (k:List Key):kJ (fF kvs k) ((atKey xs k).map (·.2)):=by
 induction r with
 | nil=>exact True.intro
 | @cons p q ps qs h t ih =>
  obtain⟨h1,_,h2⟩:=h
  by_cases e:p.1=k
  ·have e':q.1=k:=h1.symm.trans e;have b:atKey (q::qs) k=some q.2:=by simp [atKey,fX,e']
   rw[fU e,b];exact h2
  ·have e':¬ q.1=k:=fun z=>e (h1.trans z);have b:atKey (q::qs) k=atKey qs k:=by simp [atKey,fX,e']
   rw[fT e,b];exact ih
theorem KT.M7 (r:KT H kvs xs) (k:List Key)  (ry:RelV y u) :
  KT H (kvs.map fun kv=>if kv.1=k then (kv.1,y) else kv) (xs.map (putAt k u)):=by
 induction r with
 | nil=>exact .nil
 | @cons p q ps qs h t ih =>
  rw[bg,bg];refine .cons ?_ ih;obtain⟨h1,h2,h3⟩:=h;unfold putAt
  by_cases e:p.1=k
  ·rw[ai e,ai (h1.symm.trans e)];exact⟨h1,h2,ry⟩
  ·rw[ag e,ag (fun z=>e (h1.trans z))];exact⟨h1,h2,h3⟩
theorem KT.put (r:KT H kvs xs) (k:List Key) {b:Addr} (hb:H b=some (.tup (k.map kV))) (ry:RelV y u) :
  KT H (putK kvs k y) (storedH xs k b u):=by
 have e:(kvs.any fun kv=>decide (kv.1=k))=(atKey xs k).isSome:=by rw[nS,(r.val k).so,Option.isSome_map]
 unfold putK storedH;rw[e]
 by_cases q:(atKey xs k).isSome=true
 ·rw[ai q,ai q];exact r.M7 k ry
 ·rw[ag q,ag q];exact Paired.snoc r ⟨rfl,hb,ry⟩
theorem KT.keeps {H H':Hp} (r:KT H kvs xs) (ht:∀ b ys,H b=some (.tup ys)->H' b=some (.tup ys)):KT H' kvs xs :=
 Paired.LX r fun _ _ z=>⟨z.1,ht _ _ z.2.1,z.2.2⟩
section
variable {P:Zh}{w:Zi}{H:Hp}{h:Heap}{a:Addr}
theorem KI {u:HO} (ok:Ð P w H h) (e:Rd H a u):cj P w H h a u:=e.ok ok
theorem tj {kvs:List (Key×V)} (ok:Ð P w H h) (e:Rd H a (.dK kvs)):⇑kvs<=sizeLine/\(a==sysModules)=false/\∃ vs,KV kvs vs/\h.DictOf (bj P w) a vs :=
 show cj P w H h a (.dK kvs) from KI ok e
theorem Nd {kvs:List (Key×V)} (ok:Ð P w H h) (e:H a=some (.dK kvs)):⇑kvs<=sizeLine/\(a==sysModules)=false/\∃ vs,KV kvs vs/\h.DictOf (bj P w) a vs:=tj ok (.inl e)
theorem sq {ks:List Key} (ok:Ð P w H h) (e:H a=some (.tup (ks.map kV))):(tupleKind (bj P w)).is h ks a:=by obtain⟨_,its,r,o,h1,h2,n,h3⟩:=(show cj P w H h a (.tup (ks.map kV)) from ok a _ e);exact⟨o,its.toArray,n,h1,h2,h3,by simpa using wQ r⟩
theorem wJ (ok:Ð P w H h) (e:Rd H a (.dT kvs)):⇑kvs<=sizeLine/\(a==sysModules)=false ∧
  ∃ xs,KT H kvs xs/\h.DictOfH (tupleKind (bj P w)) a xs:=by
 obtain⟨z,y,xs,r,o,es,ep,h1,h2,h3,h4,h5⟩:=(show cj P w H h a (.dT kvs) from KI ok e);refine⟨z,y,xs,r,o,es,ep,h1,h2,h3,h4,fun x hx=>?_,h5⟩;have all:∀ {l:List (List Key×V)}{m:List (List Key×Addr×Value)},KT H l m->∀ x∈m,(tupleKind (bj P w)).is h x.1 x.2.1:=by
  intro l m q
  induction q with
  | nil=>intro x hx;exact nomatch hx
  | @cons p q ps qs hq t ih =>
   intro x hx;rcases aU.mp hx with e | hx
   ·subst e;exact sq ok (by rw[←hq.1];exact hq.2.1)
   ·exact ih x hx
 exact all r x hx
theorem Kx (ok:Ð P w H h) (e:H a=some (.dT kvs)):⇑kvs<=sizeLine/\(a==sysModules)=false ∧
  ∃ xs,KT H kvs xs/\h.DictOfH (tupleKind (bj P w)) a xs:=wJ ok (.inl e)
end
noncomputable def tW (H:Hp) (a:Addr) (y:V) (r:Option V):Prop :=
 (∃ kvs k,Rd H a (.dK kvs)/\y=kV k/\r=fF kvs k)∨∃ kvs k b,Rd H a (.dT kvs)/\y=.ref b/\H b=some (.tup (k.map kV))/\r=fF kvs k
noncomputable def La (H:Hp) (a:Addr) (y v:V) (H':Hp):Prop :=
 (∃ kvs k,H a=some (.dK kvs)/\y=kV k/\⇑kvs<sizeLine/\H'=upd H a (.dK (putK kvs k v))) ∨
 ∃ kvs k b,H a=some (.dT kvs)/\y=.ref b/\H b=some (.tup (k.map kV))/\⇑kvs<sizeLine/\H'=upd H a (.dT (putK kvs k v))
theorem tW.t {a b:Addr}{k:List Key} (e:H a=some (.dT kvs)) (eb:H b=some (.tup (k.map kV))):tW H a (.ref b) (fF kvs k):=.inr ⟨kvs,k,b,.inl e,rfl,eb,rfl⟩
section
variable {X:Cx}{Yp:Zp}{σ:St}{H:Hp}{s:Zg}{a:Addr}{y v:V}{u r:Value}{o:Option V}{A:Around}{E:Zq}
theorem Inv.big (I:Inv X Yp σ H s):sysModules<s.heap.objs.size:=by have h:mainGlobals<s.heap.objs.size:=(I.mod.glob.keeps I.bk).lt;exact Nat.lt_trans Zd h
theorem DP (hu:A.units+1<cLine) (I:Inv X Yp σ H s) (g:tW H a y (some v)) (ry:RelV y u) (h:∀ w' s',Inv X Yp σ H s'->RelV v w'->Q w' s') :
  wpAny (model X.prog X.w) A (getItem (.ref a) u) Q E s:=by
 rcases g with ⟨kvs,k,e,ey,l⟩ | ⟨kvs,k,b,e,ey,eb,l⟩
 ·subst ey;obtain⟨z,hd,vs,rel,dd⟩:=tj I.hok e;obtain⟨w',hw,rw'⟩:=kJ.some_of (v:=v) (o:=valueAt vs k) (by rw[l];exact rel.val k);exact wpAny_getItem_of (zf ry) dd.mapOf hw (h w' _ (I.tok _) rw')
 ·subst ey;cases (show u=Value.ref b from ry);obtain⟨z,hd,xs,rel,dd⟩:=wJ I.hok e;obtain⟨w',hw,rw'⟩:=kJ.some_of (v:=v) (o:=(atKey xs k).map (·.2)) (by rw[l];exact rel.val k);obtain⟨p,hp,hp2⟩:=eh.mp hw;refine wpAny_getItem_heap (oF hu) (sq I.hok eb) dd hp ?_;rw[hp2];exact h w' _ (I.tok _) rw'
theorem Oh (hu:A.units+1<cLine) (I:Inv X Yp σ H s) (g:tW H a y o) (ry:RelV y u) (h:∀ s',Inv X Yp σ H s'->Q (.bool o.isSome) s') :
  wpAny (model X.prog X.w) A (compareOp .In u (.ref a)) Q E s:=by
 rcases g with ⟨kvs,k,e,ey,l⟩ | ⟨kvs,k,b,e,ey,eb,l⟩
 ·subst ey;obtain⟨z,hd,vs,rel,dd⟩:=tj I.hok e;refine wpAny_in_of (zf ry) hd dd.mapOf ?_;rw[←(rel.val k).so,←l];exact h _ (I.tok _)
 ·subst ey;cases (show u=Value.ref b from ry);obtain⟨z,hd,xs,rel,dd⟩:=wJ I.hok e;refine wpAny_in_heap (oF hu) (sq I.hok eb) hd dd ?_;have q:=(rel.val k).so;rw[Option.isSome_map] at q;rw[←q,←l];exact h _ (I.tok _)
theorem xC {t':Nat}{ob:HO} (I:Inv X Yp σ H s) (mu:Ă (H a)) (hs:Heap.SameBut a s.heap h') (he:∃ q,h'.get? a=some q) (new:cj X.prog X.w (upd H a ob) h' a ob) :
  Inv X Yp σ (upd H a ob) { s with heap:=h',toks:=t' } :=
 I.write (x:=a) (e:=a) mu (.inl rfl) (fun b q hb z=>(hs.2 b hb).trans z) he new
theorem L9 {H':Hp}{kvs:List (Key×V)}{vs:List (Key×Value)} (z:⇑kvs<=sizeLine) (hd:(a==sysModules)=false) (rel:KV kvs vs) (dd:h'.DictOf (bj P w) a vs) :
  cj P w H' h' a (.dK kvs):=⟨z,hd,vs,rel,dd⟩
theorem DQ {Q:Unit->Zg->Prop} (hu:A.units+1<cLine) (I:Inv X Yp σ H s) (g:La H a y v H') (ry:RelV y u) (rv:RelV v r) (h:∀ s',Inv X Yp σ H' s'->Q () s') :
  wpAny (model X.prog X.w) A (setItem (.ref a) u r) Q E s:=by
 rcases g with ⟨kvs,k,e,ey,l,eH⟩ | ⟨kvs,k,b,e,ey,eb,l,eH⟩
 ·subst ey eH;obtain⟨z,hd,vs,rel,dd⟩:=Nd I.hok e;have hz:⇑vs<=sizeLine:=by rw[←⇑rel];exact z
  have hl:⇑(putK kvs k v)<=sizeLine:=by have:=kx kvs k v;left
  refine wpAny_setItem_pairs (hsz:=hz) (zf ry) dd fun h' dd' hs=>h _ ?_;have he:∃ q,h'.get? a=some q:=let ⟨q,_,_,hq,_⟩:=dd';⟨q,hq⟩;exact xC I (by rw[e];exact True.intro) hs he (L9 hl hd (rel.put k rv) dd')
 ·subst ey eH;cases (show u=Value.ref b from ry);obtain⟨z,hd,xs,rel,dd⟩:=Kx I.hok e;have hz:⇑xs<=sizeLine:=by rw[←Paired.length rel];exact z
  have hl:⇑(putK kvs k v)<=sizeLine:=by have:=kx kvs k v;left
  refine wpAny_setItem_heap (hsz:=hz) (oF hu) (sq I.hok eb) dd fun h' dd' hs=>h _ ?_;obtain⟨q,es,ep,hq,h2,h3,h4,_,h5⟩:=dd';refine xC I (by rw[e];exact True.intro) hs ⟨q,hq⟩ ⟨hl,hd,_,(rel.put k eb rv).keeps fun c ys ec=>?_,q,es,ep,hq,h2,h3,h4,h5⟩;rw[aG (pq ec e (fun z=>nomatch z))];exact ec
end
section
variable {X:Cx}{Yp:Zp}{σ:St}{H:Hp}{s:Zg}{a:Addr}{kvs:List (Key×V)}{k:Key}{u:Value}{A:Around}{E:Zq}
theorem Nc (I:Inv X Yp σ H s) (e:Rd H a (.dK kvs)) (h:∀ t s',Inv X Yp σ H s'->Q (.int ⇑kvs t) s'):wpAny (model X.prog X.w) A (call (.builtin "len") [.ref a]) Q E s:=by obtain⟨z,hd,vs,rel,dd⟩:=tj I.hok e;refine call_len_dict hd dd (by rw[←⇑rel];rw[gi] at z;left) ?_;rw[←⇑rel];exact h _ _ (I.tok _)
end
noncomputable def Ld (i:Expr):Prop:=∀ ov iv,subscripted i false ov iv=operate [ov,iv] (getItem ov iv)
theorem Km {prog:Zh}{w:Zi}{A:Around}{E:Zq}{s:Zg}{env:Env}{value slice:Expr}{pos:Pos}{T id:String}{Q:Zq}
  (hl:typeLookup (.type T) "__getitem__"=pure (some (.builtin id))) (hs:Ld slice)
  (h:wpAny (model prog w) A (eval value env) (fun o s₁=>wpAny (model prog w) A (eval slice env) (fun i s₂=>s₂.TypeIs o T/\wpAny (model prog w) A (getItem o i) Q E s₂) E s₁) E s) :
  wpAny (model prog w) A (eval (.Subscript value slice pos) env) Q E s:=by
 refine Subscript_ (bO h (fun o s₁ h₁=>bO h₁ (fun i s₂ h₂=>?_) fun _ _ x=>x) fun _ _ x=>x);obtain⟨hT,h₂⟩:=h₂;unfold subscriptTail;refine aa ?_;rw[getitemInPython_of_ne hT.not_modules];refine aa (wpAny_specialOf hT hl ?_);have fin:wpAny (model prog w) A (subscripted slice false o i) (fun r s₃=>wpAny (model prog w) A (letTemporaryGo value o r >>= fun _=>pure r) Q E s₃) E s₂:=by rw[hs o i];exact wpAny_operating (bO h₂ (fun r s₃ h₃=>aa (wpAny_letTemporaryGo (aq h₃))) fun _ _ x=>x)
 first
  | exact aq (aa fin)
  | exact aa (aq (aa fin))
  | exact aa fin
theorem yM (I:Inv X Yp σ H s) (g:tW H a y o):s.TypeIs (.ref a) "dict":=by
 rcases g with ⟨kvs,k,e,_,_⟩ | ⟨kvs,k,b,e,_,_,_⟩
 ·obtain⟨_,_,vs,_,dd⟩:=tj I.hok e;exact dd.typeIs
 ·obtain⟨_,_,xs,_,dd⟩:=wJ I.hok e;exact dd.typeIs
noncomputable def HU (td ty:TE):TE:=fun σ H Q=>td σ H fun x H1=>ty σ H1 fun y H2=>∃ a v,x=.ref a/\tW H2 a y (some v)/\Q v H2
noncomputable def HI (td ty tv:TE):TS:=fun D σ H=>tv σ H fun v H1=>td σ H1 fun x H2=>ty σ H2 fun y H3=>∃ a H4,x=.ref a/\La H3 a y v H4/\D.nx σ H4
section
variable {X:Cx}{o i e value:Expr}{pos pos' tpos:Pos}{td ty tv:TE}
theorem JF (hu:X.A.units+1<cLine) (ho:PE X o td) (hi:PE X i ty) (hs:Ld i):PE X (.Subscript o i pos) (HU td ty):=by intro Yp s σ H Q I h;refine Km PySem.F.slot_dict_getitem.lookup hs (Â (ho Yp s σ H _ I h) fun u s1 ⟨x,H1,I1,rx,q1⟩=>Â (hi Yp s1 σ H1 _ I1 q1) fun iv s2 ⟨y,H2,I2,ry,a,v,ex,g,q2⟩=>?_);subst ex;obtain rfl:u=Value.ref a:=rx;exact⟨yM I2 g,DP hu I2 g ry fun w' s3 I3 rw'=>⟨v,H2,I3,rw',q2⟩⟩
theorem JP (hu:X.A.units+1<cLine) (ho:PE X o td) (hi:PE X i ty) (hv:PE X value tv) (hs:swapsWith value (some (.Subscript o i pos')) pos.line X.env=pure false) :
  PS X (.Assign [.Subscript o i pos'] value pos) (HI td ty tv):=by
 intro Yp s σ H D I h;refine wpAny_Assign_Subscript (Â (hv Yp s σ H _ I h) fun r s1 ⟨v,H1,I1,rv,q1⟩=>Â (ho Yp s1 σ H1 _ I1 q1) fun u s2 ⟨x,H2,I2,rx,q2⟩=>Â (hi Yp s2 σ H2 _ I2 q2) fun iv s3 ⟨y,H3,I3,ry,a,H4,ex,g,q3⟩=>?_) hs;subst ex;obtain rfl:u=Value.ref a:=rx;exact DQ hu I3 g ry rv fun s4 I4=>⟨σ,H4,I4,q3⟩
end
theorem F7 (h:Heap) (hb:sysModules<h.objs.size):cj P w H (h.push { cls:=.type "dict",data:=.dict #[] }) h.objs.size (.dK []) :=
 ⟨bc _,kc.mpr (b7 (bh hb)),[],.nil,Heap.DictOf.new h⟩
theorem F8 (h:Heap) (hb:sysModules<h.objs.size):cj P w H (h.push { cls:=.type "dict",data:=.dict #[] }) h.objs.size (.dT []) :=
 ⟨bc _,kc.mpr (b7 (bh hb)),[],.nil,_,#[],0,bz _ rfl,⟨rfl,rfl,rfl⟩,rfl,rfl,List.nodup_nil⟩
noncomputable def MB:TE:=fun _ H Q=>∀ p,H p=none->Q (.ref p) (upd H p (.dK []))
noncomputable def MC:TE:=fun _ H Q=>∀ p,H p=none->Q (.ref p) (upd H p (.dT []))
section
variable {X:Cx}{pos:Pos}
theorem Ha:PE X (.Dict [] [] pos) MB:=fun Yp s σ H Q I h =>wpAny_Dict_empty ⟨.ref s.heap.objs.size,_,I.laid (a:=s.heap.objs.size) (o:=.dK []) (t':=s.toks) (fun _ _ q=>aE _ q) (av _) (F7 s.heap I.big),rfl,h _ (I.hok.fresh (av _))⟩
theorem Hb:PE X (.Dict [] [] pos) MC:=fun Yp s σ H Q I h =>wpAny_Dict_empty ⟨.ref s.heap.objs.size,_,I.laid (a:=s.heap.objs.size) (o:=.dT []) (t':=s.toks) (fun _ _ q=>aE _ q) (av _) (F8 s.heap I.big),rfl,h _ (I.hok.fresh (av _))⟩
end
structure M1 (X:Cx) (o:Expr) (m:Str) (apos:Pos) (e:Expr) (cpos:Pos):Prop where
 base:attributeBase o m X.env (eval o X.env)=eval o X.env
 few:((backTo cpos (starEach [e] X.env)).all (fun x=>!x.1)&&(backToKw cpos (keywordEach [] X.env)).all (fun x=>x.1.isSome)
  && decide (⇑([e]:List Expr)+⇑([]:List Keyword)+(if ([]:List Keyword).isEmpty then 0 else 1)<30))=true
 line:(apos.endLine==cpos.line)=true
 trees:backTo cpos (starEach [e] X.env)=[(false,eval e X.env)]
noncomputable def č (H:Hp) (a:Addr):Prop:=(∃ kvs,Rd H a (.dK kvs))∨∃ kvs,Rd H a (.dT kvs)
theorem LJ (I:Inv X Yp σ H s) (d:č H a) :
  s.TypeIs (.ref a) "dict"/\(∀ b,Value.ref a=.ref b->∃ ob,s.heap.get? b=some ob/\ob.dict=none)/\(a==sysModules)=false:=by
 rcases d with ⟨kvs,e⟩ | ⟨kvs,e⟩
 ·obtain⟨_,hd,vs,_,dd⟩:=tj I.hok e;refine⟨dd.typeIs,fun b q=>?_,hd⟩;cases q;obtain⟨ob,_,_,h1,h2,_⟩:=dd;exact⟨ob,h1,h2.2.1⟩
 ·obtain⟨_,hd,xs,_,dd⟩:=wJ I.hok e;refine⟨dd.typeIs,fun b q=>?_,hd⟩;cases q;obtain⟨ob,_,_,h1,h2,_⟩:=dd;exact⟨ob,h1,h2.2.1⟩
section
variable {X:Cx}{Yp:Zp}{σ:St}{H:Hp}{s:Zg}{a:Addr}{y d:V}{u r:Value}{o:Option V}{A:Around}{E:Zq}
theorem L8 (hu:A.units+1<cLine) (I:Inv X Yp σ H s) (g:tW H a y o) (ry:RelV y u) (h:∀ w' s',Inv X Yp σ H s'->RelV (o.getD .non) w'->Q w' s') :
  wpAny (model X.prog X.w) A (call (.builtin "dict.get") [.ref a,u]) Q E s:=by
 rcases g with ⟨kvs,k,e,ey,l⟩ | ⟨kvs,k,b,e,ey,eb,l⟩
 ·subst ey;obtain⟨z,hd,vs,rel,dd⟩:=tj I.hok e;refine call_meetsIn PySem.F.slot_dict_get dd.typeIs PySem.F.entry_dict_get (PySem.F.args_dict_get_2 _ _) (meets_dict_get (bj X.prog X.w) a (zf ry) hd) ⟨_,dd.mapOf,h _ _ (I.tok _) ?_⟩;rw[l];exact (rel.val k).getD rfl
 ·subst ey;cases (show u=Value.ref b from ry);obtain⟨z,hd,xs,rel,dd⟩:=wJ I.hok e;refine call_meetsIn PySem.F.slot_dict_get dd.typeIs PySem.F.entry_dict_get (PySem.F.args_dict_get_2 _ _) (meetsH_dict_get (tupleKind (bj X.prog X.w)) a b hd) ⟨oF hu,k,xs,sq I.hok eb,dd,h _ _ (I.tok _) ?_⟩;rw[l];exact (rel.val k).getD rfl
end
noncomputable def BW (td ty:TE):TE:=fun σ H Q=>td σ H fun x H1=>∃ a,x=.ref a/\č H1 a/\ty σ H1 fun y H2=>∃ o,tW H2 a y o/\Q (o.getD .non) H2
section
variable {X:Cx}{o e f:Expr}{apos cpos:Pos}{td ty tx:TE}
theorem GY (hu:X.A.units+1<cLine) (ho:PE X o td) (he:PE X e ty) (m:M1 X o "get" apos e cpos):PE X (.Call (.Attribute o "get" apos) [e] [] cpos) (BW td ty):=by intro Yp s σ H Q I h;refine wpAny_Call_method m.base m.few m.line PySem.F.plainAttrs_dict PySem.F.slot_dict_get PySem.F.type_dict_get (Â (ho Yp s σ H _ I h) fun u s1 ⟨x,H1,I1,rx,a,ex,d,q1⟩=>?_);subst ex;obtain rfl:u=Value.ref a:=rx;obtain⟨t1,t2,_⟩:=LJ I1 d;refine⟨t1,t2,?_⟩;rw[m.trees];refine Calls.callWith_builtin rfl (Calls.evalArgs_plain (Calls.spliced_cons (Â (he Yp s1 σ H1 _ I1 q1) fun iv s2 ⟨y,H2,I2,ry,ov,g,q2⟩=>Calls.spliced_nil ?_)));exact L8 hu I2 g ry fun w' s3 I3 rw'=>⟨_,H2,I3,rw',q2⟩
end
section
variable {X:Cx}{Yp:Zp}{σ:St}{H:Hp}{s:Zg}{a:Addr}{kvs:List (Key×V)}{A:Around}{E:Zq}
end
section
variable {X:Cx}{Yp:Zp}{σ:St}{H:Hp}{s:Zg}{a:Addr}{y:V}{u:Value}{A:Around}{E:Zq}
end
end
end L2
namespace Att
open PySem PySem.W PySem.Calls PyProof.Rows
variable {P:Params}{h:Heap}
theorem tY :∀ (ns:Zb) (vs:Zc),WellAll P h vs (ns.map WData.int)->IntsAre vs ns:=by
 intro ns
 induction ns with
 | nil =>intro vs w;rw[ix] at w;cases w;exact .nil
 | cons n ns ih =>
  intro vs w;rw[bg] at w;cases w with
  | cons a b =>
   cases a
   exact .cons _ _ (ih _ b)
theorem EL {l:OpenLaw}{n:Nat} (hn:l.most=some n) {P:Params}{h:Heap}{args:List WData}{vals:Zc}
  (hpre:l.row.toRowW.claim.pre args=true) (hwl:WellAll P h vals args) :
  ∃ a vs ns,vals=[Value.ref a]/\args=[WData.list (ns.map WData.int)]/\h.get? a=some { cls:=.type "list",data:=.seq vs.toArray }/\IntsAre vs ns/\⇑ns<=n:=by
 have hsh:WShape.hasAll [] args [.list .int]=true:=(pre_splitW hpre).1;have hc:l.pre.holds [] { args:=args }=true:=(pre_splitW hpre).2;obtain⟨d,r,rfl,h1,h2⟩:=hasAllW_cons hsh;obtain rfl:=hasAllW_nil h2;obtain⟨xs,rfl,h3⟩:=hasW_list h1;obtain⟨ns,rfl⟩:=items_int h3;have hlen:⇑ns<=n:=by
  unfold OpenLaw.pre at hc;have h4:(WTm.not (.lt (.lit (.int (n:Int))) (.len (.arg 0)))).holds [] { args:=[.list (ns.map .int)] }=true:=by have h4:=(holds_andW hc).1;rw[hn] at h4;exact h4
  have h5:=condW_of h4 (w_not (w_lt w_lit (w_len_list (w_arg rfl))));rw[af] at h5;refine Nat.le_of_not_lt fun q=>?_;have q':(n:Int)<((⇑ns:Nat):Int):=⋯
  first
   | (rw[a8 q'] at h5;exact absurd h5 (by decide))
   | (simp at h5;left)
 cases hwl with
 | cons w1 w2 =>
  cases w2
  cases w1 with
  | list ho hall=>exact⟨_,_,ns,rfl,rfl,ho,tY ns _ hall,hlen⟩
theorem EG (l:OpenLaw) (args:List WData):l.row.toRowW.claim.post args (.bool true) args=true :=
 postW_of (r:=l.row.toRowW) (X:=(true==true))
  (show WShape.has [] (.bool true) .bool=true by first | rfl | decide | simp [WShape.has,WShape.arms,WShape.armsAll])
  (show (WTm.eq .res (.lit (.bool true))).value [] { args:=args,res:=some (.bool true),after:=args }=some (.bool (true==true)) from w_eq_bool (w_res rfl) w_lit) rfl
theorem yF {l:OpenLaw}{n:Nat}{q:Zh}{loose:Ze}{XP:(Zk)->Heap->Prop}{YP:Zi->Heap->Prop}{d:DefRec}
  (hn:l.most=some n) (hdf:d.params.defaults=[])
  (call:∀ (w:Zi) (s₀ s₁:Zg) (mg mb:Zk) (fa:Addr) (o:Obj) (pm cd doc:Value) (a:Addr) (vs:Zc) (ns:Zb),
   Ground q loose [] XP w s₀ mg mb s₁.heap->YP w s₁.heap →
   s₁.heap.get? fa=some o->o.data=.func (docDef d.name d.params d.body d.scope pm cd doc)->s₁.heap.CodeRec cd d.name->mg d.name=some (.ref fa) →
   s₁.heap.get? a=some { cls:=.type "list",data:=.seq vs.toArray }->IntsAre vs ns->⇑ns<=n->s₁.gens=#[] →
   codeAny (model l.prog w) callerA (.call (.ref fa) ⟨[.ref a],[]⟩) (fun r s'=>r=.ok (.ret (.bool true))/\OldK s₁.heap s'.heap/\s'.os=s₁.os/\AllBare s'.gens) s₁) :
  WalkO q loose XP YP l.row.toRowW d [] (fun f vs=>PySem.call f vs):=by
 intro w s₀ s₁ mg mb G Y fa o pm cd doc dV kV ho hd hcd hD hmg hg args vals as hpre hlay hrd hwl hlo;obtain rfl:dV=.none:=Dflts.none hD hdf;obtain rfl:kV=.none:=Dflts.noKw hD;obtain⟨a,vs,ns,rfl,rfl,hobj,hints,hlen⟩:=EL hn hpre hwl;refine enter_call (gE (call w s₀ s₁ mg mb fa o pm cd doc a vs ns G Y ho (fd_plain hd) hcd hmg hobj hints hlen hg) fun r s' hq=>?_);obtain⟨rfl,h2,h3,h4⟩:=hq;exact⟨.inl ⟨.bool true,.bool true,[],rfl,fun _=>rfl,.bool true,EG l _,fun _=>⟨List.Pairwise.nil,fun _ hm=>(nomatch hm)⟩⟩,h2,h3,h4⟩
section
variable {prog:Zh}{w:Zi}{A:Around}{E:Zq}{s:Zg}{K:Frag}
end
end Att
namespace L2
open PySem PySem.Spec PyProof.Rows
variable {f:Addr}{k:Nat}{st:Stmt}
section
theorem xo:∀ {vs:Zc}{ns:Zb},IntsAre vs ns->Vals (ns.map V.int) vs
 | _,_,.nil=>.nil
 | _,_,.cons n t h=>.cons ⟨t,rfl⟩ (xo h)
end
section
end
section
noncomputable def inClass (s:Stmt) (j:Nat):Stmt:=match s with
 | .ClassDef _ _ _ body _ _ _ _ _ _ _=>body.getD j (.Pass ⟨0,0,0,0⟩)
 | _=>.Pass ⟨0,0,0,0⟩
noncomputable def dg (s:Stmt):Arguments:=match s with
 | .FunctionDef _ a _ _ _ _ _ _ _ _=>a
 | _=>{ posonlyargs:=[],args:=[],vararg:=none,kwonlyargs:=[],kw_defaults:=[],kwarg:=none,defaults:=[] }
noncomputable def cQ (s:Stmt):List Stmt:=match s with
 | .FunctionDef _ _ b _ _ _ _ _ _ _=>b
 | _=>[]
noncomputable def aw (s:Stmt):Scope:=match s with
 | .FunctionDef _ _ _ _ _ _ sc _ _ _=>sc
 | _=>{ kind:=.function,names:=[],isGenerator:=false,isCoroutine:=false }
noncomputable abbrev E0:St->XK:=fun _ _ _ _=>False
structure Ç (K:Zf) (x qual:Str) (st:Stmt) (f:Addr) (fd:FuncData):Prop where
 ex:∃ (oc:Value) (od:Option Addr) (kV doc pm:Value) (an:Option Addr) (cdv ct:Value) (osl:Array (Option Value)),
  fd=PySem.W.fnOf x qual (dg st) (cQ st) (aw st) .none kV doc pm an cdv ct/\K.lookup f=some ⟨oc,od,.func fd,osl⟩/\PySem.W.codeIn K cdv qual=true
 kp:PySem.W.keepIn K (.ref f)=true
section
variable {P:Zh}{w:Zi}{K:Zf}{mg:Zk}{base:Heap}
theorem Ç.binds {x qual:Str}{fd:FuncData}{ps:Ze} (F:Ç K x qual st f fd)
  (h:∀ (kV doc pm:Value) (an:Option Addr) (cdv ct:Value) (us:Zc),⇑us=⇑ps->bindArgs (PySem.W.fnOf x qual (dg st) (cQ st) (aw st) .none kV doc pm an cdv ct) ⟨us,[]⟩=pure (ps.zip us)):Binds K fd ps []:=by
 obtain⟨oc,od,kV,doc,pm,an,cdv,ct,osl,rfl,lk,hcd⟩:=F.ex;exact .all (h kV doc pm an cdv ct)
theorem pI {x qual:Str}{oc:Value}{od an:Option Addr}{osl:Array (Option Value)}{kV doc pm cdv ct:Value} (l:K.lookup f=some ⟨oc,od,.func (PySem.W.fnOf x qual (dg st) (cQ st) (aw st) .none kV doc pm an cdv ct),osl⟩)
  (c:PySem.W.codeIn K cdv qual=true) (k:PySem.W.keepIn K (.ref f)=true):Ç K x qual st f (PySem.W.fnOf x qual (dg st) (cQ st) (aw st) .none kV doc pm an cdv ct):=⟨⟨oc,od,kV,doc,pm,an,cdv,ct,osl,rfl,l,c⟩,k⟩
end
theorem pd {A:Around} (hr:fe k A):A.units+1<cLine:=ft (Nat.add_le_add_left (by decide:1<=64) _) hr.units
section
variable {X:Cx}
end
noncomputable def a9 (H H':Hp):Prop:=∀ b o,H b=some o->H' b=some o
theorem a9.refl (H:Hp):a9 H H:=fun _ _ h=>h
theorem a9.trans {H H1 H2:Hp} (a:a9 H H1) (b:a9 H1 H2):a9 H H2:=fun c o h=>b c o (a c o h)
theorem a9.free {H H':Hp} (e:a9 H H') {l:Addr} (h:H' l=Option.none):H l=Option.none:=by
 cases q:H l with
 | none=>rfl
 | some o =>rw[e l o q] at h;cases h
theorem a9.seq {K:Zf}{H H':Hp}{a:Addr}{xs:List V} (e:a9 H H') (h:Æ K H a xs):Æ K H' a xs:=by
 rcases h with (h | ⟨o,h⟩) | h
 ·exact .inl (.inl (e _ _ h))
 ·exact .inl (.inr ⟨o,e _ _ h⟩)
 ·exact .inr h
end
section
section
variable {κ:Type} [DecidableEq κ]
theorem xS:∀ {l:List κ}{k:κ},l.Nodup->¬ k∈l->(l++[k]).Nodup
 | [],k,_,_=>by simp
 | a::r,k,h,hk=>by
  obtain⟨h1,h2⟩:=eL.mp h;show (a::(r++[k])).Nodup;refine eL.mpr ⟨fun m=>?_,xS h2 fun m=>hk (aU.mpr (Or.inr m))⟩;rcases bG.mp m with q | q
  ·exact h1 q
  ·exact hk (aU.mpr (Or.inl (b9.mp q).symm))
end
end
section
structure mR (k:Nat) (A:Around):Prop where
 dp:A.depth+3*k+5<recursionLimit
 un:A.units+16*k+200<cLine
theorem mR.mono {j k:Nat}{A:Around} (r:mR k A) (h:j<=k):mR j A:=⟨by have:=r.dp;left,by have:=r.un;left⟩
theorem mR.deeper {k:Nat}{A:Around} (r:mR (k+1) A) (env:Env):mR k (A.deeper env):=⟨by have:=r.dp;show A.depth+1+3*k+5<_;left,by have:=r.un;show A.units+3+16*k+200<_;left⟩
theorem mR.depth {k:Nat}{A:Around} (r:mR k A):A.depth<recursionLimit:=by have:=r.dp;left
theorem mR.jQ {A:Around} (r:mR k A):A.units<cLine:=by have:=r.un;left
theorem fe.n {A:Around} (r:fe k A):mR k A:=⟨r.dp,r.un⟩
section
variable {X:Cx}{CX:Ö}{k:Nat}{f C:Addr}{fd:FuncData}{ps:Ze}{sp:Sp}{dvs:List V}{ds:Zc}{E:St->XK}{x m:Str}{p pos apos:Pos}{e o:Expr}{es:List Expr}{ta:TE}{t:TA}
end
end
end L2
set_option Elab.async false
set_option linter.all false
set_option maxRecDepth 100000
set_option maxHeartbeats 4000000
set_option exponentiation.threshold 2000
namespace Mk
variable {al:Za}{i:Nat}{j:Nat}{m:Int}{p:Int}{ps:Zb}{x:Int}
section
noncomputable def Î (m n:Int):Bool:=decide (Int.gcd n m=1)
noncomputable def í (ws:Zb):Zb:=(ws.zip (ws.drop 1)).map fun p=>p.2-p.1
noncomputable def safe (m:Int) (ws:Zb):Bool:=(ws++í ws).all (Î m)
theorem ic {ws:Zb}:safe m ws=true↔(∀ w∈ws,Î m w=true)/\∀ (j:Nat) a b,ws[j]?=some a->ws[j+1]?=some b->Î m (b-a)=true:=by
 unfold safe;rw[List.all_append,bT,c9,c9];refine and_congr Iff.rfl ⟨fun h j a b ha hb=>?_,fun h x hx=>?_⟩
 ·refine h (b-a) (aK.mpr ⟨(a,b),?_,rfl⟩);refine bL (i:=j) ?_;rw[List.getElem?_zip_eq_some];exact⟨ha,by rw[iu,Nat.add_comm];exact hb⟩
 ·unfold í at hx;obtain⟨⟨a,b⟩,hp,rfl⟩:=aK.mp hx;obtain⟨j,hj⟩:=oh hp;rw[List.getElem?_zip_eq_some] at hj;exact h j a b hj.1 (by have:=hj.2;rw[iu,Nat.add_comm] at this;exact this)
noncomputable def Ù (n:Nat):Zb:=(List.range n).map fun (k:Nat)=>(k:Int)
theorem qP (n:Nat):⇑(Ù n)=n:=by simp [Ù]
theorem hX {n:Nat}:x∈Ù n↔0<=x/\x<n:=by
 unfold Ù;rw[aK];constructor
 ·rintro⟨k,hk,rfl⟩;have:=cb.mp hk;left
 ·rintro⟨h1,h2⟩;exact⟨x.toNat,cb.mpr ⋯,⋯⟩
noncomputable def L7 (m:Int) (found:Zb):Zb:=(Ù m.toNat).filter fun w=>Î m w&&(found.isEmpty||Î m (w-found.getLastD 0))
theorem DM:∀ m:Nat,m<27->3<=m->Î (m:Int) 0=false/\Î (m:Int) 1=true/\Î (m:Int) (-1)=true/\Î (m:Int) 2=decide (m%2=1):=by nofun
end
section
noncomputable def dot:Zb->Zb->Int
 | a::r,b::t=>a*b+dot r t
 | _,_=>0
theorem Cv:∀ (ws ps:Zb),((ws.zip ps).map fun p=>p.1*p.2).sum=dot ws ps
 | [],_=>by simp [dot]
 | _::_,[]=>by simp [dot]
 | a::r,b::t=>by rw[List.zip_cons_cons,bg,lQ,Cv r t];rfl
theorem yN:∀ (ws ps:Zb) (a b:Int),⇑ws=⇑ps->dot (ws++[a]) (ps++[b])=dot ws ps+a*b
 | [],[],a,b,_=>by simp [dot]
 | [],_::_,_,_,h=>by simp at h
 | _::_,[],_,_,h=>by simp at h
 | x::r,y::t,a,b,h=>by show x*y+dot (r++[a]) (t++[b])=x*y+dot r t+a*b;rw[yN r t a b (by simpa using h),Int.add_assoc]
noncomputable def Ò (al w:Za):Zb:=w.map fun c=>((al.idxOf c:Nat):Int)
noncomputable def bE (al:Za) (n:Int) (z:Za):Bool:=decide ((⇑z:Int)=n)&&z.all fun c=>decide (c∈al)
noncomputable def good (m:Int) (ws:Zb) (r:Int) (ps:Zb):Bool:=decide ((dot ws ps-r)%m=0)
noncomputable def bW (al:Za) (ws:Zb) (r:Int) (z:Za):Bool:=bE al ⇑ws z&&good ⇑al ws r (Ò al z)
noncomputable def bD (al:Za) (ps:Zb):Za:=ps.map fun p=>al.getD p.toNat 0
theorem fA (al:Za) (ps:Zb):⇑(bD al ps)=⇑ps:=by simp [bD]
theorem oR (al w:Za):⇑(Ò al w)=⇑w:=by simp [Ò]
theorem getD_at (h:0<=p/\p<⇑al):al[p.toNat]?=some (al.getD p.toNat 0):=by rw[aT,aD ⋯];rfl
theorem getD_mem (h:0<=p/\p<⇑al):al.getD p.toNat 0∈al:=bL (getD_at h)
theorem sj (nd:al.Nodup) {i c:Nat} (h:al[i]?=some c):al.idxOf c=i:=by obtain⟨hi,e⟩:=br.mp h;subst e;exact List.Nodup.idxOf_getElem nd i hi
theorem jz {al:Za} (nd:al.Nodup):∀ {ps:Zb},(∀ p∈ps,0<=p/\p<⇑al)->Ò al (bD al ps)=ps
 | [],_=>rfl
 | p::r,h=>by show ((al.idxOf (al.getD p.toNat 0):Nat):Int)::Ò al (bD al r)=p::r;rw[jz nd (fun q hq=>h q (aV _ hq)),sj nd (getD_at (h p aR))];rw[nU (h p aR).1]
theorem mj {al w:Za} (h:∀ c∈w,c∈al):∀ p∈Ò al w,0<=p/\p<⇑al:=by intro p hp;obtain⟨c,hc,rfl⟩:=aK.mp hp;exact⟨Int.natCast_nonneg _,by exact_mod_cast List.idxOf_lt_length_of_mem (h c hc)⟩
theorem qB (h:∀ p∈ps,0<=p/\p<⇑al):bE al ⇑ps (bD al ps)=true:=by unfold bE;rw[fA,a8 rfl,dq,c9];intro c hc;obtain⟨p,hp,rfl⟩:=aK.mp hc;exact a8 (getD_mem (h p hp))
theorem dH {n:Int}{z:Za}:bE al n z=true↔(⇑z:Int)=n/\∀ c∈z,c∈al:=by unfold bE;rw[bT,bN,c9];refine and_congr Iff.rfl ⟨fun h c hc=>jc (h c hc),fun h c hc=>a8 (h c hc)⟩
noncomputable def ô (xs:Zb):Prop:=∀ x∈xs,0<=x/\x<1000
theorem M9 {xs:Zb} (h:∀ x∈xs,0<=x/\x<m) (hm:m<=1000):ô xs:=fun x hx=>⟨(h x hx).1,Int.lt_of_lt_of_le (h x hx).2 hm⟩
theorem j9 {ws ps:Zb}{r:Int} (nd:al.Nodup) (hl:⇑ps=⇑ws) (h:∀ p∈ps,0<=p/\p<⇑al):bW al ws r (bD al ps)=good ⇑al ws r ps:=by unfold bW;rw[jz nd h,←hl,qB h,dq]
end
section
noncomputable def kh (m:Int):Nat->Int->Zb
 | 0,_=>[]
 | n+1,k=>kh m n (k/m)++[k%m]
theorem lB (m:Int):∀ (n:Nat) (k:Int),⇑(kh m n k)=n
 | 0,_=>rfl
 | n+1,k=>by unfold kh;rw[aF,lB];rfl
theorem uS {m:Int} (hm:0<m):∀ (n:Nat) (k:Int),∀ x∈kh m n k,0<=x/\x<m
 | 0,_,x,h=>by cases h
 | n+1,k,x,h=>by
  unfold kh at h;rcases bG.mp h with h | h
  ·exact uS hm n _ x h
  ·rw[b9.mp h];exact⟨bY _ ⋯,bZ _ hm⟩
theorem wL {m:Int} (hm:0<m):∀ (n:Nat) (k:Int),kh m (n+1) k=(k/m^n)%m::kh m n k
 | 0,k=>by simp [kh]
 | n+1,k=>by show kh m (n+1) (k/m)++[k%m]=_;rw[wL hm n (k/m),Int.ediv_ediv_of_nonneg (iS hm),←Int.pow_succ'];rfl
noncomputable def numOf (m:Int) (ps:Zb):Int:=ps.foldl (fun k p=>k*m+p) 0
theorem mf (m:Int) (ps:Zb) (p:Int):numOf m (ps++[p])=numOf m ps*m+p:=by unfold numOf;rw[List.foldl_append];rfl
theorem vg {m:Int} (hm:0<m):∀ (n:Nat) (k:Int),0<=k->k<m^n->numOf m (kh m n k)=k
 | 0,k,h0,h1=>by
  have:k=0:=by simp at h1;left
  subst this;rfl
 | n+1,k,h0,h1=>by unfold kh;rw[mf,vg hm n (k/m) (Int.ediv_nonneg h0 (iS hm)) (Int.ediv_lt_of_lt_mul hm (by rw[←Int.pow_succ];exact h1))];have:=rB k m;rw[Int.mul_comm];exact this
theorem jq (hm:0<m):∀ (ps:Zb),(∀ p∈ps,0<=p/\p<m)->0<=numOf m ps/\numOf m ps<m^⇑ps:=by
 intro ps;rw[←rN ps];generalize ps.reverse=rs
 induction rs with
 | nil=>intro _;simp [numOf]
 | cons a r ih =>intro h;rw[List.reverse_cons] at h ⊢;have ih:=ih fun p hp=>h p (lP _ hp);have ha:=h a (fk _ aR);rw[mf,aF,dz,Int.pow_succ];refine⟨Int.add_nonneg (Int.mul_nonneg ih.1 (iS hm)) ha.1,?_⟩;have h2:(numOf m r.reverse+1)*m<=m^⇑r.reverse*m:=Int.mul_le_mul_of_nonneg_right ⋯ (iS hm);rw[Int.add_mul,Int.one_mul] at h2;left
theorem uT (hm:0<m):∀ (ps:Zb),(∀ p∈ps,0<=p/\p<m)->kh m ⇑ps (numOf m ps)=ps:=by
 intro ps;rw[←rN ps];generalize ps.reverse=rs
 induction rs with
 | nil=>intro _;rfl
 | cons a r ih =>
  intro h;rw[List.reverse_cons] at h ⊢;have ih:=ih fun p hp=>h p (lP _ hp);have ha:=h a (fk _ aR);rw[mf,aF,dz];unfold kh;have e1:(numOf m r.reverse*m+a)/m=numOf m r.reverse:=by rw[Int.add_comm,Int.add_mul_ediv_right _ _ ⋯,Int.ediv_eq_zero_of_lt ha.1 ha.2,jR]
  have e2:(numOf m r.reverse*m+a)%m=a:=by rw[Int.add_comm,Int.add_mul_emod_self_right,iR ha.1 ha.2]
  rw[e1,e2,ih]
theorem Eu:∀ m:Nat,m<27->0<m->∀ w:Nat,w<m->Nat.gcd w m=1->∃ v:Nat,v<m/\(w*v)%m=1%m:=by nofun
theorem LI {m w:Int} (h0:0<m) (h26:m<=26) (hw:0<=w/\w<m) (hc:Î m w=true):∃ v t:Int,w*v=1+m*t:=by
 obtain⟨M,rfl⟩:=cY (iS h0);obtain⟨W,rfl⟩:=cY hw.1;have hg:Nat.gcd W M=1:=jc hc;obtain⟨v,_,e⟩:=Eu M ⋯ ⋯ W ⋯ hg;refine⟨v,((W*v:Nat):Int)/(M:Int)-(1:Int)/(M:Int),?_⟩;have e1:=rB ((W*v:Nat):Int) (M:Int);have e2:=rB (1:Int) (M:Int);have e3:((W*v:Nat):Int)%(M:Int)=(1:Int)%(M:Int):=by exact_mod_cast e
 rw[e3] at e1;rw[Int.mul_sub];have e4:((W*v:Nat):Int)=(W:Int)*(v:Int):=by push_cast;rfl
 left
noncomputable def CG (m:Int) (ws:Zb) (r:Int) (ps:Zb):Zb:=(Ù m.toNat).filter fun x=>good m ws r (ps++[x])
noncomputable def tm (m:Int) (ws:Zb) (r:Int) (ps:Zb):Int:=(CG m ws r ps).headD 0
theorem En {m w r x:Int}{ws ps:Zb} (hl:⇑ws=⇑ps):good m (ws++[w]) r (ps++[x])=decide ((dot ws ps+w*x-r)%m=0):=by unfold good;rw[yN _ _ _ _ hl]
theorem GN {m w r:Int}{ws ps:Zb} (h0:0<m) (h26:m<=26) (hw:0<=w/\w<m) (hc:Î m w=true) (hl:⇑ws=⇑ps):∃ x,0<=x/\x<m/\∀ y,0<=y->y<m->(good m (ws++[w]) r (ps++[y])=true↔y=x):=by
 obtain⟨v,t,hv⟩:=LI h0 h26 hw hc;have hx0:=bY ((r-dot ws ps)*v) (show m≠0 by left);have hx1:=bZ ((r-dot ws ps)*v) h0;have hq:=rB ((r-dot ws ps)*v) m;generalize ((r-dot ws ps)*v)%m=x at hx0 hx1 hq;generalize ((r-dot ws ps)*v)/m=q at hq;generalize hd:dot ws ps=d at hq;refine⟨x,hx0,hx1,fun y hy0 hy1=>?_⟩;rw[En hl,bN,hd];constructor
 ·intro h;obtain⟨s,hs⟩:=lJ h;have key:y-x=m*(v*s-t*y+q):=by grind
  have hb:-m<y-x/\y-x<m:=⋯
  generalize v*s-t*y+q=z at key;have hz:z=0:=by
   rcases Int.lt_trichotomy z 0 with hz | hz | hz
   ·have:m*z<=m*(-1):=rC ⋯ (iS h0);left
   ·exact hz
   ·have:m*1<=m*z:=rC ⋯ (iS h0);left
  rw[hz,Int.mul_zero] at key;left
 ·intro h;subst h;have:d+w*y-r=m*(t*(r-d)-w*q):=by grind
  rw[this];exact Int.mul_emod_right _ _
theorem AY {l:Zb} (hn:l.Nodup) {p:Int->Bool} (hx:x∈l) (h:∀ y∈l,(p y=true↔y=x)):l.filter p=[x]:=by
 induction l with
 | nil=>cases hx
 | cons a r ih =>
  rw[eL] at hn;rw[List.filter_cons]
  by_cases e:a=x
  ·subst e;rw[ai ((h a aR).mpr rfl)]
   congr 1
   rw[rJ];intro y hy hp;exact hn.1 ((h y (aV _ hy)).mp hp ▸ hy)
  ·rw[ag (fun z=>e ((h a aR).mp z))];refine ih hn.2 ?_ fun y hy=>h y (aV _ hy);rcases aU.mp hx with z | z
   ·exact absurd z.symm e
   ·exact z
theorem sD (n:Nat):(Ù n).Nodup:=by unfold Ù;refine ja.mpr (nV ?_ List.pairwise_lt_range);intro a b h e;left
theorem oN {m r:Int}{ws ps:Zb} (h0:0<m) (h26:m<=26) (hm:∀ x∈ws,0<=x/\x<m) (hc:∀ x∈ws,Î m x=true) (hl:⇑ps+1=⇑ws) :
  CG m ws r ps=[tm m ws r ps]/\0<=tm m ws r ps/\tm m ws r ps<m/\∀ y,0<=y->y<m->(good m ws r (ps++[y])=true↔y=tm m ws r ps):=by
 have hne:ws≠[]:=fun e=>by rw[e] at hl;simp at hl
 obtain⟨wi,w,rfl⟩:∃ wi w,ws=wi++[w]:=⟨ws.dropLast,ws.getLast hne,(rF hne).symm⟩;have hl2:⇑wi=⇑ps:=by simp at hl;left
 obtain⟨x,x0,x1,hx⟩:=GN (r:=r) h0 h26 (hm w (by simp)) (hc w (by simp)) hl2;have e:CG m (wi++[w]) r ps=[x]:=by unfold CG;refine AY (sD _) (hX.mpr ⟨x0,⋯⟩) fun y hy=>?_;have:=hX.mp hy;exact hx y this.1 ⋯
 have e2:tm m (wi++[w]) r ps=x:=by unfold tm;rw[e];rfl
 rw[e2];exact⟨e,x0,x1,hx⟩
noncomputable def kF (m:Int) (ws:Zb) (r k:Int):Zb:=kh m (⇑ws-1) k++[tm m ws r (kh m (⇑ws-1) k)]
end
section
theorem EK {m x:Int}{l:Zb} (h:safe m l=true) (hx:Î m x=true) (hl:l=[]∨Î m (x-l.getLastD 0)=true):safe m (l++[x])=true:=by
 rw[ic] at h ⊢;refine⟨fun w hw=>?_,fun j a b ha hb=>?_⟩
 ·rcases bG.mp hw with hw | hw
  ·exact h.1 w hw
  ·rw[b9.mp hw];exact hx
 ·by_cases h1:j+1<⇑l
  ·rw[iU ⋯] at ha;rw[iU h1] at hb;exact h.2 j a b ha hb
  ·have hj:=(br.mp hb).1;rw[aF,dz] at hj;have e:j+1=⇑l:=⋯
   rw[iU ⋯] at ha;rw[ir ⋯,e,Nat.sub_self] at hb;have hne:l≠[]:=fun e2=>by rw[e2] at e;simp at e
   have e3:l.getLastD 0=a:=by rw[jT,List.getLast?_eq_getElem?,show ⇑l-1=j by left,ha];rfl
   have e4:x=b:=by simpa using hb
   subst e4;rw[←e3];exact hl.resolve_left hne
theorem GK:∀ m:Nat,m<27->3<=m->m%2=1->∀ w:Nat,w<m->Î (m:Int) (w:Int)=true->(Î (m:Int) (((2*w)%m:Nat):Int)&&Î (m:Int) ((((2*w)%m:Nat):Int)-(w:Int)))=true:=by nofun
theorem F4 (h3:3<=m) (h26:m<=26) (ho:m%2=1) {l:Zb} (hb:∀ x∈l,0<=x/\x<m) (hc:∀ x∈l,Î m x=true):L7 m l≠[]:=by
 obtain⟨M,rfl⟩:=cY (show 0<=m by left);intro e;unfold L7 at e;rw[rJ] at e
 by_cases hl:l=[]
 ·subst hl;exact e 1 (hX.mpr ⟨Zd,⋯⟩) (by rw[(DM M ⋯ ⋯).2.1];rfl)
 ·have hm:l.getLastD 0∈l:=by
   rw[jT,List.getLast?_eq_some_getLast hl];exact List.getLast_mem hl
  have h1:=hb _ hm;have h2:=hc _ hm;generalize l.getLastD 0=w at e h1 h2;obtain⟨W,rfl⟩:=cY h1.1;have h4:=GK M ⋯ ⋯ ⋯ W ⋯ h2;rw[bT] at h4;refine e (((2*W)%M:Nat):Int) (hX.mpr ⟨⋯,?_⟩) ?_
  ·have:=Nat.mod_lt (2*W) (show 0<M by left);left
  ·rw[h4.1,h4.2,Bool.or_true];rfl
theorem Cq {m d y:Int} (hc:Î m d=true) (h:m ∣ d*y):m ∣ y:=by have hg:Nat.gcd d.natAbs m.natAbs=1:=jc hc;have h1:=Int.natAbs_dvd_natAbs.mpr h;rw[Int.natAbs_mul] at h1;exact Int.natAbs_dvd_natAbs.mp (Nat.Coprime.dvd_of_dvd_mul_left (Nat.Coprime.symm hg) h1)
theorem wK {m x y:Int} (h:m ∣ x-y) (hx:0<=x/\x<m) (hy:0<=y/\y<m):x=y:=by have:=Int.emod_eq_emod_iff_emod_sub_eq_zero.mpr (Int.emod_eq_zero_of_dvd h);rw[iR hx.1 hx.2,iR hy.1 hy.2] at this;exact this
theorem u4:∀ (ws ps:Zb) (i:Nat) (w p x:Int),ws[i]?=some w->ps[i]?=some p->dot ws (ps.set i x)=dot ws ps+w*(x-p)
 | [],_,_,_,_,_,h,_=>by simp at h
 | _::_,[],_,_,_,_,_,h=>by simp at h
 | a::ws,b::ps,0,w,p,x,h1,h2=>by simp at h1 h2;subst h1 h2;show dot (a::ws) (x::ps)=dot (a::ws) (b::ps)+a*(x-b);unfold dot;grind
 | a::ws,b::ps,i+1,w,p,x,h1,h2=>by have:=u4 ws ps i w p x (by simpa using h1) (by simpa using h2);show dot (a::ws) (b::ps.set i x)=dot (a::ws) (b::ps)+w*(x-p);unfold dot;grind
theorem zc {m r w p x:Int}{ws ps:Zb} (hw:ws[i]?=some w) (hp:ps[i]?=some p) (hc:Î m w=true) (bp:0<=p/\p<m) (bx:0<=x/\x<m) (hne:x≠p) (hg:good m ws r ps=true):good m ws r (ps.set i x)=false:=by unfold good at hg ⊢;rw[bN] at hg;refine ay fun h=>hne ?_;rw[u4 ws ps i w p x hw hp] at h;refine wK (Cq hc ?_) bx bp;have:=Int.dvd_sub (lJ h) (lJ hg);rw[show dot ws ps+w*(x-p)-r-(dot ws ps-r)=w*(x-p) by left] at this;exact this
theorem Eo {m r w v p q:Int}{ws ps:Zb} (hw:ws[i]?=some w) (hv:ws[i+1]?=some v) (hp:ps[i]?=some p) (hq:ps[i+1]?=some q) (hc:Î m (v-w)=true) (bp:0<=p/\p<m) (bq:0<=q/\q<m) (hne:q≠p) (hg:good m ws r ps=true):good m ws r ((ps.set i q).set (i+1) p)=false:=by unfold good at hg ⊢;rw[bN] at hg;refine ay fun h=>hne ?_;rw[u4 ws (ps.set i q) (i+1) v q p hv (by rw[iV ⋯];exact hq),u4 ws ps i w p q hw hp] at h;refine (wK (Cq hc ?_) bp bq).symm;have:=Int.dvd_sub (lJ h) (lJ hg);rw[show dot ws ps+w*(q-p)+v*(p-q)-r-(dot ws ps-r)=(v-w)*(p-q) by grind] at this;exact this
section
variable {m r k:Int}{ws:Zb} (h0:0<m) (h26:m<=26) (hm:∀ x∈ws,0<=x/\x<m) (hs:safe m ws=true) (hl:1<=⇑ws)
theorem EY (hl:1<=⇑ws):⇑(kF m ws r k)=⇑ws:=by unfold kF;rw[aF,lB,dz];left
include h0 h26 hm hs hl
theorem xq:∀ x∈kF m ws r k,0<=x/\x<m:=by
 obtain⟨_,l2,l3,-⟩:=oN (r:=r) h0 h26 hm (ic.mp hs).1 (show ⇑(kh m (⇑ws-1) k)+1=⇑ws by rw[lB];left);unfold kF;intro x hx;rcases bG.mp hx with hx | hx
 ·exact uS h0 _ _ x hx
 ·rw[b9.mp hx];exact⟨l2,l3⟩
theorem Ce:good m ws r (kF m ws r k)=true:=by obtain⟨_,l2,l3,l4⟩:=oN (r:=r) h0 h26 hm (ic.mp hs).1 (show ⇑(kh m (⇑ws-1) k)+1=⇑ws by rw[lB];left);exact (l4 _ l2 l3).mpr rfl
omit h26 hm hs hl in
theorem EZ (hk:0<=k) (hk2:k<m^(⇑ws-1)):numOf m (kF m ws r k).dropLast=k:=by unfold kF;rw[rE,vg h0 _ _ hk hk2]
end
theorem xk (hj:j<⇑ps):(bD al ps).take j++[al.getD x.toNat 0]++(bD al ps).drop (j+1)=bD al (ps.set j x):=by unfold bD;rw[List.map_set,List.set_eq_take_append_cons_drop,ai (by rw[af];exact hj),bJ];rfl
theorem lF {m x:Int} (h:∀ p∈ps,0<=p/\p<m) (hx:0<=x/\x<m):∀ p∈ps.set i x,0<=p/\p<m:=by
 intro p hp;rcases List.mem_or_eq_of_mem_set hp with hp | hp
 ·exact h p hp
 ·rw[hp];exact hx
end
section
theorem De {α:Type}:∀ (l:List α) (j:Nat) (x y:α),j+1<⇑l->(l.set j x).set (j+1) y=l.take j++(x::y::l.drop (j+2))
 | [],_,_,_,h=>by simp at h
 | [_],_,_,_,h=>by simp at h
 | a::b::l,0,x,y,_=>rfl
 | a::b::l,j+1,x,y,h=>by have:=De (b::l) j x y (by simpa using h);simp only[List.set_cons_succ,List.take_succ_cons,List.drop_succ_cons,List.cons_append];rw[this];rfl
theorem vN {p q:Int} (hj:j+1<⇑ps):(bD al ps).take j++([al.getD q.toNat 0]++[al.getD p.toNat 0])++(bD al ps).drop (j+2)=bD al ((ps.set j q).set (j+1) p):=by unfold bD;rw[List.map_set,List.map_set,De _ _ _ _ (by rw[af];exact hj),bJ];rfl
end
section
noncomputable def bV (c:Nat):Za->List Za
 | []=>[[]]
 | a::l=>if a=c then []::bV c l else match bV c l with
  | []=>[[a]]
  | w::ws=>(a::w)::ws
noncomputable def fK (c:Nat):List (Za)->Za
 | []=>[]
 | [w]=>w
 | w::v::ws=>w++c::fK c (v::ws)
theorem mP {c:Nat}:∀ (w l:Za),c∉w->bV c (w++c::l)=w::bV c l
 | [],l,_=>by simp [bV]
 | a::w,l,h=>by have ha:a≠c:=fun e=>h (by rw[e];exact aR);have ih:=mP w l fun hc=>h (aV _ hc);show (if a=c then _ else match bV c (w++c::l) with | []=>[[a]] | w::ws=>(a::w)::ws)=_;rw[ag ha,ih]
theorem oU {c:Nat}:∀ (w:Za),c∉w->bV c w=[w]
 | [],_=>rfl
 | a::w,h=>by have ha:a≠c:=fun e=>h (by rw[e];exact aR);have ih:=oU w fun hc=>h (aV _ hc);show (if a=c then _ else match bV c w with | []=>[[a]] | w::ws=>(a::w)::ws)=_;rw[ag ha,ih]
theorem tU {c:Nat}:∀ (ws:List Za),ws≠[]->(∀ w∈ws,c∉w)->bV c (fK c ws)=ws
 | [],h,_=>absurd rfl h
 | [w],_,h=>oU w (h w aR)
 | w::v::ws,_,h=>by show bV c (w++c::fK c (v::ws))=_;rw[mP w _ (h w aR),tU (v::ws) (by simp) fun x hx=>h x (aV _ hx)]
theorem vO {c:Nat}:∀ (l:Za),⇑(bV c l)<=⇑l+1/\∀ w∈bV c l,⇑w<=⇑l
 | []=>by simp [bV]
 | a::l=>by
  obtain⟨h1,h2⟩:=vO (c:=c) l;have e:bV c (a::l)=if a=c then []::bV c l else match bV c l with | []=>[[a]] | w::ws=>(a::w)::ws:=rfl
  by_cases ha:a=c
  ·rw[e,ai ha,bf,bf];refine⟨⋯,fun w hw=>?_⟩;rcases aU.mp hw with rfl | hw
   ·exact bc _
   ·have:=h2 w hw;left
  ·rw[e,ag ha,bf];cases hs:bV c l with
   | nil=>exact⟨by simp,fun w hw=>by rw[b9.mp hw];simp⟩
   | cons v vs =>
    rw[hs] at h1 h2;refine⟨by simp only[bf] at h1 ⊢;left,fun w hw=>?_⟩;rcases aU.mp hw with rfl | hw
    ·have:=h2 v aR;rw[bf];left
    ·have:=h2 w (aV _ hw);left
theorem wR {c:Nat}:∀ (ws:List Za),⇑(fK c ws)<=(ws.map fun w=>⇑w+1).sum
 | []=>by simp [fK]
 | [w]=>by simp [fK]
 | w::v::ws=>by have ih:=wR (c:=c) (v::ws);show ⇑(w++c::fK c (v::ws))<=_;rw[aF,bf,bg,lQ];left
end
section
end
end Mk
namespace L2
open PySem PySem.Spec PyProof.Rows
variable {C:Addr}{CX:Ö}{D:Ends}{E:Zq}{H:Hp}{H1:Hp}{J:It}{K:Zf}{M:Model}{P:Zh}{Q:VK}{T:String}{X:Cx}{a:Addr}{bmB:Zc}{ch:List Addr}{cl:List (Str×Addr)}{d:Option Addr}{e:Expr}{elts:List Expr}{env:Env}{es:List Expr}{f:Str}{fp:List Addr}{frn:Ze}{g:TG}{h:Heap}{h':Heap}{i:Nat}{ifs:List Expr}{items:Array Value}{js:Za}{k:Nat}{lo:Int}{m:Str}{o:HO}{Yp:Zp}{pl:Sem Bool}{pos:Pos}{prog:Zh}{ps:Ze}{r:V->List V->Hp->VK->Prop}{s:Zg}{scope:Scope}{sp:Sp}{t':Nat}{ta:TA}{tb:TS}{tc:TT}{te:TE}{tl:TE}{to:TE}{tpos:Pos}{v:V}{w:Zi}{wi:TI}{x:Str}{xe:Zq}{xs:List V}{α:Type}{σ:St}
section
noncomputable def Ü (cells:List (Str×Addr)):List (Str×NameKind)->List (Str×Addr)->Option (List (Str×Addr))
 | [],acc=>some acc
 | (n,k)::r,acc=>if k==.free then (match cells.lookup n with | some c=>Ü cells r ((n,c)::acc) | none=>none) else Ü cells r acc
theorem uL {env:Env}:∀ (names:List (Str×NameKind)) (acc cl:List (Str×Addr)),Ü env.cells names acc=some cl →
  (forIn names acc fun (x:Str×NameKind) (cs:List (Str×Addr))=>(if x.2==.free then do let c ←cellOf env x.1;pure (ForInStep.yield ((x.1,c)::cs)) else pure (ForInStep.yield cs):Sem (ForInStep (List (Str×Addr)))))=pure cl
 | [],acc,cl,h=>by have e:acc=cl:=Option.some.inj h;subst e;rfl
 | (n,k)::r,acc,cl,h=>by
  rw[List.forIn_cons];unfold Ü at h
  by_cases hk:(k==NameKind.free)=true
  ·rw[ai hk] at h;cases hc:env.cells.lookup n with
   | none=>rw[hc] at h;cases h
   | some c =>
    rw[hc] at h;have ih:=uL (env:=env) r ((n,c)::acc) cl h;have e1:cellOf env n=pure c:=by unfold cellOf;rw[hc]
    simp only[hk,i3,e1,pure_bind];exact ih
  ·rw[ag hk] at h;have ih:=uL (env:=env) r acc cl h;simp only[hk,gh,pure_bind,iH];exact ih
theorem j7 (h:Ü env.cells scope.names []=some cl):closureFor scope env=pure cl:=by
 have e:=uL (env:=env) scope.names [] cl h;unfold closureFor;simp only[bind_pure]
 first
  | exact e
  | (simp only[bind_pure_comp,map_pure] at e ⊢;exact e)
  | (rw[show (fun (x:Str×NameKind) (r:List (Str×Addr))=>_)=_ from rfl];exact e)
theorem uz {cells:List (Str×Addr)}:∀ (names:List (Str×NameKind)) (acc cl:List (Str×Addr)),Ü cells names acc=some cl →
  (∀ x c,acc.lookup x=some c->cells.lookup x=some c)->∀ x c,cl.lookup x=some c->cells.lookup x=some c
 | [],acc,cl,h,ha=>by have e:acc=cl:=Option.some.inj h;subst e;exact ha
 | (n,k)::r,acc,cl,h,ha=>by
  unfold Ü at h
  by_cases hk:(k==NameKind.free)=true
  ·rw[ai hk] at h;cases hc:cells.lookup n with
   | none=>rw[hc] at h;cases h
   | some c =>
    rw[hc] at h;refine uz r ((n,c)::acc) cl h fun x c' e=>?_;rw[fY] at e
    by_cases hx:(x==n)=true
    ·rw[hx] at e;have e':c=c':=Option.some.inj e;subst e';have:x=n:=eq_of_beq hx;subst this;exact hc
    ·rw[Bool.not_eq_true] at hx;rw[hx] at e;exact ha x c' e
  ·rw[ag hk] at h;exact uz r acc cl h ha
theorem uK {cells:List (Str×Addr)}:∀ (names:List (Str×NameKind)) (acc cl:List (Str×Addr)),Ü cells names acc=some cl->∀ x,(∃ c,acc.lookup x=some c)->∃ c,cl.lookup x=some c
 | [],acc,cl,h,x,hx=>by have e:acc=cl:=Option.some.inj h;subst e;exact hx
 | (n,k)::r,acc,cl,h,x,hx=>by
  unfold Ü at h
  by_cases hk:(k==NameKind.free)=true
  ·rw[ai hk] at h;cases hc:cells.lookup n with
   | none=>rw[hc] at h;cases h
   | some c =>
    rw[hc] at h;refine uK r ((n,c)::acc) cl h x ?_;rw[fY]
    by_cases hxn:(x==n)=true
    ·rw[hxn];exact⟨c,rfl⟩
    ·rw[Bool.not_eq_true] at hxn;rw[hxn];exact hx
  ·rw[ag hk] at h;exact uK r acc cl h x hx
theorem uy {cells:List (Str×Addr)}:∀ (names:List (Str×NameKind)) (acc cl:List (Str×Addr)),Ü cells names acc=some cl->∀ x,(x,NameKind.free)∈names->∃ c,cl.lookup x=some c
 | [],_,_,_,x,hx=>by cases hx
 | (n,k)::r,acc,cl,h,x,hx=>by
  unfold Ü at h
  by_cases hk:(k==NameKind.free)=true
  ·rw[ai hk] at h;cases hc:cells.lookup n with
   | none=>rw[hc] at h;cases h
   | some c =>
    rw[hc] at h;rcases aU.mp hx with e | hx
    ·have e1:x=n:=cc Prod.fst e;subst e1;exact uK r ((x,c)::acc) cl h x ⟨c,by rw[fY,beq_self_eq_true]⟩
    ·exact uy r _ cl h x hx
  ·rw[ag hk] at h;rcases aU.mp hx with e | hx
   ·cases e
    exact absurd (by rfl) hk
   ·exact uy r acc cl h x hx
theorem mw {env:Env}:∀ {names:List (Str×NameKind)}{x:Str}{k':NameKind},
  (names.map fun (n,k)=>if (k==NameKind.free&&env.scope.kind==.function&&env.kindOf n==some .cell) then (n,NameKind.cell) else (n,k)).lookup x=some k'->(x,k')∈names∨(k'=.cell/\(x,NameKind.free)∈names)
 | [],_,_,h=>by cases h
 | (n,k)::r,x,k',h=>by
  have ih:=@mw env r x k'
  by_cases hc:(k==NameKind.free&&env.scope.kind==.function&&env.kindOf n==some .cell)=true
  ·have h2:(((n,NameKind.cell)::(r.map fun (n,k)=>if (k==NameKind.free&&env.scope.kind==.function&&env.kindOf n==some .cell) then (n,NameKind.cell) else (n,k))).lookup x)=some k':=by
    rw[←h,bg];simp only[hc,i3]
   rw[fY] at h2
   by_cases hx:(x==n)=true
   ·rw[hx] at h2;have e:NameKind.cell=k':=Option.some.inj h2;have e2:x=n:=eq_of_beq hx;have e3:k=.free:=by
     simp only[bT] at hc;exact eq_of_beq hc.1.1
    subst e e2 e3;exact .inr ⟨rfl,aR⟩
   ·rw[Bool.not_eq_true] at hx;rw[hx] at h2;rcases ih h2 with q | ⟨e,q⟩
    ·exact .inl (aV _ q)
    ·exact .inr ⟨e,aV _ q⟩
  ·have h2:(((n,k)::(r.map fun (n,k)=>if (k==NameKind.free&&env.scope.kind==.function&&env.kindOf n==some .cell) then (n,NameKind.cell) else (n,k))).lookup x)=some k':=by
    rw[←h,bg];simp only[hc,gh,iH]
   rw[fY] at h2
   by_cases hx:(x==n)=true
   ·rw[hx] at h2;have e:k=k':=Option.some.inj h2;have e2:x=n:=eq_of_beq hx;subst e e2;exact .inl aR
   ·rw[Bool.not_eq_true] at hx;rw[hx] at h2;rcases ih h2 with q | ⟨e,q⟩
    ·exact .inl (aV _ q)
    ·exact .inr ⟨e,aV _ q⟩
noncomputable abbrev Cx.ß (X:Cx) (N':Ze) (scope:Scope) (cl:List (Str×Addr)) (C:Addr) (s₀:Zg) (H₀:Hp) (ex:List Addr):Cx :=
 { X with N:=N',s₀:=s₀,H₀:=H₀,env:=compEnvC scope cl C X.env,outer:=X.stack,stack:=X.stack,ex:=ex,fn:=fun _=>false,pn:=[],xe:=fun _ _=>False }
inductive uG (X:Cx):Ze->Za->Prop
 | nil:uG X [] []
 | cons {x:Str}{j:Nat}{xs:Ze}{js:Za}:X.N[j]?=some x->(X.env.kindOf x=some .cell∨X.env.kindOf x=some .free)->uG X xs js->uG X (x::xs) (j::js)
theorem uG.get {X:Cx}:∀ {xs:Ze}{js:Za}{i:Nat}{x:Str},uG X xs js->xs[i]?=some x->∃ j,js[i]?=some j/\X.N[j]?=some x/\(X.env.kindOf x=some .cell∨X.env.kindOf x=some .free)
 | _,_,_,_,.nil,e=>by simp at e
 | _,_,0,_,.cons a b _,e=>by simp at e;subst e;exact⟨_,rfl,a,b⟩
 | _,_,i+1,x,.cons _ _ t,e=>by obtain⟨j,h1,h2⟩:=uG.get (i:=i) (x:=x) t (by simpa using e);exact⟨j,by simpa using h1,h2⟩
theorem uG.len {X:Cx}:∀ {xs:Ze}{js:Za},uG X xs js->⇑xs=⇑js
 | _,_,.nil=>rfl
 | _,_,.cons _ _ t=>by rw[bf,bf,t.len]
noncomputable def hO (k:Nat) (js:Za) (σ:St):St:=List.replicate k none++js.map fun j=>(σ[j]?).join
noncomputable def þ (X:Cx) (ifs:List Expr) (t:TT):Prop :=
 ∀ (Yp:Zp) (s:Zg) (σ:St) (H:Hp) (Q:Bool->Hp->Prop),Inv X Yp σ H s->t σ H Q →
  wpAny (model X.prog X.w) X.A (forIn ifs true fun c r=>if r=true then do let ok ←isTrue c X.env (eval c X.env);pure (ForInStep.yield ok) else pure (ForInStep.yield r)) (TP X Yp σ Q) X.xe s
noncomputable def ur:TT:=fun _ H Q=>Q true H
theorem cM :þ X [] ur:=fun _ _ _ H _ I h=>wpAny_tests_nil ⟨H,I,h⟩
theorem mi {c:Expr}{t:TT} (h:PT X c t):þ X [c] t:=fun Yp s σ H Q I q=>wpAny_tests_one (h Yp s σ H Q I q)
section
variable {prog:Zh}{w:Zi}{A:Around}{R:Result->Zg->Prop}{s:Zg}
theorem yH {elt target iter:Expr}{ifs:List Expr}{scope:Scope}{pos:Pos}{it acc:Value}{env:Env} (I:Nat->Zg->Prop)
  (turn:∀ n s,I n s->wpAny (model prog w) A (pyNext it) (fun r s₁=>match r with
   | none=>R (.ok .next) s₁
   | some v=>wpAny (model prog w) A (letOwnedTupleGo target it v) (fun _ s₀=>wpAny (model prog w) A (assign target env v) (fun _ s₂ =>
     wpAny (model prog w) A (forIn ifs true fun c r=>if r=true then do let ok ←isTrue c env (eval c env);pure (ForInStep.yield ok) else pure (ForInStep.yield r)) (fun ok s₃ =>
      if ok=true then wpAny (model prog w) A (eval elt env) (fun x s₄ =>wpAny (model prog w) A (call (.builtin "list.append") [acc,x]) (fun _ s₅=>∃ m,m<n/\I m s₅) (fun _ _=>False) s₄) (fun _ _=>False) s₃
      else ∃ m,m<n/\I m s₃) (fun _ _=>False) s₂) (fun _ _=>False) s₀) (fun _ _=>False) s₁) (fun _ _=>False) s)
  (n:Nat) (h:I n s) :
  codeAny (model prog w) A (.compLoop (.ListComp elt [⟨target,iter,ifs,0⟩] scope pos) 0 it acc env) R s:=by
 refine codeAny_loop rfl I (fun n s hI=>?_) n h;show wpAny _ A ((compTurn (.ListComp elt [⟨target,iter,ifs,0⟩] scope pos) 0 it acc env).onRaise (fun x=>do noteFrame x env;theTreesLotGoes x)) _ _ s;refine wpAny_noted ?_;rw[compTurn_list];refine aa (iE (aa (bO (turn n s hI) (fun r s₁ h₁=>?_) fun _ _ h'=>h'.elim)));cases r with
 | none=>exact aq h₁
 | some v =>
  refine aa (bO h₁ (fun _ s₀ h₀=>?_) fun _ _ h'=>h'.elim);refine aa (bO h₀ (fun _ s₂ h₂=>aa (bO h₂ (fun ok s₃ h₃=>?_) fun _ _ h'=>h'.elim)) fun _ _ h'=>h'.elim);cases ok with
  | false=>exact aq ⟨rfl,h₃⟩
  | true =>exact aa (aa (bO h₃ (fun x s₄ h₄=>aa (bO h₄ (fun _ s₅ h₅=>aq (aq ⟨rfl,h₅⟩)) fun _ _ h'=>h'.elim)) fun _ _ h'=>h'.elim))
end
noncomputable def eE (g:TG) (tc:TT) (te:TE) (σ':St) (J:It) (H1:Hp) (Q:VK):Prop :=
 ∀ D,H1 D=none->∃ W:Nat->Nat->List V->St->Hp->Prop,(∃ m,W 0 m [] σ' (upd H1 D (.lst [])))/\∀ i m ys σ1 H,W i m ys σ1 H->H D=some (.lst ys)/\⇑ys<sizeLine ∧
  ((J.stop i H/\Q (.ref D) H)∨(J.go i H/\∀ x H',J.yld i H x H'->g x σ1 H' fun σ2 H2=>tc σ2 H2 fun b H3 =>if b=true then te σ2 H3 fun v H4=>H4 D=some (.lst ys)/\∃ m',m'<m/\W (i+1) m' (ys++[v]) σ2 (upd H4 D (.lst (ys++[v]))) else ∃ m',m'<m/\W (i+1) m' ys σ2 H3))
structure Cg (X:Cx) (scope:Scope) (cl:List (Str×Addr)):Prop where
 Ü:L2.Ü X.env.cells scope.names []=some cl
 cell:∀ y∈scope.names,y.2≠.cell
 kind:scope.kind=.function
 names:∀ y∈scope.names,y.2=.local->scope.names.lookup y.1=some .local
section
variable {X:Cx}{Yp:Zp}{σ:St}{H1:Hp}{s₂:Zg}{E:Zq}
theorem Inv.MZ {N':Ze} (I:Inv X Yp σ H1 s₂) (B:Cg X scope cl) (hC:s₂.heap.objs.size<=C) (hf:∀ b∈fp,tX X Yp H1 b)
  (ho:∀ b∈fp,∃ o,s₂.heap.get? b=some o):(X.ß N' scope cl C s₂ H1 fp).Ok:=by
 have sub:=uz scope.names [] cl B.Ü (fun x c e=>by cases e);refine⟨I.ok.mod,B.kind,I.ok.glob,I.ok.blt,hC,fun x y c h1 h2=>I.ok.inj x y c (sub x c h1) (sub y c h2),fun x hx=>?_,fun x c h=>?_,I.ok.hd,I.ok.frames,.inl rfl,fun b hb=>⟨?_,fun x c e=>?_⟩,I.bs,
  aX I.ok.bsz I.sz,fun b o e hb=>?_,fun b hb hs=>?_,I.stack,I.rq⟩
 ·have hx':(compEnvC scope cl C X.env).kindOf x=some .cell∨(compEnvC scope cl C X.env).kindOf x=some .free:=hx;have key:∀ k',(compEnvC scope cl C X.env).kindOf x=some k'->(k'=.cell∨k'=.free)->∃ c,cl.lookup x=some c:=fun k' e hk=>by
   have e':(scope.names.map fun (n,k)=>if (k==NameKind.free&&X.env.scope.kind==.function&&X.env.kindOf n==some .cell) then (n,NameKind.cell) else (n,k)).lookup x=some k':=e;rcases mw e' with q | ⟨_,q⟩
   ·rcases hk with rfl | rfl
    ·exact absurd rfl (B.cell _ q)
    ·exact uy scope.names [] cl B.Ü x q
   ·exact uy scope.names [] cl B.Ü x q
  rcases hx' with hx' | hx'
  ·exact key _ hx' (.inl rfl)
  ·exact key _ hx' (.inr rfl)
 ·exact absurd h cu
 ·obtain⟨o,e⟩:=ho b hb;exact bh (bH (aH e) hC)
 ·exact (hf b hb).2.2.2.2.1 x c (sub x c e)
 ·rcases (hf b hb).2.2.2.1 with z | z
  ·exact I.ok.noex b o e z
  ·exact absurd (bH (aH e) (aX I.ok.bsz z)) (fq _)
 ·rcases aU.mp (I.yB b hs) with z | z
  ·exact (hf b hb).2.1 z
  ·exact (hf b hb).2.2.1 z
theorem Cm {elt target iter:Expr}{ifs:List Expr}{scope:Scope}{pos:Pos}{cl:List (Str×Addr)}{own frn:Ze}{js:Za}{g:TG}{tc:TT}{te:TE}{Q:VK}{it:Addr}{fp:List Addr}{tn:Nat->Heap->Prop}{J:It}
  {RR:Value->Addr->Result->Zg->Prop} (hc:X.calm=true) (B:Cg X scope cl) (hfr:uG X frn js) (hloc:∀ x∈frn,scope.names.lookup x≠some .local)
  (hg:∀ C s₀ H₀ ex,PG (X.ß (own++frn) scope cl C s₀ H₀ ex) target g) (hi:∀ C s₀ H₀ ex,þ (X.ß (own++frn) scope cl C s₀ H₀ ex) ifs tc) (he:∀ C s₀ H₀ ex,PE (X.ß (own++frn) scope cl C s₀ H₀ ex) elt te)
  (I:Inv X Yp σ H1 s₂) (T:Turn X.prog X.w X.K target J fp it tn) (st0:tn 0 s₂.heap) (hf:∀ b∈fp,tX X Yp H1 b) (hq:eE g tc te (hO ⇑own js σ) J H1 Q)
  (fin:∀ D C s' H' m,s₂.heap.objs.size<=C->Inv X Yp σ H' s'->s'.heap.Ns C m->tX X Yp H' C->Q (.ref D) H'->RR (.ref D) C (.ok .next) s') :
  wpAny (model X.prog X.w) X.A (newList []) (fun acc s₃=>wpAny (model X.prog X.w) X.A (newFunctionEnv scope X.env.globals cl [] X.env.qual none .none (some X.env)) (fun cenv s₄ =>codeAny (model X.prog X.w) X.A (.compStart (.ListComp elt [⟨target,iter,ifs,0⟩] scope pos) 0 (.ref it) acc { cenv with scope:=relabel scope X.env }) (RR acc cenv.locals) s₄) E s₃) E s₂:=by
 have sub:=uz scope.names [] cl B.Ü (fun x c e=>by cases e);refine kf (wpAny_newFunctionEnv B.cell (by intro y hy;simp at hy) (fun h₁ hns₁ hsb₁=>?_) B.kind);dsimp only at hns₁ hsb₁ ⊢;generalize hH2:s₂.heap.push { cls:=.type "list",dict:=none,data:=.seq ([]:Zc).toArray }=H2 at hns₁ hsb₁ ⊢;have hC:H2.objs.size=s₂.heap.objs.size+1:=by rw[←hH2,iQ]
 have hDC:s₂.heap.objs.size≠H2.objs.size:=by rw[hC];exact bh (jZ _)
 have hCle:s₂.heap.objs.size<=H2.objs.size:=by rw[hC];exact fZ _
 have below:∀ b,b<s₂.heap.objs.size->b≠H2.objs.size/\b≠s₂.heap.objs.size:=fun b hb=>⟨by rw[hC];exact bh (gb hb),bh hb⟩;have old:∀ b o,s₂.heap.get? b=some o->h₁.get? b=some o:=fun b o e=>hsb₁.extBut b o (below b (aH e)).1 (aE _ (hH2 ▸ aE _ e));have hacc:h₁.get? s₂.heap.objs.size=some { cls:=.type "list",dict:=none,data:=.seq ([]:Zc).toArray }:=hsb₁.extBut _ _ hDC (aE _ (hH2 ▸ bz _ rfl));have hfo:∀ b∈fp,∃ o,s₂.heap.get? b=some o/\∀ v,o.data≠.cell v:=T.obj 0 _ st0;have D0:H1 s₂.heap.objs.size=none:=I.hok.fresh (av _);have C0:H1 H2.objs.size=none:=I.hok.fresh hCle;obtain⟨W,⟨m0,w0⟩,turn⟩:=hq _ D0;have æ:(X.ß (own++frn) scope cl H2.objs.size s₂ H1 fp).Ok:=I.MZ (N':=own++frn) B hCle hf fun b hb=>let ⟨o,e,_⟩:=hfo b hb;⟨o,e⟩;have I0:Inv (X.ß (own++frn) scope cl H2.objs.size s₂ H1 fp) [] (hO ⇑own js σ) (upd H1 s₂.heap.objs.size (.lst [])) { s₂ with heap:=h₁,toks:=s₂.toks+⇑([]:List (Str×Value)) }:=by
  obtain⟨m,hn,hl⟩:=id I.loc;refine⟨æ,rfl,I.bare,Un.laid old (av _) D0,⟨_,hns₁,fun i x v e1 e2 e3=>?_⟩,fun x c e=>?_,?_,fun x c e=>?_,fun p hp=>?_,?_,?_⟩
  ·have e1:(own++frn)[i]?=some x:=e1;unfold hO at e2
   by_cases hik:i<⇑own
   ·rw[iU (by simpa using hik),List.getElem?_replicate,ai hik] at e2;cases e2
   ·rw[ir (by simpa using hik),jV,aS] at e2;rw[ir ⋯] at e1;obtain⟨j,hj,hNj,hk⟩:=hfr.get e1;rw[hj] at e2;have e2':(σ[j]?).join=some v:=Option.some.inj e2;have e2'':σ[j]?=some (some v):=by
     cases q:σ[j]? with
     | none=>rw[q] at e2';cases e2'
     | some o=>rw[q] at e2';cases o with
      | none=>cases e2'
      | some y=>have:y=v:=Option.some.inj e2';rw[this]
    obtain⟨u,r,lk⟩:=hl j x v hNj e2'' (hk.elim (fun z=>.inr (.inl z)) fun z=>.inr (.inr z));refine⟨u,r,?_⟩;rcases lk with ⟨k1,_⟩ | ⟨_,c,hcl,hcell⟩
    ·rcases hk with z | z<;>(rw[k1] at z;cases z)
    ·have hx3:(compEnvC scope cl H2.objs.size X.env).kindOf x=some .local∨(compEnvC scope cl H2.objs.size X.env).kindOf x=some .cell∨(compEnvC scope cl H2.objs.size X.env).kindOf x=some .free:=e3;rcases hx3 with z | z
     ·exfalso;have z':(scope.names.map fun (n,k)=>if (k==NameKind.free&&X.env.scope.kind==.function&&X.env.kindOf n==some .cell) then (n,NameKind.cell) else (n,k)).lookup x=some .local:=z;rcases mw z' with q | ⟨q,_⟩
      ·exact hloc x (bL e1) (B.names _ q rfl)
      ·cases q
     ·obtain⟨c',hc'⟩:=æ.has x z;have q:=sub x c' hc';rw[hcl] at q;have q':c=c':=Option.some.inj q;subst q';refine .inr ⟨z,c,hc',?_⟩;obtain⟨o,ho,hd⟩:=hcell;exact⟨o,old _ _ ho,hd⟩
  ·obtain⟨v,o,ho,hd⟩:=I.cell x c (sub x c e);exact⟨v,o,old _ _ ho,hd⟩
  ·show upd H1 _ _ H2.objs.size=none;rw[aG (b7 hDC)];exact C0
  ·obtain⟨v,o,ho,hd⟩:=I.cell x c (sub x c e);rw[aG (below c (aH ho)).2];exact I.freeC x c (sub x c e)
  ·cases hp
  ·exact I.hok.laid old (av _) ⟨bc _,[],_,.nil,hacc⟩
  ·unfold hO;show _=⇑(own++frn);rw[aF,aF,jV,af,hfr.len]
 -- the iterator's objects in the block
 have fpx:∀ {H:Hp},(∀ b∈fp,H b=none)->∀ b∈fp,tX (X.ß (own++frn) scope cl H2.objs.size s₂ H1 fp) [] H b:=fun {H} hn b hb=>by
  obtain⟨f0,f1,f2,f3,f4,f5⟩:=hf b hb;obtain⟨o,e,_⟩:=hfo b hb;refine⟨hn b hb,(below b (aH e)).1,fun z=>?_,.inl hb,fun x c e=>f4 x c (sub x c e),fun p hp=>by cases hp⟩;rcases aU.mp (I.yB b z) with z | z
  ·exact f1 z
  ·exact f2 z
 have st1:tn 0 h₁:=T.keep _ _ _ st0 fun b _ o e=>old b o e;have fr0:∀ b∈fp,upd H1 s₂.heap.objs.size (.lst []) b=none:=fun b hb=>by obtain⟨o,e,_⟩:=hfo b hb;rw[aG (below b (aH e)).2];exact (hf b hb).1
 have loop:codeAny (model X.prog X.w) X.A (.compLoop (.ListComp elt [⟨target,iter,ifs,0⟩] scope pos) 0 (.ref it) (.ref s₂.heap.objs.size) (compEnvC scope cl H2.objs.size X.env))
   (RR (.ref s₂.heap.objs.size) H2.objs.size) { s₂ with heap:=h₁,toks:=s₂.toks+⇑([]:List (Str×Value)) }:=by
  refine yH (fun n s'=>∃ i ys σ1 H,Inv (X.ß (own++frn) scope cl H2.objs.size s₂ H1 fp) [] σ1 H s'/\tn i s'.heap/\(∀ b∈fp,H b=none)/\W i n ys σ1 H) ?_ m0 ⟨0,[],_,_,I0,st1,fr0,w0⟩;rintro n s3 ⟨i,ys,σ3,H3,I3,st3,fr3,w3⟩;obtain⟨hD3,hsz,alt⟩:=turn i n ys σ3 H3 w3;rcases alt with ⟨stop,qn⟩ | ⟨go,step⟩
  ·refine Â (T.done (X.ß (own++frn) scope cl H2.objs.size s₂ H1 fp) rfl rfl rfl hc i [] s3 σ3 H3 _ I3 (fpx fr3) st3 stop) fun r s4 ⟨hr,I4⟩=>?_;subst hr;obtain⟨m,hn,_⟩:=id I4.loc;have hch:∀ b∈fp,(b∈X.ex∨X.s₀.heap.objs.size<=b)/\b≠X.env.locals/\(∀ x c,X.env.cells.lookup x=some c->c≠b)/\∀ p∈X.pn++Yp,p.1≠b:=fun b hb=>by
    obtain⟨f0,f1,f2,f3,f4,f5⟩:=hf b hb;exact⟨f3,f1,f4,f5⟩
   have IX:Inv X Yp σ H3 s4:=I.wD I4.os I4.base I4.hok I4.bare hch;exact fin _ _ s4 H3 m hCle IX hn (I.zb hCle I4.free) qn
  ·refine Â (T.item (X.ß (own++frn) scope cl H2.objs.size s₂ H1 fp) rfl rfl rfl hc i [] s3 σ3 H3 _ I3 (fpx fr3) st3 go) fun r s4 ⟨u,hr,h4⟩=>?_;subst hr;refine Â h4 fun _ s5 ⟨x,H5,I5,r5,y5,st5,fr5⟩=>?_;have I5':=I5.pinned (fpx fr5) (T.obj _ _ st5);refine Â (hg _ _ _ _ _ s5 σ3 H5 x u _ I5' r5 (step x H5 y5)) fun _ s6 ⟨σ6,H6,I6,q6⟩=>?_;refine Â (hi _ _ _ _ _ s6 σ6 H6 _ I6 q6) fun b s7 ⟨H7,I7,q7⟩=>?_;have again:∀ {ys':List V}{H8:Hp}{s8:Zg}{m':Nat},Inv (X.ß (own++frn) scope cl H2.objs.size s₂ H1 fp) ([]++vz fp s5.heap) σ6 H8 s8->m'<n->W (i+1) m' ys' σ6 H8 →
     ∃ m,m<n/\∃ i ys σ1 H,Inv (X.ß (own++frn) scope cl H2.objs.size s₂ H1 fp) [] σ1 H s8/\tn i s8.heap/\(∀ b∈fp,H b=none)/\W i m ys σ1 H:=fun {ys' H8 s8 m'} I8 hm w8=>by
    refine⟨m',hm,i+1,ys',σ6,H8,I8.r6,T.keep _ _ _ st5 fun b hb o e=>(I8.pin (b,o) (fk _ (fk _ (me hb e)))).1,fun b hb=>?_,w8⟩;obtain⟨o,e,d⟩:=T.obj _ _ st5 b hb;exact (I8.pin (b,o) (fk _ (fk _ (me hb e)))).2.1
   cases b with
   | false =>rw[ag cu] at q7 ⊢;obtain⟨m',hm,w7⟩:=q7;exact again I7 hm w7
   | true =>rw[ai rfl] at q7 ⊢;refine Â (he _ _ _ _ _ s7 σ6 H7 _ I7 q7) fun v s8 ⟨y,H8,I8,r8,hD8,m',hm,w8⟩=>?_;refine Â (gR (X:=X.ß (own++frn) scope cl H2.objs.size s₂ H1 fp) _ s8 σ6 H8 (.ref s₂.heap.objs.size) [y] _ [v] (fun _ H9=>W (i+1) m' (ys++[y]) σ6 H9) I8 rfl (.cons r8 .nil) ⟨_,ys,y,rfl,rfl,hD8,hsz,w8⟩) fun _ s9 ⟨_,H9,I9,_,w9⟩=>?_;exact again I9 hm w9
 exact codeAny_compStart_list loop (T.self X.A 0 _ _ _ st1 loop)
end
noncomputable def ĕ (k:Nat) (js:Za) (wi:TI) (g:TG) (tc:TT) (te:TE):TE:=fun σ H Q=>wi σ H fun J H1=>eE g tc te (hO k js σ) J H1 Q
section
variable {X:Cx}
theorem fH {elt target iter:Expr}{ifs:List Expr}{pos:Pos}{wi:TI}{g:TG}{tc:TT}{te:TE} (own:Ze) (hc:X.calm=true) (B:Cg X scope cl) (hfr:uG X frn js)
  (hloc:∀ x∈frn,scope.names.lookup x≠some .local) (hi:PI X target iter wi)
  (hg:∀ C s₀ H₀ ex,PG (X.ß (own++frn) scope cl C s₀ H₀ ex) target g) (hif:∀ C s₀ H₀ ex,þ (X.ß (own++frn) scope cl C s₀ H₀ ex) ifs tc) (he:∀ C s₀ H₀ ex,PE (X.ß (own++frn) scope cl C s₀ H₀ ex) elt te)
  (hs:∀ x,foldedSetIterable iter X.env x=pure x:=by intro _;rfl):PE X (.ListComp elt [⟨target,iter,ifs,0⟩] scope pos) (ĕ ⇑own js wi g tc te):=by
 intro Yp s σ H Q I h;rw[eval_ListComp];refine wpAny_comprehension_free (use:=none) rfl hs (j7 B.Ü) B.kind B.names (Â (hi Yp s σ H _ I h) fun v s1 h1=>Â h1 fun itv s2 h2=>?_);obtain⟨it,fp,tn,J,H2,e,I2,T,st2,f2,hq⟩:=h2;subst e;refine Cm (RR:=fun acc C=>compPost (model X.prog X.w) X.A X.xe none (EP X Yp σ Q) acc C) hc B hfr hloc hg hif he I2 T st2 f2 hq ?_;intro D C s' H' m hC I' hn fC q;exact⟨m,hn,fun h' sb=>⟨.ref D,H',I'.turned (t':=s'.toks) (fun b o hb e=>(sb.2 b hb).trans e) fC.1 fC.2.1 fC.2.2.2.1 fC.2.2.2.2.1 fC.2.2.2.2.2,rfl,q⟩⟩
theorem lE {elt target iter:Expr}{ifs:List Expr}{scope:Scope}{pos py spos:Pos}{y:Str}{cl:List (Str×Addr)}{frn:Ze}{js:Za}{wi:TI}{g:TG}{tc:TT}{te:TE} (own:Ze) (hN:X.N.Nodup) (hiy:X.N[i]?=some y)
  (hy:Loc X.env.scope y) (hc:X.calm=true) (B:Cg X scope cl) (hfr:uG X frn js)
  (hloc:∀ x∈frn,scope.names.lookup x≠some .local) (hi:PI X target iter wi)
  (hg:∀ C s₀ H₀ ex,PG (X.ß (own++frn) scope cl C s₀ H₀ ex) target g) (hif:∀ C s₀ H₀ ex,þ (X.ß (own++frn) scope cl C s₀ H₀ ex) ifs tc) (he:∀ C s₀ H₀ ex,PE (X.ß (own++frn) scope cl C s₀ H₀ ex) elt te)
  (hsw:swapsWith (.ListComp elt [⟨target,iter,ifs,0⟩] scope pos) (some (.Name y py)) spos.line X.env=pure true:=by rfl)
  (hs:∀ x,foldedSetIterable iter X.env x=pure x:=by intro _;rfl)
  (hf:X.fn y=true∨X.env.scope.names.lookup y=some .local:=by first | exact .inl rfl | exact .inr rfl | assumption) :
  PS X (.Assign [.Name y py] (.ListComp elt [⟨target,iter,ifs,0⟩] scope pos) spos) (ES (ĕ ⇑own js wi g tc te) (fG i)):=by
 intro Yp s σ H D I h;rw[exec_Assign_Name_used _ _ _ _ hsw];refine aa (iE (aa ?_));show wpAny _ X.A (do let _ ←comprehension (.ListComp elt [⟨target,iter,ifs,0⟩] scope pos) scope X.env _ (newList []) false (eval iter X.env) (some (assign (.Name y py) X.env))) _ _ s;refine aa (bO (wpAny_comprehension_free (use:=some (assign (.Name y py) X.env)) (Q:=fun _ s'=>SP X Yp D .next s') rfl hs (j7 B.Ü) B.kind B.names
  (Â (hi Yp s σ H _ I h) fun v s1 h1=>Â h1 fun itv s2 h2=>?_)) (fun _ s' hq=>aq (aq hq)) fun _ _ e=>e)
 obtain⟨it,fp,tn,J,H2,e,I2,T,st2,f2,hq⟩:=h2;subst e;refine Cm (Q:=fun x H1=>D.nx (σ.set i (some x)) H1) (RR:=fun acc C=>compPost (model X.prog X.w) X.A X.xe (some (assign (.Name y py) X.env)) (fun _ s'=>SP X Yp D .next s') acc C) hc B hfr hloc hg hif he I2 T st2 f2 hq ?_;intro L C s' H' m hC I' hn fC q;show wpAny _ X.A (assign (.Name y py) X.env (.ref L)) _ _ _;refine wpAny_assign_Name (xl (v:=.ref L) I' hN hiy hy rfl (fun s'' I'' ⟨a,sb,ha⟩=>?_) hf);have hCa:C≠a:=by
  rcases ha with z | z
  ·rw[z];exact fC.2.1
  ·exact fun e=>fC.2.2.2.2.1 y a z e.symm
 exact⟨m,hn.sameBut sb hCa,fun h' sb'=>⟨_,H',I''.turned (t':=s''.toks) (fun b o hb e=>(sb'.2 b hb).trans e) fC.1 fC.2.1 fC.2.2.2.1 fC.2.2.2.2.1 fC.2.2.2.2.2,q⟩⟩
end
noncomputable def It.Seq (J:It) (H1:Hp) (xs:List V):Prop :=
 ∀ H,a9 H1 H->(∀ i x,xs[i]?=some x->J.go i H/\∀ y H',J.yld i H y H'->H'=H/\y=x)/\∀ i,⇑xs<=i->J.stop i H
theorem cT (h:Æ K H1 a xs):(ê K a).Seq H1 xs:=fun H s =>⟨fun i x e=>⟨⟨xs,x,s.seq h,e⟩,fun y H' ⟨e1,e2⟩=>⟨e1,Option.some.inj ((e2 xs (s.seq h)).symm.trans e)⟩⟩,fun i hi=>⟨xs,s.seq h,hi⟩⟩
theorem EN {n:Nat}:(é lo n).Seq H1 ((List.range n).map fun (k:Nat)=>V.int (lo+(k:Int))):=fun H s=>by
 refine⟨fun i x e=>?_,fun i hi=>?_⟩
 ·have hi:i<n:=by
   have:=(br.mp e).1
   simpa using this
  rw[aS,lO hi] at e;have e':V.int (lo+(i:Int))=x:=Option.some.inj e;exact⟨hi,fun y H' ⟨e1,e2⟩=>⟨e1,by rw[e2,e']⟩⟩
 ·show n<=i
  simpa using hi
theorem a9.cf {H H':Hp} (h:a9 H H') (hn:H a=none):a9 H (upd H' a o):=fun b u e=>by rw[aG (aQ e hn)];exact h b u e
theorem Gw {js:Za}{σ:St}{tc:TT}{te:TE}{Q:VK} (hJ:J.Seq H1 xs) (hl:⇑xs<sizeLine) (p:V->Bool) (f:V->V)
  (hc:∀ x∈xs,∀ H,a9 H1 H->∀ R:Bool->Hp->Prop,(∀ H',a9 H H'->R (p x) H')->tc (some x::js.map fun j=>(σ[j]?).join) H R)
  (he:∀ x∈xs,p x=true->∀ H,a9 H1 H->∀ R:VK,(∀ H',a9 H H'->R (f x) H')->te (some x::js.map fun j=>(σ[j]?).join) H R)
  (q:∀ D H,H1 D=none->a9 H1 H->H D=some (.lst ((xs.filter p).map f))->Q (.ref D) H):eE (fG 0) tc te (hO 1 js σ) J H1 Q:=by
 intro D hD;refine⟨fun i m ys σ1 H=>m=⇑xs-i/\i<=⇑xs/\(∃ o,σ1=o::js.map fun j=>(σ[j]?).join)/\ys=((xs.take i).filter p).map f/\a9 H1 H/\H D=some (.lst ys),
  ⟨⇑xs,by simp,bc _,⟨none,rfl⟩,by simp,(a9.refl H1).cf hD,aC⟩,?_⟩
 rintro i m ys σ1 H ⟨rfl,hi,⟨o,rfl⟩,rfl,sH,hL⟩;have hlen:⇑(((xs.take i).filter p).map f)<sizeLine:=by
  rw[af];have h1:=jU p (xs.take i);have h2:⇑(xs.take i)<=⇑xs:=by rw[bK];left
  left
 refine⟨hL,hlen,?_⟩
 by_cases hlt:i<⇑xs
 ·have e:xs[i]?=some xs[i]:=by simp [hlt]
  obtain⟨go,yl⟩:=(hJ H sH).1 i xs[i] e;refine .inr ⟨go,fun x H' y=>?_⟩;obtain⟨e1,e2⟩:=yl x H' y;subst e1 e2;have hm:xs[i]∈xs:=cZ hlt;have htk:xs.take (i+1)=xs.take i++[xs[i]]:=by rw[gA,e];rfl
  show tc (some xs[i]::js.map fun j=>(σ[j]?).join) H' _;refine hc xs[i] hm H' sH _ fun H3 s3=>?_;cases hp:p xs[i] with
  | false =>rw[ag cu];refine⟨⇑xs-(i+1),⋯,rfl,hlt,⟨_,rfl⟩,?_,sH.trans s3,s3 _ _ hL⟩;rw[htk,iq];simp [hp]
  | true =>rw[ai rfl];refine he xs[i] hm hp H3 (sH.trans s3) _ fun H4 s4=>?_;refine⟨s4 _ _ (s3 _ _ hL),⇑xs-(i+1),⋯,rfl,hlt,⟨_,rfl⟩,?_,((sH.trans s3).trans s4).cf hD,aC⟩;rw[htk,iq];simp [hp]
 ·have e:i=⇑xs:=⋯
  subst e;refine .inl ⟨(hJ H sH).2 _ (av _),q D H hD sH ?_⟩;rw[jX] at hL;exact hL
theorem Gv {js:Za}{σ:St}{te:TE}{Q:VK} (hJ:J.Seq H1 xs) (hl:⇑xs<sizeLine) (f:V->V)
  (he:∀ x∈xs,∀ H,a9 H1 H->∀ R:VK,(∀ H',a9 H H'->R (f x) H')->te (some x::js.map fun j=>(σ[j]?).join) H R)
  (q:∀ D H,H1 D=none->a9 H1 H->H D=some (.lst (xs.map f))->Q (.ref D) H):eE (fG 0) ur te (hO 1 js σ) J H1 Q :=
 Gw hJ hl (fun _=>true) f (fun x _ H _ R hR=>hR H (a9.refl H)) (fun x hx _ H s R hR=>he x hx H s R hR) fun D H h1 h2 h3=>q D H h1 h2 (by rw[List.filter_eq_self.mpr (fun _ _=>rfl)] at h3;exact h3)
end
section
section
variable {X:Cx}
noncomputable def Im (i j:Int):Prop:=i.natAbs<2^1000/\j.natAbs<2^1000
theorem JA:Ë X (binaryOp .Mult) (rI Im fun i j=>.int (i*j)):=ą fun _ _ _ _ _ _ _ hc q =>mul_int q (IntMulOk.of_bits (aX (intBits_le_iff.mpr hc.1) Zd) (aX (intBits_le_iff.mpr hc.2) Zd))
noncomputable def MK (_ j:Int):Prop:=0<j/\j<2^1000
theorem GP:Ë X (binaryOp .FloorDiv) (rI MK fun i j=>.int (i/j)):=ą fun i j _ _ _ _ _ hc q=>by
 have h1:(0:Int)<j:=hc.1;have h2:j<2^1000:=hc.2;have h3:j.natAbs<2^1000:=by
  have e:((j.natAbs:Nat):Int)=j:=Int.natAbs_of_nonneg ⋯;have e2:((2^1000:Nat):Int)=(2:Int)^1000:=by rw[Int.natCast_pow];rfl
  left
 refine floordiv_int ⋯ (by rw[Int.fdiv_eq_ediv_of_nonneg i ⋯];exact q) (.inl (PyProof.noPylong_of_log2 ?_));have h4:j.natAbs≠0:=⋯
 exact bH ((Nat.log2_lt h4).mpr h3) Zd
theorem GR:Ë X (compareOp .Is) (fun x y H Q=>∃ a b,x=.bl a/\y=.bl b/\Q (.bl (a==b)) H):=by intro Yp s σ H x y v u Q I rx ry h;obtain⟨a,b,rfl,rfl,q⟩:=h;cases rx;cases ry;exact is_bool (cy I q rfl)
theorem zJ:Ë X (compareOp .IsNot) (fun x y H Q=>∃ a b,x=.bl a/\y=.bl b/\Q (.bl (a != b)) H):=by intro Yp s σ H x y v u Q I rx ry h;obtain⟨a,b,rfl,rfl,q⟩:=h;cases rx;cases ry;exact isnot_bool (cy I q rfl)
noncomputable def Ov (K:Zf):List V->Hp->VK->Prop:=fun xs H Q=>∃ x t c b,xs=[x,.ty c]/\pC K H x t/\PySem.W.kitOne K t (.type c)=some b/\Q (.bl b) H
theorem F2:da X (.builtin "isinstance") (Ov X.K):=by intro Yp s σ H xs us Q I r h;obtain⟨x,t,c,b,rfl,ty,e,q⟩:=h;obtain⟨u,w',rfl,ru,rw'⟩:=vals2 r;obtain rfl:w'=Value.type c:=rw';exact isinst_ok I ru ty e fun tk=>⟨.bl b,H,I.tok tk,rfl,q⟩
noncomputable def qK:List V->List V->Bool
 | [],[]=>true
 | x::xs,y::ys=>â x y&&qK xs ys
 | _,_=>false
theorem uQ:∀ {xs ys:List V},⇑xs≠⇑ys->qK xs ys=false
 | [],[],h=>absurd rfl h
 | [],_::_,_=>rfl
 | _::_,[],_=>rfl
 | x::xs,y::ys,h=>by have h':⇑xs≠⇑ys:=fun e=>h (by rw[bf,bf,e]);show (â x y&&qK xs ys)=false;rw[uQ h',Bool.and_false]
theorem ma:∀ {xs ys:List V},⇑xs=⇑ys->(List.range ⇑xs).all (fun j=>â (xs.getD j .non) (ys.getD j .non))=qK xs ys
 | [],[],_=>rfl
 | [],_::_,h=>by cases h
 | _::_,[],h=>by cases h
 | x::xs,y::ys,h=>by
  have h':⇑xs=⇑ys:=by simpa using h
  rw[bf,List.range_succ_eq_map,iT,fW];show (â x y&&(List.range ⇑xs).all (fun j=>â (xs.getD j .non) (ys.getD j .non)))=(â x y&&qK xs ys);rw[ma h']
theorem Ej (xs:Zb):(xs.map V.int).all eK=true:=by rw[c9];intro v hv;obtain⟨i,_,rfl⟩:=aK.mp hv;rfl
noncomputable def N5 (K:Zf) (neg:Bool):R2:=fun x y H Q=>∃ a b xs ys,x=.ref a/\y=.ref b/\Æ K H a xs/\Æ K H b ys/\xs.all eK=true/\ys.all eK=true/\Q (.bl (if neg then !qK xs ys else qK xs ys)) H
theorem uP {A:Around}{s:Zg}{xs ys:List V}{us vs:Zc} (r1:Vals xs us) (r2:Vals ys vs) (f1:xs.all eK=true) (f2:ys.all eK=true) (j:Nat) (h1:j<us.toArray.size) (h2:j<vs.toArray.size) :
  SeqAt.EqAt A s us.toArray[j] vs.toArray[j] (â (xs.getD j .non) (ys.getD j .non)):=by
 have l1:=⇑r1;have l2:=⇑r2;rw[bA] at h1 h2;have e1:xs[j]?=some (xs[j]'⋯):=by simp [show j<⇑xs by left]
 have e2:ys[j]?=some (ys[j]'⋯):=by simp [show j<⇑ys by left]
 obtain⟨u,hu,ru⟩:=r1.get e1;obtain⟨v,hv,rv⟩:=r2.get e2;have hu':us.toArray[j]=u:=by
  have:=br.mp hu
  simpa using this.2
 have hv':vs.toArray[j]=v:=by
  have:=br.mp hv
  simpa using this.2
 rw[hu',hv',aT,aT,e1,e2];exact FC ru rv (c9.mp f1 _ (cZ _)) (c9.mp f2 _ (cZ _))
theorem Mf (hu:X.A.units<cLine):Ë X (compareOp .Eq) (N5 X.K false):=by
 intro Yp s σ H x y v u Q I rx ry h;obtain⟨a,b,xs,ys,rfl,rfl,ha,hb,f1,f2,q⟩:=h;cases rx;cases ry;obtain⟨us,r1,p1,_⟩:=I.list ha;obtain⟨vs,r2,p2,_⟩:=I.list hb;have l1:=⇑r1;have l2:=⇑r2
 by_cases hl:⇑xs=⇑ys
 ·refine SeqAt.eq_listAt p1.isList p2.isList (by simp only[bA];left) hu (fun j h1 h2=>uP r1 r2 f1 f2 j h1 h2) ⟨.bl _,H,I,rfl,?_⟩;rw[bA,←l1,ma hl];exact q
 ·refine SeqAt.eq_list_lengthsAt p1.isList p2.isList (by simp only[bA,bne_iff_ne,ne_eq];left) hu ⟨.bl _,H,I,rfl,?_⟩;have e:=uQ hl;rw[ag cu,e] at q;exact q
theorem Ml (hu:X.A.units<cLine):Ë X (compareOp .NotEq) (N5 X.K true):=by
 intro Yp s σ H x y v u Q I rx ry h;obtain⟨a,b,xs,ys,rfl,rfl,ha,hb,f1,f2,q⟩:=h;cases rx;cases ry;obtain⟨us,r1,p1,_⟩:=I.list ha;obtain⟨vs,r2,p2,_⟩:=I.list hb;have l1:=⇑r1;have l2:=⇑r2
 by_cases hl:⇑xs=⇑ys
 ·refine SeqAt.RcNeAt.lists p1.isList p2.isList (by simp only[bA];left) hu (fun j h1 h2=>uP r1 r2 f1 f2 j h1 h2) _ _ _ _ ⟨.bl _,H,I,rfl,?_⟩;rw[bA,←l1,ma hl];exact q
 ·refine SeqAt.RcNeAt.lists_lengths p1.isList p2.isList (by simp only[bA,bne_iff_ne,ne_eq];left) hu _ _ _ _ ⟨.bl _,H,I,rfl,?_⟩;have e:=uQ hl;rw[ai rfl,e] at q;exact q
theorem Vals.bools:∀ {bs:List Bool}{us:Zc},Vals (bs.map V.bl) us->us=bs.map Value.bool
 | [],_,.nil=>rfl
 | b::bs,_::_,.cons r t=>by
  cases (show _=Value.bool b from r)
  rw[bg,Vals.bools t]
theorem all_range (bs:List Bool):(List.range ⇑bs).all (fun i=>bs.getD i false)=bs.all id:=by
 induction bs with
 | nil=>rfl
 | cons b r ih =>rw[bf,List.range_succ_eq_map,iT,fW,iT];show (b&&(List.range ⇑r).all (fun i=>r.getD i false))=_;rw[ih];rfl
theorem Aj (bs:List Bool) (A:Around) (P:Zh) (w:Zi):TruthOf P w A (fun i v=>(bs.map Value.bool).toArray[i]?=some v) (fun i=>bs.getD i false):=fun i v s Q E hP hQ=>by
 have e:(bs[i]?).map Value.bool=some v:=by simpa using hP
 cases q:bs[i]? with
 | none=>rw[q] at e;cases e
 | some b =>
  rw[q] at e;have e':Value.bool b=v:=Option.some.inj e;subst e';have hb:bs.getD i false=b:=by rw[aT,q];rfl
  have hQ':Q (bs.getD i false) s:=hQ;rw[hb] at hQ';exact fB hQ'
noncomputable def N4 (K:Zf):List V->Hp->VK->Prop:=fun vs H Q=>∃ (a:Addr) (bs:List Bool),vs=[.ref a]/\Æ K H a (bs.map V.bl)/\Q (.bl (bs.all id)) H
theorem D3 (hc:X.calm=true):da X (.builtin "all") (N4 X.K):=by
 intro Yp s σ H xs us Q I r h;obtain⟨a,bs,rfl,hq,q⟩:=h;obtain⟨u,rfl,ru⟩:=vals1 r;cases ru;obtain⟨its,rv,p,hz⟩:=I.list hq;obtain rfl:=rv.bools;have ha:a<s.heap.objs.size:=by obtain⟨o,e,_⟩:=p.isList;exact aH e
 refine call_all_walk (wpAny_pyIter_list p.isList ⟨s.heap.objs.size,_,_,_,_,_,fun i=>bs.getD i false,rfl,Walks.list (A:=X.A.in1) (I.ok.hd hc) _ a (bh ha) _,⟨⟨_,bz _ rfl,rfl,rfl⟩,p.isList.push _⟩,Aj bs _ _ _,fun h' tk hk=>?_⟩);refine⟨.bl (bs.all id),H,I.kept fun b o e=>hk b o (fun z=>?_) (aE _ e),?_,q⟩
 ·have z':b=s.heap.objs.size:=by simpa using z
  exact absurd (aH e) (by rw[z'];exact fq _)
 ·show Value.bool _=Value.bool _;rw[←all_range bs];simp
noncomputable def NB (K:Zf):List V->Hp->VK->Prop:=fun vs H Q=>∃ (a:Addr) (ns:Zb),vs=[.ref a]/\Æ K H a (ns.map V.int)/\Q (.int ns.sum) H
theorem DH (hc:X.calm=true):da X (.builtin "sum") (NB X.K):=by intro Yp s σ H xs us Q I r h;obtain⟨a,ns,rfl,hq,q⟩:=h;obtain⟨u,rfl,ru⟩:=vals1 r;cases ru;obtain⟨its,rv,p,hz⟩:=I.list hq;have hi:IntsAre its ns:=intsAre_of rv;obtain⟨zs,hzs⟩:=hi.allInts.items;have hl:=p.isList;rw[hzs] at hl;refine sum_intListG (I.ok.hd hc) hl fun h' tk t' hk=>⟨.int ns.sum,H,I.kept hk,⟨t',?_⟩,q⟩;have e1:numsOf (intItems zs).toList=zs.toList.map (·.1):=nums_intItems zs;rw[←hzs] at e1;have e2:numsOf its=ns:=hi.numsOf;rw[preSum_eq,ef (by simp),←e1];show Value.int (numsOf its).sum t'=_;rw[e2]
noncomputable def N9:List V->Hp->VK->Prop:=fun vs H Q=>∃ j:Int,vs=[.int j]/\∀ p,H p=none->Q (.ref p) (upd H p (.rng 0 j))
theorem DD:da X (.type "range") N9:=by intro Yp s σ H xs us Q I r h;obtain⟨j,rfl,q⟩:=h;obtain⟨u,rfl,t,rfl⟩:=vals1 r;refine call_range_1 ?_;exact⟨.ref s.heap.objs.size,_,I.laid (fun b ob e=>aE _ e) (av _) (show cj X.prog X.w _ _ _ (.rng 0 j) from ⟨_,_,_,bz _ rfl⟩),rfl,q _ (I.hok.fresh (av _))⟩
noncomputable def v8 (lo:Int) (n:Nat):List V:=(List.range n).map fun (k:Nat)=>V.int (lo+(k:Int))
theorem Cd {n:Nat}{acc:Array Value} (h:ItemsOf (fun (i:Nat) v=>∃ t,v=Value.int (lo+(i:Int)*1) t) acc n):Vals (v8 lo n) acc.toList:=by
 obtain⟨hs,hi⟩:=h;have key:∀ (xs:Zc) (m:Nat),(∀ j v,xs[j]?=some v->∃ t,v=Value.int (lo+((m+j:Nat):Int)) t)->Vals ((List.range' m ⇑xs).map fun (k:Nat)=>V.int (lo+(k:Int))) xs:=by
  intro xs
  induction xs with
  | nil=>intro m _;exact .nil
  | cons x r ih =>
   intro m hx;rw[bf,List.range'_succ,bg];refine .cons ?_ (ih (m+1) fun j v e=>?_)
   ·obtain⟨t,e⟩:=hx 0 x rfl;exact⟨t,by simpa using e⟩
   ·obtain⟨t,e'⟩:=hx (j+1) v (by simpa using e);exact⟨t,by rw[e'];congr 2;left⟩
 have:=key acc.toList 0 fun j v e=>by obtain⟨t,e'⟩:=hi j v (by simpa using e);exact⟨t,by rw[e',Int.mul_one,Nat.zero_add]⟩
 rw[cD,hs,←List.range_eq_range'] at this;exact this
noncomputable def Hw:List V->Hp->VK->Prop:=fun vs H Q=>∃ a lo hi,vs=[.ref a]/\H a=some (.rng lo hi)/\(-(2^62)<=lo/\lo<2^62/\-(2^62)<=hi/\hi<2^62)/\(hi-lo).toNat<=2^20/\∀ p,H p=none->Q (.ref p) (upd H p (.lst (v8 lo (hi-lo).toNat)))
theorem xA (hc:X.calm=true):da X (.type "list") Hw:=by
 intro Yp s σ H xs us Q I r h;obtain⟨a,lo,hi,rfl,ha,⟨h1,h2,h3,h4⟩,hn,q⟩:=h;obtain⟨u,rfl,ru⟩:=vals1 r;cases ru;obtain⟨t,u,v,e⟩:=(show cj X.prog X.w H s.heap a (.rng lo hi) from I.hok a _ ha);refine call_list_range (n:=(hi-lo).toNat) (I.ok.hd hc) e (small_one h1 h2 h3 h4) (by rw[rangeSize_one];split<;>left) ⋯ fun h' tk acc c hk hS hacc=>?_;have hv:=Cd hacc;have hlen:⇑(v8 lo (hi-lo).toNat)<=sizeLine:=by unfold v8;rw[af,cJ];exact aX hn Zd
 exact⟨.ref s.heap.objs.size,_,I.laid hk (av _) (show cj X.prog X.w _ _ _ (.lst (v8 lo (hi-lo).toNat)) from ⟨hlen,acc.toList,c,hv,by simpa using hS⟩),rfl,q _ (I.hok.fresh (av _))⟩
theorem Inv.KZ {t':Nat} (I:Inv X Yp σ H s) (hf:∀ b∈ch,tX X Yp H b) (k:∀ b o,b∉ch->s.heap.get? b=some o->h'.get? b=some o) :
  Inv X Yp σ H { s with heap:=h',toks:=t' }:=by
 have nch:∀ b u,H b=some u->b∉ch:=fun b u e z=>by rw[(hf b z).1] at e;cases e
 refine I.step (g':=s.gens) (d':=s.drawn) (ch:=ch) (fun b hb=>?_) (fun b o _ _ hc e _=>k b o hc e) (fun b o _ _ hc e _=>⟨o.slots,k b o hc e⟩) (fun _ _ _ _ n=>n) (fun b o hc e=>⟨o,k b o hc e⟩) (fun _ _ e=>e) (fun _ _ _ e=>e)
  (fun b ps e=>⟨#[],by rw[e];simp⟩) (fun m hm=>?_) (fun b u e=>?_) I.bare
 ·obtain⟨_,f1,_,f3,f4,f5⟩:=hf b hb;exact⟨f3,f1,f4,f5⟩
 ·obtain⟨o,es,ep,ho,r⟩:=hm;exact⟨o,es,ep,k _ o (fun z=>(hf _ z).2.1 rfl) ho,r⟩
 ·refine (I.hok b u e).mD (fun c v hc q=>k c v ?_ q) (fun _ q=>q) fun _ _ q=>q;rcases hc with z | z
  ·rw[z];exact nch b u e
  ·exact nch c _ z
theorem Inv.Dl {h':Heap}{t':Nat}{T:Addr}{o':HO} (I:Inv X Yp σ H s) (hf:∀ b∈ch,tX X Yp H b)
  (k:∀ b o,b∉ch->s.heap.get? b=some o->h'.get? b=some o) (hk2:∀ b o,s.heap.get? b=some o->∃ o',h'.get? b=some o') (hT:s.heap.objs.size<=T) (new:cj X.prog X.w (upd H T o') h' T o') :
  Inv X Yp σ (upd H T o') { s with heap:=h',toks:=t' }:=by
 have nch:∀ b u,H b=some u->b∉ch:=fun b u e z=>by rw[(hf b z).1] at e;cases e
 have hTn:H T=none:=I.hok.fresh hT;have neT:∀ b o,s.heap.get? b=some o->b≠T:=fun b o e=>bh (bH (aH e) hT);refine I.step (g':=s.gens) (d':=s.drawn) (ch:=ch) (fun b hb=>?_) (fun b o _ _ hc e _=>k b o hc e) (fun b o _ _ hc e _=>⟨o.slots,k b o hc e⟩) (fun b o _ e n=>by rw[aG (neT b o e)];exact n) (fun b o hc e=>⟨o,k b o hc e⟩)
  (fun b xs e=>by rw[aG (aQ e hTn)];exact e) (fun b u xs e=>by rw[aG (aQ e hTn)];exact e) (fun b ps e=>⟨#[],by rw[aG (aQ e hTn),e];simp⟩) (fun m hm=>?_) (fun b u e=>?_) I.bare
 ·obtain⟨_,f1,_,f3,f4,f5⟩:=hf b hb;exact⟨f3,f1,f4,f5⟩
 ·obtain⟨o,es,ep,ho,r⟩:=hm;exact⟨o,es,ep,k _ o (fun z=>(hf _ z).2.1 rfl) ho,r⟩
 ·by_cases hb:b=T
  ·subst hb;rw[aC] at e;cases e;exact new
  ·rw[aG hb] at e;refine (I.hok b u e).mD (fun c v hc q=>k c v ?_ q) (fun c q=>by rw[aG (aQ q hTn)];exact q) fun c xs q=>by rw[aG (aQ q hTn)];exact q
   rcases hc with z | z
   ·rw[z];exact nch b u e
   ·exact nch c _ z
end
noncomputable def ü (K:Zf) (a b:Addr):It :=
 ⟨fun i H=>∃ xs ys x y,Æ K H a xs/\Æ K H b ys/\xs[i]?=some x/\ys[i]?=some y,
  fun i H v H'=>∃ x y p,(∀ xs,Æ K H a xs->xs[i]?=some x)/\(∀ ys,Æ K H b ys->ys[i]?=some y)/\v=.ref p/\H p=none/\H'=upd H p (.tup [x,y]),
  fun i H=>∃ xs ys,Æ K H a xs/\Æ K H b ys/\(⇑xs<=i∨⇑ys<=i)⟩
theorem Dr {a b z TI TO i1 i2:Addr} (st:IsZip h z TI TO .none/\IsPair h TI (.ref i1) (.ref i2)/\(∃ x y,IsPair h TO x y)/\h.IsListIter i1 a i/\h.IsListIter i2 b i):∀ c∈[z,TI,TO,i1,i2],∃ o,h.get? c=some o/\∀ v,o.data≠.cell v:=fun c hc=>by
 obtain⟨hz,hTI,⟨x,y,hTO⟩,⟨o1,e1,c1,d1⟩,⟨o2,e2,c2,d2⟩⟩:=st;simp only[aU,dO,dP] at hc;rcases hc with rfl | rfl | rfl | rfl | rfl
 ·exact⟨_,hz,fun v q=>by have q':Data.fields _=Data.cell v:=q;cases q'⟩
 ·exact⟨_,hTI,fun v q=>by have q':Data.seq _ _=Data.cell v:=q;cases q'⟩
 ·exact⟨_,hTO,fun v q=>by have q':Data.seq _ _=Data.cell v:=q;cases q'⟩
 ·exact⟨o1,e1,fun v q=>by rw[d1] at q;cases q⟩
 ·exact⟨o2,e2,fun v q=>by rw[d2] at q;cases q⟩
theorem Ib (a b z TI TO i1 i2:Addr) (D:ZipApart z TI TO i1 i2 a b):Turn P w K (.Tuple elts k pos) (ü K a b) [z,TI,TO,i1,i2] z
  (fun i h=>IsZip h z TI TO .none/\IsPair h TI (.ref i1) (.ref i2)/\(∃ x y,IsPair h TO x y)/\h.IsListIter i1 a i/\h.IsListIter i2 b i) where
 mem:=by simp
 obj:=fun i h st=>Dr st
 keep:=fun i h h' st k=>by obtain⟨hz,hTI,⟨x,y,hTO⟩,h1,h2⟩:=st;exact⟨k z (by simp) _ hz,k TI (by simp) _ hTI,⟨x,y,k TO (by simp) _ hTO⟩,h1.at fun o e=>k i1 (by simp) o e,h2.at fun o e=>k i2 (by simp) o e⟩
 item:=by
  intro X hP hw hK hc i Yp s σ H E I hf st hg;subst hP hw hK;obtain⟨xs,ys,x,y,hx,hy,ex,ey⟩:=hg;obtain⟨us,r1,p1,_⟩:=I.list hx;obtain⟨vs,r2,p2,_⟩:=I.list hy;obtain⟨u,hu,ru⟩:=r1.get ex;obtain⟨v,hv,rv⟩:=r2.get ey;obtain⟨hz,hTI,⟨ta,tb,hTO⟩,h1,h2⟩:=id st;refine wpAny_pyNext_zip_item D hz hTI hTO h1 h2 p1.isList p2.isList (x:=u) (y:=v) (by simpa using hu) (by simpa using hv) fun h' a1 a2 a3 a4 a5 a6 a7=>?_;refine⟨_,rfl,wpAny_letOwnedTupleGo_zip (s:={ s with heap:=h' }) a1 fun h'' b1 b2=>?_⟩;have b2':Heap.SameBut z h' h'':=b2;have ne:∀ c∈[z,TI,TO,i1,i2],c<s.heap.objs.size:=fun c hc=>by obtain⟨o,e,_⟩:=Dr st c hc;exact aH e
  have kk:∀ c o,c∉[z,TI,TO,i1,i2]->s.heap.get? c=some o->h''.get? c=some o:=fun c o hc e=>by simp only[aU,dO,dP,not_or] at hc;exact (b2'.2 c hc.1).trans (a7 c o hc.1 hc.2.2.1 hc.2.2.2.1 hc.2.2.2.2 e)
  have hT:h''.get? s.heap.objs.size=some { cls:=.type "tuple",data:=.seq #[u,v] }:=(b2'.2 _ (gB (ne z (by simp)))).trans a5;have I1:Inv X Yp σ (upd H s.heap.objs.size (.tup [x,y])) { s with heap:=h'' }:=by
   refine I.Dl (t':=s.toks) (ch:=[z,TI,TO,i1,i2]) hf kk (fun c o e=>?_) (av _) (show cj X.prog X.w _ h'' _ (.tup [x,y]) from ⟨by show 2<=sizeLine;decide,[u,v],.cons ru (.cons rv .nil),⟨_,hT,rfl,_,rfl⟩⟩)
   by_cases hc:c∈[z,TI,TO,i1,i2]
   ·simp only[aU,dO,dP] at hc;rcases hc with rfl | rfl | rfl | rfl | rfl
    ·exact⟨_,b1⟩
    ·exact⟨_,(b2'.2 _ D.TIz).trans (a7 _ _ D.TIz D.TITO D.TIi1 D.TIi2 hTI)⟩
    ·exact⟨_,(b2'.2 _ D.TOz).trans a2⟩
    ·obtain⟨o1,e1,_⟩:=a3;exact⟨_,(b2'.2 _ D.i1z).trans e1⟩
    ·obtain⟨o2,e2,_⟩:=a4;exact⟨_,(b2'.2 _ D.i2z).trans e2⟩
   ·exact⟨_,kk c o hc e⟩
  refine⟨.ref s.heap.objs.size,_,I1,rfl,⟨x,y,_,fun zs hz=>by rw[I.qO hz hx];exact ex,fun zs hz=>by rw[I.qO hz hy];exact ey,rfl,I.hok.fresh (av _),rfl⟩,⟨b1,(b2'.2 _ D.TIz).trans (a7 _ _ D.TIz D.TITO D.TIi1 D.TIi2 hTI),⟨u,v,(b2'.2 _ D.TOz).trans a2⟩,a3.at fun o e=>(b2'.2 _ D.i1z).trans e,a4.at fun o e=>(b2'.2 _ D.i2z).trans e⟩,fun c hc=>?_⟩;rw[aG (bh (ne c hc))];exact (hf c hc).1
 done:=by
  intro X hP hw hK hc i Yp s σ H E I hf st hg;subst hP hw hK;obtain⟨xs,ys,hx,hy,hl⟩:=hg;obtain⟨us,r1,p1,_⟩:=I.list hx;obtain⟨vs,r2,p2,_⟩:=I.list hy;obtain⟨hz,hTI,⟨ta,tb,hTO⟩,h1,h2⟩:=id st;have l1:=⇑r1;have l2:=⇑r2;refine wpAny_pyNext_zip_end (I.ok.hd hc) D hz hTI hTO h1 h2 p1.isList p2.isList ?_ fun h' kk=>⟨rfl,I.KZ (t':=s.toks) (ch:=[z,TI,TO,i1,i2]) hf fun c o hc e=>?_⟩
  ·rcases hl with hl | hl
   ·exact .inl (by simp;left)
   ·exact .inr (by simp;left)
  ·simp only[aU,dO,dP,not_or] at hc;exact kk c o hc.1 hc.2.2.1 hc.2.2.2.1 hc.2.2.2.2 e
 self:=fun _ _ _ _ _ st h=>wpAny_pyIter_zip st.1 h
section
variable {X:Cx}
noncomputable def Jt (K:Zf) (ta:TA):TI:=fun σ H R=>ta σ H fun vs H1=>∃ a b,vs=[.ref a,.ref b]/\(∃ xs,Æ K H1 a xs)/\(∃ ys,Æ K H1 b ys)/\R (ü K a b) H1
theorem boot_zip:bootBuiltins "zip"=some (.type "zip"):=by ext
theorem Mx {elts:List Expr}{k:Nat}{tpos:Pos}{a b:Expr}{p pos:Pos} (hg:Gl X "zip") (hm:X.mg "zip"=none) (ha:PA X [a,b] ta) (hs:starEach [a,b] X.env=[(false,eval a X.env),(false,eval b X.env)]:=by rfl)
  (hs2:starEach [b] X.env=[(false,eval b X.env)]:=by rfl):PI X (.Tuple elts k tpos) (.Call (.Name "zip" p) [a,b] [] pos) (Jt X.K ta):=by
 intro Yp s σ H R I h;refine Call_ (su I hg hm boot_zip (rR (Â (ha pos Yp s σ H _ I h) fun us s1 ⟨vs,H1,I1,r1,q1⟩=>?_) (by rw[hs,hs2]) (by rw[hs2];rfl)));obtain⟨l1,l2,e,⟨xs,hx⟩,⟨ys,hy⟩,q⟩:=q1;subst e;cases r1 with
 | cons r rr =>
  cases rr with
  | cons r' rr =>
   cases rr
   cases r
   cases r'
   obtain⟨us,_,p1,_⟩:=I1.list hx;obtain⟨vs,_,p2,_⟩:=I1.list hy;have a1:l1<s1.heap.objs.size:=by obtain⟨o,e,_⟩:=p1.isList;exact aH e
   have a2:l2<s1.heap.objs.size:=by obtain⟨o,e,_⟩:=p2.isList;exact aH e
   refine call_zip_2 p1.isList p2.isList fun h' hz hTI hTO hi1 hi2 hsz hk=>wpAny_pyIter_zip (s:={ s1 with heap:=h' }) hz ?_;have I2:Inv X Yp σ H1 { s1 with heap:=h' }:=I1.kept (t':=s1.toks) hk;refine⟨_,[s1.heap.objs.size+4,s1.heap.objs.size+2,s1.heap.objs.size+3,s1.heap.objs.size,s1.heap.objs.size+1],_,_,H1,rfl,I2,Ib l1 l2 _ _ _ _ _ (zipApart_new a1 a2),⟨hz,hTI,⟨_,_,hTO⟩,hi1,hi2⟩,fun c hc=>?_,q⟩;have hle:s1.heap.objs.size<=c:=by simp only[aU,dO,dP] at hc;rcases hc with rfl | rfl | rfl | rfl | rfl<;>left
   exact I1.zb hle (I1.hok.fresh hle)
end
theorem LV {a b:Addr}{xs ys:List V}{js:Za}{σ:St}{te:TE}{Q:VK} (hx:Æ K H1 a xs) (hy:Æ K H1 b ys) (hl:⇑xs<sizeLine) (f:V->V->V)
  (he:∀ x y,(x,y)∈xs.zip ys->∀ H,a9 H1 H->∀ R:VK,(∀ H',a9 H H'->R (f x y) H')->te (some x::some y::js.map fun j=>(σ[j]?).join) H R)
  (q:∀ D H,H1 D=none->a9 H1 H->H D=some (.lst ((xs.zip ys).map fun p=>f p.1 p.2))->Q (.ref D) H):eE (Em K 2 (oZ (fG 0) (oZ (fG 1) El))) ur te (hO 2 js σ) (ü K a b) H1 Q:=by
 intro D hD;refine⟨fun i m zs σ1 H=>m=⇑(xs.zip ys)-i/\i<=⇑(xs.zip ys)/\(∃ o1 o2,σ1=o1::o2::js.map fun j=>(σ[j]?).join)/\zs=((xs.zip ys).take i).map (fun p=>f p.1 p.2)/\a9 H1 H/\H D=some (.lst zs),
  ⟨⇑(xs.zip ys),by simp,bc _,⟨none,none,rfl⟩,by simp,(a9.refl H1).cf hD,aC⟩,?_⟩
 rintro i m zs σ1 H ⟨rfl,hi,⟨o1,o2,rfl⟩,rfl,sH,hL⟩;have hzl:⇑(xs.zip ys)=min ⇑xs ⇑ys:=List.length_zip;have hlen:⇑(((xs.zip ys).take i).map fun p=>f p.1 p.2)<sizeLine:=by rw[af,bK];left
 refine⟨hL,hlen,?_⟩
 by_cases hlt:i<⇑(xs.zip ys)
 ·have h1:i<⇑xs:=⋯
  have h2:i<⇑ys:=⋯
  refine .inr ⟨⟨xs,ys,xs[i],ys[i],sH.seq hx,sH.seq hy,by simp [h1],by simp [h2]⟩,fun v H' hyl=>?_⟩;obtain⟨x,y,p,hx',hy',rfl,hp,rfl⟩:=hyl;have ex:=hx' xs (sH.seq hx);have ey:=hy' ys (sH.seq hy);have ez:(xs.zip ys)[i]?=some (x,y):=zip_get ex ey;have hm:(x,y)∈xs.zip ys:=bL ez;have htk:(xs.zip ys).take (i+1)=(xs.zip ys).take i++[(x,y)]:=by rw[gA,ez];rfl
  have hpD:D≠p:=aQ hL hp;refine⟨p,[x,y],rfl,Û.of aC,rfl,x,[y],rfl,y,[],rfl,rfl,?_⟩;show te (some x::some y::js.map fun j=>(σ[j]?).join) _ _;have s1:a9 H1 (upd H p (.tup [x,y])):=sH.cf (sH.free hp);refine he x y hm _ s1 _ fun H4 s4=>?_;refine⟨s4 _ _ (by rw[aG hpD];exact hL),⇑(xs.zip ys)-(i+1),⋯,rfl,hlt,⟨_,_,rfl⟩,?_,(s1.trans s4).cf hD,aC⟩;rw[htk,bM];rfl
 ·have e:i=⇑(xs.zip ys):=⋯
  subst e;refine .inl ⟨⟨xs,ys,sH.seq hx,sH.seq hy,⋯⟩,q D H hD sH ?_⟩;rw[jX] at hL;exact hL
end
section
section
variable {X:Cx}
noncomputable def nw (H:Hp) (o:HO) (Q:VK):Prop:=∀ p H',H p=none->a9 H H'->H' p=some o->Q (.ref p) H'
theorem cX (hn:H a=none):a9 H (upd H a o):=fun b u e=>by rw[aG (aQ e hn)];exact e
theorem nw.go (h:nw H o Q) (p:Addr) (hp:H p=none):Q (.ref p) (upd H p o):=h p _ hp (cX hp) aC
noncomputable def CT:R2:=fun x y H Q=>match x,y with
 | .int i,.int j=>Q (.int (i+j)) H
 | .str a,.str b=>⇑a+⇑b<=sizeLine/\Q (.str (a++b)) H
 | .ref l,.ref b=>∃ xs zs,H l=some (.lst xs)/\H b=some (.lst zs)/\⇑xs+⇑zs<=sizeLine/\nw H (.lst (xs++zs)) Q
 | _,_=>False
theorem aZ:Ë X (binaryOp .Add) CT:=by
 intro Yp s σ H x y v u Q I rx ry h;cases x with
 | int i=>cases y with
  | int j=>exact Md Yp s σ H _ _ v u Q I rx ry ⟨_,_,rfl,rfl,h⟩
  | _=>exact False.elim h
 | str a=>cases y with
  | str b=>exact Bx Yp s σ H _ _ v u Q I rx ry ⟨_,_,rfl,rfl,h.1,h.2⟩
  | _=>exact False.elim h
 | ref l=>cases y with
  | ref b =>obtain⟨xs,zs,h1,h2,h3,h4⟩:=h;exact Me Yp s σ H _ _ v u Q I rx ry ⟨_,_,xs,zs,rfl,rfl,h1,h2,h3,h4.go⟩
  | _=>exact False.elim h
 | _=>exact False.elim h
noncomputable def KH:R2:=fun x y H Q=>match x,y with
 | .int i,.int j=>Q (.int (i-j)) H
 | _,_=>False
theorem jr:Ë X (binaryOp .Sub) KH:=by
 intro Yp s σ H x y v u Q I rx ry h;cases x with
 | int i=>cases y with
  | int j=>exact Mp Yp s σ H _ _ v u Q I rx ry ⟨_,_,rfl,rfl,h⟩
  | _=>exact False.elim h
 | _=>exact False.elim h
noncomputable def Hy:R2:=fun x y H Q=>match x,y with
 | .int i,.int j=>Im i j/\Q (.int (i*j)) H
 | .ref l,.int k=>∃ xs,H l=some (.lst xs)/\-(2^63)<=k/\k<2^63/\⇑xs*k.toNat<=sizeLine/\nw H (.lst (List.replicate k.toNat xs).flatten) Q
 | _,_=>False
theorem oQ:Ë X (binaryOp .Mult) Hy:=by
 intro Yp s σ H x y v u Q I rx ry h;cases x with
 | int i=>cases y with
  | int j=>exact JA Yp s σ H _ _ v u Q I rx ry ⟨_,_,rfl,rfl,h.1,h.2⟩
  | _=>exact False.elim h
 | ref l=>cases y with
  | int k =>obtain⟨xs,h1,h2,h3,h4,h5⟩:=h;exact Mo Yp s σ H _ _ v u Q I rx ry ⟨_,_,xs,rfl,rfl,h1,h2,h3,h4,h5.go⟩
  | _=>exact False.elim h
 | _=>exact False.elim h
noncomputable def Hs:R2:=fun x y H Q=>match x,y with
 | .int i,.int j=>(0<j/\j<2^1000)/\Q (.int (i/j)) H
 | _,_=>False
theorem mZ:Ë X (binaryOp .FloorDiv) Hs:=by
 intro Yp s σ H x y v u Q I rx ry h;cases x with
 | int i=>cases y with
  | int j=>exact GP Yp s σ H _ _ v u Q I rx ry ⟨_,_,rfl,rfl,h.1,h.2⟩
  | _=>exact False.elim h
 | _=>exact False.elim h
noncomputable def K7:R2:=fun x y H Q=>match x,y with
 | .int i,.int j=>0<j/\Q (.int (i%j)) H
 | _,_=>False
theorem cg:Ë X (binaryOp .Mod) K7:=by
 intro Yp s σ H x y v u Q I rx ry h;cases x with
 | int i=>cases y with
  | int j=>exact Mj Yp s σ H _ _ v u Q I rx ry ⟨_,_,rfl,rfl,h.1,h.2⟩
  | _=>exact False.elim h
 | _=>exact False.elim h
noncomputable def KA:R2:=fun x y H Q=>match x,y with
 | .int i,.int j=>(0<=j/\j<=1000000/\i.natAbs<2^64)/\Q (.int (i^j.toNat)) H
 | _,_=>False
theorem CK:Ë X (binaryOp .Pow) KA:=by
 intro Yp s σ H x y v u Q I rx ry h;cases x with
 | int i=>cases y with
  | int j=>exact Mn Yp s σ H _ _ v u Q I rx ry ⟨_,_,rfl,rfl,h.1,h.2⟩
  | _=>exact False.elim h
 | _=>exact False.elim h
noncomputable def xj (f:Int->Int->Bool):R2:=fun x y H Q=>match x,y with
 | .int i,.int j=>Q (.bl (f i j)) H
 | _,_=>False
theorem u9 {op:CmpOp}{f:Int->Int->Bool} (h0:Ë X (compareOp op) (ñ fun i j=>.bl (f i j))):Ë X (compareOp op) (xj f):=by
 intro Yp s σ H x y v u Q I rx ry h;cases x with
 | int i=>cases y with
  | int j=>exact h0 Yp s σ H _ _ v u Q I rx ry ⟨_,_,rfl,rfl,h⟩
  | _=>exact False.elim h
 | _=>exact False.elim h
noncomputable abbrev N8:R2:=xj fun i j=>decide (i<j)
noncomputable abbrev Oz:R2:=xj fun i j=>decide (i<=j)
noncomputable abbrev Ou:R2:=xj fun i j=>decide (j<i)
noncomputable abbrev Ot:R2:=xj fun i j=>decide (j<=i)
theorem vv:Ë X (compareOp .Lt) N8:=u9 Nx
theorem jd:Ë X (compareOp .LtE) Oz:=u9 Nw
theorem yi:Ë X (compareOp .Gt) Ou:=u9 Nv
theorem GQ:Ë X (compareOp .GtE) Ot:=u9 Nu
noncomputable def Hr (K:Zf):R2:=fun x y H Q=>match x,y with
 | .int i,.int j=>Q (.bl (decide (i=j))) H
 | .bl i,.bl j=>Q (.bl (decide (i=j))) H
 | .str i,.str j=>Q (.bl (decide (i=j))) H
 | .ref a,.ref b=>∃ xs ys,Æ K H a xs/\Æ K H b ys/\xs.all eK=true/\ys.all eK=true/\Q (.bl (qK xs ys)) H
 | _,_=>False
noncomputable def Hz (K:Zf):R2:=fun x y H Q=>match x,y with
 | .int i,.int j=>Q (.bl (!decide (i=j))) H
 | .bl i,.bl j=>Q (.bl (!decide (i=j))) H
 | .str i,.str j=>Q (.bl (!decide (i=j))) H
 | .ref a,.ref b=>∃ xs ys,Æ K H a xs/\Æ K H b ys/\xs.all eK=true/\ys.all eK=true/\Q (.bl (!qK xs ys)) H
 | _,_=>False
theorem yK (i j:Int):decide (V.int i=V.int j)=decide (i=j):=by
 by_cases e:i=j
 ·subst e;simp
 ·rw[ay e];exact ay fun h=>e (V.int.inj h)
theorem Cr (i j:Bool):decide (V.bl i=V.bl j)=decide (i=j):=by
 by_cases e:i=j
 ·subst e;simp
 ·rw[ay e];exact ay fun h=>e (V.bl.inj h)
theorem yL (i j:Str):decide (V.str i=V.str j)=decide (i=j):=by
 by_cases e:i=j
 ·subst e;simp
 ·rw[ay e];exact ay fun h=>e (V.str.inj h)
theorem Mg (hu:X.A.units<cLine):Ë X (compareOp .Eq) (Hr X.K):=by
 intro Yp s σ H x y v u Q I rx ry h;cases x with
 | int i=>cases y with
  | int j=>exact GO Yp s σ H _ _ v u Q I rx ry ⟨rfl,by rw[yK];exact h⟩
  | _=>exact False.elim h
 | bl i=>cases y with
  | bl j=>exact GO Yp s σ H _ _ v u Q I rx ry ⟨rfl,by rw[Cr];exact h⟩
  | _=>exact False.elim h
 | str i=>cases y with
  | str j=>exact GO Yp s σ H _ _ v u Q I rx ry ⟨rfl,by rw[yL];exact h⟩
  | _=>exact False.elim h
 | ref a=>cases y with
  | ref b =>obtain⟨xs,ys,h1,h2,h3,h4,h5⟩:=h;exact Mf hu Yp s σ H _ _ v u Q I rx ry ⟨_,_,xs,ys,rfl,rfl,h1,h2,h3,h4,h5⟩
  | _=>exact False.elim h
 | _=>exact False.elim h
theorem Mm (hu:X.A.units<cLine):Ë X (compareOp .NotEq) (Hz X.K):=by
 intro Yp s σ H x y v u Q I rx ry h;cases x with
 | int i=>cases y with
  | int j=>exact GS Yp s σ H _ _ v u Q I rx ry ⟨rfl,by rw[yK];exact h⟩
  | _=>exact False.elim h
 | bl i=>cases y with
  | bl j=>exact GS Yp s σ H _ _ v u Q I rx ry ⟨rfl,by rw[Cr];exact h⟩
  | _=>exact False.elim h
 | str i=>cases y with
  | str j=>exact GS Yp s σ H _ _ v u Q I rx ry ⟨rfl,by rw[yL];exact h⟩
  | _=>exact False.elim h
 | ref a=>cases y with
  | ref b =>obtain⟨xs,ys,h1,h2,h3,h4,h5⟩:=h;exact Ml hu Yp s σ H _ _ v u Q I rx ry ⟨_,_,xs,ys,rfl,rfl,h1,h2,h3,h4,h5⟩
  | _=>exact False.elim h
 | _=>exact False.elim h
noncomputable def Ĉ:V->V->Option Bool
 | .non,.non=>some true
 | .bl _,.non=>some false
 | .int _,.non=>some false
 | .str _,.non=>some false
 | .ref _,.non=>some false
 | .bl a,.bl b=>some (a==b)
 | _,_=>none
noncomputable def EH (neg:Bool):R2:=fun x y H Q=>match Ĉ x y with
 | some b=>Q (.bl (b != neg)) H
 | none=>False
theorem yj:Ë X (compareOp .Is) (EH false):=by
 intro Yp s σ H x y v u Q I rx ry h;cases x<;>cases y<;>first
  | exact False.elim h
  | exact Mi Yp s σ H _ _ v u Q I rx ry ⟨rfl,h⟩
  | exact GR Yp s σ H _ _ v u Q I rx ry ⟨_,_,rfl,rfl,by simpa [EH,Ĉ] using h⟩
theorem sI:Ë X (compareOp .IsNot) (EH true):=by
 intro Yp s σ H x y v u Q I rx ry h;cases x<;>cases y<;>first
  | exact False.elim h
  | exact JB Yp s σ H _ _ v u Q I rx ry ⟨rfl,h⟩
  | exact zJ Yp s σ H _ _ v u Q I rx ry ⟨_,_,rfl,rfl,by simpa [EH,Ĉ,bne] using h⟩
noncomputable def Sq (K:Zf) (H:Hp) (a:Addr) (xs:List V):Prop:=Æ K H a xs∨Û K H a xs
theorem Sq.l (h:H a=some (.lst xs)):Sq K H a xs:=.inl (.of h)
theorem Sq.t (h:H a=some (.tup xs)):Sq K H a xs:=.inr (.of h)
noncomputable def JU (K:Zf):R2:=fun x y H Q=>match x,y with
 | .ref p,.int i=>∃ xs v,Sq K H p xs/\Þ xs i=some v/\Q v H
 | .str z,.int i=>⇑z<=sizeLine/\∃ c,Þ z.cps.toList i=some c/\Q (.str ⟨#[c]⟩) H
 | _,_=>False
theorem Oi:ý X (JU X.K):=by
 intro value slice Yp s σ H x y v u Q I rx ry h hs;cases x with
 | ref p=>cases y with
  | int i =>
   obtain⟨xs,w',h1 | h1,h2,h3⟩:=h
   ·exact Ju value slice Yp s σ H _ _ v u Q I rx ry ⟨_,xs,_,w',rfl,rfl,h1,h2,h3⟩ hs
   ·exact LN value slice Yp s σ H _ _ v u Q I rx ry ⟨_,xs,_,w',rfl,rfl,h1,h2,h3⟩ hs
  | _=>exact False.elim h
 | str z=>cases y with
  | int i =>obtain⟨h1,c,h2,h3⟩:=h;exact LM value slice Yp s σ H _ _ v u Q I rx ry ⟨z,i,c,rfl,rfl,h1,h2,h3⟩ hs
  | _=>exact False.elim h
 | _=>exact False.elim h
noncomputable def zN (K:Zf):List V->Hp->VK->Prop:=fun vs H Q=>match vs with
 | [.str z]=>⇑z<=sizeLine/\Q (.int ⇑z) H
 | [.ref p]=>∃ xs,Sq K H p xs/\Q (.int ⇑xs) H
 | _=>False
theorem DA:da X (.builtin "len") (zN X.K):=by
 intro Yp s σ H xs us Q I r h
 match xs,h with
 | [.str z],h=>exact xy Yp s σ H _ us Q I r ⟨z,rfl,h.1,h.2⟩
 | [.ref p],h =>obtain⟨ys,h1,h2⟩:=h;exact xx Yp s σ H _ us Q I r ⟨p,ys,rfl,h1,h2⟩
noncomputable def K4:List V->Hp->VK->Prop:=fun vs H Q=>match vs with
 | [.int i]=>Q (.int (i.natAbs:Int)) H
 | _=>False
theorem rY:da X (.builtin "abs") K4:=by
 intro Yp s σ H xs us Q I r h;rcases xs with _ | ⟨x0,t⟩
 ·exact h.elim
 cases x0<;>try exact h.elim
 cases t<;>try exact h.elim
 next i =>
  refine Fz Yp s σ H _ us Q I r ⟨i,rfl,?_⟩;have e:(if i<0 then -i else i)=((i.natAbs:Nat):Int):=by split<;>left
  rw[e];exact h
noncomputable def K6:List V->Hp->VK->Prop:=fun vs H Q=>match vs with
 | [.int i,.int j]=>Q (.int (min i j)) H
 | _=>False
theorem DC (hc:X.calm=true):da X (.builtin "min") K6:=by
 intro Yp s σ H xs us Q I r h;rcases xs with _ | ⟨x0,t⟩
 ·exact h.elim
 cases x0<;>try exact h.elim
 rcases t with _ | ⟨x1,t⟩
 ·exact h.elim
 cases x1<;>try exact h.elim
 cases t<;>try exact h.elim
 next i j =>
  refine DB hc Yp s σ H _ us Q I r ⟨i,j,rfl,?_⟩;have e:(if j<i then j else i)=min i j:=by rw[Int.min_def];split<;>split<;>left
  rw[e];exact h
noncomputable def BC (K:Zf):List V->Hp->VK->Prop:=fun vs H Q=>match vs with
 | [.ref a]=>∃ ys,(Sq K H a ys∨∃ lo hi,H a=some (.rng lo hi)/\(-(2^62)<=lo/\lo<2^62/\-(2^62)<=hi/\hi<2^62)/\(hi-lo).toNat<=2^20/\ys=v8 lo (hi-lo).toNat)/\nw H (.lst ys) Q
 | _=>False
theorem Ay (hc:X.calm=true):da X (.type "list") (BC X.K):=by
 intro Yp s σ H xs us Q I r h;rcases xs with _ | ⟨x0,t⟩
 ·exact h.elim
 cases x0<;>try exact h.elim
 cases t<;>try exact h.elim
 next a =>
  obtain⟨ys,h1 | ⟨lo,hi,h1,h2,h3,rfl⟩,h4⟩:=h
  ·exact xB Yp s σ H _ us Q I r ⟨a,ys,rfl,h1,h4.go⟩
  ·exact xA hc Yp s σ H _ us Q I r ⟨a,lo,hi,rfl,h1,h2,h3,h4.go⟩
noncomputable def KC:List V->Hp->VK->Prop:=fun vs H Q=>match vs with
 | [.int j]=>nw H (.rng 0 j) Q
 | _=>False
theorem DE:da X (.type "range") KC:=by
 intro Yp s σ H xs us Q I r h;rcases xs with _ | ⟨x0,t⟩
 ·exact h.elim
 cases x0<;>try exact h.elim
 cases t<;>try exact h.elim
 next j=>exact DD Yp s σ H _ us Q I r ⟨j,rfl,nw.go h⟩
theorem bt_isinstance:bootBuiltins "isinstance"=some (.builtin "isinstance"):=by ext
theorem Au:bootBuiltins "abs"=some (.builtin "abs"):=by ext
theorem bB:bootBuiltins "len"=some (.builtin "len"):=by ext
theorem pF:bootBuiltins "all"=some (.builtin "all"):=by ext
theorem Av:bootBuiltins "sum"=some (.builtin "sum"):=by ext
theorem Lz:bootBuiltins "min"=some (.builtin "min"):=by ext
theorem rX:bootBuiltins "sorted"=some (.builtin "sorted"):=by ext
theorem Fw:bootBuiltins "range"=some (.type "range"):=by ext
theorem km:bootBuiltins "list"=some (.type "list"):=by ext
theorem Fy:bootBuiltins "tuple"=some (.type "tuple"):=by ext
theorem Ly:bootBuiltins "int"=some (.type "int"):=by ext
theorem uJ:bootBuiltins "str"=some (.type "str"):=by ext
theorem IZ:bootBuiltins "bool"=some (.type "bool"):=by ext
theorem Fx:bootBuiltins "set"=some (.type "set"):=by ext
theorem xv:bootBuiltins "enumerate"=some (.type "enumerate"):=by ext
theorem N0 (hg:Gl X x) (hm:X.mg x=none) (hv:bootBuiltins x=some (.type T)) (hn:x≠"__name__":=by decide) (hd:(x==("__debug__":Str))=false:=by decide):PE X (.Name x pos) (tC (.ty T)) :=
 JD hg hm hv rfl hn hd
structure Å (P:Zh) (w:Zi) (K:Zf) (mg:Zk) (base:Heap) (CX:Ö) (k:Nat) (x:Str) (ps:Ze) (sp:Sp):Prop where
 ex:∃ (f:Addr) (fd:FuncData),bR P w K mg base CX k f fd ps sp/\mg x=some (.ref f)/\PySem.W.keepIn K (.ref f)=true/\Binds K fd ps []
theorem GW {E:St->XK}{t:TA}{p pos:Pos} (C:Å X.prog X.w X.K X.mg X.base CX k x ps sp) (hx:Passes CX X E) (hr:fe k X.A) (hg:Gl X x) (ha:PA X (e::es) t)
  (hd:(x==("__debug__":Str))=false:=by decide)
  (he:starEach (e::es) X.env=(false,eval e X.env)::starEach es X.env:=by rfl) (hpl:(backTo pos (starEach es X.env)).any (·.1)=false:=by rfl):PE X (.Call (.Name x p) (e::es) [] pos) (Dg sp [] E t):=by
 obtain⟨f,fd,F,hm,hk,hb⟩:=C.ex;exact JE F hr hg hm hk hb .nil hx ha hd he hpl
end
noncomputable def j4 (g:TG) (tb:TS) (D:Ends) (J:It) (σ:St) (H:Hp):Prop:=∃ W:Nat->Nat->St->Hp->Prop,(∃ m,W 0 m σ H)/\∀ i m σ H,W i m σ H →
 (J.stop i H/\D.nx σ H)∨(J.go i H/\∃ N:St->Hp->Prop,(∀ σ' H',N σ' H'->∃ m',m'<m/\W (i+1) m' σ' H')/\∀ x H',J.yld i H x H'->g x σ H' fun σ2 H2=>tb { D with nx:=N,ct:=N,bk:=D.nx } σ2 H2)
theorem Jo {lo:Int}{n:Nat}{g:TG}{tb:TS}{D:Ends} (Pv:Nat->St->Hp->Prop) (h0:Pv 0 σ H)
  (hs:∀ i σ H,i<n->Pv i σ H->g (.int (lo+i)) σ H fun σ2 H2=>tb { D with nx:=Pv (i+1),ct:=Pv (i+1),bk:=D.nx } σ2 H2) (hd:∀ σ H,Pv n σ H->D.nx σ H):j4 g tb D (é lo n) σ H:=Ek Pv h0 hs hd
theorem u6 {g:TG}{tb:TS}{D:Ends} (Pv:Nat->St->Hp->Prop) (h0:Pv 0 σ H) (hl:∀ i σ H,i<=⇑xs->Pv i σ H->Æ K H a xs)
  (hs:∀ i x σ H,xs[i]?=some x->Pv i σ H->g x σ H fun σ2 H2=>tb { D with nx:=Pv (i+1),ct:=Pv (i+1),bk:=D.nx } σ2 H2) (hd:∀ σ H,Pv ⇑xs σ H->D.nx σ H):j4 g tb D (ê K a) σ H:=FR Pv h0 hl hs hd
noncomputable def KR (t:TA):TE:=fun σ H Q=>t σ H fun xs H1=>⇑xs<=sizeLine/\nw H1 (.lst xs) Q
noncomputable def HZ (t:TA):TE:=fun σ H Q=>t σ H fun xs H1=>⇑xs<=sizeLine/\nw H1 (.tup xs) Q
noncomputable def HV:TE:=fun _ H Q=>nw H (.dK []) Q
theorem cR {t:TA} (h:PA X es t):PE X (.List es pos) (KR t):=by intro Yp s σ H Q I hq;refine wpAny_List_spliced (Â (h pos Yp s σ H _ I hq) fun us s1 ⟨xs,H1,I1,r,z,q⟩=>⟨by rw[←⇑r];exact z,?_⟩);have hf:H1 s1.heap.objs.size=none:=I1.hok.fresh (av _);refine⟨.ref s1.heap.objs.size,upd H1 s1.heap.objs.size (.lst xs),I1.laid (t':=s1.toks) (fun b u e=>aE _ e) (av _) ?_,rfl,nw.go q _ hf⟩;exact⟨z,us,0,r,bz _ rfl⟩
theorem kz {t:TA}{x1} (h:PA X es t):PE X (.Tuple es x1 pos) (HZ t):=by intro Yp s σ H Q I hq;refine wpAny_Tuple_spliced (Â (h pos Yp s σ H _ I hq) fun us s1 ⟨xs,H1,I1,r,z,q⟩=>⟨by rw[←⇑r];exact z,?_⟩);have hf:H1 s1.heap.objs.size=none:=I1.hok.fresh (av _);refine⟨.ref s1.heap.objs.size,upd H1 s1.heap.objs.size (.tup xs),I1.laid (t':=s1.toks) (fun b u e=>aE _ e) (av _) ?_,rfl,nw.go q _ hf⟩;exact⟨z,us,r,⟨_,bz _ rfl,rfl,_,rfl⟩⟩
theorem Hc :PE X (.Dict [] [] pos) HV:=fun Yp s σ H Q I h=>Ha Yp s σ H Q I (nw.go h)
section
variable {σ:St}{H:Hp}{Q:VK}{D:Ends}
theorem dR {t u:TS}:Kq t u D σ H=t { D with nx:=u D } σ H:=propext Iff.rfl
theorem Lh {te:TE}{g:TG}:ES te g D σ H=te σ H fun x H1=>g x σ H1 D.nx:=propext Iff.rfl
theorem Fm {i:Nat}{v:V}{R:St->Hp->Prop}:fG i v σ H R=R (σ.set i (some v)) H:=propext Iff.rfl
theorem Lw {i:Nat}:sZ i σ H Q=∃ v,σ[i]?=some (some v)/\Q v H:=propext Iff.rfl
theorem Og {v:V}:tC v σ H Q=Q v H:=propext Iff.rfl
theorem MU {r:R2}{ta tb:TE}:õ r ta tb σ H Q=ta σ H fun x H1=>tb σ H1 fun y H2=>r x y H2 Q:=propext Iff.rfl
theorem MX {r:V->Hp->VK->Prop}{ta:TE}:tUn r ta σ H Q=ta σ H fun x H1=>r x H1 Q:=propext Iff.rfl
theorem MQ {r:List V->Hp->VK->Prop}{t:TA}:ø r t σ H Q=t σ H fun vs H1=>r vs H1 Q:=propext Iff.rfl
theorem Iy {ta:TE}{tr:TA}{R:List V->Hp->Prop}:p9 ta tr σ H R=ta σ H fun x H1=>tr σ H1 fun xs H2=>R (x::xs) H2:=propext Iff.rfl
theorem Lm {R:List V->Hp->Prop}:uq σ H R=R [] H:=propext Iff.rfl
theorem Iw {sp:Sp}{E:St->XK}{t:TA}:Dg sp [] E t σ H Q=t σ H fun vs H1=>sp vs H1 Q (E σ):=by show (t σ H fun vs H1=>sp (vs++[]) H1 Q (E σ))=_;simp only[dM]
theorem Lr {te:TE}:MD te D σ H=te σ H D.rt:=propext Iff.rfl
theorem MS {c:TT}{t u:TS}:Kp c t u D σ H=c σ H fun b H1=>if b=true then t D σ H1 else u D σ H1:=propext Iff.rfl
theorem IL:Di D σ H=D.nx σ H:=propext Iff.rfl
theorem IC {te:TE}:HW te D σ H=te σ H fun _ H1=>D.nx σ H1:=propext Iff.rfl
theorem IT {t:TE}{R:Bool->Hp->Prop}:xm t σ H R=t σ H fun x H'=>∃ k,x=.bl k/\R k H':=propext Iff.rfl
theorem Of {t:TE}{R:Bool->Hp->Prop}:tB t σ H R=t σ H fun x H'=>∃ k,x=.bl k/\R k H':=propext Iff.rfl
theorem Lo {t:TT}{R:Bool->Hp->Prop}:NI t σ H R=t σ H fun c H1=>R (!c) H1:=propext Iff.rfl
theorem Lg {t u:TT}{R:Bool->Hp->Prop}:NF t u σ H R=t σ H fun c H1=>if c=true then u σ H1 R else R false H1:=propext Iff.rfl
theorem MV {t u:TT}{R:Bool->Hp->Prop}:tOr t u σ H R=t σ H fun c H1=>if c=true then R true H1 else u σ H1 R:=propext Iff.rfl
theorem Iv {ta tb:TE}:KO ta tb σ H Q=ta σ H fun x H1=>∃ c,x=.bl c/\if c=true then tb σ H1 Q else Q (.bl false) H1:=propext Iff.rfl
theorem Lp {ta tb:TE}:NJ ta tb σ H Q=ta σ H fun x H1=>∃ c,x=.bl c/\if c=true then Q (.bl true) H1 else tb σ H1 Q:=propext Iff.rfl
theorem IM {ta:TE}:KU ta σ H Q=ta σ H fun x H1=>∃ c,x=.bl c/\Q (.bl (!c)) H1:=propext Iff.rfl
theorem Lk {t:TT}{ta tb:TE}:Ĕ t ta tb σ H Q=t σ H fun c H1=>if c=true then ta σ H1 Q else tb σ H1 Q:=propext Iff.rfl
theorem Ll {t:TA}:KR t σ H Q=t σ H fun xs H1=>⇑xs<=sizeLine/\nw H1 (.lst xs) Q:=propext Iff.rfl
theorem Lu {t:TA}:HZ t σ H Q=t σ H fun xs H1=>⇑xs<=sizeLine/\nw H1 (.tup xs) Q:=propext Iff.rfl
theorem IA:HV σ H Q=nw H (.dK []) Q:=propext Iff.rfl
theorem MT {k:Nat}{js:Za}{wi:TI}{g:TG}{tc:TT}{te:TE}:ĕ k js wi g tc te σ H Q=wi σ H fun J H1=>eE g tc te (hO k js σ) J H1 Q:=propext Iff.rfl
theorem MW {r:V->Option Int->Option Int->Hp->VK->Prop}{te:TE}{tl th:TO}:tSl r te tl th σ H Q=te σ H fun x H1=>tl σ H1 fun l H2=>th σ H2 fun u H3=>r x l u H3 Q:=propext Iff.rfl
theorem Du {R:Option Int->Hp->Prop}:Dj σ H R=R none H:=propext Iff.rfl
theorem IP {t:TE}{R:Option Int->Hp->Prop}:KW t σ H R=t σ H fun x H1=>∃ i,x=.int i/\R (some i) H1:=propext Iff.rfl
theorem Fo {ta:TA}{R:It->Hp->Prop}:Ge ta σ H R=ta σ H fun vs H1=>∃ j:Int,vs=[.int j]/\-(2^62)<=j/\j<2^62/\R (é 0 j.toNat) H1:=propext Iff.rfl
theorem IH {K:Zf}{ta:TA}{R:It->Hp->Prop}:Jt K ta σ H R=ta σ H fun vs H1=>∃ a b,vs=[.ref a,.ref b]/\(∃ xs,Æ K H1 a xs)/\(∃ ys,Æ K H1 b ys)/\R (ü K a b) H1:=propext Iff.rfl
theorem Lj {wi:TI}{g:TG}{tb:TS}:NG wi g tb D σ H=wi σ H fun J H1=>j4 g tb D J σ H1:=propext Iff.rfl
theorem Lq {i j:Nat}{ta:TA}:NK i j ta D σ H=ta σ H fun vs H1=>∃ v w,vs=[v,w]/\D.nx ((σ.set i (some v)).set j (some w)) H1:=propext Iff.rfl
theorem IF {to ti:TE}{t:Ir}{v:V}{R:St->Hp->Prop}:Nh to ti t v σ H R=to σ H fun o H1=>ti σ H1 fun i H2=>t o i v H2 fun H3=>R σ H3:=propext Iff.rfl
theorem MP {K:Zf}{T:String}{r:V->List V->Hp->VK->Prop}{to:TE}{t:TA}:Č K T r to t σ H Q=to σ H fun x H1=>Ė K T x H1/\t σ H1 fun xs H2=>r x xs H2 Q:=propext Iff.rfl
theorem Fh {r r':R2}{ta tb tc:TE}:BV r r' ta tb tc σ H Q=ta σ H fun x H1=>tb σ H1 fun y H2=>r x y H2 fun z H3=>∃ k,z=.bl k/\if k=true then tc σ H3 fun v H4=>r' y v H4 Q else Q (.bl false) H3:=propext Iff.rfl
theorem Ky {b:Bool}{P:Bool->Prop}:(∃ k,V.bl b=V.bl k/\P k)=P b:=propext ⟨fun ⟨k,e,h⟩=>by cases e;exact h,fun h=>⟨b,rfl,h⟩⟩
theorem FJ {b:Int}{P:Int->Prop}:(∃ k,V.int b=V.int k/\P k)=P b:=propext ⟨fun ⟨k,e,h⟩=>by cases e;exact h,fun h=>⟨b,rfl,h⟩⟩
theorem FK {b:Addr}{P:Addr->Prop}:(∃ k,V.ref b=V.ref k/\P k)=P b:=propext ⟨fun ⟨k,e,h⟩=>by cases e;exact h,fun h=>⟨b,rfl,h⟩⟩
theorem Jh {b:Int}{P:Int->Prop}:(∃ k,[V.int b]=[V.int k]/\P k)=P b:=propext ⟨fun ⟨k,e,h⟩=>by cases e;exact h,fun h=>⟨b,rfl,h⟩⟩
theorem Ji {b c:Int}{P:Int->Int->Prop}:(∃ k l,[V.int b,V.int c]=[V.int k,V.int l]/\P k l)=P b c:=propext ⟨fun ⟨k,l,e,h⟩=>by cases e;exact h,fun h=>⟨b,c,rfl,h⟩⟩
theorem Jj {b c:Addr}{P:Addr->Addr->Prop}:(∃ k l,[V.ref b,V.ref c]=[V.ref k,V.ref l]/\P k l)=P b c:=propext ⟨fun ⟨k,l,e,h⟩=>by cases e;exact h,fun h=>⟨b,c,rfl,h⟩⟩
theorem LD {b c:V}{P:V->V->Prop}:(∃ k l,[b,c]=[k,l]/\P k l)=P b c:=propext ⟨fun ⟨k,l,e,h⟩=>by cases e;exact h,fun h=>⟨b,c,rfl,h⟩⟩
theorem Jk {v:V}{P:V->Prop}:(∃ k,some (some v)=some (some k)/\P k)=P v:=propext ⟨fun ⟨k,e,h⟩=>by cases e;exact h,fun h=>⟨v,rfl,h⟩⟩
theorem HR {N:Ze}{vs:List V}:start N vs=vs.map some++List.replicate (⇑N-⇑vs) none:=rfl
end
inductive Tg where
 | non | bl | int | str | lst | tup | dct
 deriving DecidableEq
noncomputable def Tg.name:Tg->String
 | .non=>"NoneType" | .bl=>"bool" | .int=>"int" | .str=>"str" | .lst=>"list" | .tup=>"tuple" | .dct=>"dict"
noncomputable def Tg.sub:Tg->Tg->Bool
 | .non,.non=>true | .bl,.bl=>true | .int,.int=>true | .str,.str=>true | .lst,.lst=>true | .tup,.tup=>true | .dct,.dct=>true
 | .bl,.int=>true
 | _,_=>false
noncomputable def mE:Option HO->Option Tg
 | some (.lst _)=>some .lst | some (.frz _ (.lst _))=>some .lst | some (.tup _)=>some .tup | some (.dK _)=>some .dct | some (.dT _)=>some .dct
 | _=>none
noncomputable def eZ (H:Hp):V->Option Tg
 | .non=>some .non | .bl _=>some .bl | .int _=>some .int | .str _=>some .str | .ref a=>mE (H a)
 | _=>none
theorem Gr (K:Zf):∀ t c:Tg,c≠.non->PySem.W.kitOne K (.type t.name) (.type c.name)=some (t.sub c):=by
 intro t c h;cases t<;>cases c<;>first
  | exact absurd rfl h
  | rfl
  | ext
  | nofun
theorem ME {x:V}{t:Tg} (h:eZ H x=some t):pC K H x (.type t.name):=by
 cases x with
 | non=>cases h;exact .non
 | bl b=>cases h;exact .bl b
 | int i=>cases h;exact .int i
 | str z=>cases h;exact .str z
 | ref a =>
  have h':mE (H a)=some t:=h;cases e:H a with
  | none=>rw[e] at h';cases h'
  | some o =>
   rw[e] at h';cases o with
   | lst xs=>cases h';exact .lst e
   | tup xs=>cases h';exact .tup e
   | dK kvs=>cases h';exact .dK e
   | dT kvs=>cases h';exact .dT e
   | frz ob u=>cases u with
    | lst xs=>cases h';exact .frz e
    | _=>cases h'
   | _=>cases h'
 | _=>cases h
noncomputable def K5 (c:Tg):List V->Hp->VK->Prop:=fun vs H Q=>match vs with
 | [x,.ty n]=>n=c.name/\∃ t,eZ H x=some t/\Q (.bl (t.sub c)) H
 | _=>False
theorem fz (c:Tg) (hc:c≠.non:=by decide):da X (.builtin "isinstance") (K5 c):=by
 intro Yp s σ H xs us Q I r h;rcases xs with _ | ⟨x,t⟩
 ·exact h.elim
 rcases t with _ | ⟨x1,t⟩
 ·exact h.elim
 cases x1<;>try exact h.elim
 cases t<;>try exact h.elim
 next n =>obtain⟨rfl,t,ht,q⟩:=h;exact F2 Yp s σ H _ us Q I r ⟨x,_,_,_,rfl,ME ht,Gr X.K t c hc,q⟩
theorem yD {c:TT}{tb:TS}{D:Ends} (Pv:St->Hp->Prop) (μ:St->Hp->Nat) (h0:Pv σ H)
  (hs:∀ σ H,Pv σ H->c σ H fun b H1=>if b=true then ∃ N:St->Hp->Prop,(∀ σ' H',N σ' H'->Pv σ' H'/\μ σ' H'<μ σ H)/\tb { D with nx:=N,ct:=N,bk:=D.nx } σ H1 else D.nx σ H1):BX c tb D σ H :=
 ⟨fun m σ H=>m=μ σ H/\Pv σ H,⟨_,rfl,h0⟩,fun m σ H ⟨e,p⟩=>by
  subst e;have q:=hs σ H p;have e:(fun (b:Bool) (H1:Hp)=>if b=true then ∃ N:St->Hp->Prop,(∀ σ' H',N σ' H'->Pv σ' H'/\μ σ' H'<μ σ H)/\tb { D with nx:=N,ct:=N,bk:=D.nx } σ H1 else D.nx σ H1) =
    fun (b:Bool) (H1:Hp)=>if b=true then ∃ N:St->Hp->Prop,(∀ σ' H',N σ' H'->∃ m',m'<μ σ H/\m'=μ σ' H'/\Pv σ' H')/\tb { D with nx:=N,ct:=N,bk:=D.nx } σ H1 else D.nx σ H1:=by
   funext b H1
   cases b with
   | false=>rfl
   | true =>simp only[i3];refine propext ⟨fun ⟨N,h1,h2⟩=>⟨N,fun σ' H' n=>⟨_,(h1 σ' H' n).2,rfl,(h1 σ' H' n).1⟩,h2⟩,fun ⟨N,h1,h2⟩=>⟨N,fun σ' H' n=>?_,h2⟩⟩;obtain⟨m',h3,h4,h5⟩:=h1 σ' H' n;exact⟨h5,by rw[←h4];exact h3⟩
  rw[e] at q;exact q⟩
theorem gj (xs:List V) (k:Nat):oX xs (some (k:Int)) none=xs.drop k:=by
 unfold oX;rw[HT.uB,HT.qW];rw[ef (by rw[cq];left)]
 by_cases h:k<=⇑xs
 ·rw[iz h]
 ·rw[Nat.min_eq_right ⋯,nX (av _),nX ⋯]
theorem A8 (xs:List V):oX xs none (some (-1))=xs.take (⇑xs-1):=by
 unfold oX;have e:HT.Ó ⇑xs ⇑xs (some (-1))=⇑xs-1:=by show (if (-1:Int)<0 then ((-1:Int)+(⇑xs:Int)).toNat else min (-1:Int).toNat ⇑xs)=_;rw[ai (by decide)];left
 rw[e,HT.qW,Nat.sub_zero,nY]
theorem EJ (n:Nat):v8 0 n=(Mk.Ù n).map V.int:=by unfold v8 Mk.Ù;rw[aW];refine iY fun k _=>?_;show V.int (0+(k:Int))=V.int (k:Int);rw[jR]
theorem yu (n:Nat):(é 0 n).Seq H1 ((Mk.Ù n).map V.int):=by rw[←EJ];exact EN
theorem ak {n:Nat} (h:n<=100000):n<sizeLine:=ft h Zd
section
variable {X:Cx}{K:Zf}
theorem dI (hK:X.K=K) (hu:X.A.units<cLine):Ë X (compareOp .Eq) (Hr K):=hK ▸ Mg hu
theorem iB (hK:X.K=K) (hu:X.A.units<cLine):Ë X (compareOp .NotEq) (Hz K):=hK ▸ Mm hu
theorem eQ (hK:X.K=K):ý X (JU K):=hK ▸ Oi
theorem aN (hK:X.K=K):da X (.builtin "len") (zN K):=hK ▸ DA
theorem i9 (hK:X.K=K) (hc:X.calm=true):da X (.builtin "all") (N4 K):=hK ▸ D3 hc
theorem rZ (hK:X.K=K) (hc:X.calm=true):da X (.builtin "sum") (NB K):=hK ▸ DH hc
theorem j6 (hK:X.K=K) (hc:X.calm=true):da X (.type "list") (BC K):=hK ▸ Ay hc
theorem JO {elts:List Expr}{k:Nat}{tpos:Pos}{a b:Expr}{p pos:Pos} (hK:X.K=K) (hg:Gl X "zip") (hm:X.mg "zip"=none) (ha:PA X [a,b] ta) (hs:starEach [a,b] X.env=[(false,eval a X.env),(false,eval b X.env)]:=by rfl)
  (hs2:starEach [b] X.env=[(false,eval b X.env)]:=by rfl):PI X (.Tuple elts k tpos) (.Call (.Name "zip" p) [a,b] [] pos) (Jt K ta):=hK ▸ Mx hg hm ha hs hs2
theorem k6 {k:Nat}{t:å}{n:Nat}{pos:Pos} (hK:X.K=K) (hc:X.calm=true) (h:ò X es t)
  (hn:⇑(assignEach es X.env)=n:=by rfl) (hst:(assignEach es X.env).findIdx? (·.1)=none:=by rfl):PG X (.Tuple es k pos) (Em K n t):=hK ▸ Hi hc h hn hst
theorem Mq {o e:Expr}{es:List Expr}{to:TE}{t:TA}{name:Str}{apos cpos:Pos}{T id:String}{r:V->List V->Hp->VK->Prop} (hK:X.K=K) (pa:PlainAttrs T) (slot:Slot T name id) (hty:typeOf (.builtin id)=pure (.type "method_descriptor"))
  (hm:ď X id r) (ho:PE X o to) (ha:PA X (e::es) t)
  (hbase:attributeBase o name X.env (eval o X.env)=eval o X.env:=by rfl)
  (hfew:((backTo cpos (starEach (e::es) X.env)).all (fun x=>!x.1)&&(backToKw cpos (keywordEach [] X.env)).all (fun x=>x.1.isSome)
   && decide (⇑(e::es)+⇑([]:List Keyword)+(if ([]:List Keyword).isEmpty then 0 else 1)<30))=true:=by rfl)
  (hline:(apos.endLine==cpos.line)=true:=by rfl) (hs:starEach (e::es) X.env=(false,eval e X.env)::starEach es X.env:=by rfl) (hplain:(backTo cpos (starEach es X.env)).any (·.1)=false:=by rfl) :
  PE X (.Call (.Attribute o name apos) (e::es) [] cpos) (Č K T r to t):=hK ▸ Ny pa slot hty hm ho ha hbase hfew hline hs hplain
end
end
section
noncomputable def noStar:Expr->Bool
 | .Starred _ _=>false
 | _=>true
noncomputable def dW (es:List Expr):Bool:=es.all noStar
theorem b8 (h:noStar e=true):starEach (e::es) env=(false,eval e env)::starEach es env:=by
 cases e<;>first
  | rfl
  | cases h
theorem bo (h:dW (e::es)=true):noStar e=true/\dW es=true:=by unfold dW at h ⊢;rw[iT,bT] at h;exact h
theorem du {pos:Pos}{env:Env}:∀ {es:List Expr},dW es=true->(backTo pos (starEach es env)).any (·.1)=false
 | [],_=>rfl
 | e::es,h=>by obtain⟨h1,h2⟩:=bo h;rw[b8 h1];show (false||(backTo pos (starEach es env)).any (·.1))=false;rw[du h2];rfl
theorem pE {pos:Pos}{env:Env}:∀ {es:List Expr},dW es=true->(backTo pos (starEach es env)).all (fun x=>!x.1)=true
 | [],_=>rfl
 | e::es,h=>by obtain⟨h1,h2⟩:=bo h;rw[b8 h1];show (true&&(backTo pos (starEach es env)).all (fun x=>!x.1))=true;rw[pE h2];rfl
section
variable {X:Cx}{K:Zf}
theorem À (i:Nat) {pos:Pos} (hN:X.N[i]?=some x:=by ext) (hv:X.env.scope.names.lookup x=some .local:=by ext) (hd:(x==("__debug__":Str))=false:=by ext)
  (hcd:(x==("__classdict__":Str))=false:=by ext):PE X (.Name x pos) (sZ i):=Hg hN (.inl hv) hd hcd
theorem Ä (i:Nat) {pos:Pos} (hN:X.N[i]?=some x:=by ext) (hv:X.env.scope.names.lookup x=some .cell:=by ext) (hd:(x==("__debug__":Str))=false:=by ext)
  (hcd:(x==("__classdict__":Str))=false:=by ext):PE X (.Name x pos) (sZ i):=Hg hN (.inr (.inl hv)) hd hcd
theorem aj {t:TA} (ha:PE X e te) (hr:PA X es t) (hs:noStar e=true:=by ext):PA X (e::es) (p9 te t):=JC ha hr (b8 hs)
theorem az {E:St->XK}{t:TA}{p pos:Pos} (C:Å X.prog X.w X.K X.mg X.base CX k x ps sp) (hx:Passes CX X E) (hr:fe k X.A) (ha:PA X (e::es) t)
  (hg:X.env.kindOf x=some .globalImplicit:=by ext) (hd:(x==("__debug__":Str))=false:=by ext) (hs:dW (e::es)=true:=by ext):PE X (.Call (.Name x p) (e::es) [] pos) (Dg sp [] E t) :=
 GW C hx hr hg ha hd (b8 (bo hs).1) (du (bo hs).2)
theorem ax {p pos:Pos}{t:TA}{id:String}{r:List V->Hp->VK->Prop} (hc:da X (.builtin id) r) (hm:X.mg x=none) (hv:bootBuiltins x=some (.builtin id)) (ha:PA X (e::es) t)
  (hg:X.env.kindOf x=some .globalImplicit:=by ext) (hn:x≠"__name__":=by nofun) (hd:(x==("__debug__":Str))=false:=by ext) (hs:dW (e::es)=true:=by ext):PE X (.Call (.Name x p) (e::es) [] pos) (ø r t) :=
 GV hc hg hm hv ha hn hd (b8 (bo hs).1) (du (bo hs).2)
theorem eS {p pos:Pos}{t:TA}{r:List V->Hp->VK->Prop} (hc:da X (.type T) r) (hm:X.mg x=none) (hv:bootBuiltins x=some (.type T)) (ha:PA X (e::es) t)
  (hg:X.env.kindOf x=some .globalImplicit:=by ext) (hn:x≠"__name__":=by nofun) (hd:(x==("__debug__":Str))=false:=by ext) (hs:dW (e::es)=true:=by ext):PE X (.Call (.Name x p) (e::es) [] pos) (ø r t) :=
 EE hc hg hm hv ha hn hd (b8 (bo hs).1) (du (bo hs).2)
theorem kM {pos:Pos} (hm:X.mg x=none) (hv:bootBuiltins x=some (.type T)) (hg:X.env.kindOf x=some .globalImplicit:=by ext) (hn:x≠"__name__":=by nofun) (hd:(x==("__debug__":Str))=false:=by ext) :
  PE X (.Name x pos) (tC (.ty T)):=N0 hg hm hv hn hd
theorem aP {pos pos':Pos} (hN:X.N.Nodup) (he:PE X e te) (hi:X.N[i]?=some x:=by ext) (hx:X.env.scope.names.lookup x=some .local:=by ext)
  (hs:swapsWith e (some (.Name x pos')) pos.line X.env=pure false:=by ext):PS X (.Assign [.Name x pos'] e pos) (ES te (fG i)):=Ho hN hi (.inl hx) he hs (.inr hx)
theorem eU {pos pos':Pos} (hN:X.N.Nodup) (he:PE X e te) (hi:X.N[i]?=some x:=by ext) (hx:X.env.scope.names.lookup x=some .cell:=by ext) (hf:X.fn x=true:=by ext)
  (hs:swapsWith e (some (.Name x pos')) pos.line X.env=pure false:=by ext):PS X (.Assign [.Name x pos'] e pos) (ES te (fG i)):=Ho hN hi (.inr hx) he hs (.inl hf)
theorem aL (hN:X.N.Nodup) (hi:X.N[i]?=some x:=by ext) (hx:X.env.scope.names.lookup x=some .local:=by ext):PG X (.Name x pos) (fG i):=JK hN hi (.inl hx) (.inr hx)
theorem eT {tg a:Expr}{p pos:Pos} (hm:X.mg "range"=none) (ha:PA X [a] ta) (hg:X.env.kindOf "range"=some .globalImplicit:=by ext) (hs:noStar a=true:=by ext):PI X tg (.Call (.Name "range" p) [a] [] pos) (Ge ta) :=
 EF hg hm ha (b8 hs)
theorem yk {elts:List Expr}{k:Nat}{tpos:Pos}{a b:Expr}{p pos:Pos} (hK:X.K=K) (hm:X.mg "zip"=none) (ha:PA X [a,b] ta) (hg:X.env.kindOf "zip"=some .globalImplicit:=by ext) (hs:noStar a=true:=by ext) (hs2:noStar b=true:=by ext) :
  PI X (.Tuple elts k tpos) (.Call (.Name "zip" p) [a,b] [] pos) (Jt K ta):=JO hK hg hm ha (by rw[b8 hs,b8 hs2];rfl) (b8 hs2)
theorem eR {o e:Expr}{es:List Expr}{to:TE}{t:TA}{name:Str}{apos cpos:Pos}{T id:String}{r:V->List V->Hp->VK->Prop} (hK:X.K=K) (pa:PlainAttrs T) (slot:Slot T name id) (hty:typeOf (.builtin id)=pure (.type "method_descriptor"))
  (hm:ď X id r) (ho:PE X o to) (ha:PA X (e::es) t)
  (hbase:attributeBase o name X.env (eval o X.env)=eval o X.env:=by ext) (hs:dW (e::es)=true:=by ext) (hlen:decide (⇑(e::es)<30)=true:=by ext)
  (hline:(apos.endLine==cpos.line)=true:=by ext):PE X (.Call (.Attribute o name apos) (e::es) [] cpos) (Č K T r to t):=by
 refine Mq hK pa slot hty hm ho ha hbase ?_ hline (b8 (bo hs).1) (du (bo hs).2);rw[pE hs];show (true&&true&&decide (⇑(e::es)+0+0<30))=true;rw[dq,dq];exact hlen
end
end
section
noncomputable def tx (l:Za):Str:=⟨l.toArray⟩
theorem bQ (l:Za):(tx l).cps.toList=l:=by unfold tx;simp
theorem bS (l:Za):⇑(tx l)=⇑l:=by show l.toArray.size=_;simp
theorem nQ (x:Str):tx x.cps.toList=x:=by unfold tx;simp
theorem vT (a b:Za):tx a++tx b=tx (a++b):=by show Str.mk (a.toArray++b.toArray)=Str.mk (a++b).toArray;simp
theorem lq {a b:Za} (h:tx a=tx b):a=b:=by have:=cc (fun x:Str=>x.cps.toList) h;simpa [tx] using this
theorem Ca (a b:Za):decide (tx a=tx b)=decide (a=b):=by
 by_cases e:a=b
 ·subst e;simp
 ·rw[ay e,ay (fun z=>e (lq z))]
theorem dQ (x:Str):⇑x=⇑x.cps.toList:=by show x.cps.size=_;simp
noncomputable def û (z:Str):It:=⟨fun i _=>i<z.cps.size,fun i H v H'=>H'=H/\∃ c,z.cps[i]?=some c/\v=.str ⟨#[c]⟩,fun i _=>z.cps.size<=i⟩
theorem Ak {tg:Expr} (n:String) (hn:n="str_ascii_iterator"∨n="str_iterator") (z:Str) (t:Tok) (it:Addr):Turn P w K tg (û z) [it] it (fun i h=>h.IsStrIter it n z t i) where
 mem:=by simp
 obj:=fun i h st b hb=>by
  have e:b=it:=by simpa using hb
  subst e;obtain⟨o,e,c,d⟩:=st;exact⟨o,e,fun v z=>by rw[d] at z;cases z⟩
 keep:=fun i h h' st k=>by obtain⟨o,e,c,d⟩:=st;exact⟨o,k it (by simp) o e,c,d⟩
 item:=by
  intro X hP hw hK hc i Yp s σ H E I hf st hg;subst hP hw hK;have hg':i<z.cps.size:=hg;have hx:z.cps[i]?=some z.cps[i]:=gu hg';obtain⟨f0,f1,f2,f3,f4,f5⟩:=hf it (by simp);have go:∀ h',h'.IsStrIter it n z t (i+1)->Heap.SameBut it s.heap h'->∃ u,some (Value.str ⟨#[z.cps[i]]⟩ s.toks)=some u ∧
    wpAny (model X.prog X.w) X.A (letOwnedTupleGo tg (.ref it) u) (fun _ s2=>∃ x H',Inv X Yp σ H' s2/\RelV x u/\(û z).yld i H x H'/\s2.heap.IsStrIter it n z t (i+1)/\∀ b∈[it],H' b=none) E { s with heap:=h',toks:=s.toks+1 }:=fun h' st' sb=>by
   have I1:Inv X Yp σ H { s with heap:=h',toks:=s.toks+1 }:=I.turned (t':=s.toks+1) (fun b o hb e=>(sb.2 b hb).trans e) f0 f1 f3 f4 f5;obtain⟨o,e,c,d⟩:=id st';exact⟨_,rfl,C9 (s:={ s with heap:=h',toks:=s.toks+1 }) e c d (by rcases hn with rfl | rfl<;>decide) ⟨.str ⟨#[z.cps[i]]⟩,H,I1,⟨_,rfl⟩,⟨rfl,_,hx,rfl⟩,st',fun b hb=>(hf b hb).1⟩⟩
  rcases hn with rfl | rfl
  ·exact wpAny_pyNext_ascii_item st hx go
  ·exact wpAny_pyNext_wide_item st hx go
 done:=by
  intro X hP hw hK hc i Yp s σ H E I hf st hg;subst hP hw hK;have hx:z.cps[i]?=none:=qF hg;obtain⟨f0,f1,f2,f3,f4,f5⟩:=hf it (by simp);have go:∀ h',Heap.ExtBut it s.heap h'->(none:Option Value)=none/\Inv X Yp σ H { s with heap:=h' }:=fun h' eb =>⟨rfl,I.turned (t':=s.toks) (fun b o hb e=>eb b o hb e) f0 f1 f3 f4 f5⟩;rcases hn with rfl | rfl
  ·exact wpAny_pyNext_ascii_end (I.ok.hd hc) st hx go
  ·exact wpAny_pyNext_wide_end (I.ok.hd hc) st hx go
 self:=fun _ _ _ _ _ st h=>by
  rcases hn with rfl | rfl
  ·exact wpAny_pyIter_striter_ascii st h
  ·exact wpAny_pyIter_striter_wide st h
noncomputable def CA (K:Zf) (x:V) (H:Hp) (R:It->Hp->Prop):Prop:=match x with
 | .ref a=>((∃ xs,Æ K H a xs)/\R (ê K a) H)∨((∃ xs,Û K H a xs)/\R (Ď K a) H)
 | .str z=>R (û z) H
 | _=>False
noncomputable def Gf (K:Zf) (te:TE):TI:=fun σ H R=>te σ H fun x H1=>CA K x H1 R
theorem Mw {tg l:Expr} (hl:PE X l tl):PI X tg l (Gf X.K tl):=by
 intro Yp s σ H R I h;refine Â (hl Yp s σ H _ I h) fun v s1 ⟨x,H1,I1,r1,q1⟩=>?_;cases x with
 | ref a =>
  cases r1
  rcases q1 with ⟨⟨xs,hq⟩,q⟩ | ⟨⟨xs,hq⟩,q⟩
  ·obtain⟨its,rv,p,hz⟩:=I1.list hq;refine wpAny_pyIter_list p.isList ?_;refine⟨s1.heap.objs.size,[s1.heap.objs.size],_,_,H1,rfl,I1.kept (t':=s1.toks) fun b o e=>aE _ e,EV a _,⟨_,bz _ rfl,rfl,rfl⟩,fun b hb=>?_,q⟩;have e:b=s1.heap.objs.size:=by simpa using hb
   subst e;exact I1.zb (av _) (I1.hok.fresh (av _))
  ·obtain⟨its,rv,p,hz⟩:=I1.tuple hq;refine wpAny_pyIter_tuple (show s1.heap.IsTuple a its.toArray from p) ?_;refine⟨s1.heap.objs.size,[s1.heap.objs.size],_,_,H1,rfl,I1.kept (t':=s1.toks) fun b o e=>aE _ e,BZ a _,⟨_,bz _ rfl,rfl,rfl⟩,fun b hb=>?_,q⟩;have e:b=s1.heap.objs.size:=by simpa using hb
   subst e;exact I1.zb (av _) (I1.hok.fresh (av _))
 | str z =>
  obtain⟨t,rfl⟩:=r1;cases ha:z.cps.all (·<128) with
  | true =>
   refine wpAny_pyIter_ascii ha ?_;refine⟨s1.heap.objs.size,[s1.heap.objs.size],_,_,H1,rfl,I1.kept (t':=s1.toks) fun b o e=>aE _ e,Ak "str_ascii_iterator" (.inl rfl) z t _,⟨_,bz _ rfl,rfl,rfl⟩,fun b hb=>?_,q1⟩;have e:b=s1.heap.objs.size:=by simpa using hb
   subst e;exact I1.zb (av _) (I1.hok.fresh (av _))
  | false =>
   refine wpAny_pyIter_wide ha ?_;refine⟨s1.heap.objs.size,[s1.heap.objs.size],_,_,H1,rfl,I1.kept (t':=s1.toks) fun b o e=>aE _ e,Ak "str_iterator" (.inr rfl) z t _,⟨_,bz _ rfl,rfl,rfl⟩,fun b hb=>?_,q1⟩;have e:b=s1.heap.objs.size:=by simpa using hb
   subst e;exact I1.zb (av _) (I1.hok.fresh (av _))
 | _=>exact False.elim q1
theorem ck {tg l:Expr} (hK:X.K=K) (hl:PE X l tl):PI X tg l (Gf K tl):=hK ▸ Mw hl
theorem IG {σ:St}{H:Hp}{K:Zf}{tl:TE}{R:It->Hp->Prop}:Gf K tl σ H R=tl σ H fun x H1=>CA K x H1 R:=propext Iff.rfl
noncomputable def Ē (z:Str):List V:=z.cps.toList.map fun c=>V.str ⟨#[c]⟩
theorem Kd (z:Str):(û z).Seq H1 (Ē z):=fun H s=>by
 refine⟨fun i x e=>?_,fun i hi=>?_⟩
 ·unfold Ē at e;rw[aS,eI] at e;cases hc:z.cps[i]? with
  | none=>rw[hc] at e;cases e
  | some c =>
   rw[hc] at e;have e':V.str ⟨#[c]⟩=x:=Option.some.inj e;have hi:i<z.cps.size:=by
    rcases Nat.lt_or_ge i z.cps.size with h | h
    ·exact h
    ·rw[qF h] at hc;cases hc
   exact⟨hi,fun y H' ⟨e1,d,e2,e3⟩=>⟨e1,by rw[hc] at e2;cases e2;rw[e3,e']⟩⟩
 ·show z.cps.size<=i;unfold Ē at hi
  simpa using hi
noncomputable def M4 (K:Zf) (neg:Bool):R2:=fun x y H Q=>match y with
 | .str j=>match x with
  | .str i=>Q (.bl (neg != !(Builtin.Str.occurrences j i 0 ⇑j 1).isEmpty)) H
  | _=>False
 | .ref p=>(∃ xs,Sq K H p xs/\eK x=true/\xs.all eK=true/\Q (.bl (neg != ÿ x xs)) H)∨∃ o:Option V,tW H p x o/\Q (.bl (neg != o.isSome)) H
 | _=>False
theorem Mh (hu:X.A.units+1<cLine):Ë X (compareOp .In) (M4 X.K false):=by
 intro Yp s σ H x y v u Q I rx ry h;cases y with
 | str j=>cases x with
  | str i =>
   refine ED Yp s σ H _ _ v u Q I rx ry ⟨i,j,rfl,rfl,?_⟩;have h':Q (.bl (false != !(Builtin.Str.occurrences j i 0 ⇑j 1).isEmpty)) H:=h
   rwa [Bool.false_bne] at h'
  | _=>exact False.elim h
 | ref p =>
  rcases h with ⟨xs,hs,fx,fxs,q⟩ | ⟨o,hg,q⟩
  ·rw[Bool.false_bne] at q;exact EC Yp s σ H _ _ v u Q I rx ry ⟨p,xs,rfl,hs,fx,fxs,q⟩
  ·rw[Bool.false_bne] at q;cases ry;exact Oh hu I hg rx fun s' I'=>⟨.bl _,H,I',rfl,q⟩
 | _=>exact False.elim h
theorem pP (hK:X.K=K) (hu:X.A.units+1<cLine):Ë X (compareOp .In) (M4 K false):=hK ▸ Mh hu
theorem Bc (x:Str) (c:Nat):(!(Builtin.Str.occurrences x ⟨#[c]⟩ 0 ⇑x 1).isEmpty)=decide (c∈x.cps.toList):=StrLaws.found_one x c
theorem Ap {c i:Nat}:StrLaws.At x ⟨#[c]⟩ ⇑x i↔x.cps.toList[i]?=some c:=by
 unfold StrLaws.At Builtin.Str.subAt;show i+1<=x.cps.size/\(x.cps.extract i (i+1)==#[c])=true↔_;rw[eI];constructor
 ·rintro⟨h1,h2⟩;have e:=eq_of_beq h2;have:x.cps[i]?=(x.cps.extract i (i+1))[0]?:=by
   rw[Array.getElem?_extract];simp;left
  rw[this,e];rfl
 ·intro h;have hi:i<x.cps.size:=by
   rcases Nat.lt_or_ge i x.cps.size with h' | h'
   ·exact h'
   ·rw[qF h'] at h;cases h
  refine⟨hi,?_⟩;have:x.cps.extract i (i+1)=#[c]:=by
   apply Array.ext
   ·simp;left
   ·intro j h1 h2;have hj:j=0:=by simp at h2;left
    subst hj;have e:=gu hi;rw[h] at e;simp [Option.some.inj e]
  rw[this];exact beq_self_eq_true _
theorem yX {c:Nat} (h:c∈x.cps.toList):Txt.find x ⟨#[c]⟩=((x.cps.toList.idxOf c:Nat):Int):=by
 have hi:x.cps.toList.idxOf c<⇑x.cps.toList:=List.idxOf_lt_length_of_mem h;have hg:x.cps.toList[x.cps.toList.idxOf c]?=some c:=by rw[aD hi,List.getElem_idxOf]
 rcases find_whole x ⟨#[c]⟩ with ⟨_,hn⟩ | ⟨i,e,hi2,hn⟩
 ·exact absurd (Ap.mpr hg) (hn _)
 ·rw[e];have h1:¬ x.cps.toList.idxOf c<i:=fun z=>hn _ z (Ap.mpr hg);have h2:=Ap.mp hi2;have h3:x.cps.toList.idxOf c<=i:=by
   rcases Nat.lt_or_ge i (x.cps.toList.idxOf c) with z | z
   ·obtain⟨hl,e2⟩:=br.mp h2;have h5:=List.not_of_lt_findIdx (p:=(·==c)) (xs:=x.cps.toList) (i:=i) z;rw[e2] at h5;simp at h5
   ·exact z
  congr 1
  left
noncomputable def CV:V->List V->Hp->VK->Prop:=fun x vs H Q=>match x,vs with
 | .str z,[.str y]=>0<=Txt.find z y/\Q (.int (Txt.find z y)) H
 | _,_=>False
theorem wZ :ë X "str.index" CV:=by
 intro Yp s σ H x vs v us Q I rx rv h;cases x<;>try exact h.elim
 rcases vs with _ | ⟨x0,t⟩
 ·exact h.elim
 cases x0<;>try exact h.elim
 cases t<;>try exact h.elim
 next z y =>
  obtain⟨t,rfl⟩:=rx;obtain⟨u,rfl,t',rfl⟩:=rv.one;cases ho:Builtin.Str.occurrences z y 0 ⇑z 1 with
  | nil =>
   have e:Txt.find z y=-1:=by simp [Txt.find,ho]
   have h1:=h.1;rw[e] at h1;exact absurd h1 (by decide)
  | cons i rest =>
   have e:Txt.find z y=(i:Int):=by simp [Txt.find,ho]
   refine SC.index ho ?_;have h2:=h.2;rw[e] at h2;exact⟨.int _,H,I.tok _,⟨_,rfl⟩,h2⟩
theorem Kl {ys:Ze}:∀ {us:Zc},Vals (ys.map V.str) us->StrsAre us ys:=by
 induction ys with
 | nil=>intro us r;cases r;exact .nil
 | cons y r ih =>
  intro us h;cases h with
  | cons h1 h2 =>obtain⟨t,rfl⟩:=h1;exact .cons _ _ (ih h2)
noncomputable def BB (K:Zf):V->List V->Hp->VK->Prop:=fun x vs H Q=>match x,vs with
 | .str z,[.ref p]=>∃ ys:Ze,Æ K H p (ys.map V.str)/\(ys.map (·.length)).sum+⇑ys*⇑z<=16777216/\Q (.str (Txt.join z ys)) H
 | _,_=>False
theorem GF :ë X "str.join" (BB X.K):=by
 intro Yp s σ H x vs v us Q I rx rv h;cases x<;>try exact h.elim
 rcases vs with _ | ⟨x0,t⟩
 ·exact h.elim
 cases x0<;>try exact h.elim
 cases t<;>try exact h.elim
 next z p =>obtain⟨ys,hs,hl,q⟩:=h;obtain⟨t,rfl⟩:=rx;obtain⟨u,rfl,ru⟩:=rv.one;cases ru;obtain⟨its,rv2,pl,hz⟩:=I.list hs;exact join_list pl.isList (by simpa using Kl rv2) hl fun t' k=>⟨.str _,H,I.tok _,⟨_,rfl⟩,q⟩
theorem vc (hK:X.K=K):ë X "str.join" (BB K):=hK ▸ GF
theorem uW (ls:List Za):Txt.join (tx []) (ls.map tx)=tx ls.flatten:=by
 have go:∀ (r:List Za) (acc:Za),(r.map tx).foldl (fun acc p=>acc++(tx []).cps++p.cps) acc.toArray=(acc++r.flatten).toArray:=by
  intro r
  induction r with
  | nil=>intro acc;simp
  | cons a r ih =>
   intro acc;rw[bg,og];have e:acc.toArray++(tx []).cps++(tx a).cps=(acc++a).toArray:=by simp [tx]
   rw[e,ih];simp
 unfold Txt.join Builtin.Str.glued;cases ls with
 | nil=>rfl
 | cons a r =>have:=go r a;show Str.mk ((r.map tx).foldl (fun acc p=>acc++(tx []).cps++p.cps) a.toArray)=tx (a::r).flatten;rw[this];rfl
theorem Bd (l:Za):Txt.join (tx []) (l.map fun c=>tx [c])=tx l:=by
 have:=uW (l.map fun c=>[c]);rw[aW] at this;rw[show (l.map fun c=>tx [c])=l.map (tx ∘ fun c=>[c]) from rfl,this]
 congr 1
 induction l with
 | nil=>rfl
 | cons a r ih=>rw[bg,lN,ih (by have:=uW (r.map fun c=>[c]);rw[aW] at this;exact this)];rfl
section
variable {α β:Type}
noncomputable def pull {γ:Type} (e:α->V) (f:α->γ) (d:γ) (v:V):γ:=open Classical in if h:∃ a,e a=v then f (Classical.choose h) else d
theorem k8 {γ:Type}{e:α->V} (inj:∀ a b,e a=e b->a=b) (f:α->γ) (d:γ) (a:α):pull e f d (e a)=f a:=by unfold pull;have h:∃ b,e b=e a:=⟨a,rfl⟩;rw[dif_pos h,inj _ _ (Classical.choose_spec h)]
theorem hU:∀ a b:Int,V.int a=V.int b->a=b:=fun _ _ h=>by cases h;rfl
theorem xI:∀ a b:Nat,V.str ⟨#[a]⟩=V.str ⟨#[b]⟩->a=b:=fun _ _ h=>by cases h;rfl
theorem zi {xs:List α}{js:Za}{σ:St}{tc:TT}{te:TE}{Q:VK} (e:α->V) (inj:∀ a b,e a=e b->a=b) (hJ:J.Seq H1 (xs.map e)) (hl:⇑xs<sizeLine) (p:α->Bool) (f:α->V)
  (hc:∀ x∈xs,∀ H,a9 H1 H->∀ R:Bool->Hp->Prop,(∀ H',a9 H H'->R (p x) H')->tc (some (e x)::js.map fun j=>(σ[j]?).join) H R)
  (he:∀ x∈xs,p x=true->∀ H,a9 H1 H->∀ R:VK,(∀ H',a9 H H'->R (f x) H')->te (some (e x)::js.map fun j=>(σ[j]?).join) H R)
  (q:∀ D H,H1 D=none->a9 H1 H->H D=some (.lst ((xs.filter p).map f))->Q (.ref D) H):eE (fG 0) tc te (hO 1 js σ) J H1 Q:=by
 refine Gw hJ (by rw[af];exact hl) (pull e p false) (pull e f .non) ?_ ?_ ?_
 ·intro v hv H s R hR;obtain⟨x,hx,rfl⟩:=aK.mp hv;rw[k8 inj] at hR;exact hc x hx H s R hR
 ·intro v hv hp H s R hR;obtain⟨x,hx,rfl⟩:=aK.mp hv;rw[k8 inj] at hR hp;exact he x hx hp H s R hR
 ·intro D H h1 h2 h3;refine q D H h1 h2 ?_;rw[h3,List.filter_map,aW]
  congr 2
  have e1:pull e f .non ∘ e=f:=funext fun a=>k8 inj f .non a;have e2:pull e p false ∘ e=p:=funext fun a=>k8 inj p false a;rw[e1,e2]
theorem uY {xs:List α}{js:Za}{σ:St}{te:TE}{Q:VK} (e:α->V) (inj:∀ a b,e a=e b->a=b) (hJ:J.Seq H1 (xs.map e)) (hl:⇑xs<sizeLine) (f:α->V)
  (he:∀ x∈xs,∀ H,a9 H1 H->∀ R:VK,(∀ H',a9 H H'->R (f x) H')->te (some (e x)::js.map fun j=>(σ[j]?).join) H R)
  (q:∀ D H,H1 D=none->a9 H1 H->H D=some (.lst (xs.map f))->Q (.ref D) H):eE (fG 0) ur te (hO 1 js σ) J H1 Q :=
 zi e inj hJ hl (fun _=>true) f (fun x _ H _ R hR=>hR H (a9.refl H)) (fun x hx _ H s R hR=>he x hx H s R hR) fun D H h1 h2 h3=>q D H h1 h2 (by rw[List.filter_eq_self.mpr (fun _ _=>rfl)] at h3;exact h3)
theorem Nn {K:Zf}{a b:Addr}{H1:Hp}{xs:List α}{ys:List β}{js:Za}{σ:St}{te:TE}{Q:VK} (e:α->V) (e':β->V) (inj:∀ a b,e a=e b->a=b) (inj':∀ a b,e' a=e' b->a=b)
  (hx:Æ K H1 a (xs.map e)) (hy:Æ K H1 b (ys.map e')) (hl:⇑xs<sizeLine) (f:α->β->V)
  (he:∀ x y,(x,y)∈xs.zip ys->∀ H,a9 H1 H->∀ R:VK,(∀ H',a9 H H'->R (f x y) H')->te (some (e x)::some (e' y)::js.map fun j=>(σ[j]?).join) H R)
  (q:∀ D H,H1 D=none->a9 H1 H->H D=some (.lst ((xs.zip ys).map fun p=>f p.1 p.2))->Q (.ref D) H):eE (Em K 2 (oZ (fG 0) (oZ (fG 1) El))) ur te (hO 2 js σ) (ü K a b) H1 Q:=by
 refine LV hx hy (by rw[af];exact hl) (fun v u=>pull e (fun x=>pull e' (f x) .non u) .non v) ?_ ?_
 ·intro v u hvu H s R hR;rw[List.zip_map,aK] at hvu;obtain⟨⟨x,y⟩,hxy,e2⟩:=hvu;cases e2;have e3:pull e (fun x=>pull e' (f x) .non (e' y)) .non (e x)=f x y:=by rw[k8 inj,k8 inj']
  exact he x y hxy H s R (fun H' s'=>by have:=hR H' s';rwa [e3] at this)
 ·intro D H h1 h2 h3;refine q D H h1 h2 ?_;rw[h3,List.zip_map,aW]
  congr 2
  refine iY fun ⟨x,y⟩ _=>?_;show pull e (fun x=>pull e' (f x) .non (e' y)) .non (e x)=f x y;rw[k8 inj,k8 inj']
end
theorem yv (z:Str):(û z).Seq H1 (z.cps.toList.map fun c=>V.str ⟨#[c]⟩):=Kd z
theorem rz {x:V}{t:Tg} (ht:eZ H x=some t) (hs:∀ z,x≠.str z):t≠.str:=fun e=>by
 subst e;cases x with
 | str z=>exact hs z rfl
 | ref a =>
  have h':mE (H a)=some .str:=ht;cases e:H a with
  | none=>rw[e] at h';cases h'
  | some o=>rw[e] at h';cases o with
   | frz ob u=>cases u<;>cases h'
   | _=>cases h'
 | _=>cases ht
theorem A5 {a b:Int} (ha:0<=a/\a<1000) (hb:0<=b/\b<1000):Im a b :=
 ⟨bH (show a.natAbs<1000 by left) Zd,bH (show b.natAbs<1000 by left) Zd⟩
theorem eP {l:List α}{i:Int}{v:α} (h0:0<=i) (h1:l[i.toNat]?=some v):Þ l i=some v:=by
 have:=df h1
 rwa [nU h0] at this
theorem wo:(Str.ofString "abcdefghijklmnopqrstuvwxyz").cps.toList=List.range' 97 26:=by nofun
theorem F9:Str.ofString ""=tx []:=by nofun
theorem Gj {D:Addr}{l:Za} (h:H D=some (.lst (l.map fun c=>V.str (tx [c])))):Æ K H D ((l.map fun c=>tx [c]).map V.str):=.of (by rw[h,aW];rfl)
theorem Gi {l:Za} (hl:⇑l<=100000):((l.map fun c=>tx [c]).map (·.length)).sum+⇑(l.map fun c=>tx [c])*(Str.ofString "").length<=16777216:=by
 have e2:(Str.ofString "").length=0:=by nofun
 rw[e2,Nat.mul_zero,Nat.add_zero,aW];have e:∀ l:Za,(l.map ((fun x:Str=>⇑x) ∘ fun x=>tx [x])).sum=⇑l:=by
  intro l
  induction l with
  | nil=>rfl
  | cons a r ih=>rw[bg,lQ,ih,bf];show ⇑(tx [a])+_=_;rw[bS];simp;left
 rw[e];left
theorem CC (l:Za):Txt.join (Str.ofString "") (l.map fun c=>tx [c])=tx l:=by rw[F9,Bd]
end
section
noncomputable def DK (h h':Heap):Prop:=∀ b o,h.get? b=some o->∃ o',h'.get? b=some o'/\o'.cls=o.cls/\o'.dict=o.dict/\(∀ vs,o.data=.fields vs->∃ vs',o'.data=.fields vs'/\vs'[2]?=vs[2]?)
theorem DK.refl (h:Heap):DK h h:=fun b o e=>⟨o,e,rfl,rfl,fun vs q=>⟨vs,q,rfl⟩⟩
theorem DK.trans {h1 h2 h3:Heap} (x:DK h1 h2) (y:DK h2 h3):DK h1 h3:=fun b o e=>by obtain⟨o1,e1,c1,d1,f1⟩:=x b o e;obtain⟨o2,e2,c2,d2,f2⟩:=y b o1 e1;exact⟨o2,e2,c2.trans c1,d2.trans d1,fun vs q=>by obtain⟨v1,q1,g1⟩:=f1 vs q;obtain⟨v2,q2,g2⟩:=f2 v1 q1;exact⟨v2,q2,g2.trans g1⟩⟩
theorem DK.push (h:Heap) (o:Obj):DK h (h.push o):=fun b u e=>⟨u,aE _ e,rfl,rfl,fun vs q=>⟨vs,q,rfl⟩⟩
structure KD {α:Type} (m:Sem α):Prop where
 out:∀ (M:Model) (Γ:PySem.Ctx) (P:α->Pos->Zg->Prop) (Ee:Value->Pos->Zg->Prop) (p:Pos) (s:Zg),Sem.wp M Γ m P Ee p s →
  Sem.wp M Γ m (fun a p' s'=>P a p' s'/\DK s.heap s'.heap) (fun e p' s'=>Ee e p' s'/\DK s.heap s'.heap) p s
namespace KD
variable {α β:Type}
theorem pure (a:α):KD (Pure.pure a:Sem α):=⟨fun _ _ _ _ _ s h=>⟨h,DK.refl _⟩⟩
theorem unsupported (w:String):KD (PySem.unsupported w:Sem α):=⟨fun _ _ _ _ _ _ h=>h⟩
theorem bind {m:Sem α}{f:α->Sem β} (hm:KD m) (hf:∀ a,KD (f a)):KD (m >>= f):=⟨fun M Γ P Ee p s h=>by rw[Sem.wp_bind'] at h ⊢;refine Sem.wp_mono M Γ m (fun a p' s' h'=>?_) (fun _ _ _ x=>x) p s (hm.out M Γ _ _ p s h);refine Sem.wp_mono M Γ (f a) (fun b p2 s2 h2=>⟨h2.1,h'.2.trans h2.2⟩) (fun e p2 s2 h2=>⟨h2.1,h'.2.trans h2.2⟩) p' s' ((hf a).out M Γ P Ee p' s' h'.1)⟩
theorem ite {c:Prop} [Decidable c] {t u:Sem α} (ht:KD t) (hu:KD u):KD (if c then t else u):=by split<;>assumption
theorem load (a:Addr):KD (PySem.load a):=⟨fun _ _ _ _ _ s h=>by obtain⟨o,e,q⟩:=h;exact⟨o,e,q,DK.refl _⟩⟩
theorem stack:KD PySem.stack:=⟨fun M Γ P Ee p s h=>by unfold PySem.stack at h ⊢;rw[Sem.wp_stack] at h ⊢;exact⟨h,DK.refl _⟩⟩
theorem alloc (o:Obj):KD (PySem.alloc o):=⟨fun _ _ _ _ _ s h=>⟨h,DK.push _ _⟩⟩
theorem field (v:Value) (i:Nat):KD (PySem.field v i):=⟨fun _ Γ P Ee p s h=>by rw[wp_field_iff] at h ⊢;obtain⟨a,o,vs,x,e1,e2,e3,e4,q⟩:=h;exact⟨a,o,vs,x,e1,e2,e3,e4,q,DK.refl _⟩⟩
theorem update {a:Addr}{f:Obj->Obj} (hf:∀ o,(f o).cls=o.cls/\(f o).dict=o.dict/\(f o).isFreed=o.isFreed/\∀ vs,o.data=.fields vs->∃ vs',(f o).data=.fields vs'/\vs'[2]?=vs[2]?):KD (PySem.update a f):=⟨fun _ _ _ _ _ s h=>by
 refine⟨h.1,h.2,fun b o e=>?_⟩
 by_cases hb:b=a
 ·subst hb;obtain⟨h1,h2,h3,h4⟩:=hf o;have hfr:o.isFreed=false:=(Heap.get?_some_iff.mp e).2;exact⟨f o,fV _ e (by rw[h3];exact hfr),h1,h2,h4⟩
 ·exact⟨o,(dy _ _ (b7 hb)).trans e,rfl,rfl,fun vs q=>⟨vs,q,rfl⟩⟩⟩
theorem setField (v:Value) (i:Nat) (x:Value) (hi:i≠2):KD (PySem.setField v i x):=⟨fun _ Γ P Ee p s h=>by
 rw[wp_setField_iff] at h ⊢;obtain⟨a,o,vs,e1,e2,e3,e4,q⟩:=h;refine⟨a,o,vs,e1,e2,e3,e4,q,fun b u e=>?_⟩
 by_cases hb:b=a
 ·subst hb;rw[e2] at e;cases e;have hd:=Obj.data_mapFields e3 (·.setIfInBounds i x);exact⟨_,fV _ e2 (Obj.isFreed_of_fields hd),Obj.cls_mapFields ..,by cases o with | mk c d dt sl=>cases dt<;>first | rfl,fun vs' q=>⟨_,hd,by rw[e3] at q;cases q;exact Array.getElem?_setIfInBounds_ne hi⟩⟩
 ·exact⟨u,(dy _ _ (b7 hb)).trans e,rfl,rfl,fun vs q=>⟨vs,q,rfl⟩⟩⟩
theorem slots {a:Addr}{g:Obj->Array (Option Value)}:KD (PySem.update a fun o=>{ o with slots:=g o }):=update fun o=>⟨rfl,rfl,by cases o with | mk c d dt sl=>cases dt<;>rfl,fun vs q=>⟨vs,q,rfl⟩⟩
end KD
theorem Ey (env:Env) (outer:List Env):KD (behindIsImport env outer):=by
 unfold behindIsImport
 repeat' with_reducible first | exact KD.pure _ | exact KD.field _ _ | apply KD.ite | apply KD.bind | intro _
theorem Ez:KD underTheClaimsCaller:=by
 unfold underTheClaimsCaller
 repeat' with_reducible first | exact KD.pure _ | exact KD.stack | exact KD.unsupported _ | exact KD.field _ _ | apply KD.ite | apply KD.bind | intro _ | split
theorem Jw (env:Env) (i:Bool) (l:List Env):KD (keptBack env i l):=by have:=Ez;cases l<;>unfold keptBack<;>repeat' with_reducible first | assumption | exact KD.pure _ | apply KD.ite | apply KD.bind | intro _
theorem zg:∀ l:List Env,KD (readyFrames l)
 | []=>KD.pure _
 | env::outer=>by
  have ih:=zg outer;have h1:=Ey env outer;have h2:=fun i=>Jw env i outer;unfold readyFrames;split
  ·refine KD.bind (KD.load _) fun o=>KD.ite (KD.pure _) (KD.bind h1 fun b=>KD.bind (h2 b) fun v=>KD.bind KD.slots fun _=>ih)
  ·exact KD.unsupported _
theorem uX (l:List Env):KD (frameObject l):=by
 cases l with
 | nil=>exact KD.pure _
 | cons a r=>unfold frameObject;exact KD.bind (zg _) fun _=>KD.pure _
theorem Bf (env:Env):KD (PySem.frameOf env):=by
 unfold PySem.frameOf frameEnvs;refine KD.bind (KD.bind KD.stack fun _=>KD.pure _) fun l=>KD.bind (uX _) fun o=>?_;cases o with
 | none=>exact KD.unsupported _
 | some v=>exact KD.pure _
theorem Gn (f:Addr) (b:Bool):KD (entryPlaceOf f b):=by
 unfold entryPlaceOf
 repeat' with_reducible first | exact KD.pure _ | exact KD.stack | exact KD.unsupported _ | apply KD.ite | apply KD.bind | intro _ | split
theorem Gm (a b c d e:Value) (l:Zc):KD (EntryCells.newEntry a b c d e l):=by
 unfold EntryCells.newEntry newFields newObj newObjAsIs
 repeat' first | exact KD.pure _ | exact KD.alloc _ | exact KD.unsupported _ | apply KD.ite | apply KD.bind | intro _ | split
theorem xN (e:Value) (env:Env):KD (noteFrame e env):=by
 unfold noteFrame;have h1:=Bf env;have h2:=Gn;have h3:=Gm;split
 ·repeat' with_reducible first | exact KD.pure _ | exact KD.field _ _ | exact KD.setField _ _ _ (by decide) | exact h1 | exact h2 _ _ | exact h3 _ _ _ _ _ _ | apply KD.ite | apply KD.bind | intro _
 ·exact KD.unsupported _
theorem lC (e:Value) (o:Option Addr):KD (setFlight e o):=by
 unfold setFlight
 repeat' with_reducible first | exact KD.pure _ | exact KD.field _ _ | exact KD.setField _ _ _ (by decide) | apply KD.ite | apply KD.bind | intro _
theorem pJ (env:Env) (e:Value):KD (leaving env e):=by unfold leaving;exact KD.bind (xN _ _) fun _=>lC _ _
theorem KD.any {A:Around}{t:Sem α}{Q:α->Zg->Prop} (k:KD t) (h:wpAny M A t Q E s) :
  wpAny M A t (fun a s'=>Q a s'/\DK s.heap s'.heap) (fun e s'=>E e s'/\DK s.heap s'.heap) s:=fun Γ p hΓ=>k.out M Γ _ _ p s (h Γ p hΓ)
theorem Bo (x:cj P w H h a o):∃ u,h.get? a=some u:=by
 cases o with
 | lst xs=>obtain⟨_,_,_,_,e⟩:=x;exact⟨_,e⟩
 | tup xs=>obtain⟨_,_,_,ob,e,_⟩:=x;exact⟨_,e⟩
 | dK kvs=>obtain⟨_,_,_,_,ob,_,_,e,_⟩:=x;exact⟨_,e⟩
 | dT kvs=>obtain⟨_,_,_,_,ob,_,_,e,_⟩:=x;exact⟨_,e⟩
 | set S n=>obtain⟨ob,_,_,_,e,_⟩:=x;exact⟨_,e⟩
 | ins C dx fs=>obtain⟨_,_,_,e,_⟩:=x;exact⟨_,e⟩
 | own y=>exact x
 | xd fs=>obtain⟨_,⟨od,_,_,e,_⟩,_⟩:=x;exact⟨_,e⟩
 | rng lo hi=>obtain⟨_,_,_,e⟩:=x;exact⟨_,e⟩
 | frz ob u=>exact⟨_,x.1⟩
 | tbl ps=>obtain⟨_,e,_⟩:=x;exact⟨_,e⟩
 | met f y=>exact⟨_,x⟩
 | ext φ=>exact x.2.1
noncomputable def XD (o:Obj) (d:Option Addr):Prop:=o.dict=d/\∃ vs,o.data=.fields vs/\vs[2]?=some .none
theorem XD.dk {o o':Obj} (x:XD o d) (h:o'.dict=o.dict) (f:∀ vs,o.data=.fields vs->∃ vs',o'.data=.fields vs'/\vs'[2]?=vs[2]?):XD o' d:=by obtain⟨x1,vs,x2,x3⟩:=x;obtain⟨vs',y1,y2⟩:=f vs x2;exact⟨h.trans x1,vs',y1,y2.trans x3⟩
noncomputable def Á (P:Zh) (w:Zi):Ö:=fun outer H s E e s'=>∃ (ea C t:Addr) (B:Heap) (H':Hp) (d:Option Addr),e=.ref ea/\s'.os=s.os/\AllBare s'.gens/\Un (Ì outer) [] H H' s.heap s'.heap/\Ð P w H' s'.heap ∧
 Heap.FlyingW B outer ea (.ref C) (.ref t) s'.heap/\(∃ oe,s'.heap.get? ea=some oe/\XD oe d)/\(∀ dx,d=some dx->∃ fs,H' dx=some (.xd fs)) ∧
 (∀ b o,s'.heap.get? b=some o->b∉Ì outer->(H' b≠none∨∃ u,s.heap.get? b=some u)->B.get? b=some o)/\E (.ref C) d H'
section
variable {X:Cx}{Yp:Zp}{σ:St}{H:Hp}{s:Zg}
theorem uN {B h':Heap} (I:Inv X Yp σ H s) (hst:X.stack=X.env::X.outer) (hf:X.env.frame=some X.env.locals) (hex:X.ex=[]) (hB:B.StaysIn h') (hsm:s.heap.UpToSlots h')
  (hk:∀ b o,s.heap.get? b=some o->b∉Ì X.stack->(H b≠none∨∃ u,X.s₀.heap.get? b=some u)->B.get? b=some o) :
  Un (Ì X.outer) [] X.H₀ H X.s₀.heap h'/\Ð X.prog X.w H h'/\∀ b o,h'.get? b=some o->b∉Ì X.outer->(H b≠none∨∃ u,X.s₀.heap.get? b=some u)->B.get? b=some o:=by
 have hfs:Ì X.stack=X.env.locals::Ì X.outer:=by rw[hst];unfold Ì;rw[nZ,hf]
 have old:∀ b u,X.s₀.heap.get? b=some u->b≠X.env.locals:=fun b u e z=>absurd (bH (aH e) (by rw[z];exact I.ok.above)) (fq _);have nstk:∀ b,b≠X.env.locals->b∉Ì X.outer->b∉Ì X.stack:=fun b h1 h2 z=>by rw[hfs] at z;rcases aU.mp z with z | z;exact h1 z;exact h2 z
 have ù:∀ b,H b≠none->b∉Ì X.stack:=fun b h1 z=>h1 (I.rq b z);have nx:∀ b:Addr,b∉X.ex:=fun b=>by rw[hex];simp
 have fr:∀ b,b∈Ì X.outer->∃ o,s.heap.get? b=some o/\∀ vs,o.data≠.fields vs:=fun b hb=>(I.stack.mem (show b∈Ì X.stack by rw[hfs];exact aV _ hb)).2;have tkeep:∀ b o,H b≠none->s.heap.get? b=some o->h'.get? b=some o:=fun b o h1 e=>hB b o (hk b o e (ù b h1) (.inl h1));have okeep:∀ b o u,X.s₀.heap.get? b=some u->b∉Ì X.outer->s.heap.get? b=some o->h'.get? b=some o:=fun b o u e0 h2 e=>hB b o (hk b o e (nstk b (old b u e0) h2) (.inr ⟨u,e0⟩));refine⟨⟨fun b o e n hb _=>?_,fun b o e n hb _=>?_,fun b o e n _=>I.base.free b o e n (nx b),fun b o e _=>?_,I.base.tups,I.base.frzs,I.base.tbls⟩,fun a o e=>?_,fun b o e hb hc=>?_⟩
 ·exact okeep b o o e hb (I.base.keep b o e n hb (nx b))
 ·obtain⟨sl,e1⟩:=I.base.slot b o e n hb (nx b);obtain⟨o1,e2,hd⟩:=fr b hb;rw[e1] at e2;cases e2;obtain⟨sl',e3⟩:=hsm b _ e1 hd;exact⟨sl',e3⟩
 ·obtain⟨o1,e1⟩:=I.base.there b o e (nx b)
  by_cases hb:b∈Ì X.outer
  ·obtain⟨o2,e2,hd⟩:=fr b hb;obtain⟨sl',e3⟩:=hsm b _ e2 hd;exact⟨_,e3⟩
  ·exact⟨o1,okeep b o1 o e hb e1⟩
 ·refine (I.hok a o e).mD (fun c v hc q=>tkeep c v ?_ q) (fun _ q=>q) fun _ _ q=>q;rcases hc with z | z
  ·rw[z,e];simp
  ·rw[z];simp
 ·rcases hc with h1 | ⟨u,e0⟩
  ·cases q:H b with
   | none=>exact absurd q h1
   | some ob =>obtain⟨o1,e1⟩:=Bo (I.hok b ob q);have:=tkeep b o1 h1 e1;rw[e] at this;cases this;exact hk b o e1 (ù b h1) (.inl h1)
  ·obtain⟨o1,e1⟩:=I.base.there b u e0 (nx b);have:=okeep b o1 u e0 hb e1;rw[e] at this;cases this;exact hk b o e1 (nstk b (old b u e0) hb) (.inr ⟨u,e0⟩)
noncomputable def Ff (X:Cx) (E:St->XK):Prop:=∀ (Yp:Zp) (σ:St) (H:Hp) (s:Zg) (h1:Heap) (e C:Addr) (vs:Zc),Inv X Yp σ H s->Heap.MadeExcOf s.heap h1 e (.ref C) vs->E σ (.ref C) none H->X.xe (.ref e) { s with heap:=h1 }
end
section
variable {P:Zh}{w:Zi}{K:Zf}{mg:Zk}{base:Heap}{N:Ze}{qual:Str}{scope:Scope}{f:Addr}{cd:Value}{A:Around}{outer:List Env}{s:Zg}{H:Hp}{E:XK}
theorem au:Passes (Á P w) (vV (Á P w) P w K mg base N qual scope f cd A outer s H E) (fun _=>E):=by intro Yp σ H1 s1 e s' I h;obtain⟨ea,C,t,B,H',d,rfl,os,bare,un,hok,fl,⟨oe,hoe,hdo⟩,hdx,hkb,hE⟩:=h;have I':=I.wD (ch:=[]) os un hok bare (fun b z=>absurd z (by simp));show wpAny _ _ _ _ _ _;refine bO (KD.any (E:=fun _ _=>False) (pJ _ _) (wpAny_leaves_onW (Q:=fun _ s''=>∃ h',s''={ s' with heap:=h' }/\Heap.FlyingW B outer ea (.ref C) (.ref t) h'/\s'.heap.UpToSlots h') I.ok.frames rfl fl fun h' x1 x2=>⟨h',rfl,x1,x2⟩)) ?_ (fun _ _ z=>False.elim z.1);rintro _ s'' ⟨⟨h',rfl,x1,x2⟩,dk⟩;obtain⟨u1,u2,u3⟩:=uN (B:=B) (h':=h') I' rfl rfl rfl x1.1 x2 (fun b o e1 e2 e3=>hkb b o e1 e2 (e3.elim .inl fun ⟨u,e0⟩=>.inr (I.base.there b u e0 (by show b∉([]:List Addr);simp))));obtain⟨oe',hoe',_,hd',hg'⟩:=dk ea oe hoe;exact⟨ea,C,t,B,H',d,rfl,I'.os,I'.bare,u1,u2,x1,⟨oe',hoe',hdo.dk hd' hg'⟩,hdx,u3,hE⟩
theorem di:Ff (vV (Á P w) P w K mg base N qual scope f cd A outer s H E) (fun _=>E):=by intro Yp σ H1 s1 h1 e C vs I hx hE;show wpAny _ _ _ _ _ _;have hin:∀ env∈(envOfC qual scope s.heap.objs.size f cd::outer),∀ b,env.frame=some b->b∈Ì (envOfC qual scope s.heap.objs.size f cd::outer):=fun env he b hb=>om.mpr ⟨env,he,hb⟩;have st:(PySem.W.hideAll s1.heap (Ì (envOfC qual scope s.heap.objs.size f cd::outer))).StaysIn s1.heap:=fun b o q=>PySem.W.of_hideAll _ q;have ff:s1.heap.FunFrames (PySem.W.hideAll s1.heap (Ì (envOfC qual scope s.heap.objs.size f cd::outer))) (envOfC qual scope s.heap.objs.size f cd::outer):=PySem.W.funFrames_hide I.stack hin;obtain⟨tt,het,_,_⟩:=hx.there;refine bO (KD.any (E:=fun _ _=>False) (pJ _ _) (wpAny_leaves_madeW (s:={ s1 with heap:=h1 }) (Q:=fun _ s''=>∃ h' t,s''={ s1 with heap:=h' }/\Heap.FlyingW (PySem.W.hideAll s1.heap (Ì (envOfC qual scope s.heap.objs.size f cd::outer))) outer e (.ref C) (.ref t) h'/\h1.UpToSlots h') I.ok.frames rfl st ff hx fun h' t x1 _ _ x4=>⟨h',t,rfl,x1,x4⟩)) ?_ (fun _ _ z=>False.elim z.1);rintro _ s'' ⟨⟨h',t,rfl,x1,x4⟩,dk⟩;obtain⟨u1,u2,u3⟩:=uN (h':=h') I rfl rfl rfl x1.1 ((Heap.UpToSlots.of_keeps hx.keeps).trans x4) (fun b o e1 e2 _=>PySem.W.hideAll_get _ e1 e2);obtain⟨oe',hoe',_,hd',hg'⟩:=dk e _ het;exact⟨e,C,t,_,H1,none,rfl,I.os,I.bare,u1,u2,x1,⟨oe',hoe',XD.dk ⟨rfl,_,rfl,rfl⟩ hd' hg'⟩,(fun dx z=>by cases z),u3,hE⟩
end
theorem e8 :Passes (Á P w) X E0:=fun _ _ _ _ _ _ _ h=>by obtain⟨_,_,_,_,_,_,_,_,_,_,_,_,_,_,_,z⟩:=h;exact z.elim
theorem wI {outer:List Env}{e:Value}{s':Zg} (h:Á P w outer H s (fun _ _ _=>False) e s'):False:=by obtain⟨_,_,_,_,_,_,_,_,_,_,_,_,_,_,_,z⟩:=h;exact z
section
variable {P:Zh}{w:Zi}{K:Zf}{mg:Zk}{base:Heap}
theorem Ç.æ {x qual:Str}{st:Stmt}{f:Addr}{fd:FuncData}{N ps:Ze}{k:Nat} (F:Ç K x qual st f fd) (S:aI N ps (aw st)) (len:∀ vs H Q E,sp vs H Q E->⇑vs=⇑ps)
  (hbody:∀ (cdv:Value) (A:Around) (outer:List Env) (s:Zg) (H:Hp) (vs:List V) (Q:VK) (E:XK),fe k (A.deeper (envOfC qual (aw st) s.heap.objs.size f cdv))->sp vs H Q E →
   ∃ t,á (vV (Á P w) P w K mg base N qual (aw st) f cdv A outer s H E) (cQ st) t/\t { nx:=fun _ H'=>Q .non H',rt:=Q } (start N vs) H):bR P w K mg base (Á P w) (k+1) f fd ps sp:=by
 obtain⟨oc,od,kV,doc,pm,an,cdv,ct,osl,rfl,lk,hcd⟩:=F.ex;exact Kz lk hcd S len fun A outer s H vs Q E hr hsp=>hbody cdv A outer s H vs Q E hr hsp
end
theorem Ei {newId:String} (XK:K.In h) (q:PySem.W.excIn K C bmB newId=true) :
  ∃ bm N nm qn bs hd sn sub ab col dd k0 k1 k2 k3 k5 mN,h.get? C=some (excClassObj nm qn C N bs bm hd sn sub ab col dd k0 k1 k2 k3 k5 newId)/\h.Ns N mN/\mN "__init__"=none/\OwnTail h bmB bm:=by
 unfold PySem.W.excIn at q;split at q;next dd cd sl ho =>
  split at q;next C' bm k0 k1 k2 k3 n k5 hm hs =>
   simp only[bT,eM,Bool.not_eq_true'] at q;obtain⟨⟨⟨⟨⟨e1,e2⟩,e3⟩,e4⟩,e5⟩,e6⟩:=q;subst e1 e2;cases cd with
   | mk nm bs mro ns qn hd sn sub ab col del =>
    simp only at hm e3 e5 e6;subst hm e3;have z:sl=#[k0,k1,k2,k3,some (.builtin n),k5]:=by
     cases sl with
     | mk l=>simp only at hs;rw[hs]
    subst z;exact⟨bm,ns,nm,qn,bs,hd,sn,sub,ab,col,dd,k0,k1,k2,k3,k5,_,XK _ _ ho,.of_isNs (PySem.W.isNs_of_in XK e5),PySem.W.nsMap_none_of_in XK e5 e6,PySem.W.tail_of_in XK e4⟩
  next=>cases q
 next=>cases q
noncomputable def BH (C:Addr) (E:St->XK) (t:TA):TS:=fun _ σ H=>t σ H fun vs H1=>⇑vs<=sizeLine/\E σ (.ref C) none H1
theorem Fp {C:Addr}{E:St->XK}{t:TA}{D:Ends}{σ:St}{H:Hp}:BH C E t D σ H=t σ H fun vs H1=>⇑vs<=sizeLine/\E σ (.ref C) none H1:=propext Iff.rfl
section
variable {X:Cx}
theorem dX {E:St->XK}{B newId initId:String}{e₀:Expr}{rest:List Expr}{t:TA}{np cpos pos:Pos} (FB:ExcBaseFacts B newId initId bmB) (hq:PySem.W.excIn X.K C bmB newId=true) (hm:X.mg x=some (.ref C))
  (hrx:Ff X E) (hc:X.calm=true) (ha:PA X (e₀::rest) t) (hg:X.env.kindOf x=some .globalImplicit:=by ext) (hd:(x==("__debug__":Str))=false:=by ext) (hs:dW (e₀::rest)=true:=by ext) :
  PS X (.Raise (some (.Call (.Name x np) (e₀::rest) [] cpos)) none pos) (BH C E t):=by
 intro Yp s σ H D I h;obtain⟨bm,N,nm,qn,bs,hdct,sn,sub,ab,col,dd,k0,k1,k2,k3,k5,mN,g1,g2,g3,g4⟩:=Ei I.ok.mod.kin hq;have he:=b8 (es:=rest) (env:=X.env) (bo hs).1;refine wpAny_Raise_call_subT (C:=C) (nm:=nm) (q:=qn) (N:=N) (bs:=bs) (bm:=bm) (hdct:=hdct) (sn:=sn) (sub:=sub) (ab:=ab) (col:=col) (dd:=dd) (k0:=k0) (k1:=k1) (k2:=k2) (k3:=k3) (k5:=k5)
  FB (mN:=mN) (g4.hasType FB.hasBase) (I.ok.hd hc) (du hs) g3 (ku I hg hm ⟨rfl,?_⟩ hd)
 have ha':=ha cpos Yp s σ H _ I h;rw[he] at ha' ⊢;refine Calls.evalArgs_plain (bO ha' (fun vs s2 h2=>?_) fun _ _ y=>y);obtain⟨xs,H2,I2,r,z,q⟩:=h2;exact⟨rfl,by rw[←⇑r];exact z,I2.bk _ _ g1,g2.keeps I2.bk,g4.keeps I2.bk,fun h' e hx=>hrx Yp σ H2 s2 h' e C vs I2 hx q⟩
end
end
section
noncomputable def sh (a:Addr) (c:Value) (d:Option Addr):HO:=.ext fun h=>∃ o,h.get? a=some o/\o.cls=c/\XD o d
theorem Cz {c:Value}{o:Obj} (e:h.get? a=some o) (h1:o.cls=c) (h2:XD o d):cj P w H h a (sh a c d) :=
 ⟨⟨o,e,h1,h2⟩,⟨o,e⟩,fun _ _ ⟨o,e,q⟩ k=>⟨o,k o e,q⟩⟩
theorem Dm {l:List Env}{H1 H':Hp}{h1 h' h5 B:Heap} (u:Un (Ì l) [] H1 H' h1 h') (hk:∀ b o,h'.get? b=some o->b∉Ì l->(H' b≠none∨∃ u,h1.get? b=some u)->B.get? b=some o) (hB:B.StaysIn h5) (hsm:h'.UpToSlots h5)
  (hfr:∀ b∈Ì l,∃ o,h'.get? b=some o/\∀ vs,o.data≠.fields vs):Un (Ì l) [] H1 H' h1 h5 where
 keep:=fun b o e n hb hx=>hB b o (hk b o (u.keep b o e n hb hx) hb (.inr ⟨o,e⟩))
 slot:=fun b o e n hb hx=>by obtain⟨sl,e1⟩:=u.slot b o e n hb hx;obtain⟨o1,e2,hd⟩:=hfr b hb;rw[e1] at e2;cases e2;obtain⟨sl',e3⟩:=hsm b _ e1 hd;exact⟨sl',e3⟩
 free:=u.free
 there:=fun b o e hx=>by
  obtain⟨o1,e1⟩:=u.there b o e hx
  by_cases hb:b∈Ì l
  ·obtain⟨o2,e2,hd⟩:=hfr b hb;obtain⟨sl,e3⟩:=hsm b _ e2 hd;exact⟨_,e3⟩
  ·exact⟨o1,hB b o1 (hk b o1 e1 hb (.inr ⟨o,e⟩))⟩
 tups:=u.tups
 frzs:=u.frzs
 tbls:=u.tbls
theorem zd {l:List Env}{H':Hp}{h1 h' h5 B:Heap} (hok:Ð P w H' h') (hk:∀ b o,h'.get? b=some o->b∉Ì l->(H' b≠none∨∃ u,h1.get? b=some u)->B.get? b=some o) (hB:B.StaysIn h5)
  (hf:∀ b∈Ì l,H' b=none):Ð P w H' h5:=fun a o e=>by
 refine (hok a o e).mD (fun c v hc q=>hB c v (hk c v q ?_ (.inl ?_))) (fun _ q=>q) fun _ _ q=>q
 ·intro z;have:=hf c z;rcases hc with rfl | hc
  ·rw[e] at this;cases this
  ·rw[hc] at this;cases this
 ·rcases hc with rfl | hc
  ·rw[e];simp
  ·rw[hc];simp
section
variable {X:Cx}{Yp:Zp}{σ:St}{H:Hp}{s:Zg}
theorem Inv.Ia {o:HO} (I:Inv X Yp σ H s) (hn:H a=none) (h0:X.s₀.heap.get? a=none) (hL:a≠X.env.locals) (hc:∀ x c,X.env.cells.lookup x=some c->c≠a) (hp:∀ p∈X.pn++Yp,p.1≠a)
  (ho:cj X.prog X.w (upd H a o) s.heap a o):Inv X Yp σ (upd H a o) s where
 ok:=I.ok
 os:=I.os
 bare:=I.bare
 base:=by
  have ne:∀ b u,X.s₀.heap.get? b=some u->b≠a:=fun b u e z=>by rw[z,h0] at e;cases e
  refine⟨I.base.keep,I.base.slot,fun b u e n hx=>by rw[aG (ne b u e)];exact I.base.free b u e n hx,I.base.there,fun b xs q=>?_,fun b ob u q=>?_,fun b ps q=>?_⟩
  ·have:=I.base.tups b xs q;rw[aG (fun z=>by rw[z,hn] at this;cases this)];exact this
  ·have:=I.base.frzs b ob u q;rw[aG (fun z=>by rw[z,hn] at this;cases this)];exact this
  ·obtain⟨m,e⟩:=I.base.tbls b ps q;exact⟨m,by rw[aG (fun z=>by rw[z,hn] at e;cases e)];exact e⟩
 loc:=I.loc
 cell:=I.cell
 free:=by rw[aG (b7 hL)];exact I.free
 freeC:=fun x c e=>by rw[aG (hc x c e)];exact I.freeC x c e
 pin:=fun p h=>by obtain⟨h1,h2,h3⟩:=I.pin p h;exact⟨h1,by rw[aG (hp p h)];exact h2,h3⟩
 hok:=fun b u e=>by
  by_cases hb:b=a
  ·subst hb;rw[aC] at e;cases e;exact ho
  ·rw[aG hb] at e;refine (I.hok b u e).mD (fun _ _ _ q=>q) (fun c q=>?_) fun c xs q=>?_
   ·rw[aG (fun z=>by rw[z,hn] at q;cases q)];exact q
   ·rw[aG (fun z=>by rw[z,hn] at q;cases q)];exact q
 len:=I.len
theorem oV {A:Around}{E:Zq}{n:Str}{pos:Pos}{Q:Unit->Zg->Prop} (I:Inv X Yp σ H s) (hN:X.N.Nodup) (hi:X.N[i]?=some n) (hn:X.env.scope.names.lookup n=some .local)
  (h:∀ s',Inv X Yp (σ.set i none) H s'->Q () s'):wpAny (model X.prog X.w) A (do bindName X.env n .none;unbindBehindTheSuite X.env n pos) Q E s:=by
 have hiσ:i<⇑σ:=by rw[I.len];exact (br.mp hi).1
 refine aa (wpAny_bindName (lG (v:=.non) I hN hi (.inl hn) rfl (fun s1 I1=>?_) (.inr hn)));obtain⟨m,hm,hl⟩:=id I1.loc;obtain⟨u,_,hu⟩:=hl i n .non hi (by rw[iW hiσ]) (.inl hn);have hv:∃ v,m n=some v:=by
  rcases hu with ⟨_,e⟩ | ⟨k,_⟩
  ·exact⟨_,e⟩
  ·have k':X.env.scope.names.lookup n=some .cell∨X.env.scope.names.lookup n=some .free:=k;rw[hn] at k';rcases k' with z | z<;>cases z
 obtain⟨v,hv⟩:=hv;have hcls:(X.env.scope.kind==.class||(X.env.scope.kind==.module&&X.env.locals != X.env.globals))=false:=by rw[I.ok.kind];rfl
 unfold unbindBehindTheSuite;refine wpAny_onRaise (wpAny_unbindName_local hn hm hv hcls fun h' w' hn' hs=>h _ ?_);have older:∀ b o,X.s₀.heap.get? b=some o->b≠X.env.locals:=fun b o e=>bh (bH (aH e) I.ok.above);refine⟨I1.ok,I1.os,I1.bare,⟨fun b o e k hb hx=>(hs.2 b (older b o e)).trans (I1.base.keep b o e k hb hx),fun b o e k hb hx=>?_,I1.base.free,fun b o e hx=>?_,I1.base.tups,I1.base.frzs,I1.base.tbls⟩,
  ⟨_,hn',fun j y v' e1 e2 e3=>?_⟩,fun y c e=>?_,I1.free,I1.freeC,fun p hp=>?_,fun b ob e=>?_,by rw[dN];exact I.len⟩
 ·obtain⟨sl,e1⟩:=I1.base.slot b o e k hb hx;exact⟨sl,(hs.2 b (older b o e)).trans e1⟩
 ·obtain⟨o',e1⟩:=I1.base.there b o e hx;exact⟨o',(hs.2 b (older b o e)).trans e1⟩
 ·by_cases hj:j=i
  ·subst hj;rw[iW hiσ] at e2;cases e2
  ·rw[iV (b7 hj)] at e2;obtain⟨u',r',q⟩:=hl j y v' e1 (by rw[iV (b7 hj)];exact e2) e3;refine⟨u',r',?_⟩;rcases q with ⟨k,e⟩ | ⟨k,c,e,z⟩
   ·refine .inl ⟨k,?_⟩;have:y≠n:=fun e=>hj (vf hN e1 (e ▸ hi));simp [this,e]
   ·exact .inr ⟨k,c,e,z.sameBut hs (I1.ì y c e)⟩
 ·obtain⟨w2,z⟩:=I1.cell y c e;exact⟨w2,z.sameBut hs (I1.ì y c e)⟩
 ·obtain⟨e,k,ne,nf,d⟩:=I1.pin p hp;exact⟨(hs.2 p.1 ne).trans e,k,ne,nf,d⟩
 ·refine (I1.hok b ob e).mD (fun c w2 hc q=>(hs.2 c ?_).trans q) (fun _ q=>q) fun _ _ q=>q;rintro rfl;have:=I1.free;rcases hc with rfl | hc
  ·rw[this] at e;cases e
  ·rw[this] at hc;cases hc
noncomputable def Ends.un (D:Ends) (i:Nat):Ends:=⟨fun σ H=>D.nx (σ.set i none) H,D.rt,fun σ H=>D.bk (σ.set i none) H,fun σ H=>D.ct (σ.set i none) H⟩
noncomputable def NC (K:Zf) (tb:(St->XK)->TS) (CE:Addr) (i:Nat) (th:TS):TS:=fun D σ H =>tb (fun σ' c d H'=>PySem.W.exmOne K c (.ref CE)=some true/\∀ ea H2,H' ea=none->a9 H' H2->H2 ea=some (sh ea c d)->th (D.un i) (σ'.set i (some (.ref ea))) H2) D σ H
theorem Inv.N3 {xe:Zq} (I:Inv X Yp σ H s):Inv { X with pn:=X.pn++Yp,xe:=xe } [] σ H s :=
 ⟨⟨I.ok.mod,I.ok.kind,I.ok.glob,I.ok.blt,I.ok.above,I.ok.inj,I.ok.has,I.ok.cab,I.ok.hd,I.ok.frames,I.ok.stk,I.ok.exf,I.ok.bs,I.ok.bsz,I.ok.noex,I.ok.exfs,I.ok.si,I.ok.frf⟩,I.os,I.bare,I.base,I.loc,I.cell,I.free,I.freeC,
  fun p h=>I.pin p (by simpa using h),I.hok,I.len⟩
theorem Inv.kN {pins':Zp} (I:Inv { X with pn:=X.pn++Yp,xe:=xe } pins' σ H s):Inv X Yp σ H s :=
 ⟨⟨I.ok.mod,I.ok.kind,I.ok.glob,I.ok.blt,I.ok.above,I.ok.inj,I.ok.has,I.ok.cab,I.ok.hd,I.ok.frames,I.ok.stk,I.ok.exf,I.ok.bs,I.ok.bsz,I.ok.noex,I.ok.exfs,I.ok.si,I.ok.frf⟩,I.os,I.bare,I.base,I.loc,I.cell,I.free,I.freeC,
  fun p h=>I.pin p (lP _ h),I.hok,I.len⟩
theorem Inv.xQ {e:Option Value} (I:Inv X Yp σ H s):Inv { X with A:=X.A.mark e,calm:=false,xe:=fun _ _=>False } Yp σ H s :=
 ⟨⟨I.ok.mod,I.ok.kind,I.ok.glob,I.ok.blt,I.ok.above,I.ok.inj,I.ok.has,I.ok.cab,(fun z=>by cases z),I.ok.frames,I.ok.stk,I.ok.exf,I.ok.bs,I.ok.bsz,I.ok.noex,I.ok.exfs,I.ok.si,I.ok.frf⟩,I.os,I.bare,I.base,I.loc,I.cell,I.free,I.freeC,
  I.pin,I.hok,I.len⟩
theorem Inv.markFrom {e:Option Value} (ok:X.Ok) (I:Inv { X with A:=X.A.mark e,calm:=false,xe:=xe } Yp σ H s):Inv X Yp σ H s :=
 ⟨ok,I.os,I.bare,I.base,I.loc,I.cell,I.free,I.freeC,I.pin,I.hok,I.len⟩
theorem M3 {body:List Stmt}{b₀:Stmt}{suite:List Stmt}{x n:Str}{i:Nat}{CE:Addr}{np hpos pos:Pos}{tb:(St->XK)->TS}{th:TS} (hst:X.stack=X.env::X.outer) (hf:X.env.frame=some X.env.locals) (hex:X.ex=[]) (hN:X.N.Nodup) (hm:X.mg x=some (.ref CE))
  (hb:∀ (pn:Zp) (xe:Zq) (E:St->XK),PassesOwn (model X.prog X.w) X.A X.env xe->Passes (Á X.prog X.w) { X with pn:=pn,xe:=xe } E->á { X with pn:=pn,xe:=xe } body (tb E))
  (hh:∀ ea:Addr,á { X with A:=X.A.mark (some (.ref ea)),calm:=false,xe:=fun _ _=>False } (b₀::suite) th)
  (hi:X.N[i]?=some n:=by ext) (hn:X.env.scope.names.lookup n=some .local:=by ext) (hg:X.env.kindOf x=some .globalImplicit:=by ext) (hd:(x==("__debug__":Str))=false:=by ext) :
  PS X (.Try body [.ExceptHandler (some (.Name x np)) (some n) (b₀::suite) hpos] [] [] pos) (NC X.K tb CE i th):=by
 intro Yp s σ H D I h;refine wpAny_Try_except ?_;refine bO (hb (X.pn++Yp) _ _ PassesOwn.looking ?_ [] s σ H D I.N3 h) ?_ (fun e s1 he=>he)
 ·intro pins' σ' H1 s1 e s' I' hcx;obtain⟨ea,C,t,B,H',d,rfl,os,bare,un,hok,fl,⟨oe,hoe,hdo⟩,hdx,hkb,htrue,hE⟩:=hcx;have IX:Inv X Yp σ' H1 s1:=I'.kN;have I2:Inv X Yp σ' H' s':=IX.wD (ch:=[]) os un hok bare (fun b z=>absurd z (by simp));have hfr:∀ b∈Ì X.stack,∃ o,s'.heap.get? b=some o/\∀ vs,o.data≠.fields vs:=fun b hb=>(I2.stack.mem hb).2;have hff:∀ b∈Ì X.stack,H' b=none:=I2.rq;obtain⟨oe0,vs0,hoe0,_,hdat0,_⟩:=fl.first;have nfr:ea∉Ì X.stack:=fun z=>by
   obtain⟨o,e1,e2⟩:=hfr ea z;rw[hoe0] at e1;cases e1;exact e2 _ hdat0
  have hea:H' ea=none:=by
   cases q:H' ea with
   | none=>rfl
   | some o=>have:=hkb ea oe hoe nfr (.inl (by rw[q];simp));rw[fl.2.1] at this;cases this
  have new1:s1.heap.get? ea=none:=by
   cases q:s1.heap.get? ea with
   | none=>rfl
   | some o=>have:=hkb ea oe hoe nfr (.inr ⟨o,q⟩);rw[fl.2.1] at this;cases this
  have new0:X.s₀.heap.get? ea=none:=by
   cases q:X.s₀.heap.get? ea with
   | none=>rfl
   | some o =>obtain⟨o2,e2⟩:=IX.base.there ea o q (by rw[hex];simp);rw[new1] at e2;cases e2
  have mk:∀ h6,Heap.FlyingW B X.stack ea (.ref C) (.ref t) h6->s'.heap.UpToSlots h6->(∃ o6,h6.get? ea=some o6/\XD o6 d)->Inv X Yp σ' (upd H' ea (sh ea (.ref C) d)) { s' with heap:=h6 }:=by
   intro h6 f6 sm6 ⟨o6,e6,d6⟩;have J:Inv X Yp σ' H' { s' with heap:=h6 }:=IX.wD (s':={ s' with heap:=h6 }) (ch:=[]) os (Dm un hkb f6.1 sm6 hfr) (zd hok hkb f6.1 hff) bare (fun b z=>absurd z (by simp));obtain⟨o7,v7,e7,c7,t7,_⟩:=f6.first;rw[e6] at e7;cases e7;refine J.Ia hea new0 (fun z=>?_) (fun y c e z=>?_) (fun p hp z=>?_) (Cz e6 c7 d6)
   ·obtain⟨m,⟨ob,_,_,e9,_⟩,_⟩:=IX.loc;rw[←z,new1] at e9;cases e9
   ·obtain⟨w9,o9,e9,_⟩:=IX.cell y c e;rw[z,new1] at e9;cases e9
   ·have e9:=(IX.pin p hp).1;rw[z,new1] at e9;cases e9
  refine bO (KD.any (E:=fun _ _=>False) (xN _ _) (wpAny_looks_onW (Q:=fun _ s''=>∃ h4,s''={ s' with heap:=h4 }/\Heap.HeldW B X.stack ea (.ref C) (.ref t) X.env.locals h4/\s'.heap.UpToSlots h4) (by rw[←hst];exact I.ok.frames) hf (by rw[←hst];exact fl) fun h4 x1 x2=>⟨h4,rfl,by rw[hst];exact x1,x2⟩)) ?_ (fun _ _ z=>False.elim z.1);rintro _ _ ⟨⟨h4,rfl,l4,sm4⟩,dk4⟩;refine bO (KD.any (E:=fun _ _=>False) (lC _ _) (wpAny_landsW (s:={ s' with heap:=h4 }) (Q:=fun _ s''=>∃ h5,s''={ s' with heap:=h5 }/\Heap.FlyingW B X.stack ea (.ref C) (.ref t) h5/\h4.UpToSlots h5) l4 fun h5 x1 x2=>⟨h5,rfl,x1,x2⟩)) ?_ (fun _ _ z=>False.elim z.1);rintro _ _ ⟨⟨h5,rfl,f5,sm5⟩,dk5⟩;obtain⟨o5,e5,_,d5,g5⟩:=(dk4.trans dk5) ea oe hoe;have I5:=mk h5 f5 (sm4.trans sm5) ⟨o5,e5,hdo.dk d5 g5⟩;obtain⟨o5',v5,e5',c5,t5,_⟩:=f5.first;rw[e5] at e5';cases e5';refine wpAny_handleBy_cons (codeAny_handlers_test ?_) (by intro q;cases q);refine ku (X:={ X with A:=X.A.mark (some (.ref ea)),calm:=false,xe:=fun _ _=>False }) I5.xQ hg hm ?_ hd;have LT:PySem.W.Looks (model X.prog X.w) h5 (typeOf (.ref ea)) (.ref C):=c5 ▸ (PySem.W.Looks.ld e5).andThen .now;refine PySem.W.exm_one I5.Ñ LT htrue _ _ _ _ (fun _ _ e=>e) ?_;refine codeAny_handlers_suite_as ?_;refine bO (KD.any (E:=fun _ _=>False) (lC _ _) (lands_againW (s:={ s' with heap:=h5 }) (Q:=fun _ s''=>∃ h6,s''={ s' with heap:=h6 }/\Heap.FlyingW B X.stack ea (.ref C) (.ref t) h6/\h5.UpToSlots h6) f5 fun h6 x1 x2=>⟨h6,rfl,x1,x2⟩)) ?_ (fun _ _ z=>False.elim z.1);rintro _ _ ⟨⟨h6,rfl,f6,sm6⟩,dk6⟩;obtain⟨o6,e6,_,d6,g6⟩:=dk6 ea o5 e5;have I6:=mk h6 f6 ((sm4.trans sm5).trans sm6) ⟨o6,e6,(hdo.dk d5 g5).dk d6 g6⟩;refine lG (X:={ X with A:=X.A.mark (some (.ref ea)),calm:=false,xe:=fun _ _=>False }) (v:=.ref ea) I6.xQ hN hi (.inl hn) rfl (fun s7 I7=>?_) (.inr hn);refine bO (hh ea Yp s7 _ _ (D.un i) I7 (hE ea _ hea (cX hea) aC)) (fun f s8 hsp=>?_) (fun _ _ z=>False.elim z);cases f with
  | next =>obtain⟨σ9,H9,I9,q9⟩:=hsp;exact oV (Inv.markFrom I.ok I9) hN hi hn fun s9 J=>⟨_,H9,J,q9⟩
  | brk =>obtain⟨σ9,H9,I9,q9⟩:=hsp;exact oV (Inv.markFrom I.ok I9) hN hi hn fun s9 J=>⟨_,H9,J,q9⟩
  | cont =>obtain⟨σ9,H9,I9,q9⟩:=hsp;exact oV (Inv.markFrom I.ok I9) hN hi hn fun s9 J=>⟨_,H9,J,q9⟩
  | ret u =>obtain⟨v9,σ9,H9,I9,r9,q9⟩:=hsp;exact oV (Inv.markFrom I.ok I9) hN hi hn fun s9 J=>⟨v9,_,H9,J,r9,q9⟩
 ·intro f s1 hsp;cases f with
  | next =>obtain⟨σ9,H9,I9,q9⟩:=hsp;exact lZ ⟨σ9,H9,I9.kN,q9⟩
  | brk =>obtain⟨σ9,H9,I9,q9⟩:=hsp;exact⟨σ9,H9,I9.kN,q9⟩
  | cont =>obtain⟨σ9,H9,I9,q9⟩:=hsp;exact⟨σ9,H9,I9.kN,q9⟩
  | ret u =>obtain⟨v9,σ9,H9,I9,r9,q9⟩:=hsp;exact⟨v9,σ9,H9,I9.kN,r9,q9⟩
end
end
section
theorem Jq:builtinKind "BaseException.__getattribute__"=some Manifest.AttrKind.slot:=by nofun
theorem FV:splitId "BaseException.__getattribute__"=some ("BaseException","__getattribute__"):=by nofun
theorem FU {A:Around}{E:Zq}{x:Addr}{nm:Value}{Q:Unit->Zg->Prop} (l:PySem.W.Looks M s.heap (isInstance (.ref x) (.type "BaseException")) true) (q:Q () s) :
  wpAny M A (checkBuiltinCall "BaseException.__getattribute__" { pos:=[.ref x,nm] }) Q E s :=
 PySem.W.check_slot (i:="BaseException.__getattribute__") (self:=.ref x) (rest:=[nm]) (kw:=[]) Jq FV l (F.args_bexc_ga _ _) q
structure Ds (K:Zf) (C:Addr):Prop where
 ga:PySem.W.findIn K (.ref C) "__getattribute__"=some (some (.builtin "BaseException.__getattribute__"))
 gn:PySem.W.findIn K (.ref C) "__getattr__"=some none
 sb:PySem.W.subIn K (.ref C) (.type "BaseException")=some true
 cl:(PySem.W.clsIn K C).isSome=true
 ha:PySem.W.findIn K (.ref C) "__class__"=some (some (.builtin "object.__class__"))
 hn:PySem.W.specialIn K (.builtin "object.__class__") "__get__"=some (some (.builtin "getset_descriptor.__get__"))
 htk:PySem.W.takesIn K (.builtin "object.__class__")=some true
 hm:PySem.W.mroIn K C (.type "object")=some true
noncomputable def TyX (K:Zf) (H:Hp) (x:V) (t:Value):Prop:=pC K H x t∨∃ a C,x=.ref a/\t=.ref C/\H a=some (sh a (.ref C) none)/\Ds K C
noncomputable def N7 (K:Zf):List V->Hp->VK->Prop:=fun vs H Q=>match vs with
 | [x,.ty n]=>∃ t b,TyX K H x t/\PySem.W.kitOne K t (.type n)=some b/\Q (.bl b) H
 | [x,.ref c]=>∃ t b,TyX K H x t/\(PySem.W.kitOne K t (.ref c)=some b∨∃ (a C:Addr) (cs:List Addr),x=.ref a/\t=.ref C/\H a=some (sh a (.ref C) none)/\Ds K C/\H c=some (.tup (cs.map V.ref))/\PySem.W.kitAny K t (cs.map Value.ref)=some b)/\Q (.bl b) H
 | _=>False
noncomputable def FL (K:Zf) (C:Addr):Bool :=
 PySem.W.findIn K (.ref C) "__getattribute__"==some (some (.builtin "BaseException.__getattribute__"))&&PySem.W.findIn K (.ref C) "__getattr__"==some none&&PySem.W.subIn K (.ref C) (.type "BaseException")==some true&&(PySem.W.clsIn K C).isSome&&PySem.W.findIn K (.ref C) "__class__"==some (some (.builtin "object.__class__")) &&
 PySem.W.specialIn K (.builtin "object.__class__") "__get__"==some (some (.builtin "getset_descriptor.__get__"))&&PySem.W.takesIn K (.builtin "object.__class__")==some true&&PySem.W.mroIn K C (.type "object")==some true
theorem FN (h:FL K C=true):Ds K C:=by unfold FL at h;simp only[bT,eM] at h;obtain⟨⟨⟨⟨⟨⟨⟨h1,h1'⟩,h1''⟩,h2⟩,h3⟩,h4⟩,h5⟩,h6⟩:=h;exact⟨h1,h1',h1'',h2,h3,h4,h5,h6⟩
noncomputable def xD (K:Zf) (b:Addr) (cs:List Addr):Bool :=
 cs.all fun c=>FL K c&&PySem.W.exmOne K (.ref c) (.ref b)==some true&&PySem.W.kitOne K (.ref c) (.type "ValueError")==some true&&PySem.W.kitOne K (.ref c) (.ref b)==some true &&
  cs.all fun d=>PySem.W.kitOne K (.ref c) (.ref d)==some (c==d)
structure Ć (K:Zf) (b:Addr) (cs:List Addr) (c:Addr):Prop where
 ex:Ds K c
 em:PySem.W.exmOne K (.ref c) (.ref b)=some true
 ve:PySem.W.kitOne K (.ref c) (.type "ValueError")=some true
 ba:PySem.W.kitOne K (.ref c) (.ref b)=some true
 kd:∀ d∈cs,PySem.W.kitOne K (.ref c) (.ref d)=some (c==d)
theorem LB {b:Addr}{cs:List Addr} (h:xD K b cs=true) {c:Addr} (hc:c∈cs):Ć K b cs c:=by unfold xD at h;have h:=c9.mp h c hc;simp only[bT,eM] at h;obtain⟨⟨⟨⟨h1,h2⟩,h3⟩,h4⟩,h5⟩:=h;exact⟨FN h1,h2,h3,h4,fun d hd=>by have:=c9.mp h5 d hd;simpa using this⟩
theorem Ć.any {K:Zf}{b:Addr}{cs:List Addr}{c:Addr} (E:Ć K b cs c):∀ {ds:List Addr},(∀ d∈ds,d∈cs)->PySem.W.kitAny K (.ref c) (ds.map Value.ref)=some (ds.contains c)
 | [],_=>rfl
 | d::r,h=>by show (match PySem.W.kitOne K (.ref c) (.ref d) with | some true=>some true | some false=>PySem.W.kitAny K (.ref c) (r.map Value.ref) | none=>none)=_;rw[E.kd d (h d aR),Ć.any E (fun x hx=>h x (aV _ hx)),List.contains_cons];cases (c==d)<;>rfl
theorem fh (h:∃ u,X.mg x=some u/\RelV v u) (hg:X.env.kindOf x=some .globalImplicit:=by ext) (hd:(x==("__debug__":Str))=false:=by ext):PE X (.Name x pos) (tC v):=by obtain⟨u,h1,h2⟩:=h;exact JH hg h1 h2 hd
theorem Ls {K:Zf}{tb:(St->XK)->TS}{CE:Addr}{i:Nat}{th:TS}{D:Ends}{σ:St}{H:Hp}:NC K tb CE i th D σ H =
 tb (fun σ' c d H'=>PySem.W.exmOne K c (.ref CE)=some true/\∀ ea H2,H' ea=none->a9 H' H2->H2 ea=some (sh ea c d)->th (D.un i) (σ'.set i (some (.ref ea))) H2) D σ H:=propext Iff.rfl
end
section
noncomputable def up (t:TE):TE:=fun σ H R=>∃ R',t σ H R'/\∀ x H,R' x H->R x H
noncomputable def upA (t:TA):TA:=fun σ H R=>∃ R',t σ H R'/\∀ x H,R' x H->R x H
theorem PE.up {X:Cx}{e:Expr}{t:TE} (h:PE X e t):PE X e (up t):=fun Yp s σ H Q I ⟨R',h1,h2⟩=>Â (h Yp s σ H R' I h1) fun _ _ ⟨v,H',I',r,q⟩=>⟨v,H',I',r,h2 v H' q⟩
theorem PA.up {t:TA} (h:PA X es t):PA X es (upA t):=fun pos Yp s σ H Q I ⟨R',h1,h2⟩=>Â (h pos Yp s σ H R' I h1) fun _ _ ⟨v,H',I',r,q⟩=>⟨v,H',I',r,h2 v H' q⟩
noncomputable def Ht (K:Zf) (f:Str) (x:V) (H:Hp) (Q:VK):Prop:=match x with
 | .ref a=>∃ C dx fs v,H a=some (.ins C dx fs)/\à K C/\gZ K C f/\fs.lookup f=some v/\Q v H
 | _=>False
noncomputable def HX (K:Zf) (ta:TE) (f:Str):TE:=fun σ H Q=>ta σ H fun x H1=>Ht K f x H1 Q
theorem Li {K:Zf}{ta:TE}{f:Str}{σ:St}{H:Hp}{Q:VK}:HX K ta f σ H Q=ta σ H fun x H1=>Ht K f x H1 Q:=propext Iff.rfl
noncomputable def HA (K:Zf) (f:Str) (y x:V) (H:Hp) (Q:Hp->Prop):Prop:=match x with
 | .ref a=>∃ C dx fs,H a=some (.ins C dx fs)/\à K C/\gZ K C f/\⇑fs<1000/\Q (upd H a (.ins C dx (mQ f y fs)))
 | _=>False
noncomputable def KJ (K:Zf) (ta tv:TE) (f:Str):TS:=fun D σ H=>tv σ H fun y H1=>ta σ H1 fun x H2=>HA K f y x H2 fun H3=>D.nx σ H3
theorem IS {K:Zf}{ta tv:TE}{f:Str}{D:Ends}{σ:St}{H:Hp}:KJ K ta tv f D σ H=tv σ H fun y H1=>ta σ H1 fun x H2=>HA K f y x H2 fun H3=>D.nx σ H3:=propext Iff.rfl
section
variable {X:Cx}{K:Zf}
theorem c6 {ta:TE} (hK:X.K=K) (he:PE X e ta) (hb:attributeBase e f X.env (eval e X.env)=eval e X.env:=by ext):PE X (.Attribute e f pos) (HX K ta f):=by
 subst hK;intro Yp s σ H Q I h;refine Mr (ta:=up ta) he.up hb Yp s σ H Q I ⟨_,h,fun x H1 hx=>?_⟩;cases x with
 | ref a=>obtain⟨C,dx,fs,v,h1,h2,h3,h4,h5⟩:=hx;exact⟨a,C,dx,fs,v,rfl,h1,h2,h3,h4,h5⟩
 | _=>exact False.elim hx
theorem oS {o value:Expr}{ta tv:TE}{pos pos':Pos} (hK:X.K=K) (ha:PE X o ta) (hv:PE X value tv) (hs:swapsWith value (some (.Attribute o f pos')) pos.line X.env=pure false:=by ext) :
  PS X (.Assign [.Attribute o f pos'] value pos) (KJ K ta tv f):=by
 subst hK;intro Yp s σ H D I h;refine My (ta:=up ta) (tv:=up tv) ha.up hv.up hs Yp s σ H D I ⟨_,h,fun y H1 hy=>⟨_,hy,fun x H2 hx=>?_⟩⟩;cases x with
 | ref a=>obtain⟨C,dx,fs,h1,h2,h3,h4,h5⟩:=hx;exact⟨a,C,dx,fs,rfl,h1,h2,h3,h4,h5⟩
 | _=>exact False.elim hx
end
structure Í (P:Zh) (w:Zi) (K:Zf) (mg:Zk) (base:Heap) (CX:Ö) (C:Addr) (m:Str) (k:Nat) (ps:Ze) (sp:Sp):Prop where
 ex:∃ (f:Addr) (fd:FuncData),bR P w K mg base CX k f fd ps sp/\Meth K C m f/\Binds K fd ps []
 cl:à K C
noncomputable def BD (C:Addr) (m:Str) (x:V) (H:Hp) (Q:Hp->Prop):Prop:=match x with
 | .ref a=>∃ dx fs,H a=some (.ins C dx fs)/\fs.lookup m=none/\Q H
 | _=>False
noncomputable def nO (C:Addr) (m:Str) (sp:Sp) (E:St->XK) (ta:TE) (t:TA):TE:=fun σ H Q=>ta σ H fun x H1=>BD C m x H1 fun H1=>t σ H1 fun vs H2=>sp (x::vs) H2 Q (E σ)
theorem IK {C:Addr}{m:Str}{sp:Sp}{E:St->XK}{ta:TE}{t:TA}{σ:St}{H:Hp}{Q:VK}:nO C m sp E ta t σ H Q=ta σ H fun x H1=>BD C m x H1 fun H1=>t σ H1 fun vs H2=>sp (x::vs) H2 Q (E σ):=propext Iff.rfl
section
variable {X:Cx}{CX:Ö}{E:St->XK}
theorem cW {pl:Sem Bool}{o e:Expr}{ta:TE}{t:TA}{apos pos:Pos} (M:Í X.prog X.w X.K X.mg X.base CX C m k ps sp) (hx:Passes CX X E) (hr:fe k X.A) (he:PE X o ta) (ha:PA X (e::es) t)
  (hs:dW (e::es)=true:=by ext)
  (ht:eval (.Call (.Attribute o m apos) (e::es) [] pos) X.env=(do
   let ov ←eval o X.env
   standAt apos.atName
   let (f,first) ←holding [ov] (getMethod ov m pl)
   callWith pos f first (backTo pos (starEach (e::es) X.env)) (backToKw pos (keywordEach [] X.env))):=by rfl) :
  PE X (.Call (.Attribute o m apos) (e::es) [] pos) (nO C m sp E ta t):=by
 obtain⟨f,fd,F,hm,hb⟩:=M.ex;intro Yp s σ H Q I h;refine CM (ta:=up ta) (t:=t) he.up M.cl hm F hr hb .nil hx ha (b8 (bo hs).1) (du (bo hs).2) ht Yp s σ H Q I ⟨_,h,fun x H1 q=>?_⟩;cases x with
 | ref a =>obtain⟨dx,fs,h1,h2,h3⟩:=q;refine⟨a,dx,fs,rfl,h1,h2,?_⟩;simp only[dM];exact h3
 | _=>exact False.elim q
theorem bX {pl:Sem Bool}{o:Expr}{ta:TE}{apos pos:Pos} (M:Í X.prog X.w X.K X.mg X.base CX C m k ps sp) (hx:Passes CX X E) (hr:fe k X.A) (he:PE X o ta)
  (ht:eval (.Call (.Attribute o m apos) [] [] pos) X.env=(do
   let ov ←eval o X.env
   standAt apos.atName
   let (f,first) ←holding [ov] (getMethod ov m pl)
   callWith pos f first (backTo pos (starEach [] X.env)) (backToKw pos (keywordEach [] X.env))):=by rfl) :
  PE X (.Call (.Attribute o m apos) [] [] pos) (nO C m sp E ta uq):=by
 obtain⟨f,fd,F,hm,hb⟩:=M.ex;intro Yp s σ H Q I h;refine He (ta:=up ta) he.up M.cl hm F hr hb .nil hx ht Yp s σ H Q I ⟨_,h,fun x H1 q=>?_⟩;cases x with
 | ref a =>obtain⟨dx,fs,h1,h2,h3⟩:=q;exact⟨a,dx,fs,rfl,h1,h2,h3⟩
 | _=>exact False.elim q
end
structure ā (P:Zh) (w:Zi) (K:Zf) (mg:Zk) (base:Heap) (CX:Ö) (C:Addr) (x:Str) (k:Nat) (ps:Ze) (sp:Sp):Prop where
 ex:∃ (f:Addr) (fd:FuncData),bR P w K mg base CX k f fd ps sp/\Mk K C f/\Binds K fd ps []
 mg:mg x=some (.ref C)
noncomputable def HY (C:Addr) (sp:Sp) (E:St->XK) (t:TA):TE:=fun σ H Q=>t σ H fun vs H1=>∀ x dx H2,H1 x=none->H1 dx=none->dx≠x->a9 H1 H2->H2 x=some (.ins C dx [])->H2 dx=some (.own x)->sp (.ref x::vs) H2 (fun v H3=>v=.non/\Q (.ref x) H3) (E σ)
theorem IJ {C:Addr}{sp:Sp}{E:St->XK}{t:TA}{σ:St}{H:Hp}{Q:VK}:HY C sp E t σ H Q=t σ H fun vs H1=>∀ x dx H2,H1 x=none->H1 dx=none->dx≠x->a9 H1 H2->H2 x=some (.ins C dx [])->H2 dx=some (.own x)->sp (.ref x::vs) H2 (fun v H3=>v=.non/\Q (.ref x) H3) (E σ):=propext Iff.rfl
section
variable {X:Cx}{CX:Ö}{E:St->XK}
theorem zL {t:TA}{p pos:Pos} (M:ā X.prog X.w X.K X.mg X.base CX C x k ps sp) (hx:Passes CX X E) (hr:fe (k+1) X.A) (ha:PA X (e::es) t)
  (hg:X.env.kindOf x=some .globalImplicit:=by ext) (hd:(x==("__debug__":Str))=false:=by ext) (hs:dW (e::es)=true:=by ext) :
  PE X (.Call (.Name x p) (e::es) [] pos) (HY C sp E t):=by
 obtain⟨f,fd,F,hm,hb⟩:=M.ex;intro Yp s σ H Q I h;refine JJ (t:=upA t) hm F hr hg M.mg hb .nil hx ha.up hd (b8 (bo hs).1) (du (bo hs).2) Yp s σ H Q I ⟨_,h,fun vs H1 q x dx h1 h2 h3=>?_⟩;simp only[dM];refine q x dx _ h1 h2 h3 ((cX h2).cf h1) aC ?_;rw[aG h3,aC]
end
theorem zk {r:List (Str×V)}:List.lookup f ((f,v)::r)=some v:=by simp [List.lookup]
end
section
theorem wO {h g:Heap}{l c:Addr}{xs:Array Value} (x:h.IsList l xs) (s:Heap.SameBut c h g) (ne:l≠c):g.IsList l xs:=by obtain⟨o,h1,h2⟩:=x;exact⟨o,(s.2 l ne).trans h1,h2⟩
section
variable {prog:Zh}{w:Zi}{A:Around}{E:Zq}
theorem yP {c l:Addr}{xs:Array Value} (ne:l≠c):∀ (k j:Nat) (s:Zg) (R:Zc->Zg->Prop),s.heap.IsListIter c l j->s.heap.IsList l xs->j+k<=xs.size →
  (∀ g,g.IsListIter c l (j+k)->Heap.SameBut c s.heap g->R ((xs.toList.drop j).take k) { s with heap:=g })->wpAny (model prog w) A (draw (.ref c) k) R E s
 | 0,j,s,R,i0,_,_,q=>aq (by simpa using q s.heap i0 (Heap.SameBut.refl ..))
 | k+1,j,s,R,i0,l0,hb,q=>by
  have lt:j<xs.size:=⋯
  show wpAny _ _ (pyNext (.ref c) >>= _) R E s;refine aa (wpAny_pyNext_list_item i0 l0 (x:=xs[j]) (by simp [lt]) fun g1 i1 s1=>?_);refine aa (cB (yP ne k (j+1) _ _ i1 (wO l0 s1 ne) ⋯ fun g2 i2 s2=>aq ?_));have z:=q g2 (by rw[show j+(k+1)=j+1+k by left];exact i2) (s1.trans s2);rw[show xs.toList.drop j=xs[j]::xs.toList.drop (j+1) by simp [lK,lt],List.take_succ_cons] at z;exact z
theorem Cb {l:Addr}{xs:Array Value}{ts:List (Bool×(Value->Sem Unit))}{R:Unit->Zg->Prop} (hh:A.handled=none) (l0:s.heap.IsList l xs) (hn:⇑ts=xs.size) (hs:ts.findIdx? (·.1)=none)
  (q:∀ g,Heap.ExtBut s.heap.objs.size s.heap g->wpAny (model prog w) A (assignInOrder (ts.map (·.2)) xs.toList) R E { s with heap:=g }):wpAny (model prog w) A (unpack (.ref l) ts) R E s:=by
 have ne:l≠s.heap.objs.size:=by obtain⟨o,ho,_⟩:=l0;exact bh (aH ho)
 unfold unpack;rw[hn,hs];refine aa (cB ?_);unfold unpackItems;refine aa ?_;unfold notIterableAtAll;refine aa (wpAny_specialOf l0.typeIs F.slot_list_iter.lookup ?_);refine aq ?_;simp only[iH,gh];refine aa (cB (wpAny_pyIter_list l0 ?_));refine aa (cB (yP ne xs.size 0 _ _ ⟨_,bz _ rfl,rfl,rfl⟩ (l0.push _) ⋯ fun g1 i1 s1=>?_));rw[show List.take xs.size (List.drop 0 xs.toList)=xs.toList by rw[nY];exact ef (by simp)];rw[ag (by simp)];refine aa (cB (wpAny_pyNext_list_end hh i1 (wO (l0.push _) s1 ne) (by simp) fun g2 e2=>?_));simp only[Option.isSome_none,iH,gh];exact aq (q g2 fun b o hb e=>e2 b o hb (s1.extBut b o hb (aE _ e)))
end
noncomputable def LF (K:Zf) (n:Nat) (t:å):TG:=fun v σ H Q=>match v with
 | .ref a=>∃ xs,Sq K H a xs/\⇑xs=n/\t xs σ H Q
 | _=>False
theorem Mu {k:Nat}{t:å}{n:Nat}{pos:Pos} (hc:X.calm=true) (h:ò X es t)
  (hn:⇑(assignEach es X.env)=n:=by rfl) (hst:(assignEach es X.env).findIdx? (·.1)=none:=by rfl):PG X (.Tuple es k pos) (LF X.K n t):=by
 intro Yp s σ H v u Q I r hw;cases v with
 | ref a =>
  obtain⟨xs,hq | hq,hl,hw⟩:=hw
  ·cases r
   obtain⟨its,rv,p,hz⟩:=I.list hq;rw[assign_Tuple];refine aa (iE (Cb (I.ok.hd hc) p.isList (by simp [hn,←hl,⇑rv]) hst fun g hx=>?_));have I1:Inv X Yp σ H { s with heap:=g }:=I.kept (t':=s.toks) fun b o e=>hx b o (bh (aH e)) e;exact h Yp _ σ H xs _ Q I1 (by simpa using rv) hw
  ·exact Hi (pos:=pos) (k:=k) hc h hn hst Yp s σ H _ u Q I r ⟨a,xs,rfl,hq,hl,hw⟩
 | _=>exact False.elim hw
theorem JL {k:Nat}{t:å}{n:Nat}{pos:Pos} (hK:X.K=K) (hc:X.calm=true) (h:ò X es t)
  (hn:⇑(assignEach es X.env)=n:=by rfl) (hst:(assignEach es X.env).findIdx? (·.1)=none:=by rfl):PG X (.Tuple es k pos) (LF K n t):=hK ▸ Mu hc h hn hst
theorem Lv {K:Zf}{n:Nat}{t:å}{a:Addr}{σ:St}{H:Hp}{Q:St->Hp->Prop}:LF K n t (.ref a) σ H Q=∃ xs,Sq K H a xs/\⇑xs=n/\t xs σ H Q:=propext Iff.rfl
theorem Fl {t:TG}{u:å}{v:V}{r:List V}{σ:St}{H:Hp}{Q:St->Hp->Prop}:oZ t u (v::r) σ H Q=t v σ H fun σ' H'=>u r σ' H' Q:=propext ⟨fun ⟨_,_,e,h⟩=>by cases e;exact h,fun h=>⟨v,r,rfl,h⟩⟩
theorem IE {σ:St}{H:Hp}{Q:St->Hp->Prop}:El [] σ H Q=Q σ H:=propext ⟨fun h=>h.2,fun h=>⟨rfl,h⟩⟩
noncomputable def mS (l:Za) (lo hi:Option Int):Za:=(l.drop (HT.Ó ⇑l 0 lo)).take (HT.Ó ⇑l ⇑l hi-HT.Ó ⇑l 0 lo)
theorem yI (l:Za) (lo hi:Option Int):⇑(mS l lo hi)<=⇑l:=by unfold mS;rw[bK,cq];left
theorem Bz (l:List α) (a k:Nat):((List.range k).map fun j=>a+j).filterMap (l[·]?)=(l.drop a).take k:=by
 induction k with
 | zero=>simp
 | succ k ih =>
  rw[jW,bM,List.filterMap_append,ih,List.take_succ]
  congr 1
  simp only[bg,ix,nZ,List.filterMap_nil,iu];cases l[a+k]?<;>rfl
noncomputable def hZ:Option Int->Tok->Option (Int×Tok)
 | some i,t=>some (i,t)
 | none,_=>none
noncomputable def Co (n d:Nat):Option Int->Int
 | none=>d
 | some i=>max 0 (min (if i<0 then i+(n:Int) else i) (n:Int))
theorem zT (n d:Nat) (o:Option Int):Co n d o=((HT.Ó n d o:Nat):Int):=by
 cases o with
 | none=>rfl
 | some v =>
  show max 0 (min (if v<0 then v+(n:Int) else v) (n:Int))=((if v<0 then (v+(n:Int)).toNat else min v.toNat n:Nat):Int)
  by_cases h:v<0
  ·rw[ai h,ai h];left
  ·rw[ag h,ag h];left
theorem xH (lo hi:Option Int) (n:Nat):Builtin.Str.strSliceIndices lo hi 1 n=sliceRange (Co n 0 lo) (Co n n hi) 1:=by unfold Builtin.Str.strSliceIndices Co;cases lo<;>cases hi<;>simp
theorem range_one (a b:Nat):sliceRange (a:Int) (b:Int) 1=(List.range (b-a)).map fun j=>a+j:=by
 unfold sliceRange;have e3:(if (1:Int)>0 then (if (a:Int)<(b:Int) then ((b:Int)-(a:Int)+1-1)/1 else 0) else (if (a:Int)>(b:Int) then ((a:Int)-(b:Int)-1-1)/(-1) else 0)).toNat=b-a:=by rw[ai (by decide)];split<;>left
 show ((List.range (if (1:Int)>0 then (if (a:Int)<(b:Int) then ((b:Int)-(a:Int)+1-1)/1 else 0) else (if (a:Int)>(b:Int) then ((a:Int)-(b:Int)-1-1)/(-1) else 0)).toNat).map fun (k:Nat)=>((a:Int)+1*(k:Int)).toNat)=_;rw[e3];exact iY fun k _=>⋯
theorem qT (x:Str) (lo hi:Option Int) (t u:Tok):slicePicked x (hZ lo t) (hZ hi u) none=(List.range (HT.Ó ⇑x ⇑x hi-HT.Ó ⇑x 0 lo)).map fun j=>HT.Ó ⇑x 0 lo+j:=by
 unfold slicePicked;have e1:(hZ lo t).map (·.1)=lo:=by cases lo<;>rfl
 have e2:(hZ hi u).map (·.1)=hi:=by cases hi<;>rfl
 rw[e1,e2];show Builtin.Str.strSliceIndices lo hi 1 ⇑x=_;rw[xH,zT,zT,range_one]
theorem B0 (x:Str) (lo hi:Option Int) (t u:Tok):(slicePicked x (hZ lo t) (hZ hi u) none).filterMap (x.cps[·]?)=mS x.cps.toList lo hi:=by
 have e5:(fun i:Nat=>x.cps[i]?)=fun i:Nat=>x.cps.toList[i]?:=by funext i;rw[eI]
 rw[qT,e5,Bz];unfold mS;rw[←dQ]
theorem Kj :ă X (fun x lo hi H Q=>∃ z,x=.str z/\⇑z<=sizeLine/\Q (.str (tx (mS z.cps.toList lo hi))) H):=by
 intro Yp s σ H x v vl vu lo hi sl Q I rx hs pl pu h;obtain⟨z,rfl,hz,q⟩:=h;obtain⟨t,rfl⟩:=rx;refine⟨"str",_,F.slot_str_getitem.lookup,typeIs_str s z t,?_⟩;have h1:∃ tl,vl=partValue (hZ lo tl):=by cases pl with | none=>exact⟨0,rfl⟩ | int i t=>exact⟨t,rfl⟩
 have h2:∃ tu,vu=partValue (hZ hi tu):=by cases pu with | none=>exact⟨0,rfl⟩ | int i t=>exact⟨t,rfl⟩
 obtain⟨tl,rfl⟩:=h1;obtain⟨tu,rfl⟩:=h2;refine wpAny_getItem_str_slice (l:=hZ lo tl) (u:=hZ hi tu) (st:=none) hs rfl ?_;have ec:=B0 z lo hi tl tu;have key:tx (mS z.cps.toList lo hi)=⟨((slicePicked z (hZ lo tl) (hZ hi tu) none).filterMap (z.cps[·]?)).toArray⟩:=by rw[ec];rfl
 unfold sliceMade;split;next hh =>
  have hl:⇑(slicePicked z (hZ lo tl) (hZ hi tu) none)=⇑z:=by simpa using hh
  rw[qT,af,cJ] at hl;have b1:=HT.HJ ⇑z 0 (bc _) lo;have b2:=HT.HJ ⇑z ⇑z (av _) hi;have e:tx (mS z.cps.toList lo hi)=z:=by
   unfold mS;rw[←dQ,hl]
   by_cases hz0:⇑z=0
   ·have:z.cps.toList=[]:=by rw[←oi,←dQ];exact hz0
    rw[this];have:=nQ z;rw[‹z.cps.toList=[]›] at this
    simpa using this
   ·rw[show HT.Ó ⇑z 0 lo=0 by left,nY,ef (by rw[←dQ];exact av _)];exact nQ z
  rw[e] at q;exact⟨.str z,H,I,⟨t,rfl⟩,q⟩
 next =>rw[←key];refine⟨?_,.str _,H,I.tok _,⟨_,rfl⟩,q⟩;rw[bS];have:=yI z.cps.toList lo hi;rw[←dQ] at this;left
noncomputable def JV (K:Zf):V->Option Int->Option Int->Hp->VK->Prop:=fun x lo hi H Q=>match x with
 | .ref a=>∃ xs,Æ K H a xs/\nw H (.lst (oX xs lo hi)) Q
 | .str z=>⇑z<=sizeLine/\Q (.str (tx (mS z.cps.toList lo hi))) H
 | _=>False
theorem O4 :ă X (JV X.K):=by
 intro Yp s σ H x v vl vu lo hi sl Q I rx hs pl pu h;cases x with
 | ref a =>obtain⟨xs,h1,h2⟩:=h;exact Ki Yp s σ H _ v vl vu lo hi sl Q I rx hs pl pu ⟨a,xs,rfl,h1,h2.go⟩
 | str z=>exact Kj Yp s σ H _ v vl vu lo hi sl Q I rx hs pl pu ⟨z,rfl,h.1,h.2⟩
 | _=>exact False.elim h
theorem i7 (hK:X.K=K):ă X (JV K):=hK ▸ O4
end
section
noncomputable def gk (x:Key) (l:List Key):Bool:=l.any fun y=>decide (y=x)
theorem jA {x:Key}{l:List Key}:gk x l=true↔x∈l:=by unfold gk;rw[List.any_eq_true];exact⟨fun ⟨y,h,e⟩=>jc e ▸ h,fun h=>⟨x,h,a8 rfl⟩⟩
theorem wW (x y:Key) (l:List Key):gk x (l++[y])=(gk x l||decide (y=x)):=by unfold gk;rw[List.any_append];simp
noncomputable def cz (val:Nat->Key):Nat->List Key
 | 0=>[]
 | i+1=>if gk (val i) (cz val i)=true then cz val i else cz val i++[val i]
theorem mX (val:Nat->Key):∀ i,⇑(cz val i)<=i
 | 0=>av _
 | i+1=>by
  have ih:=mX val i;unfold cz;split
  ·left
  ·rw[aF,dz];left
theorem Aa {S S':Key->Bool}{n n':Nat} (x:h.SetOf (bj P w) a S n) (e:∀ k,S k=S' k) (en:n=n'):h.SetOf (bj P w) a S' n':=by have z:S=S':=funext e;subst z;subst en;exact x
section
variable {prog:Zh}{w:Zi}{A:Around}{R:Result->Zg->Prop}{c:Addr}{fp wr:List Addr}{G:Array GenState->Array GenState->Prop}{n:Nat}{Pv:Nat->Value->Prop}{Sv:Nat->Zg->Prop}
theorem Al (W:WalksS prog w A.in1 c fp wr G n Pv Sv) (a:Addr) (na:a∉fp) (val:Nat->Key) (hv:∀ i v,Pv i v->kr (val i) v=true/\v.scannable=true) (hb:n+1<scanBound) :
  ∀ (k i:Nat) (s:Zg),n-i=k->i<=n->Sv i s->s.heap.SetOf (bj prog w) a (fun x=>gk x (cz val i)) ⇑(cz val i) →
   (∀ s',Moved (a::wr) G s s'->s'.heap.SetOf (bj prog w) a (fun x=>gk x (cz val n)) ⇑(cz val n)->R (.ok (.ret .none)) s') →
   codeAny (model prog w) A (.builtin "set.update.loop" ⟨[.ref a,.ref c],[]⟩) R s:=by
 have nw':a∉wr:=fun z=>na (W.sub _ z);have sb:∀ b∈wr,b∈a::wr:=fun b h=>aV _ h;have mD:∀ {s s':Zg}{S:Key->Bool}{m:Nat},Moved wr G s s'->s.heap.SetOf (bj prog w) a S m->s'.heap.SetOf (bj prog w) a S m:=fun mv x=>by obtain⟨o,es,ep,t,ho,r⟩:=x;exact⟨o,es,ep,t,mv.heap a _ nw' ho,r⟩
 intro k
 induction k with
 | zero =>
  intro i s hk hi st x q;have e:i=n:=⋯
  subst e;refine gf rQ ?_;rw[qE lT _];show wpAny _ A.in1 (pyNext (.ref c) >>= _) _ _ s;refine aa (W.done s _ _ st fun s' mv=>?_);exact aq (q s' (mv.mono sb) (mD mv x))
 | succ k ih =>
  intro i s hk hi st x q;have lt:i<n:=⋯
  refine gf rQ ?_;rw[qE lT _];show wpAny _ A.in1 (pyNext (.ref c) >>= _) _ _ s;refine aa (W.item i s _ _ lt st fun v s' pv st' mv=>?_);obtain⟨hk1,hk2⟩:=hv i v pv;have x':=mD mv x;show wpAny _ A.in1 (holding [v] (setAdd a v) >>= _) _ _ s';refine aa (cB ?_);unfold setAdd;refine cB ?_;refine aa ((bj prog w).pyHash (k:=val i) hk1 ?_);have room:⇑(cz val i)+1<scanBound:=by have:=mX val i;left
  refine wpAny_setAddHashed_of (knd:=bj prog w) (s:={ s' with toks:=s'.toks+1 }) hk1 hk2 x' room fun g sg xg=>?_;have x2:g.SetOf (bj prog w) a (fun y=>gk y (cz val (i+1))) ⇑(cz val (i+1)):=by
   refine Aa xg (fun y=>?_) ?_
   ·show (gk y (cz val i)||decide (y=val i))=gk y (if gk (val i) (cz val i)=true then cz val i else cz val i++[val i])
    by_cases hc:gk (val i) (cz val i)=true
    ·rw[ai hc]
     by_cases e:y=val i
     ·subst e;rw[hc,Bool.true_or]
     ·rw[ay e,Bool.or_false]
    ·rw[ag hc,wW]
     congr 1
     by_cases e:y=val i
     ·rw[a8 e,a8 e.symm]
     ·rw[ay e,ay (b7 e)]
   ·show (if gk (val i) (cz val i)=true then ⇑(cz val i) else ⇑(cz val i)+1)=⇑(if gk (val i) (cz val i)=true then cz val i else cz val i++[val i])
    by_cases hc:gk (val i) (cz val i)=true
    ·rw[ai hc,ai hc]
    ·rw[ag hc,ag hc,aF];rfl
  refine aq ⟨lV lT _,ih (i+1) _ ⋯ lt (W.frame _ s' _ _ st' (fZ _) fun b hb o e=>?_) x2 fun s'' mv2 x3=>?_⟩
  ·rw[sg.2 b (fun z:b=a=>na (by rw[←z];exact hb))];exact e
  ·refine q s'' (Moved.trans W.gtrans ((mv.mono sb).then_heap (fZ _) fun b o hb e=>?_) mv2) x3;rw[sg.2 b (fun z:b=a=>hb (by rw[z];exact aR))];exact e
end
noncomputable def lr (z:Str) (i:Nat):Key:=Sum.inr ⟨#[z.cps.toList.getD i 0]⟩
theorem sub_str_set:isSubtype (.type "str") (.type "set")=pure false:=by rw[isSubtype_type];ext
theorem vR:isSubtype (.type "str") (.type "frozenset")=pure false:=by rw[isSubtype_type];ext
set_option maxRecDepth 100000 in
set_option maxHeartbeats 4000000 in
theorem Ab {prog:Zh}{w:Zi}{A:Around}{E:Zq}{s:Zg}{z:Str}{t:Tok}{Q:Zq} (hh:A.handled=none) (hb:z.cps.size+1<scanBound)
  (q:∀ (g:Heap) (tk:Nat),g.SetOf (bj prog w) s.heap.objs.size (fun x=>gk x (cz (lr z) z.cps.size)) ⇑(cz (lr z) z.cps.size)->(∀ b o,b<s.heap.objs.size->s.heap.get? b=some o->g.get? b=some o) →
   Q (.ref s.heap.objs.size) { s with heap:=g,toks:=tk }):wpAny (model prog w) A (call (.type "set") [.str z t]) Q E s:=by
 obtain⟨c,tl,hmro⟩:=eJ.mro;have hmade:=eJ.made;have hsub:=eJ.sub;refine i4 (codeAny_of_tree ?_);show wpAny _ _ (callAny (.type "set") _) _ _ _;refine aq ⟨Code.quiet_builtin _ (by nofun),gf F.entry_type_call ?_⟩;rw[Around.under_plain (weight_type_call_type "set" [.str z t] []) rfl];have h1:=eJ.notType;have h2:=eJ.canCreate;have hct:=F.typeCall_set_1 (.str z t)
 repeat (any_goals (first | assumption | wp_step))
 refine gE (code_set_new_1 (.str z t) (E:=E) (Q₁:=fun ob s1=>∃ led:Bool,ob=.ref s.heap.objs.size/\s1={ s with heap:=s.heap.push { cls:=.type "set",dict:=none,data:=.set #[] 0 (.fresh 0 0 led) } }) fun led=>⟨led,rfl,rfl⟩) fun r s1 hr=>?_;cases r with
 | error e=>exact hr
 | ok fl =>
  cases fl with
  | ret ob =>
   obtain⟨led,rfl,rfl⟩:=hr;generalize hg1:s.heap.push { cls:=.type "set",dict:=none,data:=.set #[] 0 (.fresh 0 0 led) }=g1;have hS:g1.get? s.heap.objs.size=some { cls:=.type "set",dict:=none,data:=.set #[] 0 (.fresh 0 0 led) }:=by rw[←hg1];exact bz _ rfl
   have hsz:g1.objs.size=s.heap.objs.size+1:=by rw[←hg1,iQ]
   have hkp:∀ b o,s.heap.get? b=some o->g1.get? b=some o:=fun b o e=>by rw[←hg1];exact aE _ e
   have hT:Shared.TypeIs { s with heap:=g1 } (.ref s.heap.objs.size) "set":=⟨_,hS,rfl⟩;have hli:=eJ.init.lookup;have hbi:=eJ.init.bind (.ref s.heap.objs.size)
   repeat (any_goals (first | assumption | wp_step))
   refine gE (oC (R:=wants (fun r s2=>r=.none/\∃ g tk,s2={ s with heap:=g,toks:=tk }/\g.SetOf (bj prog w) s.heap.objs.size (fun x=>gk x (cz (lr z) z.cps.size)) ⇑(cz (lr z) z.cps.size) ∧
     (∀ b o,b<s.heap.objs.size->s.heap.get? b=some o->g.get? b=some o)) E) eJ.init.plain F.entry_set_init (check_set_init_1 hT ?_)) fun r2 s2 hr2=>?_
   ·have k1:=sub_str_set;have k2:=vR;have k3:(Value.type "str"==Value.type "dict")=false:=by decide
    have hh3:A.in1.in1.in1.handled=none:=by simp [hh]
    have hval:∀ i v,SignAt z i v->kr (lr z i) v=true/\v.scannable=true:=by
     rintro i v ⟨ch,u,e,rfl⟩;refine⟨?_,rfl⟩;have e2:z.cps.toList.getD i 0=ch:=by rw[aT,eI,e];rfl
     unfold lr;rw[e2];exact oM _ _
    have fin:∀ (g2:Heap),(∀ b o,g1.get? b=some o->g2.get? b=some o)->∀ s',Moved (s.heap.objs.size::[g1.objs.size]) (fun a b=>b=a) { s with heap:=g2 } s' →
      s'.heap.SetOf (bj prog w) s.heap.objs.size (fun x=>gk x (cz (lr z) z.cps.size)) ⇑(cz (lr z) z.cps.size) →
      ∃ g tk,s'={ s with heap:=g,toks:=tk }/\g.SetOf (bj prog w) s.heap.objs.size (fun x=>gk x (cz (lr z) z.cps.size)) ⇑(cz (lr z) z.cps.size)/\(∀ b o,b<s.heap.objs.size->s.heap.get? b=some o->g.get? b=some o):=by
     intro g2 k4 s' mv x;obtain⟨g,ge,d,tk,os⟩:=s';have eg:ge=s.gens:=mv.gens;have ed:d=s.drawn:=mv.drawn;have eo:os=s.os:=mv.os;subst eg;subst ed;subst eo;refine⟨g,tk,rfl,x,fun b o hb e=>mv.heap b o ?_ (k4 b o (hkp b o e))⟩;simp only[aU,dO,dP,not_or];rw[hsz];exact⟨bh hb,bh (gb hb)⟩
    have start:∀ g2:Heap,(∀ b o,g1.get? b=some o->g2.get? b=some o)->g2.SetOf (bj prog w) s.heap.objs.size (fun x=>gk x (cz (lr z) 0)) ⇑(cz (lr z) 0):=fun g2 k4 =>
     letI:BEq Key:=instBEqOfDecidableEq
     Aa ((PyProof.Rows.setObjOf_fresh (knd:=bj prog w) led).setOf (k4 _ _ hS) (by unfold scanBound;left)) (fun _=>rfl) rfl
    have na:s.heap.objs.size∉[g1.objs.size]:=by simp only[aU,dO,dP];left
    unfold Builtin.«set.__init__» noKeywords Builtin.Frozenset.updateFrom;generalize hPI:pyIter=PI
    wp_walk
    subst hPI;cases ha:z.cps.all (·<128) with
    | true =>refine wpAny_pyIter_ascii ha ?_;refine aa (wpAny_runValue ?_);refine Al ((Walks.strAscii hh3 g1.objs.size z t).toS) s.heap.objs.size na (lr z) hval hb (z.cps.size-0) 0 _ ⋯ (bc _) ⟨_,bz _ rfl,rfl,rfl⟩ (start _ fun b o e=>aE _ e) fun s' mv x=>?_;obtain⟨g,tk,e,r1,r2⟩:=fin _ (fun b o e=>aE _ e) s' mv x;refine aq ?_;show wpAny _ _ (ret Value.none) _ _ _;exact aq ⟨rfl,g,tk,e,r1,r2⟩
    | false =>refine wpAny_pyIter_wide ha ?_;refine aa (wpAny_runValue ?_);refine Al ((Walks.strWide hh3 g1.objs.size z t).toS) s.heap.objs.size na (lr z) hval hb (z.cps.size-0) 0 _ ⋯ (bc _) ⟨_,bz _ rfl,rfl,rfl⟩ (start _ fun b o e=>aE _ e) fun s' mv x=>?_;obtain⟨g,tk,e,r1,r2⟩:=fin _ (fun b o e=>aE _ e) s' mv x;refine aq ?_;show wpAny _ _ (ret Value.none) _ _ _;exact aq ⟨rfl,g,tk,e,r1,r2⟩
   ·cases r2 with
    | error e=>exact hr2
    | ok fl2 =>
     cases fl2 with
     | ret v =>
      obtain⟨rfl,g,tk,rfl,x1,x2⟩:=hr2
      repeat (any_goals (first | assumption | wp_step))
      exact q _ _ x1 x2
     | _=>exact hr2.elim
  | _=>exact hr.elim
end
section
noncomputable def BQ (P:Zh) (w:Zi) (a:Addr) (l:List Key):HO:=.ext fun h=>h.SetOf (bj P w) a (fun x=>gk x l) ⇑l
theorem Kf {l:List Key} (x:h.SetOf (bj P w) a (fun x=>gk x l) ⇑l):cj P w H h a (BQ P w a l):=by
 refine⟨x,?_,fun h1 h2 y k=>?_⟩
 ·obtain⟨o,_,_,_,e,_⟩:=x;exact⟨o,e⟩
 ·obtain⟨o,es,ep,t,e,r⟩:=y;exact⟨o,es,ep,t,k o e,r⟩
noncomputable def H0 (P:Zh) (w:Zi):List V->Hp->VK->Prop:=fun vs H Q=>match vs with
 | [.str z]=>⇑z<=4000/\∀ p H',H p=none->a9 H H'->H' p=some (BQ P w p (cz (lr z) ⇑z))->Q (.ref p) H'
 | _=>False
theorem DG (hc:X.calm=true):da X (.type "set") (H0 X.prog X.w):=by
 intro Yp s σ H xs us Q I r h;rcases xs with _ | ⟨x0,t⟩
 ·exact h.elim
 cases x0<;>try exact h.elim
 cases t<;>try exact h.elim
 next z =>obtain⟨u,rfl,t,rfl⟩:=vals1 r;have hf:H s.heap.objs.size=none:=I.hok.fresh (av _);have hz:z.cps.size<=4000:=h.1;refine Ab (I.ok.hd hc) (by unfold scanBound;left) fun g tk x k=>?_;have kk:∀ b o,s.heap.get? b=some o->g.get? b=some o:=fun b o e=>k b o (aH e) e;exact⟨.ref s.heap.objs.size,upd H s.heap.objs.size (BQ X.prog X.w s.heap.objs.size (cz (lr z) ⇑z)),I.laid (t':=tk) kk (av _) (Kf x),rfl,h.2 _ _ hf (cX hf) aC⟩
noncomputable def Hv (P:Zh) (w:Zi):List V->Hp->VK->Prop:=fun vs H Q=>match vs with
 | [.ref p]=>∃ l,H p=some (BQ P w p l)/\Q (.int ⇑l) H
 | _=>False
theorem D9 :da X (.builtin "len") (Hv X.prog X.w):=by
 intro Yp s σ H xs us Q I r h;rcases xs with _ | ⟨x0,t⟩
 ·exact h.elim
 cases x0<;>try exact h.elim
 cases t<;>try exact h.elim
 next p =>obtain⟨l,e,q⟩:=h;obtain⟨u,rfl,ru⟩:=vals1 r;cases ru;obtain⟨⟨o,es,ep,t,e1,e2,e3,_,_,e4,e5,e6⟩,_⟩:=(show cj X.prog X.w H s.heap p (BQ X.prog X.w p l) from I.hok p _ e);refine call_len_set e1 e2 e3 e5 (by have:es.size<4096:=e4;left) ⟨.int es.size,H,I.tok _,⟨_,rfl⟩,?_⟩;rw[e6];exact q
theorem DF (hP:X.prog=P) (hw:X.w=w) (hc:X.calm=true):da X (.type "set") (H0 P w):=by subst hP hw;exact DG hc
theorem Aw (hP:X.prog=P) (hw:X.w=w):da X (.builtin "len") (Hv P w):=by subst hP hw;exact D9
theorem vb (val:Nat->Key):∀ (n:Nat) (x:Key),x∈cz val n↔∃ i,i<n/\val i=x
 | 0,x=>⟨fun h=>(by cases h),fun ⟨i,h,_⟩=>absurd h (Nat.not_lt_zero _)⟩
 | n+1,x=>by
  have ih:=vb val n;unfold cz
  by_cases hc:gk (val n) (cz val n)=true
  ·rw[ai hc,ih x];obtain⟨j,hj,ej⟩:=(ih (val n)).mp (jA.mp hc);constructor
   ·rintro⟨i,h,e⟩;exact⟨i,gb h,e⟩
   ·rintro⟨i,h,e⟩;rcases rP.mp h with h | h
    ·exact⟨i,h,e⟩
    ·exact⟨j,hj,by rw[ej,←h,e]⟩
  ·rw[ag hc,bG,b9,ih x];constructor
   ·rintro (⟨i,h,e⟩ | e)
    ·exact⟨i,gb h,e⟩
    ·exact⟨n,jZ _,e.symm⟩
   ·rintro⟨i,h,e⟩;rcases rP.mp h with h | h
    ·exact .inl ⟨i,h,e⟩
    ·exact .inr (by rw[←e,h])
theorem wX (val:Nat->Key):∀ n,⇑(cz val n)=n↔∀ i j,i<n->j<n->val i=val j->i=j
 | 0=>⟨fun _ i _ h=>absurd h (Nat.not_lt_zero _),fun _=>rfl⟩
 | n+1=>by
  have ih:=wX val n;have hl:=mX val n;unfold cz
  by_cases hc:gk (val n) (cz val n)=true
  ·rw[ai hc];obtain⟨j,hj,ej⟩:=(vb val n (val n)).mp (jA.mp hc);constructor
   ·intro h;left
   ·intro h;have:=h j n (gb hj) (jZ _) ej;left
  ·rw[ag hc,aF,dz];have nm:∀ i,i<n->val i≠val n:=fun i hi e=>hc (jA.mpr ((vb val n (val n)).mpr ⟨i,hi,e⟩));constructor
   ·intro h i j hi hj e;have h2:=ih.mp ⋯;rcases rP.mp hi with hi | hi<;>rcases rP.mp hj with hj | hj
    ·exact h2 i j hi hj e
    ·subst hj;exact absurd e (nm i hi)
    ·subst hi;exact absurd e.symm (nm j hj)
    ·left
   ·intro h;have:=ih.mpr fun i j hi hj=>h i j (gb hi) (gb hj);left
theorem wY (z:Str):⇑(cz (lr z) ⇑z)=⇑z↔z.cps.toList.Nodup:=by
 rw[wX,List.nodup_iff_pairwise_ne,List.pairwise_iff_getElem];have hl:=dQ z;constructor
 ·intro h i j hi hj hij e;have:=h i j ⋯ ⋯ (by unfold lr;rw[aT,aT,aD hi,aD hj,e]);left
 ·intro h i j hi hj e;have hi':i<⇑z.cps.toList:=⋯
  have hj':j<⇑z.cps.toList:=⋯
  have e2:z.cps.toList[i]=z.cps.toList[j]:=by
   unfold lr at e;rw[aT,aT,aD hi',aD hj'] at e;have e4:=cc Str.cps (Sum.inr.inj e)
   simpa using e4
  rcases Nat.lt_trichotomy i j with z1 | z1 | z1
  ·exact absurd e2 (h i j hi' hj' z1)
  ·exact z1
  ·exact absurd e2.symm (h j i hj' hi' z1)
noncomputable def CW:V->List V->Hp->VK->Prop:=fun x vs H Q=>match x,vs with
 | .ref l,[.int i,y]=>∃ xs,H l=some (.lst xs)/\0<=i/\i<2^62/\⇑xs<sizeLine/\Q .non (upd H l (.lst (xs.take i.toNat++y::xs.drop i.toNat)))
 | _,_=>False
theorem E8 :ë X "list.insert" CW:=by
 intro Yp s σ H x vs v us Q I rx rv h;cases x<;>try exact h.elim
 rcases vs with _ | ⟨x0,t⟩
 ·exact h.elim
 cases x0<;>try exact h.elim
 rcases t with _ | ⟨y,t⟩
 ·exact h.elim
 cases t<;>try exact h.elim
 next l i =>
  obtain⟨xs,hH,h0,h1,hz,q⟩:=h;cases rx;obtain⟨u1,u2,rfl,⟨t,rfl⟩,ry⟩:=rv.two;obtain⟨z,its,n,r,hl,e⟩:=I.zo hH;have hfit:¬(!Builtin.List.listFitsIndex i)=true:=by unfold Builtin.List.listFitsIndex;simp;left
  refine gD F.slot_list_insert ⟨_,e,rfl⟩ F.entry_list_insert (F.args_list_insert_3 _ _ _) (AutoListH.list_insert_list_int_val_1 l its.toArray n i t u2 hfit (by rw[bA];left)) ⟨e,?_⟩;refine⟨.non,_,I.J3 (ys:=xs.take i.toNat++y::xs.drop i.toNat) (its':=its.take i.toNat++u2::its.drop i.toNat) hH e ?_ ((r.take i.toNat).append (.cons ry (r.drop i.toNat))) ?_,rfl,q⟩
  ·have e0:(if i<0 then (i+((its.toArray.size:Nat):Int)).toNat else min i.toNat its.toArray.size)=min i.toNat ⇑its:=by rw[ag ⋯,bA]
   show (its.toArray.extract 0 (if i<0 then (i+((its.toArray.size:Nat):Int)).toNat else min i.toNat its.toArray.size)).push u2++its.toArray.extract (if i<0 then (i+((its.toArray.size:Nat):Int)).toNat else min i.toNat its.toArray.size)=_;rw[e0];apply Array.toList_inj.mp
   by_cases hb:i.toNat<=⇑its
   ·rw[iz hb];simp;rw[ef (by rw[cq];left)]
   ·rw[Nat.min_eq_right ⋯];simp [ef (show ⇑its<=i.toNat by left),nX (show ⇑its<=i.toNat by left)]
  ·rw[aF,bf,bK,cq];left
theorem DN (l:Za):mS l none (some (-1))=l.dropLast:=by
 unfold mS;rw[List.dropLast_eq_take];have e1:HT.Ó ⇑l 0 none=0:=rfl;have e2:HT.Ó ⇑l ⇑l (some (-1))=⇑l-1:=by unfold HT.Ó;simp;left
 rw[e1,e2];rfl
noncomputable def đ:List Addr->Bool
 | []=>true
 | a::r=>!r.contains a&&đ r
theorem wH (l:Za) (j:Nat):mS l none (some (j:Int))=l.take j:=by unfold mS;rw[HT.qW,HT.uB,Nat.sub_zero,nY,List.take_eq_take_iff];left
theorem wG (l:Za) (j:Nat):mS l (some (j:Int)) none=l.drop j:=by
 unfold mS;rw[HT.qW,HT.uB]
 by_cases h:j<=⇑l
 ·rw[iz h];exact ef (by rw[cq];exact av _)
 ·rw[Nat.min_eq_right ⋯,nX (av _),nX ⋯,List.take_nil]
theorem il {H H':Hp} (s:a9 H H') {x:V}{t:Tg} (h:eZ H x=some t):eZ H' x=some t:=by
 cases x with
 | ref a =>
  have h':mE (H a)=some t:=h;cases e:H a with
  | none=>rw[e] at h';cases h'
  | some o =>show mE (H' a)=some t;rw[s a o e,←e];exact h'
 | _=>exact h
end
section
theorem ux :items[((k:Nat):Int).toNat]?=(items.toList.drop k)[0]?:=by rw[iu,c8,Nat.add_zero,eI]
theorem Cw {v:Value}{r:Zc} (h:items.toList.drop k=v::r):items.toList.drop (k+1)=r:=by rw[←List.drop_drop,h];rfl
noncomputable def K1:Zb->Zb->Bool
 | [],[]=>true
 | [],_::_=>false
 | _::_,[]=>true
 | a::x,c::y=>if a=c then K1 x y else decide (c<=a)
noncomputable def zj:Zb->Zb->Bool
 | [],[]=>false
 | [],_::_=>true
 | _::_,[]=>false
 | a::x,c::y=>if a=c then zj x y else decide (a<c)
theorem J4 (l b:Addr) (items items2:Array Value) (n n2:Nat) (dd dd2:Option Addr) (sl sl2:Array (Option Value)) {prog:Zh}{w:Zi}{A:Around}{R:Result->Zg->Prop}{s:Zg}
  (hl:s.heap.get? l=some { cls:=.type "list",dict:=dd,data:=.seq items n,slots:=sl }) (hb:s.heap.get? b=some { cls:=.type "list",dict:=dd2,data:=.seq items2 n2,slots:=sl2 }) :
  ∀ (xs:Zc) (k:Nat) (ns ms:Zb),items.toList.drop k=xs->IntsAre xs ns->IntsAre (items2.toList.drop k) ms->k<=items.size->k<=items2.size->R (.ok (.ret (.bool (zj ns ms)))) s →
   codeAny (model prog w) A (Code.builtin "list.__eq__.loop" { pos:=[.ref l,.ref b,rawInt (k:Int),rawInt 0] }) R s:=by
 obtain⟨hp,g,d,tk,os⟩:=s;simp only at hl hb;intro xs
 induction xs with
 | nil =>
  intro k ns ms hx hi hj hk hk2 h;refine gf MeetsSeq3.entry_eq_loop ?_;show wpAny _ _ (Builtin.«list.__eq__.loop» { pos:=[.ref l,.ref b,Value.int (k:Int) 0,Value.int 0 0] }) _ _ _;unfold Builtin.«list.__eq__.loop»;have e1:items[((k:Nat):Int).toNat]?=none:=by rw[ux,hx];rfl
  have hz:items.size=k:=by have:=cc List.length hx;rw[cq,cD,oj] at this;left
  have hz2:items2.size-k=⇑ms:=by have:=⇑hj;rw[cq,cD] at this;exact this
  wp_walk using AutoSeq1.wpAny_loadPart' hl,AutoSeq1.wpAny_loadPart' hb
  rw[e1]
  wp_walk using AutoSeq1.wpAny_loadPart' hl,AutoSeq1.wpAny_loadPart' hb
  cases hi
  have e2:zj [] ms=decide (items.size<items2.size):=by
   cases ms with
   | nil=>exact (ay (by simp only[oj] at hz2;left)).symm
   | cons c y=>exact (a8 (by simp only[bf] at hz2;left)).symm
  rw[e2] at h;exact h
 | cons v xs ih =>
  intro k ns ms hx hi hj hk hk2 h;refine gf MeetsSeq3.entry_eq_loop ?_;show wpAny _ _ (Builtin.«list.__eq__.loop» { pos:=[.ref l,.ref b,Value.int (k:Int) 0,Value.int 0 0] }) _ _ _;unfold Builtin.«list.__eq__.loop»;have e1:items[((k:Nat):Int).toNat]?=some v:=by rw[ux,hx];rfl
  have hz:items.size=k+(⇑xs+1):=by have:=cc List.length hx;rw[cq,cD,bf] at this;left
  wp_walk using AutoSeq1.wpAny_loadPart' hl,AutoSeq1.wpAny_loadPart' hb
  rw[e1];cases hi with
  | cons a t hi' =>
  generalize hy:items2.toList.drop k=ys at hj;cases hj with
  | nil =>
   have e2:items2[((k:Nat):Int).toNat]?=none:=by rw[ux,hy];rfl
   have hz2:items2.size=k:=by have:=cc List.length hy;rw[cq,cD,oj] at this;left
   rw[e2]
   wp_walk using AutoSeq1.wpAny_loadPart' hl,AutoSeq1.wpAny_loadPart' hb
   have e3:∀ z,zj (a::z) []=decide (items.size<items2.size):=fun z=>(ay ⋯).symm;rw[e3] at h;exact h
  | cons c u hj' =>
   have e2:items2[((k:Nat):Int).toNat]?=some (.int c u):=by rw[ux,hy];rfl
   have hz2:k+1<=items2.size:=by have:=cc List.length hy;rw[cq,cD,bf] at this;left
   rw[e2];obtain⟨e,he,hiff⟩:=HT.FD (A.under (Code.builtin "list.__eq__.loop" { pos:=[.ref l,.ref b,rawInt (k:Int),rawInt 0] })) ⟨hp,g,d,tk,os⟩ a t c u;refine aa (he prog w _ _ ?_);unfold zj at h;cases e with
   | true =>
    rw[ai (hiff.mp rfl)] at h
    wp_walk
    exact⟨by with_unfolding_all rfl,ih (k+1) _ _ (Cw hx) hi' (by rw[Cw hy];exact hj') ⋯ ⋯ h⟩
   | false =>
    rw[ag (fun q=>absurd (hiff.mpr q) cu)] at h
    wp_walk using AutoSeq1.wpAny_loadPart' hl,AutoSeq1.wpAny_loadPart' hb
    rw[e1,e2];have hri:∀ (A:Around) (E:Zq) (Q:Zq),Q (.bool (decide (a<c))) ⟨hp,g,d,tk,os⟩->wpAny (model prog w) A (richCompare .Lt (.int a t) (.int c u)) Q E ⟨hp,g,d,tk,os⟩:=fun A E Q h=>(PyProof.Rows.lt_int h:wpAny (model prog w) A (compareOp .Lt (.int a t) (.int c u)) Q E _);refine aa (hri _ _ _ ?_)
    wp_walk
    exact h
section
variable {X:Cx}{K:Zf}
noncomputable def N6 (K:Zf):R2:=fun x y H Q=>match x,y with
 | .int i,.int j=>Q (.bl (decide (j<=i))) H
 | .ref a,.ref b=>∃ ns ms,Æ K H a (ns.map V.int)/\Æ K H b (ms.map V.int)/\Q (.bl (K1 ns ms)) H
 | _,_=>False
end
theorem gM {t u:TS} (h:∀ nn:TS,nn=u->t { D with nx:=fun σ' H'=>nn D σ' H' } σ H):Kq t u D σ H:=h u rfl
theorem mT {lo:Int}{n:Nat}{g:TG}{tb:TS}{D:Ends} (Pv:Nat->St->Hp->Prop) (h0:Pv 0 σ H)
  (hs:∀ i σ H,i<n->Pv i σ H->∀ N:St->Hp->Prop,(∀ σ' H',Pv (i+1) σ' H'->N σ' H')->g (.int (lo+i)) σ H fun σ2 H2=>tb { D with nx:=N,ct:=N,bk:=D.nx } σ2 H2) (hd:∀ σ H,Pv n σ H->D.nx σ H):j4 g tb D (é lo n) σ H :=
 Jo Pv h0 (fun i σ H hi hp=>hs i σ H hi hp _ fun _ _ h=>h) hd
theorem qL {g:TG}{tb:TS}{D:Ends} (Pv:Nat->St->Hp->Prop) (h0:Pv 0 σ H) (hl:∀ i σ H,i<=⇑xs->Pv i σ H->Æ K H a xs)
  (hs:∀ i x σ H,xs[i]?=some x->Pv i σ H->∀ N:St->Hp->Prop,(∀ σ' H',Pv (i+1) σ' H'->N σ' H')->g x σ H fun σ2 H2=>tb { D with nx:=N,ct:=N,bk:=D.nx } σ2 H2) (hd:∀ σ H,Pv ⇑xs σ H->D.nx σ H):j4 g tb D (ê K a) σ H :=
 u6 Pv h0 hl (fun i x σ H hi hp=>hs i x σ H hi hp _ fun _ _ h=>h) hd
end
section
theorem vQ (c:Nat):∀ (ls:List Za),(tx [c]).join (ls.map tx)=tx (Mk.fK c ls)
 | []=>rfl
 | [w]=>by rfl
 | w::v::ws=>by have ih:=vQ c (v::ws);show tx w++tx [c]++(tx [c]).join ((v::ws).map tx)=tx (w++c::Mk.fK c (v::ws));rw[ih,vT,vT,bJ];rfl
theorem MF (ls:Ze):(ls.map fun z=>z.cps.toList).map tx=ls:=by
 rw[aW]
 conv=>rhs;rw[←List.map_id ls]
 exact iY fun z _=>nQ z
theorem HQ (l:Za) (c:Nat):Txt.split (tx l) (tx [c])=(Mk.bV c l).map tx:=by
 have h1:=StrLaws.join_split (tx l) (tx [c]);have h2:∀ p∈Txt.split (tx l) (tx [c]),c∉p.cps.toList:=fun p hp=>StrLaws.split_free (tx l) c p hp;have h3:=PyProof.Rows.split_pos (tx l) (tx [c]);generalize Txt.split (tx l) (tx [c])=ps at h1 h2 h3;rw[←MF ps] at h1 ⊢;rw[vQ] at h1;rw[←lq h1,Mk.tU]
 ·intro e;have:=cc List.length e;simp at this;rw[this] at h3;simp at h3
 ·intro w hw;obtain⟨p,hp,rfl⟩:=aK.mp hw;exact h2 p hp
theorem EW (c:Nat) (ls:List Za):Txt.join (tx [c]) (ls.map tx)=tx (Mk.fK c ls):=by
 have go:∀ (r:List Za) (acc:Za),(r.map tx).foldl (fun acc p=>acc++(tx [c]).cps++p.cps) acc.toArray=(acc++(r.map fun w=>c::w).flatten).toArray:=by
  intro r
  induction r with
  | nil=>intro acc;simp
  | cons a r ih =>
   intro acc;rw[bg,og];have e:acc.toArray++(tx [c]).cps++(tx a).cps=(acc++c::a).toArray:=by simp [tx]
   rw[e,ih];simp
 have jl:∀ (a:Za) (r:List Za),Mk.fK c (a::r)=a++(r.map fun w=>c::w).flatten:=by
  intro a r
  induction r generalizing a with
  | nil=>simp [Mk.fK]
  | cons b r ih =>show a++c::Mk.fK c (b::r)=_;rw[ih b];simp
 unfold Txt.join Builtin.Str.glued;cases ls with
 | nil=>rfl
 | cons a r =>have:=go r a;show Str.mk ((r.map tx).foldl (fun acc p=>acc++(tx [c]).cps++p.cps) a.toArray)=tx (Mk.fK c (a::r));rw[this,jl];rfl
noncomputable def HD:V->List V->Hp->VK->Prop:=fun x vs H Q=>match x,vs with
 | .str z,[.str y]=>⇑z<=100000/\∃ c,y=tx [c]/\nw H (.lst ((Mk.bV c z.cps.toList).map fun w=>.str (tx w))) Q
 | _,_=>False
theorem xp:∀ (l:List (Str×Tok)),Vals ((l.map fun p=>p.1).map V.str) (strValues l)
 | []=>.nil
 | p::l=>.cons ⟨p.2,rfl⟩ (xp l)
theorem BU {prog:Zh}{w:Zi}{A:Around}{E:Zq}{s:Zg}{x y:Str}{t u:Tok}{Q:Zq} (hy:(⇑y==0)=false) (hsz:⇑x+2<=sizeLine)
  (h:∀ (l:List (Str×Tok)) (k:Nat),l.map (fun p=>p.1)=Txt.split x y->Q (.ref s.heap.objs.size) { s with heap:=s.heap.push { cls:=.type "list",data:=.seq (strValues l).toArray },toks:=k }) :
  wpAny (model prog w) A (call (.builtin "str.split") [.str x t,.str y u]) Q E s:=by
 have ex:Txt.split x y=if (decide (⇑x<⇑y)||decide (Builtin.Str.strKind x<Builtin.Str.strKind y))=true then [x] else if (Builtin.Str.occurrences x y 0 ⇑x (⇑x+1)).isEmpty=true then [x] else Builtin.Str.partsBetween x (Builtin.Str.occurrences x y 0 ⇑x (⇑x+1)) ⇑y:=rfl
 cases h1:(decide (⇑x<⇑y)||decide (Builtin.Str.strKind x<Builtin.Str.strKind y)) with
 | true =>rw[h1,ai rfl] at ex;refine gD F.slot_str_split (typeIs_str s x t) F.entry_str_split (F.args_str_split_2 (Value.str x t) (Value.str y u)) (meets_str_split_cannot_occur x y t u h1) ?_;exact h [(x,_)] _ ex.symm
 | false =>
  rw[h1,ag (by decide)] at ex;cases hf:(Builtin.Str.occurrences x y 0 ⇑x (⇑x+1)).isEmpty with
  | true =>rw[hf,ai rfl] at ex;refine gD F.slot_str_split (typeIs_str s x t) F.entry_str_split (F.args_str_split_2 (Value.str x t) (Value.str y u)) (meets_str_split_not_found x y t u h1 hy hf) ?_;exact h [(x,_)] _ ex.symm
  | false =>rw[hf,ag (by decide)] at ex;have hl:=PyProof.Rows.split_le x y;rw[ex] at hl;refine gD F.slot_str_split (typeIs_str s x t) F.entry_str_split (F.args_str_split_2 (Value.str x t) (Value.str y u)) (meets_str_split_sep x y t u h1 hy hf ⋯ ⋯) ?_;show Q _ _;rw[strsFrom_eq];exact h _ _ ((numbered_texts _ _).trans ex.symm)
theorem vd :ë X "str.split" HD:=by
 intro Yp s σ H x vs v us Q I rx rv h;cases x<;>try exact h.elim
 rcases vs with _ | ⟨x0,t⟩
 ·exact h.elim
 cases x0<;>try exact h.elim
 cases t<;>try exact h.elim
 next z y =>
  obtain⟨hz,c,rfl,q⟩:=h;obtain⟨t,rfl⟩:=rx;obtain⟨u,rfl,ru⟩:=rv.one;obtain⟨t2,rfl⟩:=ru;have hb:⇑z+2<=sizeLine:=by rw[gi];left
  refine BU rfl hb fun l k e=>?_;have e2:l.map (fun p=>p.1)=(Mk.bV c z.cps.toList).map tx:=by rw[e,←HQ,nQ]
  have hl:⇑(strValues l)<=⇑z+2:=by have:=PyProof.Rows.split_le z (tx [c]);rw[←e,af] at this;rw[show ⇑(strValues l)=⇑l from af ..];exact this
  have r:=xp l;rw[e2,aW] at r;refine⟨.ref s.heap.objs.size,_,I.laid (t':=k) (o:=.lst ((Mk.bV c z.cps.toList).map fun w=>.str (tx w))) (fun b ob q=>aE _ q) (av _) ?_,rfl,q.go _ (I.hok.fresh (av _))⟩;refine⟨?_,_,0,r,bz _ rfl⟩;have:=⇑r;rw[show ((Mk.bV c z.cps.toList).map fun w=>V.str (tx w))=(Mk.bV c z.cps.toList).map (V.str ∘ tx) from rfl,this];left
noncomputable def K8:R2:=fun x y H Q=>match x,y with
 | .int i,.int j=>(i.natAbs<2^60∨j.natAbs<2^60)/\Q (.int (i*j)) H
 | _,_=>False
theorem oP :Ë X (binaryOp .Mult) K8:=by
 intro Yp s σ H x y v u Q I rx ry h;cases x with
 | int i=>cases y with
  | int j =>
   refine (ą (X:=X) (f:=binaryOp .Mult) (C:=fun i j=>i.natAbs<2^60∨j.natAbs<2^60) (g:=fun i j=>i*j) fun i j _ _ _ _ _ hc q=>mul_int q ?_) Yp s σ H _ _ v u Q I rx ry ⟨_,_,rfl,rfl,h.1,h.2⟩;rcases hc with hc | hc
   ·exact IntMulOk.of_left (aX (intBits_le_iff.mpr hc) Zd)
   ·exact IntMulOk.of_right (aX (intBits_le_iff.mpr hc) Zd)
  | _=>exact False.elim h
 | _=>exact False.elim h
end
section
theorem AD {i j}{H:Hp}{Q:VK}:CT (.int i) (.int j) H Q=(Q (.int (i+j)) H):=propext Iff.rfl
theorem AE {a b}{H:Hp}{Q:VK}:CT (.str a) (.str b) H Q=(⇑a+⇑b<=sizeLine/\Q (.str (a++b)) H):=propext Iff.rfl
theorem AG {l b}{H:Hp}{Q:VK}:CT (.ref l) (.ref b) H Q=(∃ xs zs,H l=some (.lst xs)/\H b=some (.lst zs)/\⇑xs+⇑zs<=sizeLine/\nw H (.lst (xs++zs)) Q):=propext Iff.rfl
theorem AW {i j}{H:Hp}{Q:VK}:KH (.int i) (.int j) H Q=(Q (.int (i-j)) H):=propext Iff.rfl
theorem AQ {i j}{H:Hp}{Q:VK}:Hy (.int i) (.int j) H Q=(Im i j/\Q (.int (i*j)) H):=propext Iff.rfl
theorem AR {l k}{H:Hp}{Q:VK}:Hy (.ref l) (.int k) H Q=(∃ xs,H l=some (.lst xs)/\-(2^63)<=k/\k<2^63/\⇑xs*k.toNat<=sizeLine/\nw H (.lst (List.replicate k.toNat xs).flatten) Q):=propext Iff.rfl
theorem yS {i j}{H:Hp}{Q:VK}:Hs (.int i) (.int j) H Q=((0<j/\j<2^1000)/\Q (.int (i/j)) H):=propext Iff.rfl
theorem AN {i j}{H:Hp}{Q:VK}:K7 (.int i) (.int j) H Q=(0<j/\Q (.int (i%j)) H):=propext Iff.rfl
theorem AS {i j}{H:Hp}{Q:VK}:KA (.int i) (.int j) H Q=((0<=j/\j<=1000000/\i.natAbs<2^64)/\Q (.int (i^j.toNat)) H):=propext Iff.rfl
theorem AH {f:Int->Int->Bool}{i j}{H:Hp}{Q:VK}:xj f (.int i) (.int j) H Q=(Q (.bl (f i j)) H):=propext Iff.rfl
theorem DW {K:Zf}{i j}{H:Hp}{Q:VK}:N6 K (.int i) (.int j) H Q=(Q (.bl (decide (j<=i))) H):=propext Iff.rfl
theorem DT {K:Zf}{i j}{H:Hp}{Q:VK}:Hr K (.int i) (.int j) H Q=(Q (.bl (decide (i=j))) H):=propext Iff.rfl
theorem DU {K:Zf}{i j}{H:Hp}{Q:VK}:Hr K (.str i) (.str j) H Q=(Q (.bl (decide (i=j))) H):=propext Iff.rfl
theorem DV {K:Zf}{a b}{H:Hp}{Q:VK}:Hr K (.ref a) (.ref b) H Q=(∃ xs ys,Æ K H a xs/\Æ K H b ys/\xs.all eK=true/\ys.all eK=true/\Q (.bl (qK xs ys)) H):=propext Iff.rfl
theorem Ea {K:Zf}{i j}{H:Hp}{Q:VK}:Hz K (.int i) (.int j) H Q=(Q (.bl (!decide (i=j))) H):=propext Iff.rfl
theorem Eb {K:Zf}{i j}{H:Hp}{Q:VK}:Hz K (.str i) (.str j) H Q=(Q (.bl (!decide (i=j))) H):=propext Iff.rfl
theorem Ec {K:Zf}{a b}{H:Hp}{Q:VK}:Hz K (.ref a) (.ref b) H Q=(∃ xs ys,Æ K H a xs/\Æ K H b ys/\xs.all eK=true/\ys.all eK=true/\Q (.bl (!qK xs ys)) H):=propext Iff.rfl
theorem DX {K:Zf}{p i}{H:Hp}{Q:VK}:JU K (.ref p) (.int i) H Q=(∃ xs v,Sq K H p xs/\Þ xs i=some v/\Q v H):=propext Iff.rfl
theorem DY {K:Zf}{z i}{H:Hp}{Q:VK}:JU K (.str z) (.int i) H Q=(⇑z<=sizeLine/\∃ c,Þ z.cps.toList i=some c/\Q (.str ⟨#[c]⟩) H):=propext Iff.rfl
theorem AK {K:Zf}{z}{H:Hp}{Q:VK}:zN K [.str z] H Q=(⇑z<=sizeLine/\Q (.int ⇑z) H):=propext Iff.rfl
theorem AL {K:Zf}{p}{H:Hp}{Q:VK}:zN K [.ref p] H Q=(∃ xs,Sq K H p xs/\Q (.int ⇑xs) H):=propext Iff.rfl
theorem AB {i}{H:Hp}{Q:VK}:K4 [.int i] H Q=(Q (.int (i.natAbs:Int)) H):=propext Iff.rfl
theorem AM {i j}{H:Hp}{Q:VK}:K6 [.int i,.int j] H Q=(Q (.int (min i j)) H):=propext Iff.rfl
theorem yU {K:Zf}{a}{H:Hp}{Q:VK}:BC K [.ref a] H Q=(∃ ys,(Sq K H a ys∨∃ lo hi,H a=some (.rng lo hi)/\(-(2^62)<=lo/\lo<2^62/\-(2^62)<=hi/\hi<2^62)/\(hi-lo).toNat<=2^20/\ys=v8 lo (hi-lo).toNat)/\nw H (.lst ys) Q):=propext Iff.rfl
theorem AU {j}{H:Hp}{Q:VK}:KC [.int j] H Q=(nw H (.rng 0 j) Q):=propext Iff.rfl
theorem AI {c:Tg}{x n}{H:Hp}{Q:VK}:K5 c [x,.ty n] H Q=(n=c.name/\∃ t,eZ H x=some t/\Q (.bl (t.sub c)) H):=propext Iff.rfl
theorem Ed {K:Zf}{a}{lo}{hi}{H:Hp}{Q:VK}:JV K (.ref a) lo hi H Q=(∃ xs,Æ K H a xs/\nw H (.lst (oX xs lo hi)) Q):=propext Iff.rfl
theorem Ef {K:Zf}{z}{lo}{hi}{H:Hp}{Q:VK}:JV K (.str z) lo hi H Q=(⇑z<=sizeLine/\Q (.str (tx (mS z.cps.toList lo hi))) H):=propext Iff.rfl
theorem xF {l i y}{H:Hp}{Q:VK}:CW (.ref l) [.int i,y] H Q=(∃ xs,H l=some (.lst xs)/\0<=i/\i<2^62/\⇑xs<sizeLine/\Q .non (upd H l (.lst (xs.take i.toNat++y::xs.drop i.toNat)))):=propext Iff.rfl
theorem xE {z y}{H:Hp}{Q:VK}:CV (.str z) [.str y] H Q=(0<=Txt.find z y/\Q (.int (Txt.find z y)) H):=propext Iff.rfl
theorem yT {K:Zf}{z p}{H:Hp}{Q:VK}:BB K (.str z) [.ref p] H Q=(∃ ys:Ze,Æ K H p (ys.map V.str)/\(ys.map (·.length)).sum+⇑ys*⇑z<=16777216/\Q (.str (Txt.join z ys)) H):=propext Iff.rfl
theorem yW {z y}{H:Hp}{Q:VK}:HD (.str z) [.str y] H Q=(⇑z<=100000/\∃ c,y=tx [c]/\nw H (.lst ((Mk.bV c z.cps.toList).map fun w=>.str (tx w))) Q):=propext Iff.rfl
theorem AO {i j}{H:Hp}{Q:VK}:K8 (.int i) (.int j) H Q=((i.natAbs<2^60∨j.natAbs<2^60)/\Q (.int (i*j)) H):=propext Iff.rfl
theorem AV {P:Zh}{w:Zi}{z}{H:Hp}{Q:VK}:H0 P w [.str z] H Q=(⇑z<=4000/\∀ p H',H p=none->a9 H H'->H' p=some (BQ P w p (cz (lr z) ⇑z))->Q (.ref p) H'):=propext Iff.rfl
theorem AJ {P:Zh}{w:Zi}{p}{H:Hp}{Q:VK}:Hv P w [.ref p] H Q=(∃ l,H p=some (BQ P w p l)/\Q (.int ⇑l) H):=propext Iff.rfl
theorem A9 {K:Zf}{a:Addr}{H:Hp}{R:It->Hp->Prop}:CA K (.ref a) H R=(((∃ xs,Æ K H a xs)/\R (ê K a) H)∨((∃ xs,Û K H a xs)/\R (Ď K a) H)):=propext Iff.rfl
theorem AA {K:Zf}{z:Str}{H:Hp}{R:It->Hp->Prop}:CA K (.str z) H R=R (û z) H:=propext Iff.rfl
end
section
noncomputable def ú (K:Zf) (a:Addr):It :=
 ⟨fun i H=>∃ xs x,Æ K H a xs/\xs[i]?=some x,
  fun i H v H'=>∃ x p,(∀ xs,Æ K H a xs->xs[i]?=some x)/\v=.ref p/\H p=none/\H'=upd H p (.tup [.int (i:Int),x]),
  fun i H=>∃ xs,Æ K H a xs/\⇑xs<=i⟩
theorem yR {a e it:Addr} (st:(∃ old,IsEnum h e it (i:Int) old)/\h.IsListIter it a i):∀ c∈[e,it],∃ o,h.get? c=some o/\∀ v,o.data≠.cell v:=fun c hc=>by
 obtain⟨⟨old,he⟩,⟨o1,e1,c1,d1⟩⟩:=st;simp only[aU,dO,dP] at hc;rcases hc with rfl | rfl
 ·exact⟨_,he,fun v q=>by have q':Data.fields _=Data.cell v:=q;cases q'⟩
 ·exact⟨o1,e1,fun v q=>by rw[d1] at q;cases q⟩
theorem EU (a e it:Addr) (D:e≠it):Turn P w K (.Tuple elts k pos) (ú K a) [e,it] e
  (fun i h=>(∃ old,IsEnum h e it (i:Int) old)/\h.IsListIter it a i) where
 mem:=by simp
 obj:=fun i h st=>yR st
 keep:=fun i h h' st k=>by obtain⟨⟨old,he⟩,h1⟩:=st;exact⟨⟨old,k e (by simp) _ he⟩,h1.at fun o e=>k it (by simp) o e⟩
 item:=by
  intro X hP hw hK hc i Yp s σ H E I hf st hg;subst hP hw hK;obtain⟨xs,x,hx,ex⟩:=hg;obtain⟨us,r1,p1,_⟩:=I.list hx;obtain⟨u,hu,ru⟩:=r1.get ex;obtain⟨⟨old,he⟩,h1⟩:=id st;refine wpAny_pyNext_enum_item he h1 p1.isList (x:=u) (by simpa using hu) D fun h' a1 a2 a3 a4 a5=>?_;refine⟨_,rfl,wpAny_letOwnedTupleGo_enum (s:={ s with heap:=h',toks:=s.toks+1 }) a1 fun h'' b1 b2=>?_⟩;have b2':Heap.SameBut e h' h'':=b2;have ne:∀ c∈[e,it],c<s.heap.objs.size:=fun c hc=>by obtain⟨o,e,_⟩:=yR st c hc;exact aH e
  have kk:∀ c o,c∉[e,it]->s.heap.get? c=some o->h''.get? c=some o:=fun c o hc e=>by simp only[aU,dO,dP,not_or] at hc;exact (b2'.2 c hc.1).trans (a5 c o hc.1 hc.2 e)
  have hT:h''.get? s.heap.objs.size=some { cls:=.type "tuple",data:=.seq #[.int (i:Int) s.toks,u] }:=(b2'.2 _ (gB (ne e (by simp)))).trans a3;have I1:Inv X Yp σ (upd H s.heap.objs.size (.tup [.int (i:Int),x])) { s with heap:=h'',toks:=s.toks+1 }:=by
   refine I.Dl (t':=s.toks+1) (ch:=[e,it]) hf kk (fun c o ee=>?_) (av _) (show cj X.prog X.w _ h'' _ (.tup [.int (i:Int),x]) from ⟨by show 2<=sizeLine;decide,[.int (i:Int) s.toks,u],.cons ⟨_,rfl⟩ (.cons ru .nil),⟨_,hT,rfl,_,rfl⟩⟩)
   by_cases hc:c∈[e,it]
   ·simp only[aU,dO,dP] at hc;rcases hc with rfl | rfl
    ·exact⟨_,b1⟩
    ·obtain⟨o1,e1,_⟩:=a2;exact⟨_,(b2'.2 _ (b7 D)).trans e1⟩
   ·exact⟨_,kk c o hc ee⟩
  refine⟨.ref s.heap.objs.size,_,I1,rfl,⟨x,_,fun zs hz=>by rw[I.qO hz hx];exact ex,rfl,I.hok.fresh (av _),rfl⟩,⟨⟨_,by have:=b1;rw[show ((i+1:Nat):Int)=(i:Int)+1 from rfl];exact this⟩,a2.at fun o e=>(b2'.2 _ (b7 D)).trans e⟩,fun c hc=>?_⟩;rw[aG (bh (ne c hc))];exact (hf c hc).1
 done:=by intro X hP hw hK hc i Yp s σ H E I hf st hg;subst hP hw hK;obtain⟨xs,hx,hl⟩:=hg;obtain⟨us,r1,p1,_⟩:=I.list hx;obtain⟨⟨old,he⟩,h1⟩:=id st;have l1:=⇑r1;refine wpAny_pyNext_enum_end (I.ok.hd hc) he h1 p1.isList (by simp;left) fun h' kk=>⟨rfl,I.KZ (t':=s.toks) (ch:=[e,it]) hf fun c o hc e=>?_⟩;simp only[aU,dO,dP,not_or] at hc;exact kk c o hc.2 e
 self:=fun _ _ _ _ _ st h=>by obtain⟨⟨old,he⟩,_⟩:=st;exact wpAny_pyIter_enum he h
section
variable {X:Cx}
noncomputable def Gd (K:Zf) (ta:TA):TI:=fun σ H R=>ta σ H fun vs H1=>∃ a,vs=[.ref a]/\(∃ xs,Æ K H1 a xs)/\R (ú K a) H1
theorem Fn {K:Zf}{ta:TA}{σ:St}{H:Hp}{R:It->Hp->Prop}:Gd K ta σ H R=ta σ H fun vs H1=>∃ a,vs=[.ref a]/\(∃ xs,Æ K H1 a xs)/\R (ú K a) H1:=propext Iff.rfl
theorem JN {elts:List Expr}{k:Nat}{tpos:Pos}{a:Expr}{p pos:Pos} (hg:Gl X "enumerate") (hm:X.mg "enumerate"=none) (ha:PA X [a] ta) (hs:starEach [a] X.env=[(false,eval a X.env)]:=by rfl) :
  PI X (.Tuple elts k tpos) (.Call (.Name "enumerate" p) [a] [] pos) (Gd X.K ta):=by
 intro Yp s σ H R I h;refine Call_ (su I hg hm xv (rR (Â (ha pos Yp s σ H _ I h) fun us s1 ⟨vs,H1,I1,r1,q1⟩=>?_) hs (by rfl)));obtain⟨l1,e,⟨xs,hx⟩,q⟩:=q1;subst e;cases r1 with
 | cons r rr =>
  cases rr
  cases r
  obtain⟨us,_,p1,_⟩:=I1.list hx;refine call_enumerate_list p1.isList fun h' he hi hsz hk=>wpAny_pyIter_enum (s:={ s1 with heap:=h' }) he ?_;have I2:Inv X Yp σ H1 { s1 with heap:=h' }:=I1.kept (t':=s1.toks) hk;refine⟨_,[s1.heap.objs.size+1,s1.heap.objs.size],_,_,H1,rfl,I2,EU l1 (s1.heap.objs.size+1) s1.heap.objs.size (Nat.succ_ne_self _),⟨⟨_,he⟩,hi⟩,fun c hc=>?_,q⟩;have hle:s1.heap.objs.size<=c:=by simp only[aU,dO,dP] at hc;rcases hc with rfl | rfl<;>left
  exact I1.zb hle (I1.hok.fresh hle)
theorem qS {elts:List Expr}{k:Nat}{tpos:Pos}{a:Expr}{p pos:Pos} (hK:X.K=K) (hm:X.mg "enumerate"=none) (ha:PA X [a] ta) (hg:X.env.kindOf "enumerate"=some .globalImplicit:=by ext) (hs:noStar a=true:=by ext) :
  PI X (.Tuple elts k tpos) (.Call (.Name "enumerate" p) [a] [] pos) (Gd K ta):=hK ▸ JN hg hm ha (b8 hs)
end
theorem wN {g:TG}{tb:TS}{D:Ends} (Pv:Nat->St->Hp->Prop) (h0:Pv 0 σ H) (hl:∀ i σ H,i<=⇑xs->Pv i σ H->Æ K H a xs)
  (hs:∀ i x σ H,xs[i]?=some x->Pv i σ H->∀ N:St->Hp->Prop,(∀ σ' H',Pv (i+1) σ' H'->N σ' H')->∀ p H',H p=none->a9 H H'->H' p=some (.tup [.int (i:Int),x])->g (.ref p) σ H' fun σ2 H2=>tb { D with nx:=N,ct:=N,bk:=D.nx } σ2 H2) (hd:∀ σ H,Pv ⇑xs σ H->D.nx σ H):j4 g tb D (ú K a) σ H:=by
 refine⟨fun i m σ H=>i+m=⇑xs/\Pv i σ H,⟨⇑xs,⋯,h0⟩,fun i m σ H hw=>?_⟩;obtain⟨e,hp⟩:=hw;have hL:=hl i σ H ⋯ hp
 by_cases hm:m=0
 ·subst hm;have:i=⇑xs:=⋯
  subst this;exact .inl ⟨⟨xs,hL,av _⟩,hd σ H hp⟩
 ·have hi:xs[i]?=some xs[i]:=aD ⋯;refine .inr ⟨⟨xs,_,hL,hi⟩,Pv (i+1),fun σ' H' n=>⟨m-1,⋯,⋯,n⟩,fun v H' hy=>?_⟩;obtain⟨x,p,h1,rfl,h2,rfl⟩:=hy;have hx:=h1 xs hL;exact hs i x σ H hx hp _ (fun _ _ h=>h) p _ h2 (cX h2) aC
section
variable {X:Cx}{tg:Expr}
end
section
variable {X:Cx}
theorem Iz {td ty:TE}{σ:St}{H:Hp}{Q:VK}:HU td ty σ H Q=td σ H fun x H1=>ty σ H1 fun y H2=>∃ a v,x=.ref a/\tW H2 a y (some v)/\Q v H2:=propext Iff.rfl
theorem Fi {td ty:TE}{σ:St}{H:Hp}{Q:VK}:BW td ty σ H Q=td σ H fun x H1=>∃ a,x=.ref a/\č H1 a/\ty σ H1 fun y H2=>∃ o,tW H2 a y o/\Q (o.getD .non) H2:=propext Iff.rfl
theorem GZ {o i:Expr}{td ty:TE} (hu:X.A.units+1<cLine) (ho:PE X o td) (hi:PE X i ty) (hs:Ld i:=by exact fun _ _=>rfl):PE X (.Subscript o i pos) (HU td ty):=JF hu ho hi hs
theorem xf {o e:Expr}{td ty:TE}{apos cpos:Pos} (hu:X.A.units+1<cLine) (ho:PE X o td) (he:PE X e ty) (hbase:attributeBase o "get" X.env (eval o X.env)=eval o X.env:=by ext) (hs:dW [e]=true:=by ext)
  (hline:(apos.endLine==cpos.line)=true:=by ext) (htr:backTo cpos (starEach [e] X.env)=[(false,eval e X.env)]:=by rfl):PE X (.Call (.Attribute o "get" apos) [e] [] cpos) (BW td ty):=by
 refine GY hu ho he ⟨hbase,?_,hline,htr⟩;rw[pE hs];rfl
end
end
section
noncomputable def nR (zs:Ze) (i:Nat):Key:=Sum.inr (zs.getD i (tx []))
theorem FF:∀ {x:V},eK x=true->â x x=true
 | .non,_=>rfl
 | .bl b,_=>by show (b==b)=true;simp
 | .int i,_=>by show (i==i)=true;simp
 | .str z,_=>by show (z==z)=true;simp
section
variable {X:Cx}
end
theorem xP {js:Za}{te:TE}{Q:VK} (hc:∀ σ H R,R true H->tc σ H R) (hJ:J.Seq H1 xs) (hl:⇑xs<sizeLine) (G:HO->Prop) (hG:∀ ys,¬ G (.lst ys))
  (he:∀ x∈xs,∀ H,a9 H1 H->∀ R:VK,(∀ p o H',a9 H H'->H' p=some o->G o->R (.ref p) H')->te (some x::js.map fun j=>(σ[j]?).join) H R)
  (q:∀ D vs H,H1 D=none->a9 H1 H->H D=some (.lst vs)->⇑vs=⇑xs->(∀ v∈vs,∃ p o,v=.ref p/\H p=some o/\G o)->Q (.ref D) H):eE (fG 0) tc te (hO 1 js σ) J H1 Q:=by
 intro D hD;refine⟨fun i m ys σ1 H=>m=⇑xs-i/\i<=⇑xs/\(∃ o,σ1=o::js.map fun j=>(σ[j]?).join)/\⇑ys=i/\(∀ v∈ys,∃ p o,v=.ref p/\H p=some o/\G o)/\a9 H1 H/\H D=some (.lst ys),
  ⟨⇑xs,by simp,bc _,⟨none,rfl⟩,rfl,(fun v hv=>nomatch hv),(a9.refl H1).cf hD,aC⟩,?_⟩
 rintro i m ys σ1 H ⟨rfl,hi,⟨o,rfl⟩,hy,hg,sH,hL⟩;refine⟨hL,⋯,?_⟩
 by_cases hlt:i<⇑xs
 ·have e:xs[i]?=some xs[i]:=aD hlt;obtain⟨go,yl⟩:=(hJ H sH).1 i xs[i] e;refine .inr ⟨go,fun x H' y=>?_⟩;obtain⟨e1,e2⟩:=yl x H' y;subst e1 e2;have hm:xs[i]∈xs:=cZ hlt;show tc (some xs[i]::js.map fun j=>(σ[j]?).join) H' _;refine hc _ _ _ ?_;rw[ai rfl];refine he xs[i] hm H' sH _ fun p o' H4 s4 hp hgo=>?_;have hL4:=s4 _ _ hL;have nD:∀ {b:Addr}{u:HO},H4 b=some u->G u->b≠D:=fun hb hu ee=>by
   subst ee;rw[hL4] at hb;cases hb;exact hG _ hu
  refine⟨hL4,⇑xs-(i+1),⋯,rfl,hlt,⟨_,rfl⟩,by rw[aF,hy];rfl,fun v hv=>?_,((sH.trans s4)).cf hD,aC⟩;rcases bG.mp hv with hv | hv
  ·obtain⟨b,u,rfl,hb,hu⟩:=hg v hv;have hb4:=s4 _ _ hb;exact⟨b,u,rfl,by rw[aG (nD hb4 hu)];exact hb4,hu⟩
  ·rw[b9.mp hv];exact⟨p,o',rfl,by rw[aG (nD hp hgo)];exact hp,hgo⟩
 ·have e:i=⇑xs:=⋯
  subst e;exact .inl ⟨(hJ H sH).2 _ (av _),q D ys H hD sH hL hy hg⟩
theorem LU {js:Za}{σ:St}{te:TE}{Q:VK} (hJ:J.Seq H1 xs) (hl:⇑xs<sizeLine) (G:HO->Prop) (hG:∀ ys,¬ G (.lst ys))
  (he:∀ x∈xs,∀ H,a9 H1 H->∀ R:VK,(∀ p o H',a9 H H'->H' p=some o->G o->R (.ref p) H')->te (some x::js.map fun j=>(σ[j]?).join) H R)
  (q:∀ D vs H,H1 D=none->a9 H1 H->H D=some (.lst vs)->⇑vs=⇑xs->(∀ v∈vs,∃ p o,v=.ref p/\H p=some o/\G o)->Q (.ref D) H):eE (fG 0) ur te (hO 1 js σ) J H1 Q :=
 xP (fun _ _ _ h=>h) hJ hl G hG he q
end
end L2
namespace L2
section
variable {α:Type} [DecidableEq α]
noncomputable abbrev Nk (α:Type):=α×Bool
inductive Wk (St:Nk α->List (Nk α×Int)) (u:Nk α):Nk α->Int->Prop
 | nil:Wk St u u 0
 | snoc {v x:Nk α}{w c:Int}:Wk St u v w->(x,c)∈St v->Wk St u x (w+c)
theorem Wk.mono {St St':Nk α->List (Nk α×Int)}{u v:Nk α}{w:Int} (h:∀ k p,p∈St k->p∈St' k) (x:Wk St u v w):Wk St' u v w:=by
 induction x with
 | nil=>exact .nil
 | snoc _ m ih=>exact ih.snoc (h _ _ m)
theorem Wk.cons {St:Nk α->List (Nk α×Int)}{u v y:Nk α}{w c:Int} (m:(v,c)∈St u) (x:Wk St v y w):Wk St u y (c+w):=by
 induction x with
 | nil =>have:=Wk.snoc (Wk.nil (St:=St) (u:=u)) m;rw[jR] at this;rw[Int.add_zero];exact this
 | snoc _ m2 ih =>have:=ih.snoc m2;rw[Int.add_assoc] at this;exact this
structure Ln (α:Type) where
 a:α
 b:α
 p:Option Int
 c:Option Int
noncomputable def Up (x:Option Int) (w:Int):Prop:=∃ a,x=some a/\a<=w
theorem Up.mono {x:Option Int}{w w':Int} (h:Up x w) (l:w<=w'):Up x w':=by obtain⟨a,e,q⟩:=h;exact⟨a,e,⋯⟩
section
variable {zs bs:List α}{ls:List (Ln α)}{p g:Int}
end
end
end L2
namespace L2
open PySem PySem.Spec PyProof.Rows
variable {C:Addr}{E:Zq}{H:Hp}{H1:Hp}{K:Zf}{M:Model}{P:Zh}{Pt:Addr}{Q:Zq}{X:Cx}{a:Addr}{e:Expr}{ep:Nat}{es:Array (Int×Value)}{e₀:Expr}{f:Str}{fI:Addr}{fd:FuncData}{h:Heap}{hs:List ExceptHandler}{it:Addr}{js:Za}{k:Nat}{lb:Bool}{mN:Zk}{ns:Zb}{o:Obj}{oI:Obj}{params:Arguments}{pl:Sem Bool}{pos:Pos}{prog:Zh}{ps:Array Value}{q:Str}{s:Zg}{scope:Scope}{sp:Sp}{st:Stmt}{ta:TE}{te:TE}{tk:Tok}{u:Value}{v:Value}{vs:Zc}{w:Zi}{x:Str}{xs:List V}{zs:Ze}{σ:St}
section
noncomputable abbrev qC (q:Str):HO:=.tbl #[.str q 0]
section
variable {X:Cx}{Yp:Zp}{σ:St}{H:Hp}{s:Zg}
theorem tab_of {P:Addr} (I:Inv X Yp σ H s) (e:H P=some (qC q)):∃ qs:Array Value,s.heap.get? P=some { cls:=.none,data:=.fields qs }/\TriplesOk qs.toList ∧
  ∀ pos c,codeAmong pos qs.toList=some c->∃ c' oc vs t,c=.ref c'/\H c'=some (.frz oc (.own P))/\s.heap.get? c'=some oc/\oc.data=.fields vs/\vs[1]?=some (.str q t):=by
 obtain⟨qs,h1,h2,h3⟩:=(show cj X.prog X.w H s.heap P (qC q) from I.hok P _ e);refine⟨qs,h1,h2,fun pos c z=>?_⟩;obtain⟨c',oc,vs,t,q',a1,a2,a4,a5,a6⟩:=h3 pos c z;have a7:q=q':=by have:=cc Array.toList a6;simp at this;exact this
 subst a7;exact⟨c',oc,vs,t,a1,a2,(I.hok c' _ a2).1,a4,a5⟩
theorem Inv.tabled {P c':Addr}{h':Heap}{ps more:Array Value}{tk:Nat}{oc:Obj}{vs:Array Value}{tq:Tok} (I:Inv X Yp σ H s) (e:H P=some (qC q)) (hx:∀ b o,b≠P->s.heap.get? b=some o->h'.get? b=some o) (hc:s.heap.objs.size<=c')
  (h1:h'.get? P=some { cls:=.none,data:=.fields more }) (h2:TriplesOk more.toList) (h3:∀ pos c,codeAmong pos more.toList=some c->codeAmong pos ps.toList=some c∨c=.ref c') (h0:s.heap.get? P=some { cls:=.none,data:=.fields ps })
  (c1:h'.get? c'=some oc) (c2:oc.data=.fields vs) (c3:vs[1]?=some (.str q tq)):Inv X Yp σ (upd H c' (.frz oc (.own P))) { s with heap:=h',toks:=tk }:=by
 have hn:=I.hok.fresh hc;have nP:∀ b,H b=none->b≠P:=fun b hb z=>by rw[z,e] at hb;cases hb
 have lt:∀ b o,s.heap.get? b=some o->b≠c':=fun b o z=>bh (bH (aH z) hc);obtain⟨qs,g1,g2,g3⟩:=tab_of I e;have eq:qs=ps:=by
  rw[h0] at g1;have:=Option.some.inj g1
  injection this with _ _ z
  injection z with z
  exact z.symm
 subst eq;refine I.un ⟨fun b o z n _ _=>hx b o (nP b n) z,fun b o z n _ _=>⟨o.slots,hx b o (nP b n) z⟩,fun b o z n _=>by rw[aG (lt b o z)];exact n,fun b o z _=>?_,fun b xs z=>by rw[aG (aQ z hn)];exact z,fun b u xs z=>by rw[aG (aQ z hn)];exact z,
  fun b xs z=>⟨#[],by rw[aG (aQ z hn),z];simp⟩⟩ fun b u z=>?_
 ·by_cases hb:b=P
  ·rw[hb];exact⟨_,h1⟩
  ·exact⟨o,hx b o hb z⟩
 ·by_cases hb:b=c'
  ·subst hb;rw[aC] at z;cases z;exact⟨c1,_,c1⟩
  ·rw[aG hb] at z
   by_cases hp:b=P
   ·subst hp;rw[e] at z;cases z;refine⟨more,h1,h2,fun pos c w=>?_⟩;rcases h3 pos c w with w | rfl
    ·obtain⟨c2',oc2,vs2,t2,a1,a2,a3,a4,a5⟩:=g3 pos c w;exact⟨c2',oc2,vs2,t2,q,a1,by rw[aG (aQ a2 hn)];exact a2,a4,a5,rfl⟩
    ·exact⟨c',oc,vs,tq,q,rfl,aC,c2,c3,rfl⟩
   ·refine (I.hok b u z).mD (fun c v hc2 w=>hx c v ?_ w) (fun c w=>by rw[aG (aQ w hn)];exact w) fun c xs w=>by rw[aG (aQ w hn)];exact w
    rcases hc2 with rfl | w2
    ·exact hp
    ·exact pq w2 e (by intro z;cases z)
end
theorem As {pos p2:Pos}{c:Value}:∀ (l:Zc),TriplesOk l->∀ x,codeAmong pos (l++[rawInt p2.line,rawInt p2.col,c])=some x->codeAmong pos l=some x∨x=c:=by
 intro l h
 fun_induction TriplesOk l with
 | case1 =>
  intro x e;simp only[List.nil_append,codeAmong,rawInt] at e;split at e
  ·exact .inr (Option.some.inj e).symm
  ·cases e
 | case2 a t b u y rest ih =>
  intro x e;simp only[List.cons_append,codeAmong] at e ⊢;split at e
  ·rename_i hc
   rw[ai hc];exact .inl e
  ·rename_i hc
   rw[ag hc];exact ih h x e
 | case3=>exact h.elim
section
variable {X:Cx}{Yp:Zp}{σ:St}{H:Hp}{s:Zg}{a:Addr}{y v:V}{u:Value}{A:Around}{E:Zq}
end
section
variable {X:Cx}{Yp:Zp}{σ:St}{H:Hp}{s:Zg}
noncomputable def qG (H:Hp) (P:Addr) (q:Str) (c':Addr):Prop:=∃ oc vs t,H c'=some (.frz oc (.own P))/\oc.data=.fields vs/\vs[1]?=some (.str q t)
theorem qG.same {H H':Hp}{P c':Addr} (h:qG H P q c') (s:a9 H H'):qG H' P q c':=by obtain⟨oc,vs,t,h1,h2⟩:=h;exact⟨oc,vs,t,s _ _ h1,h2⟩
theorem qG.rec {P c':Addr} (I:Inv X Yp σ H s) (h:qG H P q c'):s.heap.CodeRec (.ref c') q:=by obtain⟨oc,vs,t,h1,h2,h3⟩:=h;exact⟨c',oc,vs,t,rfl,(I.hok c' _ h1).1,h2,h3⟩
end
section
variable {prog:Zh}{w:Zi}{A:Around}{E:Zq}{s:Zg}{d it:Addr}{D J:Obj}{es:Array DictEntry}{ep i:Nat}
end
section
variable {X:Cx}{Yp:Zp}{σ:St}{H:Hp}{A:Around}{s0:Zg}{l q I S:Addr}{vs:Zc}{R:Result->Zg->Prop}
end
section
variable {X:Cx}
end
noncomputable def Dh:TE:=fun _ H Q=>nw H (.dT []) Q
theorem Fj {σ:St}{H:Hp}{Q:VK}:Dh σ H Q=nw H (.dT []) Q:=propext Iff.rfl
theorem xh :PE X (.Dict [] [] pos) Dh:=fun Yp s σ H Q I h=>Hb Yp s σ H Q I (nw.go h)
theorem IB {td ty tv:TE}{D:Ends}{σ:St}{H:Hp}:HI td ty tv D σ H=tv σ H fun v H1=>td σ H1 fun x H2=>ty σ H2 fun y H3=>∃ a H4,x=.ref a/\La H3 a y v H4/\D.nx σ H4:=propext Iff.rfl
theorem zM {o i value:Expr}{pos pos':Pos}{td ty tv:TE} (hu:X.A.units+1<cLine) (ho:PE X o td) (hi:PE X i ty) (hv:PE X value tv) (hs:swapsWith value (some (.Subscript o i pos')) pos.line X.env=pure false:=by ext) :
  PS X (.Assign [.Subscript o i pos'] value pos) (HI td ty tv):=JP hu ho hi hv hs
theorem qN:∀ {ns:Zb}{us:Zc},Vals (ns.map V.int) us->IntsAre us ns
 | [],_,r=>by rw[ix] at r;cases r;exact .nil
 | n::ns,_,r=>by
  rw[bg] at r;cases r with
  | cons r1 r2=>obtain⟨t,rfl⟩:=r1;exact .cons n t (qN r2)
theorem iC {α β:Type}{F:α->β->Prop}:∀ {l₁:List α}{l₂:List β},Paired F l₁ l₂->∀ {i:Nat}{x:α},l₁[i]?=some x->∃ y,l₂[i]?=some y/\F x y
 | _,_,.nil,i,x,e=>by simp at e
 | _,_,.cons r t,0,x,e=>by simp at e;subst e;exact⟨_,rfl,r⟩
 | _,_,.cons r t,i+1,x,e=>iC t (by simpa using e)
theorem Ih {ws:List V} (hl:⇑ws=⇑vs) (h:∀ (i:Nat) w,ws[i]?=some w->∃ v,vs[i]?=some v/\RelV w v):Vals ws vs:=by
 induction ws generalizing vs with
 | nil =>
  cases vs with
  | nil=>exact .nil
  | cons _ _=>simp at hl
 | cons w ws ih =>
  cases vs with
  | nil=>simp at hl
  | cons v vs =>obtain⟨v',e,r⟩:=h 0 w rfl;cases e;exact .cons r (ih (by simpa using hl) fun i x e=>h (i+1) x (by simpa using e))
theorem E5 {P:Zh}{w:Zi}{K:Zf}{mg mb:Zk}{CX:Ö}{k:Nat}{fa a c Pt:Addr}{q:Str}{fd:FuncData}{x:Str}{sp:Sp}{s₁:Zg}{vs:Zc}{ns:Zb}
  (KX:K.In s₁.heap) (hns:s₁.heap.Ns mainGlobals mg) (hb:s₁.heap.Ns builtinsNs mb) (hbb:∀ x:Str,x≠"__name__"->mb x=bootBuiltins x) (hlim:s₁.heap.NoLimit)
  (hbm:∃ bm ob,mg "__builtins__"=some (.ref bm)/\bm≠builtinsNs/\s₁.heap.get? bm=some ob/\ob.cls=.type "module"/\ob.dict=some builtinsNs/\ob.data=.plain) (hg:s₁.gens=#[])
  (ha:s₁.heap.get? a=some { cls:=.type "list",data:=.seq vs.toArray }) (hi:IntsAre vs ns) (hl:⇑ns<=sizeLine) (hr:fe k callerA) (hC:PySem.W.codeHdIn K c Pt=true) (hPt:s₁.heap.get? Pt=some { cls:=.none,data:=.fields #[] }) (hKP:K.lookup Pt=none)
  (F:∀ base:Heap,K.In base->base.Ns mainGlobals mg->bR P w K mg base CX k fa fd [x] sp) (hbind:∀ (s:Zg) (u:Value),BindsTo s fd ⟨[u],[]⟩ [(x,u)])
  (hsp:∀ H:Hp,Æ K H a (ns.map V.int)->H Pt=some (qC q)->sp [.ref a] H (fun v _=>v=.bl true) fun _ _ _=>False)
  (hCX:∀ H e s',CX [] H s₁ (fun _ _ _=>False) e s'->False) :
  codeAny (model P w) callerA (.call (.ref fa) ⟨[.ref a],[]⟩) (fun r s'=>r=.ok (.ret (.bool true))/\OldK s₁.heap s'.heap/\s'.os=s₁.os/\AllBare s'.gens) s₁:=by
 have rv:=xo hi;have lenV:=⇑hi;have hCd:=PySem.W.codeHd_of_K KX hC;have nPa:Pt≠a:=fun z=>by rw[z,ha] at hPt;cases hPt
 have core:∀ H:Hp,Æ K H a (ns.map V.int)->Ð P w H s₁.heap->H Pt=some (qC q)->(∀ b,H b≠none->b=Pt∨(b=a/\∃ o xs,H b=some (.frz o (.lst xs))))->(H a≠none->K.lookup a=none) →
   codeAny (model P w) callerA (.call (.ref fa) ⟨[.ref a],[]⟩) (fun r s'=>r=.ok (.ret (.bool true))/\OldK s₁.heap s'.heap/\s'.os=s₁.os/\AllBare s'.gens) s₁:=by
  intro H hS hok hT hA hK;have base_of:∀ {b:Addr}{o:Obj},s₁.heap.get? b=some o->H b=none->(xG s₁.heap H).get? b=some o:=fun e n=>Ga e n;have noO:∀ {b:Addr}{o:Obj},s₁.heap.get? b=some o->(∀ xs n,o.data≠.seq xs n)->(∀ xs,o.data≠.fields xs)->H b=none:=fun {b o} e d1 d2=>by
   cases qb:H b with
   | none=>rfl
   | some u =>
    rcases hA b (by rw[qb];simp) with z | ⟨z,_⟩
    ·subst z;rw[hPt] at e;cases e;exact absurd rfl (d2 _)
    ·subst z;rw[ha] at e;cases e;exact absurd rfl (d1 _ _)
  have nsK:∀ {b:Addr}{m:Zk},s₁.heap.Ns b m->(xG s₁.heap H).Ns b m:=fun {b m} ⟨o,es,ep,e,d,r⟩=>⟨o,es,ep,base_of e (noO e (fun _ _ z=>by rw[d] at z;cases z) fun _ z=>by rw[d] at z;cases z),d,r⟩;have hKb:K.In (xG s₁.heap H):=fun b o e=>base_of (KX b o e) (by
   cases qb:H b with
   | none=>rfl
   | some u =>
    rcases hA b (by rw[qb];simp) with z | ⟨z,_⟩
    ·subst z;rw[hKP] at e;cases e
    ·subst z;rw[hK (by rw[qb];simp)] at e;cases e)
  have hM:Mod K mg (xG s₁.heap H):=⟨hKb,nsK hns,⟨mb,nsK hb,hbb⟩,let ⟨mc,h1,h2⟩:=hlim;⟨mc,nsK h1,h2⟩,let ⟨bm,ob,b1,b2,b3,b4,b5,b6⟩:=hbm;⟨bm,ob,b1,b2,base_of b3 (noO b3 (fun _ _ z=>by rw[b6] at z;cases z) fun _ z=>by rw[b6] at z;cases z),b4,b5,b6⟩⟩;have e0:Aq P w K mg (xG s₁.heap H) callerA [] s₁ H:=⟨rfl,hM,fun b o e=>J5 e,jY (Er _ _),trivial,fun b hb=>absurd (show b∈([]:List Addr) from hb) (by simp),hok,.of_eq hg⟩;refine gE ((F _ hKb (nsK hns)).run callerA [] s₁ H ⟨[.ref a],[]⟩ [.ref a] [.ref a] _ _ hr e0 (hbind s₁ (.ref a)) (.cons rfl .nil) (hsp H hS hT)) fun r s' h=>?_;cases r with
  | error e=>exact (hCX H e s' h).elim
  | ok fl =>
   cases fl with
   | next=>exact False.elim h
   | brk=>exact False.elim h
   | cont=>exact False.elim h
   | ret u =>
    obtain⟨v,H',os,bare,un,hok',r',qv⟩:=h;have qv':v=.bl true:=qv;subst qv';obtain rfl:u=Value.bool true:=r';refine⟨rfl,⟨fun b o e=>?_,fun b o e=>un.there b o e (by simp)⟩,os,bare⟩;cases qb:H b with
    | none=>exact .inl (un.keep b o e qb (by intro z;exact absurd (show b∈([]:List Addr) from z) (by simp)) (by simp))
    | some u =>
     rcases hA b (by rw[qb];simp) with z | ⟨z,ob,xs,z1⟩
     ·subst z;rw[hPt] at e;cases e;obtain⟨more,z2⟩:=un.tbls b _ hT;obtain⟨qs,z3,_⟩:=(show cj P w H' s'.heap b _ from hok' b _ z2);exact .inr (.inl ⟨(hCd.tab hPt).isCodeTable,rfl,#[],qs,rfl,by simpa using z3⟩)
     ·have z2:=un.frzs b ob _ z1;obtain⟨e1,_⟩:=hok b _ z1;obtain⟨e2,_⟩:=hok' b _ z2;rw[e] at e1;cases e1;exact .inl e2
 have ĉ:∀ H:Hp,cj P w H s₁.heap Pt (qC q):=fun H=>⟨#[],hPt,trivial,fun pos c z=>by simp [codeAmong] at z⟩;cases hk:K.lookup a with
 | some o =>
  have e:=KX a o hk;rw[ha] at e;cases e;refine core (fun b=>if b=Pt then some (qC q) else none) (.inr ⟨_,vs.toArray,_,hk,rfl,rfl,rfl,by rw[bA,lenV];exact hl,by simpa using rv⟩) (fun b u z=>?_) (ai rfl) (fun b z=>?_) fun z=>absurd (ag (b7 nPa)) z
  ·by_cases hb':b=Pt
   ·have z':=(ai hb').symm.trans z;cases z';subst hb';exact ĉ _
   ·have z':=(ag hb').symm.trans z;cases z'
  ·by_cases hb':b=Pt
   ·exact .inl hb'
   ·exact absurd (ag hb') z
 | none =>
  refine core (fun b=>if b=Pt then some (qC q) else if b=a then some (.frz { cls:=.type "list",data:=.seq vs.toArray } (.lst (ns.map V.int))) else none) (.inl (.inr ⟨{ cls:=.type "list",data:=.seq vs.toArray },(ag (b7 nPa)).trans (ai rfl)⟩)) (fun b u z=>?_) (ai rfl) (fun b z=>?_) fun _=>hk
  ·by_cases hb':b=Pt
   ·have z':=(ai hb').symm.trans z;cases z';subst hb';exact ĉ _
   ·have z0:=(ag hb').symm.trans z;clear z;have z:=z0
    by_cases hb2:b=a
    ·have z':=(ai hb2).symm.trans z;cases z';subst hb2;exact⟨ha,by rw[af];exact hl,vs,_,rv,ha⟩
    ·have z':=(ag hb2).symm.trans z;cases z'
  ·by_cases hb':b=Pt
   ·exact .inl hb'
   ·by_cases hb2:b=a
    ·exact .inr ⟨hb2,_,_,(ag hb').trans (ai hb2)⟩
    ·exact absurd ((ag hb').trans (ag hb2)) z
theorem Ii {l:PySem.W.OpenLaw}{n k:Nat}{qq:Zh}{loose:Ze}{XP:(Zk)->Heap->Prop}{YP:Zi->Heap->Prop}{d:DefRec}{K:Params->Zf}{CX:Zi->Ö}{sp:Zi->Sp}{x:Str}{Pt:Addr} (q:Str)
  (hn:l.most=some n) (hn2:n<=sizeLine) (hdf:d.params.defaults=[]) (hr:fe k callerA)
  (hY:∀ (w:Zi) (h:Heap),YP w h->(K w.params).In h/\h.get? Pt=some { cls:=.none,data:=.fields #[] })
  (F:∀ (w:Zi) (mg:Zk) (fa:Addr) (h:Heap),(K w.params).In h->h.Ns mainGlobals mg->mg d.name=some (.ref fa) →
   (∃ c,PySem.W.codeHdIn (K w.params) c Pt=true)/\∃ fd:FuncData,(∀ (s:Zg) (u:Value),BindsTo s fd ⟨[u],[]⟩ [(x,u)]) ∧
    ∀ base:Heap,(K w.params).In base->base.Ns mainGlobals mg->bR l.prog w (K w.params) mg base (CX w) k fa fd [x] (sp w))
  (hKP:∀ w:Zi,(K w.params).lookup Pt=none)
  (hsp:∀ (w:Zi) (H:Hp) (a:Addr) (ns:Zb),⇑ns<=n->Æ (K w.params) H a (ns.map V.int)->H Pt=some (qC q)->sp w [.ref a] H (fun v _=>v=.bl true) fun _ _ _=>False)
  (hCX:∀ (w:Zi) (H:Hp) (s:Zg) (e:Value) (s':Zg),CX w [] H s (fun _ _ _=>False) e s'->False) :
  PySem.W.WalkO qq loose XP YP l.row.toRowW d [] (fun f vs=>PySem.call f vs):=by
 refine Att.yF hn hdf fun w s₀ s₁ mg mb fa o pm cd doc a vs ns G Y ho hd hcd hmg hobj hints hlen hg=>?_;obtain⟨KX,hPt⟩:=hY w _ Y;obtain⟨⟨c,hC⟩,fd,hb,hF⟩:=F w mg fa _ KX G.T.g hmg;exact E5 (q:=q) KX G.T.g G.T.b G.T.builtins G.T.nolimit G.T.bmain hg hobj hints (aX hlen hn2) hr hC hPt (hKP w) hF hb (fun H hS hT=>hsp w H a ns hlen hS hT) fun H e s'=>hCX w H s₁ e s'
section
variable {P:Zh}{w:Zi}{K:Zf}{mg:Zk}{base:Heap}
end
end
section
theorem jy:∀ {zs:Ze}{us:Zc},StrsAre us zs->Vals (zs.map V.str) us
 | _,_,.nil=>.nil
 | _,_,.cons z t h=>.cons ⟨t,rfl⟩ (jy h)
section
variable {prog:Zh}{w:Zi}{A:Around}{E:Zq}{s:Zg}
end
section
variable {α:Type}
theorem MY {p:List α->Prop} (h:p []) (us:List α) (e:⇑us=0):p us:=by
 cases us with
 | nil=>exact h
 | cons _ _=>cases e
theorem bind1 {p:List α->Prop} (h:∀ a,p [a]) (us:List α) (e:⇑us=1):p us:=by
 cases us with
 | nil=>cases e
 | cons a r=>exact MY (p:=fun r=>p (a::r)) (h a) r (Nat.succ.inj e)
theorem cO {p:List α->Prop} (h:∀ a b,p [a,b]) (us:List α) (e:⇑us=2):p us:=by
 cases us with
 | nil=>cases e
 | cons a r=>exact bind1 (p:=fun r=>p (a::r)) (h a) r (Nat.succ.inj e)
theorem mH {p:List α->Prop} (h:∀ a b c,p [a,b,c]) (us:List α) (e:⇑us=3):p us:=by
 cases us with
 | nil=>cases e
 | cons a r=>exact cO (p:=fun r=>p (a::r)) (h a) r (Nat.succ.inj e)
theorem wx {p:List α->Prop} (h:∀ a b c d,p [a,b,c,d]) (us:List α) (e:⇑us=4):p us:=by
 cases us with
 | nil=>cases e
 | cons a r=>exact mH (p:=fun r=>p (a::r)) (h a) r (Nat.succ.inj e)
end
end
section
noncomputable def Hx:List V->Hp->VK->Prop:=fun vs H Q=>match vs with
 | [.str z]=>⇑z.cps.toList<=100000/\nw H (.lst (z.cps.toList.map fun c=>V.str ⟨#[c]⟩)) Q
 | _=>False
theorem DZ {z:Str}{H:Hp}{Q:VK}:Hx [.str z] H Q=(⇑z.cps.toList<=100000/\nw H (.lst (z.cps.toList.map fun c=>V.str ⟨#[c]⟩)) Q):=propext Iff.rfl
theorem Ax (hc:X.calm=true):da X (.type "list") Hx:=by
 intro Yp s σ H xs us Q I r h;rcases xs with _ | ⟨x0,t⟩
 ·exact h.elim
 cases x0<;>try exact h.elim
 cases t<;>try exact h.elim
 next z =>
  obtain⟨hl,k⟩:=h;obtain⟨u,rfl,r2⟩:=vals1 r;obtain⟨t,rfl⟩:=r2;refine call_list_str (I.ok.hd hc) z t (fun h' tk acc c' kp gS hacc=>?_) (by rw[←cD];exact aM (ak ⋯));have hn:=I.hok.fresh (av s.heap.objs.size);have hv:Vals (z.cps.toList.map fun c=>V.str ⟨#[c]⟩) acc.toList:=by
   refine Ih (by rw[af,cD,cD];exact hacc.1.symm) fun i w e=>?_;rw[aS] at e;cases ex:z.cps.toList[i]? with
   | none=>rw[ex] at e;cases e
   | some c =>
    rw[ex] at e;cases e;have hi:i<z.cps.size:=by have:=(br.mp ex).1;simpa using this
    have hi2:i<acc.size:=by rw[hacc.1];exact hi
    have e2:=hacc.2 i acc[i] (gu hi2);refine⟨acc[i],by rw[eI,gu hi2],?_⟩;obtain⟨c2,u,e3,e4⟩:=e2;rw[←eI,ex] at e3;cases e3;exact⟨u,e4⟩
  have I1:Inv X Yp σ (upd H s.heap.objs.size (.lst (z.cps.toList.map fun c=>V.str ⟨#[c]⟩))) { s with heap:=h',toks:=tk }:=by refine I.laid (t':=tk) (o:=.lst (z.cps.toList.map fun c=>V.str ⟨#[c]⟩)) kp (av _) ⟨?_,acc.toList,c',hv,by rw[uE];exact gS⟩;rw[af];exact aM (ak ⋯)
  exact⟨.ref s.heap.objs.size,_,I1,rfl,k _ _ hn (cX hn) aC⟩
end
section
section
variable {X:Cx}
end
end
section
section
variable {prog:Zh}{w:Zi}{K:Type} [DecidableEq K] {knd:HeapKind prog w K}{A:Around}{E:Zq}{s:Zg}{d a:Addr}{xs:List (K×Addr×Value)}{k:K}
theorem Ac {dflt:Value} (hu:knd.room A) (hkey:knd.is s.heap k a) (hm:s.heap.DictOfH knd d xs) (hsz:⇑xs<=sizeLine) (h1:∀ p,atKey xs k=some p->Q p.2 { s with toks:=s.toks+knd.draws k })
  (h2:atKey xs k=none->∀ h',h'.DictOfH knd d (storedH xs k a dflt)->Heap.SameBut d s.heap h'->Q dflt { s with heap:=h',toks:=s.toks+knd.draws k }):wpAny (model prog w) A (dictSetDefault d (.ref a) dflt) Q E s:=by
 obtain⟨o,es,ep,g1,g2,g3,g4,g5,g6⟩:=hm;unfold dictSetDefault
 try with_reducible refine cB ?_
 refine aa (knd.pyHash hu hkey (aa (wpAny_dictFind_heap (s:={ s with toks:=s.toks+knd.draws k }) hu hkey g1 g3 g4 g5 g6 (fun hno=>?_) fun j p hj=>?_)))
 ·have nk:k∉xs.map (·.1):=not_mem_keys_of_get hno;have nw':=storedH_new (atKey_none_of_get hno) a dflt;have ez:=size_of_entries g4;refine aa (dU (aa (wpAny_updateDictKeys (hz:=⋯) (s:={ s with toks:=s.toks+knd.draws k }) g1 g3 (aq (h2 (atKey_none_of_get hno) _ ⟨_,_,ep+1,fV _ g1 (Obj.isFreed_of_dict (Obj.data_mapDictKeys g3 _)),g2.mapDictKeys _,Obj.data_mapDictKeys g3 _,?_,?_,?_⟩ (Heap.SameBut.update ..))))))
  ·rw[nw'];simp [g4,entryOfKey]
  ·rw[nw'];intro x hx;rcases bG.mp hx with z | z
   ·exact knd.keeps (g5 x z) g1 g3 (Heap.SameBut.update ..)
   ·rw[b9.mp z];exact knd.keeps hkey g1 g3 (Heap.SameBut.update ..)
  ·rw[nw',bM,oq];refine⟨g6,by simp,fun x hx y hy z=>?_⟩;have hy':y=k:=by simpa using hy
   exact nk (hy' ▸ z ▸ hx)
 ·refine aa (wpAny_dictEntries (s:={ s with toks:=s.toks+knd.draws k }) g1 g3 ?_);rw[entry_at g4 j,hj];exact aa (dU (aq (h1 _ (atKey_of_get g6 hj))))
theorem vX (hd:(d==sysModules)=false) (dflt:Value):MeetsIn prog w (Builtin.«dict.setdefault» ⟨[.ref d,.ref a,dflt],[]⟩) (fun A R s=>knd.room A.in1/\∃ k xs,knd.is s.heap k a/\s.heap.DictOfH knd d xs/\⇑xs<=sizeLine ∧
  (∀ p,atKey xs k=some p->R (.ok (.ret p.2)) { s with toks:=s.toks+knd.draws k })/\(atKey xs k=none->∀ h',h'.DictOfH knd d (storedH xs k a dflt)->Heap.SameBut d s.heap h'->R (.ok (.ret dflt)) { s with heap:=h',toks:=s.toks+knd.draws k })) :=
 .of_wp fun A R s ⟨hu,k,xs,hkey,hm,hz,h1,h2⟩=>by
  unfold Builtin.«dict.setdefault» Builtin.Dict.keyAndDefault;refine aa (aa (wpAny_notOrdered_dict hm.typeIs ?_));refine show wpAny _ _ (pure (d,Value.ref a,some dflt)) _ _ s from aq ?_
  show wpAny _ _ (if (d==sysModules)=true then _ else (dictSetDefault d (.ref a) dflt >>= _)) _ _ s;rw[ag (fun z=>by rw[hd] at z;cases z)];exact aa (Ac hu hkey hm hz (fun p hp=>aq ⟨p.2,rfl,h1 p hp⟩) fun hn h' m' s'=>aq ⟨dflt,rfl,h2 hn h' m' s'⟩)
end
noncomputable def zO:V->List V->Hp->VK->Prop:=fun x vs H Q=>match x,vs with
 | .ref d,[.ref b,v]=>∃ kvs k,H d=some (.dT kvs)/\H b=some (.tup (k.map kV))/\⇑kvs<sizeLine/\(∀ u,fF kvs k=some u->Q u H)/\(fF kvs k=none->Q v (upd H d (.dT (putK kvs k v))))
 | _,_=>False
theorem yV {d b:Addr}{v:V}{H:Hp}{Q:VK}:zO (.ref d) [.ref b,v] H Q=(∃ kvs k,H d=some (.dT kvs)/\H b=some (.tup (k.map kV))/\⇑kvs<sizeLine/\(∀ u,fF kvs k=some u->Q u H)/\(fF kvs k=none->Q v (upd H d (.dT (putK kvs k v))))):=propext Iff.rfl
theorem Bn (hu:X.A.units+1<cLine):ë X "dict.setdefault" zO:=by
 intro Yp s σ H x vs v us Q I rx rv h;cases x<;>try exact h.elim
 rcases vs with _ | ⟨x0,t⟩
 ·exact h.elim
 cases x0<;>try exact h.elim
 rcases t with _ | ⟨dv,t⟩
 ·exact h.elim
 cases t<;>try exact h.elim
 next d b =>
  obtain⟨kvs,k,hd,hb,hz,q1,q2⟩:=h;cases rx;obtain⟨u1,u2,rfl,ry,rd⟩:=rv.two;cases ry;obtain⟨z,hs,xs,rel,dd⟩:=Kx I.hok hd;have hxl:⇑xs<=sizeLine:=by rw[←Paired.length rel];exact z
  refine call_meetsIn F.slot_dict_setdefault dd.typeIs F.entry_dict_setdefault (F.args_dict_setdefault_3 _ _ _) (vX (knd:=tupleKind (bj X.prog X.w)) hs u2) ⟨oF hu,k,xs,sq I.hok hb,dd,hxl,fun p hp=>?_,fun hn h' dd' hsb=>?_⟩
  ·cases hv:fF kvs k with
   | none =>have:=kJ.none_of (o:=(atKey xs k).map (·.2)) (by rw[←hv];exact rel.val k);rw[hp] at this;cases this
   | some u =>obtain⟨w2,hw2,rw2⟩:=kJ.some_of (v:=u) (o:=(atKey xs k).map (·.2)) (by rw[←hv];exact rel.val k);rw[hp] at hw2;cases hw2;exact⟨u,H,I.tok _,rw2,q1 u hv⟩
  ·cases hv:fF kvs k with
   | some u =>obtain⟨w2,hw2,rw2⟩:=kJ.some_of (v:=u) (o:=(atKey xs k).map (·.2)) (by rw[←hv];exact rel.val k);rw[hn] at hw2;cases hw2
   | none =>
    have hl:⇑(putK kvs k dv)<=sizeLine:=by have:=kx kvs k dv;left
    obtain⟨q,es,ep,e1,e2,e3,e4,_,e5⟩:=dd';refine⟨dv,upd H d (.dT (putK kvs k dv)),xC I (by rw[hd];exact True.intro) hsb ⟨q,e1⟩ ⟨hl,hs,_,(rel.put k hb rd).keeps fun c ys ec=>?_,q,es,ep,e1,e2,e3,e4,e5⟩,rd,q2 hv⟩;rw[aG (pq ec hd (fun z=>nomatch z))];exact ec
theorem Gs {js:Za}{σ:St}{te:TE}{Q:VK} (hx:Æ K H1 a xs) (hl:⇑xs<sizeLine) (g:Nat->V)
  (he:∀ (i:Nat) x,xs[i]?=some x->∀ H,a9 H1 H->∀ R:VK,(∀ H',a9 H H'->R (g i) H')->te (some (.int (i:Int))::some x::js.map fun j=>(σ[j]?).join) H R)
  (q:∀ D H,H1 D=none->a9 H1 H->H D=some (.lst ((List.range ⇑xs).map g))->Q (.ref D) H):eE (Em K 2 (oZ (fG 0) (oZ (fG 1) El))) ur te (hO 2 js σ) (ú K a) H1 Q:=by
 intro D hD;refine⟨fun i m ys σ1 H=>m=⇑xs-i/\i<=⇑xs/\(∃ o1 o2,σ1=o1::o2::js.map fun j=>(σ[j]?).join)/\ys=(List.range i).map g/\a9 H1 H/\H D=some (.lst ys),
  ⟨⇑xs,by simp,bc _,⟨none,none,rfl⟩,by simp,(a9.refl H1).cf hD,aC⟩,?_⟩
 rintro i m ys σ1 H ⟨rfl,hi,⟨o1,o2,rfl⟩,rfl,sH,hL⟩;refine⟨hL,by rw[af,cJ];left,?_⟩
 by_cases hlt:i<⇑xs
 ·have e:xs[i]?=some xs[i]:=aD hlt;refine .inr ⟨⟨xs,xs[i],sH.seq hx,e⟩,fun v H' hyl=>?_⟩;obtain⟨x,p,hx',rfl,hp,rfl⟩:=hyl;have ex:=hx' xs (sH.seq hx);have hpD:D≠p:=aQ hL hp;refine⟨p,[.int (i:Int),x],rfl,Û.of aC,rfl,.int (i:Int),[x],rfl,x,[],rfl,rfl,?_⟩;have s1:a9 H1 (upd H p (.tup [.int (i:Int),x])):=sH.cf (sH.free hp);show ur (some (.int (i:Int))::some x::js.map fun j=>(σ[j]?).join) _ _;refine he i x ex _ s1 _ fun H5 s5=>⟨s5 _ _ (by rw[aG hpD];exact hL),⇑xs-(i+1),⋯,rfl,hlt,⟨_,_,rfl⟩,?_,(s1.trans s5).cf hD,aC⟩;rw[jW,bM];rfl
 ·have e:i=⇑xs:=⋯
  subst e;exact .inl ⟨⟨xs,sH.seq hx,av _⟩,q D H hD sH hL⟩
end
section
section
variable {X:Cx}
end
section
variable {prog:Zh}{w:Zi}{A:Around}{E:Zq}{s:Zg}
end
section
variable {X:Cx}
end
end
section
structure Io (K:Zf) (x qual:Str) (st:Stmt) (f:Addr) (fd:FuncData):Prop where
 ex:∃ (oc:Value) (od:Option Addr) (dV kV doc pm:Value) (an:Option Addr) (cdv ct:Value) (osl:Array (Option Value)),
  fd=PySem.W.fnOf x qual (dg st) (cQ st) (aw st) dV kV doc pm an cdv ct/\K.lookup f=some ⟨oc,od,.func fd,osl⟩/\PySem.W.codeIn K cdv qual=true
 kp:PySem.W.keepIn K (.ref f)=true
section
variable {P:Zh}{w:Zi}{K:Zf}{mg:Zk}{base:Heap}
theorem Jp {x qual:Str}{f:Addr}{oc:Value}{od an:Option Addr}{osl:Array (Option Value)}{dV kV doc pm cdv ct:Value} (l:K.lookup f=some ⟨oc,od,.func (PySem.W.fnOf x qual (dg st) (cQ st) (aw st) dV kV doc pm an cdv ct),osl⟩)
  (c:PySem.W.codeIn K cdv qual=true) (k:PySem.W.keepIn K (.ref f)=true):Io K x qual st f (PySem.W.fnOf x qual (dg st) (cQ st) (aw st) dV kV doc pm an cdv ct):=⟨⟨oc,od,dV,kV,doc,pm,an,cdv,ct,osl,rfl,l,c⟩,k⟩
theorem Io.ĉ {x qual:Str}{f c:Addr}{N ps:Ze}{k:Nat} (F:Io K x qual st f fd) (hc:fd.code=.ref c) (S:aI N ps (aw st)) (len:∀ vs H Q E,sp vs H Q E->⇑vs=⇑ps)
  (hbody:∀ (A:Around) (outer:List Env) (s:Zg) (H:Hp) (vs:List V) (Q:VK) (E:XK),fe k (A.deeper (envOfC qual (aw st) s.heap.objs.size f (.ref c)))->sp vs H Q E →
   ∃ t,á (vV (Á P w) P w K mg base N qual (aw st) f (.ref c) A outer s H E) (cQ st) t/\t { nx:=fun _ H'=>Q .non H',rt:=Q } (start N vs) H):bR P w K mg base (Á P w) (k+1) f fd ps sp:=by
 obtain⟨oc,od,dV,kV,doc,pm,an,cdv,ct,osl,rfl,lk,hcd⟩:=F.ex;have e:cdv=.ref c:=hc;subst e;exact Kz lk hcd S len fun A outer s H vs Q E hr hsp=>hbody A outer s H vs Q E hr hsp
end
structure Lc (P:Zh) (w:Zi) (K:Zf) (mg:Zk) (base:Heap) (CX:Ö) (C:Addr) (m:Str) (k:Nat) (ps:Ze) (sp:Sp):Prop where
 ex:∃ (f:Addr) (fd:FuncData),bR P w K mg base CX k f fd ps sp/\Meth K C m f/\Binds K fd ps [.none]
 cl:à K C
noncomputable def ē (sp:Sp):Sp:=fun vs H Q E=>sp (vs++[.non]) H Q E
theorem LC {sp:Sp}{vs:List V}{H:Hp}{Q:VK}{E:XK}:ē sp vs H Q E=sp (vs++[.non]) H Q E:=propext Iff.rfl
section
variable {X:Cx}{CX:Ö}{E:St->XK}
theorem Hf {pl:Sem Bool}{m:Str}{ps:Ze}{o e:Expr}{es:List Expr}{t:TA}{apos pos:Pos} (M:Lc X.prog X.w X.K X.mg X.base CX C m k ps sp) (hx:Passes CX X E) (hr:fe k X.A) (he:PE X o ta) (ha:PA X (e::es) t)
  (hs:dW (e::es)=true:=by ext)
  (ht:eval (.Call (.Attribute o m apos) (e::es) [] pos) X.env=(do
   let ov ←eval o X.env
   standAt apos.atName
   let (f,first) ←holding [ov] (getMethod ov m pl)
   callWith pos f first (backTo pos (starEach (e::es) X.env)) (backToKw pos (keywordEach [] X.env))):=by rfl) :
  PE X (.Call (.Attribute o m apos) (e::es) [] pos) (nO C m (ē sp) E ta t):=by
 obtain⟨f,fd,F,hm,hb⟩:=M.ex;intro Yp s σ H Q I h;refine CM (ta:=up ta) (t:=t) he.up M.cl hm F hr hb (.cons (show RelV .non .none from rfl) .nil) hx ha (b8 (bo hs).1) (du (bo hs).2) ht Yp s σ H Q I ⟨_,h,fun x H1 q=>?_⟩;cases x with
 | ref a =>obtain⟨dx,fs,h1,h2,h3⟩:=q;exact⟨a,dx,fs,rfl,h1,h2,h3⟩
 | _=>exact False.elim q
end
section
variable {X:Cx}{Yp:Zp}{σ:St}{H:Hp}{s:Zg}
noncomputable abbrev CF (q:Str) (params:Arguments) (body:Expr) (scope:Scope) (cl:List (Str×Addr)) (pm cd ctv:Value):Obj :=
 { cls:=.type "function",data:=.func (PySem.W.kla_fn "<lambda>" q params body scope cl pm cd ctv) }
theorem E4 {A:Around}{E:Zq}{Q:Zq}{P c:Addr}{params:Arguments}{body:Expr}{scope:Scope}{lpos:Pos}{cl:List (Str×Addr)} (I:Inv X Yp σ H s) (e:H P=some (qC q))
  (hcd:X.env.code=.ref c) (hC:PySem.W.codeHdIn X.K c P=true) (hq:X.env.qual++"<lambda>"=q) (hd:defaultsOf params X.env=([],[])) (hcl:Ü X.env.cells scope.names []=some cl)
  (k:∀ f c' ctv H' s',Inv X Yp σ H' s'->a9 H H'->H f=none->H' f=some (.frz (CF q params body scope cl ((X.mg "__name__").getD .none) (.ref c') ctv) (.own P))->qG H' P q c'->Q (.ref f) s') :
  wpAny (model X.prog X.w) A (eval (.Lambda params body scope lpos) X.env) Q E s:=by
 refine PySem.W.kla_eval hd ?_;rw[hq];have C:=PySem.W.codeHd_of_K I.Ñ hC;obtain⟨qs,g1,g2,g3⟩:=tab_of I e;have hg:=I.mod.glob.keeps I.bk;obtain⟨bm,ob,b1,b2,b3,b4,b5,b6⟩:=I.mod.bmn;have hgP:mainGlobals≠P:=fun z=>by obtain⟨o,es,ep,w1,w2,_⟩:=I.mod.glob;have:=(I.bs _ _ w1).2;rw[z,e] at this;cases this
 have hbP:bm≠P:=fun z=>by have:=(I.bs _ _ b3).2;rw[z,e] at this;cases this
 have hbG:bm≠mainGlobals:=fun z=>by obtain⟨o,es,ep,w1,w2,_⟩:=I.mod.glob;rw[z,w1] at b3;cases b3;rw[w2] at b6;cases b6
 have hb:s.heap.BuiltinsAt X.mg P:=⟨bm,ob,b1,b2,hbG,hbP,I.bk _ _ b3,b4,b5,b6⟩;have hcl':=j7 hcl;cases hf:codeAmong lpos qs.toList with
 | none =>refine PySem.W.kla_makeFunction (mg:=X.mg) hcl' I.ok.glob hg hcd C g1 g2 hf hgP hb fun c' ctv h' tk hx hge hlt hrec htb=>?_;obtain⟨c2,oc,vs,t,z1,z2,z3,z4⟩:=id hrec;cases z1;have I1:Inv X Yp σ (upd H c' (.frz oc (.own P))) { s with heap:=h',toks:=tk }:=I.tabled (ps:=qs) e (fun b o hb z=>hx b o hb z) hge htb (by simpa using TriplesOk_snoc _ _ _ _ g2) (fun pos x z=>As qs.toList g2 x (by simpa using z)) g1 z2 z3 z4;have hn:=I.hok.fresh hge;have kp:∀ b o,h'.get? b=some o->(h'.push (PySem.W.kla_obj "<lambda>" q params body scope cl ((X.mg "__name__").getD .none) c' ctv)).get? b=some o:=fun b o z=>aE _ z;have hf1:=I1.hok.fresh (av h'.objs.size);have hfH:H h'.objs.size=none:=I.hok.fresh (aM (ft hge hlt));refine k h'.objs.size c' ctv _ _ (I1.laid (a:=h'.objs.size) (o:=.frz (CF q params body scope cl ((X.mg "__name__").getD .none) (.ref c') ctv) (.own P)) (t':=tk) kp (av _) ⟨bz _ rfl,_,bz _ rfl⟩) ((cX hn).trans (cX hf1)) hfH aC ?_;exact qG.same ⟨oc,vs,t,aC,z3,z4⟩ (cX hf1)
 | some cv =>obtain⟨c',oc,vs,t,a1,a2,a3,a4,a5⟩:=g3 lpos cv hf;subst a1;refine PySem.W.kla_makeFunctionHit (mg:=X.mg) hcl' I.ok.glob hg hcd C g1 g2 hf hb fun ctv h' tk hx hsz=>?_;have kp:∀ b o,s.heap.get? b=some o->(h'.push { cls:=.type "function",data:=.func (PySem.W.kla_fn "<lambda>" q params body scope cl ((X.mg "__name__").getD .none) (.ref c') ctv) }).get? b=some o:=fun b o z=>aE _ (hx b o z);have hf1:=I.hok.fresh hsz;refine k h'.objs.size c' ctv _ _ (I.laid (a:=h'.objs.size) (o:=.frz (CF q params body scope cl ((X.mg "__name__").getD .none) (.ref c') ctv) (.own P)) (t':=tk) kp hsz ⟨bz _ rfl,_,bz _ rfl⟩) (cX hf1) hf1 aC ?_;exact qG.same ⟨oc,vs,t,a2,a4,a5⟩ (cX hf1)
noncomputable def rV (q:Str) (Pt:Addr) (H:Hp) (f:Addr):Prop:=∃ (pm ctv:Value) (c':Addr) (params:Arguments) (scope:Scope) (x:Str) (j:Nat) (p:Pos),
 H f=some (.frz (CF q params (.Constant (.bool false) j p) scope [] pm (.ref c') ctv) (.own Pt))/\qG H Pt q c' ∧
 (∀ u:Value,bindArgs (PySem.W.kla_fn "<lambda>" q params (.Constant (.bool false) j p) scope [] pm (.ref c') ctv) ⟨[u],[]⟩=pure [(x,u)]) ∧
 scope.isCoroutine=false/\scope.isGenerator=false/\scope.kind=.function/\(∀ y∈scope.names,y.2≠.cell)/\scope.names.lookup x=some .local
theorem rV.same {q:Str}{Pt f:Addr}{H H':Hp} (h:rV q Pt H f) (s:a9 H H'):rV q Pt H' f:=by obtain⟨pm,ctv,c',params,scope,x,j,p,h1,h2,h3⟩:=h;exact⟨pm,ctv,c',params,scope,x,j,p,s _ _ h1,h2.same s,h3⟩
theorem Fv {A:Around}{R:Zq}{E:Zq}{Pt f:Addr}{u:Value} (I:Inv X Yp σ H s) (hr:A.depth<recursionLimit) (B:rV q Pt H f) (k:∀ s',Inv X Yp σ H s'->R (.bool false) s') :
  wpAny (model X.prog X.w) A (call (.ref f) [u]) R E s:=by
 obtain⟨pm,ctv,c',params,scope,x,j,p,hf,hc,hbind,hco,hgen,hk,hcell,hx⟩:=B;have hf':=(I.hok f _ hf).1;refine i4 (PySem.W.kla_callFunE hr hf' rfl hco hgen rfl (hc.rec I) ?_);rw[hbind];refine aq (wpAny_newFunctionEnv hcell (fun y hy=>by rw[b9.mp hy];exact hx) (fun h₁ hns hsb=>⟨(I.nolimit).fresh _ hsb,?_⟩) hk);show codeAny _ _ (.expr _ (PySem.W.envX q scope s.heap.objs.size f (.ref c') [])) _ _;have k1:∀ b o,s.heap.get? b=some o->h₁.get? b=some o:=fun b o z=>hsb.extBut b o (bh (aH z)) (aE _ z);have I1:Inv X Yp σ H { s with heap:=h₁,toks:=s.toks+1 }:=I.kept (t':=s.toks+1) k1;refine PySem.W.kla_codeExpr ?_;exact Constant_bool (k _ I1)
end
noncomputable def KQ (q:Str) (Pt:Addr):TE:=fun _ H Q=>H Pt=some (qC q)/\∀ f H',H f=none->a9 H H'->rV q Pt H' f->Q (.ref f) H'
theorem II {q:Str}{Pt:Addr}{σ:St}{H:Hp}{Q:VK}:KQ q Pt σ H Q=(H Pt=some (qC q)/\∀ f H',H f=none->a9 H H'->rV q Pt H' f->Q (.ref f) H'):=propext Iff.rfl
noncomputable def HS (q:Str) (Pt:Addr) (tv:TE) (t:TA):TE:=fun σ H Q=>tv σ H fun x H1=>∃ f,x=.ref f/\rV q Pt H1 f/\t σ H1 fun vs H2=>rV q Pt H2 f/\⇑vs=1/\Q (.bl false) H2
theorem Fg {q:Str}{Pt:Addr}{tv:TE}{t:TA}{σ:St}{H:Hp}{Q:VK}:HS q Pt tv t σ H Q=tv σ H fun x H1=>∃ f,x=.ref f/\rV q Pt H1 f/\t σ H1 fun vs H2=>rV q Pt H2 f/\⇑vs=1/\Q (.bl false) H2:=propext Iff.rfl
section
variable {X:Cx}
theorem JI {Pt c:Addr}{q x:Str}{params:Arguments}{j:Nat}{p lpos:Pos} (hcd:X.env.code=.ref c) (hC:PySem.W.codeHdIn X.K c Pt=true) (hq:X.env.qual++"<lambda>"=q) (hcl:Ü X.env.cells scope.names []=some [])
  (hx:scope.names.lookup x=some .local)
  (hbind:∀ (pm ctv:Value) (c':Addr) (u:Value),bindArgs (PySem.W.kla_fn "<lambda>" q params (.Constant (.bool false) j p) scope [] pm (.ref c') ctv) ⟨[u],[]⟩=pure [(x,u)])
  (hd:defaultsOf params X.env=([],[]):=by rfl)
  (hco:scope.isCoroutine=false:=by rfl) (hgen:scope.isGenerator=false:=by rfl) (hk:scope.kind=.function:=by rfl) (hcell:∀ y∈scope.names,y.2≠.cell:=by nofun) :
  PE X (.Lambda params (.Constant (.bool false) j p) scope lpos) (KQ q Pt):=by
 intro Yp s σ H Q I h;obtain⟨h1,h2⟩:=h;exact E4 I h1 hcd hC hq hd hcl fun f c' ctv H' s' I' sm hn hf hc=>⟨.ref f,H',I',rfl,h2 f H' hn sm ⟨_,ctv,c',params,scope,x,j,p,hf,hc,fun u=>hbind _ _ _ u,hco,hgen,hk,hcell,hx⟩⟩
theorem vy {q x:Str}{tv:TE}{t:TA}{p pos:Pos} (hv:PE X (.Name x p) tv) (hr:fe k X.A) (ha:PA X [e] t) (hs:dW [e]=true:=by ext):PE X (.Call (.Name x p) [e] [] pos) (HS q Pt tv t):=by
 intro Yp s σ H Q I h;refine lW (Â (hv Yp s σ H _ I h) fun u s1 ⟨v,H1,I1,r,f,ev,B1,q1⟩=>?_);subst ev;cases r;have fnA:∀ {H:Hp}{s:Zg},Inv X Yp σ H s->rV q Pt H f->PySem.W.FnAt f s.heap:=fun I B=>by obtain⟨pm,ctv,c',params,scope,x,j,p,hf,_⟩:=B;exact⟨_,_,_,_,(I.hok f _ hf).1⟩
 refine PySem.W.callWith_F (fnA I1 B1) (Â (ha pos Yp s1 σ H1 _ I1 q1) fun us s2 ⟨vs,H2,I2,r2,B2,l2,q2⟩=>⟨fnA I2 B2,?_⟩) (b8 (bo hs).1) (du (bo hs).2);obtain⟨u,rfl⟩:∃ u,us=[u]:=by have:=⇑r2;rw[l2] at this;exact List.length_eq_one_iff.mp this.symm
 exact Fv I2 hr.depth B2 fun s3 I3=>⟨.bl false,H2,I3,rfl,q2⟩
end
noncomputable def Hu:List V->Hp->VK->Prop:=fun vs H Q=>match vs with
 | [.ref a]=>∃ kvs,Rd H a (.dK kvs)/\Q (.int ⇑kvs) H
 | _=>False
theorem FG {a:Addr}{H:Hp}{Q:VK}:Hu [.ref a] H Q=(∃ kvs,Rd H a (.dK kvs)/\Q (.int ⇑kvs) H):=propext Iff.rfl
theorem D8 :da X (.builtin "len") Hu:=by
 intro Yp s σ H xs us Q I r h;rcases xs with _ | ⟨x0,t⟩
 ·exact h.elim
 cases x0<;>try exact h.elim
 cases t<;>try exact h.elim
 next a =>obtain⟨kvs,ha,q⟩:=h;obtain⟨u,rfl,r2⟩:=vals1 r;cases r2;exact Nc I ha fun t s' I'=>⟨.int ⇑kvs,H,I',⟨t,rfl⟩,q⟩
noncomputable def HB:List V->Hp->VK->Prop:=fun vs H Q=>match vs with
 | [.ref a]=>∃ kvs:List (Int×V),Rd H a (.dK (kvs.map fun q=>(.inl q.1,q.2)))/\⇑kvs<64/\∀ ns:Zb,ns.Perm (kvs.map (·.1))->ns.Pairwise (·<=·)->nw H (.lst (ns.map V.int)) Q
 | _=>False
theorem Eg {a:Addr}{H:Hp}{Q:VK}:HB [.ref a] H Q=(∃ kvs:List (Int×V),Rd H a (.dK (kvs.map fun q=>(.inl q.1,q.2)))/\⇑kvs<64/\∀ ns:Zb,ns.Perm (kvs.map (·.1))->ns.Pairwise (·<=·)->nw H (.lst (ns.map V.int)) Q):=propext Iff.rfl
theorem ze:∀ {vs:Zc}{ns:Zb},⇑vs=⇑ns->(∀ (i:Nat) v,vs[i]?=some v->∃ n t,ns[i]?=some n/\v=.int n t)->IntsAre vs ns
 | [],[],_,_=>.nil
 | v::vs,n::ns,hl,h=>by obtain⟨m,t,e,rfl⟩:=h 0 v rfl;cases e;exact .cons _ t (ze (by simpa using hl) fun i v e=>h (i+1) v (by simpa using e))
theorem rA:∀ {ns:Zb}{us:Zc},IntsAre us ns->Vals (ns.map V.int) us
 | _,_,.nil=>.nil
 | _,_,.cons z t h=>.cons ⟨t,rfl⟩ (rA h)
section
variable {prog:Zh}{w:Zi}{A:Around}{E:Zq}{s:Zg}
theorem HN {T:String}{r d:Addr}{n:Nat}{Pv:Nat->Value->Prop}{OK:Heap->Prop}{Q:Zq} (K:PySem.W.KdlSrc prog w T r d n Pv OK) (hh:A.handled=none) (hok:OK s.heap) (hn:n<64) (hl:⇑ns=n)
  (hv:∀ (i:Nat) v,i<n->Pv i v->∃ m t,ns[i]?=some m/\v=.int m t)
  (k:∀ (h1 h':Heap) (tk:Nat) (out:Array Value) (ms:Zb) (c:Nat),(∀ b o,s.heap.get? b=some o->h1.get? b=some o)->(∀ b o,h1.get? b=some o->h'.get? b=some o)->h'.get? h1.objs.size=some (seqObj "list" out c)->IntsAre out.toList ms->ms.Perm ns->ms.Pairwise (·<=·)->Q (.ref h1.objs.size) { s with heap:=h',toks:=tk }) :
  wpAny (model prog w) A (call (.builtin "sorted") [.ref r]) Q E s:=by
 refine Calls.call_function_entry kind_sorted plain_sorted entry_sorted (args_sorted1 _) ?_;unfold Builtin.«sorted»;have hz:n<=sizeLine:=aM (bH hn (by rw[gi];left));refine aa (m:=checkCount "sorted" 1 1 _) (aq (aa (PySem.W.kdu_collect (A:=A.in1) K hh hok hz fun h1 tk acc k1 hacc=>?_)));have la:⇑acc.toList=n:=by rw[cD];exact hacc.1
 have hI:IntsAre acc.toList ns:=ze (by rw[la,hl]) fun i v e=>hv i v (by rw[←la];exact (br.mp e).1) (hacc.2 i v (by rw[←eI];exact e));generalize acc.toList=vs at hI la;refine aa (wpAny_newList ?_ (by rw[la];exact hz));have gL:(h1.push (seqObj "list" vs.toArray 0)).get? h1.objs.size=some (seqObj "list" vs.toArray 0):=bz _ rfl;refine aa (cB (i5 slot_list_sort ⟨_,gL,rfl⟩ entry_list_sort (list_sort_tree gL hI ⋯ fun out ms b1 b2 b3=>⟨_,rfl,aq ⟨_,rfl,?_⟩⟩) (args_list_sort _)));obtain⟨e1,g1⟩:∃ e1,((h1.push (seqObj "list" vs.toArray 0)).update h1.objs.size (Obj.mapSeq fun _=>#[])).get? h1.objs.size=some (seqObj "list" #[] e1):=⟨_,ke gL fun _=>#[]⟩;have g2:((((h1.push (seqObj "list" vs.toArray 0)).update h1.objs.size (Obj.mapSeq fun _=>#[])).push (seqObj "tuple" vs.toArray 0)).push (seqObj "list" #[] 0)).get? h1.objs.size=some (seqObj "list" #[] e1):=aE _ (aE _ g1);refine show Q (.ref h1.objs.size) { s with heap:=sortedHeap (h1.push (seqObj "list" vs.toArray 0)) h1.objs.size vs out,toks:=tk } from ?_
 obtain⟨c3,g3⟩:∃ c3,(sortedHeap (h1.push (seqObj "list" vs.toArray 0)) h1.objs.size vs out).get? h1.objs.size=some (seqObj "list" out c3):=⟨_,ke g2 fun _=>out⟩;refine k h1 _ tk out ms c3 k1 (fun b o z=>?_) g3 b1 b2 b3;have hb:h1.objs.size≠b:=gB (aH z);exact (dy _ _ hb).trans (aE _ (aE _ ((dy _ _ hb).trans (aE _ z))))
end
theorem A0 (hc:X.calm=true):da X (.builtin "sorted") HB:=by
 intro Yp s σ H xs us Q I r h;rcases xs with _ | ⟨x0,t⟩
 ·exact h.elim
 cases x0<;>try exact h.elim
 cases t<;>try exact h.elim
 next a =>
  obtain⟨kvs,ha,h64,k⟩:=h;obtain⟨u,rfl,r2⟩:=vals1 r;cases r2;obtain⟨z,hd,vs,rel,dd⟩:=tj I.hok ha;obtain⟨ep,hat⟩:=dd.dictAt;have lv:⇑(kvs.map fun q=>((.inl q.1,q.2):Key×V))=⇑vs:=Paired.length rel;rw[af] at lv;refine HN (ns:=kvs.map (·.1)) (PySem.W.kdl_dict (knd:=bj X.prog X.w) (kvs:=vs) (ep:=ep) hd) (I.ok.hd hc) hat ⋯ (by rw[af];left) (fun i v hi hP=>?_) fun h1 h' tk out ms c k1 k2 hg hS hp hs=>?_
  ·obtain⟨kk,x,e,hk⟩:=hP;have e1:kvs[i]?=some (kvs[i]'⋯):=aD _;have e2:(kvs.map fun q=>((.inl q.1,q.2):Key×V))[i]?=some (.inl (kvs[i]'⋯).1,(kvs[i]'⋯).2):=by rw[aS,e1];rfl
   obtain⟨y,ey,f1,f2⟩:=iC rel e2;rw[e] at ey;cases ey;have f1':kk=.inl (kvs[i]'⋯).1:=f1.symm;subst f1';obtain⟨t,et⟩:∃ t,v=.int (kvs[i]'⋯).1 t:=by
    have hk':kr (Sum.inl (kvs[i]'⋯).1) v=true:=hk;rcases cP hk' with ⟨n,t,e3,e4⟩ | ⟨y,t,e3,e4⟩
    ·rw[Sum.inl.inj e3];exact⟨t,e4⟩
    ·cases e3
   exact⟨_,t,by rw[aS,e1];rfl,et⟩
  ·have I1:Inv X Yp σ H { s with heap:=h1,toks:=tk }:=I.kept (t':=tk) k1;have hn:=I1.hok.fresh (av h1.objs.size);have lw:=hp.length_eq;rw[af] at lw;exact⟨.ref h1.objs.size,upd H h1.objs.size (.lst (ms.map V.int)),I1.laid (t':=tk) (o:=.lst (ms.map V.int)) k2 (av _) ⟨by rw[af,lw];exact aM (bH h64 (by rw[gi];left)),out.toList,c,rA hS,by rw[uE];exact hg⟩,rfl,k ms hp hs _ _ hn (cX hn) aC⟩
end
section
theorem FT {a b:Addr}{xs ys:List V}{g:TG}{tb:TS}{D:Ends} (Pv:Nat->St->Hp->Prop) (hl:⇑ys=⇑xs) (h0:Pv 0 σ H) (hx:∀ i σ H,Pv i σ H->Æ K H a xs/\Æ K H b ys)
  (hs:∀ i x y p σ H,xs[i]?=some x->ys[i]?=some y->H p=none->Pv i σ H->∀ N:St->Hp->Prop,(∀ σ' H',Pv (i+1) σ' H'->N σ' H')->g (.ref p) σ (upd H p (.tup [x,y])) fun σ2 H2=>tb { D with nx:=N,ct:=N,bk:=D.nx } σ2 H2) (hd:∀ σ H,Pv ⇑xs σ H->D.nx σ H):j4 g tb D (ü K a b) σ H:=by
 refine⟨fun i m σ H=>i+m=⇑xs/\Pv i σ H,⟨⇑xs,⋯,h0⟩,fun i m σ H hw=>?_⟩;obtain⟨e,hp⟩:=hw;obtain⟨hxa,hyb⟩:=hx i σ H hp
 by_cases hm:m=0
 ·subst hm;have:i=⇑xs:=⋯
  subst this;exact .inl ⟨⟨xs,ys,hxa,hyb,.inl (av _)⟩,hd σ H hp⟩
 ·refine .inr ⟨⟨xs,ys,xs[i]'⋯,ys[i]'⋯,hxa,hyb,aD _,aD _⟩,Pv (i+1),fun σ' H' n=>⟨m-1,⋯,⋯,n⟩,fun v H' hyl=>?_⟩;obtain⟨x,y,p,hx',hy',rfl,hp',rfl⟩:=hyl;exact hs i x y p σ H (hx' xs hxa) (hy' ys hyb) hp' hp _ fun _ _ h=>h
section
variable {prog:Zh}{w:Zi}{A:Around}{E:Zq}{s:Zg}
end
section
variable {X:Cx}
end
noncomputable def K9:R2:=fun x y H Q=>match x,y with
 | .str z,.int n=>∃ c:Nat,z=tx [c]/\1<=n/\n<=1000/\Q (.str (tx (List.replicate n.toNat c))) H
 | _,_=>False
theorem FH {z:Str}{n:Int}{H:Hp}{Q:VK}:K9 (.str z) (.int n) H Q=(∃ c:Nat,z=tx [c]/\1<=n/\n<=1000/\Q (.str (tx (List.replicate n.toNat c))) H):=propext Iff.rfl
theorem zQ (c:Nat):∀ (n:Nat) (a:Array Nat),(List.replicate n #[c]).foldl (·++·) a=a++(List.replicate n c).toArray
 | 0,a=>by simp
 | n+1,a=>by rw[gz,og,zQ c n,gz];apply Array.ext';simp
theorem J9 :Ë X (binaryOp .Mult) K9:=by
 intro Yp s σ H x y v u Q I rx ry h
 match x,y,h with
 | .str z,.int n,h =>
  obtain⟨c,rfl,h1,h2,q⟩:=h;obtain⟨t,rfl⟩:=rx;obtain⟨t2,rfl⟩:=ry;have e:(⟨(List.replicate n.toNat (tx [c]).cps).foldl (·++·) #[]⟩:Str)=tx (List.replicate n.toNat c):=by show (⟨(List.replicate n.toNat #[c]).foldl (·++·) #[]⟩:Str)=_;rw[zQ];simp [tx]
  have l1:⇑(tx [c])=1:=rfl;have dv:(1:Int)<=(2^63-1)/n:=(Int.le_ediv_iff_mul_le ⋯).mpr ⋯;refine PySem.P.mul_str (by rw[ay ⋯,ay ⋯];rfl) (fun _ _=>by rw[l1];show ¬ (1:Int)>_;left) (fun _ _=>by rw[l1,lR];unfold Builtin.Str.tooLong;rw[gi];exact ay ⋯) ?_;rw[ag ⋯];split
  ·rename_i hn
   have hn1:n=1:=by
    rw[l1,oW] at hn;rcases hn with hn | hn
    ·simpa using hn
    ·cases hn
   subst hn1;exact⟨.str (tx [c]),H,I,⟨t,rfl⟩,q⟩
  ·rw[e];exact⟨by rw[bS,jV,gi];left,⟨.str _,H,I.tok _,⟨_,rfl⟩,q⟩⟩
end
section
end
section
section
variable {prog:Zh}{w:Zi}{A:Around}{E:Zq}{h:Heap}{g:Array GenState}{d:Drawn}{t:Nat}{os:OsState}
variable {nm q:Str}{C N:Addr}{bs bm bmB:Zc}{hdct:Bool}{sn:Ze}{sub:Zc}{ab:Bool}{col:Option Bool}{dd:Option Addr}{k0 k1 k2 k3 k5:Option Value}{B newId initId:String}
noncomputable abbrev gQ (C t:Addr) (dx:Option Addr):Obj:={ cls:=.ref C,dict:=dx,data:=.fields #[.ref t,.none,.none,.none,.bool false,.none] }
noncomputable abbrev qI (vs:Zc):Obj:={ cls:=.type "tuple",data:=.seq vs.toArray }
theorem JY (F:ExcBaseFacts B newId initId bmB) (T:OwnTail h bmB bm) {mN:Zk}{rest:Zc}{fI:Addr}{oI:Obj}{Q:Fin->Zg->Prop}
  (hC:h.get? C=some (excClassObj nm q C N bs bm hdct sn sub ab col dd k0 k1 k2 k3 k5 newId)) (hn:h.Ns N mN) (hi:mN "__init__"=some (.ref fI)) (hfI:h.get? fI=some oI) (hfc:oI.cls=.type "function") (hz:⇑rest<=sizeLine)
  (k:wpAny (model prog w) A (call (.ref fI) (.ref (h.objs.size+1)::rest)) (fun r s'=>r=.none/\Q (.done (.ret (.ref (h.objs.size+1)))) s') E ⟨(h.push (qI rest)).push (gQ C h.objs.size none),g,d,t,os⟩) :
  wpAny (model prog w) A (Builtin.«type.__call__» ⟨.ref C::rest,[]⟩) Q E ⟨h,g,d,t,os⟩:=by
 have up:∀ b o,h.get? b=some o->((h.push (qI rest)).push (gQ C h.objs.size none)).get? b=some o:=fun b o e=>aE _ (aE _ e);have hC':=up _ _ hC;have he:((h.push (qI rest)).push (gQ C h.objs.size none)).get? (h.objs.size+1)=some (gQ C h.objs.size none):=by heap_get
 have own:(Value.ref C::bm).contains (.ref C)=true:=by simp
 repeat (first | with_reducible refine oG hC ?_ | with_reducible refine wpAny_madeBy_exc hC ?_ | wp_step)
 refine codeAny_call_builtin_code (Code.quiet_builtin _ F.quiet) (wpAny_check_new_subT F T hC (codeAny_exc_new_subT F T hC ?_ hz));show wpAny _ _ _ _ _ _;unfold isInstance
 repeat (first | with_reducible refine oG he ?_ | (with_reducible refine wpAny_isSubtype_exc hC' ?_;rw[own]) | wp_step)
 show wpAny _ _ (typeLookup (.ref C) _) _ _ _;refine wpAny_typeLookup_tail hC' (hn.keeps up) (T.keeps up) F.mroIs F.init.lookup ?_;rw[hi];refine cB (aa ?_);unfold bindSpecial;refine aa (wpAny_typeOf (T:="function") ⟨_,up _ _ hfI,hfc⟩ ?_);rw[ai (by decide)];refine aq (aa (bO k (fun r s' z=>?_) fun _ _ z=>z));obtain⟨rfl,z⟩:=z
 wp_walk
 exact z
theorem JX (F:ExcBaseFacts B newId initId bmB) (T:OwnTail h bmB bm) {mN:Zk}{rest:Zc}{fI:Addr}{oI:Obj}{Q:Zq}
  (hC:h.get? C=some (excClassObj nm q C N bs bm hdct sn sub ab col dd k0 k1 k2 k3 k5 newId)) (hn:h.Ns N mN) (hi:mN "__init__"=some (.ref fI)) (hfI:h.get? fI=some oI) (hfc:oI.cls=.type "function") (hz:⇑rest<=sizeLine)
  (k:wpAny (model prog w) (A.under (.builtin "type.__call__" ⟨.ref C::rest,[]⟩)) (call (.ref fI) (.ref (h.objs.size+1)::rest)) (fun r s'=>r=.none/\Q (.ref (h.objs.size+1)) s') E ⟨(h.push (qI rest)).push (gQ C h.objs.size none),g,d,t,os⟩) :
  wpAny (model prog w) A (call (.ref C) rest) Q E ⟨h,g,d,t,os⟩:=by
 have f1:=tc_lookup;have f2:=tc_bind (.ref C);have ty:(⟨h,g,d,t,os⟩:Zg).TypeIs (.ref C) "type":=⟨_,hC,rfl⟩;refine i4 (codeAny_of_tree ?_);show wpAny _ _ (callAny (.ref C) _) _ _ _
 repeat (any_goals (first | assumption | with_reducible refine oG hC ?_ | wp_step))
 exact⟨rfl,codeAny_call_builtin_at (Code.quiet_builtin _ (by nofun)) entry_typeCall (wpAny_check_type_call_sub hC (JY F T hC hn hi hfI hfc hz k))⟩
theorem HF {M:Model}{env:Env}{s:Zg}{x:Sem Value}{Q:Flow->Zg->Prop} (hbase:bm.contains (.type "BaseException")=true) (hh:A.handled=none)
  (k:wpAny M A x (fun v s₁=>∃ e t dx,v=.ref e/\s₁.heap.get? C=some (excClassObj nm q C N bs bm hdct sn sub ab col dd k0 k1 k2 k3 k5 newId)/\s₁.heap.get? e=some (gQ C t dx)/\E (.ref e) s₁) E s) :
  wpAny M A (raiseStmt env (some x) none) Q E s:=by
 have has:(Value.ref C::bm).contains (.type "BaseException")=true:=by rw[List.contains_cons,hbase,Bool.or_true]
 unfold raiseStmt;refine aa (bO k (fun v s₁ z=>?_) fun _ _ z=>z);obtain⟨e,t,dx,rfl,hC,he,hE⟩:=z;obtain⟨hp,g,d,tk,os⟩:=s₁
 repeat (first | with_reducible refine oG he ?_ | with_reducible refine oG hC ?_ | (with_reducible refine wpAny_isSubtype_exc hC ?_;rw[has]) | wp_step)
 exact wpAny_raiseNew_none hh hE
end
noncomputable def pG:Zc->Bool
 | .ref _::r=>pG r
 | l=>l==Zv
theorem AX:∀ (l:Zc),pG l=true->l.contains (.type "object")=true/\∀ self,refuseLoop self "__setattr__" l=pure ():=by
 intro l
 induction l with
 | nil=>intro e;cases (eM.mp e:([]:Zc)=_)
 | cons v r ih =>
  intro e;unfold pG at e;split at e
  ·rename_i c r' z
   cases z
   obtain⟨h1,h2⟩:=ih e;refine⟨by rw[List.contains_cons,h1,Bool.or_true],fun self=>?_⟩;rw[refuseLoop_ref];exact h2 self
  ·have e':=eM.mp e;rw[e'];exact⟨by nofun,fun self=>by ext⟩
section
variable {prog:Zh}{w:Zi}{A:Around}{E:Zq}{s:Zg}{K:Zf}{x C t:Addr}{name:Str}{v:Value}
theorem M8 {Q:Unit->Zg->Prop} (X:K.In s.heap) (hx:s.heap.get? x=some (gQ C t none)) (hs:PySem.W.findIn K (.ref C) "__setattr__"=some (some (.builtin "object.__setattr__")))
  (hp:((PySem.W.clsIn K C).any fun cd=>pG cd.mro)=true) (ht:PySem.W.takerIn K C name=some none) (hh:PySem.W.hasDictIn K C=true)
  (k:∀ h',h'.get? x=some (gQ C t (some s.heap.objs.size))->h'.Ns1 s.heap.objs.size (fun y=>if y=name then some v else none)->(∀ b o,b≠x->s.heap.get? b=some o->h'.get? b=some o)->Q () { s with heap:=h',toks:=s.toks+2 }) :
  wpAny (model prog w) A (setAttr (.ref x) name v) Q E s:=by
 have J:PySem.W.InstAt s.heap x (gQ C t none) C none:=⟨hx,rfl,rfl,trivial⟩;refine PySem.W.set_plain X J hs ?_;have SF:=PySem.F.store_object;obtain⟨cd,hc,ho⟩:=PySem.W.any_some hp;obtain⟨o1,o2⟩:=AX _ ho;have ne:cd.mro.isEmpty=false:=by cases q:cd.mro with | nil=>rw[q] at o1;cases o1 | cons _ _=>rfl
 have sub:PySem.W.Looks (model prog w) s.heap (isInstance (.ref x) (.type "object")) true:=J.type.andThen (PySem.W.looks_mroIn X (by unfold PySem.W.mroIn;rw[hc,Option.bind_some,ag (by rw[ne];decide),o1]));refine oC SF.slot.plain SF.entry (@PySem.W.check_slot (model prog w) _ _ { s with toks:=s.toks+1 } "object.__setattr__" "object" "__setattr__" (.ref x) [.str name s.toks,v] [] _ SF.kind SF.split sub (SF.args (.ref x) (.str name s.toks) v) ?_);obtain⟨attr,ha,hr⟩:=Option.bind_eq_some_iff.mp ht;have hm:PySem.W.Looks (model prog w) s.heap (mroOf (.ref C)) cd.mro:=(PySem.W.looks_clsIn X hc).andThen .now;have L3:PySem.W.Looks (model prog w) s.heap (Builtin.ObjectAttr.storeTaker? attr) none:=by
  cases attr with
  | none=>exact .now
  | some a =>
   obtain⟨b,hb,e⟩:=eh.mp hr;refine (PySem.W.looks_takesIn X hb).andThen ?_;cases b with
   | false=>exact .now
   | true=>cases e
 rw[PySem.W.osa_eq,refuse_eq];refine aa (aa (J.type.here (s:={ s with toks:=s.toks+1 }) (aa (hm.here (s:={ s with toks:=s.toks+1 }) ?_))));rw[o2];refine aq (aa (J.type.here (s:={ s with toks:=s.toks+1 }) (aa ((rT X ha).here (s:={ s with toks:=s.toks+1 }) (aa (L3.here (s:={ s with toks:=s.toks+1 }) ?_))))));obtain⟨cd',hc',hd'⟩:=PySem.W.any_some hh;refine aa (aq (aa (aa (wpAny_loadPart (s:={ s with toks:=s.toks+1 }) hx (aa (PySem.W.Looks.here (s:={ s with toks:=s.toks+1 }) (PySem.W.looks_clsIn X hc') ?_))))));rw[hd'];rw[ag (by decide)];refine aa (m:=alloc PySem.W.emptyDict) (wpAny_alloc ?_);have e0:(s.heap.push PySem.W.emptyDict).get? x=some (gQ C t none):=aE _ hx;have ed:(s.heap.push PySem.W.emptyDict).get? s.heap.objs.size=some PySem.W.emptyDict:=bz s.heap rfl;have nx:x≠s.heap.objs.size:=bh (aH hx);refine aa (wpAny_update (s:=⟨s.heap.push PySem.W.emptyDict,s.gens,s.drawn,s.toks+1,s.os⟩) e0 ?_);have upx:((s.heap.push PySem.W.emptyDict).update x fun o=>{ o with dict:=some s.heap.objs.size }).get? x=some (gQ C t (some s.heap.objs.size)):=fV _ e0 rfl;have upo:∀ b o,b≠x->(s.heap.push PySem.W.emptyDict).get? b=some o->((s.heap.push PySem.W.emptyDict).update x fun o=>{ o with dict:=some s.heap.objs.size }).get? b=some o:=fun b o hb q=>(dy _ _ (b7 hb)).trans q;refine aq (a:=some s.heap.objs.size) (aa (aq (aa ?_)));have n0:((s.heap.push PySem.W.emptyDict).update x fun o=>{ o with dict:=some s.heap.objs.size }).Ns s.heap.objs.size (fun _=>none):=⟨PySem.W.emptyDict,#[],_,upo _ _ (b7 nx) ed,rfl,(fun e he=>absurd he (by simp)),fun _=>rfl⟩;refine wpAny_nsSet1 (s:=⟨(s.heap.push PySem.W.emptyDict).update x fun o=>{ o with dict:=some s.heap.objs.size },s.gens,s.drawn,s.toks+1,s.os⟩) (Heap.Ns1.of_empty n0) fun h' hn2 hs2=>?_;obtain⟨oD,esD,epD,hoD,hdD,hcD⟩:=hn2.count (ns:=[name]) (fun y hy=>by
  by_cases z:y=name
  ·rw[z];simp
  ·exact absurd (ag z) hy)
 refine aa (wpAny_lookBehind hoD (by rw[hdD];exact pastItsLine_dict (aX hcD (by rw[bf];exact Nat.succ_le_succ (bc _)))) ?_);exact aq (k _ ((hs2.2 _ nx).trans upx) hn2 fun b o hb q=>(hs2.2 _ (bh (aH q))).trans (upo b o hb (aE _ q)))
end
noncomputable abbrev Je:Zc:=Zv
theorem Ma {N:Addr}{m:Zk} (X:K.In h) (G:h.Ns N m) (q:PySem.W.nsIn K N x=some (some v)):m x=some v:=by
 obtain⟨ob,ents,pp,h1,h2,_,h3⟩:=G;unfold PySem.W.nsIn at q;split at q;next c d l n sl e1 =>
  have e2:=(X _ _ e1).symm.trans h1;cases e2;cases h2;split at q;next u e3 =>
   cases q
   rw[←h3];unfold nsFind findBy;rw[←Array.find?_toList,e3];rfl
  next=>split at q<;>cases q
 next=>cases q
structure Dt (K:Zf) (C f:Addr):Prop where
 ex:∃ nm q N bs bm hdct sn sub ab col dd k0 k1 k2 k3 k5,K.lookup C=some (excClassObj nm q C N bs bm hdct sn sub ab col dd k0 k1 k2 k3 k5 "ValueError.__new__")/\PySem.W.nsOkIn K N=true/\PySem.W.nsIn K N "__init__"=some (some (.ref f))/\PySem.W.tailIn K Je bm=true
 fn:PySem.W.isFn K (.ref f)=true
 kp:PySem.W.keepIn K (.ref C)=true
theorem Dt.at {C f:Addr} (O:Dt K C f) (X:K.In h) :
  ∃ nm q N bs bm hdct sn sub ab col dd k0 k1 k2 k3 k5 mN oI,h.get? C=some (excClassObj nm q C N bs bm hdct sn sub ab col dd k0 k1 k2 k3 k5 "ValueError.__new__")/\h.Ns N mN/\mN "__init__"=some (.ref f)/\OwnTail h Je bm/\h.get? f=some oI/\oI.cls=.type "function":=by
 obtain⟨nm,q,N,bs,bm,hdct,sn,sub,ab,col,dd,k0,k1,k2,k3,k5,h1,h2,h3,h4⟩:=O.ex;have hns:h.Ns N _:=.of_isNs (PySem.W.isNs_of_in X h2);have hf:PySem.W.typeIn K (.ref f)=some (.type "function"):=eM.mp O.fn;have:∃ oI,h.get? f=some oI/\oI.cls=.type "function":=by have hf':(K.lookup f).map (fun o=>o.cls)=some (.type "function"):=hf;obtain⟨o,q1,q2⟩:=eh.mp hf';exact⟨o,X _ _ q1,q2⟩
 obtain⟨oI,i1,i2⟩:=this;exact⟨nm,q,N,bs,bm,hdct,sn,sub,ab,col,dd,k0,k1,k2,k3,k5,_,oI,X _ _ h1,hns,Ma X hns h3,PySem.W.tail_of_in X h4,i1,i2⟩
noncomputable def Ø (e C:Addr) (dx:Option Addr):HO:=.ext fun h=>∃ t,h.get? e=some (gQ C t dx)
theorem Cf {e C t:Addr}{dx:Option Addr} (q:h.get? e=some (gQ C t dx)):cj P w H h e (Ø e C dx):=⟨⟨t,q⟩,⟨_,q⟩,fun _ _ ⟨t,q⟩ k=>⟨t,k _ q⟩⟩
noncomputable def Ô (e:Addr) (H:Hp):Hp:=fun b=>if b=e then none else H b
theorem qM {e:Addr}:Ô e H e=none:=by unfold Ô;rw[ai rfl]
theorem gr {e b:Addr} (h:b≠e):Ô e H b=H b:=by unfold Ô;rw[ag h]
structure Fd (P:Zh) (w:Zi) (K:Zf) (mg:Zk) (base:Heap) (CX:Ö) (C:Addr) (x:Str) (k:Nat) (ps:Ze) (sp:Sp):Prop where
 ex:∃ (f:Addr) (fd:FuncData),bR P w K mg base CX k f fd ps sp/\Dt K C f/\Binds K fd ps []
 mg:mg x=some (.ref C)
section
variable {X:Cx}{Yp:Zp}{σ:St}{H:Hp}{s:Zg}
theorem Inv.Ô {e:Addr}{φ:Heap->Prop} (I:Inv X Yp σ H s) (h0:X.s₀.heap.objs.size<=e) (he:H e=some (.ext φ)):Inv X Yp σ (L2.Ô e H) s:=by
 have ne:∀ b u,X.s₀.heap.get? b=some u->b≠e:=fun b u q z=>absurd (aH q) (by rw[z];exact Nat.not_lt.mpr h0);have no:∀ b,H b=none->L2.Ô e H b=none:=fun b q=>by unfold L2.Ô;split;rfl;exact q
 refine⟨I.ok,I.os,I.bare,⟨I.base.keep,I.base.slot,fun b o q n hx=>no b (I.base.free b o q n hx),I.base.there,fun b xs q=>?_,fun b ob u q=>?_,fun b ps q=>?_⟩,I.loc,I.cell,no _ I.free,fun x c q=>no _ (I.freeC x c q),fun p hp=>?_,fun b u q=>?_,I.len⟩
 ·have z:=I.base.tups b xs q;rw[gr (fun y=>by rw[y,he] at z;cases z)];exact z
 ·have z:=I.base.frzs b ob u q;rw[gr (fun y=>by rw[y,he] at z;cases z)];exact z
 ·obtain⟨m,z⟩:=I.base.tbls b ps q;exact⟨m,by rw[gr (fun y=>by rw[y,he] at z;cases z)];exact z⟩
 ·obtain⟨q1,q2,q3⟩:=I.pin p hp;exact⟨q1,no _ q2,q3⟩
 ·have hb:b≠e:=fun z=>by rw[z,qM] at q;cases q
  rw[gr hb] at q;refine (I.hok b u q).mD (fun _ _ _ z=>z) (fun c z=>?_) (fun c xs z=>?_) fun c ob u' z=>?_
  ·rw[gr (fun y=>by rw[y,he] at z;cases z)];exact z
  ·rw[gr (fun y=>by rw[y,he] at z;cases z)];exact z
  ·rw[gr (fun y=>by rw[y,he] at z;cases z)];exact z
noncomputable def Ci (X:Cx) (E:St->XK):Prop:=∀ (Yp:Zp) (σ:St) (H:Hp) (s:Zg) (e C t dx:Addr),Inv X Yp σ H s->X.s₀.heap.objs.size<=e->s.heap.get? e=some (gQ C t (some dx))->H e=none->(∃ fs,H dx=some (.xd fs))->E σ (.ref C) (some dx) H->X.xe (.ref e) s
end
section
variable {P:Zh}{w:Zi}{K:Zf}{mg:Zk}{base:Heap}{N:Ze}{qual:Str}{scope:Scope}{f:Addr}{cd:Value}{A:Around}{outer:List Env}{s:Zg}{H:Hp}{E:XK}
theorem pT:Ci (vV (Á P w) P w K mg base N qual scope f cd A outer s H E) (fun _=>E):=by
 intro Yp σ H1 s1 e C t dx I h0 het hn hdx hE;show wpAny _ _ _ _ _ _;have hin:∀ env∈(envOfC qual scope s.heap.objs.size f cd::outer),∀ b,env.frame=some b->b∈e::Ì (envOfC qual scope s.heap.objs.size f cd::outer):=fun env he b hb=>aV _ (om.mpr ⟨env,he,hb⟩);have st:(PySem.W.hideAll s1.heap (e::Ì (envOfC qual scope s.heap.objs.size f cd::outer))).StaysIn s1.heap:=fun b o q=>PySem.W.of_hideAll _ q;have ff:s1.heap.FunFrames (PySem.W.hideAll s1.heap (e::Ì (envOfC qual scope s.heap.objs.size f cd::outer))) (envOfC qual scope s.heap.objs.size f cd::outer):=PySem.W.funFrames_hide I.stack hin;have hen:(PySem.W.hideAll s1.heap (e::Ì (envOfC qual scope s.heap.objs.size f cd::outer))).get? e=none:=PySem.W.hideAll_none _ aR;refine bO (KD.any (E:=fun _ _=>False) (pJ _ _) (wpAny_leaving_firstW (a0:=.ref t) (oe:=gQ C t (some dx)) (Q:=fun _ s''=>∃ h',s''={ s1 with heap:=h' }/\Heap.FlyingW (PySem.W.hideAll s1.heap (e::Ì (envOfC qual scope s.heap.objs.size f cd::outer))) outer e (.ref C) (.ref t) h'/\s1.heap.UpToSlots h') I.ok.frames ff rfl het st hen rfl rfl rfl fun h' hL=>?_)) ?_ (fun _ _ z=>False.elim z.1)
 ·obtain⟨k1,⟨_,_,k2⟩,k3,k4⟩:=hL;exact⟨h',rfl,⟨k1,hen,k2,k3⟩,k4⟩
 rintro _ s'' ⟨⟨h',rfl,x1,x4⟩,dk⟩;obtain⟨u1,u2,u3⟩:=uN (h':=h') I rfl rfl rfl x1.1 x4 (fun b o e1 e2 e3=>PySem.W.hideAll_get _ e1 (fun z=>by
  rcases aU.mp z with z | z
  ·subst z;rcases e3 with q | ⟨u,q⟩
   ·exact q hn
   ·exact absurd (aH q) (Nat.not_lt.mpr h0)
  ·exact e2 z))
 obtain⟨oe',hoe',_,hd',hg'⟩:=dk e _ het;exact⟨e,C,t,_,H1,some dx,rfl,I.os,I.bare,u1,u2,x1,⟨oe',hoe',XD.dk ⟨rfl,_,rfl,rfl⟩ hd' hg'⟩,(fun dx' z=>by cases z;exact hdx),u3,hE⟩
end
noncomputable def Dd (C:Addr) (sp:Sp) (E:St->XK) (t:TA):TS:=fun _ σ H=>t σ H fun vs H1=>⇑vs<=sizeLine/\∀ e H2,H1 e=none->a9 H1 H2->H2 e=some (Ø e C none) →
 sp (.ref e::vs) H2 (fun v H3=>v=.non/\∃ dx fs,H3 e=some (Ø e C (some dx))/\H3 dx=some (.xd fs)/\E σ (.ref C) (some dx) (Ô e H3)) (fun _ _ _=>False)
theorem Dv {C:Addr}{sp:Sp}{E:St->XK}{t:TA}{D:Ends}{σ:St}{H:Hp}:Dd C sp E t D σ H=t σ H fun vs H1=>⇑vs<=sizeLine/\∀ e H2,H1 e=none->a9 H1 H2->H2 e=some (Ø e C none) →
 sp (.ref e::vs) H2 (fun v H3=>v=.non/\∃ dx fs,H3 e=some (Ø e C (some dx))/\H3 dx=some (.xd fs)/\E σ (.ref C) (some dx) (Ô e H3)) (fun _ _ _=>False):=propext Iff.rfl
section
variable {X:Cx}
theorem sL {ps:Ze}{E:St->XK}{e₀:Expr}{rest:List Expr}{t:TA}{np cpos pos:Pos} (M:Fd X.prog X.w X.K X.mg X.base (Á X.prog X.w) C x k ps sp)
  (hrx:Ci X E) (hc:X.calm=true) (hr:fe (k+1) X.A) (ha:PA X (e₀::rest) t) (hg:X.env.kindOf x=some .globalImplicit:=by ext) (hd:(x==("__debug__":Str))=false:=by ext) (hs:dW (e₀::rest)=true:=by ext) :
  PS X (.Raise (some (.Call (.Name x np) (e₀::rest) [] cpos)) none pos) (Dd C sp E t):=by
 intro Yp s σ H D I h;obtain⟨f,fd,F,O,hb⟩:=M.ex;obtain⟨nm,q,N,bs,bm,hdct,sn,sub,ab,col,dd,k0,k1,k2,k3,k5,mN,oI,g1,g2,g3,g4,g5,g6⟩:=O.at I.ok.mod.kin;have FB:=d0;rw[arm_exec_Raise];refine aa (iE ?_);refine HF (C:=C) (nm:=nm) (q:=q) (N:=N) (bs:=bs) (bm:=bm) (hdct:=hdct) (sn:=sn) (sub:=sub) (ab:=ab) (col:=col) (dd:=dd) (k0:=k0) (k1:=k1) (k2:=k2) (k3:=k3) (k5:=k5) (newId:="ValueError.__new__") (g4.hasType FB.hasBase) (I.ok.hd hc) ?_;refine aa (lW (ku I hg M.mg ?_ hd));refine rS (h₀:=X.base) I.ok.mod.kin O.kp (Â (ha cpos Yp s σ H _ I h) fun us s1 ⟨vs,H1,I1,r,hz,q1⟩=>⟨I1.Ñ,?_⟩) (b8 (bo hs).1) (du (bo hs).2);obtain⟨hh,gg,d1,tt,os⟩:=s1;have e2:((hh.push (qI us)).push (gQ C hh.objs.size none)).get? (hh.objs.size+1)=some (gQ C hh.objs.size none):=by heap_get
 have J1:Inv X Yp σ H1 ⟨hh.push (qI us),gg,d1,tt,os⟩:=I1.kept (t':=tt) (h':=hh.push (qI us)) fun b u z=>aE _ z;have J2:=J1.laid (a:=hh.objs.size+1) (o:=Ø (hh.objs.size+1) C none) (h':=(hh.push (qI us)).push (gQ C hh.objs.size none)) (t':=tt) (fun b u z=>aE _ z) (jY (iQ _ _)) (Cf e2);have fr:H1 (hh.objs.size+1)=none:=I1.hok.fresh (fZ _);have hq:=q1 (hh.objs.size+1) _ fr (cX fr) aC;have r2:Vals (V.ref (hh.objs.size+1)::vs) (Value.ref (hh.objs.size+1)::us):=.cons rfl r;have hl:⇑(Value.ref (hh.objs.size+1)::us++[])=⇑ps:=by rw[dM,←⇑r2];exact F.len _ _ _ _ hq
 refine JX FB (g4.keeps I1.bk) (I1.bk _ _ g1) (g2.keeps I1.bk) g3 (I1.bk _ _ g5) g6 (show ⇑us<=_ by rw[←⇑r];exact hz) ?_;have hbb:=hb ⟨(hh.push (qI us)).push (gQ C hh.objs.size none),gg,d1,tt,os⟩ (Value.ref (hh.objs.size+1)::us) J2.Ñ hl;rw[dM] at hbb;refine i4 (gE (F.run _ X.stack _ _ ⟨Value.ref (hh.objs.size+1)::us,[]⟩ (Value.ref (hh.objs.size+1)::us) _ _ (fun _ _ _=>False) (hr.make C us []) (J2.LA.make C us []) hbb r2 hq) fun r s' hq'=>?_);cases r with
 | error e=>exact (wI hq').elim
 | ok fl =>
  cases fl with
  | ret u =>
   obtain⟨v,H',I3,rv,ev,dx,fs,q3,q4,q5⟩:=J2.after hq';subst ev;refine⟨rv,?_⟩;obtain⟨⟨t',e3⟩,_⟩:=(show cj X.prog X.w H' s'.heap _ (Ø (hh.objs.size+1) C (some dx)) from I3.hok _ _ q3);have h0:X.s₀.heap.objs.size<=hh.objs.size+1:=Nat.le_succ_of_le I1.sz;have hne:dx≠hh.objs.size+1:=fun z=>by rw[z,q3] at q4;cases q4
   refine aa (iE (aq ?_));exact⟨_,t',some dx,rfl,I3.bk _ _ g1,e3,hrx Yp σ _ s' _ C t' dx (I3.Ô h0 q3) h0 e3 qM ⟨fs,by rw[gr hne];exact q4⟩ q5⟩
  | next=>exact False.elim hq'
  | brk=>exact False.elim hq'
  | cont=>exact False.elim hq'
end
noncomputable def ċ:V->Hp->VK->Prop:=fun v H Q=>match v with
 | .int n=>0<=n/\n<1000000/\∀ y,Q (.str y) H
 | _=>False
noncomputable def tFS (te:TE):TE:=fun σ H Q=>te σ H fun v H1=>ċ v H1 Q
theorem MR {te:TE}{σ:St}{H:Hp}{Q:VK}:tFS te σ H Q=te σ H fun v H1=>ċ v H1 Q:=propext Iff.rfl
section
variable {X:Cx}
theorem Nz {lit:Str}{k:Nat}{p1 p2 pos:Pos} (he:PE X e te) (hz:⇑lit<=1000:=by decide) :
  PE X (.JoinedStr [.Constant (.str lit) k p1,.FormattedValue e (-1) none p2] pos) (tFS te):=by
 intro Yp s σ H Q I h;refine PyProof.Rows.JoinedStr_many (PyProof.Rows.joinParts_cons (Calls.Constant_str ⟨?_,PyProof.Rows.joinParts_cons (PyProof.Rows.FormattedValue_plain (Â (he Yp _ σ H _ (I.tok _) h) fun u s1 ⟨x,H1,I1,rx,q⟩=>?_))⟩))
 ·show ⇑(Str.empty++lit)<=sizeLine;rw[strLen_append];exact aX (Nat.add_le_add (av _) hz) Zd
 replace q:ċ x H1 Q:=q
 unfold ċ at q;split at q;next n =>
  obtain⟨n0,n1,q⟩:=q;obtain⟨tk,rfl⟩:=(show ∃ t,u=Value.int n t from rx);have hl:n.natAbs.log2<1920:=by
   by_cases h0:n.natAbs=0
   ·rw[h0];decide
   ·exact (Nat.log2_lt h0).mpr (bH (by left:n.natAbs<2^20) (lS Zd Zd))
  have hl2:=int_text_length_le (a:=n) (k:=1920) Zd hl;have hz2:⇑((Str.empty++lit)++Str.ofString (toString n))<=sizeLine:=by rw[strLen_append,strLen_append,PySem.ofString_length,gi];have:Str.empty.length=0:=rfl;left
  exact PyProof.Rows.formatField_int_small hl ⟨hz2,PyProof.Rows.joinParts_nil ⟨.str _,H1,I1.tok _,⟨_,rfl⟩,q _⟩ hz2⟩
 next=>exact q.elim
end
structure Kv (K:Zf) (B:Addr):Prop where
 ga:PySem.W.specialIn K (.ref B) "__getattribute__"=some (some (.builtin "type.__getattribute__"))
 rd:PySem.W.readsIn K B (.type "type")=true
 fc:PySem.W.findCls K (.ref B) (.type "type") "__init__"=some (.val (.builtin "ValueError.__init__"))
noncomputable def Ċ (K:Zf):List V->Hp->VK->Prop:=fun vs H Q=>match vs with
 | [.ref e,_]=>∃ C,H e=some (Ø e C none)/\(∃ f,Dt K C f)/\Q .non H
 | _=>False
noncomputable def tBI (K:Zf) (t:TA):TE:=fun σ H Q=>t σ H fun vs H1=>Ċ K vs H1 Q
theorem MO {K:Zf}{t:TA}{σ:St}{H:Hp}{Q:VK}:tBI K t σ H Q=t σ H fun vs H1=>Ċ K vs H1 Q:=propext Iff.rfl
section
variable {X:Cx}
theorem tF {pl:Sem Bool}{B:Addr}{rest:List Expr}{t:TA}{np apos pos:Pos} (hK:X.K=K) (BI:Kv K B) (hm:X.mg x=some (.ref B)) (ha:PA X (e₀::rest) t)
  (hg:X.env.kindOf x=some .globalImplicit:=by ext) (hd:(x==("__debug__":Str))=false:=by ext) (hs:dW (e₀::rest)=true:=by ext)
  (ht:eval (.Call (.Attribute (.Name x np) "__init__" apos) (e₀::rest) [] pos) X.env=(do
   let ov ←eval (.Name x np) X.env
   standAt apos.atName
   let (f,first) ←holding [ov] (getMethod ov "__init__" pl)
   callWith pos f first (backTo pos (starEach (e₀::rest) X.env)) (backToKw pos (keywordEach [] X.env))):=by rfl) :
  PE X (.Call (.Attribute (.Name x np) "__init__" apos) (e₀::rest) [] pos) (tBI K t):=by
 subst hK;intro Yp s σ H Q I h;have FB:=d0;refine PySem.W.methodCall_KW (pl:=pl) (ku I hg hm (PySem.W.method_cls I.Ñ BI.ga (PySem.W.cls_value I.Ñ BI.rd BI.fc (by nofun) ?_)) hd) ht;refine PyProof.Rows.callWith_builtin1 (Â (ha pos Yp _ σ H _ (I.tok _) h) fun us s1 ⟨vs,H1,I1,r,q⟩=>?_) (b8 (bo hs).1) (du (bo hs).2)
 replace q:Ċ X.K vs H1 Q:=q
 unfold Ċ at q;split at q;next e y =>
  obtain⟨C,he,⟨f,O⟩,hQ⟩:=q;obtain⟨u1,u2,rfl,r1,r2⟩:=vals2 r;cases (show u1=Value.ref e from r1);obtain⟨nm,qn,N,bs,bm,hdct,sn,sub,ab,col,dd,k0,k1,k2,k3,k5,mN,oI,g1,g2,g3,g4,g5,g6⟩:=O.at I1.Ñ;obtain⟨⟨t',e3⟩,_⟩:=(show cj X.prog X.w H1 s1.heap _ (Ø e C none) from I1.hok _ _ he);obtain⟨hh,gg,d1,tt,os⟩:=s1;refine i4 (oC FB.init.plain FB.initEntry (wpAny_check_init_subT FB g4 g1 e3 rfl ?_))
  wp_walk
  have e4:(hh.push { cls:=.type "tuple",data:=.seq #[u2] }).get? e=some (gQ C t' none):=aE _ e3;refine⟨.non,H1,?_,rfl,hQ⟩;have J:=(I1.kept (t':=tt) (h':=hh.push { cls:=.type "tuple",data:=.seq #[u2] }) fun b u z=>aE _ z);have W:=J.write (x:=e) (e:=e) (o:=Ø e C none) (t':=tt) (h':=(hh.push { cls:=.type "tuple",data:=.seq #[u2] }).update e (Obj.mapFields fun x=>x.setIfInBounds 0 (Value.ref hh.objs.size))) (by rw[he];trivial) (.inl rfl)
   (fun b u hb z=>(dy _ _ (b7 hb)).trans z) ⟨_,fV _ e4 rfl⟩ (Cf (t:=hh.objs.size) (fV _ e4 rfl))
  have same:upd H1 e (Ø e C none)=H1:=by
   funext b
   by_cases z:b=e
   ·rw[z,aC,he]
   ·exact aG z
  rw[same] at W;exact W
 next=>exact q.elim
structure Iq (K:Zf) (C:Addr) (f:Str):Prop where
 sa:PySem.W.findIn K (.ref C) "__setattr__"=some (some (.builtin "object.__setattr__"))
 mr:((PySem.W.clsIn K C).any fun cd=>pG cd.mro)=true
 tk:PySem.W.takerIn K C f=some none
 hd:PySem.W.hasDictIn K C=true
noncomputable def CY (K:Zf) (f:Str) (x v:V) (H:Hp) (Q:Hp->Prop):Prop:=match x with
 | .ref e=>∃ C,H e=some (Ø e C none)/\Iq K C f/\∀ dx H',H dx=none->dx≠e->H' e=some (Ø e C (some dx))->H' dx=some (.xd [(f,v)])->a9 (Ô e H) (Ô e H')->Q H'
 | _=>False
noncomputable def KL (K:Zf) (ta tv:TE) (f:Str):TS:=fun D σ H=>tv σ H fun y H1=>ta σ H1 fun x H2=>CY K f x y H2 fun H3=>D.nx σ H3
theorem IQ {K:Zf}{ta tv:TE}{f:Str}{D:Ends}{σ:St}{H:Hp}:KL K ta tv f D σ H=tv σ H fun y H1=>ta σ H1 fun x H2=>CY K f x y H2 fun H3=>D.nx σ H3:=propext Iff.rfl
theorem CQ {o value:Expr}{ta tv:TE}{pos pos':Pos} (hK:X.K=K) (ha:PE X o ta) (hv:PE X value tv) (hs:swapsWith value (some (.Attribute o f pos')) pos.line X.env=pure false:=by ext) :
  PS X (.Assign [.Attribute o f pos'] value pos) (KL K ta tv f):=by
 subst hK;intro Yp s σ H D I h;refine plainObj_wpAny_Assign_Attribute (Â (hv Yp s σ H _ I h) fun u s1 ⟨y,H1,I1,ry,q⟩=>Â (ha Yp s1 σ H1 _ I1 q) fun ov s2 ⟨x,H2,I2,rx,q2⟩=>?_) hs
 replace q2:CY X.K f x y H2 (fun H3=>D.nx σ H3):=q2
 unfold CY at q2;split at q2;next e =>
  obtain⟨C,he,SC,q3⟩:=q2;cases (show ov=Value.ref e from rx);obtain⟨⟨t',e3⟩,_⟩:=(show cj X.prog X.w H2 s2.heap _ (Ø e C none) from I2.hok _ _ he);refine M8 I2.Ñ e3 SC.sa SC.mr SC.tk SC.hd fun h' h1 h2 h3=>?_;have hn:H2 s2.heap.objs.size=none:=I2.fresh;have ne:s2.heap.objs.size≠e:=fun z=>by rw[z,he] at hn;cases hn
  have J:=I2.write (x:=e) (e:=e) (o:=Ø e C (some s2.heap.objs.size)) (h':=h') (t':=s2.toks+2) (by rw[he];trivial) (.inl rfl) (fun b u' hb z=>h3 b u' hb z) ⟨_,h1⟩ (Cf h1);have hn':upd H2 e (Ø e C (some s2.heap.objs.size)) s2.heap.objs.size=none:=by rw[aG ne];exact hn
  have J2:=J.Ia (a:=s2.heap.objs.size) (o:=.xd [(f,y)]) hn' (Heap.get?_none_of_le I2.sz) (fun z=>absurd I2.lt (by rw[z];exact fq _))
   (fun yy c hc z=>by obtain⟨w9,o9,e9,_⟩:=I2.cell yy c hc;rw[z] at e9;exact absurd (aH e9) (fq _))
   (fun p hp z=>by have e9:=(I2.pin p hp).1;rw[z] at e9;exact absurd (aH e9) (fq _))
   ⟨_,h2,fun g=>by
    by_cases z:g=f
    ·subst z;rw[ai rfl];simp only[List.lookup,beq_self_eq_true];exact ry
    ·rw[ag z];have hb:(g==f)=false:=kc.mpr z;simp only[List.lookup,hb];exact True.intro⟩
  refine⟨σ,_,J2,q3 s2.heap.objs.size _ hn ne (by rw[aG (b7 ne),aC]) aC fun b o hb=>?_⟩
  by_cases z:b=e
  ·rw[z,qM] at hb;cases hb
  ·rw[gr z] at hb ⊢;have hb2:b≠s2.heap.objs.size:=fun y=>by rw[y,hn] at hb;cases hb
   rw[aG hb2,aG z];exact hb
 next=>exact q2.elim
end
noncomputable def CU (K:Zf) (f:Str) (x:V) (H:Hp) (Q:VK):Prop:=match x with
 | .ref a=>∃ C dx fs v,H a=some (sh a (.ref C) (some dx))/\H dx=some (.xd fs)/\Ds K C/\Iq K C f/\PySem.W.findIn K (.ref C) f=some none/\fs.lookup f=some v/\Q v H
 | _=>False
noncomputable def KP (K:Zf) (ta:TE) (f:Str):TE:=fun σ H Q=>ta σ H fun x H1=>CU K f x H1 Q
theorem ID {K:Zf}{ta:TE}{f:Str}{σ:St}{H:Hp}{Q:VK}:KP K ta f σ H Q=ta σ H fun x H1=>CU K f x H1 Q:=propext Iff.rfl
theorem Jl {prog:Zh}{w:Zi}{A:Around}{E:Zq}{s:Zg}{K:Zf}{x D:Addr}{ox:Obj}{odo:Option Obj}{name:Str}{v:Value}{ex:Bool}{Q:Zq}
  (X:K.In s.heap) (I:PySem.W.InstAt s.heap x ox D odo) (C:Ds K D) (hf:PySem.W.findObj K D odo name=some (.value v)) (hv:PySem.W.handedIn v=true) (h:Q v { s with toks:=s.toks+1 }) :
  wpAny (model prog w) A (getAttr (.ref x) name ex) Q E s:=by
 obtain⟨hh,gg,dd,tt,os⟩:=s;have L0:∀ {M},PySem.W.Looks M hh (typeOf (.ref x)) (.ref D):=I.type;have L1:∀ {M},PySem.W.Looks M hh (typeLookup (.ref D) "__getattribute__") _:=rT X C.ga;have L2:∀ {M},PySem.W.Looks M hh (typeLookup (.ref D) "__getattr__") _:=rT X C.gn;have L3:∀ {M},PySem.W.Looks M hh (isSubtype (.ref D) (.type "BaseException")) _:=PySem.W.looks_subIn X C.sb;have L4:∀ {M},PySem.W.Looks M hh (Builtin.ObjectAttr.find (.ref x) (.ref D) name) _:=PySem.W.looks_find X I hf;have L5:∀ {M},PySem.W.Looks M hh (isInstance (.ref x) (.type "BaseException")) true:=by intro M;unfold isInstance;exact PySem.W.Looks.andThen (f:=fun t=>isSubtype t (.type "BaseException")) L0 L3
 have f3:=F.excAttr_ValueError.ga.bind (Value.ref x);unfold getAttr;refine aa (wpAny_mkText ?_);unfold getAttrBy;refine cB (aa (L0.at (aa (L1.at ?_))));refine wpAny_ite_false rfl ?_;unfold getAttrByItsOwn;refine aa ?_;unfold hookBefore;refine wpAny_ite_true rfl (L2.at ?_);refine aa (lY (cB ?_));unfold callGetattribute;refine wpAny_ite_false (by cases ex<;>rfl) ?_;unfold boundAndCalled;refine aa (wpAny_of_eq f3 ?_);refine i4 (oC F.excAttr_ValueError.ga.plain F.entry_bexc_ga ?_);refine FU L5 ?_;show wpAny _ _ (Builtin.«object.__getattribute__» { pos:=[Value.ref x,Value.str name _] }) _ _ _;unfold Builtin.«object.__getattribute__»;refine aa ?_;unfold slotArgs;refine wpAny_ite_false rfl (wpAny_ite_false rfl (aq ?_));refine aa (aq ?_);refine aa (L0.at (aa (L4.at ?_)));refine aq ?_;show wpAny _ _ (handedOut v) _ _ _;rw[PySem.W.handedOut_of hv];exact aq h
theorem Bb {v:V} (r:RelV v u):PySem.W.handedIn u=true:=by cases v<;>first | (obtain⟨t,rfl⟩:=r;rfl) | (cases r;rfl)
section
variable {X:Cx}
theorem NZ {dx:Addr}{fs:List (Str×V)}{v:V} (x:Ð P w H h) (e:H dx=some (.xd fs)) (l:fs.lookup f=some v):∃ od u,h.get? dx=some od/\PySem.W.lookIn f od=some (some u)/\RelV v u:=by
 obtain⟨mA,n1,r⟩:=(show cj P w H h dx (.xd fs) from x dx _ e);have rf:=r f;rw[l] at rf;obtain⟨od,ho,hl⟩:=wV n1;cases hm:mA f with
 | none=>rw[hm] at rf;exact rf.elim
 | some u=>rw[hm] at rf;exact⟨od,u,ho,by rw[hl,hm],rf⟩
theorem JG (hK:X.K=K) (he:PE X e ta) (hb:attributeBase e f X.env (eval e X.env)=eval e X.env:=by ext):PE X (.Attribute e f pos) (KP K ta f):=by
 subst hK;intro Yp s σ H Q I h;refine Ck hb (Â (he Yp s σ H _ I h) fun u s1 ⟨x,H1,I1,rx,q⟩=>?_)
 replace q:CU X.K f x H1 Q:=q
 unfold CU at q;split at q;next a =>
  obtain⟨C,dx,fs,v,q1,q2,q3,q3',q4,q5,q6⟩:=q;cases (show u=Value.ref a from rx);obtain⟨⟨o,e1,e2,e3,vs,e4,_⟩,_⟩:=(show cj X.prog X.w H1 s1.heap a (sh a (.ref C) (some dx)) from I1.hok a _ q1);obtain⟨od,uv,d1,d2,d3⟩:=NZ I1.hok q2 q5;have J:PySem.W.InstAt s1.heap a o C (some od):=⟨e1,e2,(by unfold PySem.W.notCls;rw[e4]),(by rw[e3];exact d1)⟩;refine Jl I1.Ñ J q3 ?_ (Bb d3) ⟨v,H1,I1.tok _,d3,q6⟩;obtain⟨cd,hc⟩:=oA.mp q3.cl;unfold PySem.W.findObj;rw[hc,Option.bind_some,q4,Option.bind_some];have hdd:cd.hasDict=true:=by obtain⟨cd',hc',hd'⟩:=PySem.W.any_some q3'.hd;rw[hc] at hc';cases hc';exact hd'
  show (PySem.W.ownOf cd (some od) f).bind _=_;have ow:PySem.W.ownOf cd (some od) f=some (some uv):=by unfold PySem.W.ownOf;rw[ai hdd];exact d2
  rw[ow];rfl
 next=>exact q.elim
end
theorem zU {e:Addr}{H1 H2 H3:Hp} (n:H1 e=none) (a:a9 H1 H2) (b:a9 (Ô e H2) (Ô e H3)):a9 H1 (Ô e H3):=fun c o q=>by
 have hc:c≠e:=fun z=>by rw[z,n] at q;cases q
 exact b c o (by rw[gr hc];exact a c o q)
noncomputable abbrev TH:=Value->Addr->TS
structure Lb (X:Cx) (Yp:Zp) (σ:St) (H:Hp) (s:Zg) (ea C t:Addr) (B:Heap) (d:Option Addr):Prop where
 mkI:∀ h6,Heap.FlyingW B X.stack ea (.ref C) (.ref t) h6->s.heap.UpToSlots h6->(∃ o6,h6.get? ea=some o6/\XD o6 d)->Inv X Yp σ (upd H ea (sh ea (.ref C) d)) { s with heap:=h6 }
 fl:Heap.FlyingW B X.stack ea (.ref C) (.ref t) s.heap
 obj:∃ oe,s.heap.get? ea=some oe/\XD oe d
noncomputable def PH (X:Cx) (hs:List ExceptHandler) (th:TH):Prop:=∀ (Yp:Zp) (s:Zg) (σ:St) (H:Hp) (D:Ends) (ea C t:Addr) (B:Heap) (d:Option Addr),X.Ok->Lb X Yp σ H s ea C t B d->th (.ref C) ea D σ (upd H ea (sh ea (.ref C) d)) →
 wpAny (model X.prog X.w) X.A (handleBy (.ref ea) X.env hs) (SP X Yp D) X.xe s
theorem Ie (h:Heap):h.UpToSlots h:=Heap.UpToSlots.of_keeps fun _ _ e=>e
noncomputable def KY:TH:=fun _ _ _ _ _=>False
noncomputable def NM (K:Zf) (CE:Addr) (t1:Addr->TS) (r:TH):TH:=fun c ea D σ H=>∃ b,PySem.W.exmOne K c (.ref CE)=some b/\if b=true then t1 ea D σ H else r c ea D σ H
theorem Fq {c:Value}{ea:Addr}{D:Ends}{σ:St}{H:Hp}:KY c ea D σ H=False:=propext Iff.rfl
theorem IU {K:Zf}{CE:Addr}{t1:Addr->TS}{r:TH}{c:Value}{ea:Addr}{D:Ends}{σ:St}{H:Hp}:NM K CE t1 r c ea D σ H=(∃ b,PySem.W.exmOne K c (.ref CE)=some b/\if b=true then t1 ea D σ H else r c ea D σ H):=propext Iff.rfl
section
variable {X:Cx}
theorem Mv:PH X [] KY:=fun _ _ _ _ _ _ _ _ _ _ _ _ h=>h.elim
theorem N1 {CE:Addr}{np hpos:Pos}{b₀:Stmt}{suite:List Stmt}{hs:List ExceptHandler}{t1:Addr->TS}{r:TH} (hm:X.mg x=some (.ref CE))
  (hh:∀ ea:Addr,á { X with A:=X.A.mark (some (.ref ea)),calm:=false,xe:=fun _ _=>False } (b₀::suite) (t1 ea)) (hr:PH X hs r)
  (hg:X.env.kindOf x=some .globalImplicit:=by ext) (hd:(x==("__debug__":Str))=false:=by ext) :
  PH X (.ExceptHandler (some (.Name x np)) none (b₀::suite) hpos::hs) (NM X.K CE t1 r):=by
 intro Yp s σ H D ea C t B d ok L h;obtain⟨bb,hb,q⟩:=h;obtain⟨oe,hoe,hdo⟩:=L.obj;have I5:=L.mkI s.heap L.fl (Ie _) ⟨oe,hoe,hdo⟩;obtain⟨o5',v5,e5',c5,t5,_⟩:=L.fl.first;rw[hoe] at e5';cases e5';refine wpAny_handleBy_cons (codeAny_handlers_test ?_) (by intro q;cases q);refine ku (X:={ X with A:=X.A.mark (some (.ref ea)),calm:=false,xe:=fun _ _=>False }) I5.xQ hg hm ?_ hd;have LT:PySem.W.Looks (model X.prog X.w) s.heap (typeOf (.ref ea)) (.ref C):=c5 ▸ (PySem.W.Looks.ld hoe).andThen .now;refine PySem.W.exm_one I5.Ñ LT hb _ _ _ _ (fun _ _ e=>e) ?_;cases bb with
 | false=>exact hr Yp s σ H D ea C t B d ok L (by simpa using q)
 | true =>
 rw[ai rfl] at q;refine codeAny_handlers_suite ?_;refine bO (KD.any (E:=fun _ _=>False) (lC _ _) (lands_againW (s:=s) (Q:=fun _ s''=>∃ h6,s''={ s with heap:=h6 }/\Heap.FlyingW B X.stack ea (.ref C) (.ref t) h6/\s.heap.UpToSlots h6) L.fl fun h6 x1 x2=>⟨h6,rfl,x1,x2⟩)) ?_ (fun _ _ z=>False.elim z.1);rintro _ _ ⟨⟨h6,rfl,f6,sm6⟩,dk6⟩;obtain⟨o6,e6,_,d6,g6⟩:=dk6 ea oe hoe;have I6:=L.mkI h6 f6 sm6 ⟨o6,e6,hdo.dk d6 g6⟩;refine bO (hh ea Yp _ _ _ D I6.xQ q) (fun f s8 hsp=>?_) (fun _ _ z=>False.elim z);cases f with
 | next =>obtain⟨σ9,H9,I9,q9⟩:=hsp;exact⟨σ9,H9,Inv.markFrom ok I9,q9⟩
 | brk =>obtain⟨σ9,H9,I9,q9⟩:=hsp;exact⟨σ9,H9,Inv.markFrom ok I9,q9⟩
 | cont =>obtain⟨σ9,H9,I9,q9⟩:=hsp;exact⟨σ9,H9,Inv.markFrom ok I9,q9⟩
 | ret u =>obtain⟨v9,σ9,H9,I9,r9,q9⟩:=hsp;exact⟨v9,σ9,H9,Inv.markFrom ok I9,r9,q9⟩
noncomputable def KN (tb:(St->XK)->TS) (th:TH):TS:=fun D σ H=>tb (fun σ' c d H'=>∀ ea H2,H' ea=none->a9 H' H2->H2 ea=some (sh ea c d)->(∀ dx,d=some dx->∃ fs,H2 dx=some (.xd fs))->th c ea D σ' H2) D σ H
theorem IV {tb:(St->XK)->TS}{th:TH}{D:Ends}{σ:St}{H:Hp}:KN tb th D σ H=tb (fun σ' c d H'=>∀ ea H2,H' ea=none->a9 H' H2->H2 ea=some (sh ea c d)->(∀ dx,d=some dx->∃ fs,H2 dx=some (.xd fs))->th c ea D σ' H2) D σ H:=propext Iff.rfl
theorem JQ {body:List Stmt}{h₀:ExceptHandler}{hs:List ExceptHandler}{pos:Pos}{tb:(St->XK)->TS}{th:TH} (hst:X.stack=X.env::X.outer) (hf:X.env.frame=some X.env.locals) (hex:X.ex=[])
  (hb:∀ (pn:Zp) (xe:Zq) (E:St->XK),PassesOwn (model X.prog X.w) X.A X.env xe->Passes (Á X.prog X.w) { X with pn:=pn,xe:=xe } E->á { X with pn:=pn,xe:=xe } body (tb E))
  (hh:PH X (h₀::hs) th):PS X (.Try body (h₀::hs) [] [] pos) (KN tb th):=by
 intro Yp s σ H D I h;refine wpAny_Try_except ?_;refine bO (hb (X.pn++Yp) _ _ PassesOwn.looking ?_ [] s σ H D I.N3 h) ?_ (fun e s1 he=>he)
 ·intro pins' σ' H1 s1 e s' I' hcx;obtain⟨ea,C,t,B,H',d,rfl,os,bare,un,hok,fl,⟨oe,hoe,hdo⟩,hdx,hkb,hE⟩:=hcx;have IX:Inv X Yp σ' H1 s1:=I'.kN;have I2:Inv X Yp σ' H' s':=IX.wD (ch:=[]) os un hok bare (fun b z=>absurd z (by simp));have hfr:∀ b∈Ì X.stack,∃ o,s'.heap.get? b=some o/\∀ vs,o.data≠.fields vs:=fun b hb=>(I2.stack.mem hb).2;have hff:∀ b∈Ì X.stack,H' b=none:=I2.rq;obtain⟨oe0,vs0,hoe0,_,hdat0,_⟩:=fl.first;have nfr:ea∉Ì X.stack:=fun z=>by
   obtain⟨o,e1,e2⟩:=hfr ea z;rw[hoe0] at e1;cases e1;exact e2 _ hdat0
  have hea:H' ea=none:=by
   cases q:H' ea with
   | none=>rfl
   | some o=>have:=hkb ea oe hoe nfr (.inl (by rw[q];simp));rw[fl.2.1] at this;cases this
  have new1:s1.heap.get? ea=none:=by
   cases q:s1.heap.get? ea with
   | none=>rfl
   | some o=>have:=hkb ea oe hoe nfr (.inr ⟨o,q⟩);rw[fl.2.1] at this;cases this
  have new0:X.s₀.heap.get? ea=none:=by
   cases q:X.s₀.heap.get? ea with
   | none=>rfl
   | some o =>obtain⟨o2,e2⟩:=IX.base.there ea o q (by rw[hex];simp);rw[new1] at e2;cases e2
  have mk:∀ h6,Heap.FlyingW B X.stack ea (.ref C) (.ref t) h6->s'.heap.UpToSlots h6->(∃ o6,h6.get? ea=some o6/\XD o6 d)->Inv X Yp σ' (upd H' ea (sh ea (.ref C) d)) { s' with heap:=h6 }:=by
   intro h6 f6 sm6 ⟨o6,e6,d6⟩;have J:Inv X Yp σ' H' { s' with heap:=h6 }:=IX.wD (s':={ s' with heap:=h6 }) (ch:=[]) os (Dm un hkb f6.1 sm6 hfr) (zd hok hkb f6.1 hff) bare (fun b z=>absurd z (by simp));obtain⟨o7,v7,e7,c7,t7,_⟩:=f6.first;rw[e6] at e7;cases e7;refine J.Ia hea new0 (fun z=>?_) (fun y c e z=>?_) (fun p hp z=>?_) (Cz e6 c7 d6)
   ·obtain⟨m,⟨ob,_,_,e9,_⟩,_⟩:=IX.loc;rw[←z,new1] at e9;cases e9
   ·obtain⟨w9,o9,e9,_⟩:=IX.cell y c e;rw[z,new1] at e9;cases e9
   ·have e9:=(IX.pin p hp).1;rw[z,new1] at e9;cases e9
  refine bO (KD.any (E:=fun _ _=>False) (xN _ _) (wpAny_looks_onW (Q:=fun _ s''=>∃ h4,s''={ s' with heap:=h4 }/\Heap.HeldW B X.stack ea (.ref C) (.ref t) X.env.locals h4/\s'.heap.UpToSlots h4) (by rw[←hst];exact I.ok.frames) hf (by rw[←hst];exact fl) fun h4 x1 x2=>⟨h4,rfl,by rw[hst];exact x1,x2⟩)) ?_ (fun _ _ z=>False.elim z.1);rintro _ _ ⟨⟨h4,rfl,l4,sm4⟩,dk4⟩;refine bO (KD.any (E:=fun _ _=>False) (lC _ _) (wpAny_landsW (s:={ s' with heap:=h4 }) (Q:=fun _ s''=>∃ h5,s''={ s' with heap:=h5 }/\Heap.FlyingW B X.stack ea (.ref C) (.ref t) h5/\h4.UpToSlots h5) l4 fun h5 x1 x2=>⟨h5,rfl,x1,x2⟩)) ?_ (fun _ _ z=>False.elim z.1);rintro _ _ ⟨⟨h5,rfl,f5,sm5⟩,dk5⟩;obtain⟨o5,e5,_,d5,g5⟩:=(dk4.trans dk5) ea oe hoe;have hne:∀ dx,d=some dx->dx≠ea:=fun dx z y=>by obtain⟨fs,q⟩:=hdx dx z;rw[y,hea] at q;cases q
  exact hh Yp { s' with heap:=h5 } σ' H' D ea C t B d I.ok ⟨fun h6 x1 x2 x3=>mk h6 x1 ((sm4.trans sm5).trans x2) x3,f5,⟨o5,e5,hdo.dk d5 g5⟩⟩ (hE ea _ hea (cX hea) aC (fun dx z=>by obtain⟨fs,q⟩:=hdx dx z;exact⟨fs,by rw[aG (hne dx z)];exact q⟩))
 ·intro f s1 hsp;cases f with
  | next =>obtain⟨σ9,H9,I9,q9⟩:=hsp;exact lZ ⟨σ9,H9,I9.kN,q9⟩
  | brk =>obtain⟨σ9,H9,I9,q9⟩:=hsp;exact⟨σ9,H9,I9.kN,q9⟩
  | cont =>obtain⟨σ9,H9,I9,q9⟩:=hsp;exact⟨σ9,H9,I9.kN,q9⟩
  | ret u =>obtain⟨v9,σ9,H9,I9,r9,q9⟩:=hsp;exact⟨v9,σ9,H9,I9.kN,r9,q9⟩
end
theorem Gu {js:Za}{σ:St}{tc:TT}{te:TE}{Q:VK} (hx:Æ K H1 a xs) (hl:⇑xs<sizeLine) (pr:Nat->Bool) (g:Nat->V)
  (hc:∀ (i:Nat) x,xs[i]?=some x->∀ H,a9 H1 H->∀ R:Bool->Hp->Prop,(∀ H',a9 H H'->R (pr i) H')->tc (some (.int (i:Int))::some x::js.map fun j=>(σ[j]?).join) H R)
  (he:∀ (i:Nat) x,xs[i]?=some x->pr i=true->∀ H,a9 H1 H->∀ R:VK,(∀ H',a9 H H'->R (g i) H')->te (some (.int (i:Int))::some x::js.map fun j=>(σ[j]?).join) H R)
  (q:∀ D H,H1 D=none->a9 H1 H->H D=some (.lst (((List.range ⇑xs).filter pr).map g))->Q (.ref D) H):eE (Em K 2 (oZ (fG 0) (oZ (fG 1) El))) tc te (hO 2 js σ) (ú K a) H1 Q:=by
 intro D hD;refine⟨fun i m ys σ1 H=>m=⇑xs-i/\i<=⇑xs/\(∃ o1 o2,σ1=o1::o2::js.map fun j=>(σ[j]?).join)/\ys=((List.range i).filter pr).map g/\a9 H1 H/\H D=some (.lst ys),
  ⟨⇑xs,by simp,bc _,⟨none,none,rfl⟩,by simp,(a9.refl H1).cf hD,aC⟩,?_⟩
 rintro i m ys σ1 H ⟨rfl,hi,⟨o1,o2,rfl⟩,rfl,sH,hL⟩;have hyn:⇑(((List.range i).filter pr).map g)<=i:=by
  rw[af];have:=jU pr (List.range i)
  rwa [cJ] at this
 refine⟨hL,⋯,?_⟩
 by_cases hlt:i<⇑xs
 ·have e:xs[i]?=some xs[i]:=aD hlt;refine .inr ⟨⟨xs,xs[i],sH.seq hx,e⟩,fun v H' hyl=>?_⟩;obtain⟨x,p,hx',rfl,hp,rfl⟩:=hyl;have ex:=hx' xs (sH.seq hx);have hpD:D≠p:=aQ hL hp;refine⟨p,[.int (i:Int),x],rfl,Û.of aC,rfl,.int (i:Int),[x],rfl,x,[],rfl,rfl,?_⟩;have s1:a9 H1 (upd H p (.tup [.int (i:Int),x])):=sH.cf (sH.free hp);have hL1:upd H p (.tup [.int (i:Int),x]) D=some (.lst (((List.range i).filter pr).map g)):=by rw[aG hpD];exact hL
  have rs:List.range (i+1)=List.range i++[i]:=jW;show tc (some (.int (i:Int))::some x::js.map fun j=>(σ[j]?).join) _ _;refine hc i x ex _ s1 _ fun H4 s4=>?_;have hL4:=s4 _ _ hL1;cases hpr:pr i with
  | false =>rw[ag cu];exact⟨⇑xs-(i+1),⋯,rfl,hlt,⟨_,_,rfl⟩,by rw[rs,iq];simp [hpr],s1.trans s4,hL4⟩
  | true =>rw[ai rfl];refine he i x ex hpr _ (s1.trans s4) _ fun H5 s5=>⟨s5 _ _ hL4,⇑xs-(i+1),⋯,rfl,hlt,⟨_,_,rfl⟩,?_,((s1.trans s4).trans s5).cf hD,aC⟩;rw[rs,iq,bM];simp [hpr]
 ·have e:i=⇑xs:=⋯
  subst e;exact .inl ⟨⟨xs,sH.seq hx,av _⟩,q D H hD sH hL⟩
end
section
theorem Jy (t:SetTable) (es:Array (Int×Value)) (h:Int) (x:Value):(layNew t es h x).2.1.led=t.led:=by
 unfold layNew;split
 ·show (SetTable.orStandIn _ _).led=_;unfold SetTable.orStandIn;split<;>rfl
 ·rfl
theorem EI (t:SetTable) (es:Array (Int×Value)) (n:Nat):(relayAll t es n).2.1.led=t.led/\(t.plain=false->(relayAll t es n).2.1.plain=false):=by
 unfold relayAll;split
 ·rename_i t' order e
  have e2:t'.led=t.led/\t'.plain=t.plain:=by
   unfold SetTable.relaid SetTable.laid at e;cases hL:SetTable.layClean (SetTable.sizeAbove n-1) (es.map (·.1)) with
   | none=>rw[hL] at e;cases e
   | some o=>rw[hL] at e;cases e;exact⟨rfl,rfl⟩
  dsimp only;split
  ·exact⟨e2.1,fun h=>e2.2.trans h⟩
  ·exact⟨rfl,fun _=>rfl⟩
 ·exact⟨rfl,fun _=>rfl⟩
noncomputable def rW (P:Zh) (w:Zi) (lb:Bool) (h:Heap) (a:Addr) (l:List Key):Prop:=∃ o es ep t,h.get? a=some o/\o.ExactSet/\o.data=.set es ep t/\ElemsOf (bj P w) es.toList/\(∀ k,gk k l=true↔∃ e∈es.toList,kr k e.2=true) ∧
 es.size<scanBound/\t.fits es.size=true/\es.size=⇑l/\t.led=lb/\(es.size≠0->t.plain=false)
section
variable {prog:Zh}{w:Zi}{A:Around}{E:Zq}{s:Zg}
theorem MN {l:List Key}{z:Str}{tk:Tok}{Q:Bool->Zg->Prop} (hS:rW prog w lb s.heap a l) (hroom:⇑l+1<scanBound)
  (h:∀ h',Heap.SameBut a s.heap h'->rW prog w lb h' a (if gk (.inr z) l=true then l else l++[.inr z])->Q (!gk (.inr z) l) { s with heap:=h' }) :
  wpAny (model prog w) A (setAddHashed a (.str z tk) ((bj prog w).hash (.inr z))) Q E s:=by
 obtain⟨o,es,ep,t,ho,hex,hd,hel,hmem,hb,hf,hn,hled,hpl⟩:=hS;have hkey:(bj prog w).is (.inr z) (.str z tk)=true:=oM z tk;have hsc:(Value.str z tk).scannable=true:=rfl;have hb1:es.size+1<scanBound:=by rw[hn];exact hroom
 unfold setAddHashed setAddHashedIn;refine cB (aa (j3 ho hd hf ?_));dsimp only;rw[byScan_of hsc hb hel];simp only[↓reduceIte];unfold setAddByScan;refine aa (aa (dU (aa (wpAny_setScan_of hkey ho hd hf hel ?_))));cases hr:List.findIdx? (fun e=>(bj prog w).is (.inr z) e.2) es.toList with
 | some j =>dsimp only;obtain⟨hj,hpj,_⟩:=List.findIdx?_eq_some_iff_getElem.mp hr;have hSk:gk (.inr z) l=true:=(hmem _).mpr ⟨es.toList[j],cZ hj,hpj⟩;refine aq (aq ?_);have:=h s.heap (Heap.SameBut.refl a s.heap);rw[hSk,ai rfl] at this;exact this ⟨o,es,ep,t,ho,hex,hd,hel,hmem,hb,hf,hn,hled,hpl⟩
 | none =>
  dsimp only;have hSk:gk (.inr z) l=false:=by
   cases hk:gk (.inr z) l with
   | false=>rfl
   | true=>obtain⟨e,he,hp⟩:=(hmem _).mp hk;have:=List.findIdx?_eq_none_iff.mp hr e he;rw[show (bj prog w).is (.inr z) e.2=kr (.inr z) e.2 from rfl,hp] at this;cases this
  rw[hSk,ag (by decide)] at h;have hgw:∀ (b:Bool) {s₁:Zg}{Q':Unit->Zg->Prop},Q' () s₁->wpAny (model prog w) A (match b with | true=>rule "set.scan.the-table-gave-way" | false=>pure ()) Q' E s₁:=fun b s₁ Q' hq=>by
   cases b
   ·exact aq hq
   ·exact dU hq
  have hperm:=layNew_perm t es ((bj prog w).hash (.inr z)) (.str z tk);have hfits:=layNew_fits t es ((bj prog w).hash (.inr z)) (.str z tk);have hl1:=Jy t es ((bj prog w).hash (.inr z)) (.str z tk);generalize layNew t es ((bj prog w).hash (.inr z)) (.str z tk)=L at hperm hfits hl1 ⊢;obtain⟨es1,t1,wasDummy,gave⟩:=L;dsimp only at hperm hfits hl1 ⊢;rw[rK] at hperm;have hel1:ElemsOf (bj prog w) es1.toList:=(hel.push hkey hsc).perm hperm;have hmem1:∀ k',gk k' (l++[.inr z])=true↔∃ e∈es1.toList,kr k' e.2=true:=fun k'=>by have:=mem_push_iff (knd:=bj prog w) hkey hmem hperm k';rw[wW,show decide (Sum.inr z=k')=decide (k'=Sum.inr z) from oE.mpr ⟨Eq.symm,Eq.symm⟩];exact this
  have hsz1:es1.size=⇑(l++[(Sum.inr z:Key)]):=by rw[←cD,hperm.length_eq,aF,cD,hn,aF];rfl
  have hb1':es1.size<scanBound:=by rw[hsz1,aF];exact hroom
  refine aa (hgw _ ?_);have tail:∀ t2:SetTable,t2.fits es1.size=true->t2.led=lb->t2.plain=false->wpAny (model prog w) A (do
    storeSet a es1 t2
    if (!wasDummy&&t2.tooFull)=true then do
      (match (relayAll t2 es1 (SetTable.grown es1.size)).2.2 with | true=>rule "set.scan.the-table-gave-way" | false=>pure ())
      storeSet a (relayAll t2 es1 (SetTable.grown es1.size)).1 (relayAll t2 es1 (SetTable.grown es1.size)).2.1
      pure (some true)
     else pure (some true)) (fun r s'=>r=some true/\Q true s') E s:=fun t2 hf2 hl2 hp2=>by
   refine aa (wpAny_storeSet_of ho hd ?_ (fits_of_scanBound hb1'));have ho1:(s.heap.update a (Obj.putSet es1 t2)).get? a=some { o with data:=.set es1 (ep+1) t2 }:=by have:=fV (Obj.putSet es1 t2) ho (by rw[putSet_of es1 t2 hd];rfl);rw[putSet_of es1 t2 hd] at this;exact this
   have hsb1:=Heap.SameBut.update s.heap a (Obj.putSet es1 t2);split
   ·have hp:=relayAll_perm t2 es1 (SetTable.grown es1.size);have hfr:=relayAll_fits t2 es1 (SetTable.grown es1.size);have hlr:=EI t2 es1 (SetTable.grown es1.size);generalize relayAll t2 es1 (SetTable.grown es1.size)=Rl at hp hfr hlr ⊢;obtain⟨es2,t3,gave2⟩:=Rl;dsimp only at hp hfr hlr ⊢;have hsz:es2.size=es1.size:=by rw[←cD,hp.length_eq,cD]
    refine aa (hgw _ ?_);refine aa (wpAny_storeSet_of ho1 rfl ?_ (fits_of_scanBound (by rw[hsz];exact hb1')));have ho2:((s.heap.update a (Obj.putSet es1 t2)).update a (Obj.putSet es2 t3)).get? a=some { o with data:=.set es2 (ep+1+1) t3 }:=by have:=fV (Obj.putSet es2 t3) ho1 (by rw[putSet_of es2 t3 rfl];rfl);rw[putSet_of es2 t3 rfl] at this;exact this
    exact aq ⟨rfl,h _ (hsb1.trans (Heap.SameBut.update _ a _)) ⟨_,es2,_,t3,ho2,hex,rfl,hel1.perm hp,fun k'=>(hmem1 k').trans ⟨fun ⟨e,he,q⟩=>⟨e,hp.mem_iff.mpr he,q⟩,fun ⟨e,he,q⟩=>⟨e,hp.mem_iff.mp he,q⟩⟩,by rw[hsz];exact hb1',hfr,hsz.trans hsz1,hlr.1.trans hl2,fun _=>hlr.2 hp2⟩⟩
   ·exact aq ⟨rfl,h _ hsb1 ⟨_,es1,_,t2,ho1,hex,rfl,hel1,hmem1,hb1',hf2,hsz1,hl2,fun _=>hp2⟩⟩
  have fin:∀ {m:Sem (Option Bool)},wpAny (model prog w) A m (fun r s'=>r=some true/\Q true s') E s->wpAny (model prog w) A m (fun r s'=>wpAny (model prog w) A (match r with | some added=>pure added | none=>setAddHashedIn a (.str z tk) ((bj prog w).hash (.inr z)) 99999) Q E s') E s:=fun hm=>bO hm (fun r s' ⟨e,q⟩=>by rw[e];exact aq q) fun _ _ x=>x;split
  ·refine aa ?_;rw[hashByValue_scannable 8 hsc];refine aq ?_;exact fin (tail _ (SetTable.fits_plain_off hfits) (hl1.trans hled) rfl)
  ·rename_i hnp
   refine aa (aq ?_);simp only[↓reduceIte];exact fin (tail _ hfits (hl1.trans hled) (by simpa using hnp))
theorem DJ (a:Value) {Q₁:Zq}
  (h:Q₁ (.ref s.heap.objs.size) { s with heap:=s.heap.push { cls:=.type "set",dict:=none,data:=.set #[] 0 (.fresh 0 0 (!w.params.followText "set-order")) } }) :
  codeAny (model prog w) A (.call (.builtin "set.__new__") ⟨[.type "set",a],[]⟩) (wants Q₁ E) s:=by
 refine codeAny_of_tree ?_;show wpAny _ A.in1 (do checkBuiltinCall "set.__new__" ⟨[.type "set",a],[]⟩;again (.builtin "set.__new__" ⟨[.type "set",a],[]⟩)) _ _ s;refine aa (wpAny_of_eq (F.newCall_set_1 a) (aq ⟨lV F.plain_set_new _,gf F.entry_set_new ?_⟩));rw[qE F.plain_set_new _];unfold Builtin.«set.__new__» Builtin.Frozenset.newClass;have hsub:=sub_set_self;obtain⟨hp,g,d,tk,os⟩:=s;dsimp only
 wp_walk
 refine lX (aq ?_);dsimp only;simp only[newObj];refine aa (wpAny_alloc (aq ?_));exact aq h
end
section
variable {prog:Zh}{w:Zi}{A:Around}{R:Result->Zg->Prop}{c:Addr}{fp wr:List Addr}{G:Array GenState->Array GenState->Prop}{n:Nat}{Pv:Nat->Value->Prop}{Sv:Nat->Zg->Prop}
theorem EX (W:WalksS prog w A.in1 c fp wr G n Pv Sv) (a:Addr) (na:a∉fp) (val:Nat->Key) {lb:Bool} (hv:∀ i v,Pv i v->∃ z tk,v=Value.str z tk/\val i=Sum.inr z) (hb:n+1<scanBound) :
  ∀ (k i:Nat) (s:Zg),n-i=k->i<=n->Sv i s->rW prog w lb s.heap a (cz val i) →
   (∀ s',Moved (a::wr) G s s'->rW prog w lb s'.heap a (cz val n)->R (.ok (.ret .none)) s') →
   codeAny (model prog w) A (.builtin "set.update.loop" ⟨[.ref a,.ref c],[]⟩) R s:=by
 have nw':a∉wr:=fun z=>na (W.sub _ z);have sb:∀ b∈wr,b∈a::wr:=fun b h=>aV _ h;have mD:∀ {s s':Zg}{l:List Key},Moved wr G s s'->rW prog w lb s.heap a l->rW prog w lb s'.heap a l:=fun mv x=>by obtain⟨o,es,ep,t,ho,r⟩:=x;exact⟨o,es,ep,t,mv.heap a _ nw' ho,r⟩
 intro k
 induction k with
 | zero =>
  intro i s hk hi st x q;have e:i=n:=⋯
  subst e;refine gf rQ ?_;rw[qE lT _];show wpAny _ A.in1 (pyNext (.ref c) >>= _) _ _ s;refine aa (W.done s _ _ st fun s' mv=>?_);exact aq (q s' (mv.mono sb) (mD mv x))
 | succ k ih =>
  intro i s hk hi st x q;have lt:i<n:=⋯
  refine gf rQ ?_;rw[qE lT _];show wpAny _ A.in1 (pyNext (.ref c) >>= _) _ _ s;refine aa (W.item i s _ _ lt st fun v s' pv st' mv=>?_);obtain⟨z,tk,rfl,hvi⟩:=hv i v pv;have x':=mD mv x;show wpAny _ A.in1 (holding [.str z tk] (setAdd a (.str z tk)) >>= _) _ _ s';refine aa (cB ?_);unfold setAdd;refine cB ?_;refine aa ((bj prog w).pyHash (k:=.inr z) (oM z tk) ?_);have room:⇑(cz val i)+1<scanBound:=by have:=mX val i;left
  refine MN (s:={ s' with toks:=s'.toks+1 }) x' room fun g sg xg=>?_;have x2:rW prog w lb g a (cz val (i+1)):=by show rW prog w lb g a (if gk (val i) (cz val i)=true then cz val i else cz val i++[val i]);rw[hvi];exact xg
  refine aq ⟨lV lT _,ih (i+1) _ ⋯ lt (W.frame _ s' _ _ st' (fZ _) fun b hb o e=>?_) x2 fun s'' mv2 x3=>?_⟩
  ·rw[sg.2 b (fun z:b=a=>na (by rw[←z];exact hb))];exact e
  ·refine q s'' (Moved.trans W.gtrans ((mv.mono sb).then_heap (fZ _) fun b o hb e=>?_) mv2) x3;rw[sg.2 b (fun z:b=a=>hb (by rw[z];exact aR))];exact e
end
set_option maxRecDepth 100000 in
set_option maxHeartbeats 4000000 in
theorem yw {prog:Zh}{w:Zi}{A:Around}{E:Zq}{l:Addr}{items:Array Value}{val:Nat->Key}{Q:Zq} (hh:A.handled=none) (hl:s.heap.IsList l items)
  (hval:∀ (i:Nat) (v:Value),items[i]?=some v->∃ z tk,v=Value.str z tk/\val i=Sum.inr z) (hb:items.size+1<scanBound)
  (q:∀ (g:Heap) (tk:Nat),rW prog w (!w.params.followText "set-order") g s.heap.objs.size (cz val items.size)->(∀ b o,b<s.heap.objs.size->s.heap.get? b=some o->g.get? b=some o) →
   Q (.ref s.heap.objs.size) { s with heap:=g,toks:=tk }):wpAny (model prog w) A (call (.type "set") [.ref l]) Q E s:=by
 obtain⟨c,tl,hmro⟩:=eJ.mro;have hmade:=eJ.made;have hsub:=eJ.sub;refine i4 (codeAny_of_tree ?_);show wpAny _ _ (callAny (.type "set") _) _ _ _;refine aq ⟨Code.quiet_builtin _ (by nofun),gf F.entry_type_call ?_⟩;rw[Around.under_plain (weight_type_call_type "set" [.ref l] []) rfl];have h1:=eJ.notType;have h2:=eJ.canCreate;have hct:=F.typeCall_set_1 (.ref l)
 repeat (any_goals (first | assumption | wp_step))
 refine gE (DJ (.ref l) (E:=E) (Q₁:=fun ob s1=>ob=.ref s.heap.objs.size/\s1={ s with heap:=s.heap.push { cls:=.type "set",dict:=none,data:=.set #[] 0 (.fresh 0 0 (!w.params.followText "set-order")) } }) ⟨rfl,rfl⟩) fun r s1 hr=>?_;cases r with
 | error e=>exact hr
 | ok fl =>
  cases fl with
  | ret ob =>
   obtain⟨rfl,rfl⟩:=hr;generalize hg1:s.heap.push { cls:=.type "set",dict:=none,data:=.set #[] 0 (.fresh 0 0 (!w.params.followText "set-order")) }=g1;have hS:g1.get? s.heap.objs.size=some { cls:=.type "set",dict:=none,data:=.set #[] 0 (.fresh 0 0 (!w.params.followText "set-order")) }:=by rw[←hg1];exact bz _ rfl
   have hsz:g1.objs.size=s.heap.objs.size+1:=by rw[←hg1,iQ]
   have hkp:∀ b o,s.heap.get? b=some o->g1.get? b=some o:=fun b o e=>by rw[←hg1];exact aE _ e
   have hT:Shared.TypeIs { s with heap:=g1 } (.ref s.heap.objs.size) "set":=⟨_,hS,rfl⟩;have hli:=eJ.init.lookup;have hbi:=eJ.init.bind (.ref s.heap.objs.size)
   repeat (any_goals (first | assumption | wp_step))
   refine gE (oC (R:=wants (fun r s2=>r=.none/\∃ g tk,s2={ s with heap:=g,toks:=tk }/\rW prog w (!w.params.followText "set-order") g s.heap.objs.size (cz val items.size) ∧
     (∀ b o,b<s.heap.objs.size->s.heap.get? b=some o->g.get? b=some o)) E) eJ.init.plain F.entry_set_init (check_set_init_1 hT ?_)) fun r2 s2 hr2=>?_
   ·obtain⟨ol,hol,hcl,nl,hdl⟩:=id hl;obtain⟨ocls,odict,odata,oslots⟩:=ol;simp only at hcl hdl;subst hcl;subst hdl;have hol':=hkp _ _ hol;have hsls:=F.sub_list_set;have hslf:=F.sub_list_frozenset;have hne:(Value.type "list"==Value.type "dict")=false:=by decide
    have hl1:g1.IsList l items:=⟨_,hol',rfl,nl,rfl⟩;have hh3:A.in1.in1.in1.handled=none:=by simp [hh]
    have hlS:l<s.heap.objs.size:=aH hol;have hneI:l≠g1.objs.size:=by rw[hsz];exact bh (gb hlS)
    have na:s.heap.objs.size∉[g1.objs.size,l]:=by simp only[aU,dO,dP,not_or];exact⟨⋯,gB hlS⟩
    unfold Builtin.«set.__init__» noKeywords Builtin.Frozenset.updateFrom;generalize hPI:pyIter=PI
    wp_walk
    subst hPI;refine wpAny_pyIter_list hl1 ?_;refine aa (wpAny_runValue ?_);refine EX (lb:=!w.params.followText "set-order") ((Walks.list hh3 _ l hneI items).toS) s.heap.objs.size na val hval hb (items.size-0) 0 _ ⋯ (bc _) ⟨⟨_,bz _ rfl,rfl,rfl⟩,(hl1.push _)⟩ ?_ fun s' mv x=>?_
    ·exact⟨_,#[],0,_,aE _ hS,⟨rfl,rfl,rfl⟩,rfl,(fun e he=>by simp at he),(fun k=>by show (false=true)↔_;simp),Zd,by rfl,rfl,rfl,fun z=>absurd rfl z⟩
    ·obtain⟨g,ge,d,tk,os⟩:=s';have eg:ge=s.gens:=mv.gens;have ed:d=s.drawn:=mv.drawn;have eo:os=s.os:=mv.os;subst eg;subst ed;subst eo;refine aq ?_;show wpAny _ _ (ret Value.none) _ _ _;refine aq ⟨rfl,g,tk,rfl,x,fun b o hb e=>mv.heap b o ?_ (aE _ (hkp b o e))⟩;simp only[aU,dO,dP,not_or];rw[hsz];exact⟨bh hb,bh (gb hb)⟩
   ·cases r2 with
    | error e=>exact hr2
    | ok fl2 =>
     cases fl2 with
     | ret v =>
      obtain⟨rfl,g,tk,rfl,x1,x2⟩:=hr2
      repeat (any_goals (first | assumption | wp_step))
      exact q _ _ x1 x2
     | _=>exact hr2.elim
  | _=>exact hr.elim
end
section
theorem fQ:Slot "set_iterator" "__next__" "set_iterator.__next__" :=
 .of (owner:="set_iterator") (n:="__next__") (by rw[typeLookup_type,builtinLookup_eq_fast];ext) (by nofun) (by nofun) (by nofun)
  (by first | exact .inl (by nofun) | exact .inr (by nofun)) (by rw[isSubtype_type];ext)
theorem oJ:entryFor table "set_iterator.__next__"=some Builtin.«set_iterator.__next__»:=entryFor_of_tree (by ext)
theorem CL:Manifest.owners.lookup (String.ofList ['r','o','t','a','r','e','t','i','_','t','e','s'].reverse)=some Manifest.sig_set_iterator:=by ext
theorem qJ (a:Value):argsOk "set_iterator.__next__" ⟨[a],[]⟩:=by unfold argsOk;rw[signature?_of (id:="set_iterator.__next__") (n:=['_','_','t','x','e','n','_','_']) (o:=['r','o','t','a','r','e','t','i','_','t','e','s']) (by ext) CL];ext
theorem yQ:entryFor table "set.__iter__"=some Builtin.«frozenset.__iter__»:=entryFor_alias (id':="frozenset.__iter__") (by ext) rfl (by nofun) (by ext)
noncomputable def m6 (f:Value) (i:Nat) (a:Addr) (n ep:Nat):Obj:={ cls:=.type "set_iterator",data:=.fields #[f,.int i 0,.ref a,.int n 0,.int ep 0] }
theorem pR {α:Type}:∀ {l:List α}{j:Nat} (h:j<⇑l),(l[j]::l.eraseIdx j).Perm l
 | a::l,0,_=>List.Perm.refl _
 | a::l,j+1,h=>(List.Perm.swap a _ _).trans ((pR (l:=l) (j:=j) (by simpa using h)).cons a)
section
variable {prog:Zh}{w:Zi}{A:Around}{E:Zq}{s:Zg}
theorem Gb {r:Addr}{Q:Bool->Zg->Prop} (hT:s.TypeIs (.ref r) "set") (h:Q false s):wpAny (model prog w) A (Builtin.List.listLengthHint (.ref r)) Q E s:=by
 unfold Builtin.List.listLengthHint;refine aa (wpAny_specialOf hT F.slot_set_len.lookup ?_);generalize Ô:("set.__len__":String)=id0
 wp_delta
 rw[show splitId id0=some ("set","__len__") from by subst Ô;nofun];subst Ô;refine aa (wpAny_isInstance (T:="set") (b:=true) hT (by rw[isSubtype_type];ext) ?_);refine wpAny_ite_split (fun hab=>absurd hab (by decide)) (fun _=>?_);refine wpAny_ite_split (fun _=>?_) (fun hab=>absurd (by nofun) hab);refine aa (wpAny_typeOf hT ?_);exact aq h
theorem Df {it a:Addr}{ep i slot nx:Nat}{t:SetTable}{x:Value}{Q:Option Value->Zg->Prop} (hi:s.heap.get? it=some (m6 (.int slot 0) i a es.size ep)) (ho:s.heap.get? a=some o) (hd:o.data=.set es ep t) (hf:t.fits es.size=true)
  (hN:∀ {A':Around}{E':Zq}{Q':Option (Value×Nat)->Zg->Prop},Q' (some (x,nx)) s->wpAny (model prog w) A' (setNext a slot i ep) Q' E' s)
  (k:∀ h',h'.get? it=some (m6 (.int nx 0) (i+1) a es.size ep)->Heap.SameBut it s.heap h'->Q (some x) { s with heap:=h' }):wpAny (model prog w) A (pyNext (.ref it)) Q E s:=by
 have ty:s.TypeIs (.ref it) "set_iterator":=⟨_,hi,rfl⟩;unfold pyNext;refine aa (lY (wpAny_callSpecial?_slot (name:=Str.ofString "__next__") ty fQ (i5 fQ ty oJ ?_ (qJ _))));unfold Builtin.«set_iterator.__next__» slotArgs;refine show wpAny _ _ (fieldsOf (.ref it) >>= _) _ _ s from aa (wpAny_fieldsOf hi rfl ?_)
 refine show wpAny _ _ (setEntries a >>= _) _ _ s from aa (lH ho hd hf ?_)
 rw[ag (by simp)];refine show wpAny _ _ (setNext a ((slot:Nat):Int).toNat ((i:Nat):Int).toNat ((ep:Nat):Int).toNat >>= _) _ _ s from ?_
 rw[c8,c8,c8];refine aa (hN ?_);refine show wpAny _ _ (setField (.ref it) 0 (rawInt (nx:Int)) >>= _) _ _ s from aa (wpAny_setField_rec hi (by simp) fun h1 g1 b1=>?_)
 refine show wpAny _ _ (setField (.ref it) 1 (rawInt ((i:Int)+1)) >>= _) _ _ { s with heap:=h1 } from aa (wpAny_setField_rec g1 (by simp) fun h2 g2 b2=>?_)
 exact aq ⟨_,rfl,aq (k h2 (by rw[g2];rfl) (b1.trans b2))⟩
theorem Af {f v1 v2 v3 v4:Value}{Q:Option Value->Zg->Prop} (hh:A.handled=none) (hi:s.heap.get? it=some { cls:=.type "set_iterator",data:=.fields #[f,v1,v2,v3,v4] }) (k:∀ h',Heap.ExtBut it s.heap h'->Q none { s with heap:=h' }) :
  wpAny (model prog w) A.in1 (do
    setField (.ref it) 2 .none
    let e ←newExc (.type "StopIteration") []
    raiseNew e) (fun (fin:PySem.Fin) s'=>∃ v,fin=.done (.ret v)/\wpAny (model prog w) A (pure (some v)) Q E s')
   (fun e s'=>wpAny (model prog w) A (do if (←isInstance e (.type "StopIteration"))=true then pure none else throw e) Q E s') s:=by
 refine aa (wpAny_setField_rec hi (by simp) fun h1 g1 b1=>?_);refine show wpAny _ _ (newExc (.type "StopIteration") [] >>= _) _ _ _ from aa ?_
 simp only[newExc,newTuple];refine aa (kf (aa (m:=firstArgMember _ _) (wpAny_of_eq (a:=Value.none) (by first | rfl | (simp only[firstArgMember];rfl)) ?_)) (by size_fits));refine kf ?_ (by size_fits);simp only[raiseNew];refine aa (wpAny_handled ?_);rw[show A.in1.handled=none from hh];refine aa (aq (wpAny_throw ?_));refine aa (wpAny_isInstance (T:="StopIteration") (b:=true) ⟨_,bz _ rfl,rfl⟩ isSubtype_stop (aq ?_));exact (k _ ((b1.extBut.push _).push _))
theorem tN {it a:Addr}{ep i slot:Nat}{t:SetTable}{Q:Option Value->Zg->Prop} (hh:A.handled=none) (hi:s.heap.get? it=some (m6 (.int slot 0) i a es.size ep)) (ho:s.heap.get? a=some o) (hd:o.data=.set es ep t) (hf:t.fits es.size=true)
  (hN:∀ {A':Around}{E':Zq}{Q':Option (Value×Nat)->Zg->Prop},Q' none s->wpAny (model prog w) A' (setNext a slot i ep) Q' E' s)
  (k:∀ h',Heap.ExtBut it s.heap h'->Q none { s with heap:=h' }):wpAny (model prog w) A (pyNext (.ref it)) Q E s:=by
 have ty:s.TypeIs (.ref it) "set_iterator":=⟨_,hi,rfl⟩;unfold pyNext;refine aa (lY (wpAny_callSpecial?_slot (name:=Str.ofString "__next__") ty fQ (i5 fQ ty oJ ?_ (qJ _))));unfold Builtin.«set_iterator.__next__» slotArgs;refine show wpAny _ _ (fieldsOf (.ref it) >>= _) _ _ s from aa (wpAny_fieldsOf hi rfl ?_)
 refine show wpAny _ _ (setEntries a >>= _) _ _ s from aa (lH ho hd hf ?_)
 rw[ag (by simp)];refine show wpAny _ _ (setNext a ((slot:Nat):Int).toNat ((i:Nat):Int).toNat ((ep:Nat):Int).toNat >>= _) _ _ s from ?_
 rw[c8,c8,c8];exact aa (hN (Af hh hi k))
theorem Kh {it a pt:Addr}{o ot:Obj}{ps:Array Value}{ep i pl e1:Nat}{tk:Tok}{t:SetTable}{h0:Int}{x:Value}{Q:Option Value->Zg->Prop} (hi:s.heap.get? it=some (m6 (.ref pt) i a es.size ep)) (ho:s.heap.get? a=some o) (hd:o.data=.set es ep t) (hf:t.fits es.size=true)
  (hp:s.heap.get? pt=some ot) (hpd:ot.data=.seq ps e1) (hpi:ps[i]?=some (.int pl tk)) (hx:es[pl]?=some (h0,x))
  (k:∀ h',h'.get? it=some (m6 (.ref pt) (i+1) a es.size ep)->Heap.SameBut it s.heap h'->Q (some x) { s with heap:=h' }):wpAny (model prog w) A (pyNext (.ref it)) Q E s:=by
 have ty:s.TypeIs (.ref it) "set_iterator":=⟨_,hi,rfl⟩;unfold pyNext;refine aa (lY (wpAny_callSpecial?_slot (name:=Str.ofString "__next__") ty fQ (i5 fQ ty oJ ?_ (qJ _))));unfold Builtin.«set_iterator.__next__» slotArgs;refine show wpAny _ _ (fieldsOf (.ref it) >>= _) _ _ s from aa (wpAny_fieldsOf hi rfl ?_)
 refine show wpAny _ _ (setEntries a >>= _) _ _ s from aa (lH ho hd hf ?_)
 rw[ag (by simp)];refine show wpAny _ _ (seqItems? (.ref pt) >>= _) _ _ s from aa (wpAny_seqItems hp hpd ?_)
 simp only[c8,hpi];refine aa ?_;unfold setNextDrawn;refine aa (j3 ho hd hf ?_);dsimp only;rw[ag (by simp),hx];refine aq ?_;refine show wpAny _ _ (setField (.ref it) 1 (rawInt ((i:Int)+1)) >>= _) _ _ s from aa (wpAny_setField_rec hi (by simp) fun h2 g2 b2=>?_)
 exact aq ⟨_,rfl,aq (k h2 (by rw[g2];rfl) b2)⟩
theorem Ae {it a pt:Addr}{o ot:Obj}{ps:Array Value}{ep i e1:Nat}{t:SetTable}{Q:Option Value->Zg->Prop} (hh:A.handled=none) (hi:s.heap.get? it=some (m6 (.ref pt) i a es.size ep)) (ho:s.heap.get? a=some o) (hd:o.data=.set es ep t) (hf:t.fits es.size=true)
  (hp:s.heap.get? pt=some ot) (hpd:ot.data=.seq ps e1) (hpi:ps[i]?=none) (k:∀ h',Heap.ExtBut it s.heap h'->Q none { s with heap:=h' }):wpAny (model prog w) A (pyNext (.ref it)) Q E s:=by
 have ty:s.TypeIs (.ref it) "set_iterator":=⟨_,hi,rfl⟩;unfold pyNext;refine aa (lY (wpAny_callSpecial?_slot (name:=Str.ofString "__next__") ty fQ (i5 fQ ty oJ ?_ (qJ _))));unfold Builtin.«set_iterator.__next__» slotArgs;refine show wpAny _ _ (fieldsOf (.ref it) >>= _) _ _ s from aa (wpAny_fieldsOf hi rfl ?_)
 refine show wpAny _ _ (setEntries a >>= _) _ _ s from aa (lH ho hd hf ?_)
 rw[ag (by simp)];refine show wpAny _ _ (seqItems? (.ref pt) >>= _) _ _ s from aa (wpAny_seqItems hp hpd ?_)
 simp only[c8,hpi];refine aa (wpAny_setField_rec hi (by simp) fun h1 g1 b1=>?_);exact Af (s:={ s with heap:=h1 }) hh (g1.trans rfl) fun h' x=>k h' (b1.extBut.trans x)
theorem A6 {src:Source}{n:Nat}{Q:Nat->Zg->Prop} (hn:n≠0) (k:∀ j d,j<n->Q j { s with drawn:=d }):wpAny M A (choose src n) Q E s:=fun _ _ _=>⟨hn,k _ _ (Nat.mod_lt _ (Nat.pos_of_ne_zero hn))⟩
theorem yO {M:Model}{α:Type}:∀ (n:Nat) (xs:List α) (s:Zg) {Q:List α->Zg->Prop},n=⇑xs->(∀ ys d,ys.Perm xs->Q ys { s with drawn:=d })->wpAny M A (drawOrder n xs) Q E s
 | 0,xs,s,Q,e,k=>by have:=k [] s.drawn (by rw[oi.mp e.symm]);unfold drawOrder;exact aq this
 | n+1,[],s,Q,e,k=>by cases e
 | n+1,x::xs,s,Q,e,k=>by unfold drawOrder;refine aa (A6 (by simp) fun j d hj=>?_);rw[aD hj];dsimp only;refine aa (yO n _ _ (by rw[List.length_eraseIdx_of_lt hj];simp at e ⊢;left) fun ys d2 hp=>aq (k _ _ ?_));exact (hp.cons _).trans (pR hj)
theorem CO {α:Type} (nx:Nat->Nat):∀ (f k:Nat) (l:List α) (out:Array α),f=⇑l->(pickOrder.go nx f k l out).toList.Perm (out.toList++l)
 | 0,k,l,out,e=>by rw[oi.mp e.symm,dM];unfold pickOrder.go;exact List.Perm.refl _
 | f+1,k,l,out,e=>by
  have hl:0<⇑l:=⋯
  have hj:nx k%⇑l<⇑l:=Nat.mod_lt _ hl;unfold pickOrder.go;rw[aD hj];dsimp only;refine (CO nx f (k+1) _ _ (by rw[List.length_eraseIdx_of_lt hj];left)).trans ?_;rw[rK,bJ];exact (pR hj).append_left _
theorem sJ {α:Type} (nx:Nat->Nat) (xs:Array α):(pickOrder nx xs).toList.Perm xs.toList:=by
 have:=CO nx xs.size 0 xs.toList #[] (by simp);show (pickOrder.go nx xs.size 0 xs.toList #[]).toList.Perm xs.toList
 simpa using this
theorem GJ {ep i slot:Nat}{t:SetTable}{Q:Option (Value×Nat)->Zg->Prop} (hT:w.params.followText "set-order"=true) (ho:s.heap.get? a=some o) (hd:o.data=.set es ep t) (hf:t.fits es.size=true)
  (k:Q (((pickOrder (w.params.setOrder a ep) es)[i]?).map fun e=>(e.2,slot)) s):wpAny (model prog w) A (setNext a slot i ep) Q E s:=by
 unfold setNext;refine aa (j3 ho hd hf ?_);dsimp only;refine aa (show wpAny (model prog w) A (do return (←ask).params.followText "set-order") _ _ s from aa (lX (aq ?_)));rw[ai (show (Setting.params ⟨(model prog w).prog,(model prog w).w.params⟩).followText "set-order"=true from hT),ag (by simp)];refine aa ?_;unfold setWalk;refine aa (j3 ho hd hf ?_);dsimp only;refine aa (show wpAny (model prog w) A (do return (←ask).params.followText "set-order") _ _ s from aa (lX (aq ?_)));rw[ai (show (Setting.params ⟨(model prog w).prog,(model prog w).w.params⟩).followText "set-order"=true from hT)];refine aa (lX (aq ?_));exact aq k
theorem GI {ep i slot:Nat}{t:SetTable}{Q:Option (Value×Nat)->Zg->Prop} (hT:w.params.followText "set-order"=false) (ho:s.heap.get? a=some o) (hd:o.data=.set es ep t) (hf:t.fits es.size=true) (h1:es.size<=1) (hl:t.led=true)
  (k:Q (match es[SetTable.below t.place slot]?,t.place[SetTable.below t.place slot]? with | some (_,x),some j=>some (x,j+1) | _,_=>none) s):wpAny (model prog w) A (setNext a slot i ep) Q E s:=by
 unfold setNext;refine aa (j3 ho hd hf ?_);dsimp only;refine aa (show wpAny (model prog w) A (do return (←ask).params.followText "set-order") _ _ s from aa (lX (aq ?_)));rw[ag (by rw[show (Setting.params ⟨(model prog w).prog,(model prog w).w.params⟩).followText "set-order"=w.params.followText "set-order" from rfl,hT];decide)];split
 ·rename_i hdr
  exact absurd hdr (by show ¬ (!t.plain&&decide (es.size>1))=true;rw[ay ⋯,Bool.and_false];decide)
 ·refine aa (show wpAny (model prog w) A (if (!t.led&&!es.isEmpty)=true then unsupported "set:maker-not-led" else pure ()) _ _ s from ?_);rw[hl,ag (by simp)];exact aq (aq k)
theorem LK {t:SetTable}{Q:Zq} (ho:s.heap.get? a=some o) (hex:o.ExactSet) (hd:o.data=.set es ep t) (hf:t.fits es.size=true) (hb:es.size<scanBound) (hpl:es.size≠0->t.plain=false)
  (k1:(w.params.followText "set-order"=true∨es.size<=1)->Q (.ref s.heap.objs.size) { s with heap:=s.heap.push (m6 (.int ((0:Nat):Int) 0) 0 a es.size ep) })
  (k2:w.params.followText "set-order"=false->∀ (ps:Za) d,ps.Perm (List.range es.size)->Q (.ref (s.heap.objs.size+1)) { s with heap:=(s.heap.push { cls:=.type "tuple",data:=.seq (ps.map fun i:Nat=>Value.int (i:Int) 0).toArray }).push (m6 (.ref s.heap.objs.size) 0 a es.size ep),drawn:=d }) :
  wpAny (model prog w) A (pyIter (.ref a)) Q E s:=by
 have ty:s.TypeIs (.ref a) "set":=⟨o,ho,hex.1⟩;refine wpAny_pyIter_slot ty F.slot_set_iter (i5 F.slot_set_iter ty yQ ?_ (F.args_set_iter_1 _));unfold Builtin.«frozenset.__iter__» Builtin.Frozenset.slot0 slotArgs;simp only[List.isEmpty_nil,Bool.not_true,iH,↓reduceIte,bind_assoc,oj,bne_self_eq_false];unfold Builtin.Frozenset.addrOf Builtin.Frozenset.sizeOf;refine aa (aq ?_)
 try dsimp only
 refine aa (aq ?_);refine aa (aa (lH ho hd hf (aq ?_)));unfold setDrawn;refine aa (aa (j3 ho hd hf ?_));dsimp only;refine aa (show wpAny (model prog w) A.in1 (do return (←ask).params.followText "set-order") _ _ s from aa (lX (aq ?_)));refine aq ?_;have done:(w.params.followText "set-order"=true∨es.size<=1)->wpAny (model prog w) A.in1 (do
   let first ←pure (rawInt 0);let e ←setEpoch a;let f ←newFields "set_iterator" [first,rawInt 0,Value.ref a,rawInt (es.size:Int),rawInt (e:Int)]
   ret f) (fun fin s'=>∃ v,fin=PySem.Fin.done (Flow.ret v)/\∃ T' r,s'.TypeIs v T'/\typeLookup (Value.type T') (Str.ofString "__next__")=pure (some r)/\Q v s') E s:=fun hc=>by
  refine aa (aq (aa (wpAny_setEpoch_of ho hd hf ?_)));refine aa (kf (aq ⟨_,rfl,"set_iterator",_,⟨_,bz _ rfl,rfl⟩,fQ.lookup,?_⟩));exact k1 hc
 split
 ·rename_i hc
  have hc':(!w.params.followText "set-order"&&(!t.plain&&decide (es.size>1)))=true:=hc;rw[bT,bT,bN] at hc';have hT:w.params.followText "set-order"=false:=by simpa using hc'.1
  refine aa (yO es.size (List.range es.size) _ (by simp) fun ps d hp=>?_);have hz:⇑(ps.map fun i:Nat=>rawInt (i:Int))<=sizeLine:=by rw[af,hp.length_eq,cJ];exact fits_of_scanBound hb
  refine aa (wpAny_newTuple ?_ hz);have ho1:=aE (seqObj "tuple" (ps.map fun i:Nat=>rawInt (i:Int)).toArray 0) ho;refine aa (wpAny_setEpoch_of ho1 hd hf ?_);refine aa (kf (aq ⟨_,rfl,"set_iterator",_,⟨_,bz _ rfl,rfl⟩,fQ.lookup,?_⟩));have:=k2 hT ps d hp;rw[←size_push' s.heap (seqObj "tuple" (ps.map fun i:Nat=>rawInt (i:Int)).toArray 0)] at this;exact this
 ·rename_i hc
  have hc':¬ (!w.params.followText "set-order"&&(!t.plain&&decide (es.size>1)))=true:=hc;refine done ?_
  by_cases h1:es.size<=1
  ·exact .inr h1
  ·apply Or.inl;rw[hpl ⋯,a8 (show es.size>1 by left)] at hc'
   simpa using hc'
end
end
section
theorem Ag:Slot "set_iterator" "__iter__" "set_iterator.__iter__" :=
 .of (owner:="set_iterator") (n:="__iter__") (by rw[typeLookup_type,builtinLookup_eq_fast];ext) (by nofun) (by nofun) (by nofun)
  (by first | exact .inl (by nofun) | exact .inr (by nofun)) (by rw[isSubtype_type];ext)
theorem DS:entryFor table "set_iterator.__iter__"=some Builtin.«dict_keyiterator.__iter__»:=entryFor_alias (id':="dict_keyiterator.__iter__") (by ext) rfl (by nofun) (by ext)
theorem Fu (a:Value):argsOk "set_iterator.__iter__" ⟨[a],[]⟩:=by unfold argsOk;rw[signature?_of (id:="set_iterator.__iter__") (n:=['_','_','r','e','t','i','_','_']) (o:=['r','o','t','a','r','e','t','i','_','t','e','s']) (by ext) CL];ext
section
variable {prog:Zh}{w:Zi}{A:Around}{E:Zq}{s:Zg}
theorem BP {f:Value}{i n ep:Nat} (hi:s.heap.get? it=some (m6 f i a n ep)) (h:Q (.ref it) s):wpAny (model prog w) A (pyIter (.ref it)) Q E s:=by have ty:s.TypeIs (.ref it) "set_iterator":=⟨_,hi,rfl⟩;refine wpAny_pyIter_slot ty Ag (i5 Ag ty DS ?_ (Fu _));show wpAny _ _ (ret (.ref it)) _ _ s;exact aq ⟨_,rfl,"set_iterator",_,ty,fQ.lookup,h⟩
theorem Kt {I a:Addr}{t:SetTable} (hh:A.handled=none) (hne:a≠I) (hT:w.params.followText "set-order"=true) (hd:o.data=.set es ep t) (hf:t.fits es.size=true) :
  Walks prog w A I [I,a] [I] es.size (fun i v=>((pickOrder (w.params.setOrder a ep) es).toList.map (·.2))[i]?=some v) (fun i h=>h.get? I=some (m6 (.int ((0:Nat):Int) 0) i a es.size ep)/\h.get? a=some o) where
 sub:=fun b hb=>by simp at hb;simp [hb]
 frame:=fun _ _ _ st hk=>⟨hk I (by simp) _ st.1,hk a (by simp) _ st.2⟩
 item:=fun i s Q E hi st hQ=>by
  have hl:i<(pickOrder (w.params.setOrder a ep) es).size:=by rw[←cD,(sJ _ es).length_eq,cD];exact hi
  refine Df st.1 st.2 hd hf (x:=(pickOrder (w.params.setOrder a ep) es)[i].2) (nx:=0) (fun q=>GJ hT st.2 hd hf (by rw[gu hl];exact q)) fun h' g b=>?_;refine hQ _ h' s.toks ?_ ⟨g,(b.2 a hne).trans st.2⟩ fun c u hc e=>(b.2 c (by simpa using hc)).trans e;rw[aS,eI,gu hl];rfl
 done:=fun s Q E st hQ=>by
  have hl:(pickOrder (w.params.setOrder a ep) es).size=es.size:=by rw[←cD,(sJ _ es).length_eq,cD]
  exact tN hh st.1 st.2 hd hf (fun q=>GJ hT st.2 hd hf (by rw[qF ⋯];exact q)) fun h' x=>hQ h' s.toks fun b u hb e=>x b u (by simpa using hb) e
 self:=fun _ _ _ _ st hQ=>BP st.1 hQ
theorem Kr {I a pt:Addr}{o ot:Obj}{ep e1:Nat}{t:SetTable}{ps:Za} (hh:A.handled=none) (hne:a≠I) (hnp:pt≠I) (hd:o.data=.set es ep t) (hf:t.fits es.size=true) (hpd:ot.data=.seq (ps.map fun i:Nat=>Value.int (i:Int) 0).toArray e1) (hp:ps.Perm (List.range es.size)) :
  Walks prog w A I [I,a,pt] [I] es.size (fun i v=>(ps.map fun j=>(es.getD j (0,.none)).2)[i]?=some v) (fun i h=>h.get? I=some (m6 (.ref pt) i a es.size ep)/\h.get? a=some o/\h.get? pt=some ot) where
 sub:=fun b hb=>by simp at hb;simp [hb]
 frame:=fun _ _ _ st hk=>⟨hk I (by simp) _ st.1,hk a (by simp) _ st.2.1,hk pt (by simp) _ st.2.2⟩
 item:=fun i s Q E hi st hQ=>by
  have hl:i<⇑ps:=by rw[hp.length_eq,cJ];exact hi
  have hm:ps[i]<es.size:=cb.mp (hp.mem_iff.mp (cZ hl));refine Kh (pl:=ps[i]) (tk:=0) (h0:=es[ps[i]].1) (x:=es[ps[i]].2) st.1 st.2.1 hd hf st.2.2 hpd (by rw[List.getElem?_toArray,aS,aD hl];rfl) (by rw[gu hm]) fun h' g b=>?_;refine hQ _ h' s.toks ?_ ⟨g,(b.2 a hne).trans st.2.1,(b.2 pt hnp).trans st.2.2⟩ fun c u hc e=>(b.2 c (by simpa using hc)).trans e;rw[aS,aD hl];simp [Array.getD,hm]
 done:=fun s Q E st hQ=>by
  have hl:⇑ps=es.size:=by rw[hp.length_eq,cJ]
  exact Ae hh st.1 st.2.1 hd hf st.2.2 hpd (by rw[List.getElem?_toArray,aS,dZ ⋯];rfl) fun h' x=>hQ h' s.toks fun b u hb e=>x b u (by simpa using hb) e
 self:=fun _ _ _ _ st hQ=>BP st.1 hQ
theorem Cj {xs:Array Nat} (h:xs.size=1):∃ p,xs=#[p]:=⟨xs[0],Array.ext (by simp [h]) fun j h1 h2=>by
 have:j=0:=⋯
 subst this;rfl⟩
theorem wt (p:Nat):SetTable.below #[p] 0=0/\SetTable.below #[p] (p+1)=1:=by
 constructor
 ·simp [SetTable.below,SetTable.below.go]
 ·simp [SetTable.below,SetTable.below.go]
theorem Ks {I a:Addr}{t:SetTable} (hh:A.handled=none) (hne:a≠I) (hT:w.params.followText "set-order"=false) (hd:o.data=.set es ep t) (hf:t.fits es.size=true) (h1:es.size<=1) (hled:t.led=true) :
  Walks prog w A I [I,a] [I] es.size (fun i v=>(es.toList.map (·.2))[i]?=some v) (fun i h=>h.get? I=some (m6 (.int (((if i=0 then 0 else t.place.getD 0 0+1):Nat):Int) 0) i a es.size ep)/\h.get? a=some o) where
 sub:=fun b hb=>by simp at hb;simp [hb]
 frame:=fun _ _ _ st hk=>⟨hk I (by simp) _ st.1,hk a (by simp) _ st.2⟩
 item:=fun i s Q E hi st hQ=>by
  obtain rfl:i=0:=⋯
  have hz:t.place.size=1:=by simp only[SetTable.fits,bT,eM] at hf;left
  obtain⟨p,hp⟩:=Cj hz;have h0:0<es.size:=hi;refine Df (slot:=0) st.1 st.2 hd hf (x:=es[0].2) (nx:=p+1) (fun q=>GI hT st.2 hd hf h1 hled (by rw[hp,(wt p).1,gu h0];exact q)) fun h' g b=>?_;refine hQ _ h' s.toks ?_ ⟨by rw[g,hp];rfl,(b.2 a hne).trans st.2⟩ fun c u hc e=>(b.2 c (by simpa using hc)).trans e;rw[aS,eI,gu h0];rfl
 done:=fun s Q E st hQ=>by
  have hz:t.place.size=es.size:=by simp only[SetTable.fits,bT,eM] at hf;exact hf.1
  refine tN hh st.1 st.2 hd hf (fun q=>GI hT st.2 hd hf h1 hled ?_) fun h' x=>hQ h' s.toks fun b u hb e=>x b u (by simpa using hb) e
  by_cases h0:es.size=0
  ·rw[qF ⋯];exact q
  ·obtain⟨p,hp⟩:=Cj (xs:=t.place) ⋯;rw[ag h0,hp];rw[show (#[p]:Array Nat).getD 0 0=p from rfl,(wt p).2,qF ⋯];exact q
 self:=fun _ _ _ _ st hQ=>BP st.1 hQ
theorem Ex {t:SetTable}{Q:Zq} (hh:A.handled=none) (ho:s.heap.get? a=some o) (hex:o.ExactSet) (hd:o.data=.set es ep t) (hf:t.fits es.size=true) (hb:es.size<scanBound) (hled:t.led=!w.params.followText "set-order") (hpl:es.size≠0->t.plain=false)
  (k:∀ (I:Addr) (fp:List Addr) (St:Nat->Heap->Prop) (vs:Zc) (h':Heap) (d:Drawn),vs.Perm (es.toList.map (·.2))->Walks prog w A I fp [I] es.size (fun i v=>vs[i]?=some v) St->St 0 h'->(∀ b u,s.heap.get? b=some u->h'.get? b=some u)->(∀ b∈fp,b=a∨s.heap.objs.size<=b)->s.heap.objs.size<=I->Q (.ref I) { s with heap:=h',drawn:=d }) :
  wpAny (model prog w) A (pyIter (.ref a)) Q E s:=by
 have la:a<s.heap.objs.size:=aH ho;refine LK ho hex hd hf hb hpl (fun hc=>?_) fun hT ps d hp=>?_
 ·have gI:(s.heap.push (m6 (.int ((0:Nat):Int) 0) 0 a es.size ep)).get? s.heap.objs.size=some (m6 (.int ((0:Nat):Int) 0) 0 a es.size ep):=bz _ rfl;have ga:=aE (m6 (.int ((0:Nat):Int) 0) 0 a es.size ep) ho;have fpo:∀ b∈[s.heap.objs.size,a],b=a∨s.heap.objs.size<=b:=fun b hb=>by
   rcases aU.mp hb with rfl | hb
   ·exact .inr (av _)
   ·exact .inl (b9.mp hb)
  cases hT:w.params.followText "set-order" with
  | true=>exact k _ _ _ _ _ s.drawn ((sJ _ es).map _) (Kt hh (bh la) hT hd hf) ⟨gI,ga⟩ (fun b u e=>aE _ e) fpo (av _)
  | false =>
   have h1:es.size<=1:=hc.resolve_left fun z=>by rw[hT] at z;cases z
   rw[hT] at hled;exact k _ _ _ _ _ s.drawn (List.Perm.refl _) (Ks hh (bh la) hT hd hf h1 hled) ⟨gI,ga⟩ (fun b u e=>aE _ e) fpo (av _)
 ·have sz:(s.heap.push { cls:=.type "tuple",data:=.seq (ps.map fun i:Nat=>Value.int (i:Int) 0).toArray }).objs.size=s.heap.objs.size+1:=iQ ..;have gI:((s.heap.push { cls:=.type "tuple",data:=.seq (ps.map fun i:Nat=>Value.int (i:Int) 0).toArray }).push (m6 (.ref s.heap.objs.size) 0 a es.size ep)).get? (s.heap.objs.size+1)=some (m6 (.ref s.heap.objs.size) 0 a es.size ep):=by
   rw[←sz];exact bz _ rfl
  have gp:((s.heap.push { cls:=.type "tuple",data:=.seq (ps.map fun i:Nat=>Value.int (i:Int) 0).toArray }).push (m6 (.ref s.heap.objs.size) 0 a es.size ep)).get? s.heap.objs.size=some { cls:=.type "tuple",data:=.seq (ps.map fun i:Nat=>Value.int (i:Int) 0).toArray }:=aE _ (bz _ rfl);have ga:=aE (m6 (.ref s.heap.objs.size) 0 a es.size ep) (aE { cls:=.type "tuple",data:=.seq (ps.map fun i:Nat=>Value.int (i:Int) 0).toArray } ho);refine k _ _ _ (ps.map fun j=>(es.getD j (0,.none)).2) _ d ?_ (Kr hh (bh (gb la)) (bh (jZ _)) hd hf rfl hp) ⟨gI,ga,gp⟩ (fun b u e=>aE _ (aE _ e)) (fun b hb=>?_) (fZ _)
  ·refine (hp.map _).trans (List.Perm.of_eq ?_);apply fj;intro i;rw[aS,aS]
   by_cases hi:i<es.size
   ·rw[lO hi,eI,gu hi];simp [Array.getD,hi]
   ·rw[dZ (by rw[cJ];exact Nat.le_of_not_lt hi),dZ (by rw[cD];exact Nat.le_of_not_lt hi)];rfl
  ·rcases aU.mp hb with rfl | hb
   ·exact .inr (fZ _)
   ·rcases aU.mp hb with rfl | hb
    ·exact .inl rfl
    ·rw[b9.mp hb];exact .inr (av _)
theorem DL {t:SetTable}{R:Zc->Zg->Prop} (hh:A.handled=none) (ho:s.heap.get? a=some o) (hex:o.ExactSet) (hd:o.data=.set es ep t) (hf:t.fits es.size=true) (hb:es.size<scanBound) (hled:t.led=!w.params.followText "set-order") (hpl:es.size≠0->t.plain=false)
  (h:∀ (h':Heap) (tk:Nat) (d:Drawn) (vs:Zc),(∀ b u,s.heap.get? b=some u->h'.get? b=some u)->vs.Perm (es.toList.map (·.2))->R vs { s with heap:=h',toks:=tk,drawn:=d }) :
  wpAny (model prog w) A (collect (.ref a)) R E s:=by
 have la:a<s.heap.objs.size:=aH ho;unfold collect;refine aa (wpAny_runValue (gf entry_proto_collect' ?_));rw[qE PySem.F.plain_proto_collect _];show wpAny _ A.in1 (newList [] >>= fun l=>again (.builtin "list.__iadd__" ⟨[l,.ref a],[]⟩)) _ _ s;refine aa (kf ?_);refine aq ⟨lV PySem.F.plain_list_iadd _,gf entry_list_iadd' ?_⟩;rw[qE PySem.F.plain_list_iadd _];have hS:(s.heap.push { cls:=.type "list",data:=.seq ([]:Zc).toArray }).get? s.heap.objs.size=some { cls:=.type "list",data:=.seq #[] }:=bz _ rfl;have szS:(s.heap.push { cls:=.type "list",data:=.seq ([]:Zc).toArray }).objs.size=s.heap.objs.size+1:=iQ ..;have ho1:=aE { cls:=.type "list",data:=.seq ([]:Zc).toArray } ho;have kp1:∀ b u,s.heap.get? b=some u->(s.heap.push { cls:=.type "list",data:=.seq ([]:Zc).toArray }).get? b=some u:=fun b u e=>aE _ e;generalize s.heap.push { cls:=.type "list",data:=.seq ([]:Zc).toArray }=h1 at hS szS ho1 kp1;show wpAny _ A.in1 (Builtin.List.listExtendWith (.ref s.heap.objs.size) (.ref a) (.ref s.heap.objs.size)) _ _ _;unfold Builtin.List.listExtendWith;refine aa (wpAny_typeOf (T:="set") ⟨o,ho1,hex.1⟩ ?_);have e1:Builtin.List.listSameRef (.ref s.heap.objs.size) (.ref a)=false:=by simp [Builtin.List.listSameRef,gB la]
 have e2:(Value.type "set"==Value.type "list")=false:=by decide
 have e3:(Value.type "set"==Value.type "tuple")=false:=by decide
 simp only[e1,e2,e3,Bool.or_false,iH,gh];refine aa (Ex (A:=A.in1) (s:={ s with heap:=h1 }) hh ho1 hex hd hf hb hled hpl fun I fp St vs h2 d hperm W st kp2 fpo lI=>?_);have hsf:s.heap.objs.size∉fp:=fun hm=>by
  rcases fpo _ hm with e | e
  ·exact absurd e (gB la)
  ·exact absurd (aX (jY szS.symm) e) (Nat.not_succ_le_self _)
 have lI':h1.objs.size<=I:=lI;have lv:⇑vs=es.size:=by rw[hperm.length_eq,af,cD]
 have key:∀ (h3:Heap) (c₁ tk:Nat),St 0 h3->(∀ b u,s.heap.get? b=some u->h3.get? b=some u)->h3.get? s.heap.objs.size=some { cls:=.type "list",data:=.seq #[] c₁ } →
   codeAny (model prog w) A (.builtin "list.extend.loop" ⟨[.ref s.heap.objs.size,.ref I,.ref s.heap.objs.size],[]⟩) (fun (q:Result) (s':Zg)=>∃ (h':Heap) (tk:Nat) (c':Nat),q=.ok (.ret (.ref s.heap.objs.size))/\s'={ s with heap:=h',toks:=tk,drawn:=d } ∧
    (∀ b u,s.heap.get? b=some u->h'.get? b=some u)/\h'.get? s.heap.objs.size=some { cls:=.type "list",dict:=none,data:=.seq vs.toArray c',slots:=#[] }) { s with heap:=h3,toks:=tk,drawn:=d }:=fun h3 c₁ tk hst hk hS1=>by
  refine codeAny_extend_loopS W.toS (fits_of_scanBound hb) s.heap.objs.size hsf (.ref s.heap.objs.size) es.size 0 _ #[] c₁ rfl (bc _) hst hS1 (ItemsOf.nil _) fun s' acc' c' hm hS' hacc=>?_;have ea:acc'=vs.toArray:=by
   apply Array.toList_inj.mp;apply fj;intro i
   by_cases hi:i<es.size
   ·have hi2:i<acc'.size:=by rw[hacc.1];exact hi
    rw[eI,gu hi2];exact (hacc.2 i _ (gu hi2)).symm
   ·rw[eI,qF (by rw[hacc.1];left)];exact (dZ (show ⇑vs<=i by rw[lv];exact Nat.le_of_not_lt hi)).symm
  subst ea;rw[Moved.eq_with hm];refine⟨s'.heap,s'.toks,c',rfl,rfl,fun b u e=>hm.heap b u (fun hmem=>?_) (hk b u e),hS'⟩;have lb:=aH e;rcases aU.mp hmem with e' | hmem
  ·exact absurd e' (bh lb)
  ·rw[b9.mp hmem] at lb;exact absurd (bH lb (aX (fZ _) (aX (jY szS.symm) lI'))) (fq _)
 have hS2:=kp2 _ _ hS;have k02:∀ b u,s.heap.get? b=some u->h2.get? b=some u:=fun b u e=>kp2 b u (kp1 b u e);refine aa (cB (Gb (s:={ s with heap:=h2,drawn:=d }) ⟨o,kp2 _ _ ho1,hex.1⟩ ?_));have fin:∀ {h3:Heap}{c₁ tk:Nat},St 0 h3->(∀ b u,s.heap.get? b=some u->h3.get? b=some u)->h3.get? s.heap.objs.size=some { cls:=.type "list",data:=.seq #[] c₁ }->_:=fun {h3 c₁ tk} a1 a2 a3=>gE (key h3 c₁ tk a1 a2 a3) (R':=fun r s'=>match r with
   | Except.ok (Flow.ret v)=>wpAny (model prog w) A (match v with
      | Value.ref a=>do
       let o ←load a
       match o.data with
        | Data.seq xs epoch=>pure xs.toList
        | x=>unsupported "internal:collect"
      | x=>unsupported "internal:collect") R E s'
   | Except.ok a=>False
   | Except.error e=>E e s') fun q s' ⟨h',tk',c',e1,e2,hk,hS'⟩=>by
  subst e1 e2;show wpAny _ A (load s.heap.objs.size >>= _) _ _ _;refine aa (wpAny_load hS' ?_);exact aq (h h' tk' d vs hk hperm)
 refine wpAny_ite_split (fun _=>?_) (fun _=>aq ⟨lV PySem.F.plain_extend_loop _,fin st k02 hS2⟩);refine aa (dU ?_);refine aa ?_;show wpAny _ _ (updateSeq s.heap.objs.size (·.push .none) >>= fun _=>updateSeq s.heap.objs.size (·.pop)) _ _ _;refine aa (wpAny_updateSeq hS2 rfl ?_);have hS3:=fV (Obj.mapSeq (·.push Value.none)) hS2 rfl;refine wpAny_updateSeq (hz:=by seq_fits) hS3 rfl ?_;have hS4:=fV (Obj.mapSeq (·.pop)) hS3 rfl;refine aq ⟨lV PySem.F.plain_extend_loop _,fin ?_ (fun b u e=>?_) hS4⟩
 ·refine W.frame 0 _ _ st fun b hb o e=>?_;have hbS:b≠s.heap.objs.size:=fun h=>hsf (h ▸ hb);exact (dy _ _ (b7 hbS)).trans ((dy _ _ (b7 hbS)).trans e)
 ·have hbS:b≠s.heap.objs.size:=bh (aH e);exact (dy _ _ (b7 hbS)).trans ((dy _ _ (b7 hbS)).trans (k02 b u e))
end
end
section
theorem va {val:Nat->Key}{x:Key}:∀ {n:Nat},x∈cz val n↔∃ i,i<n/\val i=x
 | 0=>⟨(fun h=>by cases h),fun ⟨i,h,_⟩=>absurd h (Nat.not_lt_zero i)⟩
 | n+1=>by
  have ih:=va (val:=val) (x:=x) (n:=n);unfold cz;split
  ·rename_i hm
   rw[jA] at hm;refine ih.trans ⟨fun ⟨i,h,e⟩=>⟨i,⋯,e⟩,fun ⟨i,h,e⟩=>?_⟩
   by_cases hi:i=n
   ·subst hi;rw[←e];exact va.mp hm
   ·exact⟨i,⋯,e⟩
  ·rw[bG,b9,ih];refine⟨fun h=>h.elim (fun ⟨i,h,e⟩=>⟨i,⋯,e⟩) fun e=>⟨n,⋯,e.symm⟩,fun ⟨i,h,e⟩=>?_⟩
   by_cases hi:i=n
   ·subst hi;exact .inr e.symm
   ·exact .inl ⟨i,⋯,e⟩
theorem xR (val:Nat->Key):∀ n,(cz val n).Nodup
 | 0=>List.nodup_nil
 | n+1=>by
  have ih:=xR val n;unfold cz;split
  ·exact ih
  ·rename_i hm
   rw[jA] at hm;rw[oq];exact⟨ih,by simp,fun a ha b hb e=>hm (by rw[b9.mp hb] at e;rw[←e];exact ha)⟩
theorem Ah {α:Type} [DecidableEq α]:∀ {l us:List α},l.Nodup->(∀ x∈l,x∈us)->⇑us=⇑l->l.Perm us
 | [],us,_,_,e=>by rw[oi.mp e]
 | a::l,us,nd,h,e=>by
  rw[eL] at nd;have hm:=h a aR;have hp:=List.perm_cons_erase hm;refine ((Ah (us:=us.erase a) nd.2 (fun x hx=>?_) ?_).cons a).trans hp.symm
  ·exact (List.mem_erase_of_ne (fun z=>nd.1 (by rw[←z];exact hx))).mpr (h x (aV _ hx))
  ·rw[List.length_erase_of_mem hm,e];rfl
noncomputable def setM (P:Zh) (w:Zi) (a:Addr) (l:List Key):HO:=.ext fun h=>rW P w (!w.params.followText "set-order") h a l
theorem Ke {l:List Key} (x:rW P w (!w.params.followText "set-order") h a l):cj P w H h a (setM P w a l):=by
 refine⟨x,?_,fun h1 h2 y k=>?_⟩
 ·obtain⟨o,_,_,_,e,_⟩:=x;exact⟨o,e⟩
 ·obtain⟨o,es,ep,t,e,r⟩:=y;exact⟨o,es,ep,t,k o e,r⟩
noncomputable def KG (K:Zf) (P:Zh) (w:Zi):List V->Hp->VK->Prop:=fun vs H Q=>match vs with
 | [.ref a]=>∃ zs:Ze,Æ K H a (zs.map V.str)/\⇑zs<=4000/\∀ p H',H p=none->a9 H H'->H' p=some (setM P w p (cz (nR zs) ⇑zs))->Q (.ref p) H'
 | _=>False
theorem FI {K:Zf}{P:Zh}{w:Zi}{a:Addr}{H:Hp}{Q:VK}:KG K P w [.ref a] H Q=(∃ zs:Ze,Æ K H a (zs.map V.str)/\⇑zs<=4000/\∀ p H',H p=none->a9 H H'->H' p=some (setM P w p (cz (nR zs) ⇑zs))->Q (.ref p) H'):=propext Iff.rfl
theorem Az (hK:X.K=K) (hP:X.prog=P) (hw:X.w=w) (hc:X.calm=true):da X (.type "set") (KG K P w):=by
 subst hK hP hw;intro Yp s σ H xs us Q I r h;rcases xs with _ | ⟨x0,t⟩
 ·exact h.elim
 cases x0<;>try exact h.elim
 cases t<;>try exact h.elim
 next a =>
  obtain⟨zs,h1,h2,h3⟩:=h;obtain⟨u,rfl,ru⟩:=vals1 r;cases ru;obtain⟨vs,r1,p1,_⟩:=I.list h1;have l1:=⇑r1;rw[af] at l1;have hf:H s.heap.objs.size=none:=I.hok.fresh (av _);have hs:vs.toArray.size=⇑zs:=by rw[bA];left
  refine yw (val:=nR zs) (I.ok.hd hc) p1.isList (fun i v e=>?_) (by rw[hs];unfold scanBound;left) fun g tk x k=>?_
  ·have e':vs[i]?=some v:=by simpa using e
   have hi:i<⇑zs:=by have:=(br.mp e').1;left
   have ez:zs[i]?=some zs[i]:=aD hi;obtain⟨u,hu,ru⟩:=r1.get (i:=i) (x:=V.str zs[i]) (by rw[aS,ez];rfl);rw[e'] at hu;cases hu;obtain⟨t,rfl⟩:=ru;refine⟨zs[i],t,rfl,?_⟩;unfold nR;rw[aT,ez];rfl
  ·rw[hs] at x;have kk:∀ b o,s.heap.get? b=some o->g.get? b=some o:=fun b o e=>k b o (aH e) e;exact⟨.ref s.heap.objs.size,upd H s.heap.objs.size (setM X.prog X.w s.heap.objs.size (cz (nR zs) ⇑zs)),I.laid (t':=tk) kk (av _) (Ke x),rfl,h3 _ _ hf (cX hf) aC⟩
theorem vU {k:Key}:k∈cz (nR zs) ⇑zs↔∃ z∈zs,k=.inr z:=by
 rw[va];constructor
 ·rintro⟨i,hi,rfl⟩;refine⟨zs[i],cZ hi,?_⟩;unfold nR;rw[aT,aD hi];rfl
 ·rintro⟨z,hz,rfl⟩;obtain⟨i,hi,rfl⟩:=List.getElem_of_mem hz;refine⟨i,hi,?_⟩;unfold nR;rw[aT,aD hi];rfl
theorem EO (hel:ElemsOf (bj P w) es.toList) (hmem:∀ k,gk k (cz (nR zs) ⇑zs)=true↔∃ e∈es.toList,kr k e.2=true) (hn:es.size=⇑(cz (nR zs) ⇑zs))  (hp:vs.Perm (es.toList.map (·.2))) :
  ∃ us:Ze,StrsAre vs us/\us.Nodup/\∀ z,z∈us↔z∈zs:=by
 have hst:∀ v∈vs,∃ z t,v=Value.str z t/\z∈zs:=fun v hv=>by
  obtain⟨e,he,rfl⟩:=aK.mp (hp.mem_iff.mp hv);obtain⟨⟨k,hk,_⟩,_⟩:=hel e he;have hk':kr k e.2=true:=hk;obtain⟨z,hz,rfl⟩:=vU.mp (jA.mp ((hmem k).mpr ⟨e,he,hk'⟩));rcases cP hk' with ⟨n,t,e3,e4⟩ | ⟨y,t,e3,e4⟩
  ·cases e3
  ·cases e3;exact⟨z,t,e4,hz⟩
 have mk:∀ {vs:Zc},(∀ v∈vs,∃ z t,v=Value.str z t/\z∈zs)->∃ us:Ze,StrsAre vs us/\(∀ z∈us,z∈zs)/\∀ z,(∃ t,Value.str z t∈vs)->z∈us:=by
  intro vs
  induction vs with
  | nil=>intro _;exact⟨[],.nil,(fun z h=>by cases h),fun z ⟨t,h⟩=>by cases h⟩
  | cons v vs ih =>
   intro h;obtain⟨us,a1,a2,a3⟩:=ih fun u hu=>h u (aV _ hu);obtain⟨z,t,rfl,hz⟩:=h v aR;refine⟨z::us,.cons z t a1,fun y hy=>?_,fun y ⟨t',hy⟩=>?_⟩
   ·rcases aU.mp hy with rfl | hy
    ·exact hz
    ·exact a2 y hy
   ·rcases aU.mp hy with e | hy
    ·injection e with e _;rw[e];exact aR
    ·exact aV _ (a3 y ⟨t',hy⟩)
 obtain⟨us,a1,a2,a3⟩:=mk hst;have lu:∀ {vs:Zc}{us:Ze},StrsAre vs us->⇑us=⇑vs:=fun h=>by
  induction h with
  | nil=>rfl
  | cons z t _ ih=>rw[bf,bf,ih]
 have hin:∀ z∈zs,z∈us:=fun z hz=>by
  obtain⟨e,he,hk⟩:=(hmem (.inr z)).mp (jA.mpr (vU.mpr ⟨z,hz,rfl⟩));rcases cP hk with ⟨n,t,e3,e4⟩ | ⟨y,t,e3,e4⟩
  ·cases e3
  ·cases e3
   exact a3 z ⟨t,by rw[←e4];exact hp.mem_iff.mpr (aK.mpr ⟨e,he,rfl⟩)⟩
 have hperm:(cz (nR zs) ⇑zs).Perm (us.map (Sum.inr:Str->Key)):=Ah (xR _ _) (fun k hk=>by obtain⟨z,hz,rfl⟩:=vU.mp hk;exact aK.mpr ⟨z,hin z hz,rfl⟩) (by rw[af,lu a1,hp.length_eq,af,cD,hn]);have hnd:=hperm.nodup_iff.mp (xR _ _);refine⟨us,a1,?_,fun z=>⟨a2 z,hin z⟩⟩;exact (ja.mp hnd).imp fun h e=>h (by rw[e])
noncomputable def HC (P:Zh) (w:Zi):List V->Hp->VK->Prop:=fun vs H Q=>match vs with
 | [.ref a]=>∃ zs:Ze,H a=some (setM P w a (cz (nR zs) ⇑zs))/\⇑(cz (nR zs) ⇑zs)<64/\∀ ws:Ze,ws.Nodup->(∀ z,z∈ws↔z∈zs)->sortedS ws=true->nw H (.lst (ws.map V.str)) Q
 | _=>False
theorem Eh {P:Zh}{w:Zi}{a:Addr}{H:Hp}{Q:VK}:HC P w [.ref a] H Q=(∃ zs:Ze,H a=some (setM P w a (cz (nR zs) ⇑zs))/\⇑(cz (nR zs) ⇑zs)<64/\∀ ws:Ze,ws.Nodup->(∀ z,z∈ws↔z∈zs)->sortedS ws=true->nw H (.lst (ws.map V.str)) Q):=propext Iff.rfl
theorem A4 (hP:X.prog=P) (hw:X.w=w) (hc:X.calm=true):da X (.builtin "sorted") (HC P w):=by
 subst hP hw;intro Yp s σ H xs us Q I r h;rcases xs with _ | ⟨x0,t⟩
 ·exact h.elim
 cases x0<;>try exact h.elim
 cases t<;>try exact h.elim
 next a =>
  obtain⟨zs,ha,h64,k⟩:=h;obtain⟨u,rfl,r2⟩:=vals1 r;cases r2;obtain⟨o,es,ep,t,ho,hex,hd,hel,hmem,hb,hf,hn,hled,hpl⟩:rW X.prog X.w (!X.w.params.followText "set-order") s.heap a (cz (nR zs) ⇑zs):=(show cj X.prog X.w H s.heap a (setM X.prog X.w a _) from I.hok a _ ha).1;refine Calls.call_function_entry kind_sorted plain_sorted entry_sorted (args_sorted1 _) ?_;unfold Builtin.«sorted»;refine aa (m:=checkCount "sorted" 1 1 _) (aq (aa (DL (A:=X.A.in1) (I.ok.hd hc) ho hex hd hf hb hled hpl fun h1 tk d vs k1 hp=>?_)));obtain⟨us,hS,hnd,hmz⟩:=EO hel hmem hn hp;have lv:⇑vs<64:=by rw[hp.length_eq,af,cD,hn];exact h64
  have hz:⇑vs<=sizeLine:=aM (bH lv (by rw[gi];left));refine aa (wpAny_newList ?_ hz);have gL:(h1.push (seqObj "list" vs.toArray 0)).get? h1.objs.size=some (seqObj "list" vs.toArray 0):=bz _ rfl;refine aa (cB (i5 slot_list_sort ⟨_,gL,rfl⟩ entry_list_sort (list_sort_treeK strKind_oneLt gL hS.keysOf (fun v₁ v₂ rest e=>keyKind_strs (by rw[←e];exact hS)) lv fun st' a1 a2=>⟨_,rfl,aq ⟨_,rfl,?_⟩⟩) (args_list_sort _)));obtain⟨ws,b1,b2,b3⟩:=sorted_out_str hS a1 a2;obtain⟨e1,g1⟩:∃ e1,((h1.push (seqObj "list" vs.toArray 0)).update h1.objs.size (Obj.mapSeq fun _=>#[])).get? h1.objs.size=some (seqObj "list" #[] e1):=⟨_,ke gL fun _=>#[]⟩;have g2:((((h1.push (seqObj "list" vs.toArray 0)).update h1.objs.size (Obj.mapSeq fun _=>#[])).push (seqObj "tuple" vs.toArray 0)).push (seqObj "list" #[] 0)).get? h1.objs.size=some (seqObj "list" #[] e1):=aE _ (aE _ g1);refine show EP X Yp σ Q (.ref h1.objs.size) { s with heap:=sortedHeap (h1.push (seqObj "list" vs.toArray 0)) h1.objs.size vs ((arrOf st').map fun x=>x.2),toks:=tk,drawn:=d } from ?_
  generalize (arrOf st').map (fun x=>x.2)=out at b1 ⊢;obtain⟨c3,g3⟩:∃ c3,(sortedHeap (h1.push (seqObj "list" vs.toArray 0)) h1.objs.size vs out).get? h1.objs.size=some (seqObj "list" out c3):=⟨_,ke g2 fun _=>out⟩;have kp:∀ b o,h1.get? b=some o->(sortedHeap (h1.push (seqObj "list" vs.toArray 0)) h1.objs.size vs out).get? b=some o:=fun b o z=>by have hb:h1.objs.size≠b:=gB (aH z);exact (dy _ _ hb).trans (aE _ (aE _ ((dy _ _ hb).trans (aE _ z))))
  have I1:Inv X Yp σ H { s with heap:=h1,toks:=tk,drawn:=d }:=by have I0:Inv X Yp σ H { s with heap:=h1,toks:=tk }:=I.kept (t':=tk) k1;exact⟨I0.ok,I0.os,I0.bare,I0.base,I0.loc,I0.cell,I0.free,I0.freeC,I0.pin,I0.hok,I0.len⟩
  have hn1:=I1.hok.fresh (av h1.objs.size);have lw:=b2.length_eq;refine⟨.ref h1.objs.size,upd H h1.objs.size (.lst (ws.map V.str)),I1.laid (t':=tk) (o:=.lst (ws.map V.str)) kp (av _) ⟨?_,out.toList,c3,jy b1,by rw[uE];exact g3⟩,rfl,k ws (b2.nodup_iff.mpr hnd) (fun z=>(b2.mem_iff).trans (hmz z)) b3 _ _ hn1 (cX hn1) aC⟩;have lu:⇑ws=⇑out.toList:=by have:=⇑(jy b1);rwa [af] at this
  rw[af,lw];have:⇑us=⇑vs:=by have:=⇑(jy hS);rwa [af] at this
  left
end
end L2
namespace Tim2
open PySem PyProof.Rows
structure è (prog:Zh) (w:Zi) (A:Around) (E:Zq) (s:Zg) (S:List Keyed):Prop where
 run:∀ x∈S,∀ y∈S,∀ (st:SortSt) (Q:Option Bool->SortSt->Prop),kindOf st=oneType'->(∀ b,Q (some b) st)->wpS (model prog w) A E s (lt' x y) Q st
section
variable {prog:Zh}{w:Zi}{A:Around}{E:Zq}{s:Zg}{a₀:Array Keyed}
end
end Tim2
namespace Tim2
open PySem PyProof.Rows
section
variable {prog:Zh}{w:Zi}{A:Around}{E:Zq}{s:Zg}{blt:Keyed->Keyed->Bool}
noncomputable abbrev qu (h:Heap) (a:Addr) (vs:Zc):Heap:=((h.update a (Obj.mapSeq fun _=>#[])).push (seqObj "tuple" vs.toArray 0)).push (seqObj "list" #[] 0)
end
end Tim2
namespace Tim2
open PySem PyProof.Rows L2
section
variable {prog:Zh}{w:Zi}{A:Around}{E:Zq}{s:Zg}
theorem F3 {l b:Addr}{items items2:Array Value}{ns ms:Zb}{Q:Zq} (hl:s.heap.IsList l items) (hb:s.heap.IsList b items2) (hi:IntsAre items.toList ns) (hj:IntsAre items2.toList ms)
  (h:Q (.bool (zj ns ms)) s):wpAny (model prog w) A (call (.builtin "list.__lt__") [.ref l,.ref b]) Q E s:=by
 obtain⟨⟨c1,dd,d1,sl⟩,ho,g1,n,g2⟩:=id hl;obtain⟨⟨c2,dd2,d2,sl2⟩,ho2,g3,n2,g4⟩:=id hb;simp only at g1 g2 g3 g4;subst g1 g2 g3 g4;have m:Meets (Builtin.«list.__lt__» ⟨[.ref l,.ref b],[]⟩) (fun _ R s=>s.heap.get? l=some { cls:=.type "list",dict:=dd,data:=.seq items n,slots:=sl }/\s.heap.get? b=some { cls:=.type "list",dict:=dd2,data:=.seq items2 n2,slots:=sl2 } ∧
    R (.ok (.ret (.bool (zj ns ms)))) s):=by
  intro prog w A R s h;obtain⟨hp,g,d,tk,os⟩:=s;obtain⟨hl,hb,h⟩:=h;simp only at hl hb;have f2:=AutoSeq1.sub_list_list;unfold Builtin.«list.__lt__»
  wp_walk using AutoSeq1.wpAny_loadPart' hl,AutoSeq1.wpAny_loadPart' hb
  exact⟨by with_unfolding_all rfl,J4 l b items items2 n n2 dd dd2 sl sl2 hl hb _ 0 ns ms rfl hi hj (bc _) (bc _) h⟩
 exact gD PySem.F.slot_list_lt ⟨_,ho,rfl⟩ PySem.F.entry_list_lt (PySem.F.args_list_lt_2 _ _) m ⟨ho,ho2,h⟩
theorem J7 {l b:Addr}{items items2:Array Value}{ns ms:Zb}{Q:Bool->Zg->Prop} (hl:s.heap.IsList l items) (hb:s.heap.IsList b items2) (hi:IntsAre items.toList ns) (hj:IntsAre items2.toList ms) (hu:A.units<cLine)
  (h:Q (zj ns ms) s):wpAny (model prog w) A (oneLt' true (.ref l) (.ref b)) Q E s:=by
 rw[oneLt'_eq];simp only[i3];refine aa (wpAny_cRoomFor hu ?_);obtain⟨o,ho,g1,_⟩:=id hl;refine aa (wpAny_callSpecialIfBound?_slot ⟨o,ho,g1⟩ PySem.F.slot_list_lt (F3 hl hb hi hj ?_));exact fB h
theorem Na {vs:List Keyed} (hv:∀ x∈vs,∃ (a:Addr) (items:Array Value) (ns:Zb),x.1=.ref a/\s.heap.IsList a items/\IntsAre items.toList ns) (hu:A.units<cLine):è prog w A E s vs where
 run x hx y hy st Q hk h:=by obtain⟨x1,x2⟩:=x;obtain⟨y1,y2⟩:=y;obtain⟨a,items,ns,ex,ha,hn⟩:=hv _ hx;obtain⟨b,items2,ms,ey,hb,hm⟩:=hv _ hy;simp only at ex ey;subst ex ey;rw[lt'_eq];refine aB (wpS_get ?_);rw[hk,keyLt'_oneType];exact aB (wpS_lift (lY (J7 ha hb hn hm hu ⟨rfl,aY (h _)⟩)))
theorem pK {β:Type}{f:Value->Sem β}{c:β}:∀ (vs:Zc),(∀ v∈vs,∀ {Q:β->Zg->Prop},Q c s->wpAny (model prog w) A (f v) Q E s)->∀ {Q:List β->Zg->Prop},Q (vs.map fun _=>c) s->wpAny (model prog w) A (vs.mapM f) Q E s
 | [],_,Q,h=>by rw[List.mapM_nil];exact aq h
 | v::vs,hf,Q,h=>by rw[List.mapM_cons];refine aa (hf v (aR ..) (aa (pK vs (fun u hu=>hf u (aV _ hu)) (aq h))))
theorem E3 {vs:Zc} (hv:∀ v∈vs,s.TypeIs v "list") (h2:2<=⇑vs) {Q:SortKind->Zg->Prop} (h:Q oneType' s):wpAny (model prog w) A (keyKind' vs.toArray) Q E s:=by
 rw[keyKind'_eq,List.mapM_toArray];refine aa (wpAny_map (pK (c:=none) vs (fun v hm Q hQ=>?_) ?_))
 ·exact aa (wpAny_typeOf (hv v hm) (aq hQ))
 match vs,h2,hv with
 | v::u::vs,_,hv =>
  rw[ag (by simp),ag (by simp)];rw[oneTypeOnly'_eq,List.mapM_toArray];refine aa (aa (wpAny_map (pK (c:=.type "list") (v::u::vs) (fun v hm Q hQ=>wpAny_typeOf (hv v hm) hQ) ?_)));have hall:((List.map (fun _=>Value.type "list") (v::u::vs)).toArray.all fun x=>x==Value.type "list")=true:=by simp only[List.all_toArray,fW,c9];intro _ _;rfl
  have h0:(List.map (fun _=>Value.type "list") (v::u::vs)).toArray[0]?=some (Value.type "list"):=by simp
  rw[h0];dsimp only;rw[hall];exact aq (aq h)
end
end Tim2
namespace Tim2
open PySem PyProof.Rows L2
section
variable {prog:Zh}{w:Zi}{A:Around}{E:Zq}{s:Zg}
theorem vx (vs:Zc):(pairsOf vs).toList=vs.map fun v=>(v,v):=by unfold pairsOf;simp [List.zip_eq_zipWith,List.zipWith_self]
end
theorem Dc:∀ {l:List Addr}{its:Zc},Vals (l.map V.ref) its->its=l.map Value.ref
 | [],_,r=>by rw[ix] at r;cases r;rfl
 | a::l,_,r=>by
  rw[bg] at r;cases r with
  | cons r1 r2=>cases r1;rw[Dc r2];rfl
theorem of_refs:∀ (l:List Addr),Vals (l.map V.ref) (l.map Value.ref)
 | []=>.nil
 | a::l=>.cons rfl (of_refs l)
theorem Hh {α β:Type}{f:α->β}{m m':List β} (h:m.Perm m'):∀ {l:List α},m'=l.map f->∃ ws:List α,ws.Perm l/\m=ws.map f:=by
 induction h with
 | nil=>intro l e;exact⟨[],by rw[List.map_eq_nil_iff.mp e.symm],rfl⟩
 | cons x _ ih =>
  intro l e
  match l,e with
  | a::l,e =>
   rw[bg] at e
   injection e with e1 e2
   obtain⟨ws,q1,q2⟩:=ih e2;exact⟨a::ws,q1.cons _,by rw[q2,e1];rfl⟩
 | swap x y l' =>
  intro l e
  match l,e with
  | a::b::l,e =>
   rw[bg,bg] at e
   injection e with e1 e2
   injection e2 with e2 e3
   exact⟨b::a::l,.swap ..,by rw[e1,e2,e3];rfl⟩
 | trans _ _ ih1 ih2 =>intro l e;obtain⟨ws,q1,q2⟩:=ih2 e;obtain⟨us,q3,q4⟩:=ih1 q2;exact⟨us,q3.trans q1,q4⟩
end Tim2
namespace L2
open PySem PySem.Spec PyProof.Rows Tim2
end L2
namespace Tim3
open PySem PyProof.Rows Tim2
variable {Q:Array Keyed->SortSt->Prop}{o:Array Keyed}{α:Type}
noncomputable def Jr:Bool->Keyed->Array Keyed->Nat->Nat->Nat->StateT SortSt Sem (Option Nat):=sortPriv% PySem.Builtin.gallop
noncomputable def GD:Array Keyed->Array Keyed->StateT SortSt Sem (Array Keyed):=sortPriv% PySem.Builtin.mergeLo
noncomputable def GC:Array Keyed->Array Keyed->StateT SortSt Sem (Array Keyed):=sortPriv% PySem.Builtin.mergeHi
noncomputable def IY (left:Bool) (key:Keyed) (arr:Array Keyed) (base i:Nat):StateT SortSt Sem (Option Bool) :=
 elem' arr (base+i) >>= fun x=>if left then lt' x key else lt' key x >>= fun r=>pure (r.map fun b=>!b)
noncomputable abbrev jM (st:SortSt) (g:Nat):SortSt:=SortSt.mk' (kindOf st) (arrOf st) (pendingOf st) g (failedOf st)
section
variable {prog:Zh}{w:Zi}{A:Around}{E:Zq}{s:Zg}{S:List Keyed}{st:SortSt}{arr:Array Keyed}
theorem loop {β:Type}{a b:Nat}{f:Nat->β->StateT SortSt Sem (ForInStep β)} (J:β->SortSt->Prop) {c₀:β}{Q:β->SortSt->Prop} (h0:J c₀ st)
  (hs:∀ x c st',a<=x->x<b->J c st'->wpS (model prog w) A E s (f x c) (fun r st''=>match r with | .done c'=>J c' st'' | .yield c'=>J c' st'') st')
  (hq:∀ c st',J c st'->Q c st'):wpS (model prog w) A E s (forIn [a:b] c₀ f) Q st :=
 wpS_mono (fD (I:=fun _=>J) hs (fun _ _ h=>h) h0) hq
theorem kH {i:Nat}{Q:Keyed->SortSt->Prop} (hS:∀ x∈arr.toList,x∈S) (h:i<arr.size) (q:∀ x,x∈S->arr[i]?=some x->Q x st):wpS (model prog w) A E s (elem' arr i) Q st:=by rw[elem'_eq,gu h];exact aY (q _ (hS _ (Array.getElem_mem_toList h)) (gu h))
theorem qD (C:è prog w A E s S) {left:Bool}{key:Keyed}{base n hint:Nat}{Q:Option Nat->SortSt->Prop} (hk:kindOf st=oneType') (hS:∀ x∈arr.toList,x∈S) (hkey:key∈S) (hn:base+n<=arr.size) (hh:hint<n)
  (h:∀ k,k<=n->Q (some k) st):wpS (model prog w) A E s (Jr left key arr base n hint) Q st:=by
 have ask:∀ (i:Nat) {R:Option Bool->SortSt->Prop},i<n->(∀ b,R (some b) st)->wpS (model prog w) A E s (IY left key arr base i) R st:=fun i R hi hR=>by
  refine aB (kH hS ⋯ fun x hx _=>?_);cases left
  ·exact aB (C.run _ hkey _ hx _ _ hk fun b=>aY (hR _))
  ·exact C.run _ hx _ hkey _ _ hk hR
 refine aB (ask hint hh fun b=>?_);cases b
 all_goals
  refine aB (loop (J:=fun c st'=>st=st'/\c.1=none) ⟨rfl,rfl⟩ ?_ ?_)
  ·rintro x ⟨_,l,o⟩ _ _ _ ⟨rfl,rfl⟩;dsimp only;split
   ·exact aY ⟨rfl,rfl⟩
   ·exact aB (ask _ ⋯ fun b=>by cases b<;>exact aY ⟨rfl,rfl⟩)
  ·rintro⟨_,l,o⟩ _ ⟨rfl,rfl⟩;dsimp only;refine aB (loop (J:=fun c st'=>st=st'/\c.1=none/\c.2.2<=n) ⟨rfl,rfl,by dsimp only;left⟩ ?_ ?_)
   ·rintro x ⟨_,l,o⟩ _ _ _ ⟨rfl,rfl,h1⟩;dsimp only at h1 ⊢;split
    ·exact aY ⟨rfl,rfl,h1⟩
    ·exact aB (ask _ ⋯ fun b=>by cases b<;>exact aY ⟨rfl,rfl,by dsimp only;left⟩)
   ·rintro⟨_,l,o⟩ _ ⟨rfl,rfl,h1⟩;exact aY (h _ h1)
end
noncomputable def MI (a b o:Array Keyed) (i j:Nat):Prop:=(o.toList++(a.toList.drop i++b.toList.drop j)).Perm (a.toList++b.toList)
section
variable {a b o:Array Keyed}{i j:Nat}{x:Keyed}
theorem Nb (h:a[i]?=some x):a.toList.drop i=x::a.toList.drop (i+1):=by obtain⟨h1,rfl⟩:=Array.getElem?_eq_some_iff.mp h;rw[←Array.getElem_toList h1];exact lK h1
theorem FO (k:Nat):a.toList.drop i=(a.extract i (i+k)).toList++a.toList.drop (i+k):=by rw[mG,lL,Nat.add_sub_cancel_left,←List.drop_drop,List.take_append_drop]
theorem MI.sw {c d:List Keyed} (h:(o.toList++(a.toList.drop i++(c++d))).Perm (a.toList++b.toList)):(o.toList++c++(a.toList.drop i++d)).Perm (a.toList++b.toList):=by refine .trans ?_ h;rw[bJ];refine .append_left _ ?_;rw[←bJ,←bJ];exact .append_right _ rM
theorem MI.a1 (h:MI a b o i j) (e:a[i]?=some x):MI a b (o.push x) (i+1) j:=by
 unfold MI at *;rw[Nb e] at h
 simpa using h
theorem MI.b1 (h:MI a b o i j) (e:b[j]?=some x):MI a b (o.push x) i (j+1):=by unfold MI at *;rw[Nb e] at h;rw[rK];exact MI.sw (c:=[x]) h
theorem MI.A (h:MI a b o i j) (k:Nat):MI a b (o++a.extract i (i+k)) (i+k) j:=by
 unfold MI at *;rw[FO k] at h;rw[fb]
 simpa using h
theorem MI.B (h:MI a b o i j) (k:Nat):MI a b (o++b.extract j (j+k)) i (j+k):=by unfold MI at *;rw[FO (a:=b) k] at h;rw[fb];exact MI.sw h
theorem u5:(a.extract i a.size).toList=a.toList.drop i:=by rw[mG,lL,ef (by simp)]
theorem MI.i0 (e:b[0]?=some x):MI a b #[x] 0 1:=MI.b1 (o:=#[]) (by simp [MI]) e
theorem MI.ab (h:MI a b o i j):(o++a.extract i a.size++b.extract j b.size).toList.Perm (a.toList++b.toList):=by rw[fb,fb,u5,u5,bJ];exact h
theorem MI.ba (h:MI a b o i j):(o++b.extract j b.size++a.extract i a.size).toList.Perm (a.toList++b.toList):=by rw[fb,fb,u5,u5,bJ];exact .trans (.append_left _ rM) h
end
inductive Rs (a b:Array Keyed) (x:Nat):Option (Array Keyed)->Array Keyed->Nat->Nat->Prop
 | out (R o:Array Keyed) (i j:Nat) (h:R.toList.Perm (a.toList++b.toList)):Rs a b x (some R) o i j
 | on (o:Array Keyed) (i j:Nat) (h:MI a b o i j) (h1:i+1<a.size) (h2:j<b.size) (h3:x<=i+j):Rs a b x none o i j
theorem Rs.inv {a b:Array Keyed}{x i j:Nat} (h:Rs a b x none o i j):MI a b o i j/\i+1<a.size/\j<b.size/\x<=i+j:=by cases h;exact⟨‹_›,‹_›,‹_›,‹_›⟩
theorem Rs.res {a b:Array Keyed}{x i j:Nat}{R o:Array Keyed} (h:Rs a b x (some R) o i j):R.toList.Perm (a.toList++b.toList):=by cases h;assumption
noncomputable def MH (a b o:Array Keyed) (i j:Nat):Prop:=(a.toList.take i++(b.toList.take j++o.toList.reverse)).Perm (a.toList++b.toList)
section
variable {a b o:Array Keyed}{i j:Nat}{x:Keyed}
theorem Dk {t:Nat} (h:t<=i):a.toList.take i=a.toList.take t++(a.extract t i).toList:=by rw[mG,lL,←List.take_add,Nat.add_sub_cancel' h]
theorem MH.A {t:Nat} (h:MH a b o i j) (ht:t<=i):MH a b (o++(a.extract t i).reverse) t j:=by unfold MH at *;rw[Dk ht,bJ] at h;rw[fb,List.reverse_append,uF,rN];refine .trans (.append_left _ ?_) h;rw[←bJ,←bJ];exact .append_right _ rM
theorem MH.B {t:Nat} (h:MH a b o i j) (ht:t<=j):MH a b (o++(b.extract t j).reverse) i t:=by
 unfold MH at *;rw[Dk (a:=b) ht,bJ] at h
 rwa [fb,List.reverse_append,uF,rN]
theorem Ng (h:0<i) (e:a[i-1]?=some x):o.push x=o++(a.extract (i-1) i).reverse:=by obtain⟨h1,rfl⟩:=Array.getElem?_eq_some_iff.mp e;refine Array.toList_inj.mp ?_;rw[rK,fb,uF,mG,lL,show i-(i-1)=1 by left,lK (by simpa using h1)];simp
theorem MH.a1 (h:MH a b o i j) (h0:0<i) (e:a[i-1]?=some x):MH a b (o.push x) (i-1) j:=by rw[Ng h0 e];exact h.A ⋯
theorem MH.b1 (h:MH a b o i j) (h0:0<j) (e:b[j-1]?=some x):MH a b (o.push x) i (j-1):=by rw[Ng h0 e];exact h.B ⋯
theorem MH.i0 (h0:0<a.size) (e:a[a.size-1]?=some x):MH a b #[x] (a.size-1) b.size:=MH.a1 (o:=#[]) (by unfold MH;rw[←cD,jX,←cD,jX];simp) h0 e
theorem MH.ab (h:MH a b o i j):(a.extract 0 i++b.extract 0 j++o.reverse).toList.Perm (a.toList++b.toList):=by
 rw[fb,fb,mG,mG,uF,bJ]
 simpa [lL,MH] using h
theorem MH.ba (h:MH a b o i j):(b.extract 0 j++a.extract 0 i++o.reverse).toList.Perm (a.toList++b.toList):=by refine .trans ?_ h.ab;rw[fb,fb,fb,fb];exact .append_right _ rM
end
inductive Rh (a b:Array Keyed) (x:Nat):Option (Array Keyed)->Array Keyed->Nat->Nat->Prop
 | out (R o:Array Keyed) (i j:Nat) (h:R.toList.Perm (a.toList++b.toList)):Rh a b x (some R) o i j
 | on (o:Array Keyed) (i j:Nat) (h:MH a b o i j) (h1:0<i/\i<=a.size) (h2:1<j/\j<=b.size) (h3:x+i+j<=a.size+b.size):Rh a b x none o i j
theorem Rh.inv {a b:Array Keyed}{x i j:Nat} (h:Rh a b x none o i j):MH a b o i j/\(0<i/\i<=a.size)/\(1<j/\j<=b.size)/\x+i+j<=a.size+b.size:=by cases h;exact⟨‹_›,‹_›,‹_›,‹_›⟩
theorem Rh.res {a b:Array Keyed}{x i j:Nat}{R o:Array Keyed} (h:Rh a b x (some R) o i j):R.toList.Perm (a.toList++b.toList):=by cases h;assumption
section
variable {prog:Zh}{w:Zi}{A:Around}{E:Zq}{s:Zg}{S:List Keyed}{st:SortSt}{arr:Array Keyed}
theorem nT {m n:Nat}{t e:StateT SortSt Sem α}{Q:α->SortSt->Prop} (h1:m=n->wpS (model prog w) A E s t Q st) (h2:¬m=n->wpS (model prog w) A E s e Q st):wpS (model prog w) A E s (if (m==n)=true then t else e) Q st:=by
 split
 ·rename_i h;exact h1 (by simpa using h)
 ·rename_i h;exact h2 (by simpa using h)
theorem kI {p:Prop} [Decidable p] {t e:StateT SortSt Sem α}{Q:α->SortSt->Prop} (h1:p->wpS (model prog w) A E s t Q st) (h2:¬p->wpS (model prog w) A E s e Q st):wpS (model prog w) A E s (if p then t else e) Q st:=by
 split
 ·exact h1 ‹_›
 ·exact h2 ‹_›
seal MI MH Array.extract Array.push Array.append Array.reverse
local macro_rules | `(tactic| ac_nf) => `(tactic| ((try dsimp only); repeat first | assumption | apply MI.A | apply MI.B | refine MI.a1 ?_ (by assumption) | refine MI.b1 ?_ (by assumption) | left))
local macro_rules | `(tactic| ac_rfl) => `(tactic| first | exact ⟨_, rfl, .out _ _ _ _ (MI.ab (by ac_nf))⟩ | exact ⟨_, rfl, .out _ _ _ _ (MI.ba (by ac_nf))⟩)
local macro_rules | `(tactic| bv_omega) => `(tactic| repeat' first
 | (refine aY ?_;first
  | ac_rfl
  | exact⟨_,rfl,.on _ _ _ (by ac_nf) (by ac_nf) (by ac_nf) (by ac_nf)⟩
  | exact⟨_,rfl,rfl,.on _ _ _ (by ac_nf) (by ac_nf) (by ac_nf) (by ac_nf)⟩)
 | refine aB (wpS_modify ?_)
 | refine aB (kH (by assumption) ⋯ fun y hy ey=>?_)
 | refine aB (qD (by assumption) (by assumption) (by assumption) (by assumption) ⋯ ⋯ fun k kn=>?_)
 | refine aB (è.run (by assumption) _ (by assumption) _ (by assumption) _ _ (by assumption) fun b=>?_)
 | refine nT (fun _=>?_) fun _=>?_
 | refine kI (fun _=>?_) fun _=>?_
 | dsimp only)
theorem Ao (C:è prog w A E s S) {a b:Array Keyed}{Q:Array Keyed->SortSt->Prop} (hk:kindOf st=oneType') (ha:∀ x∈a.toList,x∈S) (hb:∀ x∈b.toList,x∈S) (a0:0<a.size) (b0:0<b.size)
  (h:∀ (R:Array Keyed) (g:Nat),R.toList.Perm (a.toList++b.toList)->Q R (jM st g)):wpS (model prog w) A E s (GD a b) Q st:=by
 refine aB (wpS_lift (dU ⟨rfl,?_⟩));refine aB (kH hb b0 fun y0 y1 y2=>?_);have M0:MI a b #[y0] 0 1:=MI.i0 y2;refine nT (fun _=>aY (h _ (gallopOf st) M0.ab)) fun _=>nT (fun _=>aY (h _ (gallopOf st) M0.ba)) fun _=>?_;refine aB (wpS_get ?_);refine aB (wpS_mono (fD (I:=fun x c st'=>∃ g,st'=jM st g/\c.1=none/\Rs a b (x+1) none c.2.1 c.2.2.1 c.2.2.2.1)
  (Q:=fun c st'=>∃ g,st'=jM st g/\∃ R,c.1=some R/\R.toList.Perm (a.toList++b.toList)) ?_ ?_ ⟨gallopOf st,rfl,rfl,.on _ _ _ M0 (by ac_nf) (by ac_nf) (by ac_nf)⟩) ?_)
 ·rintro x c _-hx ⟨g,rfl,-,hR⟩;obtain⟨M,h1,h2,h3⟩:=hR.inv;refine aB (wpS_mono (fD (I:=fun y c st'=>∃ g,st'=jM st g/\c.1=none/\Rs a b (x+1+min y 1) none c.2.1 c.2.2.1 c.2.2.2.1)
   (Q:=fun c st'=>∃ g,st'=jM st g/\Rs a b (x+2) c.1 c.2.1 c.2.2.1 c.2.2.2.1) ?_ ?_ ⟨g,rfl,rfl,.on _ _ _ M h1 h2 (by ac_nf)⟩) ?_)
  ·rintro y c _-hy ⟨g,rfl,-,hR⟩;obtain⟨M,h1,h2,h3⟩:=hR.inv;bv_omega
  ·rintro c _ ⟨g,rfl,e,hR⟩;obtain⟨M,h1,h2,h3⟩:=hR.inv;rw[e];exact⟨_,rfl,.on _ _ _ M h1 h2 (by ac_nf)⟩
  ·rintro c _ ⟨g,rfl,hR⟩;cases e:c.1 with
   | some R=>rw[e] at hR;exact aY ⟨_,rfl,_,rfl,hR.res⟩
   | none =>
   rw[e] at hR;obtain⟨M,h1,h2,h3⟩:=hR.inv;refine aB (wpS_lift (dU ⟨rfl,?_⟩));refine aB (wpS_mono (fD (I:=fun y c st'=>∃ g,st'=jM st g/\c.1=none/\Rs a b (x+2) none c.2.1 c.2.2.1 c.2.2.2.1)
    (Q:=fun c st'=>∃ g,st'=jM st g/\Rs a b (x+2) c.1 c.2.1 c.2.2.1 c.2.2.2.1) ?_ ?_ ⟨g,rfl,rfl,.on _ _ _ M h1 h2 h3⟩) ?_)
   ·rintro y c _-hy ⟨g,rfl,-,hR⟩;obtain⟨M,h1,h2,h3⟩:=hR.inv;bv_omega
   ·rintro c _ ⟨g,rfl,e,hR⟩;rw[e];exact⟨_,rfl,hR⟩
   ·rintro c _ ⟨g,rfl,hR⟩;cases e:c.1 with
    | some R=>rw[e] at hR;exact aY ⟨_,rfl,_,rfl,hR.res⟩
    | none =>
    rw[e] at hR;obtain⟨M,h1,h2,h3⟩:=hR.inv;exact aB (wpS_modify (aY ⟨_,rfl,rfl,.on _ _ _ M h1 h2 h3⟩))
 ·rintro c _ ⟨g,rfl,-,hR⟩;obtain⟨M,h1,h2,h3⟩:=hR.inv;left
 ·rintro c _ ⟨g,rfl,R,hc,h1⟩;rw[hc];exact aY (h R g h1)
local macro_rules | `(tactic| ac_nf) => `(tactic| ((try dsimp only); repeat first | assumption | refine MH.a1 ?_ (by left) (by assumption) | refine MH.b1 ?_ (by left) (by assumption) | refine MH.A ?_ (by left) | refine MH.B ?_ (by left) | left))
local macro_rules | `(tactic| ac_rfl) => `(tactic| first | exact ⟨_, rfl, .out _ _ _ _ (MH.ab (by ac_nf))⟩ | exact ⟨_, rfl, .out _ _ _ _ (MH.ba (by ac_nf))⟩)
theorem An (C:è prog w A E s S) {a b:Array Keyed}{Q:Array Keyed->SortSt->Prop} (hk:kindOf st=oneType') (ha:∀ x∈a.toList,x∈S) (hb:∀ x∈b.toList,x∈S) (a0:0<a.size) (b0:0<b.size)
  (h:∀ (R:Array Keyed) (g:Nat),R.toList.Perm (a.toList++b.toList)->Q R (jM st g)):wpS (model prog w) A E s (GC a b) Q st:=by
 refine aB (wpS_lift (dU ⟨rfl,?_⟩));refine aB (kH ha ⋯ fun y0 y1 y2=>?_);have M0:MH a b #[y0] (a.size-1) b.size:=MH.i0 a0 y2;refine nT (fun _=>aY (h _ (gallopOf st) M0.ab)) fun _=>nT (fun _=>aY (h _ (gallopOf st) M0.ba)) fun _=>?_;refine aB (wpS_get ?_);refine aB (wpS_mono (fD (I:=fun x c st'=>∃ g,st'=jM st g/\c.1=none/\Rh a b (x+1) none c.2.2.2.1 c.2.1 c.2.2.1)
  (Q:=fun c st'=>∃ g,st'=jM st g/\∃ R,c.1=some R/\R.toList.Perm (a.toList++b.toList)) ?_ ?_ ⟨gallopOf st,rfl,rfl,.on _ _ _ M0 (by ac_nf) (by ac_nf) (by ac_nf)⟩) ?_)
 ·rintro x c _-hx ⟨g,rfl,-,hR⟩;obtain⟨M,h1,h2,h3⟩:=hR.inv;refine aB (wpS_mono (fD (I:=fun y c st'=>∃ g,st'=jM st g/\c.1=none/\Rh a b (x+1+min y 1) none c.2.2.2.1 c.2.1 c.2.2.1)
   (Q:=fun c st'=>∃ g,st'=jM st g/\Rh a b (x+2) c.1 c.2.2.2.1 c.2.1 c.2.2.1) ?_ ?_ ⟨g,rfl,rfl,.on _ _ _ M h1 h2 (by ac_nf)⟩) ?_)
  ·rintro y c _-hy ⟨g,rfl,-,hR⟩;obtain⟨M,h1,h2,h3⟩:=hR.inv;bv_omega
  ·rintro c _ ⟨g,rfl,e,hR⟩;obtain⟨M,h1,h2,h3⟩:=hR.inv;rw[e];exact⟨_,rfl,.on _ _ _ M h1 h2 (by ac_nf)⟩
  ·rintro c _ ⟨g,rfl,hR⟩;cases e:c.1 with
   | some R=>rw[e] at hR;exact aY ⟨_,rfl,_,rfl,hR.res⟩
   | none =>
   rw[e] at hR;obtain⟨M,h1,h2,h3⟩:=hR.inv;refine aB (wpS_lift (dU ⟨rfl,?_⟩));refine aB (wpS_mono (fD (I:=fun y c st'=>∃ g,st'=jM st g/\c.1=none/\Rh a b (x+2) none c.2.2.2.1 c.2.1 c.2.2.1)
    (Q:=fun c st'=>∃ g,st'=jM st g/\Rh a b (x+2) c.1 c.2.2.2.1 c.2.1 c.2.2.1) ?_ ?_ ⟨g,rfl,rfl,.on _ _ _ M h1 h2 h3⟩) ?_)
   ·rintro y c _-hy ⟨g,rfl,-,hR⟩;obtain⟨M,h1,h2,h3⟩:=hR.inv;bv_omega
   ·rintro c _ ⟨g,rfl,e,hR⟩;rw[e];exact⟨_,rfl,hR⟩
   ·rintro c _ ⟨g,rfl,hR⟩;cases e:c.1 with
    | some R=>rw[e] at hR;exact aY ⟨_,rfl,_,rfl,hR.res⟩
    | none =>
    rw[e] at hR;obtain⟨M,h1,h2,h3⟩:=hR.inv;exact aB (wpS_modify (aY ⟨_,rfl,rfl,.on _ _ _ M h1 h2 h3⟩))
 ·rintro c _ ⟨g,rfl,-,hR⟩;obtain⟨M,h1,h2,h3⟩:=hR.inv;left
 ·rintro c _ ⟨g,rfl,R,hc,h1⟩;rw[hc];exact aY (h R g h1)
end
theorem Jx (R:List Keyed):∀ (k o:Nat) (arr:Array Keyed),o+k+⇑R<=arr.size->((R.zipIdx k).foldl (fun a (p,j)=>a.setIfInBounds (o+j) p) arr).toList=arr.toList.take (o+k)++R++arr.toList.drop (o+k+⇑R):=by
 induction R with
 | nil=>intro k o arr _;simp
 | cons x R ih =>
  intro k o arr h;simp only[bf] at h;rw[List.zipIdx_cons,og];show ((R.zipIdx (k+1)).foldl _ (arr.setIfInBounds (o+k) x)).toList=_;rw[ih (k+1) o _ (by simp;left)];rw[Array.toList_setIfInBounds];have hl:o+k<⇑arr.toList:=by simp;left
  rw[show o+(k+1)=o+k+1 by left,gA,List.take_set,bf,show o+k+1+⇑R=o+k+(⇑R+1) by left];rw[iW hl];rw[List.set_eq_of_length_le (by simp;left),List.drop_set_of_lt ⋯];simp
noncomputable def Ý:List (Nat×Nat×Nat)->Nat->Nat->Prop
 | [],a,hi=>a=hi
 | x::r,a,hi=>x.1=a/\0<x.2.1/\Ý r (a+x.2.1) hi
theorem Ý.le:∀ {l:List (Nat×Nat×Nat)}{a hi:Nat},Ý l a hi->a<=hi
 | [],a,hi,h=>jY h
 | x::r,a,hi,h=>aX (Nat.le_add_right _ _) (Ý.le h.2.2)
theorem Ý.push:∀ {l:List (Nat×Nat×Nat)}{a hi n p:Nat},Ý l a hi->0<n->Ý (l++[(hi,n,p)]) a (hi+n)
 | [],a,hi,n,p,h,h0=>by cases (h:a=hi);exact⟨rfl,h0,rfl⟩
 | x::r,a,hi,n,p,h,h0=>⟨h.1,h.2.1,Ý.push h.2.2 h0⟩
theorem Ý.mod {w:Nat}:∀ {l:List (Nat×Nat×Nat)}{a hi:Nat} (i:Nat),Ý l a hi->Ý (l.modify i fun x=>(x.1,x.2.1,w)) a hi
 | [],a,hi,i,h=>by simpa using h
 | x::r,a,hi,0,h=>by rw[List.modify_zero_cons];exact h
 | x::r,a,hi,i+1,h=>⟨h.1,h.2.1,Ý.mod i h.2.2⟩
theorem Ý.two:∀ {l:List (Nat×Nat×Nat)}{a hi i s1 n1 p1 s2 n2 p2:Nat},Ý l a hi->l[i]?=some (s1,n1,p1)->l[i+1]?=some (s2,n2,p2) →
  s2=s1+n1/\0<n1/\0<n2/\s2+n2<=hi/\Ý ((l.set i (s1,n1+n2,p1)).eraseIdx (i+1)) a hi
 | [],_,_,_,_,_,_,_,_,_,_,h,_=>by simp at h
 | x::[],a,hi,i,_,_,_,_,_,_,_,h1,h2=>by cases i<;>simp at h2
 | x::y::r,a,hi,0,s1,n1,p1,s2,n2,p2,⟨q1,q2,q3,q4,q5⟩,h1,h2=>by
  cases (show x=_ by simpa using h1)
  cases (show y=_ by simpa using h2)
  dsimp only at *;exact⟨⋯,q2,q4,by have:=q5.le;left,q1,bH q2 (Nat.le_add_right _ _),by rw[←Nat.add_assoc];exact q5⟩
 | x::y::r,a,hi,i+1,s1,n1,p1,s2,n2,p2,h,h1,h2=>by obtain⟨q2,q3,q4,q5,q6⟩:=Ý.two (i:=i) h.2.2 (by simpa using h1) (by simpa using h2);exact⟨q2,q3,q4,q5,h.1,h.2.1,q6⟩
section
variable {prog:Zh}{w:Zi}{A:Around}{E:Zq}{s:Zg}{a₀:Array Keyed}{st:SortSt}
structure Ok (a₀:Array Keyed) (st:SortSt) (hi:Nat):Prop where
 perm:(arrOf st).Perm a₀
 kind:kindOf st=oneType'
 failed:failedOf st=none
 pend:Ý (pendingOf st).toList 0 hi
theorem Ok.mem {hi:Nat} (h:Ok a₀ st hi):∀ x∈(arrOf st).toList,x∈a₀.toList:=fun x hx=>h.perm.toList.mem_iff.mp hx
theorem Ok.setArr {hi:Nat}{xs:Array Keyed} (h:Ok a₀ st hi) (hp:xs.Perm (arrOf st)):Ok a₀ (setArr st xs) hi:=⟨hp.trans h.perm,h.kind,h.failed,h.pend⟩
theorem Ok.push {hi n:Nat} (h:Ok a₀ st hi) (h0:0<n):Ok a₀ (setPending st ((pendingOf st).push (hi,n,0))) (hi+n):=⟨h.perm,h.kind,h.failed,by show Ý ((pendingOf st).push (hi,n,0)).toList 0 (hi+n);rw[rK];exact h.pend.push h0⟩
theorem Ok.mod {hi i w:Nat} (h:Ok a₀ st hi):Ok a₀ (setPending st ((pendingOf st).modify i fun x=>(x.1,x.2.1,w))) hi:=⟨h.perm,h.kind,h.failed,by show Ý ((pendingOf st).modify i fun x=>(x.1,x.2.1,w)).toList 0 hi;rw[Array.toList_modify];exact h.pend.mod i⟩
theorem tV (C:è prog w A E s a₀.toList) {hi i:Nat}{Q:Bool->SortSt->Prop} (H:Ok a₀ st hi) (hh:hi<=a₀.size) (h2:i+1<(pendingOf st).size) (h:∀ st',Ok a₀ st' hi->Q true st'):wpS (model prog w) A E s (mergeAt' i) Q st:=by
 obtain⟨⟨sa,na,pa⟩,e1⟩:∃ x,(pendingOf st)[i]?=some x:=⟨_,gu ⋯⟩;obtain⟨⟨sb,nb,pb⟩,e2⟩:∃ x,(pendingOf st)[i+1]?=some x:=⟨_,gu h2⟩;obtain⟨q1,q2,q3,q4,q5⟩:=H.pend.two (by rw[eI];exact e1) (by rw[eI];exact e2);have sz:=H.perm.size_eq;have H1:∀ (xs:Array Keyed) (g:Nat),xs.Perm (arrOf st)->Ok a₀ (SortSt.mk' (kindOf st) xs (((pendingOf st).setIfInBounds i (sa,na+nb,pa)).eraseIdxIfInBounds (i+1)) g (failedOf st)) hi:=fun xs g hp =>⟨hp.trans H.perm,H.kind,H.failed,by show Ý (((pendingOf st).setIfInBounds i (sa,na+nb,pa)).eraseIdxIfInBounds (i+1)).toList 0 hi;rw[Array.toList_eraseIdxIfInBounds,Array.toList_setIfInBounds];exact q5⟩;have m:=H.mem;refine aB (wpS_get ?_);dsimp only;rw[e1,e2];dsimp only;refine aB (wpS_modify (f:=fun _=>_) ?_);refine aB (kH m (show sb<(arrOf st).size by left) fun y hy _=>?_);refine aB (qD C (by exact H.kind) m hy (show sa+na<=(arrOf st).size by left) q2 fun k hk=>?_);dsimp only;refine nT (fun _=>aY (h _ (H1 _ _ (.refl _)))) fun _=>?_;refine aB (kH m (show sa+k+(na-k)-1<(arrOf st).size by left) fun y hy _=>?_);refine aB (qD C (by exact H.kind) m hy (show sb+nb<=(arrOf st).size by left) ⋯ fun k2 hk2=>?_);dsimp only;refine nT (fun _=>aY (h _ (H1 _ _ (.refl _)))) fun _=>?_;have sx:((arrOf st).extract (sa+k) sb).size=sb-(sa+k):=by rw[Array.size_extract];left
 have sy:((arrOf st).extract sb (sb+k2)).size=k2:=by rw[Array.size_extract];left
 have mx:∀ {i j:Nat},∀ x∈((arrOf st).extract i j).toList,x∈a₀.toList:=fun {i j} x hx=>m x (by rw[mG,lL] at hx;exact List.mem_of_mem_drop (List.mem_of_mem_take hx));have post:∀ (M:Array Keyed) (g:Nat),M.toList.Perm (((arrOf st).extract (sa+k) sb).toList++((arrOf st).extract sb (sb+k2)).toList)->wpS (model prog w) A E s (do
   modify fun s=>setArr s (M.toList.zipIdx.foldl (fun a (p,j)=>a.setIfInBounds (sa+k+j) p) (arrOf s))
   return (failedOf (←get)).isNone) Q (jM (setPending st (((pendingOf st).setIfInBounds i (sa,na+nb,pa)).eraseIdxIfInBounds (i+1))) g):=fun M g hM=>by
  have lM:=hM.length_eq;rw[aF,((arrOf st).extract (sa+k) sb).length_toList,((arrOf st).extract sb (sb+k2)).length_toList,sx,sy] at lM;refine aB (wpS_modify (aB (wpS_get (aY ?_))));show Q (failedOf st).isNone _;rw[show (failedOf st).isNone=true by rw[H.failed];rfl];refine h _ (H1 _ g (Array.perm_iff_toList_perm.mpr ?_));have:=Jx M.toList 0 (sa+k) (arrOf st) ⋯;rw[Nat.add_zero] at this;refine (List.Perm.of_eq this).trans ?_;refine .trans (.append_right _ (.append_left _ hM)) (.of_eq ?_);rw[lM,show sa+k+(sb-(sa+k)+k2)=sb+k2 by left,←bJ,←Dk ⋯,←Dk ⋯,List.take_append_drop]
 refine kI (fun _=>?_) fun _=>?_
 ·exact aB (Ao C (by exact H.kind) mx mx (show 0<((arrOf st).extract (sa+k) sb).size by left) (show 0<((arrOf st).extract sb (sb+k2)).size by left) post)
 ·exact aB (An C (by exact H.kind) mx mx (show 0<((arrOf st).extract (sa+k) sb).size by left) (show 0<((arrOf st).extract sb (sb+k2)).size by left) post)
theorem Il (C:è prog w A E s a₀.toList) {hi i j:Nat}{Q:Option Bool->SortSt->Prop} (H:Ok a₀ st hi) (h1:i<a₀.size) (h2:j<a₀.size) (h:∀ b,Q (some b) st):wpS (model prog w) A E s (ltAt' i j) Q st:=by have sz:=H.perm.size_eq;rw[ltAt'_eq];exact aB (wpS_get (aB (kH H.mem (show i<(arrOf st).size by left) fun x hx _=>aB (kH H.mem (show j<(arrOf st).size by left) fun y hy _=>C.run x hx y hy st Q H.kind h))))
local macro_rules | `(tactic| ac_nf) => `(tactic| ((try dsimp only); repeat first | assumption | rfl | left | refine Ok.setArr ?_ (mirror_perm _ _ _ _)))
local macro_rules | `(tactic| bv_omega) => `(tactic| repeat' first
 | (refine aY ?_;first
  | exact⟨by ac_nf,rfl,by ac_nf,by ac_nf⟩
  | (apply_assumption<;>ac_nf))
 | refine aB (wpS_reverse ?_)
 | refine aB (Il (by assumption) (by ac_nf) ⋯ ⋯ fun b=>?_)
 | refine aB (wpS_lift (dU ⟨rfl,?_⟩))
 | refine nT (fun _=>?_) fun _=>?_
 | refine kI (fun _=>?_) fun _=>?_
 | dsimp only)
theorem wg (C:è prog w A E s a₀.toList) {hi lo nrem:Nat}{Q:Option Nat->SortSt->Prop} (H:Ok a₀ st hi) (hn:lo+nrem<=a₀.size) (h1:1<=nrem) (h:∀ n st',Ok a₀ st' hi->1<=n->n<=nrem->Q (some n) st'):wpS (model prog w) A E s (countRun' lo nrem) Q st:=by
 rw[countRun'_eq];refine aB (wpS_mono (fD (I:=fun x c st'=>Ok a₀ st' hi/\c.1=none/\1<=c.2/\c.2<=x) (Q:=fun c st'=>Ok a₀ st' hi/\c.1=none/\1<=c.2/\c.2<=nrem) ?_ ?_ ⟨H,rfl,av _,av _⟩) ?_)
 ·rintro x ⟨_,n⟩ st' h3 h4 ⟨H,rfl,h5,h6⟩;dsimp only at *;bv_omega
 ·rintro⟨_,n⟩ st' ⟨H,rfl,h5,h6⟩;dsimp only at *;exact⟨H,rfl,h5,⋯⟩
 rintro⟨_,n⟩ st' ⟨H,rfl,h5,h6⟩;dsimp only at *;bv_omega
 all_goals
  refine aB (wpS_mono (fD (I:=fun x c st'=>Ok a₀ st' hi/\c.1=none/\1<=c.2.1/\c.2.1<=x) (Q:=fun c st'=>Ok a₀ st' hi/\c.1=none/\1<=c.2.1/\c.2.1<=nrem) ?_ ?_ ⟨by ac_nf,rfl,by ac_nf,by ac_nf⟩) ?_)
  ·rintro x ⟨_,n,q⟩ st' h3 h4 ⟨H,rfl,h5,h6⟩;dsimp only at *;bv_omega
  ·rintro⟨_,n,q⟩ st' ⟨H,rfl,h5,h6⟩;dsimp only at *;exact⟨H,rfl,h5,⋯⟩
  rintro⟨_,n,q⟩ st' ⟨H,rfl,h5,h6⟩;dsimp only at *;bv_omega
  all_goals
   refine aB (wpS_mono (fD (I:=fun x c st'=>Ok a₀ st' hi/\c.1=none/\1<=c.2/\c.2<=x) (Q:=fun c st'=>Ok a₀ st' hi/\c.1=none/\1<=c.2/\c.2<=nrem) ?_ ?_ ⟨by ac_nf,rfl,by ac_nf,by ac_nf⟩) ?_)
   ·rintro x ⟨_,n⟩ st' h3 h4 ⟨H,rfl,h5,h6⟩;dsimp only at *;bv_omega
   ·rintro⟨_,n⟩ st' ⟨H,rfl,h5,h6⟩;dsimp only at *;exact⟨H,rfl,h5,⋯⟩
   rintro⟨_,n⟩ st' ⟨H,rfl,h5,h6⟩;exact aY (h _ _ H h5 h6)
theorem uw (C:è prog w A E s a₀.toList) {hi lo n ok:Nat}{Q:Bool->SortSt->Prop} (H:Ok a₀ st hi) (hn:lo+n<=a₀.size) (h:∀ st',Ok a₀ st' hi->Q true st'):wpS (model prog w) A E s (binarySort' lo n ok) Q st:=by
 rw[binarySort'_eq];refine aB (loop (J:=fun c st'=>Ok a₀ st' hi/\c.1=none) ⟨H,rfl⟩ ?_ ?_)
 ·rintro k ⟨_,_⟩ st1 h1 h2 ⟨H1,rfl⟩;refine aB (loop (J:=fun c st'=>Ok a₀ st' hi/\c.1=none/\c.2.2<=k) ⟨H1,rfl,av _⟩ ?_ ?_)
  ·rintro x ⟨_,l,r⟩ st2 _ _ ⟨H2,rfl,h3⟩;dsimp only at *;refine kI (fun _=>aY ⟨H2,rfl,h3⟩) fun _=>aB (Il C H2 ⋯ ⋯ fun b=>?_);cases b
   ·exact aY ⟨H2,rfl,h3⟩
   ·exact aY ⟨H2,rfl,by dsimp only;left⟩
  ·rintro⟨_,l,r⟩ st2 ⟨H2,rfl,h3⟩;show wpS _ _ _ _ (do moveDown' _ _;pure _) _ _;rw[moveDown'_eq];exact aB (wpS_modify (aY ⟨H2.setArr (bubble_perm _ _ _),rfl⟩))
 ·rintro⟨_,_⟩ st1 ⟨H1,rfl⟩;exact aY (h _ H1)
theorem wj (C:è prog w A E s a₀.toList) {Q:Unit->SortSt->Prop} (H:Ok a₀ st 0) (h:∀ st',(arrOf st').Perm a₀->failedOf st'=none->Q () st'):wpS (model prog w) A E s sortRuns' Q st:=by
 rw[sortRuns'_eq];refine aB (wpS_get ?_);dsimp only;rw[H.perm.size_eq];generalize minRun' a₀.size a₀.size 0=mr;refine aB (loop (J:=fun c st'=>c.1=none/\Ok a₀ st' c.2/\c.2<=a₀.size) ⟨rfl,H,bc _⟩ ?_ ?_)
 ·rintro x ⟨_,lo⟩ st1 _ hx ⟨rfl,H1,hl⟩;dsimp only at *;refine kI (fun _=>aY ⟨rfl,H1,hl⟩) fun hge=>?_;refine aB (wg C H1 ⋯ ⋯ fun n st2 H2 n1 n2=>?_);dsimp only;refine kI (fun _=>aB (wpS_lift (dU ⟨rfl,aB (uw C H2 ⋯ fun st2 H2=>?_)⟩))) fun _=>?_
  all_goals
   (try simp only[Bool.not_true,iH,gh])
   refine aB (wpS_get ?_);rcases (pendingOf st2).back? with _ | ⟨s1,n1',pw1⟩
   ·exact aB (wpS_modify (aY ⟨rfl,H2.push ⋯,by dsimp only;left⟩))
   dsimp only;refine aB (loop (J:=fun c st'=>c.1=none/\Ok a₀ st' lo) ⟨rfl,H2⟩ ?_ ?_)
   ·rintro y ⟨_,_⟩ st3 _ _ ⟨rfl,H3⟩;refine aB (wpS_get ?_);rcases ho:(if (pendingOf st3).size>1 then (pendingOf st3)[(pendingOf st3).size-2]? else none) with _ | ⟨_,_,older⟩
    ·exact aY ⟨rfl,H3⟩
    dsimp only;refine kI (fun _=>aY ⟨rfl,H3⟩) fun _=>aB (tV C H3 hl ?_ fun st4 H4=>?_)
    ·by_cases hq:(pendingOf st3).size>1
     ·exact show (pendingOf st3).size-2+1<(pendingOf st3).size by left
     ·rw[ag hq] at ho;cases ho
    ·exact aY ⟨rfl,H4⟩
   ·rintro⟨_,_⟩ st3 ⟨rfl,H3⟩;exact aB (wpS_modify (aB (wpS_modify (aY ⟨rfl,H3.mod.push ⋯,by dsimp only;left⟩))))
 ·rintro⟨_,lo⟩ st1 ⟨rfl,H1,hl⟩;refine aB (loop (J:=fun c st'=>c.1=none/\Ok a₀ st' lo) ⟨rfl,H1⟩ ?_ ?_)
  ·rintro y ⟨_,_⟩ st3 _ _ ⟨rfl,H3⟩;refine aB (wpS_get ?_);refine kI (fun _=>aY ⟨rfl,H3⟩) fun h1=>aB (tV C H3 hl ?_ fun st4 H4=>aY ⟨rfl,H4⟩);have h1:¬(pendingOf st3).size<=1:=h1;have hi2:∀ b:Bool,(if b=true then (pendingOf st3).size-2-1 else (pendingOf st3).size-2)+1<(pendingOf st3).size:=fun b=>by cases b<;>simp<;>left
   exact hi2 _
  ·rintro⟨_,_⟩ st3 ⟨rfl,H3⟩;exact aY (h _ H3.perm H3.failed)
end
end Tim3
namespace Tim3
open PySem PyProof.Rows L2 Tim2
variable {a:Addr}{vs:Zc}
section
variable {prog:Zh}{w:Zi}{A:Around}{E:Zq}{s:Zg}
theorem ua {n:Nat}{P:Fin->Zg->Prop} (ho:s.heap.get? a=some (seqObj "list" vs.toArray n))
  (C:è prog w A E { s with heap:=qu s.heap a vs } (pairsOf vs).toList)
  (hkk:2<=⇑vs->∀ {Q:SortKind->Zg->Prop},Q oneType' { s with heap:=qu s.heap a vs }->wpAny (model prog w) A (keyKind' vs.toArray) Q E { s with heap:=qu s.heap a vs }) (hlen:⇑vs<=sizeLine)
  (h:∀ arr:Array Keyed,arr.Perm (pairsOf vs)->P (.done (.ret .none)) { s with heap:=sortedHeap s.heap a vs (arr.map (·.2)) }) :
  wpAny (model prog w) A (Builtin.«list.sort» ⟨[.ref a],[]⟩) P E s:=by
 rw[list_sort_plain];have ha:a<s.heap.objs.size:=aH ho;have hsz:vs.toArray.size=⇑vs:=by simp
 refine aa (listItems_at ho rfl ?_);refine aa (listUpdate_at ho rfl ?_ (hsz:=⋯));obtain⟨e1,ho1⟩:∃ e1,(s.heap.update a (Obj.mapSeq fun _=>#[])).get? a=some (seqObj "list" #[] e1):=⟨_,ke ho (fun _=>#[])⟩;refine aa (seqEpoch_at ho1 rfl ?_);refine aa (wpAny_newTuple ?_);refine aa (wpAny_newList ?_);refine cB ?_;have ho6:(qu s.heap a vs).get? a=some (seqObj "list" #[] e1):=by rw[Heap.get?_push_ne _ _ _ (by rw[size_push',Heap.size_update];exact bh (gb ha)),Heap.get?_push_ne _ _ _ (by rw[Heap.size_update];exact bh ha)];exact ho1
 show wpAny (model prog w) A _ P E { s with heap:=qu s.heap a vs };dsimp only
 by_cases h2:vs.toArray.size<2
 ·rw[ai h2,ai h2];refine aa (aq ?_);rw[StateT.run_pure];refine aa (aq ?_);dsimp only;refine aa (seqEpoch_at ho6 rfl ?_);refine aa (listUpdate_at ho6 rfl ?_ (hsz2:=by rw[Array.size_map];show (pairsOf vs).size<=_;rw[pairsOf_size,gi];left));simp only[bne_self_eq_false,iH,gh];exact aq (h (pairsOf vs) (Array.Perm.refl _))
 ·rw[ag h2,ag h2];refine aa (hkk ⋯ ?_);refine aa (bO (Tim3.wj C (st:=SortSt.mk' oneType' (vs.toArray.zip vs.toArray) #[] 7 none) (Q:=fun _ st'=>(arrOf st').Perm (pairsOf vs)/\failedOf st'=none)
   ⟨.refl _,rfl,rfl,rfl⟩ fun st' a1 a2=>⟨a1,a2⟩) ?_ fun _ _ e=>e)
  rintro⟨⟨⟩,st'⟩ s' ⟨rfl,hp,hf⟩;dsimp only;refine aa (seqEpoch_at ho6 rfl ?_);refine aa (listUpdate_at ho6 rfl ?_ (hsz2:=by refine aX (jY ((Array.size_map ..).trans (hp.size_eq.trans (pairsOf_size _)))) ?_;left));rw[hf];simp only[bne_self_eq_false,iH,gh];exact aq (h (arrOf st') hp)
theorem ER {T:String}{o:Obj}{n:Nat}{Q:Zq} (hT:T="list"∨T="tuple") (ho:s.heap.get? a=some o) (hc:o.cls=.type T) (hd:o.data=.seq vs.toArray n)
  (hv:∀ v∈vs,∃ (b:Addr) (items:Array Value) (ns:Zb),v=.ref b/\s.heap.IsList b items/\IntsAre items.toList ns) (hz:⇑vs<=sizeLine) (hu:A.in1.in1.units<cLine)
  (k:∀ (h1 h':Heap) (out:Array Value) (c:Nat),(∀ b o,s.heap.get? b=some o->h1.get? b=some o)->(∀ b o,h1.get? b=some o->h'.get? b=some o)->h'.get? h1.objs.size=some (seqObj "list" out c)->out.toList.Perm vs->Q (.ref h1.objs.size) { s with heap:=h' }) :
  wpAny (model prog w) A (call (.builtin "sorted") [.ref a]) Q E s:=by
 refine Calls.call_function_entry kind_sorted plain_sorted entry_sorted (args_sorted1 _) ?_;unfold Builtin.«sorted»;refine aa (m:=checkCount "sorted" 1 1 _) (aq (aa (wpAny_collect_seq a hT ho hc hd (fun h1 k1=>?_) (by rw[bA];exact hz))));rw[show vs.toArray.toList=vs from by simp];refine aa (wpAny_newList ?_ hz);have gL:(h1.push (seqObj "list" vs.toArray 0)).get? h1.objs.size=some (seqObj "list" vs.toArray 0):=bz _ rfl;have kp:∀ b o,h1.get? b=some o->(qu (h1.push (seqObj "list" vs.toArray 0)) h1.objs.size vs).get? b=some o:=fun b o z=>by have hb:h1.objs.size≠b:=gB (aH z);exact aE _ (aE _ ((dy _ _ hb).trans (aE _ z)))
 have hv2:∀ v∈vs,∃ (b:Addr) (items:Array Value) (ns:Zb),v=.ref b/\(qu (h1.push (seqObj "list" vs.toArray 0)) h1.objs.size vs).IsList b items/\IntsAre items.toList ns:=fun v hm=>by obtain⟨b,items,ns,rfl,⟨o,e1,e2⟩,hi⟩:=hv v hm;exact⟨b,items,ns,rfl,⟨o,kp _ _ (k1 _ _ e1),e2⟩,hi⟩
 refine aa (cB (i5 slot_list_sort ⟨_,gL,rfl⟩ entry_list_sort (Tim3.ua gL (Na (fun x hx=>?_) (by exact hu)) (fun h2 Q hQ=>E3 (fun v hm=>?_) h2 hQ) hz fun arr a1=>⟨_,rfl,aq ⟨_,rfl,?_⟩⟩) (args_list_sort _)))
 ·rw[vx] at hx;obtain⟨v,hm,rfl⟩:=aK.mp hx;obtain⟨b,items,ns,e,f1,f2⟩:=hv2 v hm;exact⟨b,items,ns,e,f1,f2⟩
 ·obtain⟨b,items,ns,rfl,⟨o,e1,e2,_⟩,_⟩:=hv2 v hm;exact⟨o,e1,e2⟩
 obtain⟨e1,g1⟩:∃ e1,((h1.push (seqObj "list" vs.toArray 0)).update h1.objs.size (Obj.mapSeq fun _=>#[])).get? h1.objs.size=some (seqObj "list" #[] e1):=⟨_,ke gL fun _=>#[]⟩;have g2:((((h1.push (seqObj "list" vs.toArray 0)).update h1.objs.size (Obj.mapSeq fun _=>#[])).push (seqObj "tuple" vs.toArray 0)).push (seqObj "list" #[] 0)).get? h1.objs.size=some (seqObj "list" #[] e1):=aE _ (aE _ g1);have hp:=a1.toList;rw[vx] at hp;have b1:(arr.map (·.2)).toList.Perm vs:=by rw[Array.toList_map];have:=hp.map (·.2);rw[aW,show ((fun x:Keyed=>x.2) ∘ fun v:Value=>(v,v))=id from rfl,List.map_id] at this;exact this
 refine show Q (.ref h1.objs.size) { s with heap:=sortedHeap (h1.push (seqObj "list" vs.toArray 0)) h1.objs.size vs (arr.map fun x=>x.2) } from ?_
 generalize arr.map (fun x=>x.2)=out at b1 ⊢;obtain⟨c3,g3⟩:∃ c3,(sortedHeap (h1.push (seqObj "list" vs.toArray 0)) h1.objs.size vs out).get? h1.objs.size=some (seqObj "list" out c3):=⟨_,ke g2 fun _=>out⟩;refine k h1 _ out c3 k1 (fun b o z=>?_) g3 b1;have hb:h1.objs.size≠b:=gB (aH z);exact (dy _ _ hb).trans (kp b o z)
end
end Tim3
namespace L2
open PySem PySem.Spec PyProof.Rows Tim2 Tim3
noncomputable def M6 (K:Zf):List V->Hp->VK->Prop:=fun vs H Q=>match vs with
 | [.ref a]=>∃ zs:List (Addr×Zb),Æ K H a (zs.map fun z=>V.ref z.1)/\(∀ z∈zs,Æ K H z.1 (z.2.map V.int))/\∀ ws:List (Addr×Zb),ws.Perm zs->nw H (.lst (ws.map fun z=>V.ref z.1)) Q
 | _=>False
theorem A3 {X:Cx}{K:Zf} (hK:X.K=K) (hu:X.A.units+2<cLine):da X (.builtin "sorted") (M6 K):=by
 subst hK;intro Yp s σ H xs us Q I r h;rcases xs with _ | ⟨x0,t⟩
 ·exact h.elim
 cases x0<;>try exact h.elim
 cases t<;>try exact h.elim
 next a =>
  obtain⟨zs,h1,h2,h3⟩:=h;obtain⟨u,rfl,r2⟩:=vals1 r;cases r2;obtain⟨its,rv,pl,hz⟩:=I.list h1;obtain⟨o,e1,e2,n,e3⟩:=pl.isList;have ez:(zs.map fun z=>V.ref z.1)=(zs.map (·.1)).map V.ref:=by rw[aW];rfl
  rw[ez] at rv;have hi:its=zs.map fun z=>Value.ref z.1:=by rw[Dc rv,aW];rfl
  subst hi;have hl:∀ z∈zs,∃ items,s.heap.IsList z.1 items/\IntsAre items.toList z.2:=fun z hm=>by obtain⟨jts,rj,pj,_⟩:=I.list (h2 z hm);exact⟨jts.toArray,pj.isList,by rw[show jts.toArray.toList=jts by simp];exact qN rj⟩
  rw[af] at hz;refine Tim3.ER (.inl rfl) e1 e2 e3 (fun v hm=>?_) (by rw[af];exact hz) (by exact hu) fun g1 h' out c k1 k2 hg hp=>?_
  ·obtain⟨z,hzm,rfl⟩:=aK.mp hm;obtain⟨items,q1,q2⟩:=hl z hzm;exact⟨z.1,items,z.2,rfl,q1,q2⟩
  have I1:Inv X Yp σ H { s with heap:=g1 }:=I.kept (t':=s.toks) k1;have hn:=I1.hok.fresh (av g1.objs.size);obtain⟨ws,p1,p2⟩:=Hh hp rfl;have ew:(ws.map fun z=>V.ref z.1)=(ws.map (·.1)).map V.ref:=by rw[aW];rfl
  have eo:out.toList=(ws.map (·.1)).map Value.ref:=by rw[p2,aW];rfl
  refine⟨.ref g1.objs.size,upd H g1.objs.size (.lst (ws.map fun z=>V.ref z.1)),I1.laid (t':=s.toks) (o:=.lst (ws.map fun z=>V.ref z.1)) k2 (av _) ⟨by rw[af,p1.length_eq];exact hz,out.toList,c,by rw[ew,eo];exact of_refs _,by rw[uE];exact hg⟩,rfl,h3 ws p1 _ _ hn (cX hn) aC⟩
end L2
namespace L2
open PySem PySem.Spec PyProof.Rows
section
noncomputable def cV (K:Zf) (x:Str) (st:Stmt):Prop:=∃ f fd,Ç K x x st f fd/\PySem.W.nsIn K mainGlobals x=some (some (.ref f))
noncomputable def pA (K:Zf) (C:Addr) (m q:Str) (st:Stmt):Prop:=∃ f fd,Ç K m q st f fd/\PySem.W.findIn K (.ref C) m=some (some (.ref f))/\PySem.W.isFn K (.ref f)=true
section
variable {K:Zf}{x m q:Str}{st:Stmt}{f C:Addr}{oc:Value}{od an:Option Addr}{osl:Array (Option Value)}{kV doc pm cdv ct:Value}
theorem Jb (a:PySem.W.nsIn K mainGlobals x=some (some (.ref f))) (l:K.lookup f=some ⟨oc,od,.func (PySem.W.fnOf x x (dg st) (cQ st) (aw st) .none kV doc pm an cdv ct),osl⟩) (c:PySem.W.codeIn K cdv x=true) (k:PySem.W.keepIn K (.ref f)=true):cV K x st:=⟨f,_,pI l c k,a⟩
theorem Jc (a:PySem.W.findIn K (.ref C) m=some (some (.ref f))) (i:PySem.W.isFn K (.ref f)=true) (l:K.lookup f=some ⟨oc,od,.func (PySem.W.fnOf m q (dg st) (cQ st) (aw st) .none kV doc pm an cdv ct),osl⟩) (c:PySem.W.codeIn K cdv q=true) (k:PySem.W.keepIn K (.ref f)=true):pA K C m q st:=⟨f,_,pI l c k,a,i⟩
end
section
variable {P:Zh}{w:Zi}{K:Zf}{h base:Heap}{mg:Zk}{k:Nat}{x m q:Str}{st:Stmt}{C:Addr}{ps:Ze}{sp:Sp}
theorem cV.fnc {CX:Ö} (X:K.In h) (G:h.Ns mainGlobals mg) (d:cV K x st) (o:∀ f fd,Ç K x x st f fd->bR P w K mg base CX k f fd ps sp)
  (b:∀ (kV doc pm:Value) (an:Option Addr) (cdv ct:Value) (us:Zc),⇑us=⇑ps->bindArgs (PySem.W.fnOf x x (dg st) (cQ st) (aw st) .none kV doc pm an cdv ct) ⟨us,[]⟩=pure (ps.zip us)):Å P w K mg base CX k x ps sp:=by
 obtain⟨f,fd,F,a⟩:=d;exact⟨f,fd,o f fd F,cA X G a,F.kp,F.binds b⟩
theorem pA.mtd (c:à K C) (d:pA K C m q st) (o:∀ f fd,Ç K m q st f fd->bR P w K mg base (Á P w) k f fd ps sp)
  (b:∀ (kV doc pm:Value) (an:Option Addr) (cdv ct:Value) (us:Zc),⇑us=⇑ps->bindArgs (PySem.W.fnOf m q (dg st) (cQ st) (aw st) .none kV doc pm an cdv ct) ⟨us,[]⟩=pure (ps.zip us)):Í P w K mg base (Á P w) C m k ps sp:=by
 obtain⟨f,fd,F,a,i⟩:=d;exact⟨⟨f,fd,o f fd F,⟨a,i,F.kp⟩,F.binds b⟩,c⟩
end
end
end L2
namespace Kb
open PySem L2
variable {E:XK}{E':XK}{H:Hp}{H1:Hp}{J:It}{M:Int}{Q:VK}{a:Addr}{al:Za}{as:Za}{b:Int}{c:V}{d:Int}{f:Addr}{fd:FuncData}{i:Nat}{j:Nat}{js:Za}{k:Int}{key:List Key}{m:Nat}{ns:Zb}{pcs:List (Nat×Zb)}{ps:Zb}{r:Int}{s:Nat}{te:TE}{vs:List V}{ws:Zb}{wss:List (List Za)}{x:V}{xs:List V}{z:Za}{zs:List (Za)}{α:Type}{σ:St}
seal L2.PE L2.PA L2.PS L2.á L2.PT L2.PW L2.PG L2.ò L2.PI L2.PO L2.Le L2.þ
noncomputable def top (i:Nat):Stmt:=PySem.Challenge.pw_cablehouse_k29_whole_asked_again.main.body.getD i (.Pass ⟨0,0,0,0⟩)
noncomputable abbrev dF:Stmt:=inClass (top 9) 0
noncomputable abbrev dj:Stmt:=inClass (top 10) 0
noncomputable abbrev qf:Stmt:=top 12
noncomputable abbrev iD:Stmt:=top 13
noncomputable abbrev pW:Stmt:=top 14
noncomputable abbrev kY:Stmt:=top 17
noncomputable abbrev pZ:Stmt:=top 18
noncomputable abbrev kU:Stmt:=top 19
noncomputable abbrev sP:Stmt:=top 20
noncomputable abbrev n9:Stmt:=top 21
noncomputable abbrev sR:Stmt:=top 22
noncomputable abbrev pV:Stmt:=top 23
noncomputable abbrev sO:Stmt:=top 24
noncomputable abbrev gX:Stmt:=inClass (top 25) 0
noncomputable abbrev jf:Stmt:=inClass (top 25) 1
noncomputable abbrev jE:Stmt:=inClass (top 25) 2
noncomputable abbrev ni:Stmt:=inClass (top 25) 4
noncomputable abbrev nj:Stmt:=inClass (top 25) 5
noncomputable abbrev kS:Stmt:=inClass (top 25) 6
noncomputable abbrev jg:Stmt:=inClass (top 25) 7
noncomputable abbrev kX:Stmt:=top 27
noncomputable abbrev sM:Stmt:=top 28
noncomputable abbrev vA:Stmt:=top 29
noncomputable abbrev sQ:Stmt:=top 30
noncomputable abbrev nA:Stmt:=top 31
noncomputable abbrev kT:Stmt:=top 34
noncomputable abbrev nq:Stmt:=top 35
noncomputable abbrev nr:Stmt:=top 38
noncomputable abbrev BJ:Stmt:=top 39
noncomputable abbrev jH:Stmt:=top 44
noncomputable abbrev pX:Stmt:=top 45
noncomputable abbrev qp:Stmt:=top 46
noncomputable abbrev qd:Stmt:=top 47
noncomputable abbrev jF:Stmt:=top 48
noncomputable abbrev pY:Stmt:=top 49
noncomputable abbrev nz:Stmt:=top 50
noncomputable abbrev sT:Stmt:=top 51
noncomputable abbrev qo:Stmt:=top 52
noncomputable abbrev nt:Stmt:=top 54
noncomputable abbrev sS:Stmt:=top 55
noncomputable abbrev jI:Stmt:=top 56
noncomputable abbrev kW:Stmt:=top 57
noncomputable abbrev jG:Stmt:=top 58
noncomputable abbrev sN:Stmt:=top 59
noncomputable abbrev mz:Stmt:=top 60
noncomputable abbrev qa:Stmt:=top 65
noncomputable abbrev gW:Stmt:=inClass (top 66) 0
noncomputable abbrev nh:Stmt:=inClass (top 66) 1
noncomputable abbrev dw:Stmt:=inClass (top 66) 2
noncomputable abbrev kP:Stmt:=inClass (top 66) 3
noncomputable abbrev ia:Stmt:=inClass (top 66) 4
noncomputable abbrev my:Stmt:=inClass (top 66) 6
noncomputable abbrev jD:Stmt:=inClass (top 66) 8
noncomputable abbrev kZ:Stmt:=top 68
noncomputable abbrev qj:Stmt:=top 69
noncomputable abbrev ny:Stmt:=top 70
noncomputable abbrev lg:Stmt:=top 71
noncomputable abbrev jJ:Stmt:=top 72
noncomputable abbrev qk:Stmt:=top 73
noncomputable abbrev lh:Stmt:=top 74
noncomputable abbrev qi:Stmt:=top 75
noncomputable abbrev qh:Stmt:=top 76
noncomputable abbrev m5:Stmt:=top 77
noncomputable abbrev jK:Stmt:=top 78
noncomputable abbrev nv:Stmt:=top 79
noncomputable abbrev ib:Stmt:=top 80
noncomputable abbrev qX:Stmt:=top 81
structure Bl (mg:Zk):Prop where
 list:mg "list"=none
 isinstance:mg "isinstance"=none
 bool:mg "bool"=none
 int:mg "int"=none
 abs:mg "abs"=none
 all:mg "all"=none
 zip:mg "zip"=none
 len:mg "len"=none
 set:mg "set"=none
 str:mg "str"=none
 sum:mg "sum"=none
 range:mg "range"=none
 enumerate:mg "enumerate"=none
 sorted:mg "sorted"=none
 tuple:mg "tuple"=none
 min:mg "min"=none
structure Ê where
 Code:Addr
 Book:Addr
 CableError:Addr
 NoCode:Addr
 NoNumber:Addr
 NoWord:Addr
 NoEntry:Addr
 Twice:Addr
 TooMany:Addr
 NoReading:Addr
 TooGarbled:Addr
 cd:Addr
 tb:Addr
 none:Unit:=()
noncomputable def Ê.Nf (Ad:Ê):List Addr:=[Ad.NoCode,Ad.NoNumber,Ad.NoWord,Ad.NoEntry,Ad.Twice,Ad.TooMany,Ad.NoReading,Ad.TooGarbled]
structure È (K:Zf) (mg:Zk) (Ad:Ê):Prop where
 g_Code:mg "Code"=some (.ref Ad.Code)
 g_Book:mg "Book"=some (.ref Ad.Book)
 g_CableError:mg "CableError"=some (.ref Ad.CableError)
 g_NoCode:mg "NoCode"=some (.ref Ad.NoCode)
 g_NoNumber:mg "NoNumber"=some (.ref Ad.NoNumber)
 g_NoWord:mg "NoWord"=some (.ref Ad.NoWord)
 g_NoEntry:mg "NoEntry"=some (.ref Ad.NoEntry)
 g_Twice:mg "Twice"=some (.ref Ad.Twice)
 g_TooMany:mg "TooMany"=some (.ref Ad.TooMany)
 g_NoReading:mg "NoReading"=some (.ref Ad.NoReading)
 g_TooGarbled:mg "TooGarbled"=some (.ref Ad.TooGarbled)
 c_Code:à K Ad.Code
 n_Code_letters:gZ K Ad.Code "letters"
 n_Code_factors:gZ K Ad.Code "factors"
 n_Code_remainder:gZ K Ad.Code "remainder"
 c_Book:à K Ad.Book
 n_Book_basis:gZ K Ad.Book "basis"
 n_Book_by_number:gZ K Ad.Book "by_number"
 n_Book_by_entry:gZ K Ad.Book "by_entry"
 q_NoCode:PySem.W.excIn K Ad.NoCode Zv "ValueError.__new__"=true
 q_NoNumber:PySem.W.excIn K Ad.NoNumber Zv "ValueError.__new__"=true
 q_NoWord:PySem.W.excIn K Ad.NoWord Zv "ValueError.__new__"=true
 q_NoEntry:PySem.W.excIn K Ad.NoEntry Zv "ValueError.__new__"=true
 q_Twice:PySem.W.excIn K Ad.Twice Zv "ValueError.__new__"=true
 q_TooMany:PySem.W.excIn K Ad.TooMany Zv "ValueError.__new__"=true
 bi:Kv K Ad.CableError
 o_NoReading:∃ f,Dt K Ad.NoReading f
 s_NoReading:Iq K Ad.NoReading "at"
 f_NoReading:PySem.W.findIn K (.ref Ad.NoReading) "at"=some none
 o_TooGarbled:∃ f,Dt K Ad.TooGarbled f
 s_TooGarbled:Iq K Ad.TooGarbled "places"
 f_TooGarbled:PySem.W.findIn K (.ref Ad.TooGarbled) "places"=some none
 x_NoReading:PySem.W.exmOne K (.ref Ad.NoReading) (.ref Ad.NoReading)=some true
 x_TooGarbled:PySem.W.exmOne K (.ref Ad.TooGarbled) (.ref Ad.TooGarbled)=some true
 t_tab:PySem.W.codeHdIn K Ad.cd Ad.tb=true
 err:xD K Ad.CableError Ad.Nf=true
 nd:đ Ad.Nf=true
 v_SMALL_LETTERS:∃ u,mg "SMALL_LETTERS"=some u/\RelV (.str "abcdefghijklmnopqrstuvwxyz") u
 v_LONGEST_WORD:∃ u,mg "LONGEST_WORD"=some u/\RelV (.int 20) u
 v_MOST_WORDS:∃ u,mg "MOST_WORDS"=some u/\RelV (.int 60) u
 v_FEWEST_CAME:∃ u,mg "FEWEST_CAME"=some u/\RelV (.int 2) u
 v_MOST_CAME:∃ u,mg "MOST_CAME"=some u/\RelV (.int 1400) u
 v_MOST_DOUBTFUL:∃ u,mg "MOST_DOUBTFUL"=some u/\RelV (.int 2) u
 v_MOST_ENTRIES:∃ u,mg "MOST_ENTRIES"=some u/\RelV (.int 300) u
 v_MOST_PHRASE_WORDS:∃ u,mg "MOST_PHRASE_WORDS"=some u/\RelV (.int 6) u
 v_MOST_PART_LETTERS:∃ u,mg "MOST_PART_LETTERS"=some u/\RelV (.int 6) u
section
variable {P:Zh}{w:Zi}{K:Zf}{mg:Zk}{base:Heap}{Ad:Ê}
theorem bt {p q:Prop} (a:p) (b:q):p/\q:=⟨a,b⟩
noncomputable def zzV:=bt @Li<|bt @IS<|bt @IK<|bt @IJ<|bt @Fp<|bt @Ls<|bt @Lv<|bt @Fl<|bt @IE<|bt @Lh<|bt @Fm<|bt @Lw<|bt @Og<|bt @MU<|bt @MX<|bt @MQ<|bt @Iy<|bt @Lm<|bt @Iw<|bt @Lr<|bt @MS<|bt @IL<|bt @IC<|bt @IT<|bt @Of<|bt @Lo<|bt @Lg<|bt @MV<|bt @Iv<|bt @Lp<|bt @IM<|bt @Lk<|bt @Ll<|bt @Lu<|bt @IA<|bt @MT<|bt @MW<|bt @Du<|bt @IP<|bt @IG<|bt @Fo<|bt @IH<|bt @Lj<|bt @Lq<|bt @IF<|bt @MP<|bt @Fh<|bt @Ky<|bt @FJ<|bt @FK<|bt @Jh<|bt @Ji<|bt @Jj<|bt @LD<|bt @Jk<|bt @Fn<|bt @Iz<|bt @Fi<|bt @Fj<|bt @IB<|bt @DZ<|bt @HR<|bt @AD<|bt @AE<|bt @AG<|bt @AW<|bt @AQ<|bt @AR<|bt @yS<|bt @AN<|bt @AS<|bt @AH<|bt @DW<|bt @DT<|bt @DU<|bt @DV<|bt @Ea<|bt @Eb<|bt @Ec<|bt @DX<|bt @DY<|bt @AK<|bt @AL<|bt @AB<|bt @AM<|bt @yU<|bt @AU<|bt @AI<|bt @Ed<|bt @Ef<|bt @xF<|bt @xE<|bt @yT<|bt @yW<|bt @AO<|bt @AV<|bt @AJ<|bt @A9<|bt @AA<|bt @yV<|bt @II<|bt @Fg<|bt @LC<|bt @FG<|bt @Eg<|bt @FH<|bt @Dv<|bt @MR<|bt @MO<|bt @IQ<|bt @ID<|bt @IV<|bt @IU<|bt @Fq<|bt @FI<|@Eh
local macro_rules | `(tactic| symm) => `(tactic| try simp only [zzV, Ht, HA, BD, N7, Ends.un, mQ, nw, EH, Ĉ, eZ, mE, Tg.sub, Tg.name, rU, M4, Option.join_some, Int.toNat_natCast, List.getElem?_cons_zero, List.getElem?_cons_succ, List.set_cons_zero, List.set_cons_succ, List.map_cons, List.map_nil, List.cons_append, List.nil_append, List.length_cons, List.length_nil, List.replicate_succ, List.replicate_zero, Nat.reduceAdd, Nat.reduceSub, Nat.zero_add, bne_self_eq_false, Bool.true_bne, Bool.false_bne, Bool.not_true, Bool.not_false, if_true, if_false, Bool.false_eq_true, Bool.true_eq_false, reduceIte])
local macro_rules | `(tactic| ac_nf) => `(tactic| (symm; repeat (simp only [dR]; symm)))
local macro_rules | `(tactic| bv_omega) => `(tactic| try simp only [Ky, FJ, FK, Bool.not_false, Bool.not_true, if_true, if_false, Bool.false_eq_true, Bool.true_eq_false, true_and, and_true])
set_option hygiene false in
local macro_rules | `(tactic| bv_decide) => `(tactic| (intro vs H Q E h; first | (cases h; subst_vars; rfl) | repeat (first | (obtain ⟨rfl, _⟩ := h; rfl) | obtain ⟨_, h⟩ := h)))
set_option hygiene false in
local macro_rules | `(tactic| cbv) => `(tactic| (rw [hN]; clear hN nn))
set_option hygiene false in
local macro_rules | `(tactic| grind) => `(tactic| (refine gM fun nn hN => ?_; symm))
set_option hygiene false in
local macro_rules | `(tactic| right) => `(tactic| (intro cdv A outer s H vs Q E hr h; have hu := hr.jQ; have hu1 := pd hr))
set_option hygiene false in
local macro_rules | `(tactic| exists $t) => `(tactic| (refine F.æ (N:=$t) (by subst_eqs) ?_ ?_; bv_decide; right))
set_option hygiene false in
local macro_rules | `(tactic| specialize $t) => `(tactic| (refine F.æ $t ?_ ?_; bv_decide; right))
local macro_rules | `(tactic| subst_eqs) => `(tactic| exact ⟨rfl, rfl, rfl, by nofun, rfl, by nofun, by nofun⟩)
structure bP (al:Za) (ws:Zb) (r:Int):Prop where
 a3:3<=⇑al
 a26:⇑al<=26
 nd:al.Nodup
 abc:∀ c∈al,97<=c/\c<123
 w3:3<=⇑ws
 w8:⇑ws<=8
 wm:∀ x∈ws,0<=x/\x<(⇑al:Int)
 safe:Mk.safe ⇑al ws=true
 rm:0<=r/\r<(⇑al:Int)
theorem bP.ô {al:Za}{ws:Zb}{r:Int} (h:bP al ws r):Mk.ô ws:=by intro x hx;have:=h.wm x hx;have:=h.a26;left
noncomputable def tf (al:Za) (q:Addr) (r:Int):List (Str×V):=[("letters",.str (tx al)),("factors",.ref q),("remainder",.int r)]
theorem ei (al:Za) (q:Addr) (r:Int):(tf al q r).lookup ("letters":Str)=some (V.str (tx al)):=rfl
theorem gx (al:Za) (q:Addr) (r:Int):(tf al q r).lookup ("factors":Str)=some (V.ref q):=rfl
theorem mI (al:Za) (q:Addr) (r:Int):(tf al q r).lookup ("remainder":Str)=some (V.int r):=rfl
theorem bC {m:Str} (h1:m≠("letters":Str)) (h2:m≠("factors":Str)) (h3:m≠("remainder":Str)) (al:Za) (q:Addr) (r:Int):(tf al q r).lookup m=none:=by unfold tf;rw[fY,fY,fY,lU h1,lU h2,lU h3];rfl
noncomputable def cx (Ad:Ê) (H:Hp) (a:Addr) (al:Za) (ws:Zb) (r:Int):Prop:=∃ dx q,H a=some (.ins Ad.Code dx (tf al q r))/\H q=some (.lst (ws.map V.int))
theorem cx.same {Ad:Ê}{H H':Hp} (h:cx Ad H a al ws r) (s:a9 H H'):cx Ad H' a al ws r:=by obtain⟨dx,q,h1,h2⟩:=h;exact⟨dx,q,s _ _ h1,s _ _ h2⟩
noncomputable def Parts (H:Hp) (p:Addr) (q:Addr) (al:Za) (ws:Zb) (r:Int):Prop:=H p=some (.lst [.str (tx al),.ref q,.int r])/\H q=some (.lst (ws.map V.int))
noncomputable def uM (H:Hp) (xa xw xr:V) (al:Za) (p:Addr) (ws:Zb) (r:Int):Prop:=xa=.str (tx al)/\xw=.ref p/\H p=some (.lst (ws.map V.int))/\xr=.int r/\bP al ws r
noncomputable def Ja (H:Hp) (xa xw xr:V):Prop:=∀ al p ws r,¬ uM H xa xw xr al p ws r
noncomputable def ç (al z:Za) (n:Int):Za:=z.take (n%(⇑z:Int)).toNat++[al.getD ((((al.idxOf (z.getD (n%(⇑z:Int)).toNat 0):Nat):Int)+(n/(⇑z:Int)%((⇑al:Int)-1)+1))%(⇑al:Int)).toNat 0]++z.drop ((n%(⇑z:Int)).toNat+1)
noncomputable def ä (z:Za) (n:Int):Za:=z.take (n%((⇑z:Int)-1)).toNat++[z.getD ((n%((⇑z:Int)-1)).toNat+1) 0]++[z.getD (n%((⇑z:Int)-1)).toNat 0]++z.drop ((n%((⇑z:Int)-1)).toNat+2)
structure yE (al z:Za):Prop where
 z3:3<=⇑z
 z8:⇑z<=8
 mem:∀ c∈z,c∈al
 a3:3<=⇑al
 a26:⇑al<=26
theorem wq {l:List α}{v:α} (h:l.getLast?=some v):Þ l (-1)=some v:=by
 have hne:l≠[]:=fun e=>by subst e;cases h
 have hl:=List.length_pos_iff.mpr hne;unfold Þ ð;rw[ag (by decide),ai ⋯];show l[_]?=some v;rw[List.getLast?_eq_getElem?] at h;rw[←h]
 congr 1
 left
theorem GB {α β:Type} (f:α->β):∀ (l:List α) (j:Nat),(l.map f).eraseIdx j=(l.eraseIdx j).map f
 | [],_=>rfl
 | _::_,0=>rfl
 | x::r,j+1=>by show f x::(r.map f).eraseIdx j=f x::(r.eraseIdx j).map f;rw[GB f r j]
theorem Cy {α:Type}:∀ (l:List α) (j:Nat) (x:α),l[j]?=some x->(x::l.eraseIdx j).Perm l
 | y::r,0,x,h=>by cases h;exact List.Perm.refl _
 | y::r,j+1,x,h=>(List.Perm.swap _ _ _).trans ((Cy r j x (by simpa using h)).cons y)
theorem HL (c:Nat):(⟨#[c]⟩:Str)=tx [c]:=rfl
structure Flt where
 s:Int
 p:Int
 isL:Bool
 n:Int
noncomputable def ö (b:Bool):Str:=if b then "letter" else "swap"
noncomputable def FP (f:Flt):List V:=[.int f.s,.int f.p,.str (ö f.isL),.int f.n]
theorem fL {α β:Type}{F:α->β->Prop}:∀ {a:List α}{b:List β}{c:List α}{d:List β},Paired F a b->Paired F c d->Paired F (a++c) (b++d)
 | _,_,_,_,.nil,h=>h
 | _,_,_,_,.cons r t,h=>.cons r (fL t h)
theorem gU {α β:Type}{F G:α->β->Prop} (f:∀ x y,F x y->G x y):∀ {a:List α}{b:List β},Paired F a b->Paired G a b
 | _,_,.nil=>.nil
 | _,_,.cons r t=>.cons (f _ _ r) (gU f t)
noncomputable def ML (H:Hp) (v:V) (f:Flt):Prop:=∃ t,v=.ref t/\H t=some (.tup (FP f))
noncomputable def pB (H:Hp) (vs:List V) (fs:List Flt):Prop:=Paired (ML H) vs fs
theorem pB.same {H H':Hp}{fs:List Flt} (h:pB H vs fs) (s:a9 H H'):pB H' vs fs:=gU (fun _ _ ⟨t,e,ht⟩=>⟨t,e,s _ _ ht⟩) h
noncomputable def hits (s p:Int) (f:Flt):Bool:=decide (f.s=s)&&decide (f.p=p)
noncomputable def j8 (al z:Za):Option Flt->Za
 | none=>z
 | some f=>if f.isL then ç al z f.n else ä z f.n
noncomputable def iJ (al:Za) (fs:List Flt) (s:Int) (zs:List Za):List (Za):=(List.range ⇑zs).map fun i=>j8 al (zs.getD i []) (fs.find? (hits s (i:Int)))
noncomputable def oH (H:Hp) (kvs:List (List Key×V)) (fs:List Flt):Prop:=∀ s p:Int,(fF kvs [.inl s,.inl p]=none/\fs.find? (hits s p)=none)∨∃ t f,fF kvs [.inl s,.inl p]=some (.ref t)/\fs.find? (hits s p)=some f/\H t=some (.tup [.str (ö f.isL),.int f.n])
noncomputable def É (z:Za):V:=.str (tx z)
noncomputable def Ob (H:Hp) (v:V) (ns:Zb):Prop:=∃ b,v=.ref b/\H b=some (.lst (ns.map V.int))
noncomputable def iI (H:Hp) (vs:List V) (nss:List Zb):Prop:=Paired (Ob H) vs nss
theorem iI.keep {H H':Hp}{nss:List (Zb)} (h:iI H vs nss) (s:∀ b (ns:Zb),H b=some (.lst (ns.map V.int))->H' b=some (.lst (ns.map V.int))):iI H' vs nss:=gU (fun _ _ ⟨b,e,hb⟩=>⟨b,e,s _ _ hb⟩) h
theorem iI.ph {H H':Hp}{D:Addr}:∀ {vs:List V}{nss:List (Zb)},iI H vs nss->(∀ v∈vs,v≠V.ref D)->(∀ b o,b≠D->H b=some o->H' b=some o)->iI H' vs nss
 | _,_,.nil,_,_=>.nil
 | _,_,.cons ⟨b,e,hb⟩ t,h,s=>.cons ⟨b,e,s b _ (fun z=>h _ aR (by rw[e,z])) hb⟩ (iI.ph t (fun v hv=>h v (aV _ hv)) s)
theorem yZ {α β:Type}{f:α->List β}{m:Nat}:∀ {l:List α},(∀ x∈l,⇑(f x)<=m)->⇑(l.flatMap f)<=⇑l*m
 | [],_=>bc _
 | x::r,h=>by rw[oa,aF,bf,Nat.add_mul,lR];have:=h x aR;have:=yZ (f:=f) (m:=m) (l:=r) fun y hy=>h y (aV _ hy);left
theorem kK {k:Nat}:oX xs none (some (k:Int))=xs.take k:=by
 unfold oX;rw[HT.uB];show (xs.drop 0).take (min k ⇑xs-0)=xs.take k;rw[nY,Nat.sub_zero]
 by_cases h:k<=⇑xs
 ·rw[iz h]
 ·rw[Nat.min_eq_right ⋯,jX,ef ⋯]
noncomputable def putN (ns:Zb) (at_:Nat) (c:Int):Zb:=ns.take at_++[c]++ns.drop (at_+1)
theorem iM {g:Nat}{c:Int} (h:g<⇑ns):putN ns g c=ns.set g c:=by unfold putN;rw[List.set_eq_take_append_cons_drop,ai h,bJ];rfl
theorem fM {α β:Type}{F:α->β->Prop}:∀ {l₁:List α}{l₂:List β},Paired F l₁ l₂->⇑l₁=⇑l₂
 | _,_,.nil=>rfl
 | _,_,.cons _ r=>by rw[bf,bf,fM r]
theorem DO (xs:List V):oX xs none (some (-1))=xs.dropLast:=by rw[A8,List.dropLast_eq_take]
theorem NY (z:Str):∃ l,z=tx l:=⟨z.cps.toList,by cases z;simp [tx]⟩
theorem Ol {js:Za}{σ:St}{te:TE}{Q:VK} (hJ:J.Seq H1 xs) (hl:⇑xs<sizeLine) (G:V->Prop)
  (he:∀ x∈xs,∀ H,a9 H1 H->∀ R:VK,(∀ v H',a9 H H'->G v->R v H')->te (some x::js.map fun j=>(σ[j]?).join) H R)
  (q:∀ D vs H,H1 D=none->a9 H1 H->H D=some (.lst vs)->⇑vs=⇑xs->(∀ v∈vs,G v)->Q (.ref D) H):eE (fG 0) ur te (hO 1 js σ) J H1 Q:=by
 intro D hD;refine⟨fun i m ys σ1 H=>m=⇑xs-i/\i<=⇑xs/\(∃ o,σ1=o::js.map fun j=>(σ[j]?).join)/\⇑ys=i/\(∀ v∈ys,G v)/\a9 H1 H/\H D=some (.lst ys),
  ⟨⇑xs,by simp,bc _,⟨none,rfl⟩,rfl,(fun v hv=>nomatch hv),(a9.refl H1).cf hD,aC⟩,?_⟩
 rintro i m ys σ1 H ⟨rfl,hi,⟨o,rfl⟩,hy,hg,sH,hL⟩;refine⟨hL,⋯,?_⟩
 by_cases hlt:i<⇑xs
 ·have e:xs[i]?=some xs[i]:=aD hlt;obtain⟨go,yl⟩:=(hJ H sH).1 i xs[i] e;refine .inr ⟨go,fun x H' y=>?_⟩;obtain⟨q1,q2⟩:=yl x H' y;subst q1 q2;show te (some xs[i]::js.map fun j=>(σ[j]?).join) H' _;refine he _ (cZ hlt) H' sH _ fun v H4 s4 hv4=>?_;refine⟨s4 _ _ hL,⇑xs-(i+1),⋯,rfl,hlt,⟨_,rfl⟩,by rw[aF,hy];rfl,fun v hv=>?_,(sH.trans s4).cf hD,aC⟩;rcases bG.mp hv with hv | hv
  ·exact hg v hv
  ·rw[b9.mp hv];exact hv4
 ·have e:i=⇑xs:=⋯
  subst e;exact .inl ⟨(hJ H sH).2 _ (av _),q D ys H hD sH hL hy hg⟩
noncomputable def ï (m:Nat) (ps:Zb) (i:Nat):List (Zb):=((Mk.Ù m).filter fun o=>!decide (o=ps.getD i 0)).map fun o=>putN ps i o
noncomputable def vW (m:Nat) (ps:Zb):List (Zb):=(List.range ⇑ps).flatMap (ï m ps)
noncomputable def Ko (ps:Zb) (i:Nat):Zb:=ps.take i++[ps.getD (i+1) 0,ps.getD i 0]++ps.drop (i+2)
noncomputable def Ai (ps:Zb):List (Zb):=((List.range (⇑ps-1)).filter fun i=>!decide (ps.getD i 0=ps.getD (i+1) 0)).map (Ko ps)
noncomputable def kL (m:Nat) (ps:Zb):List (Zb):=vW m ps++Ai ps
theorem GL (j:Nat):Mk.Ù (j+1)=Mk.Ù j++[(j:Int)]:=by unfold Mk.Ù;rw[jW,bM];rfl
theorem getD_some (h:i<⇑ps):ps[i]?=some (ps.getD i 0):=by rw[aT,aD h];rfl
theorem getD_in (h:i<⇑ps):ps.getD i 0∈ps:=bL (getD_some h)
theorem r0 (h:i+1<⇑ps):Ko ps i=(ps.set i (ps.getD (i+1) 0)).set (i+1) (ps.getD i 0):=by
 unfold Ko;refine fj fun k=>?_;rw[List.getElem?_set,List.getElem?_set,dN];rcases Nat.lt_trichotomy k i with hk | hk | hk
 ·rw[bJ,iU (by rw[bK];left),rL,ai hk,ag ⋯,ag ⋯]
 ·subst hk;rw[bJ,ir (by rw[bK];left),bK,iz ⋯,Nat.sub_self,ag ⋯,ai rfl,ai ⋯];rfl
 ·rcases Nat.lt_or_ge (i+1) k with hk2 | hk2
  ·rw[ir (by rw[aF,bK];show min i _+2<=k;left),aF,bK,iz ⋯,iu,ag ⋯,ag ⋯]
   congr 1
   show i+2+(k-(i+2))=k;left
  ·have e:k=i+1:=⋯
   subst e;rw[bJ,ir (by rw[bK];left),bK,iz ⋯,ai rfl,ai h,show i+1-i=1 by left];rfl
theorem oO {ps q:Zb}:q∈ï m ps i↔∃ o:Int,0<=o/\o<m/\o≠ps.getD i 0/\q=putN ps i o:=by
 unfold ï;rw[aK];constructor
 ·rintro⟨o,ho,rfl⟩;obtain⟨h1,h2⟩:=cG.mp ho;have:=Mk.hX.mp h1;exact⟨o,this.1,this.2,by simpa using h2,rfl⟩
 ·rintro⟨o,h0,h1,h2,rfl⟩;exact⟨o,cG.mpr ⟨Mk.hX.mpr ⟨h0,h1⟩,by simpa using h2⟩,rfl⟩
theorem mV {ps q:Zb}:q∈vW m ps↔∃ i o,i<⇑ps/\0<=o/\o<(m:Int)/\o≠ps.getD i 0/\q=ps.set i o:=by
 unfold vW;rw[List.mem_flatMap];constructor
 ·rintro⟨i,hi,hq⟩;obtain⟨o,h0,h1,h2,rfl⟩:=oO.mp hq;exact⟨i,o,cb.mp hi,h0,h1,h2,iM (cb.mp hi)⟩
 ·rintro⟨i,o,hi,h0,h1,h2,rfl⟩;exact⟨i,cb.mpr hi,oO.mpr ⟨o,h0,h1,h2,(iM hi).symm⟩⟩
theorem mW {ps q:Zb}:q∈Ai ps↔∃ i,i+1<⇑ps/\ps.getD i 0≠ps.getD (i+1) 0/\q=(ps.set i (ps.getD (i+1) 0)).set (i+1) (ps.getD i 0):=by
 unfold Ai;rw[aK];constructor
 ·rintro⟨i,hi,rfl⟩;obtain⟨h1,h2⟩:=cG.mp hi;have:=cb.mp h1;exact⟨i,⋯,by simpa using h2,r0 ⋯⟩
 ·rintro⟨i,hi,h2,rfl⟩;exact⟨i,cG.mpr ⟨cb.mpr ⋯,by simpa using h2⟩,r0 hi⟩
theorem vJ {o:Int} (h:i<⇑ps):(ps.set i o).getD i 0=o:=by rw[aT,iW h];rfl
theorem oT {i j:Nat}{o:Int} (h:i≠j):(ps.set i o).getD j 0=ps.getD j 0:=by rw[aT,iV h,←aT]
theorem nN (h:i+1<⇑ps) (j:Nat):((ps.set i (ps.getD (i+1) 0)).set (i+1) (ps.getD i 0)).getD j 0=if j=i then ps.getD (i+1) 0 else if j=i+1 then ps.getD i 0 else ps.getD j 0:=by
 by_cases h1:j=i
 ·subst h1;rw[ai rfl,oT ⋯,vJ ⋯]
 ·rw[ag h1]
  by_cases h2:j=i+1
  ·subst h2;rw[ai rfl,vJ (by rw[dN];exact h)]
  ·rw[ag h2,oT (b7 h2),oT (b7 h1)]
theorem wM :(kL m ps).Nodup:=by
 unfold kL;refine oq.mpr ⟨?_,?_,?_⟩
 ·unfold vW List.Nodup;rw[List.pairwise_flatMap];refine⟨fun i hi=>?_,rD (fun {i j} hi hj hij x hx y hy e=>?_) (List.pairwise_lt_range (n:=⇑ps))⟩
  ·have hi':=cb.mp hi;unfold ï;refine ja.mpr (nV (R:=(·≠·)) (S:=fun a b=>putN ps i a≠putN ps i b) (fun {a b} hab e=>hab ?_) (jS _ (Mk.sD m)));rw[iM hi',iM hi'] at e;have:=cc (fun l:Zb=>l.getD i 0) e;simp only[vJ hi'] at this;exact this
  ·have hi':=cb.mp hi;have hj':=cb.mp hj;obtain⟨o,_,_,h2,rfl⟩:=oO.mp hx;obtain⟨o',_,_,h3,rfl⟩:=oO.mp hy;rw[iM hi',iM hj'] at e;have:=cc (fun l:Zb=>l.getD i 0) e;simp only[vJ hi'] at this;rw[oT ⋯] at this;exact h2 this
 ·unfold Ai;refine ja.mpr (rD (R:=(·<·)) (fun {i j} hi hj hij e=>?_) (jS _ List.pairwise_lt_range));obtain⟨h1,h2⟩:=cG.mp hi;obtain⟨h3,h4⟩:=cG.mp hj;have h1':=cb.mp h1;have h3':=cb.mp h3;rw[r0 ⋯,r0 ⋯] at e;have:=cc (fun l:Zb=>l.getD i 0) e;simp only[nN (show i+1<⇑ps by left),nN (show j+1<⇑ps by left)] at this;rw[ai trivial,ag ⋯,ag ⋯] at this;rw[this] at h2;simp at h2
 ·intro a ha b hb e;subst e;obtain⟨i,o,hi,_,_,h2,rfl⟩:=mV.mp ha;obtain⟨j,hj,h3,e⟩:=mW.mp hb
  by_cases hij:i=j
  ·have:=cc (fun l:Zb=>l.getD (j+1) 0) e;simp only[nN hj] at this;rw[ag ⋯,ai trivial,oT ⋯] at this;exact h3 this.symm
  ·have:=cc (fun l:Zb=>l.getD j 0) e;simp only[nN hj] at this;rw[ai trivial,oT hij] at this;exact h3 this
theorem pH (hm:∀ x∈ps,0<=x/\x<(m:Int)):∀ q∈kL m ps,⇑q=⇑ps/\∀ x∈q,0<=x/\x<(m:Int):=by
 intro q hq;rcases bG.mp hq with hq | hq
 ·obtain⟨i,o,hi,h0,h1,_,rfl⟩:=mV.mp hq;exact⟨dN,Mk.lF hm ⟨h0,h1⟩⟩
 ·obtain⟨i,hi,_,rfl⟩:=mW.mp hq;exact⟨by rw[dN,dN],Mk.lF (Mk.lF hm (hm _ (getD_in hi))) (hm _ (getD_in ⋯))⟩
theorem LZ:∀ {l:Zb}{x:Int},l.Nodup->x∈l->⇑(l.filter fun o=>!decide (o=x))=⇑l-1:=by
 intro l x hn hx;have h1:=List.length_eq_countP_add_countP (fun o:Int=>decide (o=x)) (l:=l);have h2:l.countP (fun o:Int=>decide (o=x))=1:=by
  have:=hn.count (a:=x);rw[ai hx] at this;rw[←this];show _=List.countP (·==x) l
  congr 1
 rw[h2] at h1;rw[←List.countP_eq_length_filter];have e:l.countP (fun o=>decide ¬ decide (o=x)=true)=l.countP (fun o=>!decide (o=x)):=by congr 1;funext o;simp
 rw[e] at h1;left
theorem C6 {α β:Type}{f:α->List β}{m:Nat}:∀ {l:List α},(∀ x∈l,⇑(f x)=m)->⇑(l.flatMap f)=⇑l*m
 | [],_=>by simp
 | x::r,h=>by rw[oa,aF,bf,Nat.add_mul,lR,h x aR,C6 (f:=f) (m:=m) (l:=r) fun y hy=>h y (aV _ hy)];left
theorem Jf (hm:∀ x∈ps,0<=x/\x<(m:Int)) (hi:i<⇑ps):⇑(ï m ps i)=m-1:=by unfold ï;rw[af,LZ (Mk.sD m) (Mk.hX.mpr (hm _ (getD_in hi))),Mk.qP]
theorem uR (hm:∀ x∈ps,0<=x/\x<(m:Int)):⇑(vW m ps)=⇑ps*(m-1):=by unfold vW;rw[C6 (m:=m-1) fun i hi=>Jf hm (cb.mp hi),cJ]
theorem uC :⇑(Ai ps)<=⇑ps:=by unfold Ai;rw[af];refine aX (jU _ _) ?_;rw[cJ];left
theorem xc {H:Hp}:∀ {vs:List V}{nss:List (Zb)},iI H vs nss->∃ zs:List (Addr×Zb),vs=zs.map (fun z=>V.ref z.1)/\nss=zs.map (fun z=>z.2)/\∀ z∈zs,H z.1=some (.lst (z.2.map V.int))
 | _,_,.nil=>⟨[],rfl,rfl,fun _ h=>by cases h⟩
 | _,_,.cons ⟨b,e,hb⟩ t=>by
  obtain⟨zs,e1,e2,h⟩:=xc t;refine⟨(b,_)::zs,by rw[e,e1];rfl,by rw[e2];rfl,fun z hz=>?_⟩;rcases aU.mp hz with rfl | hz
  ·exact hb
  ·exact h z hz
theorem K0 {js:Za}{σ:St}{te:TE}{Q:VK} (hJ:J.Seq H1 xs) (hl:⇑xs<sizeLine) (us:List V) (hn:⇑us=⇑xs)
  (he:∀ (i:Nat) x u,xs[i]?=some x->us[i]?=some u->∀ H,a9 H1 H->∀ R:VK,(∀ H',a9 H H'->R u H')->te (some x::js.map fun j=>(σ[j]?).join) H R)
  (q:∀ D H,H1 D=none->a9 H1 H->H D=some (.lst us)->Q (.ref D) H):eE (fG 0) ur te (hO 1 js σ) J H1 Q:=by
 intro D hD;refine⟨fun i m ys σ1 H=>m=⇑xs-i/\i<=⇑xs/\(∃ o,σ1=o::js.map fun j=>(σ[j]?).join)/\ys=us.take i/\a9 H1 H/\H D=some (.lst ys),
  ⟨⇑xs,by simp,bc _,⟨none,rfl⟩,by simp,(a9.refl H1).cf hD,aC⟩,?_⟩
 rintro i m ys σ1 H ⟨rfl,hi,⟨o,rfl⟩,rfl,sH,hL⟩;refine⟨hL,by rw[bK];left,?_⟩
 by_cases hlt:i<⇑xs
 ·have e:xs[i]?=some xs[i]:=aD hlt;have e2:us[i]?=some (us[i]'⋯):=aD _;obtain⟨go,yl⟩:=(hJ H sH).1 i xs[i] e;refine .inr ⟨go,fun x H' y=>?_⟩;obtain⟨q1,q2⟩:=yl x H' y;subst q1 q2;show te (some xs[i]::js.map fun j=>(σ[j]?).join) H' _;refine he i _ _ e e2 H' sH _ fun H4 s4=>?_;refine⟨s4 _ _ hL,⇑xs-(i+1),⋯,rfl,hlt,⟨_,rfl⟩,?_,(sH.trans s4).cf hD,aC⟩;rw[gA,e2];rfl
 ·have e:i=⇑xs:=⋯
  subst e;rw[ef ⋯] at hL;exact .inl ⟨(hJ H sH).2 _ (av _),q D H hD sH hL⟩
theorem zq {β γ:Type}{f:β->γ}{xs:List β}{v:γ} (h:(xs.map f)[i]?=some v):∃ x,xs[i]?=some x/\f x=v:=by rw[aS] at h;exact eh.mp h
noncomputable def fE (n:Nat) (l:Za):Bool:=decide (1<=⇑l)&&decide (⇑l<=n)&&l.all fun c=>decide (97<=c/\c<123)
noncomputable def iF (n:Nat):V->Bool
 | .str z=>fE n z.cps.toList
 | _=>false
noncomputable def j5 (n:Nat) (l:Za):Bool:=decide (⇑(Mk.bV 32 l)<=n)&&(Mk.bV 32 l).all (fE 20)
noncomputable def ki (n:Nat):V->Bool
 | .str z=>j5 n z.cps.toList
 | _=>false
noncomputable def md:List V->Bool
 | [.str z]=>decide (z=("end":Str))
 | [.str z,y]=>if z=("phrase":Str) then ki 6 y else if z=("part":Str) then iF 6 y else false
 | _=>false
noncomputable def xK (H:Hp):V->Bool
 | .ref p=>match H p with
  | some (.tup xs)=>md xs
  | _=>false
 | _=>false
theorem Dw {n:Nat}{l:Za} (h1:1<=⇑l) (h2:⇑l<=n) (h3:∀ c∈l,97<=c/\c<123):fE n l=true:=by unfold fE;rw[a8 h1,a8 h2,dq,dq,c9];exact fun c hc=>a8 (h3 c hc)
theorem Gh {n:Nat}{ws:List (Za)} (h2:⇑ws<=n) (h3:∀ w∈ws,⇑w<=20):⇑(Mk.fK 32 ws)<=21*n/\(ws.map fun w=>⇑w+1).sum<=21*n:=by
 have h:=Mk.wR (c:=32) ws;have:(ws.map fun w=>⇑w+1).sum<=21*⇑ws:=by
  clear h2 h
  induction ws with
  | nil=>simp
  | cons w r ih =>have h1:=ih fun x hx=>h3 x (aV _ hx);have h2:=h3 w aR;simp only[bg,lQ,bf];left
 left
theorem xM {l:Za} (h:j5 6 l=true):md [.str ("phrase":Str),.str (tx l)]=true:=by show (if ("phrase":Str)=("phrase":Str) then j5 6 (tx l).cps.toList else if ("phrase":Str)=("part":Str) then fE 6 (tx l).cps.toList else false)=true;rw[ai rfl,bQ];exact h
noncomputable def xO:Str:="Book.put.<locals>.<lambda>"
structure Ã where
 num:Int
 key:List Key
 adr:Addr
noncomputable def uI (ca dn de:Addr):List (Str×V):=[("basis",.ref ca),("by_number",.ref dn),("by_entry",.ref de)]
theorem kj (p q r:Addr):(uI p q r).lookup ("basis":Str)=some (V.ref p):=rfl
theorem i8 (p q r:Addr):(uI p q r).lookup ("by_number":Str)=some (V.ref q):=rfl
theorem wC (p q r:Addr):(uI p q r).lookup ("by_entry":Str)=some (V.ref r):=rfl
theorem cC {m:Str} (h1:m≠("basis":Str)) (h2:m≠("by_number":Str)) (h3:m≠("by_entry":Str)) (p q r:Addr):(uI p q r).lookup m=none:=by unfold uI;rw[fY,fY,fY,lU h1,lU h2,lU h3];rfl
noncomputable def mY (es:List Ã):List (Key×V):=(es.map fun e=>(e.num,V.ref e.adr)).map fun q=>(.inl q.1,q.2)
noncomputable def sf (es:List Ã):List (List Key×V):=es.map fun e=>(e.key,V.int e.num)
structure dB (Ad:Ê) (H:Hp) (b ca dn de:Addr) (es:List Ã):Prop where
 bk:∃ dx,H b=some (.ins Ad.Book dx (uI ca dn de))
 hn:H dn=some (.dK (mY es))
 he:H de=some (.dT (sf es))
 en:∀ e∈es,H e.adr=some (.tup (e.key.map kV))
 nn:(es.map (·.num)).Nodup
 nk:(es.map (·.key)).Nodup
theorem dB.same {Ad:Ê}{H H':Hp}{b ca dn de:Addr}{es:List Ã} (h:dB Ad H b ca dn de es) (s:a9 H H'):dB Ad H' b ca dn de es:=by obtain⟨⟨dx,h1⟩,h2,h3,h4,h5,h6⟩:=h;exact⟨⟨dx,s _ _ h1⟩,s _ _ h2,s _ _ h3,fun e he=>s _ _ (h4 e he),h5,h6⟩
theorem Dn {α κ:Type} [DecidableEq κ] {f:α->κ}{g:α->V}:∀ {es:List α}{e:α},(es.map f).Nodup->e∈es->fF (es.map fun x=>(f x,g x)) (f e)=some (g e)
 | x::r,e,hn,he=>by
  obtain⟨h1,h2⟩:=eL.mp hn;unfold fF;rw[bg,fX]
  by_cases h:f x=f e
  ·rw[a8 h];rcases aU.mp he with rfl | he
   ·rfl
   ·exact absurd (iZ (f:=f) he) (by rw[←h];exact h1)
  ·rw[ay h];rcases aU.mp he with rfl | he
   ·exact absurd rfl h
   ·exact Dn h2 he
theorem Cc {α κ:Type} [DecidableEq κ] {f:α->κ}{g:α->V}{k:κ}:∀ {es:List α},k∉es.map f->fF (es.map fun x=>(f x,g x)) k=none
 | [],_=>rfl
 | x::r,h=>by rw[bg,aU,not_or] at h;unfold fF;rw[bg,fX,ay (show ¬ f x=k from fun e=>h.1 e.symm)];exact Cc h.2
theorem CI (es:List Ã):mY es=es.map fun e=>(.inl e.num,V.ref e.adr):=by unfold mY;rw[aW];rfl
theorem LH {es:List Ã} (h:(es.map (·.num)).Nodup):(es.map fun e=>(.inl e.num:Key)).Nodup:=by
 have e:(es.map fun e=>(.inl e.num:Key))=(es.map (·.num)).map Sum.inl:=by rw[aW];rfl
 rw[e];exact List.Pairwise.map _ (fun a b (h:a≠b) z=>h (Sum.inl.inj z)) h
theorem xU {es:List Ã}{e:Ã} (hn:(es.map (·.num)).Nodup) (he:e∈es):fF (mY es) (.inl e.num)=some (.ref e.adr):=by rw[CI];exact Dn (f:=fun e:Ã=>(.inl e.num:Key)) (LH hn) he
theorem xT {es:List Ã} (h:k∉es.map (·.num)):fF (mY es) (.inl k)=none:=by rw[CI];refine Cc (f:=fun e:Ã=>(.inl e.num:Key)) fun m=>h ?_;obtain⟨e,he,ee⟩:=aK.mp m;exact aK.mpr ⟨e,he,Sum.inl.inj ee⟩
theorem Mb {es:List Ã} (hn:(es.map (·.num)).Nodup):(fF (mY es) (.inl k)).isSome=decide (k∈es.map (·.num)):=by
 by_cases h:k∈es.map (·.num)
 ·obtain⟨e,he,rfl⟩:=aK.mp h;rw[xU hn he,a8 h];rfl
 ·rw[xT h,ay h];rfl
theorem FA {es:List Ã}{k:List Key} (h:k∉es.map (·.key)):fF (sf es) k=none:=Cc (f:=fun e:Ã=>e.key) h
theorem CS {κ:Type} [DecidableEq κ] {kvs:List (κ×V)}{k:κ}{v:V} (h:fF kvs k=none):putK kvs k v=kvs++[(k,v)]:=by unfold putK;rw[nS,h];rfl
theorem E9 (es:List Ã) (e:Ã):mY (es++[e])=mY es++[(.inl e.num,.ref e.adr)]:=by unfold mY;simp
theorem DR (es:List Ã) (e:Ã):sf (es++[e])=sf es++[(e.key,.int e.num)]:=by unfold sf;simp
theorem zx (es:List Ã):⇑(mY es)=⇑es:=by unfold mY;simp
noncomputable def uH (ns:Zb) (n:Int):Prop:=0<=n/\n∉ns/\∀ m,0<=m->m<n->m∈ns
theorem Gx (ns:Zb):∃ n:Nat,uH ns n/\n<=⇑ns:=by
 have key:∀ k:Nat,(∀ m:Int,0<=m->m<k->m∈ns)∨∃ n:Nat,n<k/\uH ns n:=by
  intro k
  induction k with
  | zero=>exact .inl fun m h1 h2=>⋯
  | succ k ih =>
   rcases ih with h | ⟨n,h1,h2⟩
   ·by_cases hk:(k:Int)∈ns
    ·exact .inl fun m h1 h2=>by
      by_cases e:m=k
      ·rw[e];exact hk
      ·exact h m h1 ⋯
    ·exact .inr ⟨k,jZ _,⋯,hk,h⟩
   ·exact .inr ⟨n,⋯,h2⟩
 rcases key (⇑ns+1) with h | ⟨n,h1,h2⟩
 ·exfalso;have hs:∀ c∈(List.range (⇑ns+1)).map (fun i:Nat=>(i:Int)),c∈ns:=fun c hc=>by
   obtain⟨i,hi,rfl⟩:=aK.mp hc;have:=cb.mp hi;exact h _ ⋯ ⋯
  have nd:((List.range (⇑ns+1)).map (fun i:Nat=>(i:Int))).Nodup:=List.Pairwise.map _ (fun a b (h:a≠b) z=>h ⋯) ou;have:=List.Nodup.length_le_of_subset nd hs;rw[af,cJ] at this;left
 ·exact⟨n,h2,⋯⟩
structure qH (key:List Key):Prop where
 is:md (key.map kV)=true
 few:⇑key<=2
 short:∀ z,V.str z∈key.map kV->⇑z<=10000
noncomputable def bI (al:Za) (ws:Zb):Int:=(⇑al:Int)^(⇑ws-1)
theorem Jd {t:Addr} (ht:H t=some (.tup (key.map kV))) (ok:qH key):xK H (.ref t)=true:=by show (match H t with | some (.tup xs)=>md xs | _=>false)=true;rw[ht];exact ok.is
theorem L6 {es:List Ã} (hp:ns.Perm ((es.map fun e=>(e.num,V.ref e.adr)).map (·.1))) (hs:ns.Pairwise (·<=·)) (hn:(es.map (·.num)).Nodup):∃ ms:List Ã,ms.Perm es/\ms.map (·.num)=ns/\(ms.map (·.num)).Pairwise (·<·):=by rw[aW] at hp;have p1:(es.mergeSort fun a b=>decide (a.num<=b.num)).Perm es:=List.mergeSort_perm _ _;have p2:=List.pairwise_mergeSort (le:=fun a b:Ã=>decide (a.num<=b.num)) (fun a b c h1 h2=>by simp only[bN] at *;left) (fun a b=>by simp only[oW,bN];left) es;generalize es.mergeSort (fun a b=>decide (a.num<=b.num))=ms at p1 p2;have p3:(ms.map (·.num)).Pairwise (·<=·):=ja.mpr (nV (fun h=>by simpa using h) p2);have e:ms.map (·.num)=ns:=PySem.W.ksm_same ((p1.map _).trans hp.symm) p3 hs;refine⟨ms,p1,e,?_⟩;have nd:(ms.map (·.num)).Nodup:=(p1.map _).nodup_iff.mpr hn;exact nV (fun {a b} (h:a<=b/\a≠b)=>⋯) (p3.and nd)
noncomputable def Kw (H:Hp) (vs:List V) (tss:List (List V)):Prop:=Paired (fun v ts=>∃ p,v=V.ref p/\H p=some (.tup ts)) vs tss
theorem tE {α β γ:Type}{F:α->γ->Prop}{f:β->γ}:∀ {l₁:List α}{l₂:List β},Paired F l₁ (l₂.map f)->Paired (fun a b=>F a (f b)) l₁ l₂
 | [],[],_=>.nil
 | _::_,_::_,.cons r t=>.cons r (tE t)
theorem xP {js:Za}{σ:St}{te:TE}{Q:VK} (hJ:J.Seq H1 xs) (hl:⇑xs<sizeLine) (tss:List (List V)) (hn:⇑tss=⇑xs)
  (he:∀ (i:Nat) x ts,xs[i]?=some x->tss[i]?=some ts->∀ H,a9 H1 H->∀ R:VK,(∀ p H',H p=none->a9 H H'->H' p=some (.tup ts)->R (.ref p) H')->te (some x::js.map fun j=>(σ[j]?).join) H R)
  (q:∀ D vs H,H1 D=none->a9 H1 H->H D=some (.lst vs)->Kw H vs tss->Q (.ref D) H):eE (fG 0) ur te (hO 1 js σ) J H1 Q:=by
 intro D hD;refine⟨fun i m ys σ1 H=>m=⇑xs-i/\i<=⇑xs/\(∃ o,σ1=o::js.map fun j=>(σ[j]?).join)/\⇑ys=i/\Kw H ys (tss.take i)/\a9 H1 H/\H D=some (.lst ys),
  ⟨⇑xs,by simp,bc _,⟨none,rfl⟩,rfl,.nil,(a9.refl H1).cf hD,aC⟩,?_⟩
 rintro i m ys σ1 H ⟨rfl,hi,⟨o,rfl⟩,hy,hg,sH,hL⟩;refine⟨hL,⋯,?_⟩
 by_cases hlt:i<⇑xs
 ·have e:xs[i]?=some xs[i]:=aD hlt;have e2:tss[i]?=some (tss[i]'⋯):=aD _;obtain⟨go,yl⟩:=(hJ H sH).1 i xs[i] e;refine .inr ⟨go,fun x H' y=>?_⟩;obtain⟨q1,q2⟩:=yl x H' y;subst q1 q2;show te (some xs[i]::js.map fun j=>(σ[j]?).join) H' _;refine he i _ _ e e2 H' sH _ fun p H4 w4 s4 hp=>?_;have hL4:=s4 _ _ hL;have pD:p≠D:=(aQ hL w4).symm;refine⟨hL4,⇑xs-(i+1),⋯,rfl,hlt,⟨_,rfl⟩,by rw[aF,hy];rfl,?_,(sH.trans s4).cf hD,aC⟩;rw[gA,e2];refine fL (gU (fun v ts ⟨b,eb,hb⟩=>⟨b,eb,?_⟩) hg) (.cons ⟨p,rfl,by rw[aG pD];exact hp⟩ .nil);have h4:=s4 _ _ hb;rw[aG (pq h4 hL4 (by intro z;cases z))];exact h4
 ·have e:i=⇑xs:=⋯
  subst e;rw[ef ⋯] at hg;exact .inl ⟨(hJ H sH).2 _ (av _),q D ys H hD sH hL hg⟩
theorem LO (H:Hp) (z:Key):∃ t,eZ H (kV z)=some t:=by
 cases z with
 | inl i=>exact⟨.int,rfl⟩
 | inr s=>exact⟨.str,rfl⟩
noncomputable abbrev Ú:=List (Za)×Za
noncomputable def Nm:Key->Za
 | .inr z=>z.cps.toList
 | .inl _=>[]
noncomputable def yz (w:Za) (s:Ú):Option Ú:=if s.2=[]/\s.1.length+⇑(Mk.bV 32 w)<=60 then some (s.1++Mk.bV 32 w,[]) else none
noncomputable def yA (w:Za) (s:Ú):Option Ú:=if s.1.length<60/\s.2.length+⇑w<=20 then some (s.1,s.2++w) else none
noncomputable def MA (s:Ú):Option Ú:=if s.2=[] then none else some (s.1++[s.2],[])
noncomputable def stepK (key:List Key) (s:Ú):Option Ú :=
 match key with
 | [.inr z,y]=>if z=("phrase":Str) then yz (Nm y) s else yA (Nm y) s
 | _=>MA s
noncomputable def runK:List (List Key)->Ú->Option Ú
 | [],s=>some s
 | k::r,s=>match stepK k s with
  | none=>none
  | some s'=>runK r s'
theorem uO (ok:qH key):(∃ l,key=[.inr ("phrase":Str),.inr (tx l)]/\j5 6 l=true)∨(∃ l,key=[.inr ("part":Str),.inr (tx l)]/\fE 6 l=true)∨key=[.inr ("end":Str)]:=by
 have h:=ok.is;cases key with
 | nil=>cases h
 | cons a r =>
  cases a with
  | inl i=>cases h
  | inr z =>
   cases r with
   | nil =>have h':decide (z=("end":Str))=true:=h;exact .inr (.inr (by rw[jc h']))
   | cons y r2 =>
    cases r2 with
    | cons _ _=>cases h
    | nil =>
     have h':(if z=("phrase":Str) then ki 6 (kV y) else if z=("part":Str) then iF 6 (kV y) else false)=true:=h;cases y with
     | inl i =>
      exfalso;split at h'
      ·cases h'
      ·split at h'<;>cases h'
     | inr y =>
      have ey:y=tx y.cps.toList:=by cases y;simp [tx]
      split at h'
      ·rename_i hz
       exact .inl ⟨y.cps.toList,by rw[hz,←ey],h'⟩
      ·split at h'
       ·rename_i hz
        exact .inr (.inl ⟨y.cps.toList,by rw[hz,←ey],h'⟩)
       ·cases h'
theorem kD (l:Za) (s:Ú):stepK [.inr ("phrase":Str),.inr (tx l)] s=if s.2=[]/\s.1.length+⇑(Mk.bV 32 l)<=60 then some (s.1++Mk.bV 32 l,[]) else none:=by show (if ("phrase":Str)=("phrase":Str) then yz (tx l).cps.toList s else yA (tx l).cps.toList s)=yz l s;rw[ai rfl,bQ]
theorem sY (l:Za) (s:Ú):stepK [.inr ("part":Str),.inr (tx l)] s=if s.1.length<60/\s.2.length+⇑l<=20 then some (s.1,s.2++l) else none:=by show (if ("part":Str)=("phrase":Str) then yz (tx l).cps.toList s else yA (tx l).cps.toList s)=yA l s;rw[ag (by decide),bQ]
theorem vP (s:Ú):stepK [.inr ("end":Str)] s=if s.2=[] then none else some (s.1++[s.2],[]):=rfl
noncomputable def Fc (w:Za):Prop:=1<=⇑w/\⇑w<=20/\∀ c∈w,97<=c/\c<123
structure wk (s:Ú):Prop where
 few:s.1.length<=60
 wds:∀ w∈s.1,Fc w
 len:s.2.length<=20
 let_:∀ c∈s.2,97<=c/\c<123
 sp:s.2≠[]->s.1.length<60
theorem O3:wk ([],[]):=⟨Zd,(fun w h=>by cases h),Zd,(fun c h=>by cases h),fun h=>absurd rfl h⟩
theorem Bi {n:Nat}{l:Za} (h:fE n l=true):1<=⇑l/\⇑l<=n/\∀ c∈l,97<=c/\c<123:=by unfold fE at h;rw[bT,bT,bN,bN,c9] at h;exact⟨h.1.1,h.1.2,fun c hc=>jc (h.2 c hc)⟩
theorem Ij {n:Nat}{l:Za} (h:j5 n l=true):⇑(Mk.bV 32 l)<=n/\∀ w∈Mk.bV 32 l,Fc w:=by unfold j5 at h;rw[bT,bN,c9] at h;exact⟨h.1,fun w hw=>Bi (h.2 w hw)⟩
theorem wk.step {s s':Ú} (ok:qH key) (h:wk s) (e:stepK key s=some s'):wk s':=by
 rcases uO ok with ⟨l,rfl,hl⟩ | ⟨l,rfl,hl⟩ | rfl
 ·rw[kD] at e;split at e
  ·rename_i hc
   cases e
   obtain⟨_,hw⟩:=Ij hl;exact⟨by rw[aF];exact hc.2,fun w hw'=>(bG.mp hw').elim (h.wds w) (hw w),by simp,(fun c hc=>by cases hc),fun hh=>absurd rfl hh⟩
  ·cases e
 ·rw[sY] at e;split at e
  ·rename_i hc
   cases e
   obtain⟨_,_,hw⟩:=Bi hl;exact⟨h.few,h.wds,by rw[aF];exact hc.2,fun c hc'=>(bG.mp hc').elim (h.let_ c) (hw c),fun _=>hc.1⟩
  ·cases e
 ·rw[vP] at e;split at e
  ·cases e
  ·rename_i hc
   cases e
   have:=h.sp hc;have l1:1<=s.2.length:=by
    cases hs:s.2 with
    | nil=>exact absurd hs hc
    | cons _ _=>simp
   exact⟨by rw[aF];exact this,fun w hw=>(bG.mp hw).elim (h.wds w) fun hw=>by rw[b9.mp hw];exact⟨l1,h.len,h.let_⟩,by simp,(fun c hc=>by cases hc),fun hh=>absurd rfl hh⟩
theorem Jv {ws:List (Za)} (h60:⇑ws<=60) (hw:∀ w∈ws,Fc w):⇑(Mk.fK 32 ws)<=1260/\(ws.map fun w=>⇑w+1).sum<=1260:=by obtain⟨a,b⟩:=Gh (n:=60) h60 fun w h=>(hw w h).2.1;exact⟨⋯,⋯⟩
theorem LG {f:Ã->α}{es:List Ã}{x e:Ã} (hn:(es.map f).Nodup) (hx:x∈es) (he:e∈es) (h:f x=f e):x=e:=by
 obtain⟨i,hi,rfl⟩:=List.getElem_of_mem hx;obtain⟨j,hj,rfl⟩:=List.getElem_of_mem he;have:=List.pairwise_iff_getElem.mp hn;rcases Nat.lt_trichotomy i j with l | l | l
 ·exact absurd (by rw[List.getElem_map,List.getElem_map];exact h) (this i j (by rw[af];exact hi) (by rw[af];exact hj) l)
 ·subst l;rfl
 ·exact absurd (by rw[List.getElem_map,List.getElem_map];exact h.symm) (this j i (by rw[af];exact hj) (by rw[af];exact hi) l)
noncomputable def Õ (es:List Ã) (x:V):Option (List Key):=match x with
 | .int n=>(es.find? fun e=>decide (e.num=n)).map (·.key)
 | _=>none
noncomputable def pU:List (Option (List Key))->Ú->Nat->Nat ⊕ Ú
 | [],s,_=>.inr s
 | none::_,_,i=>.inl i
 | some k::r,s,i=>match stepK k s with
  | none=>.inl i
  | some s'=>pU r s' (i+1)
noncomputable def qY (ks:List (Option (List Key))):Nat ⊕ List (Za):=match pU ks ([],[]) 0 with
 | .inl i=>.inl i
 | .inr s=>if s.2=[]/\s.1≠[] then .inr s.1 else .inl ⇑ks
theorem Gk {es:List Ã} (nn:(es.map (·.num)).Nodup) {e:Ã} (h:e∈es):Õ es (.int e.num)=some e.key:=by
 unfold Õ;have:∃ u,es.find? (fun u=>decide (u.num=e.num))=some u:=by
  cases q:es.find? (fun u=>decide (u.num=e.num)) with
  | some u=>exact⟨u,rfl⟩
  | none=>exact absurd (a8 rfl) (List.find?_eq_none.mp q e h)
 obtain⟨u,q⟩:=this;have hu:=List.mem_of_find?_eq_some q;have en:u.num=e.num:=by
  have z:=List.find?_some q
  simpa using z
 show Option.map _ (es.find? fun u=>decide (u.num=e.num))=_;rw[q,LG nn hu h en];rfl
theorem Be {es:List Ã}{n:Int} (h:n∉es.map (·.num)):Õ es (.int n)=none:=by show Option.map _ (es.find? fun u=>decide (u.num=n))=_;rw[List.find?_eq_none.mpr fun u hu=>by rw[bN];exact fun z=>h (aK.mpr ⟨u,hu,z⟩)];rfl
theorem zS {es:List Ã} (nn:(es.map (·.num)).Nodup):∀ {grp:List Ã}{s s':Ú}{i:Nat},(∀ e∈grp,e∈es)->runK (grp.map (·.key)) s=some s'->pU (grp.map fun e:Ã=>Õ es (.int e.num)) s i=.inr s'
 | [],s,s',i,_,h=>by have h':some s=some s':=h;cases h';rfl
 | e::r,s,s',i,hm,h=>by
  rw[bg,Gk nn (hm e aR)];have h':(match stepK e.key s with | none=>none | some t=>runK (r.map (·.key)) t)=some s':=h;show (match stepK e.key s with | none=>Sum.inl i | some t=>pU (r.map fun e:Ã=>Õ es (.int e.num)) t (i+1))=_;cases hs:stepK e.key s with
  | none=>rw[hs] at h';cases h'
  | some t=>rw[hs] at h';exact zS nn (fun e he=>hm e (aV _ he)) h'
theorem Kc {es:List Ã} (nn:(es.map (·.num)).Nodup) {grp:List Ã}{l:Zb}{ws:List (Za)} (hm:∀ e∈grp,e∈es) (hl:grp.map (·.num)=l) (h:runK (grp.map (·.key)) ([],[])=some (ws,[])) (hw:ws≠[]):qY ((l.map V.int).map (Õ es))=.inr ws:=by subst hl;unfold qY;rw[aW,aW,show ((Õ es ∘ V.int) ∘ fun e:Ã=>e.num)=fun e:Ã=>Õ es (.int e.num) from rfl,zS nn hm h];exact ai ⟨rfl,hw⟩
noncomputable def GoodW (al:Za) (ws:Zb) (r:Int) (z:Za):Prop:=∃ ps:Zb,z=Mk.bD al ps/\⇑ps=⇑ws/\(∀ x∈ps,0<=x/\x<(⇑al:Int))/\Mk.good ⇑al ws r ps=true
theorem GoodW.wd (h:GoodW al ws r z) (ok:bP al ws r):yE al z:=by obtain⟨ps,rfl,hl,hm,_⟩:=h;have sl:=Mk.fA al ps;have w3:=ok.w3;have w8:=ok.w8;refine⟨⋯,⋯,fun c hc=>?_,ok.a3,ok.a26⟩;unfold Mk.bD at hc;obtain⟨p,hp,rfl⟩:=aK.mp hc;exact Mk.getD_mem (hm p hp)
theorem GoodW.good (h:GoodW al ws r z) (ok:bP al ws r):Mk.bW al ws r z=true:=by obtain⟨ps,rfl,hl,hm,hg⟩:=h;rw[Mk.j9 ok.nd hl hm];exact hg
theorem Jg {r n:Int} (ok:bP al ws r) (h:GoodW al ws r z):Mk.bW al ws r (ç al z n)=false:=by
 obtain⟨ps,rfl,hl,hm,hg⟩:=h;have sl:=Mk.fA al ps;have w3:=ok.w3;have a3:=ok.a3;unfold ç;rw[sl];obtain⟨i,hi⟩:=cY (bY n (show (⇑ps:Int)≠0 by left));have hip:i<⇑ps:=by have:=bZ n (show 0<(⇑ps:Int) by left);left
 rw[hi,c8];have hpi:=hm _ (cZ hip);have hci:(Mk.bD al ps).getD i 0=al.getD ps[i].toNat 0:=by rw[aT];unfold Mk.bD;rw[aS,aD hip];rfl
 have hix:al.idxOf (al.getD ps[i].toNat 0)=ps[i].toNat:=Mk.sj ok.nd (Mk.getD_at hpi);rw[hci,hix,nU hpi.1];have f0:=bY (n/(⇑ps:Int)) (show (⇑al:Int)-1≠0 by left);have f1:=bZ (n/(⇑ps:Int)) (show 0<(⇑al:Int)-1 by left);generalize n/(⇑ps:Int)%((⇑al:Int)-1)=fu at f0 f1;have hj0:=bY (ps[i]+(fu+1)) (show (⇑al:Int)≠0 by left);have hj1:=bZ (ps[i]+(fu+1)) (show 0<(⇑al:Int) by left);have hne:(ps[i]+(fu+1))%(⇑al:Int)≠ps[i]:=by
  by_cases h:ps[i]+(fu+1)<⇑al
  ·rw[iR ⋯ h];left
  ·have e:(ps[i]+(fu+1))%(⇑al:Int)=ps[i]+(fu+1)-⇑al:=by
    rw[←Int.sub_emod_right,iR ⋯ ⋯]
   rw[e];left
 generalize (ps[i]+(fu+1))%(⇑al:Int)=j at hj0 hj1 hne;have hwi:ws[i]?=some ws[i]:=aD ⋯;rw[Mk.xk hip,Mk.j9 ok.nd (by rw[dN];exact hl) (Mk.lF hm ⟨hj0,hj1⟩)];exact Mk.zc hwi (aD hip) ((Mk.ic.mp ok.safe).1 _ (bL hwi)) hpi ⟨hj0,hj1⟩ hne hg
theorem oK (xs:List V) (h:xs.all eK=true):qK xs xs=true:=by rw[←ma rfl,c9];intro j hj;have hj':=cb.mp hj;rw[aT,aD hj'];exact FF (c9.mp h _ (cZ hj'))
theorem iK (zs:List Za):(zs.map É).all eK=true:=by rw[c9];intro v hv;obtain⟨z,_,rfl⟩:=aK.mp hv;rfl
theorem xJ:∀ {vs:List V}{G:Int->Prop},(∀ v∈vs,∃ n,v=V.int n/\G n)->∃ ns:Zb,vs=ns.map V.int/\∀ n∈ns,G n
 | [],_,_=>⟨[],rfl,fun n h=>by cases h⟩
 | v::vs,G,h=>by obtain⟨n,rfl,hn⟩:=h v aR;obtain⟨ns,rfl,hns⟩:=xJ fun v hv=>h v (aV _ hv);exact⟨n::ns,rfl,fun m hm=>(aU.mp hm).elim (fun e=>by rw[e];exact hn) (hns m)⟩
noncomputable def dJ (zs:List Za) (as:Za):List (Za):=as.map fun i=>zs.getD i []
noncomputable def lD (as:Za) (sent came:List Za):Za:=((List.range ⇑as).filter fun j=>!decide (sent.getD j []=came.getD j [])).map fun j=>as.getD j 0
noncomputable def vK (al:Za) (fs:List Flt) (zs:List Za):Nat->Nat->Za->List (List Za)
 | 0,_,_=>[]
 | n+1,s,as=>if as=[] then [] else iJ al fs (s:Int) (dJ zs as)::vK al fs zs n (s+1) (lD as (dJ zs as) (iJ al fs (s:Int) (dJ zs as)))
theorem se (al:Za) (fs:List Flt) (s:Int) (zs:List Za):⇑(iJ al fs s zs)=⇑zs:=by unfold iJ;rw[af,cJ]
theorem sd {fs:List Flt}{s:Int} (h:i<⇑zs):(iJ al fs s zs)[i]?=some (j8 al (zs.getD i []) (fs.find? (hits s (i:Int)))):=by unfold iJ;rw[aS,lO h];rfl
theorem EM (zs:List Za) (as:Za):⇑(dJ zs as)=⇑as:=by unfold dJ;rw[af]
theorem A7 {fs:List Flt} (h:∀ f∈fs,f.s≠(s:Int)):iJ al fs (s:Int) zs=zs:=by
 apply fj;intro i
 by_cases hi:i<⇑zs
 ·rw[sd hi];have:fs.find? (hits (s:Int) (i:Int))=none:=List.find?_eq_none.mpr fun f hf=>by
   unfold hits;rw[ay (by have:=h f hf;left)];simp
  rw[this,aT,aD hi];rfl
 ·rw[dZ (by rw[se];left),dZ ⋯]
theorem Bh (as:Za) (ws:List Za):lD as ws ws=[]:=by unfold lD;rw[rJ.mpr fun j _=>by simp];rfl
theorem Kn {r n:Int} (ok:bP al ws r) (h:GoodW al ws r z) (hne:ä z n≠z):Mk.bW al ws r (ä z n)=false:=by
 obtain⟨ps,rfl,hl,hm,hg⟩:=h;have sl:=Mk.fA al ps;have w3:=ok.w3;unfold ä at hne ⊢;rw[sl] at hne ⊢;obtain⟨i,hi⟩:=cY (bY n (show (⇑ps:Int)-1≠0 by left));have hip:i+1<⇑ps:=by have:=bZ n (show 0<(⇑ps:Int)-1 by left);left
 rw[hi,c8] at hne ⊢;have gc:∀ j (hj:j<⇑ps),(Mk.bD al ps).getD j 0=al.getD ps[j].toNat 0:=fun j hj=>by rw[aT];unfold Mk.bD;rw[aS,aD hj];rfl
 rw[gc i ⋯,gc (i+1) hip,bJ (List.take i _),Mk.vN hip] at hne ⊢;have hwi:ws[i]?=some ws[i]:=aD ⋯;have hwi2:ws[i+1]?=some ws[i+1]:=aD ⋯;have hi0:i<⇑ps:=⋯
 rw[Mk.j9 ok.nd (by rw[dN,dN];exact hl) (Mk.lF (Mk.lF hm (hm _ (cZ hip))) (hm _ (cZ hi0)))];refine Mk.Eo hwi hwi2 (aD hi0) (aD hip) ((Mk.ic.mp ok.safe).2 i _ _ hwi hwi2) (hm _ (cZ hi0)) (hm _ (cZ hip)) (fun e=>hne ?_) hg;rw[e];have e1:ps.set i ps[i]=ps:=rO hi0;rw[e1];have e2:ps.set (i+1) ps[i]=ps:=by rw[←e];exact rO hip
 rw[e2]
theorem wF (ok:bP al ws r)  (g:GoodW al ws r z) {o:Option Flt} (hne:j8 al z o≠z):Mk.bW al ws r (j8 al z o)=false:=by
 cases o with
 | none=>exact absurd rfl hne
 | some f =>
  have e:j8 al z (some f)=if f.isL then ç al z f.n else ä z f.n:=rfl
  rw[e] at hne ⊢;cases hl:f.isL with
  | true=>exact Jg ok g
  | false =>rw[hl] at hne;exact Kn ok g hne
theorem xb (ok:bP al ws r)  (h:Mk.bW al ws r z=true):0<=Mk.numOf ⇑al (Mk.Ò al z.dropLast)/\Mk.numOf ⇑al (Mk.Ò al z.dropLast)<(⇑al:Int)^(⇑ws-1):=by
 have a3:=ok.a3;unfold Mk.bW at h;rw[bT] at h;obtain⟨hl,hm⟩:=Mk.dH.mp h.1;have hb:=Mk.jq (m:=(⇑al:Int)) ⋯ (Mk.Ò al z.dropLast) fun p hp=>by unfold Mk.Ò at hp;obtain⟨c,hc,rfl⟩:=aK.mp hp;have:=List.idxOf_lt_length_of_mem (hm c (ip _ hc));left
 have e:⇑(Mk.Ò al z.dropLast)=⇑ws-1:=by unfold Mk.Ò;rw[af,iX];left
 rw[e] at hb;exact hb
noncomputable def Od (H:Hp) (v:V) (ws:List Za):Prop:=∃ p,v=.ref p/\H p=some (.lst (ws.map É))
noncomputable def ly (H:Hp) (vs:List V) (wss:List (List Za)):Prop:=Paired (Od H) vs wss
theorem ly.keep {H H':Hp} (h:ly H vs wss) (s:∀ b (ws:List Za),H b=some (.lst (ws.map É))->H' b=some (.lst (ws.map É))):ly H' vs wss:=gU (fun _ _ ⟨b,e,hb⟩=>⟨b,e,s _ _ hb⟩) h
theorem Ku {c:TT}{tb:TS}{D:Ends} (W:Nat->St->Hp->Prop) (m:Nat) (h0:W m σ H)
  (hs:∀ m σ H,W m σ H->c σ H fun b H1=>if b=true then ∃ N:St->Hp->Prop,(∀ σ' H',N σ' H'->∃ m',m'<m/\W m' σ' H')/\tb { D with nx:=N,ct:=N,bk:=D.nx } σ H1 else D.nx σ H1):BX c tb D σ H:=⟨W,⟨m,h0⟩,hs⟩
theorem MJ (h:ly H vs wss) {p:Addr} (hp:H p=none):∀ v∈vs,v≠V.ref p:=fun v hv e=>by obtain⟨i,hi⟩:=oh hv;obtain⟨_,_,b,eb,hb⟩:=iC h hi;rw[e] at eb;cases eb;rw[hp] at hb;cases hb
theorem ly.ph {H H':Hp}{P:Addr->Prop}:∀ {vs:List V}{wss:List (List Za)},ly H vs wss->(∀ p,V.ref p∈vs->P p)->(∀ b o,P b->H b=some o->H' b=some o)->ly H' vs wss
 | _,_,.nil,_,_=>.nil
 | _,_,.cons ⟨b,e,hb⟩ t,h,s=>.cons ⟨b,e,s b _ (h b (by rw[e];exact aR)) hb⟩ (ly.ph t (fun p hp=>h p (aV _ hp)) s)
theorem J0 {s c:List (Za)} (h:as.Nodup):(lD as s c).Nodup:=by unfold lD;refine ja.mpr (rD (fun {i j} hi hj hij e=>?_) (jS _ ou));have hi':=cb.mp (cG.mp hi).1;have hj':=cb.mp (cG.mp hj).1;rw[aT,aT,aD hi',aD hj'] at e;exact hij ((List.getElem_inj h).mp e)
theorem Jz {s c:List (Za)}{n:Nat} (h:∀ i∈as,i<n):∀ i∈lD as s c,i<n:=fun i hi=>by unfold lD at hi;obtain⟨j,hj,rfl⟩:=aK.mp hi;have hj':=cb.mp (cG.mp hj).1;rw[aT,aD hj'];exact h _ (cZ hj')
theorem Kk (al:Za) (fs:List Flt) (zs:List Za):∀ n s,vK al fs zs n s []=[]
 | 0,_=>rfl
 | n+1,s=>by show (if ([]:Za)=[] then [] else _)=[];rw[ai rfl]
theorem Gy {fs:List Flt} (hf:∀ f∈fs,f.s≠61) (hs:s<=61) (h:lD as (dJ zs as) (iJ al fs (s:Int) (dJ zs as))≠[]):s+1<=61:=by
 rcases Nat.lt_or_eq_of_le hs with h3 | h3
 ·left
 ·exfalso;apply h;rw[A7 (fun f hf'=>by have:=hf f hf';left),Bh]
theorem F5 {al z:Za}{o:Option Flt} (h:⇑z<=8):⇑(j8 al z o)<=100:=by
 cases o with
 | none=>show ⇑z<=100;left
 | some f =>
  have e:j8 al z (some f)=if f.isL then ç al z f.n else ä z f.n:=rfl
  rw[e];cases f.isL with
  | true =>show ⇑(ç al z f.n)<=100;unfold ç;simp only[aF,bK,cq,dz];left
  | false =>show ⇑(ä z f.n)<=100;unfold ä;simp only[aF,bK,cq,dz];left
noncomputable def jo (i:Nat):V:=.int (i:Int)
theorem GH (a b:Nat) (h:jo a=jo b):a=b:=by have:=V.int.inj h;left
noncomputable def mJ (zs:List Za) (as:Za):List (Za):=(List.range ⇑zs).map fun i=>if i∈as then [] else zs.getD i []
theorem Gp (zs:List Za):mJ zs []=zs:=by
 unfold mJ;apply fj;intro i;rw[aS]
 by_cases hi:i<⇑zs
 ·rw[lO hi,aD hi];show some (if i∈([]:Za) then [] else zs.getD i [])=_;rw[ag (by simp),aT,aD hi];rfl
 ·rw[dZ (by rw[cJ];left),dZ ⋯];rfl
theorem zh (zs:List Za) (as:Za):⇑(mJ zs as)=⇑zs:=by unfold mJ;rw[af,cJ]
theorem Gq {A B:Za}{at_:Nat} (ha:at_∉A++B) (hl:at_<⇑zs):(mJ zs (A++at_::B)).set at_ (zs.getD at_ [])=mJ zs (A++B):=by
 apply fj;intro i
 by_cases hi:i=at_
 ·subst hi;rw[iW (by rw[zh];exact hl)];unfold mJ;rw[aS,lO hl];show _=some (if i∈A++B then [] else zs.getD i []);rw[ag ha]
 ·rw[iV (b7 hi)];unfold mJ;rw[aS,aS]
  by_cases h2:i<⇑zs
  ·rw[lO h2];have e:i∈A++at_::B↔i∈A++B:=by simp [hi]
   show some (if i∈A++at_::B then [] else zs.getD i [])=some (if i∈A++B then [] else zs.getD i [])
   by_cases h3:i∈A++B
   ·rw[ai h3,ai (e.mpr h3)]
   ·rw[ag h3,ag fun h=>h3 (e.mp h)]
  ·rw[dZ (by rw[cJ];left)];rfl
theorem Ik {W:Nat->St->Hp->Prop}{B:(St->Hp->Prop)->Prop} (h:∀ N:St->Hp->Prop,(∀ m' σ' H',m'<m->W m' σ' H'->N σ' H')->B N):∃ N:St->Hp->Prop,(∀ σ' H',N σ' H'->∃ m',m'<m/\W m' σ' H')/\B N :=
 ⟨fun σ' H'=>∃ m',m'<m/\W m' σ' H',fun _ _ h=>h,h _ fun m' _ _ a b=>⟨m',a,b⟩⟩
theorem JZ (n:Nat):v8 0 ((n:Int)-0).toNat=(List.range n).map jo:=by unfold v8 jo;rw[Int.sub_zero,c8];refine iY fun i _=>?_;rw[jR]
theorem uU (as:Za):(as.map jo).all eK=true:=by rw[c9];intro v hv;obtain⟨z,_,rfl⟩:=aK.mp hv;rfl
theorem oH.Nl {H H':Hp}{kvs:List (List Key×V)}{fs:List Flt} (h:oH H kvs fs) (s:a9 H H'):oH H' kvs fs:=fun a b=>(h a b).imp id fun ⟨t,f,h1,h2,h3⟩=>⟨t,f,h1,h2,s _ _ h3⟩
noncomputable def mU (as:Za) (s c:List Za) (j:Nat):Za:=((List.range j).filter fun t=>!decide (s.getD t []=c.getD t [])).map fun t=>as.getD t 0
theorem E6 {s c:List (Za)} (hj:j<=⇑as):∀ x∈mU as s c j,∃ i,i<j/\as[i]?=some x:=fun x hx=>by unfold mU at hx;obtain⟨i,hi,rfl⟩:=aK.mp hx;have hi':=cb.mp (cG.mp hi).1;exact⟨i,hi',by rw[aT,aD ⋯];rfl⟩
theorem Bg {s c:List (Za)}{j a:Nat} (ha:as[j]?=some a):mU as s c (j+1)=mU as s c j++(if s.getD j []=c.getD j [] then [] else [a]):=by
 unfold mU;rw[jW,iq,bM]
 congr 1
 by_cases h:s.getD j []=c.getD j []
 ·rw[ai h,rG (by rw[a8 h];decide)];rfl
 ·rw[ag h,rH (by rw[ay h];rfl)];show [as.getD j 0]=[a];rw[aT,ha];rfl
theorem zv {as A:Za}{j a:Nat} (hn:as.Nodup) (ha:as[j]?=some a) (hA:∀ x∈A,∃ i,i<j/\as[i]?=some x):a∉A++as.drop (j+1):=by
 have hj:=(br.mp ha).1;intro h;rcases bG.mp h with h | h
 ·obtain⟨i,hi,e⟩:=hA a h;have:=(List.getElem?_inj ⋯ hn).mp (e.trans ha.symm);left
 ·obtain⟨i,hi⟩:=oh h;rw[iu] at hi;have:=(List.getElem?_inj hj hn).mp (ha.trans hi.symm);left
theorem Gz (as:Za) (s c:List Za):⇑(lD as s c)<=⇑as:=by
 unfold lD;rw[af];have:=jU (fun j=>!decide (s.getD j []=c.getD j [])) (List.range ⇑as)
 rwa [cJ] at this
theorem HM {fs:List Flt}{m s:Nat} (hm:1<=m) (h:as≠[]):vK al fs zs m s as=iJ al fs (s:Int) (dJ zs as)::vK al fs zs (m-1) (s+1) (lD as (dJ zs as) (iJ al fs (s:Int) (dJ zs as))):=by obtain⟨m',rfl⟩:∃ m',m=m'+1:=⟨m-1,⋯⟩;show (if as=[] then [] else _)=_;rw[ag h];rfl
theorem Js {l:List α}{x d:α} (h:l[i]?=some x):l.getD i d=x:=by rw[aT,h];rfl
theorem HK (zs:List Za) (as:Za):(as.map fun i=>É (zs.getD i []))=(dJ zs as).map É:=by unfold dJ;rw[aW];rfl
noncomputable def i6 (al z:Za):Int:=Mk.numOf ⇑al (Mk.Ò al z.dropLast)
noncomputable def we (al:Za) (ws:Zb) (r g:Int):Za:=Mk.bD al (Mk.kF ⇑al ws r g)
noncomputable def ã (j m:Nat):List Key:=[.inr "phrase",.inr (tx (List.replicate m (97+j)))]
theorem JM {j m j' m':Nat} (h1:1<=m) (h:ã j m=ã j' m'):j=j':=by
 unfold ã at h;have h2:tx (List.replicate m (97+j))=tx (List.replicate m' (97+j')):=by simpa using h
 have h3:=lq h2;obtain⟨n,rfl⟩:∃ n,m=n+1:=⟨m-1,⋯⟩;cases m' with
 | zero=>simp at h3
 | succ n' =>rw[gz,gz] at h3;have:=(List.cons.inj h3).1;left
theorem Hj {j m:Nat} (hj:j<26) (h1:1<=m) (h4:m<=4):qH (ã j m):=by
 have hw:j5 6 (List.replicate m (97+j))=true:=by
  unfold j5;rw[Mk.oU _ (fun h=>by have:=List.eq_of_mem_replicate h;left)];have:fE 20 (List.replicate m (97+j))=true:=Dw (by rw[jV];exact h1) (by rw[jV];left) fun c hc=>by have:=List.eq_of_mem_replicate hc;left
  simp [this]
 refine⟨xM hw,av 2,fun z hz=>?_⟩;unfold ã at hz;simp only[bg,ix,kV,aU,V.str.injEq,dO,dP] at hz;rcases hz with rfl | rfl
 ·decide
 ·rw[bS,jV];left
theorem Nq (ok:bP al ws r):9<=bI al ws:=by
 have a3:=ok.a3;have w3:=ok.w3;have h:3^2<=⇑al^(⇑ws-1):=aX (Nat.pow_le_pow_left a3 2) (lS ⋯ ⋯);unfold bI;have e:((⇑al^(⇑ws-1):Nat):Int)=(⇑al:Int)^(⇑ws-1):=by simp
 rw[←e];left
noncomputable def vS (al:Za) (ws:Zb) (r:Int) (gs:Zb):List (Za):=gs.map (we al ws r)++[we al ws r ((gs.sum+⇑gs)%bI al ws)]
theorem Nr {r g:Int} (ok:bP al ws r) (h0:0<=g) (h1:g<bI al ws):i6 al (we al ws r g)=g:=by
 have a3:=ok.a3;have w3:=ok.w3;have hm:=Mk.xq (m:=(⇑al:Int)) (r:=r) (k:=g) (ws:=ws) ⋯ (by have:=ok.a26;left) ok.wm ok.safe ⋯;have hn:=Mk.EZ (m:=(⇑al:Int)) (r:=r) (k:=g) (ws:=ws) ⋯ h0 h1;unfold i6 we;have e:(Mk.bD al (Mk.kF ⇑al ws r g)).dropLast=Mk.bD al (Mk.kF ⇑al ws r g).dropLast:=by unfold Mk.bD;rw[List.map_dropLast]
 rw[e,Mk.jz ok.nd (fun p hp=>hm p (ip _ hp))];exact hn
theorem Ni {r g:Int} (ok:bP al ws r):GoodW al ws r (we al ws r g):=by have a3:=ok.a3;have a26:=ok.a26;have w3:=ok.w3;exact⟨_,rfl,Mk.EY ⋯,Mk.xq ⋯ ⋯ ok.wm ok.safe ⋯,Mk.Ce ⋯ ⋯ ok.wm ok.safe ⋯⟩
noncomputable def jw (al:Za) (ws:Zb) (r:Int) (es:List Ã) (n i:Nat) (z:Za):Bool:=Mk.bW al ws r z&&(decide (i+1=n)||decide (i6 al z∈es.map (·.num)))
noncomputable def Ï (al:Za) (ws:Zb) (r:Int) (es:List Ã) (zs:List Za):Za:=(List.range ⇑zs).filter fun i=>!jw al ws r es ⇑zs i (zs.getD i [])
theorem words_of {al:Za}{n:Int}{f:V->Bool} (hf:∀ x,f x=true->∃ z,x=.str z/\Mk.bE al n z.cps.toList=true):∀ {xs:List V},xs.all f=true->∃ zs:List Za,xs=zs.map É/\∀ z∈zs,Mk.bE al n z=true
 | [],_=>⟨[],rfl,fun z h=>by cases h⟩
 | x::xs,h=>by
  rw[iT,bT] at h;obtain⟨zs,e,hz⟩:=words_of hf h.2;obtain⟨z,rfl,h1⟩:=hf x h.1;refine⟨z.cps.toList::zs,by rw[bg,←e];show V.str z::xs=V.str (tx z.cps.toList)::xs;rw[nQ],fun y hy=>?_⟩;rcases aU.mp hy with rfl | hy
  ·exact h1
  ·exact hz y hy
noncomputable def Oc (H:Hp) (v:V) (xs:List V):Prop:=∃ b,v=.ref b/\H b=some (.lst xs)
noncomputable def lx (H:Hp) (vs:List V) (xss:List (List V)):Prop:=Paired (Oc H) vs xss
theorem lx.keep {H H':Hp}{xss:List (List V)} (h:lx H vs xss) (s:∀ b (xs:List V),H b=some (.lst xs)->H' b=some (.lst xs)):lx H' vs xss:=gU (fun _ _ ⟨b,e,hb⟩=>⟨b,e,s _ _ hb⟩) h
theorem lx.ph {H H':Hp}{D:Addr}:∀ {vs:List V}{xss:List (List V)},lx H vs xss->(∀ v∈vs,v≠V.ref D)->(∀ b o,b≠D->H b=some o->H' b=some o)->lx H' vs xss
 | _,_,.nil,_,_=>.nil
 | _,_,.cons ⟨b,e,hb⟩ t,h,s=>.cons ⟨b,e,s b _ (fun z=>h _ aR (by rw[e,z])) hb⟩ (lx.ph t (fun v hv=>h v (aV _ hv)) s)
noncomputable def oY (xs:List V) (i:Nat) (c:V):List V:=xs.take i++[c]++xs.drop (i+1)
noncomputable def mF (es:List Ã) (M:Int) (ns:Zb):Option Za :=
 if ns.getLastD 0=(ns.dropLast.sum+(⇑ns.dropLast:Int))%M then
  match qY ((ns.dropLast.map V.int).map (Õ es)) with
  | .inr wd=>some (Mk.fK 32 wd)
  | .inl _=>none
 else none
theorem Jn {ps q:Zb} (hm:∀ x∈ps,0<=x/\x<(m:Int)) (h:q∈kL m ps):ps∈kL m q:=by
 rcases bG.mp h with h | h
 ·obtain⟨i,o,hi,h0,h1,h2,rfl⟩:=mV.mp h;refine bG.mpr (.inl (mV.mpr ⟨i,ps.getD i 0,by rw[dN];exact hi,(hm _ (getD_in hi)).1,(hm _ (getD_in hi)).2,by rw[vJ hi];exact b7 h2,?_⟩));refine fj fun k=>?_;rw[List.getElem?_set,dN]
  by_cases e:i=k
  ·subst e;rw[ai rfl,ai hi,getD_some hi]
  ·rw[ag e,iV e]
 ·obtain⟨i,hi,h2,rfl⟩:=mW.mp h;refine bG.mpr (.inr (mW.mpr ⟨i,by rw[dN,dN];exact hi,?_,?_⟩))
  ·rw[nN hi,nN hi,ai rfl,ag ⋯,ai rfl];exact b7 h2
  ·rw[nN hi,nN hi,ag ⋯,ai rfl,ai rfl];refine fj fun k=>?_;simp only[List.getElem?_set,dN]
   by_cases e:i+1=k
   ·subst e;rw[ai rfl,ai hi,getD_some hi]
   ·rw[ag e]
    by_cases e2:i=k
    ·subst e2;rw[ai rfl,ai ⋯,getD_some ⋯]
    ·rw[ag e2,ag e,ag e2]
theorem FY (ok:bP al ws r) {ps qs:Zb} (pl:⇑ps=⇑ws) (ql:⇑qs=⇑ws) (pm:∀ x∈ps,0<=x/\x<(⇑al:Int)) (qm:∀ x∈qs,0<=x/\x<(⇑al:Int)) (pg:Mk.good ⇑al ws r ps=true) (qg:Mk.good ⇑al ws r qs=true) (h:Mk.numOf ⇑al ps.dropLast=Mk.numOf ⇑al qs.dropLast):ps=qs:=by
 have a3:=ok.a3;have a26:=ok.a26;have w3:=ok.w3;have e:ps.dropLast=qs.dropLast:=by have h1:=Mk.uT (m:=(⇑al:Int)) ⋯ ps.dropLast fun x hx=>pm x (ip _ hx);have h2:=Mk.uT (m:=(⇑al:Int)) ⋯ qs.dropLast fun x hx=>qm x (ip _ hx);rw[←h1,←h2,h,iX,iX,pl,ql]
 obtain⟨_,l1,l2,l3⟩:=Mk.oN (m:=(⇑al:Int)) (r:=r) (ws:=ws) (ps:=ps.dropLast) ⋯ ⋯ ok.wm (fun x hx=>(Mk.ic.mp ok.safe).1 x hx) (by rw[iX];left);have p0:ps≠[]:=fun z=>by rw[z] at pl;simp at pl;left
 have q0:qs≠[]:=fun z=>by rw[z] at ql;simp at ql;left
 have pe:=rF p0;have qe:=rF q0;rw[←pe] at pg;rw[←qe,←e] at qg;have b1:=pm _ (List.getLast_mem p0);have b2:=qm _ (List.getLast_mem q0);have:=(l3 _ b1.1 b1.2).mp pg;have:=(l3 _ b2.1 b2.2).mp qg;rw[←pe,←qe,←e]
 congr 2
 left
theorem HP (pm:∀ x∈ps,0<=x/\x<(⇑al:Int)):∀ x∈Mk.bD al ps,x∈al:=fun x hx=>by obtain⟨y,hy,rfl⟩:=aK.mp hx;exact Mk.getD_mem (pm y hy)
theorem qB {n:Nat} (pl:⇑ps=n) (pm:∀ x∈ps,0<=x/\x<(⇑al:Int)):Mk.bE al n (Mk.bD al ps)=true:=Mk.dH.mpr ⟨by rw[Mk.fA,pl],HP pm⟩
theorem AZ (a26:⇑al<=26) (p8:⇑ps<=8) (pm:∀ x∈ps,0<=x/\x<(⇑al:Int)):⇑(kL ⇑al ps)<=208:=by unfold kL;rw[aF,uR pm];have:=uC (ps:=ps);have:⇑ps*(⇑al-1)<=200:=aX (Nat.mul_le_mul p8 (show ⇑al-1<=25 by left)) Zd;left
structure Fe (al:Za) (ws:Zb) (r:Int) (es:List Ã) (c:Bool) (z:Za) (cs:Zb):Prop where
 nd:cs.Nodup
 few:⇑cs<=16
 mem:∀ n,n∈cs↔∃ ps∈kL ⇑al (Mk.Ò al z),Mk.good ⇑al ws r ps=true/\(c=true∨n∈es.map (·.num))/\n=Mk.numOf ⇑al ps.dropLast
theorem yY {α β:Type}{f:α->List β}{p:β->Bool}{m:Nat}:∀ {l:List α},(∀ x∈l,⇑((f x).filter p)<=m)->⇑((l.flatMap f).filter p)<=⇑l*m
 | [],_=>bc _
 | x::r,h=>by rw[oa,iq,aF,bf,Nat.add_mul,lR];have:=h x aR;have:=yY (f:=f) (p:=p) (m:=m) (l:=r) fun y hy=>h y (aV _ hy);left
theorem CJ {l:List α} (hn:l.Nodup) (h:∀ x∈l,∀ y∈l,x=y):⇑l<=1:=by
 cases l with
 | nil=>exact bc _
 | cons x r =>
  cases r with
  | nil=>exact av _
  | cons y r =>have e:=h x aR y (aV _ aR);rw[eL] at hn;exact absurd (by rw[e];exact aR) hn.1
theorem Jm (ok:bP al ws r)  (pl:⇑ps=⇑ws) (pm:∀ x∈ps,0<=x/\x<(⇑al:Int)):⇑((kL ⇑al ps).filter fun q=>Mk.good ⇑al ws r q)<=16:=by
 have w8:=ok.w8;have hnd:=wM (m:=⇑al) (ps:=ps);unfold kL at hnd;have h1:⇑((vW ⇑al ps).filter fun q=>Mk.good ⇑al ws r q)<=⇑ps*1:=by
  unfold vW;have:=yY (f:=ï ⇑al ps) (p:=fun q=>Mk.good ⇑al ws r q) (m:=1) (l:=List.range ⇑ps) fun i hi=>?_
  ·rwa [cJ] at this
  ·have hi':=cb.mp hi;refine CJ ?_ fun x hx y hy=>?_
   ·have h2:=(oq.mp hnd).1;unfold vW List.Nodup at h2;rw[List.pairwise_flatMap] at h2;exact jS _ (h2.1 i hi)
   ·obtain⟨hx1,hx2⟩:=cG.mp hx;obtain⟨hy1,hy2⟩:=cG.mp hy;obtain⟨o,o0,o1,o2,rfl⟩:=oO.mp hx1;obtain⟨u,u0,u1,u2,rfl⟩:=oO.mp hy1;rw[iM hi'] at hx2 ⊢;rw[iM hi'] at hy2 ⊢
    by_cases e:o=u
    ·rw[e]
    ·exfalso;have hw:=getD_some (ps:=ws) (i:=i) ⋯;have hs:(ps.set i o)[i]?=some o:=iW hi';have:=Mk.zc hw hs ((Mk.ic.mp ok.safe).1 _ (bL hw)) ⟨o0,o1⟩ ⟨u0,u1⟩ (b7 e) hx2;rw[List.set_set,hy2] at this;cases this
 have h2:=jU (fun q=>Mk.good ⇑al ws r q) (Ai ps);have h3:=uC (ps:=ps);unfold kL;rw[iq,aF];left
noncomputable def fJ (Ad:Ê):Sp:=fun vs H Q _=>∃ (e:Addr) (n:Int),vs=[.ref e,.int n]/\H e=some (Ø e Ad.NoReading none)/\0<=n/\n<1000000/\∀ dx H',H dx=none->dx≠e->H' e=some (Ø e Ad.NoReading (some dx))->H' dx=some (.xd [("at",.int n)])->a9 (Ô e H) (Ô e H')->Q .non H'
theorem mm {Ad:Ê}{n:Int} (n0:0<=n) (n1:n<1000000) (k:∀ dx H',a9 H1 H'->H' dx=some (.xd [("at",.int n)])->E' (.ref Ad.NoReading) (some dx) H') (e:Addr) (H2:Hp) (z:H1 e=none) (s:a9 H1 H2) (he:H2 e=some (Ø e Ad.NoReading none)) :
  fJ Ad [.ref e,.int n] H2 (fun v H3=>v=.non/\∃ dx fs,H3 e=some (Ø e Ad.NoReading (some dx))/\H3 dx=some (.xd fs)/\E' (.ref Ad.NoReading) (some dx) (Ô e H3)) (fun _ _ _=>False) :=
 ⟨e,n,rfl,he,n0,n1,fun dx H' _ q1 q2 q3 q4=>⟨rfl,dx,_,q2,q3,k dx _ (zU z s q4) (by rw[gr q1];exact q3)⟩⟩
theorem qQ (F:Ç K "__init__" "NoReading.__init__" dF f fd) (T:Bl mg) (AF:È K mg Ad) :bR P w K mg base (Á P w) 1 f fd ["self","at"] (fJ Ad):=by
 exists["self","at"];obtain⟨e,n,rfl,he,n0,n1,k⟩:=h;refine⟨_,ah (eG (tF (K:=K) rfl AF.bi AF.g_CableError (aj (À 0) (aj (Nz (À 1)) ae)))) (ao (CQ (K:=K) rfl (À 0) (À 1))),?_⟩;ac_nf;exact⟨n0,n1,fun y=>⟨_,he,AF.o_NoReading,_,he,AF.s_NoReading,fun dx H' q1 q2 q3 q4 q5=>k dx H' q1 q2 q3 q4 q5⟩⟩
noncomputable def eY (Ad:Ê):Sp:=fun vs H Q _=>∃ (e a:Addr) (xs:List V),vs=[.ref e,.ref a]/\H e=some (Ø e Ad.TooGarbled none)/\H a=some (.lst xs)/\∀ dx p H',H dx=none->H p=none->dx≠e->p≠e->p≠dx->H' e=some (Ø e Ad.TooGarbled (some dx))->H' dx=some (.xd [("places",.ref p)])->H' p=some (.lst xs)->a9 (Ô e H) (Ô e H')->Q .non H'
theorem BE {Ad:Ê} (ha:H1 a=some (.lst xs)) (k:∀ dx p H',a9 H1 H'->H' dx=some (.xd [("places",.ref p)])->H' p=some (.lst xs)->E' (.ref Ad.TooGarbled) (some dx) H') (e:Addr) (H2:Hp) (z:H1 e=none) (s:a9 H1 H2) (he:H2 e=some (Ø e Ad.TooGarbled none)) :
  eY Ad [.ref e,.ref a] H2 (fun v H3=>v=.non/\∃ dx fs,H3 e=some (Ø e Ad.TooGarbled (some dx))/\H3 dx=some (.xd fs)/\E' (.ref Ad.TooGarbled) (some dx) (Ô e H3)) (fun _ _ _=>False) :=
 ⟨e,a,xs,rfl,he,s _ _ ha,fun dx p H' _ _ q2 q3 _ q5 q6 q7 q8=>⟨rfl,dx,_,q5,q6,k dx p _ (zU z s q8) (by rw[gr q2];exact q6) (by rw[gr q3];exact q7)⟩⟩
theorem pM (F:Ç K "__init__" "TooGarbled.__init__" dj f fd) (T:Bl mg) (AF:È K mg Ad) :bR P w K mg base (Á P w) 1 f fd ["self","places"] (eY Ad):=by
 exists["self","places"];obtain⟨e,a,xs,rfl,he,ha,k⟩:=h;refine⟨_,ah (eG (tF (K:=K) rfl AF.bi AF.g_CableError (aj (À 0) (aj bU ae)))) (ao (CQ (K:=K) rfl (À 0) (eS (j6 (K:=K) rfl rfl) T.list km (aj (À 1) ae)))),?_⟩;ac_nf;refine⟨_,he,AF.o_TooGarbled,_,.inl (.l ha),fun p H1 hp s1 h1=>⟨_,s1 _ _ he,AF.s_TooGarbled,fun dx H' q1 q2 q3 q4 q5=>?_⟩⟩;have pe:p≠e:=(aQ he hp).symm;refine k dx p H' (s1.free q1) hp q2 pe (aQ h1 q1) q3 q4 ?_ fun c o hc=>q5 c o ?_
 ·have:=q5 p _ (by rw[gr pe];exact h1)
  rwa [gr pe] at this
 ·by_cases ec:c=e
  ·subst ec;rw[qM] at hc;cases hc
  ·rw[gr ec] at hc ⊢;exact s1 _ _ hc
noncomputable def tQ:Sp:=fun vs H Q _=>∃ x t,vs=[x]/\eZ H x=some t/\Q (.bl (decide (t=Tg.int))) H
theorem zC (F:Ç K "is_whole" "is_whole" qf f fd) (T:Bl mg) (AF:È K mg Ad) :bR P w K mg base (Á P w) 1 f fd ["thing"] tQ:=by
 exists["thing"];obtain⟨x,t,rfl,ht,k⟩:=h;refine⟨_,ao (aJ (pQ (ax (fz .int) T.isinstance bt_isinstance (aj (À 0) (aj (kM T.int Ly) ae))) (mh (Ms (ax (fz .bl) T.isinstance bt_isinstance (aj (À 0) (aj (kM T.bool IZ) ae))))))),?_⟩;ac_nf;refine⟨trivial,t,ht,?_⟩;cases t<;>(simp only[Tg.sub,i3,gh,iH,reduceCtorEq];first | exact k | exact⟨trivial,_,ht,k⟩)
noncomputable def kC:Sp:=fun vs H Q _=>∃ a b:Int,vs=[.int a,.int b]/\Q (.int ((Int.gcd a b:Nat):Int)) H
theorem dm:aI ["one","other","left","right","over"] ["one","other"] (aw iD):=by subst_eqs
theorem qR (F:Ç K "common_divisor" "common_divisor" iD f fd) (T:Bl mg) (AF:È K mg Ad) :bR P w K mg base (Á P w) 1 f fd ["one","other"] kC:=by
 specialize dm;obtain⟨a,b,rfl,k⟩:=h;refine⟨_,ah (aP (i:=2) dm.nd (ax rY T.abs Au (aj (À 0) ae))) (ah (aP (i:=3) dm.nd (ax rY T.abs Au (aj (À 1) ae))) (ah (qU cN (bF (iB (K:=K) rfl hu) (À 3) aA (bw _)) (ah (aP (i:=4) dm.nd (aO cg (À 2) (À 3))) (ah (aP (i:=2) dm.nd (À 3)) (ao (aP (i:=3) dm.nd (À 4)))))) (ao (aJ (À 2))))),?_⟩;ac_nf;refine yD (fun σ H'=>H'=H/\∃ (l r:Nat) (o:Option V),σ=[some (.int a),some (.int b),some (.int l),some (.int r),o]/\Nat.gcd l r=Int.gcd a b)
  (fun σ _=>match σ with | [_,_,_,some (.int r),_]=>r.toNat | _=>0) ⟨rfl,a.natAbs,b.natAbs,none,rfl,rfl⟩ ?_
 rintro σ H' ⟨rfl,l,r,o,rfl,hg⟩;ac_nf
 by_cases hr0:r=0
 ·subst hr0;rw[Nat.gcd_zero_right] at hg;subst hg;exact k
 ·have e:(!decide ((r:Int)=0))=true:=by simp [hr0]
  rw[ai e];refine⟨_,fun _ _ h=>h,⋯,⟨rfl,r,l%r,some (.int ((l%r:Nat):Int)),?_,?_⟩,?_⟩
  ·rw[Int.natCast_emod]
  ·rw[←hg,Nat.gcd_comm l r,Nat.gcd_rec r l,Nat.gcd_comm]
  ·show ((l:Int)%(r:Int)).toNat<((r:Int)).toNat
   have h1:(l:Int)%(r:Int)<r:=bZ _ ⋯;have h2:0<=(l:Int)%(r:Int):=bY _ ⋯;left
noncomputable def hV (z:Za):Bool:=decide (3<=⇑z)&&decide (⇑z<=26)&&decide z.Nodup&&z.all fun c=>decide (97<=c/\c<123)
noncomputable def iL:V->Bool
 | .str z=>hV z.cps.toList
 | _=>false
noncomputable def nH:Sp:=fun vs H Q _=>∃ (x:V) (t:Tg),vs=[x]/\eZ H x=some t/\(∀ z,x=.str z->⇑z<=4000)/\∀ H',a9 H H'->Q (.bl (iL x)) H'
theorem vo (F:Ç K "is_alphabet" "is_alphabet" kY f fd) (T:Bl mg) (AF:È K mg Ad) :bR P w K mg base (Á P w) 1 f fd ["thing"] nH:=by
 exists["thing"];obtain⟨x,t,rfl,ht,hz,k⟩:=h;refine⟨_,ah (cp ((ng (cU (cH (ax (fz .str) T.isinstance bt_isinstance (aj (À 0) (aj (kM T.str uJ) ae))))) (kO (cU (qV jd jd aA (ax (aN (K:=K) rfl) T.len bB (aj (À 0) ae)) aA)))).pt) (ao (aJ ky)) bu) (ao (aJ (pQ (cK (dI (K:=K) rfl hu) (ax (Aw (P:=P) (w:=w) rfl rfl) T.len bB (aj (eS (DF (P:=P) (w:=w) rfl rfl rfl) T.set Fx (aj (À 0) ae)) ae)) (ax (aN (K:=K) rfl) T.len bB (aj (À 0) ae)) (bw _)) (mh (ax (i9 (K:=K) rfl rfl) T.all pF (aj (fH ["sign"] rfl ⟨rfl,by nofun,rfl,by nofun⟩ (.nil) (by nofun) (ck (K:=K) rfl (À 0)) (fun _ _ _ _=>aL (i:=0) (show (["sign"]:Ze).Nodup from by nofun)) (fun _ _ _ _=>cM) (fun _ _ _ _=>cK (pP (K:=K) rfl hu1) (À 0) (fh AF.v_SMALL_LETTERS) (by ext))) ae)))))),?_⟩
 by_cases hs:∃ z,x=.str z
 ·obtain⟨z,rfl⟩:=hs;cases ht;have hl:=hz z rfl;have hc:=dQ z;have ek:iL (.str z)=hV z.cps.toList:=rfl;ac_nf;refine⟨trivial,Tg.str,rfl,?_⟩;ac_nf;refine⟨aM (ak ⋯),?_⟩
  by_cases h3:3<=⇑z/\⇑z<=26
  ·have d1:decide ((3:Int)<=(⇑z:Int))=true:=a8 ⋯;have d2:decide ((⇑z:Int)<=26)=true:=a8 ⋯;rw[d1];bv_omega;rw[d2];bv_omega;refine⟨⋯,fun p H1 hp s1 h1=>?_⟩;refine⟨_,h1,aM (ak ⋯),?_⟩
   by_cases hn:z.cps.toList.Nodup
   ·have e1:=(wY z).mpr hn;rw[e1,a8 rfl];bv_omega;refine uY (fun c:Nat=>V.str ⟨#[c]⟩) xI (yv z) (ak ⋯) (fun c=>.bl (decide (97<=c/\c<123))) ?_ ?_
    ·intro c hc H2 s2 R hR;ac_nf;rw[Bc,wo];have e2:decide (c∈List.range' 97 26)=decide (97<=c/\c<123):=oE.mpr (by rw[List.mem_range'_1]);rw[e2];exact hR H2 (a9.refl _)
    ·intro D H2 hD s2 h2;refine⟨D,z.cps.toList.map fun c=>decide (97<=c/\c<123),rfl,.of (by rw[h2,aW];rfl),?_⟩;have e:(z.cps.toList.map fun c=>decide (97<=c/\c<123)).all id=iL (.str z):=by
      rw[ek];unfold hV;rw[a8 (show 3<=⇑z.cps.toList by left),a8 (show ⇑z.cps.toList<=26 by left),a8 hn,fW];rfl
     rw[e];exact k H2 (s1.trans s2)
   ·have e1:decide ((⇑(cz (lr z) ⇑z):Int)=(⇑z:Int))=false:=ay fun e=>hn ((wY z).mp ⋯);rw[e1];bv_omega;have e:iL (.str z)=false:=by rw[ek];unfold hV;rw[ay hn];simp
    rw[e] at k;exact k H1 s1
  ·have e:iL (.str z)=false:=by
    rw[ek];unfold hV
    by_cases h4:3<=⇑z
    ·rw[ay (show ¬ ⇑z.cps.toList<=26 by left)];simp
    ·rw[ay (show ¬ 3<=⇑z.cps.toList by left)];simp
   rw[e] at k
   by_cases h4:3<=⇑z
   ·have d1:decide ((3:Int)<=(⇑z:Int))=true:=a8 ⋯;have d2:decide ((⇑z:Int)<=26)=false:=ay ⋯;rw[d1];bv_omega;rw[d2];bv_omega;exact k H (a9.refl _)
   ·have d1:decide ((3:Int)<=(⇑z:Int))=false:=ay ⋯;rw[d1];bv_omega;exact k H (a9.refl _)
 ·have hv:iL x=false:=by
   cases x with
   | str z=>exact absurd ⟨z,rfl⟩ hs
   | _=>rfl
  have hne:=rz ht fun z e=>hs ⟨z,e⟩;rw[hv] at k;ac_nf;refine⟨trivial,t,ht,?_⟩;cases t<;>first
   | exact absurd rfl hne
   | exact k H (a9.refl _)
noncomputable def dC (al:Str) (n:Int):V->Bool
 | .str z=>Mk.bE al.cps.toList n z.cps.toList
 | _=>false
noncomputable def m9:Sp:=fun vs H Q _=>∃ (al:Str) (n:Int) (x:V) (t:Tg),vs=[.str al,.int n,x]/\eZ H x=some t/\(∀ z,x=.str z->⇑z<=100000)/\∀ H',a9 H H'->Q (.bl (dC al n x)) H'
theorem Bs (F:Ç K "is_word" "is_word" sP f fd) (T:Bl mg) (AF:È K mg Ad) :bR P w K mg base (Á P w) 1 f fd ["alphabet","length","thing"] m9:=by
 exists["alphabet","length","thing"];obtain⟨al,n,x,t,rfl,ht,hz,k⟩:=h;refine⟨_,ah (cp ((ng (cU (cH (ax (fz .str) T.isinstance bt_isinstance (aj (À 2) (aj (kM T.str uJ) ae))))) (kO (bF (iB (K:=K) rfl hu) (ax (aN (K:=K) rfl) T.len bB (aj (À 2) ae)) (À 1) (bw _)))).pt) (ao (aJ ky)) bu) (ao (aJ (ax (i9 (K:=K) rfl rfl) T.all pF (aj (fH ["sign"] rfl ⟨rfl,by nofun,rfl,by nofun⟩ (.cons (j:=0) rfl (.inl (by ext)) (.nil)) (by nofun) (ck (K:=K) rfl (À 2)) (fun _ _ _ _=>aL (i:=0) (show (["sign","alphabet"]:Ze).Nodup from by nofun)) (fun _ _ _ _=>cM) (fun _ _ _ _=>cK (pP (K:=K) rfl hu1) (À 0) (Ä 1) (by ext))) ae)))),?_⟩
 by_cases hs:∃ z,x=.str z
 ·obtain⟨z,rfl⟩:=hs;cases ht;have hl:=hz z rfl;ac_nf;refine⟨trivial,Tg.str,rfl,?_⟩;ac_nf;refine⟨aM (ak hl),?_⟩;have hl2:⇑z.cps.toList<=100000:=by rw[←dQ];exact hl
  by_cases hn:(⇑z:Int)=n
  ·rw[ag (by simp [hn])];refine uY (fun c:Nat=>V.str ⟨#[c]⟩) xI (yv z) (ak hl2) (fun c=>.bl (decide (c∈al.cps.toList))) ?_ ?_
   ·intro c hc H2 s2 R hR;ac_nf;rw[Bc];exact hR H2 (a9.refl _)
   ·intro D H2 hD s2 h2;refine⟨D,z.cps.toList.map fun c=>decide (c∈al.cps.toList),rfl,.of (by rw[h2,aW];rfl),?_⟩;have e:(z.cps.toList.map fun c=>decide (c∈al.cps.toList)).all id=dC al n (.str z):=by
     show _=Mk.bE al.cps.toList n z.cps.toList;unfold Mk.bE;rw[a8 (by rw[←dQ];exact hn),dq,fW];rfl
    rw[e];exact k H2 s2
  ·rw[ai (by simp [hn])];have e:dC al n (.str z)=false:=by
    show Mk.bE al.cps.toList n z.cps.toList=false;unfold Mk.bE;rw[ay (by rw[←dQ];exact hn),gq]
   rw[e] at k;exact k H (a9.refl _)
 ·have hv:dC al n x=false:=by
   cases x with
   | str z=>exact absurd ⟨z,rfl⟩ hs
   | _=>rfl
  have hne:=rz ht fun z e=>hs ⟨z,e⟩;rw[hv] at k;ac_nf;refine⟨trivial,t,ht,?_⟩;cases t<;>first
   | exact absurd rfl hne
   | exact k H (a9.refl _)
noncomputable def jx:Sp:=fun vs H Q _=>∃ al w:Str,vs=[.str al,.str w]/\⇑w<=100000/\(∀ c∈w.cps.toList,c∈al.cps.toList)/\∀ p H',H p=none->a9 H H'->H' p=some (.lst ((Mk.Ò al.cps.toList w.cps.toList).map V.int))->Q (.ref p) H'
theorem yg (F:Ç K "places_of" "places_of" n9 f fd) (T:Bl mg) (AF:È K mg Ad) :bR P w K mg base (Á P w) 1 f fd ["alphabet","word"] jx:=by
 exists["alphabet","word"];obtain⟨al,z,rfl,hl,hm,k⟩:=h;refine⟨_,ao (aJ (fH ["letter"] rfl ⟨rfl,by nofun,rfl,by nofun⟩ (.cons (j:=0) rfl (.inl (by ext)) (.nil)) (by nofun) (ck (K:=K) rfl (À 1)) (fun _ _ _ _=>aL (i:=0) (show (["letter","alphabet"]:Ze).Nodup from by nofun)) (fun _ _ _ _=>cM) (fun _ _ _ _=>eR (K:=K) rfl jb PySem.F.slot_str_index PySem.F.type_str_index wZ (Ä 1) (aj (À 0) ae)))),?_⟩;ac_nf;have hl2:⇑z.cps.toList<=100000:=by rw[←dQ];exact hl
 refine uY (fun c:Nat=>V.str ⟨#[c]⟩) xI (yv z) (ak hl2) (fun c=>.int ((al.cps.toList.idxOf c:Nat):Int)) ?_ ?_
 ·intro c hc H2 s2 R hR;ac_nf;rw[yX (hm c hc)];exact⟨rfl,Int.natCast_nonneg _,hR H2 (a9.refl _)⟩
 ·intro D H2 hD s2 h2;refine k D H2 hD s2 ?_;rw[h2];unfold Mk.Ò;rw[aW];rfl
noncomputable def qz:Sp:=fun vs H Q _=>∃ (al:Str) (q:Addr) (ps:Zb),vs=[.str al,.ref q]/\⇑al<=1000/\H q=some (.lst (ps.map V.int))/\⇑ps<=1000/\(∀ p∈ps,0<=p/\p<⇑al.cps.toList)/\∀ H',a9 H H'->Q (.str (tx (Mk.bD al.cps.toList ps))) H'
theorem Bu (F:Ç K "spelled" "spelled" sR f fd) (T:Bl mg) (AF:È K mg Ad) :bR P w K mg base (Á P w) 1 f fd ["alphabet","places"] qz:=by
 exists["alphabet","places"];obtain⟨al,q,ps,rfl,hal,hq,hl,hm,k⟩:=h;refine⟨_,ao (aJ (eR (K:=K) rfl jb PySem.F.slot_str_join PySem.F.type_str_join (vc (K:=K) rfl) bU (aj (fH ["place"] rfl ⟨rfl,by nofun,rfl,by nofun⟩ (.cons (j:=0) rfl (.inl (by ext)) (.nil)) (by nofun) (ck (K:=K) rfl (À 1)) (fun _ _ _ _=>aL (i:=0) (show (["place","alphabet"]:Ze).Nodup from by nofun)) (fun _ _ _ _=>cM) (fun _ _ _ _=>cL (eQ (K:=K) rfl) (Ä 1) (À 0) (fun _ _=>rfl))) ae))),?_⟩;ac_nf;refine⟨by rfl,.inl ⟨⟨_,.of hq⟩,uY V.int hU (cT (.of hq)) (ak ⋯) (fun x=>.str (tx [al.cps.toList.getD x.toNat 0])) ?_ ?_⟩⟩
 ·intro x hx H5 t5 R hR;ac_nf;refine⟨aM (ak ⋯),_,eP (hm x hx).1 (Mk.getD_at (hm x hx)),?_⟩;exact hR H5 (a9.refl _)
 ·intro D H5 hD t5 h5;ac_nf;refine⟨(Mk.bD al.cps.toList ps).map fun c=>tx [c],Gj (by rw[h5];unfold Mk.bD;rw[aW];rfl),Gi (by rw[Mk.fA];left),?_⟩;rw[CC];exact k H5 t5
inductive kB (vs:List V) (H:Hp) (Q:VK) (E:XK):Prop
 | mk (m:Int) (p:Addr) (ws:Zb) (r:Int) (q:Addr) (ps:Zb) (q0:vs=[.int m,.ref p,.int r,.ref q]) (q1:0<m) (q2:H p=some (.lst (ws.map V.int))) (q3:H q=some (.lst (ps.map V.int))) (q4:⇑ws<=100000) (q5:Mk.ô ws) (q6:Mk.ô ps) (q7:∀ H',a9 H H'->Q (.bl (Mk.good m ws r ps)) H'):kB vs H Q E
theorem tI:aI ["m","weights","rest","places","total"] ["m","weights","rest","places"] (aw pV):=by subst_eqs
theorem zy (F:Ç K "are_good" "are_good" pV f fd) (T:Bl mg) (AF:È K mg Ad) :bR P w K mg base (Á P w) 1 f fd ["m","weights","rest","places"] kB:=by
 specialize tI;obtain⟨m,p,ws,r,q,ps,rfl,hm,hp,hq,hl,hb,hb2,k⟩:=h;refine⟨_,ah (aP (i:=4) tI.nd (ax (rZ (K:=K) rfl rfl) T.sum Av (aj (fH ["weight","place"] rfl ⟨rfl,by nofun,rfl,by nofun⟩ (.nil) (by nofun) (yk (K:=K) rfl T.zip (aj (À 1) (aj (À 3) ae))) (fun _ _ _ _=>k6 (K:=K) (n:=2) rfl rfl (cE (aL (i:=0) (show (["weight","place"]:Ze).Nodup from by nofun)) (cE (aL (i:=1) (show (["weight","place"]:Ze).Nodup from by nofun)) jt))) (fun _ _ _ _=>cM) (fun _ _ _ _=>aO oQ (À 0) (À 1))) ae))) (ao (aJ (cK (dI (K:=K) rfl hu) (aO cg (aO jr (À 4) (À 2)) (À 0)) aA (bw _)))),?_⟩;ac_nf;refine⟨⟨_,.of hp⟩,⟨_,.of hq⟩,Nn V.int V.int hU hU (.of hp) (.of hq) (ak hl) (fun a b=>.int (a*b)) ?_ ?_⟩
 ·intro a b hab H2 s2 R hR;ac_nf;exact⟨A5 (hb a (oy hab).1) (hb2 b (oy hab).2),hR H2 (a9.refl _)⟩
 ·intro D H2 hD s2 h2;ac_nf;refine⟨D,(ws.zip ps).map fun x=>x.1*x.2,rfl,.of (by rw[h2,aW];rfl),?_⟩;rw[Mk.Cv];ac_nf;exact⟨hm,k H2 s2⟩
noncomputable def gm (Ad:Ê):Sp:=fun vs H Q _=>∃ (a:Addr) (al:Za) (ws:Zb) (r:Int),vs=[.ref a]/\cx Ad H a al ws r/\Q (.str (tx al)) H
theorem sE (F:Ç K "alphabet" "Code.alphabet" jf f fd) (T:Bl mg) (AF:È K mg Ad) :bR P w K mg base (Á P w) 1 f fd ["self"] (gm Ad):=by
 exists["self"];obtain⟨a,al,ws,r,rfl,⟨dx,q,h1,h2⟩,k⟩:=h;refine⟨_,ao (aJ (c6 (K:=K) rfl (À 0))),?_⟩;ac_nf;exact⟨_,dx,_,_,h1,AF.c_Code,AF.n_Code_letters,ei al q r,k⟩
noncomputable def jh (Ad:Ê):Sp:=fun vs H Q _=>∃ (a:Addr) (al:Za) (ws:Zb) (r:Int),vs=[.ref a]/\cx Ad H a al ws r/\nw H (.lst (ws.map V.int)) Q
theorem uc (F:Ç K "weights" "Code.weights" jE f fd) (T:Bl mg) (AF:È K mg Ad) :bR P w K mg base (Á P w) 1 f fd ["self"] (jh Ad):=by
 exists["self"];obtain⟨a,al,ws,r,rfl,⟨dx,q,h1,h2⟩,k⟩:=h;refine⟨_,ao (aJ (eS (j6 (K:=K) rfl rfl) T.list km (aj (c6 (K:=K) rfl (À 0)) ae))),?_⟩;ac_nf;exact⟨_,dx,_,_,h1,AF.c_Code,AF.n_Code_factors,gx al q r,_,.inl (.l h2),k⟩
noncomputable def dE (Ad:Ê):Sp:=fun vs H Q _=>∃ (a:Addr) (al:Za) (ws:Zb) (r:Int),vs=[.ref a]/\cx Ad H a al ws r/\⇑al<=26/\1<=⇑ws/\⇑ws<=8/\∀ H',a9 H H'->Q (.int ((⇑al:Int)^(⇑ws-1))) H'
theorem ju:aI ["self","product","weight"] ["self"] (aw ni):=by subst_eqs
theorem xY (F:Ç K "many" "Code.many" ni f fd) (T:Bl mg) (AF:È K mg Ad) :bR P w K mg base (Á P w) 1 f fd ["self"] (dE Ad):=by
 specialize ju;obtain⟨a,al,ws,r,rfl,⟨dx,q,h1,h2⟩,h26,hw1,hw8,k⟩:=h;refine⟨_,ah (aP (i:=1) ju.nd aA) (ah (gH cN rfl (ck (K:=K) rfl (cS (i7 (K:=K) rfl) (c6 (K:=K) rfl (À 0)) (dh aA) eF)) (aL (i:=2) ju.nd) (ao (aP (i:=1) ju.nd (aO oQ (À 1) (ax (aN (K:=K) rfl) T.len bB (aj (c6 (K:=K) rfl (À 0)) ae)))))) (ao (aJ (À 1)))),?_⟩;symm;rw[dR];symm;rw[dR];symm;refine⟨_,dx,_,_,h1,AF.c_Code,AF.n_Code_factors,gx al q r,?_⟩;symm;refine⟨_,.of h2,fun p H1 hp s1 h3=>.inl ⟨⟨_,.of h3⟩,?_⟩⟩;rw[show (1:Int)=((1:Nat):Int) from rfl,gj,←iw] at h3;refine u6 (xs:=(ws.drop 1).map V.int) (fun i σ H'=>H'=H1/\∃ o,σ=[some (.ref a),some (.int ((⇑al:Int)^i)),o]) ?_ ?_ ?_ ?_
 ·exact⟨rfl,none,by simp⟩
 ·rintro i σ H' _ ⟨rfl,_⟩;exact .of h3
 ·rintro i x σ H' hx ⟨rfl,o,rfl⟩;have hi:i<⇑ws-1:=by
   have:=(br.mp hx).1;rw[af,cq] at this;exact this
  ac_nf;refine⟨_,dx,_,_,s1 _ _ h1,AF.c_Code,AF.n_Code_letters,ei al q r,?_⟩;ac_nf;rw[bS];refine⟨aM (ak ⋯),⟨?_,bH (show ((⇑al:Int)).natAbs<1000 by left) Zd⟩,trivial,some x,?_⟩
  ·have e:(((⇑al:Int))^i).natAbs=⇑al^i:=by rw[Int.natAbs_pow];rfl
   rw[e];refine ft (Nat.pow_le_pow_left h26 i) (ft (lS Zd (show i<=8 by left)) Zd)
  ·rw[←Int.pow_succ]
 ·rintro σ H' ⟨rfl,o,rfl⟩;rw[af,cq];ac_nf;exact k _ s1
noncomputable def nE:Sp:=fun vs H Q _=>∃ (m:Nat) (q:Addr) (ps:Zb),vs=[.int m,.ref q]/\H q=some (.lst (ps.map V.int))/\m<=26/\⇑ps<=8/\∀ D vs' H',H D=none->a9 H H'->H' D=some (.lst vs')->iI H' vs' (vW m ps)->Q (.ref D) H'
theorem fN:aI ["m","places","made","at","place","other"] ["m","places"] (aw kX):=by subst_eqs
theorem vn (F:Ç K "by_exchange" "by_exchange" kX f fd) (T:Bl mg) (AF:È K mg Ad) :bR P w K mg base (Á P w) 1 f fd ["m","places"] nE:=by
 specialize fN;obtain⟨m,q,ps,rfl,hq,m26,p8,k⟩:=h;refine⟨_,ah (aP (i:=2) fN.nd (cR ae)) (ah (gH cN rfl (qS (K:=K) rfl T.enumerate (aj (À 1) ae)) (k6 (K:=K) (n:=2) rfl rfl (cE (aL (i:=3) fN.nd) (cE (aL (i:=4) fN.nd) jt))) (ao (gH cN rfl (eT T.range (aj (À 0) ae)) (aL (i:=5) fN.nd) (ao (cp (bF (iB (K:=K) rfl hu) (À 5) (À 4) (bw _)) (ao (eG (eR (K:=K) rfl gC ka kb gR (À 2) (aj (aO aZ (aO aZ (cS (i7 (K:=K) rfl) (À 1) eF (dh (À 3))) (cR (aj (À 5) ae))) (cS (i7 (K:=K) rfl) (À 1) (dh (aO aZ (À 3) aA)) eF)) ae)))) bu))))) (ao (aJ (À 2)))),?_⟩;grind;refine⟨bc _,fun D H1 hD s1 h1=>?_⟩;cbv;have hD0:H D=none:=hD;grind;refine⟨q,rfl,⟨_,.of (s1 _ _ hq)⟩,?_⟩;refine wN (xs:=ps.map V.int) (fun i σ H'=>(∃ o3 o4 o5,σ=[some (V.int m),some (V.ref q),some (V.ref D),o3,o4,o5])/\a9 H H'/\∃ vs',H' D=some (.lst vs')/\⇑vs'<=26*i/\(∀ v∈vs',v≠V.ref D)/\iI H' vs' ((List.range i).flatMap (ï m ps))) ?_ ?_ ?_ ?_
 ·exact⟨⟨_,_,_,rfl⟩,s1,[],h1,bc _,(fun v hv=>by cases hv),.nil⟩
 ·rintro i σ H' _ ⟨_,s,_⟩;exact .of (s _ _ hq)
 ·rintro i x σ A1 hx ⟨⟨o3,o4,o5,rfl⟩,sA,vs2,h2,l2,hd2,hv2⟩ N hNx p A2 zp t0 g0;clear hN;obtain⟨w,hwi,rfl⟩:=zq hx;have hi1:i<⇑ps:=(br.mp hwi).1;refine⟨p,_,rfl,.of g0,rfl,?_⟩;have h2':=t0 _ _ h2;have hv2':=hv2.keep fun b ns e=>t0 _ _ e;have sA':=sA.trans t0;clear h2 hv2 g0 zp t0 sA;rw[jW,List.flatMap_append,List.flatMap_singleton] at hNx;have ew:ps.getD i 0=w:=by rw[aT,hwi];rfl
  generalize (List.range i).flatMap (ï m ps)=base at hv2' hNx;symm;refine⟨⋯,⋯,mT (fun j σ H'=>(∃ o5,σ=[some (V.int m),some (V.ref q),some (V.ref D),some (V.int (i:Int)),some (V.int w),o5])/\a9 H H'/\∃ vs',H' D=some (.lst vs')/\⇑vs'<=26*i+j/\(∀ v∈vs',v≠V.ref D)/\iI H' vs' (base++((Mk.Ù j).filter fun o=>!decide (o=ps.getD i 0)).map fun o=>putN ps i o)) ?_ ?_ ?_⟩
  ·exact⟨⟨_,rfl⟩,sA',vs2,h2',l2,hd2,by show iI _ _ (base++[]);rw[dM];exact hv2'⟩
  ·rintro j σ H3 hj ⟨⟨o5,rfl⟩,s3,vs3,h3,l3,hd3,hv3⟩ N2 hN2;clear hNx;have hj':j<m:=⋯
   rw[GL,iq,bM,←bJ] at hN2;have hq3:=s3 _ _ hq;have tl:⇑(ps.take i)<=8:=aX (by rw[bK];exact oz _ _) p8;have dl:⇑(ps.drop (i+1))<=8:=by rw[cq];left
   symm;rw[show 0+(j:Int)=(j:Int) from jR _]
   by_cases he:(j:Int)=w
   ·rw[a8 he];bv_omega;refine hN2 _ _ ⟨⟨_,rfl⟩,s3,vs3,h3,⋯,hd3,?_⟩;rw[rG (by rw[ew,a8 he];decide),List.filter_nil,ix,dM];exact hv3
   ·rw[ay he];bv_omega;refine⟨.inl ⟨rfl,_,.of h3⟩,_,.of hq3,fun p1 G1 w1 t1 g1=>⟨aM (ak Zd),fun p2 G2 w2 t2 g2=>⟨_,_,t2 _ _ g1,g2,?_,fun p3 G3 w3 t3 g3=>⟨_,.of ((t1.trans (t2.trans t3)) _ _ hq3),fun p4 G4 w4 t4 g4=>⟨_,_,t4 _ _ g3,g4,?_,fun p5 G5 w5 t5 g5=>?_⟩⟩⟩⟩⟩
    ·rw[kK,←iy,af];exact aM (ak (by simp;left))
    ·rw[kK,show (i:Int)+1=((i+1:Nat):Int) from rfl,gj,←iy,←iw,aF,af,af];exact aM (ak (by simp;left))
    have t35:=t1.trans (t2.trans (t3.trans (t4.trans t5)));have h35:=t35 _ _ h3;rw[kK,show (i:Int)+1=((i+1:Nat):Int) from rfl,gj,←iy,←iw,show [V.int (j:Int)]=[(j:Int)].map V.int from rfl,←bM,←bM] at g5;have n5:p5≠D:=aQ (t4 _ _ (t3 _ _ (t2 _ _ (t1 _ _ h3)))) w5 |>.symm
    rw[rH (by rw[ew,ay he];rfl),List.filter_nil,List.map_singleton] at hN2;refine⟨D,_,_,rfl,rfl,h35,ak ⋯,hN2 _ _ ⟨⟨_,rfl⟩,(s3.trans t35).cf hD0,_,aC,by rw[aF,dz];left,fun v hv=>?_,fL (iI.ph hv3 hd3 fun b o hb e=>by rw[aG hb];exact t35 _ _ e) (.cons ⟨p5,rfl,by rw[aG n5];exact g5⟩ .nil)⟩⟩;rcases bG.mp hv with hv | hv
    ·exact hd3 v hv
    ·rw[b9.mp hv];exact fun z=>n5 (by cases z;rfl)
  ·rintro σ H3 ⟨⟨o5,rfl⟩,s3,vs3,h3,l3,hd3,hv3⟩;exact hNx _ _ ⟨⟨_,_,_,rfl⟩,s3,vs3,h3,⋯,hd3,hv3⟩
 ·rintro σ H2 ⟨⟨o3,o4,o5,rfl⟩,s2,vs2,h2,l2,hd2,hv2⟩;show nn _ _ _;cbv;symm;rw[af] at hv2;exact k D vs2 H2 hD0 s2 h2 hv2
noncomputable def vL:Sp:=fun vs H Q _=>∃ (q:Addr) (ps:Zb),vs=[.ref q]/\H q=some (.lst (ps.map V.int))/\⇑ps<=8/\1<=⇑ps/\∀ D vs' H',H D=none->a9 H H'->H' D=some (.lst vs')->iI H' vs' (Ai ps)->Q (.ref D) H'
theorem qt:aI ["places","made","at"] ["places"] (aw sM):=by subst_eqs
theorem Bp (F:Ç K "by_swap" "by_swap" sM f fd) (T:Bl mg) (AF:È K mg Ad) :bR P w K mg base (Á P w) 1 f fd ["places"] vL:=by
 specialize qt;obtain⟨q,ps,rfl,hq,p8,p1,k⟩:=h;refine⟨_,ah (aP (i:=1) qt.nd (cR ae)) (ah (gH cN rfl (eT T.range (aj (aO jr (ax (aN (K:=K) rfl) T.len bB (aj (À 0) ae)) aA) ae)) (aL (i:=2) qt.nd) (ao (cp (bF (iB (K:=K) rfl hu) (cL (eQ (K:=K) rfl) (À 0) (À 2) (fun _ _=>rfl)) (cL (eQ (K:=K) rfl) (À 0) (aO aZ (À 2) aA) (fun _ _=>rfl)) (bw _)) (ao (eG (eR (K:=K) rfl gC ka kb gR (À 1) (aj (aO aZ (aO aZ (cS (i7 (K:=K) rfl) (À 0) eF (dh (À 2))) (cR (aj (cL (eQ (K:=K) rfl) (À 0) (aO aZ (À 2) aA) (fun _ _=>rfl)) (aj (cL (eQ (K:=K) rfl) (À 0) (À 2) (fun _ _=>rfl)) ae)))) (cS (i7 (K:=K) rfl) (À 0) (dh (aO aZ (À 2) aA)) eF)) ae)))) bu))) (ao (aJ (À 1)))),?_⟩;grind;refine⟨bc _,fun D H1 hD s1 h1=>?_⟩;cbv;have hD0:H D=none:=hD;grind;refine⟨_,.inl (.of (s1 _ _ hq)),?_⟩;rw[af];refine⟨⋯,⋯,mT (fun i σ H'=>(∃ o2,σ=[some (V.ref q),some (V.ref D),o2])/\a9 H H'/\∃ vs',H' D=some (.lst vs')/\⇑vs'<=i/\(∀ v∈vs',v≠V.ref D)/\iI H' vs' (((List.range i).filter fun i=>!decide (ps.getD i 0=ps.getD (i+1) 0)).map (Ko ps))) ?_ ?_ ?_⟩
 ·exact⟨⟨_,rfl⟩,s1,[],h1,bc _,(fun v hv=>by cases hv),.nil⟩
 ·rintro i σ H3 hi ⟨⟨o2,rfl⟩,s3,vs3,h3,l3,hd3,hv3⟩ N hNx;clear hN;have hi':i+1<⇑ps:=⋯
  have hq3:=s3 _ _ hq;rw[jW,iq,bM] at hNx;have x0:(ps.map V.int)[i]?=some (V.int (ps.getD i 0)):=by rw[aS,getD_some ⋯];rfl
  have x1:(ps.map V.int)[i+1]?=some (V.int (ps.getD (i+1) 0)):=by rw[aS,getD_some ⋯];rfl
  symm;rw[show 0+(i:Int)=(i:Int) from jR _];have a0:Þ (ps.map V.int) (i:Int)=some (V.int (ps.getD i 0)):=eP ⋯ (by rw[c8];exact x0);have a1:Þ (ps.map V.int) ((i:Int)+1)=some (V.int (ps.getD (i+1) 0)):=eP ⋯ (by rw[show ((i:Int)+1).toNat=i+1 by left];exact x1);refine⟨_,_,.inl (.of hq3),a0,_,_,.inl (.of hq3),a1,?_⟩;symm
  by_cases he:ps.getD i 0=ps.getD (i+1) 0
  ·rw[a8 he];bv_omega;refine hNx _ _ ⟨⟨_,rfl⟩,s3,vs3,h3,⋯,hd3,?_⟩;rw[rG (by rw[a8 he];decide),List.filter_nil,ix,dM];exact hv3
  ·rw[ay he];bv_omega;have tl:⇑(ps.take i)<=8:=aX (by rw[bK];exact oz _ _) p8;have dl:⇑(ps.drop (i+2))<=8:=by rw[cq];left
   refine⟨.inl ⟨rfl,_,.of h3⟩,_,.of hq3,fun p1 G1 w1 t1 g1=>⟨_,_,.inl (.of (t1 _ _ hq3)),a1,_,_,.inl (.of (t1 _ _ hq3)),a0,aM (ak Zd),fun p2 G2 w2 t2 g2=>⟨_,_,t2 _ _ g1,g2,?_,fun p3 G3 w3 t3 g3=>⟨_,.of ((t1.trans (t2.trans t3)) _ _ hq3),fun p4 G4 w4 t4 g4=>⟨_,_,t4 _ _ g3,g4,?_,fun p5 G5 w5 t5 g5=>?_⟩⟩⟩⟩⟩
   ·rw[kK,←iy,af];exact aM (ak (by simp;left))
   ·rw[kK,show (i:Int)+2=((i+2:Nat):Int) from rfl,gj,←iy,←iw,aF,af,af];exact aM (ak (by simp;left))
   have t35:=t1.trans (t2.trans (t3.trans (t4.trans t5)));have h35:=t35 _ _ h3;rw[kK,show (i:Int)+2=((i+2:Nat):Int) from rfl,gj,←iy,←iw,show [V.int (ps.getD (i+1) 0),V.int (ps.getD i 0)]=[ps.getD (i+1) 0,ps.getD i 0].map V.int from rfl,←bM,←bM] at g5;have n5:p5≠D:=aQ (t4 _ _ (t3 _ _ (t2 _ _ (t1 _ _ h3)))) w5 |>.symm
   rw[rH (by rw[ay he];rfl),List.filter_nil,List.map_singleton] at hNx;refine⟨D,_,_,rfl,rfl,h35,ak ⋯,hNx _ _ ⟨⟨_,rfl⟩,(s3.trans t35).cf hD0,_,aC,by rw[aF,dz];left,fun v hv=>?_,fL (iI.ph hv3 hd3 fun b o hb e=>by rw[aG hb];exact t35 _ _ e) (.cons ⟨p5,rfl,by rw[aG n5];exact g5⟩ .nil)⟩⟩;rcases bG.mp hv with hv | hv
   ·exact hd3 v hv
   ·rw[b9.mp hv];exact fun z=>n5 (by cases z;rfl)
 ·rintro σ H3 ⟨⟨o2,rfl⟩,s3,vs3,h3,l3,hd3,hv3⟩;show nn _ _ _;cbv;symm;rw[show (((⇑ps:Nat):Int)-1).toNat=⇑ps-1 by left] at hv3;exact k D vs3 H3 hD0 s3 h3 hv3
inductive mC (vs:List V) (H:Hp) (Q:VK) (E:XK):Prop
 | mk (a b:Addr) (ws:List V) (xss:List (List V)) (at_:Nat) (cs:Zb) (q0:vs=[.ref a,.int at_,.ref b]) (q1:H a=some (.lst ws)) (q2:lx H ws xss) (q3:H b=some (.lst (cs.map V.int))) (q4:⇑cs<=26) (q5:⇑xss<=1000) (q6:(∀ ns∈xss,⇑ns<=1400)) (q7:at_<=1400) (q8:∀ D vs' H',H D=none->a9 H H'->H' D=some (.lst vs')->lx H' vs' (xss.flatMap fun ns=>cs.map fun c=>oY ns at_ (V.int c))->Q (.ref D) H'):mC vs H Q E
theorem jv:aI ["lists","at","choices","made","numbers","choice"] ["lists","at","choices"] (aw nA):=by subst_eqs
theorem yh (F:Ç K "with_each" "with_each" nA f fd) (T:Bl mg) (AF:È K mg Ad) :bR P w K mg base (Á P w) 1 f fd ["lists","at","choices"] mC:=by
 specialize jv;obtain⟨a,b,ws,xss,at_,cs,rfl,ha,hn,hb,c26,n1,n8,t8,k⟩:=h;refine⟨_,ah (aP (i:=3) jv.nd (cR ae)) (ah (gH cN rfl (ck (K:=K) rfl (À 0)) (aL (i:=4) jv.nd) (ao (gH cN rfl (ck (K:=K) rfl (À 2)) (aL (i:=5) jv.nd) (ao (eG (eR (K:=K) rfl gC ka kb gR (À 3) (aj (aO aZ (aO aZ (cS (i7 (K:=K) rfl) (À 4) eF (dh (À 1))) (cR (aj (À 5) ae))) (cS (i7 (K:=K) rfl) (À 4) (dh (aO aZ (À 1) aA)) eF)) ae))))))) (ao (aJ (À 3)))),?_⟩;have lw:⇑ws=⇑xss:=Paired.length hn;grind;refine⟨bc _,fun D H1 hD s1 h1=>?_⟩;cbv;have hD0:H D=none:=hD;grind;refine .inl ⟨⟨_,.of (s1 _ _ ha)⟩,qL (xs:=ws) (fun i σ H'=>(∃ o4 o5,σ=[some (V.ref a),some (V.int at_),some (V.ref b),some (V.ref D),o4,o5])/\a9 H H'/\∃ vs',H' D=some (.lst vs')/\(∀ v∈vs',v≠V.ref D)/\lx H' vs' ((xss.take i).flatMap fun ns=>cs.map fun c=>oY ns at_ (V.int c))) ?_ ?_ ?_ ?_⟩
 ·exact⟨⟨_,_,rfl⟩,s1,[],h1,(fun v hv=>by cases hv),.nil⟩
 ·rintro i σ H' hi ⟨_,h,_⟩;exact .of (h _ _ ha)
 ·rintro i v σ H2 hi ⟨⟨o4,o5,rfl⟩,s2,vs2,h2,hd2,hv2⟩ N hNx;clear hN;obtain⟨ns,hns,q,rfl,hq⟩:=iC hn hi;have hq2:=s2 _ _ hq;have nsl:=n8 ns (bL hns);have hi1:i<⇑ws:=(br.mp hi).1;have htk:xss.take (i+1)=xss.take i++[ns]:=by rw[gA,hns];rfl
  rw[htk,List.flatMap_append,List.flatMap_singleton] at hNx;have lv2:⇑vs2<=26000:=by rw[Paired.length hv2];refine aX (yZ (m:=26) fun x _=>by rw[af];exact c26) ?_;have:⇑(xss.take i)<=1000:=aX (by rw[bK];exact oz _ _) n1;left
  generalize ((xss.take i).flatMap fun ns=>cs.map fun c=>oY ns at_ (V.int c))=base at hv2 hNx;symm;refine .inl ⟨⟨_,.of (s2 _ _ hb)⟩,qL (xs:=cs.map V.int) (fun j σ H'=>(∃ o5,σ=[some (V.ref a),some (V.int at_),some (V.ref b),some (V.ref D),some (V.ref q),o5])/\a9 H H'/\∃ vs',H' D=some (.lst vs')/\⇑vs'=⇑vs2+j/\(∀ v∈vs',v≠V.ref D)/\lx H' vs' (base++(cs.take j).map fun c=>oY ns at_ (V.int c))) ?_ ?_ ?_ ?_⟩
  ·exact⟨⟨_,rfl⟩,s2,vs2,h2,rfl,hd2,by simpa using hv2⟩
  ·rintro j σ H' hj ⟨_,h,_⟩;exact .of (h _ _ hb)
  ·rintro j v σ H3 hj ⟨⟨o5,rfl⟩,s3,vs3,h3,l3,hd3,hv3⟩ N2 hN2;clear hNx;rw[aS] at hj;obtain⟨c,hc,rfl⟩:=eh.mp hj;have hjl:j<⇑cs:=(br.mp hc).1;have htk2:cs.take (j+1)=cs.take j++[c]:=by rw[gA,hc];rfl
   rw[htk2,bM,←bJ] at hN2;have hq3:=s3 _ _ hq;have hvl:⇑vs3<=30000:=⋯
   have tl:⇑(ns.take at_)<=1400:=aX (by rw[bK];exact oz _ _) nsl;have dl:⇑(ns.drop (at_+1))<=1400:=by rw[cq];left
   symm;refine⟨.inl ⟨rfl,_,.of h3⟩,_,.of hq3,fun p1 G1 w1 t1 g1=>⟨aM (ak Zd),fun p2 G2 w2 t2 g2=>⟨_,_,t2 _ _ g1,g2,?_,fun p3 G3 w3 t3 g3=>⟨_,.of ((t1.trans (t2.trans t3)) _ _ hq3),fun p4 G4 w4 t4 g4=>⟨_,_,t4 _ _ g3,g4,?_,fun p5 G5 w5 t5 g5=>?_⟩⟩⟩⟩⟩
   ·rw[kK];exact aM (ak (by simp;left))
   ·rw[kK,show (at_:Int)+1=((at_+1:Nat):Int) from rfl,gj,aF];exact aM (ak (by simp;left))
   have t35:=t1.trans (t2.trans (t3.trans (t4.trans t5)));have h35:=t35 _ _ h3;rw[kK,show (at_:Int)+1=((at_+1:Nat):Int) from rfl,gj] at g5;have n5:p5≠D:=aQ (t4 _ _ (t3 _ _ (t2 _ _ (t1 _ _ h3)))) w5 |>.symm
   refine⟨D,_,_,rfl,rfl,h35,ak ⋯,hN2 _ _ ⟨⟨_,rfl⟩,(s3.trans t35).cf hD0,_,aC,by rw[aF,dz];left,fun v hv=>?_,fL (lx.ph hv3 hd3 fun b o hb e=>by rw[aG hb];exact t35 _ _ e) (.cons ⟨p5,rfl,by rw[aG n5];exact g5⟩ .nil)⟩⟩;rcases bG.mp hv with hv | hv
   ·exact hd3 v hv
   ·rw[b9.mp hv];exact fun z=>n5 (by cases z;rfl)
  ·rintro σ H3 ⟨⟨o5,rfl⟩,s3,vs3,h3,l3,hd3,hv3⟩;rw[af,jX] at hv3;exact hNx _ _ ⟨⟨_,_,rfl⟩,s3,vs3,h3,hd3,hv3⟩
 ·rintro σ H2 ⟨⟨o4,o5,rfl⟩,s2,vs2,h2,hd2,hv2⟩;show nn _ _ _;cbv;symm;rw[ef ⋯] at hv2;exact k D vs2 H2 hD0 s2 h2 hv2
noncomputable def jO:Sp:=fun vs H Q _=>∃ (x:V) (t:Tg) (n:Nat),vs=[x,.int n]/\eZ H x=some t/\(∀ z,x=.str z->⇑z<=100000)/\n<=1000/\∀ H',a9 H H'->Q (.bl (iF n x)) H'
theorem vj (F:Ç K "are_letters" "are_letters" kT f fd) (T:Bl mg) (AF:È K mg Ad) :bR P w K mg base (Á P w) 1 f fd ["thing","most"] jO:=by
 exists["thing","most"];obtain⟨x,t,n,rfl,ht,hz,hn,k⟩:=h;refine⟨_,ah (cp ((ng (cU (cH (ax (fz .str) T.isinstance bt_isinstance (aj (À 0) (aj (kM T.str uJ) ae))))) (kO (cU (qV jd jd aA (ax (aN (K:=K) rfl) T.len bB (aj (À 0) ae)) (À 1))))).pt) (ao (aJ ky)) bu) (ao (aJ (ax (i9 (K:=K) rfl rfl) T.all pF (aj (fH ["sign"] rfl ⟨rfl,by nofun,rfl,by nofun⟩ (.nil) (by nofun) (ck (K:=K) rfl (À 0)) (fun _ _ _ _=>aL (i:=0) (show (["sign"]:Ze).Nodup from by nofun)) (fun _ _ _ _=>cM) (fun _ _ _ _=>cK (pP (K:=K) rfl hu1) (À 0) (fh AF.v_SMALL_LETTERS) (by ext))) ae)))),?_⟩
 by_cases hs:∃ z,x=.str z
 ·obtain⟨z,rfl⟩:=hs;cases ht;have hl:=hz z rfl;have hc:=dQ z;have ek:iF n (.str z)=fE n z.cps.toList:=rfl;ac_nf;refine⟨trivial,Tg.str,rfl,?_⟩;ac_nf;refine⟨aM (ak ⋯),?_⟩
  by_cases h1:1<=⇑z
  ·rw[a8 (show (1:Int)<=(⇑z:Int) by left)];bv_omega
   by_cases h2:⇑z<=n
   ·rw[a8 (show (⇑z:Int)<=(n:Int) by left)];bv_omega;refine uY (fun c:Nat=>V.str ⟨#[c]⟩) xI (yv z) (ak ⋯) (fun c=>.bl (decide (97<=c/\c<123))) ?_ ?_
    ·intro c hc H2 s2 R hR;ac_nf;rw[Bc,wo];have e2:decide (c∈List.range' 97 26)=decide (97<=c/\c<123):=oE.mpr (by rw[List.mem_range'_1]);rw[e2];exact hR H2 (a9.refl _)
    ·intro D H2 hD s2 h2';refine⟨D,z.cps.toList.map fun c=>decide (97<=c/\c<123),rfl,.of (by rw[h2',aW];rfl),?_⟩;have e:(z.cps.toList.map fun c=>decide (97<=c/\c<123)).all id=iF n (.str z):=by
      rw[ek];unfold fE;rw[a8 (show 1<=⇑z.cps.toList by left),a8 (show ⇑z.cps.toList<=n by left),fW];rfl
     rw[e];exact k H2 s2
   ·have e:iF n (.str z)=false:=by rw[ek];unfold fE;rw[ay (show ¬ ⇑z.cps.toList<=n by left)];simp
    rw[e] at k;rw[ay (show ¬ (⇑z:Int)<=(n:Int) by left)];bv_omega;exact k H (a9.refl _)
  ·have e:iF n (.str z)=false:=by rw[ek];unfold fE;rw[ay (show ¬ 1<=⇑z.cps.toList by left)];simp
   rw[e] at k;rw[ay (show ¬ (1:Int)<=(⇑z:Int) by left)];bv_omega;exact k H (a9.refl _)
 ·have hv:iF n x=false:=by
   cases x with
   | str z=>exact absurd ⟨z,rfl⟩ hs
   | _=>rfl
  have hne:=rz ht fun z e=>hs ⟨z,e⟩;rw[hv] at k;ac_nf;refine⟨trivial,t,ht,?_⟩;cases t<;>first
   | exact absurd rfl hne
   | exact k H (a9.refl _)
noncomputable def rl:Sp:=fun vs H Q _=>∃ (t:Addr) (key:List Key) (s:Ú),vs=[.ref t,.int s.1.length,.str (tx s.2)]/\H t=some (.tup (key.map kV))/\qH key/\wk s/\∀ H',a9 H H'->Q (.bl (stepK key s).isSome) H'
theorem yb (F:Ç K "can_stand" "can_stand" nr f fd) (T:Bl mg) (AF:È K mg Ad) :bR P w K mg base (Á P w) 1 f fd ["entry","many","spelling"] rl:=by
 exists["entry","many","spelling"];obtain⟨t,key,s,rfl,ht,ok,say,k⟩:=h;refine⟨_,ah (cp (bF (dI (K:=K) rfl hu) (cL (eQ (K:=K) rfl) (À 0) aA (fun _ _=>rfl)) bU (bw _)) (ao (aJ (pQ (cK (dI (K:=K) rfl hu) (À 2) bU (bw _)) (mh (cK jd (aO aZ (À 1) (ax (aN (K:=K) rfl) T.len bB (aj (eR (K:=K) rfl jb PySem.F.slot_str_split PySem.F.type_str_split vd (cL (eQ (K:=K) rfl) (À 0) aA (fun _ _=>rfl)) (aj bU ae)) ae))) (fh AF.v_MOST_WORDS) (bw _)))))) bu) (ah (cp (bF (dI (K:=K) rfl hu) (cL (eQ (K:=K) rfl) (À 0) aA (fun _ _=>rfl)) bU (bw _)) (ao (aJ (pQ (cK vv (À 1) (fh AF.v_MOST_WORDS) (bw _)) (mh (cK jd (aO aZ (ax (aN (K:=K) rfl) T.len bB (aj (À 2) ae)) (ax (aN (K:=K) rfl) T.len bB (aj (cL (eQ (K:=K) rfl) (À 0) aA (fun _ _=>rfl)) ae))) (fh AF.v_LONGEST_WORD) (bw _)))))) bu) (ao (aJ (cK (iB (K:=K) rfl hu) (À 2) bU (bw _))))),?_⟩;have big:∀ {u:Nat},u<=10000->u<=sizeLine:=fun hu=>aM (ak ⋯);have l2:=say.len;have few:=say.few;have e0:Str.ofString ""=tx []:=rfl;have de:decide (tx s.2=Str.ofString "")=decide (s.2=[]):=by rw[e0,Ca]
 rcases uO ok with ⟨l,rfl,hl⟩ | ⟨l,rfl,hl⟩ | rfl
 ·have ht':H t=some (.tup [.str ("phrase":Str),.str (tx l)]):=ht;have hs:⇑l<=10000:=by
   have:=ok.short (tx l) (by simp [kV])
   rwa [bS] at this
  obtain⟨w6,_⟩:=Ij hl;grind;refine⟨_,_,.inr (.of ht'),eP Zd rfl,?_⟩;symm;rw[ai (by rfl),de];rw[kD] at k
  by_cases h2:s.2=[]
  ·rw[ai (a8 h2)];refine⟨_,_,.inr (.of ht'),eP Zd rfl,rfl,?_⟩;symm;refine⟨by rw[bS];left,32,rfl,fun p H1 hp s1 h1=>?_⟩;rw[bQ] at h1;symm;refine⟨_,.inl (.of h1),?_⟩;rw[af];symm;have e:(some (s.1++Mk.bV 32 l,([]:Za))).isSome=true:=rfl
   by_cases hc:s.1.length+⇑(Mk.bV 32 l)<=60
   ·rw[ai ⟨h2,hc⟩] at k;rw[a8 (show (s.1.length:Int)+(⇑(Mk.bV 32 l):Int)<=60 by left)];exact k H1 s1
   ·rw[ag (fun z=>hc z.2)] at k;rw[ay (show ¬ (s.1.length:Int)+(⇑(Mk.bV 32 l):Int)<=60 by left)];exact k H1 s1
  ·rw[ag (by rw[ay h2];decide)];rw[ag (fun z=>h2 z.1)] at k;exact k H (a9.refl _)
 ·have ht':H t=some (.tup [.str ("part":Str),.str (tx l)]):=ht;obtain⟨w1,w6,_⟩:=Bi hl;grind;refine⟨_,_,.inr (.of ht'),eP Zd rfl,?_⟩;symm;rw[ag (by decide)];show nn _ _ _;cbv;grind;refine⟨_,_,.inr (.of ht'),eP Zd rfl,?_⟩;symm;rw[ai (by rfl)];rw[sY] at k
  by_cases h1:s.1.length<60
  ·rw[ai (a8 ⋯)];rw[bS];refine⟨big ⋯,_,_,.inr (.of ht'),eP Zd rfl,?_⟩;symm;rw[bS];refine⟨big ⋯,?_⟩
   by_cases hc:s.2.length+⇑l<=20
   ·rw[ai ⟨h1,hc⟩] at k;rw[a8 (show (s.2.length:Int)+(⇑l:Int)<=20 by left)];exact k H (a9.refl _)
   ·rw[ag (fun z=>hc z.2)] at k;rw[ay (show ¬ (s.2.length:Int)+(⇑l:Int)<=20 by left)];exact k H (a9.refl _)
  ·rw[ag (by rw[ay ⋯];decide)];rw[ag (fun z=>h1 z.1)] at k;exact k H (a9.refl _)
 ·have ht':H t=some (.tup [.str ("end":Str)]):=ht;grind;refine⟨_,_,.inr (.of ht'),eP Zd rfl,?_⟩;symm;rw[ag (by decide)];show nn _ _ _;cbv;grind;refine⟨_,_,.inr (.of ht'),eP Zd rfl,?_⟩;symm;rw[ag (by decide)];show nn _ _ _;cbv;symm;rw[de];rw[vP] at k
  by_cases h2:s.2=[]
  ·rw[ai h2] at k;rw[a8 h2];exact k H (a9.refl _)
  ·rw[ag h2] at k;rw[ay h2];exact k H (a9.refl _)
noncomputable def vM:Sp:=fun vs H Q _=>∃ (z:Za) (n:Int),vs=[.str (tx z),.int n]/\3<=⇑z/\⇑z<=8/\0<=n/\Q (.str (tx (ä z n))) H
theorem vH:aI ["word","number","at"] ["word","number"] (aw sS):=by subst_eqs
theorem Bv (F:Ç K "swapped" "swapped" sS f fd) (T:Bl mg) (AF:È K mg Ad) :bR P w K mg base (Á P w) 1 f fd ["word","number"] vM:=by
 specialize vH;obtain⟨z,n,rfl,z3,z8,hn,k⟩:=h;refine⟨_,ah (aP (i:=2) vH.nd (aO cg (À 1) (aO jr (ax (aN (K:=K) rfl) T.len bB (aj (À 0) ae)) aA))) (ao (aJ (aO aZ (aO aZ (aO aZ (cS (i7 (K:=K) rfl) (À 0) eF (dh (À 2))) (cL (eQ (K:=K) rfl) (À 0) (aO aZ (À 2) aA) (fun _ _=>rfl))) (cL (eQ (K:=K) rfl) (À 0) (À 2) (fun _ _=>rfl))) (cS (i7 (K:=K) rfl) (À 0) (dh (aO aZ (À 2) aA)) eF)))),?_⟩;grind;have big:∀ {u:Nat},u<=100->u<=sizeLine:=fun hu=>aM (ak ⋯);rw[bS];refine⟨big ⋯,⋯,?_⟩;unfold ä at k;obtain⟨i,hi⟩:=cY (bY n (show (⇑z:Int)-1≠0 by left));have hil:i+1<⇑z:=by have:=bZ n (show 0<(⇑z:Int)-1 by left);left
 rw[hi,c8] at k;rw[hi,hN];clear hN nn;symm;have c1:z[i+1]?=some (z.getD (i+1) 0):=by rw[aT,aD hil];rfl
 have c0:z[i]?=some (z.getD i 0):=by rw[aT,aD ⋯];rfl
 have l1:∀ c:Nat,⇑([c]:Za)=1:=fun _=>rfl;have e1:(i:Int)+1=((i+1:Nat):Int):=rfl;have e2:(i:Int)+2=((i+2:Nat):Int):=rfl;have lA:⇑(z.take i)=i:=by rw[bK];left
 simp only[bS,bQ,e1,e2,wH,wG];refine⟨big ⋯,big ⋯,_,df c1,?_,big ⋯,_,df c0,?_,big ⋯,?_,?_⟩
 all_goals simp only[HL,vT,bS,aF,l1,lA,cq]
 ·exact big ⋯
 ·exact big ⋯
 ·exact big ⋯
 ·exact k
noncomputable def jj:Sp:=fun vs H Q _=>∃ (a:Addr) (ws:List V) (fs:List Flt),vs=[.ref a]/\H a=some (.lst ws)/\pB H ws fs/\⇑fs<=1000/\∀ D kvs H',H D=none->a9 H H'->H' D=some (.dT kvs)->oH H' kvs fs->Q (.ref D) H'
theorem dS:aI ["faults","first","sending","place","kind","number"] ["faults"] (aw jI):=by subst_eqs
theorem ug (F:Ç K "first_faults" "first_faults" jI f fd) (T:Bl mg) (AF:È K mg Ad) :bR P w K mg base (Á P w) 1 f fd ["faults"] jj:=by
 specialize dS;obtain⟨a,ws,fs,rfl,ha,hf,hl,k⟩:=h;refine⟨_,ah (aP (i:=1) dS.nd xh) (ah (gH cN rfl (ck (K:=K) rfl (À 0)) (k6 (K:=K) (n:=4) rfl rfl (cE (aL (i:=2) dS.nd) (cE (aL (i:=3) dS.nd) (cE (aL (i:=4) dS.nd) (cE (aL (i:=5) dS.nd) jt))))) (ao (eG (eR (K:=K) rfl PySem.F.plainAttrs_dict PySem.F.slot_dict_setdefault PySem.F.type_dict_setdefault (Bn hu1) (À 1) (aj (kz (aj (À 2) (aj (À 3) ae))) (aj (kz (aj (À 4) (aj (À 5) ae))) ae)))))) (ao (aJ (À 1)))),?_⟩;have le2:2<=sizeLine:=aM (ak Zd);have lw:⇑ws=⇑fs:=Paired.length hf;grind;intro D H1 hD s1 h1;cbv;have hD0:H D=none:=hD;have nad:a≠D:=aQ ha hD0;grind;refine .inl ⟨⟨_,.of (s1 _ _ ha)⟩,qL (xs:=ws) (fun i σ H'=>(∃ o2 o3 o4 o5,σ=[some (V.ref a),some (V.ref D),o2,o3,o4,o5])/\a9 H H'/\∃ kvs,H' D=some (.dT kvs)/\⇑kvs<=i/\oH H' kvs (fs.take i)) ?_ ?_ ?_ ?_⟩
 ·exact⟨⟨_,_,_,_,rfl⟩,s1,[],h1,av _,fun s p=>.inl ⟨rfl,rfl⟩⟩
 ·rintro i σ H' hi ⟨_,h,_⟩;exact .of (h _ _ ha)
 ·rintro i v σ H2 hi ⟨⟨o2,o3,o4,o5,rfl⟩,s2,kvs,hk,hkl,hF⟩ N hNx;clear hN;obtain⟨f,hfi,t,rfl,ht⟩:=iC hf hi;have hiw:i<⇑ws:=(br.mp hi).1;refine⟨t,_,rfl,Û.of (s2 _ _ ht),rfl,?_⟩;rw[show FP f=[.int f.s,.int f.p,.str (ö f.isL),.int f.n] from rfl];have htk:fs.take (i+1)=fs.take i++[f]:=by rw[gA,hfi];rfl
  rw[htk] at hNx;have hit:∀ s p,hits s p f=true->s=f.s/\p=f.p:=fun s p e=>by unfold hits at e;rw[bT,bN,bN] at e;exact⟨e.1.symm,e.2.symm⟩
  have hits0:hits f.s f.p f=true:=by unfold hits;simp
  symm;refine⟨.inr (.inr (.inl ⟨rfl,.inr ⟨_,hk⟩⟩)),le2,fun p1 H3 hp1 s3 h3=>⟨le2,fun p2 H4 hp2 s4 h4=>⟨kvs,[.inl f.s,.inl f.p],(s3.trans s4) _ _ hk,s4 _ _ h3,ak ⋯,fun u hu=>?_,fun hno=>?_⟩⟩⟩
  ·refine hNx _ _ ⟨⟨_,_,_,_,rfl⟩,s2.trans (s3.trans s4),kvs,(s3.trans s4) _ _ hk,⋯,fun s p=>?_⟩;rw[List.find?_append];rcases hF s p with ⟨e1,e2⟩ | ⟨t2,f2,e1,e2,e3⟩
   ·refine .inl ⟨e1,?_⟩;rw[e2,Option.none_or,fX];cases hh:hits s p f with
    | false=>rfl
    | true =>obtain⟨rfl,rfl⟩:=hit s p hh;rw[e1] at hu;cases hu
   ·exact .inr ⟨t2,f2,e1,by rw[e2];rfl,(s3.trans s4) _ _ e3⟩
  ·have hk4:=(s3.trans s4) _ _ hk;have kt:∀ c xs,H4 c=some (.tup xs)->upd H4 D (.dT (putK kvs [.inl f.s,.inl f.p] (V.ref p2))) c=some (.tup xs):=fun c xs e=>by rw[aG (pq e hk4 (by intro z;cases z))];exact e
   refine hNx _ _ ⟨⟨_,_,_,_,rfl⟩,(s2.trans (s3.trans s4)).cf hD0,_,aC,?_,fun s p=>?_⟩
   ·have:=kx kvs [.inl f.s,.inl f.p] (V.ref p2);left
   rw[Ig,List.find?_append]
   by_cases e:([.inl s,.inl p]:List Key)=[.inl f.s,.inl f.p]
   ·injection e with e1 e2
    injection e2 with e2 _
    have e1':=Sum.inl.inj e1;have e2':=Sum.inl.inj e2;subst e1' e2';rw[ai rfl];rcases hF f.s f.p with ⟨_,e4⟩ | ⟨_,_,e4,_⟩
    ·refine .inr ⟨p2,f,rfl,?_,kt _ _ h4⟩;rw[e4,Option.none_or,fX,hits0]
    ·rw[hno] at e4;cases e4
   ·rw[ag e];have hh:hits s p f=false:=by
     cases hh:hits s p f with
     | false=>rfl
     | true =>obtain⟨rfl,rfl⟩:=hit s p hh;exact absurd rfl e
    rcases hF s p with ⟨e1,e2⟩ | ⟨t2,f2,e1,e2,e3⟩
    ·exact .inl ⟨e1,by rw[e2,Option.none_or,fX,hh];rfl⟩
    ·exact .inr ⟨t2,f2,e1,by rw[e2];rfl,kt _ _ ((s3.trans s4) _ _ e3)⟩
 ·rintro σ H2 ⟨⟨o2,o3,o4,o5,rfl⟩,s2,kvs,hk,hkl,hF⟩;show nn _ _ _;cbv;symm;rw[ef ⋯] at hF;exact k D kvs H2 hD0 s2 hk hF
noncomputable def m7 (Ad:Ê):Sp:=fun vs H Q _=>∃ (b dx ca:Addr),vs=[.ref b,.ref ca]/\H b=some (.ins Ad.Book dx [])/\∀ dn de H',H dn=none->H de=none->dn≠de->dn≠b->de≠b->(∀ c u,c≠b->H c=some u->H' c=some u)->H' b=some (.ins Ad.Book dx (uI ca dn de))->H' dn=some (.dK [])->H' de=some (.dT [])->Q .non H'
theorem xW (F:Ç K "__init__" "Book.__init__" gW f fd) (T:Bl mg) (AF:È K mg Ad) :bR P w K mg base (Á P w) 1 f fd ["self","code"] (m7 Ad):=by
 exists["self","code"];obtain⟨b,dx,ca,rfl,hb,k⟩:=h;refine⟨_,ah (oS (K:=K) rfl (À 0) (À 1)) (ah (oS (K:=K) rfl (À 0) Hc) (ao (oS (K:=K) rfl (À 0) xh))),?_⟩;ac_nf;refine⟨_,_,_,hb,AF.c_Book,AF.n_Book_basis,Zd,fun p G1 z1 t1 g1=>?_⟩;have np1:p≠b:=fun e=>by rw[e,aC] at z1;cases z1
 have hb1:=t1 b _ aC;refine⟨_,_,_,hb1,AF.c_Book,AF.n_Book_by_number,ft (av 1) Zd,fun p2 G2 z2 t2 g2=>?_⟩;have np2:p2≠b:=fun e=>by rw[e,aC] at z2;cases z2
 have hb2:=t2 b _ aC;have k1:∀ c u,c≠b->H c=some u->G1 c=some u:=fun c u hc h=>t1 c u (by rw[aG hc];exact h);have k2:∀ c u,c≠b->G1 c=some u->G2 c=some u:=fun c u hc h=>t2 c u (by rw[aG hc];exact h);have ne:p≠p2:=fun e=>by rw[←e,aG np1,g1] at z2;cases z2
 refine⟨_,_,_,hb2,AF.c_Book,AF.n_Book_by_entry,ft (av 2) Zd,k p p2 _ ?_ ?_ ne np1 np2 (fun c u hc h=>by rw[aG hc];exact k2 c u hc (k1 c u hc h)) (by rw[aC];rfl) (by rw[aG np1];exact k2 _ _ np1 g1) (by rw[aG np2];exact g2)⟩
 ·cases e:H p with
  | none=>rfl
  | some o=>rw[aG np1,e] at z1;cases z1
 ·cases e:H p2 with
  | none=>rfl
  | some o=>rw[aG np2,k1 p2 o np2 e] at z2;cases z2
inductive dD (Ad:Ê) (vs:List V) (H:Hp) (Q:VK) (E:XK):Prop
 | mk (b ca dn de:Addr) (es:List Ã) (q0:vs=[.ref b]) (q1:dB Ad H b ca dn de es) (q2:Q (.ref ca) H):dD Ad vs H Q E
theorem yo:aI ["self"] ["self"] (aw nh):=by subst_eqs
theorem xV (F:Ç K "code" "Book.code" nh f fd) (T:Bl mg) (AF:È K mg Ad) :bR P w K mg base (Á P w) 1 f fd ["self"] (dD Ad):=by
 refine F.æ (k:=0) yo ?_ (fun cdv A outer s H vs Q E hr h=>?_)
 ·bv_decide
 ·obtain⟨b,ca,dn,de,es,rfl,B,k⟩:=h;obtain⟨dx,h1⟩:=B.bk;have hu:=hr.jQ;have hu1:=pd hr;refine⟨_,ao (aJ (c6 (K:=K) rfl (À 0))),?_⟩;ac_nf;exact⟨_,dx,_,_,h1,AF.c_Book,AF.n_Book_basis,kj ca dn de,k⟩
inductive fi (Ad:Ê) (vs:List V) (H:Hp) (Q:VK) (E:XK):Prop
 | mk (b ca dn de:Addr) (es:List Ã) (q0:vs=[.ref b]) (q1:dB Ad H b ca dn de es) (q2:⇑es<64) (q3:∀ D ws (ms:List Ã) H',H D=none->a9 H H'->H' D=some (.lst ws)->ms.Perm es->(ms.map (·.num)).Pairwise (·<·)->Paired (fun v (m:Ã)=>∃ p,v=V.ref p/\H' p=some (.tup [.int m.num,.ref m.adr])) ws ms->Q (.ref D) H'):fi Ad vs H Q E
theorem uj:aI ["self"] ["self"] (aw jD):=by subst_eqs
theorem ub (F:Ç K "entries" "Book.entries" jD f fd) (T:Bl mg) (AF:È K mg Ad) :bR P w K mg base (Á P w) 1 f fd ["self"] (fi Ad):=by
 refine F.æ (k:=0) uj ?_ (fun cdv A outer s H vs Q E hr h=>?_)
 ·bv_decide
 ·obtain⟨b,ca,dn,de,es,rfl,B,h64,k⟩:=h;obtain⟨dx,h1⟩:=B.bk;have hu:=hr.jQ;have hu1:=pd hr;refine⟨_,ao (aJ (fH ["number"] rfl ⟨rfl,by nofun,rfl,by nofun⟩ (.cons (j:=0) rfl (.inl (by ext)) (.nil)) (by nofun) (ck (K:=K) rfl (ax (A0 rfl) T.sorted rX (aj (c6 (K:=K) rfl (Ä 0)) ae))) (fun _ _ _ _=>aL (i:=0) (show (["number","self"]:Ze).Nodup from by nofun)) (fun _ _ _ _=>cM) (fun _ _ _ _=>kz (aj (À 0) (aj (GZ hu1 (c6 (K:=K) rfl (Ä 1)) (À 0)) ae))))),?_⟩;ac_nf;refine⟨_,dx,_,_,h1,AF.c_Book,AF.n_Book_by_number,i8 ca dn de,?_⟩;ac_nf;refine⟨es.map fun e:Ã=>(e.num,V.ref e.adr),.inl B.hn,by rw[af];exact h64,fun ns hp hs p G1 z1 t1 g1=>?_⟩;ac_nf;obtain⟨ms,mp,mn,ml⟩:=L6 hp hs B.nn;have nl:⇑(ns.map V.int)<sizeLine:=ak (by rw[af,hp.length_eq,af,af];left);refine .inl ⟨⟨_,.of g1⟩,xP (cT (.of g1)) nl (ms.map fun m=>[V.int m.num,V.ref m.adr]) (by rw[af,af,←mn,af]) ?_ ?_⟩
  ·intro i x ts hx hts G2 t2 R hR;rw[aS] at hx hts;obtain⟨m,hm,rfl⟩:=eh.mp hts;have:ns[i]?=some m.num:=by rw[←mn,aS,hm];rfl
   rw[this] at hx;cases hx;have B2:=B.same (t1.trans t2);obtain⟨dx2,h2⟩:=B2.bk;ac_nf;exact⟨_,dx2,_,_,h2,AF.c_Book,AF.n_Book_by_number,i8 ca dn de,_,_,rfl,.inl ⟨_,.inl m.num,.inl B2.hn,rfl,(xU B2.nn (mp.mem_iff.mp (bL hm))).symm⟩,aM (ak Zd),fun p2 G3 z3 t3 g3=>hR p2 G3 z3 t3 g3⟩
  ·intro D ws G2 hD t2 g2 hT;refine k D ws ms G2 (t1.free hD) (t1.trans t2) g2 mp ml (tE hT)
noncomputable def nJ (K:Zf):Sp:=fun vs H Q _=>∃ (a:Addr) (ns:Zb) (k:Int),vs=[.ref a,.int k]/\Æ K H a (ns.map V.int)/\0<=k/\Q (.int (ns.getD k.toNat 0)) H
theorem vp (F:Ç K "_law_cell_at" "_law_cell_at" kZ f fd) (T:Bl mg) (AF:È K mg Ad) :bR P w K mg base (Á P w) 1 f fd ["_law_script","_law_k"] (nJ K):=by
 exists["_law_script","_law_k"];obtain⟨a,ns,i,rfl,hS,hi,k⟩:=h;refine⟨_,ah (cp (bF vv (À 1) (ax (aN (K:=K) rfl) T.len bB (aj (À 0) ae)) (bw _)) (ao (aJ (cL (eQ (K:=K) rfl) (À 0) (À 1) (fun _ _=>rfl)))) bu) (ao (aJ aA)),?_⟩;ac_nf;refine⟨_,.inl hS,?_⟩;rw[af]
 by_cases hlt:i<(⇑ns:Int)
 ·rw[ai (a8 hlt)];refine⟨_,.int (ns.getD i.toNat 0),.inl hS,?_,k⟩;have e:(ns.map V.int)[i.toNat]?=some (.int (ns.getD i.toNat 0)):=by
   rw[aS,aT,aD ⋯];rfl
  have:=df e
  rwa [nU hi] at this
 ·rw[ag (by rw[bN];exact hlt)];have e:ns.getD i.toNat 0=0:=by rw[aT,dZ ⋯];rfl
  rw[e] at k;exact k
noncomputable def tZ:Nat->Int×Int->Int×Int
 | 0,p=>p
 | n+1,p=>let q:=tZ n p;((q.1*48271+q.2%2147483629+(n:Int))%2147483647,q.2/2147483629)
noncomputable def jm (c:Int) (k:Nat):Int:=let q:=tZ k (7,c);(q.2*69621+q.1*q.1+101*(k:Int))%2147483629+2147483629*(q.2/2147483629+(q.1+(k:Int))^6)
theorem CH:∀ (n:Nat) (p:Int×Int),0<=p.1->p.1<2147483647->0<=(tZ n p).1/\(tZ n p).1<2147483647
 | 0,p,h1,h2=>⟨h1,h2⟩
 | n+1,p,h1,h2=>⟨bY _ Zd,bZ _ Zd⟩
noncomputable def tS:Sp:=fun vs H Q _=>∃ (c:Int) (k:Nat),vs=[.int c,.int (k:Int)]/\k<=1000/\Q (.int (jm c k)) H
theorem fO:aI ["_law_cell","_law_k","_law_rest","_law_ahead","_law_turn","_law_low"] ["_law_cell","_law_k"] (aw qj):=by subst_eqs
theorem zF (F:Ç K "_law_long" "_law_long" qj f fd) (T:Bl mg) (AF:È K mg Ad) :bR P w K mg base (Á P w) 1 f fd ["_law_cell","_law_k"] tS:=by
 specialize fO;obtain⟨c,k,rfl,hk,kq⟩:=h;refine⟨_,ah (aP (i:=2) fO.nd (À 0)) (ah (aP (i:=3) fO.nd aA) (ah (gH cN rfl (eT T.range (aj (À 1) ae)) (aL (i:=4) fO.nd) (ah (aP (i:=3) fO.nd (aO cg (aO aZ (aO aZ (aO oP (À 3) aA) (aO cg (À 2) aA)) (À 4)) aA)) (ao (aP (i:=2) fO.nd (aO mZ (À 2) aA))))) (ah (aP (i:=5) fO.nd (aO cg (aO aZ (aO aZ (aO oP (À 2) aA) (aO oQ (À 3) (À 3))) (aO oP aA (À 1))) aA)) (ao (aJ (aO aZ (À 5) (aO oP aA (aO aZ (aO mZ (À 2) aA) (aO CK (aO aZ (À 3) (À 1)) aA))))))))),?_⟩;grind;cbv;grind;cbv;grind;refine⟨⋯,⋯,?_⟩;refine mT (n:=k) (fun i σ H'=>H'=H/\∃ o,σ=[some (.int c),some (.int (k:Int)),some (.int (tZ i (7,c)).2),some (.int (tZ i (7,c)).1),o,none]) ?_ ?_ ?_
 ·exact⟨rfl,none,rfl⟩
 ·rintro i σ H' hi ⟨rfl,o,rfl⟩ N hNx;clear hN;have hb:=CH i (7,c) (show (0:Int)<=7 by decide) (show (7:Int)<2147483647 by decide);have hsuc:tZ (i+1) (7,c)=(((tZ i (7,c)).1*48271+(tZ i (7,c)).2%2147483629+(i:Int))%2147483647,(tZ i (7,c)).2/2147483629):=rfl;rw[hsuc] at hNx;generalize tZ i (7,c)=q at hb hNx;symm;refine gM fun n2 hM=>?_;symm;refine⟨.inr Zd,Zd,Zd,?_⟩;rw[hM];clear hM n2;symm;rw[jR];exact⟨⟨Zd,Zd⟩,hNx _ _ ⟨rfl,_,rfl⟩⟩
 ·rintro σ H' ⟨rfl,o,rfl⟩;have hb:=CH k (7,c) (show (0:Int)<=7 by decide) (show (7:Int)<2147483647 by decide);unfold jm at kq;show nn _ _ _;cbv;generalize tZ k (7,c)=q at hb kq;refine gM fun n2 hM=>?_;symm;refine⟨.inr Zd,?_⟩;have hq:q.1.natAbs<2^1000:=bH (show q.1.natAbs<2^32 by left) Zd;refine⟨⟨hq,hq⟩,.inl Zd,Zd,?_⟩;rw[hM];clear hM n2;symm;exact⟨⟨Zd,Zd⟩,⟨Zd,Zd,⋯⟩,.inl Zd,kq⟩
noncomputable def nK:Sp:=fun vs H Q _=>∃ a b:Nat,vs=[.int a,.int b]/\Q (.int ((Nat.gcd a b:Nat):Int)) H
theorem nB:aI ["_law_one","_law_other"] ["_law_one","_law_other"] (aw lg):=by subst_eqs
theorem vq (F:Ç K "_law_divisor" "_law_divisor" lg f fd) (T:Bl mg) (AF:È K mg Ad) :bR P w K mg base (Á P w) 1 f fd ["_law_one","_law_other"] nK:=by
 specialize nB;obtain⟨a,b,rfl,k⟩:=h;refine⟨_,ah (qU cN (bF (iB (K:=K) rfl hu) (À 1) aA (bw _)) (ao (Mz (i:=0) (j:=1) rfl nB.nd rfl rfl Zd rfl rfl (aj (À 1) (aj (aO cg (À 0) (À 1)) ae)) rfl))) (ao (aJ (À 0))),?_⟩;ac_nf;refine yD (fun σ H'=>H'=H/\∃ l r:Nat,σ=[some (.int l),some (.int r)]/\Nat.gcd l r=Nat.gcd a b) (fun σ _=>match σ with | [_,some (.int r)]=>r.toNat | _=>0) ⟨rfl,a,b,rfl,rfl⟩ ?_;rintro σ H' ⟨rfl,l,r,rfl,hg⟩;ac_nf
 by_cases hr0:r=0
 ·subst hr0;rw[Nat.gcd_zero_right] at hg;subst hg;exact k
 ·have e:(!decide ((r:Int)=0))=true:=by simp [hr0]
  rw[ai e];refine⟨_,fun _ _ h=>h,⋯,⟨rfl,r,l%r,by rw[Int.natCast_emod],?_⟩,?_⟩
  ·rw[←hg,Nat.gcd_comm l r,Nat.gcd_rec r l,Nat.gcd_comm]
  ·show ((l:Int)%(r:Int)).toNat<r;have h1:(l:Int)%(r:Int)<r:=bZ _ ⋯;have h2:0<=(l:Int)%(r:Int):=bY _ ⋯;left
noncomputable def tO:Sp:=fun vs H Q _=>∃ (p:Addr) (ws:Zb) (m:Int),vs=[.ref p,.int m]/\H p=some (.lst (ws.map V.int))/\⇑ws<=1000/\∀ H',a9 H H'->Q (.bl (Mk.safe m ws)) H'
theorem tJ:aI ["weights","m","differences"] ["weights","m"] (aw pW):=by subst_eqs
theorem z5 (F:Ç K "are_safe" "are_safe" pW f fd) (T:Bl mg) (AF:È K mg Ad) (C_common_divisor:Å P w K mg base (Á P w) 1 "common_divisor" ["one","other"] kC):bR P w K mg base (Á P w) 2 f fd ["weights","m"] tO:=by
 specialize tJ;obtain⟨p,ws,m,rfl,hp,hl,k⟩:=h;refine⟨_,ah (lE (i:=2) ["ahead","behind"] tJ.nd rfl (Or.inl rfl) rfl ⟨rfl,by nofun,rfl,by nofun⟩ (.nil) (by nofun) (yk (K:=K) rfl T.zip (aj (À 0) (aj (cS (i7 (K:=K) rfl) (À 0) (dh aA) eF) ae))) (fun _ _ _ _=>k6 (K:=K) (n:=2) rfl rfl (cE (aL (i:=0) (show (["ahead","behind"]:Ze).Nodup from by nofun)) (cE (aL (i:=1) (show (["ahead","behind"]:Ze).Nodup from by nofun)) jt))) (fun _ _ _ _=>cM) (fun _ _ _ _=>aO jr (À 1) (À 0))) (ao (aJ (ax (i9 (K:=K) rfl rfl) T.all pF (aj (fH ["number"] rfl ⟨rfl,by nofun,rfl,by nofun⟩ (.cons (j:=1) rfl (.inl (by ext)) (.nil)) (by nofun) (ck (K:=K) rfl (aO aZ (À 0) (À 2))) (fun _ _ _ _=>aL (i:=0) (show (["number","m"]:Ze).Nodup from by nofun)) (fun _ _ _ _=>cM) (fun _ _ _ _=>cK (dI (K:=K) rfl hu) (az C_common_divisor e8 (hr.mono Zd) (aj (À 0) (aj (Ä 1) ae))) aA (bw _))) ae)))),?_⟩;ac_nf;refine⟨_,.of hp,fun q H1 hq s1 h1=>?_⟩;have hp1:H1 p=some (.lst (ws.map V.int)):=s1 _ _ hp;have ec:oX (ws.map V.int) (some 1) none=(ws.drop 1).map V.int:=by rw[show (1:Int)=((1:Nat):Int) from rfl,gj,iw]
 rw[ec] at h1;refine⟨⟨_,.of hp1⟩,⟨_,.of h1⟩,Nn V.int V.int hU hU (.of hp1) (.of h1) (ak ⋯) (fun a b=>.int (b-a)) ?_ ?_⟩
 ·intro a b hab H' s' R hR;ac_nf;exact hR H' (a9.refl _)
 ·intro D H2 hD s2 h2;have e2:H2 D=some (.lst ((Mk.í ws).map V.int)):=by rw[h2];unfold Mk.í;rw[aW];rfl
  have hp2:H2 p=some (.lst (ws.map V.int)):=s2 _ _ hp1;have ldif:⇑(Mk.í ws)<=1000:=by unfold Mk.í;rw[af,List.length_zip];left
  ac_nf;refine⟨_,_,hp2,e2,?_,fun r H3 hr s3 h3=>.inl ⟨⟨_,.of h3⟩,?_⟩⟩
  ·rw[af,af];exact aM (ak ⋯)
  ·rw[←bM] at h3;refine uY (xs:=ws++Mk.í ws) V.int hU (cT (.of h3)) (by rw[aF];exact ak ⋯) (fun n=>.bl (Mk.Î m n)) ?_ ?_
   ·intro n hn H' s' R hR;ac_nf;refine⟨n,m,rfl,?_⟩;have e:decide (((Int.gcd n m:Nat):Int)=1)=Mk.Î m n:=by
     unfold Mk.Î
     by_cases h:Int.gcd n m=1
     ·rw[a8 h];exact a8 ⋯
     ·rw[ay h];exact ay ⋯
    show R (V.bl (decide (((Int.gcd n m:Nat):Int)=1))) H';rw[e];exact hR H' (a9.refl _)
   ·intro D' H4 hD' s4 h4;refine⟨D',(ws++Mk.í ws).map (Mk.Î m),rfl,.of (by rw[h4,aW];rfl),?_⟩;have ea:(((ws++Mk.í ws).map (Mk.Î m)).all id)=Mk.safe m ws:=by unfold Mk.safe;rw[fW];rfl
    rw[ea];exact k H4 (s1.trans (s2.trans (s3.trans s4)))
noncomputable def cI (b:Int):V->Bool
 | .int i=>decide (0<=i)&&decide (i<b)
 | _=>false
noncomputable def gY:Sp:=fun vs H Q _=>∃ (x:V) (t:Tg) (b:Int),vs=[x,.int b]/\eZ H x=some t/\Q (.bl (cI b x)) H
theorem z9 (F:Ç K "is_below" "is_below" pZ f fd) (T:Bl mg) (AF:È K mg Ad) (C_is_whole:Å P w K mg base (Á P w) 1 "is_whole" ["thing"] tQ):bR P w K mg base (Á P w) 2 f fd ["thing","bound"] gY:=by
 exists["thing","bound"];obtain⟨x,t,b,rfl,ht,k⟩:=h;refine⟨_,ao (aJ (pQ (az C_is_whole au (hr.mono Zd) (aj (À 0) ae)) (mh (GX jd vv aA (À 0) (À 1))))),?_⟩
 by_cases hs:∃ i,x=.int i
 ·obtain⟨i,rfl⟩:=hs;cases ht;ac_nf;refine⟨_,Tg.int,rfl,rfl,?_⟩;ac_nf;have ek:cI b (.int i)=(decide (0<=i)&&decide (i<b)):=rfl;rw[ek] at k;rw[ai (by simp)];cases h0:decide (0<=i) with
  | false=>rw[h0,gq] at k;bv_omega;exact k
  | true=>rw[h0,dq] at k;bv_omega;exact k
 ·have hv:cI b x=false:=by
   cases x with
   | int i=>exact absurd ⟨i,rfl⟩ hs
   | _=>rfl
  have hne:t≠Tg.int:=fun e=>by
   subst e;cases x with
   | int i=>exact hs ⟨i,rfl⟩
   | ref a =>
    have h':mE (H a)=some .int:=ht;cases e:H a with
    | none=>rw[e] at h';cases h'
    | some o=>rw[e] at h';cases o with
     | frz ob u=>cases u<;>cases h'
     | _=>cases h'
   | _=>cases ht
  rw[hv] at k;ac_nf;refine⟨x,t,rfl,ht,?_⟩;ac_nf;rw[ay hne];bv_omega;exact k
noncomputable def iG (al:Str) (ws:Zb) (r:Int):V->Bool
 | .str z=>Mk.bW al.cps.toList ws r z.cps.toList
 | _=>false
inductive qx (vs:List V) (H:Hp) (Q:VK) (E:XK):Prop
 | mk (al:Str) (p:Addr) (ws:Zb) (r:Int) (x:V) (t:Tg) (q0:vs=[.str al,.ref p,.int r,x]) (q1:H p=some (.lst (ws.map V.int))) (q2:⇑ws<=1000) (q3:0<⇑al) (q4:⇑al<=1000) (q5:Mk.ô ws) (q6:eZ H x=some t) (q7:(∀ z,x=.str z->⇑z<=100000)) (q8:∀ H',a9 H H'->Q (.bl (iG al ws r x)) H'):qx vs H Q E
theorem Br (F:Ç K "is_good" "is_good" sO f fd) (T:Bl mg) (AF:È K mg Ad) (C_are_good:Å P w K mg base (Á P w) 1 "are_good" ["m","weights","rest","places"] kB) (C_places_of:Å P w K mg base (Á P w) 1 "places_of" ["alphabet","word"] jx) (C_is_word:Å P w K mg base (Á P w) 1 "is_word" ["alphabet","length","thing"] m9):bR P w K mg base (Á P w) 2 f fd ["alphabet","weights","rest","word"] qx:=by
 exists["alphabet","weights","rest","word"];obtain⟨al,p,ws,r,x,t,rfl,hp,hwl,ha0,ha,hsm,ht,hz,k⟩:=h;refine⟨_,ah (cp (cU (cH (az C_is_word au (hr.mono Zd) (aj (À 0) (aj (ax (aN (K:=K) rfl) T.len bB (aj (À 1) ae)) (aj (À 3) ae)))))) (ao (aJ ky)) bu) (ao (aJ (az C_are_good au (hr.mono Zd) (aj (ax (aN (K:=K) rfl) T.len bB (aj (À 0) ae)) (aj (À 1) (aj (À 2) (aj (az C_places_of au (hr.mono Zd) (aj (À 0) (aj (À 3) ae))) ae))))))),?_⟩;ac_nf;refine⟨_,.l hp,?_⟩;rw[af];refine⟨al,_,x,t,rfl,ht,hz,fun H1 s1=>?_⟩;have h1p:H1 p=some (.lst (ws.map V.int)):=s1 _ _ hp;ac_nf;cases hw:dC al ⇑ws x with
 | false =>
  have e:iG al ws r x=false:=by
   cases x with
   | str z =>show (Mk.bE al.cps.toList ⇑ws z.cps.toList&&_)=false;rw[show Mk.bE al.cps.toList ⇑ws z.cps.toList=false from hw,gq]
   | _=>rfl
  rw[e] at k;exact k H1 s1
 | true =>
  cases x with
  | str z =>
   have hw':Mk.bE al.cps.toList ⇑ws z.cps.toList=true:=hw;obtain⟨hw1,hw2⟩:=Mk.dH.mp hw';have hzl:⇑z.cps.toList<=1000:=⋯
   bv_omega;refine⟨aM (ak ⋯),al,z,rfl,by rw[dQ];left,hw2,fun q H2 hq s2 h2=>?_⟩;have h2p:H2 p=some (.lst (ws.map V.int)):=s2 _ _ h1p;ac_nf;refine⟨_,p,ws,r,q,_,rfl,⋯,h2p,h2,⋯,hsm,Mk.M9 (Mk.mj hw2) (by rw[dQ] at ha;left),fun H3 s3=>?_⟩;have e:iG al ws r (.str z)=Mk.good ⇑al ws r (Mk.Ò al.cps.toList z.cps.toList):=by show (Mk.bE al.cps.toList ⇑ws z.cps.toList&&Mk.good ⇑al.cps.toList ws r _)=_;rw[hw',dq,←dQ]
   rw[e] at k;exact k H3 (s1.trans (s2.trans s3))
  | _=>cases hw
inductive sX (Ad:Ê) (vs:List V) (H:Hp) (Q:VK) (E:XK):Prop
 | mk (a:Addr) (al:Za) (ws:Zb) (r:Int) (x:V) (t:Tg) (q0:vs=[.ref a,x]) (q1:cx Ad H a al ws r) (q2:bP al ws r) (q3:eZ H x=some t) (q4:(∀ z,x=.str z->⇑z<=100000)) (q5:(dC (tx al) ⇑ws x=false->∀ H',a9 H H'->E (.ref Ad.NoWord) none H')) (q6:∀ z,x=.str (tx z)->Mk.bE al ⇑ws z=true->∀ fs:List Zb,fs.Perm (kL ⇑al (Mk.Ò al z))->∀ D H',H D=none->a9 H H'->H' D=some (.lst (fs.map fun ps=>V.str (tx (Mk.bD al ps))))->Q (.ref D) H'):sX Ad vs H Q E
theorem sW:aI ["code","word","alphabet","places"] ["code","word"] (aw vA):=by subst_eqs
theorem EB (F:Ç K "faulty" "faulty" vA f fd) (T:Bl mg) (AF:È K mg Ad) (C_by_exchange:Å P w K mg base (Á P w) 1 "by_exchange" ["m","places"] nE) (C_by_swap:Å P w K mg base (Á P w) 1 "by_swap" ["places"] vL) (C_spelled:Å P w K mg base (Á P w) 1 "spelled" ["alphabet","places"] qz) (C_places_of:Å P w K mg base (Á P w) 1 "places_of" ["alphabet","word"] jx) (C_is_word:Å P w K mg base (Á P w) 1 "is_word" ["alphabet","length","thing"] m9) (M_Code_weights:Í P w K mg base (Á P w) Ad.Code "weights" 1 ["self"] (jh Ad)) (M_Code_alphabet:Í P w K mg base (Á P w) Ad.Code "alphabet" 1 ["self"] (gm Ad)):bR P w K mg base (Á P w) 2 f fd ["code","word"] (sX Ad):=by
 specialize sW;obtain⟨a,al,ws,r,x,t,rfl,hat,ok,ht,hz,hE,k⟩:=h;have hu2:_+2<cLine:=ft (Nat.add_le_add (Nat.le_add_right _ _) Zd) hr.un;refine⟨_,ah (eU (i:=2) sW.nd (bX M_Code_alphabet au (hr.mono Zd) (À 0))) (ah (cp (cU (cH (az C_is_word au (hr.mono Zd) (aj (Ä 2) (aj (ax (aN (K:=K) rfl) T.len bB (aj (bX M_Code_weights au (hr.mono Zd) (À 0)) ae)) (aj (À 1) ae)))))) (ao (dX d0 AF.q_NoWord AF.g_NoWord di rfl (aj bU ae))) bu) (ah (aP (i:=3) sW.nd (az C_places_of au (hr.mono Zd) (aj (Ä 2) (aj (À 1) ae)))) (ao (aJ (fH ["made"] rfl ⟨rfl,by nofun,rfl,by nofun⟩ (.cons (j:=2) rfl (.inl (by ext)) (.nil)) (by nofun) (ck (K:=K) rfl (ax (A3 (K:=K) rfl hu2) T.sorted rX (aj (aO aZ (az C_by_exchange au (hr.mono Zd) (aj (ax (aN (K:=K) rfl) T.len bB (aj (Ä 2) ae)) (aj (À 3) ae))) (az C_by_swap au (hr.mono Zd) (aj (À 3) ae))) ae))) (fun _ _ _ _=>aL (i:=0) (show (["made","alphabet"]:Ze).Nodup from by nofun)) (fun _ _ _ _=>cM) (fun _ _ _ _=>az C_spelled e8 (hr.mono Zd) (aj (Ä 1) (aj (À 0) ae)))))))),?_⟩;grind;obtain⟨dx,q,c1,c2⟩:=hat
 have a3:=ok.a3;have a26:=ok.a26;have w3:=ok.w3;have w8:=ok.w8;refine⟨dx,_,c1,bC Zd Zd Zd al q r,a,al,ws,r,rfl,⟨dx,q,c1,c2⟩,?_⟩;cbv;grind;refine⟨dx,_,c1,bC Zd Zd Zd al q r,a,al,ws,r,rfl,⟨dx,q,c1,c2⟩,fun pw H1 hpw s1 h1=>?_⟩;symm;refine⟨_,.inl (.of h1),?_⟩;rw[af];refine⟨tx al,⇑ws,x,t,rfl,il s1 ht,hz,fun H2 s2=>⟨_,rfl,?_⟩⟩;cases htv:dC (tx al) ⇑ws x with
 | false =>rw[ai (by rfl)];exact⟨aM (ak Zd),hE htv H2 (s1.trans s2)⟩
 | true =>
  rw[ag (by decide)];obtain⟨z,rfl⟩:∃ z,x=.str (tx z):=by
   cases x with
   | str z=>obtain⟨l,rfl⟩:=NY z;exact⟨l,rfl⟩
   | _=>cases htv
  have hw:Mk.bE al ⇑ws z=true:=by
   have:Mk.bE (tx al).cps.toList ⇑ws (tx z).cps.toList=true:=htv
   rwa [bQ,bQ] at this
  have k':=k z rfl hw;clear k hE hz htv ht;obtain⟨zl,zm⟩:=Mk.dH.mp hw;have pm:=Mk.mj zm;have pl:⇑(Mk.Ò al z)=⇑ws:=by rw[Mk.oR];left
  show nn _ _ _;cbv;grind;refine⟨tx al,tx z,rfl,by rw[bS];left,by rw[bQ,bQ];exact zm,fun p3 H3 hp3 s3 h3=>?_⟩;rw[bQ,bQ] at h3;generalize Mk.Ò al z=ps at h3 pm pl k';cbv;symm;rw[bS];refine⟨aM (ak ⋯),⇑al,p3,ps,rfl,h3,a26,⋯,fun D4 v4 H4 hD4 s4 h4 n4=>?_⟩;refine⟨p3,ps,rfl,s4 _ _ h3,⋯,⋯,fun D5 v5 H5 hD5 s5 h5 n5=>?_⟩;have l4:⇑v4=⇑ps*(⇑al-1):=by rw[fM n4,uR pm]
  have l4':⇑v4<=200:=by rw[l4];exact aX (Nat.mul_le_mul (show ⇑ps<=8 by left) (show ⇑al-1<=25 by left)) Zd
  have l5:⇑v5<=8:=by rw[fM n5];exact aX uC ⋯
  refine⟨_,_,s5 _ _ h4,h5,aM (ak ⋯),fun p6 H6 hp6 s6 h6=>?_⟩;have n6:iI H6 (v4++v5) (kL ⇑al ps):=fL (n4.keep fun b ns e=>(s5.trans s6) _ _ e) (n5.keep fun b ns e=>s6 _ _ e);obtain⟨zs,e1,e2,hzs⟩:=xc n6;rw[e1] at h6;have lz:⇑zs<=208:=by have:=cc List.length e1;rw[aF,af] at this;left
  refine⟨zs,.of h6,fun z hz=>.of (hzs z hz),fun us hp p7 H7 hp7 s7 h7=>?_⟩;have lu:⇑us=⇑zs:=hp.length_eq;have hpf:(us.map fun z=>z.2).Perm (kL ⇑al ps):=by rw[e2];exact hp.map _
  refine .inl ⟨⟨_,.of h7⟩,K0 (cT (.of h7)) (by rw[af];exact ak ⋯) ((us.map fun z=>z.2).map fun ps=>V.str (tx (Mk.bD al ps))) (by simp) ?_ ?_⟩
  ·intro i x u hx hu H8 s8 R hR;rw[aS,aS] at hu;obtain⟨y,hy,rfl⟩:=zq hx;rw[hy] at hu;cases hu;have hym:y∈zs:=hp.mem_iff.mp (bL hy);have hy2:y.2∈kL ⇑al ps:=by rw[e2];exact iZ hym
   have fo:=pH pm y.2 hy2;symm;refine⟨tx al,y.1,y.2,rfl,by rw[bS];left,(s7.trans s8) _ _ (hzs y hym),⋯,by rw[bQ];exact fo.2,fun H9 s9=>?_⟩;rw[bQ];exact hR H9 s9
  ·intro D H8 hD s8 h8;exact k' _ hpf D H8 ((s1.trans (s2.trans (s3.trans (s4.trans (s5.trans (s6.trans s7)))))).free hD) (s1.trans (s2.trans (s3.trans (s4.trans (s5.trans (s6.trans (s7.trans s8))))))) h8
noncomputable def rk:Sp:=fun vs H Q _=>∃ (x:V) (t:Tg) (n:Nat),vs=[x,.int n]/\eZ H x=some t/\(∀ z,x=.str z->⇑z<=10000)/\n<=1000/\∀ H',a9 H H'->Q (.bl (ki n x)) H'
theorem rb:aI ["thing","most","words"] ["thing","most"] (aw nq):=by subst_eqs
theorem ya (F:Ç K "are_words" "are_words" nq f fd) (T:Bl mg) (AF:È K mg Ad) (C_are_letters:Å P w K mg base (Á P w) 1 "are_letters" ["thing","most"] jO):bR P w K mg base (Á P w) 2 f fd ["thing","most"] rk:=by
 specialize rb;obtain⟨x,t,n,rfl,ht,hz,hn,k⟩:=h;refine⟨_,ah (cp (cU (cH (ax (fz .str) T.isinstance bt_isinstance (aj (À 0) (aj (kM T.str uJ) ae))))) (ao (aJ ky)) bu) (ah (aP (i:=2) rb.nd (eR (K:=K) rfl jb PySem.F.slot_str_split PySem.F.type_str_split vd (À 0) (aj bU ae))) (ao (aJ (pQ (cK jd (ax (aN (K:=K) rfl) T.len bB (aj (À 2) ae)) (À 1) (bw _)) (mh (ax (i9 (K:=K) rfl rfl) T.all pF (aj (fH ["word"] rfl ⟨rfl,by nofun,rfl,by nofun⟩ (.nil) (by nofun) (ck (K:=K) rfl (À 2)) (fun _ _ _ _=>aL (i:=0) (show (["word"]:Ze).Nodup from by nofun)) (fun _ _ _ _=>cM) (fun _ _ _ _=>az C_are_letters e8 (hr.mono Zd) (aj (À 0) (aj (fh AF.v_LONGEST_WORD) ae)))) ae))))))),?_⟩
 by_cases hs:∃ z,x=.str z
 ·obtain⟨z,rfl⟩:=hs;cases ht;have hl:=hz z rfl;have hc:=dQ z;have ek:ki n (.str z)=j5 n z.cps.toList:=rfl;ac_nf;refine⟨trivial,Tg.str,rfl,?_⟩;ac_nf;obtain⟨sl1,sl2⟩:=Mk.vO (c:=32) z.cps.toList;refine⟨rfl,⋯,32,rfl,fun p H1 hp s1 h1=>⟨_,.l h1,?_⟩⟩;rw[af]
  by_cases h2:⇑(Mk.bV 32 z.cps.toList)<=n
  ·rw[a8 (show (⇑(Mk.bV 32 z.cps.toList):Int)<=(n:Int) by left)];bv_omega;refine .inl ⟨⟨_,.of h1⟩,uY (fun w:Za=>V.str (tx w)) (fun a b e=>lq (V.str.inj e)) (cT (.of h1)) (ak ⋯) (fun w=>.bl (fE 20 w)) ?_ ?_⟩
   ·intro w hw H2 s2 R hR;have hwl:=sl2 w hw;ac_nf;refine⟨_,Tg.str,20,rfl,rfl,(fun y e=>by cases e;rw[bS];left),Zd,fun H3 s3=>?_⟩;have e:iF 20 (.str (tx w))=fE 20 w:=by show fE 20 (tx w).cps.toList=_;rw[bQ]
    rw[e];exact hR H3 s3
   ·intro D H2 hD s2 h2';refine⟨D,(Mk.bV 32 z.cps.toList).map (fE 20),rfl,.of (by rw[h2',aW];rfl),?_⟩;have e:((Mk.bV 32 z.cps.toList).map (fE 20)).all id=ki n (.str z):=by
     rw[ek];unfold j5;rw[a8 h2,fW];rfl
    rw[e];exact k H2 (s1.trans s2)
  ·have e:ki n (.str z)=false:=by rw[ek];unfold j5;rw[ay h2];rfl
   rw[e] at k;rw[ay (show ¬ (⇑(Mk.bV 32 z.cps.toList):Int)<=(n:Int) by left)];bv_omega;exact k H1 s1
 ·have hv:ki n x=false:=by
   cases x with
   | str z=>exact absurd ⟨z,rfl⟩ hs
   | _=>rfl
  have hne:=rz ht fun z e=>hs ⟨z,e⟩;rw[hv] at k;ac_nf;refine⟨trivial,t,ht,?_⟩;cases t<;>first
   | exact absurd rfl hne
   | exact k H (a9.refl _)
inductive gG (Ad:Ê) (vs:List V) (H:Hp) (Q:VK) (E:XK):Prop
 | mk (ca q:Addr) (al:Za) (ws:Zb) (r:Int) (gs:Zb) (q0:vs=[.ref ca,.ref q]) (q1:cx Ad H ca al ws r) (q2:bP al ws r) (q3:H q=some (.lst (gs.map V.int))) (q4:∀ H',a9 H H'->Q (.int ((gs.sum+(⇑gs:Int))%bI al ws)) H'):gG Ad vs H Q E
theorem uf (F:Ç K "check_number" "check_number" jH f fd) (T:Bl mg) (AF:È K mg Ad) (M_Code_many:Í P w K mg base (Á P w) Ad.Code "many" 1 ["self"] (dE Ad)):bR P w K mg base (Á P w) 2 f fd ["code","groups"] (gG Ad):=by
 exists["code","groups"];obtain⟨ca,q,al,ws,r,gs,rfl,C,ok,hq,k⟩:=h;refine⟨_,ao (aJ (aO cg (aO aZ (ax (rZ (K:=K) rfl rfl) T.sum Av (aj (À 1) ae)) (ax (aN (K:=K) rfl) T.len bB (aj (À 1) ae))) (bX M_Code_many au (hr.mono Zd) (À 0)))),?_⟩;obtain⟨dc,qc,hc1,hc2⟩:=id C;have a3:=ok.a3;have w3:=ok.w3;have hmany:0<bI al ws:=Int.pow_pos ⋯;symm;refine⟨q,gs,rfl,.of hq,_,.l hq,?_⟩;rw[af];symm;refine⟨dc,_,hc1,bC Zd Zd Zd al qc r,ca,al,ws,r,rfl,C,ok.a26,⋯,ok.w8,fun G1 t1=>?_⟩;have em:(⇑al:Int)^(⇑ws-1)=bI al ws:=rfl;rw[em];symm;exact⟨hmany,k G1 t1⟩
noncomputable def gO (al:Za) (n:Int) (H:Hp):V->Bool
 | .ref p=>match H p with
  | some (.lst xs)=>decide (2<=⇑xs)&&decide (⇑xs<=1400)&&xs.all (dC (tx al) n)
  | _=>false
 | _=>false
inductive ji (Ad:Ê) (vs:List V) (H:Hp) (Q:VK) (E:XK):Prop
 | mk (ca:Addr) (al:Za) (ws:Zb) (r:Int) (x:V) (t:Tg) (q0:vs=[.ref ca,x]) (q1:cx Ad H ca al ws r) (q2:eZ H x=some t) (q3:(∀ p o u,x=.ref p->H p≠some (.frz o u))) (q4:(∀ p xs,x=.ref p->H p=some (.lst xs)->∀ y∈xs,(∃ t,eZ H y=some t)/\∀ z,y=.str z->⇑z<=100000)) (q5:∀ H',a9 H H'->Q (.bl (gO al ⇑ws H x)) H'):ji Ad vs H Q E
theorem mK:aI ["code","thing","length"] ["code","thing"] (aw jF):=by subst_eqs
theorem ud (F:Ç K "are_words_of" "are_words_of" jF f fd) (T:Bl mg) (AF:È K mg Ad) (C_is_word:Å P w K mg base (Á P w) 1 "is_word" ["alphabet","length","thing"] m9) (M_Code_alphabet:Í P w K mg base (Á P w) Ad.Code "alphabet" 1 ["self"] (gm Ad)) (M_Code_weights:Í P w K mg base (Á P w) Ad.Code "weights" 1 ["self"] (jh Ad)):bR P w K mg base (Á P w) 2 f fd ["code","thing"] (ji Ad):=by
 specialize mK;obtain⟨ca,al,ws,r,x,t,rfl,C,ht,hfz,hit,k⟩:=h;refine⟨_,ah (cp ((ng (cU (cH (ax (fz .lst) T.isinstance bt_isinstance (aj (À 1) (aj (kM T.list km) ae))))) (kO (cU (qV jd jd (fh AF.v_FEWEST_CAME) (ax (aN (K:=K) rfl) T.len bB (aj (À 1) ae)) (fh AF.v_MOST_CAME))))).pt) (ao (aJ ky)) bu) (ah (eU (i:=2) mK.nd (ax (aN (K:=K) rfl) T.len bB (aj (bX M_Code_weights au (hr.mono Zd) (Ä 0)) ae))) (ao (aJ (ax (i9 (K:=K) rfl rfl) T.all pF (aj (fH ["word"] rfl ⟨rfl,by nofun,rfl,by nofun⟩ (.cons (j:=2) rfl (.inl (by ext)) (.cons (j:=0) rfl (.inl (by ext)) (.nil))) (by nofun) (ck (K:=K) rfl (À 1)) (fun _ _ _ _=>aL (i:=0) (show (["word","length","code"]:Ze).Nodup from by nofun)) (fun _ _ _ _=>cM) (fun _ _ _ _=>az C_is_word e8 (hr.mono Zd) (aj (bX M_Code_alphabet e8 (hr.mono Zd) (Ä 2)) (aj (Ä 1) (aj (À 0) ae))))) ae))))),?_⟩;grind
 by_cases hs:∃ p xs,x=.ref p/\H p=some (.lst xs)
 ·obtain⟨p,xs,rfl,hp⟩:=hs;have hty:=hit p xs rfl hp;have et:t=Tg.lst:=by
   have:mE (H p)=some t:=ht;rw[hp] at this;cases this;rfl
  subst et;have ek:gO al ⇑ws H (.ref p)=(decide (2<=⇑xs)&&decide (⇑xs<=1400)&&xs.all (dC (tx al) ⇑ws)):=by show (match H p with | some (.lst xs)=>_ | _=>false)=_;rw[hp]
  rw[ek] at k;refine⟨trivial,Tg.lst,ht,?_⟩;symm;refine⟨_,.l hp,?_⟩
  by_cases h2:2<=⇑xs
  ·rw[a8 h2,dq] at k;rw[a8 (show (2:Int)<=(⇑xs:Int) by left)];bv_omega
   by_cases h14:⇑xs<=1400
   ·rw[a8 h14,dq] at k;rw[a8 (show (⇑xs:Int)<=1400 by left)];bv_omega;show nn _ _ _;cbv;obtain⟨dc,qc,hc1,hc2⟩:=id C;grind;refine⟨dc,_,hc1,bC Zd Zd Zd al qc r,ca,al,ws,r,rfl,C,fun p1 H1 hp1 s1 h1=>⟨_,.l h1,?_⟩⟩;rw[af,hN];clear hN nn;symm;have hp1':=s1 _ _ hp;refine .inl ⟨⟨_,.of hp1'⟩,Gv (xs:=xs) (cT (.of hp1')) (ak ⋯) (fun y=>.bl (dC (tx al) ⇑ws y)) ?_ ?_⟩
    ·intro y hy H2 s2 R hR;obtain⟨⟨ty,hty1⟩,hty2⟩:=hty y hy;have C2:=C.same (s1.trans s2);obtain⟨dc2,qc2,hc21,hc22⟩:=id C2;symm;refine⟨dc2,_,hc21,bC Zd Zd Zd al qc2 r,ca,al,ws,r,rfl,C2,?_⟩;exact⟨tx al,⇑ws,y,ty,rfl,il (s1.trans s2) hty1,hty2,fun H3 s3=>hR H3 s3⟩
    ·intro D H2 hD s2 h2';refine⟨D,xs.map (dC (tx al) ⇑ws),rfl,.of (by rw[h2',aW];rfl),?_⟩;have e:(xs.map (dC (tx al) ⇑ws)).all id=xs.all (dC (tx al) ⇑ws):=by rw[fW];rfl
     rw[e];exact k H2 (s1.trans s2)
   ·rw[ay h14,gq] at k;rw[ay (show ¬ (⇑xs:Int)<=1400 by left)];bv_omega;exact k H (a9.refl _)
  ·rw[ay h2,gq,gq] at k;rw[ay (show ¬ (2:Int)<=(⇑xs:Int) by left)];bv_omega;exact k H (a9.refl _)
 ·have hv:gO al ⇑ws H x=false:=by
   cases x with
   | ref p =>
    show (match H p with | some (.lst xs)=>_ | _=>false)=_;split
    ·rename_i xs hp;exact absurd ⟨p,xs,rfl,hp⟩ hs
    ·rfl
   | _=>rfl
  have hne:t≠Tg.lst:=fun e=>by
   subst e;cases x with
   | ref a =>
    have h':mE (H a)=some .lst:=ht;cases e:H a with
    | none=>rw[e] at h';cases h'
    | some o=>rw[e] at h';cases o with
     | lst xs=>exact hs ⟨a,xs,rfl,e⟩
     | frz ob u=>exact hfz a ob u rfl e
     | _=>cases h'
   | _=>cases ht
  rw[hv] at k;refine⟨trivial,t,ht,?_⟩;cases t<;>first
   | exact absurd rfl hne
   | exact k H (a9.refl _)
inductive m8 (Ad:Ê) (vs:List V) (H:Hp) (Q:VK) (E:XK):Prop
 | mk (a:Addr) (al z:Za) (ws:Zb) (r n:Int) (q0:vs=[.ref a,.str (tx z),.int n]) (q1:cx Ad H a al ws r) (q2:yE al z) (q3:0<=n) (q4:Q (.str (tx (ç al z n))) H):m8 Ad vs H Q E
theorem ig:aI ["code","word","number","alphabet","m","at","further"] ["code","word","number"] (aw nt):=by subst_eqs
theorem yc (F:Ç K "exchanged" "exchanged" nt f fd) (T:Bl mg) (AF:È K mg Ad) (M_Code_alphabet:Í P w K mg base (Á P w) Ad.Code "alphabet" 1 ["self"] (gm Ad)):bR P w K mg base (Á P w) 2 f fd ["code","word","number"] (m8 Ad):=by
 specialize ig;obtain⟨a,al,z,ws,r,n,rfl,hC,ok,hn,k⟩:=h;refine⟨_,ah (aP (i:=3) ig.nd (bX M_Code_alphabet au (hr.mono Zd) (À 0))) (ah (aP (i:=4) ig.nd (ax (aN (K:=K) rfl) T.len bB (aj (À 3) ae))) (ah (aP (i:=5) ig.nd (aO cg (À 2) (ax (aN (K:=K) rfl) T.len bB (aj (À 1) ae)))) (ah (aP (i:=6) ig.nd (aO aZ (aO cg (aO mZ (À 2) (ax (aN (K:=K) rfl) T.len bB (aj (À 1) ae))) (aO jr (À 4) aA)) aA)) (ao (aJ (aO aZ (aO aZ (cS (i7 (K:=K) rfl) (À 1) eF (dh (À 5))) (cL (eQ (K:=K) rfl) (À 3) (aO cg (aO aZ (eR (K:=K) rfl jb PySem.F.slot_str_index PySem.F.type_str_index wZ (À 3) (aj (cL (eQ (K:=K) rfl) (À 1) (À 5) (fun _ _=>rfl)) ae)) (À 6)) (À 4)) (fun _ _=>rfl))) (cS (i7 (K:=K) rfl) (À 1) (dh (aO aZ (À 5) aA)) eF))))))),?_⟩;grind;obtain⟨dx,q,h1,h2⟩:=id hC;refine⟨dx,_,h1,bC Zd Zd Zd al q r,a,al,ws,r,rfl,hC,?_⟩;cbv;have z3:=ok.z3;have z8:=ok.z8;have a3:=ok.a3;have a26:=ok.a26;have big:∀ {u:Nat},u<=100->u<=sizeLine:=fun hu=>aM (ak ⋯);grind;refine⟨by rw[bS];exact big ⋯,?_⟩;rw[bS,hN];clear hN nn;grind;rw[bS];refine⟨big ⋯,⋯,?_⟩;obtain⟨i,hi⟩:=cY (bY n (show (⇑z:Int)≠0 by left));have hil:i<⇑z:=by have:=bZ n (show 0<(⇑z:Int) by left);left
 rw[hi,hN];clear hN nn;grind;rw[bS];refine⟨big ⋯,⟨⋯,Int.lt_trans (show (⇑z:Int)<100 by left) Zd⟩,⋯,?_⟩;unfold ç at k;rw[hi,c8] at k;generalize n/(⇑z:Int)%((⇑al:Int)-1)+1=fu at k;cbv;symm;have c0:z[i]?=some (z.getD i 0):=by rw[aT,aD hil];rfl
 have cm:z.getD i 0∈al:=ok.mem _ (bL c0);have l1:∀ c:Nat,⇑([c]:Za)=1:=fun _=>rfl;have e1:(i:Int)+1=((i+1:Nat):Int):=rfl;have lA:⇑(z.take i)=i:=by rw[bK];left
 have fo:Txt.find (tx al) ⟨#[z.getD i 0]⟩=((al.idxOf (z.getD i 0):Nat):Int):=by
  have:=yX (x:=tx al) (c:=z.getD i 0) (by rw[bQ];exact cm)
  rwa [bQ] at this
 have hb:∀ x:Int,0<=x%(⇑al:Int)/\x%(⇑al:Int)<⇑al:=fun x=>⟨bY _ ⋯,bZ _ ⋯⟩;simp only[bS,bQ,e1,wH,wG];refine⟨big ⋯,by rfl,big ⋯,_,df c0,?_⟩;rw[fo];refine⟨⋯,⋯,big ⋯,_,eP (hb _).1 (Mk.getD_at (hb _)),?_⟩;simp only[HL,vT,bS,aF,l1,lA,cq];exact⟨big ⋯,big ⋯,big ⋯,k⟩
inductive eX (Ad:Ê) (vs:List V) (H:Hp) (Q:VK) (E:XK):Prop
 | mk (b ca dn de f:Addr) (es:List Ã) (al:Za) (ws:Zb) (r n:Int) (q0:vs=[.ref b,.ref f]) (q1:dB Ad H b ca dn de es) (q2:cx Ad H ca al ws r) (q3:bP al ws r) (q4:rV xO Ad.tb H f) (q5:uH (es.map (·.num)) n) (q6:n<bI al ws) (q7:∀ H',a9 H H'->Q (.int n) H'):eX Ad vs H Q E
theorem gJ:aI ["self","is_barred","k"] ["self","is_barred"] (aw ia):=by subst_eqs
theorem pL (F:Ç K "least_free" "Book.least_free" ia f fd) (T:Bl mg) (AF:È K mg Ad) (M_Code_many:Í P w K mg base (Á P w) Ad.Code "many" 1 ["self"] (dE Ad)):bR P w K mg base (Á P w) 2 f fd ["self","is_barred"] (eX Ad):=by
 refine F.æ (k:=1) gJ ?_ (fun cdv A outer s H vs Q E hr h=>?_)
 ·bv_decide
 ·obtain⟨b,ca,dn,de,f,es,al,ws,r,n,rfl,B,C,ok,Fb,Lf,hn,k⟩:=h;obtain⟨dx,h1⟩:=B.bk;have hu:=hr.jQ;have hu1:=pd hr;refine⟨_,ah (aP (i:=2) gJ.nd aA) (ah (qU cN ((ng (bF (pP (K:=K) rfl hu1) (À 2) (c6 (K:=K) rfl (À 0)) (by ext)) (kO (cH (vy (q:=xO) (Pt:=Ad.tb) (À 1) hr (aj (À 2) ae))))).pt) (ao (aP (i:=2) gJ.nd (aO aZ (À 2) aA)))) (ah (cp (bF GQ (À 2) (bX M_Code_many au (hr.mono Zd) (c6 (K:=K) rfl (À 0))) (bw _)) (ao (dX d0 AF.q_TooMany AF.g_TooMany di rfl (aj bU ae))) bu) (ao (aJ (À 2))))),?_⟩;grind;cbv;grind;refine yD (fun σ H'=>∃ k:Int,0<=k/\k<=n/\σ=[some (V.ref b),some (V.ref f),some (V.int k)]/\H'=H) (fun σ _=>match σ with | [_,_,some (V.int k)]=>(n-k).toNat | _=>0) ⟨0,Zd,Lf.1,rfl,rfl⟩ ?_;rintro σ H' ⟨j,j0,jn,rfl,rfl⟩;symm;refine⟨_,dx,_,_,h1,AF.c_Book,AF.n_Book_by_number,i8 ca dn de,?_⟩;refine .inr ⟨_,.inl ⟨_,.inl j,.inl B.hn,rfl,rfl⟩,?_⟩;rw[Mb B.nn]
  by_cases hm:j∈es.map (·.num)
  ·rw[a8 hm,ai rfl];have jl:j≠n:=fun e=>Lf.2.1 (by rw[←e];exact hm);refine⟨fun σ G=>σ=[some (V.ref b),some (V.ref f),some (V.int (j+1))]/\G=H',?_,rfl,rfl⟩;rintro σ G ⟨rfl,rfl⟩;exact⟨⟨j+1,⋯,⋯,rfl,rfl⟩,show (n-(j+1)).toNat<(n-j).toNat by left⟩
  ·rw[ay hm,ag (by decide)];have je:j=n:=by
    rcases Int.lt_or_eq_of_le jn with h | h
    ·exact absurd (Lf.2.2 j j0 h) hm
    ·exact h
   subst je;refine⟨Fb,Fb,trivial,?_⟩;cbv;obtain⟨dc,qc,hc1,hc2⟩:=id C;grind;refine⟨_,dx,_,_,h1,AF.c_Book,AF.n_Book_basis,kj ca dn de,?_⟩;refine⟨dc,_,hc1,bC Zd Zd Zd al qc r,ca,al,ws,r,rfl,C,ok.a26,by have:=ok.w3;left,ok.w8,fun G1 t1=>?_⟩;symm;rw[ay (show ¬ (⇑al:Int)^(⇑ws-1)<=j by have:j<(⇑al:Int)^(⇑ws-1):=hn;left)];bv_omega;show nn _ _ _;cbv;symm;exact k G1 t1
noncomputable def dY:Sp:=fun vs H Q _=>∃ (c:Int) (k:Nat),vs=[.int c,.int (k:Int)]/\k<=1000/\Q (.int (jm c k%2147483629)) H
theorem ye (F:Ç K "_law_mixed" "_law_mixed" ny f fd) (T:Bl mg) (AF:È K mg Ad) (C_law_long:Å P w K mg base (Á P w) 1 "_law_long" ["_law_cell","_law_k"] tS):bR P w K mg base (Á P w) 2 f fd ["_law_cell","_law_k"] dY:=by
 exists["_law_cell","_law_k"];obtain⟨c,k,rfl,hk,kq⟩:=h;refine⟨_,ao (aJ (aO cg (az C_law_long au (hr.mono Zd) (aj (À 0) (aj (À 1) ae))) aA)),?_⟩;symm;exact⟨c,k,rfl,hk,Zd,kq⟩
noncomputable def tT:Sp:=fun vs H Q _=>∃ (w m:Nat) (p:Addr) (fnd:Zb),vs=[.int w,.ref p,.int m]/\H p=some (.lst (fnd.map V.int))/\⇑fnd<=1000/\∀ H',a9 H H'->Q (.bl (Mk.Î m w&&(fnd.isEmpty||Mk.Î m ((w:Int)-fnd.getLastD 0)))) H'
theorem zG (F:Ç K "_law_safe" "_law_safe" qk f fd) (T:Bl mg) (AF:È K mg Ad) (C_law_divisor:Å P w K mg base (Á P w) 1 "_law_divisor" ["_law_one","_law_other"] nK):bR P w K mg base (Á P w) 2 f fd ["_law_weight","_law_found","_law_many"] tT:=by
 exists["_law_weight","_law_found","_law_many"];obtain⟨w,m,p,fnd,rfl,hp,hl,k⟩:=h;refine⟨_,ah (cp (bF (iB (K:=K) rfl hu) (az C_law_divisor au (hr.mono Zd) (aj (À 0) (aj (À 2) ae))) aA (bw _)) (ao (aJ ky)) bu) (ao (aJ (K3 (cK (dI (K:=K) rfl hu) (À 1) (cR ae) (bw _)) (mh (cK (dI (K:=K) rfl hu) (az C_law_divisor au (hr.mono Zd) (aj (ax rY T.abs Au (aj (aO jr (À 0) (cL (eQ (K:=K) rfl) (À 1) (CN yC aA) (fun _ _=>rfl))) ae)) (aj (À 2) ae))) aA (bw _)))))),?_⟩;grind;refine⟨w,m,rfl,?_⟩;symm;have e1:decide (((Nat.gcd w m:Nat):Int)=1)=Mk.Î m w:=by
  unfold Mk.Î;rw[oE];show ((Nat.gcd w m:Nat):Int)=1↔Nat.gcd w m=1;left
 rw[e1];cases hc:Mk.Î m w with
 | false =>rw[hc,gq] at k;bv_omega;exact k H (a9.refl _)
 | true =>
  rw[hc,dq] at k;bv_omega;show nn _ _ _;cbv;symm;refine⟨bc _,fun p1 H1 hp1 s1 h1=>⟨_,_,.of (s1 _ _ hp),.of h1,Ej fnd,rfl,?_⟩⟩;cases hf:fnd with
  | nil =>rw[hf] at k;rw[ai (show qK (([]:Zb).map V.int) []=true from rfl)];exact k H1 s1
  | cons x y =>
   have hlast:(fnd.map V.int).getLast?=some (.int (fnd.getLastD 0)):=by rw[List.getLast?_map,jT,hf,List.getLast?_cons];rfl
   have he:fnd.isEmpty=false:=by rw[hf];rfl
   rw[he,Bool.false_or] at k;rw[ag (by simp [qK])];refine⟨_,_,.l (s1 _ _ hp),wq hlast,?_⟩;symm;refine⟨((w:Int)-fnd.getLastD 0).natAbs,m,rfl,?_⟩;symm;have e2:decide (((Nat.gcd ((w:Int)-fnd.getLastD 0).natAbs m:Nat):Int)=1)=Mk.Î m ((w:Int)-fnd.getLastD 0):=by unfold Mk.Î;rw[oE];show ((Nat.gcd ((w:Int)-fnd.getLastD 0).natAbs m:Nat):Int)=1↔Nat.gcd ((w:Int)-fnd.getLastD 0).natAbs m=1;left
   rw[e2];exact k H1 s1
noncomputable def eN (H:Hp) (m:Int):V->Bool
 | .ref p=>match H p with
  | some (.lst xs)=>decide (3<=⇑xs)&&decide (⇑xs<=8)&&xs.all (cI m)
  | _=>false
 | _=>false
noncomputable def nC:Sp:=fun vs H Q _=>∃ (x:V) (t:Tg) (m:Int),vs=[x,.int m]/\eZ H x=some t/\(∀ p o u,x=.ref p->H p≠some (.frz o u))/\(∀ p xs,x=.ref p->H p=some (.lst xs)->⇑xs<=1000/\∀ y∈xs,∃ t,eZ H y=some t) ∧
 ∀ H',a9 H H'->Q (.bl (eN H m x)) H'
theorem vk (F:Ç K "are_weights" "are_weights" kU f fd) (T:Bl mg) (AF:È K mg Ad) (C_is_below:Å P w K mg base (Á P w) 2 "is_below" ["thing","bound"] gY):bR P w K mg base (Á P w) 3 f fd ["thing","m"] nC:=by
 exists["thing","m"];obtain⟨x,t,m,rfl,ht,hfz,hit,k⟩:=h;refine⟨_,ah (cp ((ng (cU (cH (ax (fz .lst) T.isinstance bt_isinstance (aj (À 0) (aj (kM T.list km) ae))))) (kO (cU (qV jd jd aA (ax (aN (K:=K) rfl) T.len bB (aj (À 0) ae)) aA)))).pt) (ao (aJ ky)) bu) (ao (aJ (ax (i9 (K:=K) rfl rfl) T.all pF (aj (fH ["weight"] rfl ⟨rfl,by nofun,rfl,by nofun⟩ (.cons (j:=1) rfl (.inl (by ext)) (.nil)) (by nofun) (ck (K:=K) rfl (À 0)) (fun _ _ _ _=>aL (i:=0) (show (["weight","m"]:Ze).Nodup from by nofun)) (fun _ _ _ _=>cM) (fun _ _ _ _=>az C_is_below e8 (hr.mono Zd) (aj (À 0) (aj (Ä 1) ae)))) ae)))),?_⟩
 by_cases hs:∃ p xs,x=.ref p/\H p=some (.lst xs)
 ·obtain⟨p,xs,rfl,hp⟩:=hs;obtain⟨hl,hty⟩:=hit p xs rfl hp;have et:t=Tg.lst:=by
   have:mE (H p)=some t:=ht;rw[hp] at this;cases this;rfl
  subst et;have ek:eN H m (.ref p)=(decide (3<=⇑xs)&&decide (⇑xs<=8)&&xs.all (cI m)):=by show (match H p with | some (.lst xs)=>_ | _=>false)=_;rw[hp]
  rw[ek] at k;ac_nf;refine⟨trivial,Tg.lst,ht,?_⟩;ac_nf;refine⟨_,.l hp,?_⟩
  by_cases h3:3<=⇑xs
  ·rw[a8 h3,dq] at k;rw[a8 (show (3:Int)<=(⇑xs:Int) by left)];bv_omega
   by_cases h8:⇑xs<=8
   ·rw[a8 h8,dq] at k;rw[a8 (show (⇑xs:Int)<=8 by left)];bv_omega;refine .inl ⟨⟨_,.of hp⟩,Gv (xs:=xs) (cT (.of hp)) (ak ⋯) (fun y=>.bl (cI m y)) ?_ ?_⟩
    ·intro y hy H2 s2 R hR;obtain⟨ty,hty⟩:=hty y hy;have hty2:eZ H2 y=some ty:=il s2 hty;ac_nf;refine⟨y,ty,m,rfl,hty2,?_⟩;exact hR H2 (a9.refl _)
    ·intro D H2 hD s2 h2;refine⟨D,xs.map (cI m),rfl,.of (by rw[h2,aW];rfl),?_⟩;have e:(xs.map (cI m)).all id=xs.all (cI m):=by rw[fW];rfl
     rw[e];exact k H2 s2
   ·rw[ay h8,gq] at k;rw[ay (show ¬ (⇑xs:Int)<=8 by left)];bv_omega;exact k H (a9.refl _)
  ·rw[ay h3,gq,gq] at k;rw[ay (show ¬ (3:Int)<=(⇑xs:Int) by left)];bv_omega;exact k H (a9.refl _)
 ·have hv:eN H m x=false:=by
   cases x with
   | ref p =>
    show (match H p with | some (.lst xs)=>_ | _=>false)=_;split
    ·rename_i xs hp;exact absurd ⟨p,xs,rfl,hp⟩ hs
    ·rfl
   | _=>rfl
  have hne:t≠Tg.lst:=fun e=>by
   subst e;cases x with
   | ref a =>
    have h':mE (H a)=some .lst:=ht;cases e:H a with
    | none=>rw[e] at h';cases h'
    | some o=>rw[e] at h';cases o with
     | lst xs=>exact hs ⟨a,xs,rfl,e⟩
     | frz ob u=>exact hfz a ob u rfl e
     | _=>cases h'
   | _=>cases ht
  rw[hv] at k;ac_nf;refine⟨trivial,t,ht,?_⟩;cases t<;>first
   | exact absurd rfl hne
   | exact k H (a9.refl _)
inductive ik (Ad:Ê) (vs:List V) (H:Hp) (Q:VK) (E:XK):Prop
 | mk (a:Addr) (al:Za) (ws:Zb) (r:Int) (x:V) (t:Tg) (q0:vs=[.ref a,x]) (q1:cx Ad H a al ws r) (q2:bP al ws r) (q3:eZ H x=some t) (q4:(cI ((⇑al:Int)^(⇑ws-1)) x=false->∀ H',a9 H H'->E (.ref Ad.NoNumber) none H')) (q5:(∀ k,x=.int k->0<=k->k<(⇑al:Int)^(⇑ws-1)->∀ H',a9 H H'->Q (.str (tx (Mk.bD al (Mk.kF ⇑al ws r k)))) H')):ik Ad vs H Q E
theorem eV:aI ["self","k","m","left","ahead","weight","lasts"] ["self","k"] (aw nj):=by subst_eqs
theorem xZ (F:Ç K "word" "Code.word" nj f fd) (T:Bl mg) (AF:È K mg Ad) (C_spelled:Å P w K mg base (Á P w) 1 "spelled" ["alphabet","places"] qz) (C_are_good:Å P w K mg base (Á P w) 1 "are_good" ["m","weights","rest","places"] kB) (C_is_below:Å P w K mg base (Á P w) 2 "is_below" ["thing","bound"] gY) (M_Code_many:Í P w K mg base (Á P w) Ad.Code "many" 1 ["self"] (dE Ad)):bR P w K mg base (Á P w) 3 f fd ["self","k"] (ik Ad):=by
 specialize eV;obtain⟨a,al,ws,r,x,t,rfl,⟨dx,q,h1,h2⟩,ok,ht,kE,kQ⟩:=h;refine⟨_,ah (cp (cU (cH (az C_is_below au (hr.mono Zd) (aj (À 1) (aj (bX M_Code_many au (hr.mono Zd) (Ä 0)) ae))))) (ao (dX d0 AF.q_NoNumber AF.g_NoNumber di rfl (aj bU ae))) bu) (ah (eU (i:=2) eV.nd (ax (aN (K:=K) rfl) T.len bB (aj (c6 (K:=K) rfl (Ä 0)) ae))) (ah (aP (i:=3) eV.nd (À 1)) (ah (eU (i:=4) eV.nd (cR ae)) (ah (gH cN rfl (ck (K:=K) rfl (cS (i7 (K:=K) rfl) (c6 (K:=K) rfl (Ä 0)) (dh aA) eF)) (aL (i:=5) eV.nd) (ah (eG (eR (K:=K) rfl gC PySem.F.slot_list_insert PySem.F.type_list_insert E8 (Ä 4) (aj aA (aj (aO cg (À 3) (Ä 2)) ae)))) (ao (aP (i:=3) eV.nd (aO mZ (À 3) (Ä 2)))))) (ah (lE (i:=6) ["last"] eV.nd rfl (Or.inl rfl) rfl ⟨rfl,by nofun,rfl,by nofun⟩ (.cons (j:=2) rfl (.inl (by ext)) (.cons (j:=0) rfl (.inl (by ext)) (.cons (j:=4) rfl (.inl (by ext)) (.nil)))) (by nofun) (eT T.range (aj (Ä 2) ae)) (fun _ _ _ _=>aL (i:=0) (show (["last","m","self","ahead"]:Ze).Nodup from by nofun)) (fun _ _ _ _=>mi (cH (az C_are_good e8 (hr.mono Zd) (aj (Ä 1) (aj (c6 (K:=K) rfl (Ä 2)) (aj (c6 (K:=K) rfl (Ä 2)) (aj (aO aZ (Ä 3) (cR (aj (À 0) ae))) ae))))))) (fun _ _ _ _=>À 0)) (ao (aJ (az C_spelled au (hr.mono Zd) (aj (c6 (K:=K) rfl (Ä 0)) (aj (aO aZ (Ä 4) (À 6)) ae)))))))))),?_⟩;have g3:=ok.a3;have g26:=ok.a26;have w3:=ok.w3;have w8:=ok.w8;rw[dR];symm;refine⟨dx,_,h1,bC Zd Zd Zd al q r,a,al,ws,r,rfl,⟨dx,q,h1,h2⟩,g26,⋯,w8,fun H1 s1=>?_⟩;symm;refine⟨x,t,_,rfl,il s1 ht,?_⟩;cases hG:cI ((⇑al:Int)^(⇑ws-1)) x with
 | false =>bv_omega;exact⟨Zd,kE hG H1 s1⟩
 | true =>
  bv_omega;obtain⟨k,rfl⟩:∃ k,x=.int k:=by
   cases x with
   | int k=>exact⟨k,rfl⟩
   | _=>cases hG
  have hG':(decide (0<=k)&&decide (k<(⇑al:Int)^(⇑ws-1)))=true:=hG;rw[bT,bN,bN] at hG';have kQ':=kQ k rfl hG'.1 hG'.2;have h11:=s1 _ _ h1;have h21:=s1 _ _ h2;rw[dR];symm;refine⟨_,dx,_,_,h11,AF.c_Code,AF.n_Code_letters,ei al q r,?_⟩;symm;rw[bS];refine⟨aM (ak ⋯),?_⟩;symm;rw[dR];symm;rw[dR];symm;refine⟨bc _,fun p H2 hp s2 hp2=>?_⟩;rw[dR];symm;refine⟨_,dx,_,_,s2 _ _ h11,AF.c_Code,AF.n_Code_factors,gx al q r,?_⟩;symm;refine⟨_,.of (s2 _ _ h21),fun q1 H3 hq1 s3 h3=>.inl ⟨⟨_,.of h3⟩,?_⟩⟩;rw[show (1:Int)=((1:Nat):Int) from rfl,gj,←iw] at h3;have hp3:=s3 _ _ hp2;have hqp:q1≠p:=fun e=>by rw[e,hp2] at hq1;cases hq1
  have hap:a≠p:=fun e=>by rw[←e,h11] at hp;cases hp
  have hqq:q≠p:=fun e=>by rw[←e,h21] at hp;cases hp
  have h13:=s3 _ _ (s2 _ _ h11);have h23:=s3 _ _ (s2 _ _ h21);have m0:(0:Int)<⇑al:=⋯
  refine u6 (xs:=(ws.drop 1).map V.int) (fun i σ H'=>(∀ b o,b≠p->H3 b=some o->H' b=some o)/\H' p=some (.lst ((Mk.kh ⇑al i k).map V.int))/\∃ o,σ=[some (.ref a),some (.int k),some (.int ⇑al),some (.int (k/(⇑al:Int)^i)),some (.ref p),o,none]) ?_ ?_ ?_ ?_
  ·exact⟨fun _ _ _ h=>h,hp3,none,by rw[Int.pow_zero,Int.ediv_one]⟩
  ·rintro i σ H' _ ⟨f1,_⟩;exact .of (f1 _ _ hqp h3)
  ·rintro i x σ H' hx ⟨f1,f2,o,rfl⟩;have hi:i<⇑ws-1:=by
    have:=(br.mp hx).1;rw[af,cq] at this;exact this
   ac_nf;refine⟨.inl ⟨rfl,_,.of f2⟩,m0,_,f2,Int.le_refl 0,Zd,?_,⟨m0,Int.lt_of_lt_of_le (show (⇑al:Int)<1000 by left) Zd⟩,fun b o hb e=>?_,?_,some x,?_⟩
   ·rw[af,Mk.lB];exact ak ⋯
   ·rw[aG hb];exact f1 b o hb e
   ·rw[aC,Mk.wL m0];rfl
   ·rw[Int.ediv_ediv_of_nonneg (Int.pow_nonneg (iS m0)),Int.pow_succ]
  ·rintro σ H' ⟨f1,f2,o,rfl⟩;rw[af,cq] at f2;have f13:=f1 _ _ hap h13;have f23:=f1 _ _ hqq h23;have fm:=Mk.uS m0 (⇑ws-1) k;have fl:=Mk.lB ⇑al (⇑ws-1) k;obtain⟨l1,l2,l3,-⟩:=Mk.oN (r:=r) m0 ⋯ ok.wm (Mk.ic.mp ok.safe).1 (show ⇑(Mk.kh ⇑al (⇑ws-1) k)+1=⇑ws by left);ac_nf;refine⟨⋯,(by omega),?_⟩;refine zi V.int hU (yu ⇑al) (by rw[Mk.qP];exact ak ⋯) (fun x=>Mk.good ⇑al ws r (Mk.kh ⇑al (⇑ws-1) k++[x])) V.int ?_ ?_ ?_
   ·intro x hx H5 s5 R hR;have hxm:=Mk.hX.mp hx;ac_nf;refine⟨_,dx,_,_,s5 _ _ f13,AF.c_Code,AF.n_Code_factors,gx al q r,?_⟩;refine⟨_,dx,_,_,s5 _ _ f13,AF.c_Code,AF.n_Code_remainder,mI al q r,?_⟩;refine⟨aM (ak Zd),fun p1 H6 hp1 s6 h6=>?_⟩;have f26:=s6 _ _ (s5 _ _ f2);refine⟨_,_,f26,h6,by rw[af,fl];show ⇑ws-1+1<=sizeLine;exact aM (ak ⋯),fun p2 H7 hp2 s7 h7=>?_⟩;refine⟨_,q,ws,r,p2,Mk.kh ⇑al (⇑ws-1) k++[x],rfl,m0,s7 _ _ (s6 _ _ (s5 _ _ f23)),by rw[h7,bM];rfl,⋯,ok.ô,?_,fun H8 s8=>⟨_,rfl,hR H8 ((s6.trans s7).trans s8)⟩⟩;intro y hy;rcases bG.mp hy with hy | hy
    ·have:=fm y hy;left
    ·rw[b9.mp hy];left
   ·intro x hx _ H5 s5 R hR;ac_nf;exact hR H5 (a9.refl _)
   ·intro D H5 hD s5 h5;have f15:=s5 _ _ f13;have f25:=s5 _ _ f2;have h5':H5 D=some (.lst ([Mk.tm ⇑al ws r (Mk.kh ⇑al (⇑ws-1) k)].map V.int)):=by
     rw[h5,←l1];rfl
    ac_nf;refine⟨_,dx,_,_,f15,AF.c_Code,AF.n_Code_letters,ei al q r,_,_,f25,h5',by rw[af,fl];show ⇑ws-1+1<=sizeLine;exact aM (ak ⋯),fun p1 H6 hp1 s6 h6=>?_⟩;refine⟨tx al,p1,Mk.kF ⇑al ws r k,rfl,by rw[bS];left,by rw[h6,←bM];rfl,?_,?_,fun H7 s7=>?_⟩
    ·unfold Mk.kF;rw[aF,fl];show ⇑ws-1+1<=_;left
    ·rw[bQ];unfold Mk.kF;intro y hy;rcases bG.mp hy with hy | hy
     ·exact fm y hy
     ·rw[b9.mp hy];exact⟨l2,l3⟩
    ·rw[bQ];refine kQ' H7 fun b o e=>?_;have hbp:b≠p:=fun e2=>by rw[←e2,s1 _ _ e] at hp;cases hp
     exact s7 _ _ (s6 _ _ (s5 _ _ (f1 b o hbp (s3 _ _ (s2 _ _ (s1 _ _ e))))))
inductive dG (Ad:Ê) (vs:List V) (H:Hp) (Q:VK) (E:XK):Prop
 | mk (a:Addr) (al:Za) (ws:Zb) (r:Int) (x:V) (t:Tg) (q0:vs=[.ref a,x]) (q1:cx Ad H a al ws r) (q2:bP al ws r) (q3:eZ H x=some t) (q4:(∀ z,x=.str z->⇑z<=100000)) (q5:∀ H',a9 H H'->Q (.bl (iG (tx al) ws r x)) H'):dG Ad vs H Q E
theorem sF (F:Ç K "has_good" "Code.has_good" jg f fd) (T:Bl mg) (AF:È K mg Ad) (C_is_good:Å P w K mg base (Á P w) 2 "is_good" ["alphabet","weights","rest","word"] qx):bR P w K mg base (Á P w) 3 f fd ["self","thing"] (dG Ad):=by
 exists["self","thing"];obtain⟨a,al,ws,r,x,t,rfl,⟨dx,q,h1,h2⟩,ok,ht,hz,k⟩:=h;refine⟨_,ao (aJ (az C_is_good au (hr.mono Zd) (aj (c6 (K:=K) rfl (À 0)) (aj (c6 (K:=K) rfl (À 0)) (aj (c6 (K:=K) rfl (À 0)) (aj (À 1) ae)))))),?_⟩;ac_nf;refine⟨_,dx,_,_,h1,AF.c_Code,AF.n_Code_letters,ei al q r,?_⟩;refine⟨_,dx,_,_,h1,AF.c_Code,AF.n_Code_factors,gx al q r,?_⟩;refine⟨_,dx,_,_,h1,AF.c_Code,AF.n_Code_remainder,mI al q r,?_⟩;have g3:=ok.a3;have g26:=ok.a26;have w8:=ok.w8;refine⟨tx al,q,ws,r,x,t,rfl,h2,⋯,by rw[bS];left,by rw[bS];left,ok.ô,ht,hz,k⟩
inductive jP (Ad:Ê) (vs:List V) (H:Hp) (Q:VK) (E:XK):Prop
 | mk (a:Addr) (al z:Za) (ws:Zb) (r:Int) (o:Option Flt) (v:V) (q0:vs=[.ref a,.str (tx z),v]) (q1:cx Ad H a al ws r) (q2:yE al z) (q3:((o=none/\v=.non)∨∃ t f,o=some f/\v=.ref t/\H t=some (.tup [.str (ö f.isL),.int f.n])/\0<=f.n)) (q4:Q (.str (tx (j8 al z o))) H):jP Ad vs H Q E
theorem vm (F:Ç K "as_it_comes" "as_it_comes" kW f fd) (T:Bl mg) (AF:È K mg Ad) (C_swapped:Å P w K mg base (Á P w) 1 "swapped" ["word","number"] vM) (C_exchanged:Å P w K mg base (Á P w) 2 "exchanged" ["code","word","number"] (m8 Ad)):bR P w K mg base (Á P w) 3 f fd ["code","word","fault"] (jP Ad):=by
 exists["code","word","fault"];obtain⟨a,al,z,ws,r,o,v,rfl,hC,ok,ho,k⟩:=h;refine⟨_,ah (cp (bF yj (À 2) jB (bw _)) (ao (aJ (À 1))) bu) (ah (cp (bF (dI (K:=K) rfl hu) (cL (eQ (K:=K) rfl) (À 2) aA (fun _ _=>rfl)) bU (bw _)) (ao (aJ (az C_exchanged au (hr.mono Zd) (aj (À 0) (aj (À 1) (aj (cL (eQ (K:=K) rfl) (À 2) aA (fun _ _=>rfl)) ae)))))) bu) (ao (aJ (az C_swapped au (hr.mono Zd) (aj (À 1) (aj (cL (eQ (K:=K) rfl) (À 2) aA (fun _ _=>rfl)) ae)))))),?_⟩;rcases ho with ⟨rfl,rfl⟩ | ⟨t,f,rfl,rfl,ht,hn⟩
 ·ac_nf;exact k
 grind;show nn _ _ _;cbv;grind;refine⟨_,_,.t ht,df (j:=0) rfl,?_⟩;symm;obtain⟨f1,f2,fl,fn⟩:=f;cases fl with
 | true =>rw[ai (show decide (ö true=Str.ofString "letter")=true from rfl)];exact⟨_,_,.t ht,df (j:=1) rfl,a,al,z,ws,r,fn,rfl,hC,ok,hn,k⟩
 | false =>rw[ag (show ¬ decide (ö false=Str.ofString "letter")=true from by decide)];show nn _ _ _;cbv;symm;exact⟨_,_,.t ht,df (j:=1) rfl,z,fn,rfl,ok.z3,ok.z8,hn,k⟩
noncomputable def tP:Sp:=fun vs H Q _=>∃ (x:V) (t:Tg),vs=[x]/\eZ H x=some t/\(∀ p xs,x=.ref p->H p=some (.tup xs)->⇑xs<=1000/\∀ y∈xs,(∃ t,eZ H y=some t)/\∀ z,y=.str z->⇑z<=10000)/\∀ H',a9 H H'->Q (.bl (xK H x)) H'
theorem zA (F:Ç K "is_entry" "is_entry" qa f fd) (T:Bl mg) (AF:È K mg Ad) (C_are_letters:Å P w K mg base (Á P w) 1 "are_letters" ["thing","most"] jO) (C_are_words:Å P w K mg base (Á P w) 2 "are_words" ["thing","most"] rk):bR P w K mg base (Á P w) 3 f fd ["thing"] tP:=by
 exists["thing"];obtain⟨x,t,rfl,ht,hit,k⟩:=h;refine⟨_,ah (cp ((ng (cU (cH (ax (fz .tup) T.isinstance bt_isinstance (aj (À 0) (aj (kM T.tuple Fy) ae))))) (ng (bF (dI (K:=K) rfl hu) (ax (aN (K:=K) rfl) T.len bB (aj (À 0) ae)) aA (bw _)) (kO (cU (cH (ax (fz .str) T.isinstance bt_isinstance (aj (cL (eQ (K:=K) rfl) (À 0) aA (fun _ _=>rfl)) (aj (kM T.str uJ) ae)))))))).pt) (ao (aJ ky)) bu) (ah (cp (bF (dI (K:=K) rfl hu) (ax (aN (K:=K) rfl) T.len bB (aj (À 0) ae)) aA (bw _)) (ao (aJ (cK (dI (K:=K) rfl hu) (cL (eQ (K:=K) rfl) (À 0) aA (fun _ _=>rfl)) bU (bw _)))) bu) (ah (cp (bF (iB (K:=K) rfl hu) (ax (aN (K:=K) rfl) T.len bB (aj (À 0) ae)) aA (bw _)) (ao (aJ ky)) bu) (ah (cp (bF (dI (K:=K) rfl hu) (cL (eQ (K:=K) rfl) (À 0) aA (fun _ _=>rfl)) bU (bw _)) (ao (aJ (az C_are_words au (hr.mono Zd) (aj (cL (eQ (K:=K) rfl) (À 0) aA (fun _ _=>rfl)) (aj (fh AF.v_MOST_PHRASE_WORDS) ae))))) bu) (ao (aJ (pQ (cK (dI (K:=K) rfl hu) (cL (eQ (K:=K) rfl) (À 0) aA (fun _ _=>rfl)) bU (bw _)) (mh (az C_are_letters au (hr.mono Zd) (aj (cL (eQ (K:=K) rfl) (À 0) aA (fun _ _=>rfl)) (aj (fh AF.v_MOST_PART_LETTERS) ae)))))))))),?_⟩
 by_cases hs:∃ p xs,x=.ref p/\H p=some (.tup xs)
 ·obtain⟨p,xs,rfl,hp⟩:=hs;obtain⟨hl,hty⟩:=hit p xs rfl hp;have et:t=Tg.tup:=by
   have:mE (H p)=some t:=ht;rw[hp] at this;cases this;rfl
  subst et;have ek:xK H (.ref p)=md xs:=by show (match H p with | some (.tup xs)=>md xs | _=>false)=_;rw[hp]
  rw[ek] at k;have hT:Sq K H p xs:=.t hp;rw[dR];symm;refine⟨trivial,Tg.tup,ht,?_⟩;symm;refine⟨_,hT,?_⟩
  match xs,hT,hty,hl,k with
  | [],hT,hty,hl,k =>symm;exact k H (a9.refl _)
  | v::r,hT,hty,hl,k =>
   rw[ay (show ¬ ((⇑(v::r):Nat):Int)=0 by rw[bf];left)];bv_omega;have a0:Þ (v::r) 0=some v:=df (xs:=v::r) (j:=0) rfl;refine⟨_,v,hT,a0,?_⟩;obtain⟨⟨tv,htv⟩,hzv⟩:=hty v aR
   by_cases hvs:∃ z,v=.str z
   ·obtain⟨z,rfl⟩:=hvs;refine⟨Tg.str,rfl,?_⟩;symm;rw[dR];symm;refine⟨_,hT,?_⟩
    match r,hT,hty,hl,k with
    | [],hT,hty,hl,k =>symm;rw[ai (by rfl)];refine⟨_,_,hT,df (xs:=[V.str z]) (j:=0) rfl,k H (a9.refl _)⟩
    | [y],hT,hty,hl,k =>
     rw[ay (show ¬ ((⇑([V.str z,y]:List V):Nat):Int)=1 by show ¬ (2:Int)=1;decide)];bv_omega;obtain⟨⟨ty,hty1⟩,hzy⟩:=hty y (aV _ aR);have a0:Þ [V.str z,y] 0=some (.str z):=df (xs:=[V.str z,y]) (j:=0) rfl;have a1:Þ [V.str z,y] 1=some y:=df (xs:=[V.str z,y]) (j:=1) rfl;rw[dR];symm;refine⟨_,hT,?_⟩;rw[ag (show ¬ (!decide ((([V.str z,y].length:Nat):Int)=2))=true by rw[show [V.str z,y].length=2 from rfl];decide)];rw[dR];symm;refine⟨_,_,hT,a0,?_⟩;symm;have ek2:md [.str z,y]=if z=("phrase":Str) then ki 6 y else if z=("part":Str) then iF 6 y else false:=rfl
     rw[ek2] at k
     by_cases e1:z=("phrase":Str)
     ·rw[ai e1] at k;rw[a8 e1];bv_omega;refine⟨_,_,hT,a1,?_⟩;exact⟨y,ty,6,rfl,hty1,hzy,Zd,k⟩
     ·rw[ag e1] at k;rw[ay e1];bv_omega;symm;refine⟨_,_,hT,a0,?_⟩;symm
      by_cases e2:z=("part":Str)
      ·rw[ai e2] at k;rw[a8 e2];bv_omega;refine⟨_,_,hT,a1,?_⟩;exact⟨y,ty,6,rfl,hty1,(fun w e=>by have:=hzy w e;left),Zd,k⟩
      ·rw[ag e2] at k;rw[ay e2];bv_omega;exact k H (a9.refl _)
    | y::y2::r,hT,hty,hl,k =>have hlen:⇑(V.str z::y::y2::r)=⇑r+3:=rfl;rw[hlen,ay (show ¬ (((⇑r+3:Nat)):Int)=1 by left)];bv_omega;rw[dR];symm;refine⟨_,hT,?_⟩;rw[hlen,ay (show ¬ (((⇑r+3:Nat)):Int)=2 by left)];bv_omega;exact k H (a9.refl _)
   ·have hv:md (v::r)=false:=by
     cases v with
     | str z=>exact absurd ⟨z,rfl⟩ hvs
     | _=>cases r with
      | nil=>rfl
      | cons y r=>cases r<;>rfl
    have hne:=rz htv fun z e=>hvs ⟨z,e⟩;rw[hv] at k;refine⟨tv,htv,?_⟩;cases tv<;>first
     | exact absurd rfl hne
     | exact k H (a9.refl _)
 ·have hv:xK H x=false:=by
   cases x with
   | ref p =>
    show (match H p with | some (.tup xs)=>md xs | _=>false)=_;split
    ·rename_i xs hp;exact absurd ⟨p,xs,rfl,hp⟩ hs
    ·rfl
   | _=>rfl
  have hne:t≠Tg.tup:=fun e=>by
   subst e;cases x with
   | ref a =>
    have h':mE (H a)=some .tup:=ht;cases e:H a with
    | none=>rw[e] at h';cases h'
    | some o=>rw[e] at h';cases o with
     | tup xs=>exact hs ⟨a,xs,rfl,e⟩
     | frz ob u=>cases u<;>cases h'
     | _=>cases h'
   | _=>cases ht
  rw[hv] at k;rw[dR];symm;refine⟨trivial,t,ht,?_⟩;cases t<;>first
   | exact absurd rfl hne
   | exact k H (a9.refl _)
theorem gP {b k:Int} (h0:0<=k) (h1:k<b):cI b (.int k)=true:=by show (decide (0<=k)&&decide (k<b))=true;rw[a8 h0,a8 h1];rfl
theorem Dx (h:cI b x=true):∃ k,x=.int k/\0<=k/\k<b:=by
 cases x with
 | int k =>have h':(decide (0<=k)&&decide (k<b))=true:=h;rw[bT,bN,bN] at h';exact⟨k,rfl,h'⟩
 | _=>cases h
inductive gy (Ad:Ê) (vs:List V) (H:Hp) (Q:VK) (E:XK):Prop
 | mk (b ca dn de:Addr) (es:List Ã) (al:Za) (ws:Zb) (r:Int) (x:V) (t:Tg) (q0:vs=[.ref b,x]) (q1:dB Ad H b ca dn de es) (q2:cx Ad H ca al ws r) (q3:bP al ws r) (q4:eZ H x=some t) (q5:(cI (bI al ws) x=false->∀ H',a9 H H'->Q .non H')) (q6:(∀ n,x=.int n->0<=n->n<bI al ws->n∉es.map (·.num)->∀ H',a9 H H'->Q .non H')) (q7:(∀ n,x=.int n->0<=n->n<bI al ws->∀ e∈es,e.num=n->∀ H',a9 H H'->Q (.ref e.adr) H')):gy Ad vs H Q E
theorem wb:aI ["self","number"] ["self","number"] (aw my):=by subst_eqs
theorem vY (F:Ç K "entry" "Book.entry" my f fd) (T:Bl mg) (AF:È K mg Ad) (C_is_below:Å P w K mg base (Á P w) 2 "is_below" ["thing","bound"] gY) (M_Code_many:Í P w K mg base (Á P w) Ad.Code "many" 1 ["self"] (dE Ad)):bR P w K mg base (Á P w) 3 f fd ["self","number"] (gy Ad):=by
 refine F.æ (k:=2) wb ?_ (fun cdv A outer s H vs Q E hr h=>?_)
 ·bv_decide
 ·obtain⟨b,ca,dn,de,es,al,ws,r,x,t,rfl,B,C,ok,ht,k1,k2,k3⟩:=h;obtain⟨dx,h1⟩:=B.bk;have hu:=hr.jQ;have hu1:=pd hr;refine⟨_,ah (cp (cU (cH (az C_is_below au (hr.mono Zd) (aj (À 1) (aj (bX M_Code_many au (hr.mono Zd) (c6 (K:=K) rfl (À 0))) ae))))) (ao (aJ jB)) bu) (ao (aJ (xf hu1 (c6 (K:=K) rfl (À 0)) (À 1)))),?_⟩;grind;refine⟨_,dx,_,_,h1,AF.c_Book,AF.n_Book_basis,kj ca dn de,?_⟩;obtain⟨dc,qc,hc1,hc2⟩:=id C;refine⟨dc,_,hc1,bC Zd Zd Zd al qc r,ca,al,ws,r,rfl,C,ok.a26,by have:=ok.w3;left,ok.w8,fun G1 t1=>?_⟩;refine⟨x,t,_,rfl,il t1 ht,?_⟩;cases hb:cI ((⇑al:Int)^(⇑ws-1)) x with
  | false =>symm;exact k1 hb G1 t1
  | true =>
   symm;cbv;obtain⟨n,rfl,n0,n1⟩:=Dx hb;have B1:=B.same t1;obtain⟨dx1,h11⟩:=B1.bk;symm;refine⟨_,dx1,_,_,h11,AF.c_Book,AF.n_Book_by_number,i8 ca dn de,dn,rfl,.inl ⟨_,.inl B1.hn⟩,_,.inl ⟨_,.inl n,.inl B1.hn,rfl,rfl⟩,?_⟩
   by_cases hm:n∈es.map (·.num)
   ·obtain⟨e,he,ee⟩:=aK.mp hm;rw[←ee,xU B.nn he];exact k3 n rfl n0 n1 e he ee G1 t1
   ·rw[xT hm];exact k2 n rfl n0 n1 hm G1 t1
noncomputable def mO:Sp:=fun vs H Q _=>∃ (c:Int) (n:Nat),vs=[.int c,.int n]/\n<=26/\∀ al H',a9 H H'->⇑al=n->al.Nodup->(∀ c∈al,97<=c/\c<123)->Q (.str (tx al)) H'
theorem mL:aI ["_law_cell","_law_many","_law_left"] ["_law_cell","_law_many"] (aw jJ):=by subst_eqs
theorem uh (F:Ç K "_law_alphabet" "_law_alphabet" jJ f fd) (T:Bl mg) (AF:È K mg Ad) (C_law_mixed:Å P w K mg base (Á P w) 2 "_law_mixed" ["_law_cell","_law_k"] dY):bR P w K mg base (Á P w) 3 f fd ["_law_cell","_law_many"] mO:=by
 specialize mL;obtain⟨c,n,rfl,n26,k⟩:=h;refine⟨_,ah (eU (i:=2) mL.nd (eS (Ax rfl) T.list km (aj bU ae))) (ao (aJ (eR (K:=K) rfl jb PySem.F.slot_str_join PySem.F.type_str_join (vc (K:=K) rfl) bU (aj (fH ["_law_k"] rfl ⟨rfl,by nofun,rfl,by nofun⟩ (.cons (j:=2) rfl (.inl (by ext)) (.cons (j:=0) rfl (.inl (by ext)) (.nil))) (by nofun) (eT T.range (aj (À 1) ae)) (fun _ _ _ _=>aL (i:=0) (show (["_law_k","_law_left","_law_cell"]:Ze).Nodup from by nofun)) (fun _ _ _ _=>cM) (fun _ _ _ _=>eR (K:=K) rfl gC PySem.F.slot_list_pop PySem.F.type_list_pop GG (Ä 1) (aj (aO cg (az C_law_mixed e8 (hr.mono Zd) (aj (Ä 2) (aj (aO aZ aA (À 0)) ae))) (ax (aN (K:=K) rfl) T.len bB (aj (Ä 1) ae))) ae))) ae)))),?_⟩;grind;refine⟨Zd,fun p H1 hp s1 h1=>?_⟩;cbv;symm;refine⟨rfl,⋯,⋯,fun D hD=>?_⟩;have hpD:p≠D:=aQ h1 hD;have hp0:H p=none:=hp;have hD0:H D=none:=s1.free hD;refine⟨fun i m ys σ1 G=>m=n-i/\i<=n/\(∃ o,σ1=[o,some (.ref p),some (.int c)])/\(∃ got left:Za,ys=got.map (fun c=>V.str (tx [c]))/\G p=some (.lst (left.map fun c=>V.str (tx [c])))/\⇑got=i/\⇑left+i=26/\(got++left).Nodup/\∀ c∈got++left,97<=c/\c<123)/\a9 H G/\G D=some (.lst ys),⟨n,rfl,bc _,⟨none,rfl⟩,⟨[],(List.range 26).map (97+·),rfl,by rw[aG hpD];exact h1,rfl,by simp,Zd,Zd⟩,s1.cf hD0,aC⟩,?_⟩;rintro i m ys σ1 G ⟨rfl,hi,⟨o,rfl⟩,⟨got,left,rfl,hG,hgl,hll,hnd,hab⟩,sG,hGD⟩;refine⟨hGD,by rw[af];exact ak ⋯,?_⟩
 by_cases hlt:i<n
 ·refine .inr ⟨hlt,fun x G1 hy=>?_⟩;obtain⟨rfl,rfl⟩:=hy;symm;unfold ur;dsimp only;rw[ai rfl];refine⟨.inl ⟨rfl,_,.of hG⟩,c,30+i,by rw[show 30+(0+(i:Int))=((30+i:Nat):Int) by left],⋯,_,.l hG,?_⟩;generalize jm c (30+i)%2147483629=x1;rw[af];symm;obtain⟨j,hj⟩:=cY (bY x1 (show (⇑left:Int)≠0 by left));have hjl:j<⇑left:=by have:=bZ x1 (show 0<(⇑left:Int) by left);left
  have ej:left[j]?=some left[j]:=aD hjl;rw[hj];refine⟨⋯,p,_,(j:Int),j,V.str (tx [left[j]]),rfl,rfl,hG,⋯,⋯,?_,by rw[aS,ej];rfl,?_⟩
  ·rw[af,seqIndex_of ⋯ ⋯,c8]
  have hpm:(got++[left[j]]++left.eraseIdx j).Perm (got++left):=by rw[bJ];exact (List.Perm.refl got).append (Cy left j _ ej)
  refine⟨by rw[aG (b7 hpD)];exact hGD,n-(i+1),⋯,rfl,hlt,⟨_,rfl⟩,⟨got++[left[j]],left.eraseIdx j,by rw[bM];rfl,?_,by rw[aF,hgl];rfl,?_,hpm.nodup_iff.mpr hnd,fun c hc=>hab c (hpm.mem_iff.mp hc)⟩,(sG.cf hp0).cf hD0,aC⟩
  ·rw[aG hpD,aC,GB]
  ·have:=hpm.length_eq;rw[aF,aF,aF,dz] at this;left
 ·refine .inl ⟨by show n<=i;left,?_⟩;symm;refine⟨got.map fun c=>tx [c],Gj (by rw[hGD]),Gi ⋯,?_⟩;rw[CC];rw[oq] at hnd;exact k got G sG ⋯ hnd.1 fun c hc=>hab c (lP _ hc)
noncomputable def nL:Sp:=fun vs H Q _=>∃ (c:Int) (m n:Nat),vs=[.int c,.int m,.int n]/\3<=m/\m<=26/\m%2=1/\n<=8/\∀ p ws H',H p=none->a9 H H'->H' p=some (.lst (ws.map V.int))->⇑ws=n->(∀ x∈ws,0<=x/\x<(m:Int))->Mk.safe m ws=true->Q (.ref p) H'
theorem fP:aI ["_law_cell","_law_many","_law_length","_law_found","_law_k","_law_first","_law_some"] ["_law_cell","_law_many","_law_length"] (aw lh):=by subst_eqs
theorem vt (F:Ç K "_law_weights" "_law_weights" lh f fd) (T:Bl mg) (AF:È K mg Ad) (C_law_safe:Å P w K mg base (Á P w) 2 "_law_safe" ["_law_weight","_law_found","_law_many"] tT) (C_law_mixed:Å P w K mg base (Á P w) 2 "_law_mixed" ["_law_cell","_law_k"] dY):bR P w K mg base (Á P w) 3 f fd ["_law_cell","_law_many","_law_length"] nL:=by
 specialize fP;obtain⟨c,m,n,rfl,m3,m26,mo,n8,k⟩:=h;refine⟨_,ah (eU (i:=3) fP.nd (cR ae)) (ah (gH cN rfl (eT T.range (aj (À 2) ae)) (aL (i:=4) fP.nd) (ah (eU (i:=5) fP.nd (aO cg (az C_law_mixed au (hr.mono Zd) (aj (À 0) (aj (aO aZ aA (À 4)) ae))) (Ä 1))) (ah (lE (i:=6) ["_law_j"] fP.nd rfl (Or.inl rfl) rfl ⟨rfl,by nofun,rfl,by nofun⟩ (.cons (j:=1) rfl (.inl (by ext)) (.cons (j:=5) rfl (.inl (by ext)) (.nil))) (by nofun) (eT T.range (aj (Ä 1) ae)) (fun _ _ _ _=>aL (i:=0) (show (["_law_j","_law_many","_law_first"]:Ze).Nodup from by nofun)) (fun _ _ _ _=>cM) (fun _ _ _ _=>aO cg (aO aZ (Ä 2) (À 0)) (Ä 1))) (ao (eG (eR (K:=K) rfl gC ka kb gR (Ä 3) (aj (cL (eQ (K:=K) rfl) (fH ["_law_weight"] rfl ⟨rfl,by nofun,rfl,by nofun⟩ (.cons (j:=3) rfl (.inl (by ext)) (.cons (j:=1) rfl (.inl (by ext)) (.nil))) (by nofun) (ck (K:=K) rfl (À 6)) (fun _ _ _ _=>aL (i:=0) (show (["_law_weight","_law_found","_law_many"]:Ze).Nodup from by nofun)) (fun _ _ _ _=>mi (cH (az C_law_safe e8 (hr.mono Zd) (aj (À 0) (aj (Ä 1) (aj (Ä 2) ae)))))) (fun _ _ _ _=>À 0)) aA (fun _ _=>rfl)) ae))))))) (ao (aJ (Ä 3)))),?_⟩;grind;refine⟨bc _,fun p H1 hp s1 h1=>?_⟩;cbv;grind;refine⟨⋯,⋯,?_⟩;refine mT (n:=n) (fun i σ H'=>∃ (fnd:Zb) (o4 o5 o6:Option V),σ=[some (.int c),some (.int m),some (.int n),some (.ref p),o4,o5,o6]/\⇑fnd=i/\a9 H H'/\H' p=some (.lst (fnd.map V.int))/\(∀ x∈fnd,0<=x/\x<(m:Int))/\Mk.safe m fnd=true) ?_ ?_ ?_
 ·exact⟨[],none,none,none,rfl,rfl,s1,h1,fun x hx=>(by cases hx),rfl⟩
 ·rintro i σ H2 hi ⟨fnd,o4,o5,o6,rfl,hlen,s2,h2,hb,hs⟩ N hNx;clear hN;symm;refine gM fun n2 hM=>?_;symm;refine⟨c,3+i,by rw[show 3+(0+(i:Int))=((3+i:Nat):Int) by left],⋯,?_⟩;generalize jm c (3+i)%2147483629=x1;symm;refine⟨⋯,?_⟩;have hf0:=bY x1 (show (m:Int)≠0 by left);have hf1:=bZ x1 (show 0<(m:Int) by left);generalize x1%(m:Int)=fst at hf0 hf1;rw[hM];clear hM n2;refine gM fun n2 hM=>?_;symm;refine⟨⋯,(by omega),uY V.int hU (yu _) (by rw[Mk.qP];exact ak ⋯) (fun x=>.int ((fst+x)%(m:Int))) ?_ ?_⟩
  ·intro x hx H5 t5 R hR;symm;exact⟨⋯,hR H5 (a9.refl _)⟩
  intro D H3 hD s3 h3;rw[hM];clear hM n2;have hp3:=s3 _ _ h2;have h3':H3 D=some (.lst (((Mk.Ù m).map fun x=>(fst+x)%(m:Int)).map V.int)):=by rw[h3,aW];rfl
  have hlS:⇑((Mk.Ù m).map fun x=>(fst+x)%(m:Int))=m:=by rw[af,Mk.qP]
  have hmS:∀ x∈(Mk.Ù m).map (fun x=>(fst+x)%(m:Int)),0<=x/\x<(m:Int):=fun x hx=>by obtain⟨y,_,rfl⟩:=aK.mp hx;exact⟨bY _ ⋯,bZ _ ⋯⟩
  have hne:((Mk.Ù m).map fun x=>(fst+x)%(m:Int)).filter (fun w=>Mk.Î m w&&(fnd.isEmpty||Mk.Î m (w-fnd.getLastD 0)))≠[]:=fun e=>by
   refine Mk.F4 (m:=(m:Int)) ⋯ ⋯ ⋯ hb (Mk.ic.mp hs).1 ?_;unfold Mk.L7;rw[rJ] at e ⊢;intro w hw;obtain⟨w0,w1⟩:=Mk.hX.mp hw;refine e w (aK.mpr ⟨(w-fst)%(m:Int),Mk.hX.mpr ⟨bY _ ⋯,bZ _ ⋯⟩,?_⟩)
   first | rw[Int.add_emod_emod] | rw[Int.add_comm,Int.emod_add_emod]
   rw[show fst+(w-fst)=w by left];exact iR w0 ⋯
  clear h3;generalize (Mk.Ù m).map (fun x=>(fst+x)%(m:Int))=S at h3' hlS hmS hne;symm;refine⟨.inl ⟨rfl,_,.of hp3⟩,.inl ⟨⟨_,.of h3'⟩,zi V.int hU (cT (.of h3')) (ak ⋯) (fun w=>Mk.Î m w&&(fnd.isEmpty||Mk.Î m (w-fnd.getLastD 0))) V.int ?_ ?_ ?_⟩⟩
  ·intro x hx H5 t5 R hR;obtain⟨x',rfl⟩:=cY (hmS x hx).1;symm;exact⟨x',m,p,fnd,rfl,t5 _ _ hp3,⋯,fun H6 s6=>⟨_,rfl,hR H6 s6⟩⟩
  ·intro x hx hpr H5 t5 R hR;symm;exact hR H5 (a9.refl _)
  intro D2 H4 hD2 s4 h4;cases hft:S.filter (fun w=>Mk.Î m w&&(fnd.isEmpty||Mk.Î m (w-fnd.getLastD 0))) with
  | nil=>exact absurd hft hne
  | cons x rest =>
   have hxm:x∈S.filter (fun w=>Mk.Î m w&&(fnd.isEmpty||Mk.Î m (w-fnd.getLastD 0))):=by rw[hft];exact aR
   obtain⟨hx1,hx2⟩:=cG.mp hxm;rw[bT,oW] at hx2;rw[hft] at h4;have hp4:=s4 _ _ hp3;have s24:=s2.trans (s3.trans s4);symm;refine⟨_,_,.l h4,df (j:=0) rfl,p,_,_,rfl,rfl,hp4,by rw[af];exact ak ⋯,hNx _ _ ⟨fnd++[x],_,_,_,rfl,by rw[aF,hlen];rfl,s24.cf hp,by rw[aC,bM];rfl,fun y hy=>?_,Mk.EK hs hx2.1 ?_⟩⟩
   ·rcases bG.mp hy with hy | hy
    ·exact hb y hy
    ·rw[b9.mp hy];exact hmS x hx1
   ·rcases hx2.2 with e | e
    ·exact .inl (List.isEmpty_iff.mp e)
    ·exact .inr e
 ·rintro σ H2 ⟨fnd,o4,o5,o6,rfl,hlen,s2,h2,hb,hs⟩;show nn _ _ _;cbv;symm;exact k p fnd H2 hp s2 h2 hlen hb hs
inductive lp (Ad:Ê) (vs:List V) (H:Hp) (Q:VK) (E:XK):Prop
 | mk (b ca dn de q:Addr) (es:List Ã) (cs:Zb) (q0:vs=[.ref b,.ref q]) (q1:dB Ad H b ca dn de es) (q2:1<=⇑es) (q3:⇑es<64) (q4:H q=some (.lst (cs.map V.int))) (q5:⇑cs<=1000) (q6:∀ D (gs:Zb) H',H D=none->a9 H H'->H' D=some (.lst (gs.map V.int))->⇑gs=⇑cs->(∀ g∈gs,g∈es.map (·.num))->Q (.ref D) H'):lp Ad vs H Q E
theorem pz:aI ["_law_book_here","_law_cells","_law_entries"] ["_law_book_here","_law_cells"] (aw m5):=by subst_eqs
theorem wa (F:Ç K "_law_groups" "_law_groups" m5 f fd) (T:Bl mg) (AF:È K mg Ad) (C_law_mixed:Å P w K mg base (Á P w) 2 "_law_mixed" ["_law_cell","_law_k"] dY) (M_Book_entries:Í P w K mg base (Á P w) Ad.Book "entries" 1 ["self"] (fi Ad)):bR P w K mg base (Á P w) 3 f fd ["_law_book_here","_law_cells"] (lp Ad):=by
 refine F.æ (k:=2) pz ?_ (fun cdv A outer s H vs Q E hr h=>?_)
 ·bv_decide
 ·obtain⟨b,ca,dn,de,q,es,cs,rfl,B,e1,e64,hq,cl,k⟩:=h;obtain⟨dx,h1⟩:=B.bk;have hu:=hr.jQ;have hu1:=pd hr;refine⟨_,ah (eU (i:=2) pz.nd (bX M_Book_entries au (hr.mono Zd) (À 0))) (ao (aJ (fH ["_law_cell"] rfl ⟨rfl,by nofun,rfl,by nofun⟩ (.cons (j:=2) rfl (.inl (by ext)) (.nil)) (by nofun) (ck (K:=K) rfl (À 1)) (fun _ _ _ _=>aL (i:=0) (show (["_law_cell","_law_entries"]:Ze).Nodup from by nofun)) (fun _ _ _ _=>cM) (fun _ _ _ _=>cL (eQ (K:=K) rfl) (cL (eQ (K:=K) rfl) (Ä 1) (aO cg (az C_law_mixed e8 (hr.mono Zd) (aj (À 0) (aj aA ae))) (ax (aN (K:=K) rfl) T.len bB (aj (Ä 1) ae))) (fun _ _=>rfl)) aA (fun _ _=>rfl))))),?_⟩;grind;refine⟨dx,_,h1,cC Zd Zd Zd ca dn de,b,ca,dn,de,es,rfl,B,e64,fun D1 ws1 ms G1 hD1 t1 g1 mp ml hp=>?_⟩;cbv;symm;have lw:⇑ws1=⇑ms:=fM hp;have lm:⇑ms=⇑es:=mp.length_eq;refine .inl ⟨⟨_,.of (t1 _ _ hq)⟩,Ol (cT (.of (t1 _ _ hq))) (ak (by rw[af];left)) (fun v=>∃ n,v=V.int n/\n∈es.map (·.num)) ?_ ?_⟩
  ·intro x hx G2 t2 R hR;obtain⟨c,_,rfl⟩:=aK.mp hx;symm;refine⟨c,120,rfl,Zd,?_⟩;generalize jm c 120%2147483629=y;symm;have i0:=bY y (b:=(⇑ws1:Int)) ⋯;have i1:=bZ y (b:=(⇑ws1:Int)) ⋯;have hv:ws1[(y%(⇑ws1:Int)).toNat]?=some (ws1[(y%(⇑ws1:Int)).toNat]'⋯):=aD _;generalize ws1[(y%(⇑ws1:Int)).toNat]'⋯=v at hv;obtain⟨m,hm,p,rfl,hpp⟩:=iC hp hv;refine⟨_,.l (t2 _ _ g1),⋯,_,_,.l (t2 _ _ g1),eP i0 hv,?_⟩;symm;exact⟨_,_,.t (t2 _ _ hpp),df (j:=0) rfl,hR _ G2 (a9.refl _) ⟨_,rfl,iZ (mp.mem_iff.mp (bL hm))⟩⟩
  ·intro D vs G2 hD t2 g2 lv gv;obtain⟨gs,rfl,hgs⟩:=xJ gv;rw[af,af] at lv;exact k D gs G2 (t1.free hD) (t1.trans t2) g2 lv hgs
noncomputable def rn:Sp:=fun vs H Q _=>∃ (c:Int) (m:Nat),vs=[.int c,.int m]/\1<=m/\m<=1000/\∀ p f H',H p=none->a9 H H'->H' p=some (.tup (FP f))->0<=f.n->0<=f.s/\f.s<4->Q (.ref p) H'
theorem rg:aI ["_law_cell","_law_many","_law_kind"] ["_law_cell","_law_many"] (aw nv):=by subst_eqs
theorem yd (F:Ç K "_law_fault" "_law_fault" nv f fd) (T:Bl mg) (AF:È K mg Ad) (C_law_mixed:Å P w K mg base (Á P w) 2 "_law_mixed" ["_law_cell","_law_k"] dY):bR P w K mg base (Á P w) 3 f fd ["_law_cell","_law_many"] rn:=by
 specialize rg;obtain⟨c,m,rfl,m0,m1,k⟩:=h;refine⟨_,ah (aP (i:=2) rg.nd (cL (eQ (K:=K) rfl) (cR (aj bU (aj bU (aj bU ae)))) (aO cg (az C_law_mixed au (hr.mono Zd) (aj (À 0) (aj aA ae))) aA) (fun _ _=>rfl))) (ao (aJ (kz (aj (aO cg (az C_law_mixed au (hr.mono Zd) (aj (À 0) (aj aA ae))) aA) (aj (aO cg (az C_law_mixed au (hr.mono Zd) (aj (À 0) (aj aA ae))) (À 1)) (aj (À 2) (aj (aO cg (aO mZ (À 0) aA) (aO CK aA aA)) ae))))))),?_⟩;grind;refine⟨aM (ak Zd),fun p1 H1 hp1 s1 h1=>⟨c,40,rfl,Zd,?_⟩⟩;generalize jm c 40%2147483629=y;symm;have hy:y%3=0∨y%3=1∨y%3=2:=⋯
 have key:∃ b:Bool,Þ [V.str (Str.ofString "letter"),V.str (Str.ofString "letter"),V.str (Str.ofString "swap")] (y%3)=some (V.str (ö b)):=by
  rcases hy with e | e | e<;>rw[e]
  ·exact⟨true,rfl⟩
  ·exact⟨true,rfl⟩
  ·exact⟨false,rfl⟩
 obtain⟨b,hb⟩:=key;refine⟨Zd,_,_,.l h1,hb,?_⟩;rw[hN];clear hN nn hb hy y;symm;refine⟨c,43,rfl,Zd,?_⟩;generalize jm c 43%2147483629=y1;symm;refine⟨Zd,c,44,rfl,Zd,?_⟩;generalize jm c 44%2147483629=y4;have hn0:=bY (c/7) (show (10:Int)^Int.toNat 20≠0 by decide);symm;exact⟨⋯,⟨Zd,Zd⟩,⟨Zd,Zd,Zd⟩,Zd,aM (ak Zd),fun p H3 hp s3 h3=>k p ⟨y1%4,y4%(m:Int),b,c/7%10^Int.toNat 20⟩ H3 (s1.free hp) (s1.trans s3) h3 hn0 ⟨by show 0<=y1%4;left,by show y1%4<4;left⟩⟩
theorem wu {b:Int}:∀ {xs:List V},xs.all (cI b)=true->∃ ws:Zb,xs=ws.map V.int/\∀ x∈ws,0<=x/\x<b
 | [],_=>⟨[],rfl,fun _ h=>nomatch h⟩
 | y::ys,h=>by
  rw[iT,bT] at h;obtain⟨ws,e,hw⟩:=wu h.2;cases y with
  | int i =>
   have h1:(decide (0<=i)&&decide (i<b))=true:=h.1;rw[bT,bN,bN] at h1;refine⟨i::ws,by rw[e];rfl,fun x hx=>?_⟩;cases hx with
   | head=>exact h1
   | tail _ hx=>exact hw x hx
  | _=>cases h.1
theorem IW (h:eN H b x=true):∃ (p:Addr) (ws:Zb),x=.ref p/\H p=some (.lst (ws.map V.int))/\3<=⇑ws/\⇑ws<=8/\∀ y∈ws,0<=y/\y<b:=by
 cases x with
 | ref p =>
  have h1:(match H p with | some (.lst xs)=>decide (3<=⇑xs)&&decide (⇑xs<=8)&&xs.all (cI b) | _=>false)=true:=h;split at h1
  ·rename_i xs e
   simp only[bT,bN] at h1;obtain⟨ws,e1,hw⟩:=wu h1.2;subst e1;rw[af] at h1;exact⟨p,ws,rfl,e,h1.1.1,h1.1.2,hw⟩
  ·cases h1
 | _=>cases h
inductive ij (Ad:Ê) (vs:List V) (H:Hp) (Q:VK) (E:XK):Prop
 | mk (a dx:Addr) (xa xw xr:V) (ta tw tr:Tg) (q0:vs=[.ref a,xa,xw,xr]) (q1:H a=some (.ins Ad.Code dx [])) (q2:eZ H xa=some ta) (q3:eZ H xw=some tw) (q4:eZ H xr=some tr) (q5:(∀ z,xa=.str z->⇑z<=4000)) (q6:(∀ p o u,xw=.ref p->H p≠some (.frz o u))) (q7:(∀ p xs,xw=.ref p->H p=some (.lst xs)->⇑xs<=1000/\∀ y∈xs,∃ t,eZ H y=some t)) (q8:(Ja H xa xw xr->∀ H',a9 H H'->E (.ref Ad.NoCode) none H')) (q9:(∀ al p ws r,uM H xa xw xr al p ws r->∀ q H',H q=none->(∀ b o,b≠a->H b=some o->H' b=some o)->H' a=some (.ins Ad.Code dx (tf al q r))->H' q=some (.lst (ws.map V.int))->Q .non H')):ij Ad vs H Q E
theorem Es {Ad:Ê}{ca cd qn:Addr}{Q:VK}{E:XK} (ha:H ca=some (.ins Ad.Code cd [])) (hq:H qn=some (.lst (ws.map V.int))) (ok:bP al ws r)
  (k:∀ H',(∀ b o,b≠ca->H b=some o->H' b=some o)->cx Ad H' ca al ws r->Q .non H'):ij Ad [.ref ca,.str (tx al),.ref qn,.int r] H Q E:=by
 have g26:=ok.a26;have w8:=ok.w8;refine⟨ca,cd,.str (tx al),.ref qn,.int r,Tg.str,Tg.lst,Tg.int,rfl,ha,rfl,?_,rfl,?_,?_,?_,?_,?_⟩
 ·show mE (H qn)=_;rw[hq];rfl
 ·intro z e;cases e;rw[bS];left
 ·intro p o u e e2;cases e;rw[hq] at e2;cases e2
 ·intro p xs e e2;cases e;rw[hq] at e2;cases e2;refine⟨by rw[af];left,fun y hy=>?_⟩;obtain⟨x,_,rfl⟩:=aK.mp hy;exact⟨Tg.int,rfl⟩
 ·intro hb;exact absurd ⟨rfl,rfl,hq,rfl,ok⟩ (hb al qn ws r)
 ·intro al' p ws' r' hm q H' hq' hs h1 h2;obtain⟨e1,e2,e3,e4,_⟩:=hm;have ea:al=al':=by injection e1 with e1;exact lq e1
  have er:r=r':=by injection e4
  have ep:qn=p:=by injection e2
  subst ea er ep;rw[hq] at e3;have e6:ws.map V.int=ws'.map V.int:=by injection e3 with e3;injection e3
  have ew:ws=ws':=(List.map_inj_right (fun x y h=>by injection h)).mp e6;subst ew;exact k H' hs ⟨cd,q,h1,h2⟩
theorem qZ:aI ["self","alphabet","weights","rest","m"] ["self","alphabet","weights","rest"] (aw gX):=by subst_eqs
theorem xX (F:Ç K "__init__" "Code.__init__" gX f fd) (T:Bl mg) (AF:È K mg Ad) (C_are_safe:Å P w K mg base (Á P w) 2 "are_safe" ["weights","m"] tO) (C_is_below:Å P w K mg base (Á P w) 2 "is_below" ["thing","bound"] gY) (C_are_weights:Å P w K mg base (Á P w) 3 "are_weights" ["thing","m"] nC) (C_is_alphabet:Å P w K mg base (Á P w) 1 "is_alphabet" ["thing"] nH):bR P w K mg base (Á P w) 4 f fd ["self","alphabet","weights","rest"] (ij Ad):=by
 specialize qZ;obtain⟨a,dx,xa,xw,xr,ta,tw,tr,rfl,ha,hta,htw,htr,hza,hfz,hit,kE,kQ⟩:=h;refine⟨_,ah (cp (cU (cH (az C_is_alphabet au (hr.mono Zd) (aj (À 1) ae)))) (ao (dX d0 AF.q_NoCode AF.g_NoCode di rfl (aj bU ae))) bu) (ah (aP (i:=4) qZ.nd (ax (aN (K:=K) rfl) T.len bB (aj (À 1) ae))) (ah (cp (cU (cH (az C_are_weights au (hr.mono Zd) (aj (À 2) (aj (À 4) ae))))) (ao (dX d0 AF.q_NoCode AF.g_NoCode di rfl (aj bU ae))) bu) (ah (cp (cU (cH (az C_is_below au (hr.mono Zd) (aj (À 3) (aj (À 4) ae))))) (ao (dX d0 AF.q_NoCode AF.g_NoCode di rfl (aj bU ae))) bu) (ah (cp (cU (cH (az C_are_safe au (hr.mono Zd) (aj (À 2) (aj (À 4) ae))))) (ao (dX d0 AF.q_NoCode AF.g_NoCode di rfl (aj bU ae))) bu) (ah (oS (K:=K) rfl (À 0) (À 1)) (ah (oS (K:=K) rfl (À 0) (eS (j6 (K:=K) rfl rfl) T.list km (aj (À 2) ae))) (ao (oS (K:=K) rfl (À 0) (À 3))))))))),?_⟩;rw[dR];symm;refine⟨xa,ta,rfl,hta,hza,fun H1 s1=>?_⟩;symm;cases hA:iL xa with
 | false =>
  bv_omega;refine⟨Zd,kE (fun al p ws r ⟨e1,_,_,_,e5⟩=>?_) H1 s1⟩;have:iL xa=true:=by rw[e1];show hV (tx al).cps.toList=true;rw[bQ];unfold hV;rw[a8 e5.a3,a8 e5.a26,a8 e5.nd,c9.mpr fun c hc=>a8 (e5.abc c hc)];rfl
  rw[hA] at this;cases this
 | true =>
  bv_omega;obtain⟨z,rfl⟩:∃ z,xa=.str z:=by
   cases xa with
   | str z=>exact⟨z,rfl⟩
   | _=>cases hA
  have hA':hV z.cps.toList=true:=hA;have hz:=dQ z;unfold hV at hA';simp only[bT,bN,c9] at hA';obtain⟨⟨⟨g3,g26⟩,gnd⟩,gabc⟩:=hA';rw[dR];symm;refine⟨aM (ak ⋯),?_⟩;symm;rw[dR];symm;refine⟨xw,tw,_,rfl,il s1 htw,fun p o u e e2=>?_,fun p xs e e2=>?_,fun H2 s2=>?_⟩
  ·subst e;have:mE (H p)=some tw:=htw;cases e3:H p with
   | none=>rw[e3] at this;cases this
   | some ob =>have e4:=s1 p ob e3;rw[e2] at e4;cases e4;exact hfz p o u rfl e3
  ·subst e;have:mE (H p)=some tw:=htw;cases e3:H p with
   | none=>rw[e3] at this;cases this
   | some ob =>have e4:=s1 p ob e3;rw[e2] at e4;cases e4;obtain⟨i1,i2⟩:=hit p xs rfl e3;exact⟨i1,fun y hy=>by obtain⟨ty,hty⟩:=i2 y hy;exact⟨ty,il s1 hty⟩⟩
  symm;have eW:eN H1 (⇑z:Int) xw=eN H (⇑z:Int) xw:=by
   cases xw with
   | ref p =>
    have:mE (H p)=some tw:=htw;cases e3:H p with
    | none=>rw[e3] at this;cases this
    | some ob =>show (match H1 p with | some (.lst xs)=>_ | _=>false)=(match H p with | some (.lst xs)=>_ | _=>false);rw[s1 p ob e3,e3]
   | _=>rfl
  rw[eW];cases hW:eN H (⇑z:Int) xw with
  | false =>
   bv_omega;refine⟨Zd,kE (fun al p ws r ⟨e1,e2,e3,_,e5⟩=>?_) H2 (s1.trans s2)⟩;have hal:z=tx al:=by cases e1;rfl
   have:eN H (⇑z:Int) xw=true:=by rw[e2,hal,bS];show (match H p with | some (.lst xs)=>decide (3<=⇑xs)&&decide (⇑xs<=8)&&xs.all (cI (⇑al:Int)) | _=>false)=true;rw[e3];simp only[af];rw[a8 e5.w3,a8 e5.w8,fW,c9.mpr];rfl;intro x hx;have:=e5.wm x hx;show (decide (0<=x)&&decide (x<(⇑al:Int)))=true;rw[a8 this.1,a8 this.2];rfl
   rw[hW] at this;cases this
  | true =>
   bv_omega;rw[dR];symm;refine⟨xr,tr,_,rfl,il (s1.trans s2) htr,?_⟩;symm;cases hB:cI (⇑z:Int) xr with
   | false =>
    bv_omega;refine⟨Zd,kE (fun al p ws r ⟨e1,e2,e3,e4,e5⟩=>?_) H2 (s1.trans s2)⟩;have hal:z=tx al:=by cases e1;rfl
    have:cI (⇑z:Int) xr=true:=by rw[e4,hal,bS];show (decide (0<=r)&&decide (r<(⇑al:Int)))=true;rw[a8 e5.rm.1,a8 e5.rm.2];rfl
    rw[hB] at this;cases this
   | true =>
    bv_omega;obtain⟨r,rfl⟩:∃ r,xr=.int r:=by
     cases xr with
     | int r=>exact⟨r,rfl⟩
     | _=>cases hB
    have hB':(decide (0<=r)&&decide (r<(⇑z:Int)))=true:=hB;rw[bT,bN,bN] at hB';obtain⟨p,ws,rfl,hp,w3,w8,wm⟩:=IW hW;have hp2:H2 p=some (.lst (ws.map V.int)):=s2 _ _ (s1 _ _ hp);rw[dR];symm;refine⟨p,ws,_,rfl,hp2,⋯,fun H3 s3=>?_⟩;symm;have s03:a9 H H3:=(s1.trans s2).trans s3;have el:(⇑z:Int)=(⇑z.cps.toList:Int):=by rw[hz]
    cases hS:Mk.safe (⇑z:Int) ws with
    | false =>
     bv_omega;refine⟨Zd,kE (fun al p' ws' r' ⟨e1,e2,e3,e4,e5⟩=>?_) H3 s03⟩;have hal:z=tx al:=by cases e1;rfl
     have hpp:p'=p:=by cases e2;rfl
     subst hpp;have hww:ws'=ws:=by
      rw[hp] at e3;have e6:ws.map V.int=ws'.map V.int:=by injection e3 with e3;injection e3
      exact (List.map_inj_right (fun x y h=>by injection h)).mp e6.symm
     subst hww;have:=e5.safe;rw[hal,bS] at hS;rw[hS] at this;cases this
    | true =>
     bv_omega;have ha3:=s03 _ _ ha;have hp3:H3 p=some (.lst (ws.map V.int)):=s03 _ _ hp;have hne:p≠a:=fun e=>by rw[e,ha] at hp;cases hp
     have hM:uM H (.str z) (.ref p) (.int r) z.cps.toList p ws r:=⟨by rw[nQ],rfl,hp,rfl,⟨g3,g26,gnd,gabc,w3,w8,by rw[←el];exact wm,by rw[←el];exact hS,by rw[←el];exact hB'⟩⟩;ac_nf;refine⟨_,_,_,ha3,AF.c_Code,AF.n_Code_letters,Zd,ws.map V.int,.inl (.inl (.of (by rw[aG hne];exact hp3))),fun q H4 hq s4 h4=>?_⟩;have ha4:=s4 a _ aC;refine⟨_,_,_,ha4,AF.c_Code,AF.n_Code_factors,ft (av 1) Zd,_,_,_,aC,AF.c_Code,AF.n_Code_remainder,ft (av 2) Zd,?_⟩;have hqa:q≠a:=fun e=>by rw[e,aC] at hq;cases hq
     rw[aG hqa] at hq;have hq0:H q=none:=by
      cases e:H q with
      | none=>rfl
      | some o=>rw[s03 q o e] at hq;cases hq
     refine kQ z.cps.toList p ws r hM q _ hq0 (fun b o hb e=>?_) ?_ ?_
     ·rw[aG hb,aG hb];exact s4 b o (by rw[aG hb];exact s03 b o e)
     ·rw[aC];unfold tf;rw[nQ];rfl
     ·rw[aG hqa,aG hqa];exact h4
inductive fS (Ad:Ê) (vs:List V) (H:Hp) (Q:VK) (E:XK):Prop
 | mk (a:Addr) (al:Za) (ws:Zb) (r:Int) (x:V) (t:Tg) (q0:vs=[.ref a,x]) (q1:cx Ad H a al ws r) (q2:bP al ws r) (q3:eZ H x=some t) (q4:(∀ z,x=.str z->⇑z<=100000)) (q5:(iG (tx al) ws r x=false->∀ H',a9 H H'->E (.ref Ad.NoWord) none H')) (q6:(∀ z,x=.str z->Mk.bW al ws r z.cps.toList=true->∀ H',a9 H H'->Q (.int (Mk.numOf ⇑al (Mk.Ò al z.cps.toList.dropLast))) H')):fS Ad vs H Q E
theorem ie:aI ["self","word","k","place"] ["self","word"] (aw kS):=by subst_eqs
theorem vi (F:Ç K "number" "Code.number" kS f fd) (T:Bl mg) (AF:È K mg Ad) (C_places_of:Å P w K mg base (Á P w) 1 "places_of" ["alphabet","word"] jx) (M_Code_has_good:Í P w K mg base (Á P w) Ad.Code "has_good" 3 ["self","thing"] (dG Ad)):bR P w K mg base (Á P w) 4 f fd ["self","word"] (fS Ad):=by
 specialize ie;obtain⟨a,al,ws,r,x,t,rfl,⟨dx,q,h1,h2⟩,ok,ht,hz,kE,kQ⟩:=h;refine⟨_,ah (cp (cU (cH (cW M_Code_has_good au (hr.mono Zd) (À 0) (aj (À 1) ae)))) (ao (dX d0 AF.q_NoWord AF.g_NoWord di rfl (aj bU ae))) bu) (ah (aP (i:=2) ie.nd aA) (ah (gH cN rfl (ck (K:=K) rfl (az C_places_of au (hr.mono Zd) (aj (c6 (K:=K) rfl (À 0)) (aj (cS (i7 (K:=K) rfl) (À 1) eF (dh (CN yC aA))) ae)))) (aL (i:=3) ie.nd) (ao (aP (i:=2) ie.nd (aO aZ (aO oQ (À 2) (ax (aN (K:=K) rfl) T.len bB (aj (c6 (K:=K) rfl (À 0)) ae))) (À 3))))) (ao (aJ (À 2))))),?_⟩;have g3:=ok.a3;have g26:=ok.a26;have w8:=ok.w8;rw[dR];symm;refine⟨dx,_,h1,bC Zd Zd Zd al q r,a,al,ws,r,x,t,rfl,⟨dx,q,h1,h2⟩,ok,ht,hz,fun H1 s1=>?_⟩;symm;cases hG:iG (tx al) ws r x with
 | false =>bv_omega;exact⟨Zd,kE hG H1 s1⟩
 | true =>
  bv_omega;obtain⟨z,rfl⟩:∃ z,x=.str z:=by
   cases x with
   | str z=>exact⟨z,rfl⟩
   | _=>cases hG
  have hG':Mk.bW al ws r z.cps.toList=true:=by have:Mk.bW (tx al).cps.toList ws r z.cps.toList=true:=hG;rw[bQ] at this;exact this
  symm;rw[dR];symm;rw[dR];symm;refine⟨_,dx,_,_,s1 _ _ h1,AF.c_Code,AF.n_Code_letters,ei al q r,?_⟩;symm;have e0:mS z.cps.toList none (some (-1))=z.cps.toList.dropLast:=DN _;rw[e0];have hzl:=hz z rfl;have hzc:=dQ z;unfold Mk.bW Mk.bE at hG';simp only[bT,bN,c9] at hG';obtain⟨⟨hl,hm⟩,-⟩:=hG';have hd:⇑z.cps.toList.dropLast<=⇑z.cps.toList:=by rw[iX];left
  have hdm:∀ c∈z.cps.toList.dropLast,c∈al:=fun c hc=>hm c (ip _ hc);refine⟨aM (ak ⋯),tx al,tx z.cps.toList.dropLast,rfl,by rw[bS];left,by rw[bQ,bQ];exact hdm,fun p H2 hp s2 h3=>.inl ⟨⟨_,.of h3⟩,?_⟩⟩;rw[bQ,bQ] at h3;have hpm:=Mk.mj hdm;have hpl:⇑(Mk.Ò al z.cps.toList.dropLast)<=8:=by rw[Mk.oR];left
  have kQ':=kQ z rfl (by have:Mk.bW (tx al).cps.toList ws r z.cps.toList=true:=hG;rw[bQ] at this;exact this);generalize Mk.Ò al z.cps.toList.dropLast=ps at h3 hpm hpl kQ';refine u6 (xs:=ps.map V.int) (fun i σ H'=>H'=H2/\∃ o,σ=[some (.ref a),some (.str z),some (.int (Mk.numOf ⇑al (ps.take i))),o]) ?_ ?_ ?_ ?_
  ·exact⟨rfl,none,rfl⟩
  ·rintro i σ H' _ ⟨rfl,_⟩;exact .of h3
  ·rintro i x σ H' hx ⟨rfl,o,rfl⟩;rw[aS] at hx;obtain⟨x,hy,rfl⟩:=eh.mp hx;have hi:=(br.mp hy).1;have hb:=Mk.jq (m:=⇑al) ⋯ (ps.take i) fun p hp=>hpm p (List.mem_of_mem_take hp);have hxm:=hpm x (bL hy);ac_nf;refine⟨_,dx,_,_,s2 _ _ (s1 _ _ h1),AF.c_Code,AF.n_Code_letters,ei al q r,?_⟩;ac_nf;rw[bS];refine⟨aM (ak ⋯),⟨?_,bH (show ((⇑al:Int)).natAbs<1000 by left) Zd⟩,?_⟩
   ·refine bH (show (Mk.numOf (⇑al:Int) (ps.take i)).natAbs<26^8 from ?_) Zd;have e1:((⇑al:Int))^⇑(ps.take i)<=((26^8:Nat):Int):=by
     rw[←Int.natCast_pow];exact Int.ofNat_le.mpr (aX (Nat.pow_le_pow_left g26 _) (lS Zd (by rw[bK];left)))
    left
   ·refine⟨trivial,some (.int x),?_⟩;have e:ps.take (i+1)=ps.take i++[x]:=by rw[gA,hy];rfl
    rw[e,Mk.mf]
  ·rintro σ H' ⟨rfl,o,rfl⟩;rw[af,jX];ac_nf;exact kQ' _ (s1.trans s2)
inductive qy (Ad:Ê) (vs:List V) (H:Hp) (Q:VK) (E:XK):Prop
 | mk (a:Addr) (al:Za) (ws:Zb) (r:Int) (x:V) (t:Tg) (q0:vs=[.ref a,x]) (q1:cx Ad H a al ws r) (q2:bP al ws r) (q3:eZ H x=some t) (q4:(∀ z,x=.str z->⇑z<=100000)) (q5:(dC (tx al) ⇑ws x=false->∀ H',a9 H H'->E (.ref Ad.NoWord) none H')) (q6:∀ z,x=.str (tx z)->Mk.bE al ⇑ws z=true->∀ fs:List Zb,fs.Perm (kL ⇑al (Mk.Ò al z))->∀ D H',H D=none->a9 H H'->H' D=some (.lst ((fs.filter fun ps=>Mk.good ⇑al ws r ps).map fun ps=>V.str (tx (Mk.bD al ps))))->Q (.ref D) H'):qy Ad vs H Q E
theorem Bt (F:Ç K "nearest" "nearest" sQ f fd) (T:Bl mg) (AF:È K mg Ad) (C_faulty:Å P w K mg base (Á P w) 2 "faulty" ["code","word"] (sX Ad)) (M_Code_has_good:Í P w K mg base (Á P w) Ad.Code "has_good" 3 ["self","thing"] (dG Ad)):bR P w K mg base (Á P w) 4 f fd ["code","word"] (qy Ad):=by
 exists["code","word"];obtain⟨a,al,ws,r,x,t,rfl,hat,ok,ht,hz,hE,k⟩:=h;refine⟨_,ao (aJ (fH ["made"] rfl ⟨rfl,by nofun,rfl,by nofun⟩ (.cons (j:=0) rfl (.inl (by ext)) (.nil)) (by nofun) (ck (K:=K) rfl (az C_faulty au (hr.mono Zd) (aj (Ä 0) (aj (À 1) ae)))) (fun _ _ _ _=>aL (i:=0) (show (["made","code"]:Ze).Nodup from by nofun)) (fun _ _ _ _=>mi (cH (cW M_Code_has_good e8 (hr.mono Zd) (Ä 1) (aj (À 0) ae)))) (fun _ _ _ _=>À 0))),?_⟩;symm;refine⟨a,al,ws,r,x,t,rfl,hat,ok,ht,hz,hE,fun z hx hw fs fp D H1 hD s1 h1=>?_⟩;have k':=k z hx hw fs fp;obtain⟨zl,zm⟩:=Mk.dH.mp hw;have pm:=Mk.mj zm;have pl:⇑(Mk.Ò al z)=⇑ws:=by rw[Mk.oR];left
 have a26:=ok.a26;have w8:=ok.w8;have fo:∀ q∈fs,⇑q=⇑ws/\∀ x∈q,0<=x/\x<(⇑al:Int):=fun q hq=>by have:=pH pm q (fp.mem_iff.mp hq);exact⟨by rw[this.1,pl],this.2⟩
 have fl:⇑fs<=208:=by rw[fp.length_eq];unfold kL;rw[aF,uR pm];have:=uC (ps:=Mk.Ò al z);have:⇑(Mk.Ò al z)*(⇑al-1)<=200:=aX (Nat.mul_le_mul (show _<=8 by left) (show ⇑al-1<=25 by left)) Zd;left
 have h1':H1 D=some (.lst ((fs.map (Mk.bD al)).map fun l=>V.str (tx l))):=by rw[h1,aW];rfl
 refine .inl ⟨⟨_,.of h1⟩,zi (fun l:Za=>V.str (tx l)) (fun x y e=>lq (V.str.inj e)) (cT (.of h1')) (by rw[af];exact ak ⋯) (fun l=>Mk.bW al ws r l) (fun l=>V.str (tx l)) ?_ ?_ ?_⟩
 ·intro l hl H5 t5 R hR;obtain⟨y,hy,rfl⟩:=aK.mp hl;symm;obtain⟨dx,q,c1,c2⟩:=hat
  have S5:=s1.trans t5;refine⟨dx,_,S5 _ _ c1,bC Zd Zd Zd al q r,a,al,ws,r,.str (tx (Mk.bD al y)),.str,rfl,⟨dx,q,S5 _ _ c1,S5 _ _ c2⟩,ok,rfl,(fun z ez=>by cases ez;rw[bS,Mk.fA,(fo y hy).1];left),fun H6 s6=>?_⟩;have eg:iG (tx al) ws r (.str (tx (Mk.bD al y)))=Mk.bW al ws r (Mk.bD al y):=by show Mk.bW (tx al).cps.toList ws r (tx (Mk.bD al y)).cps.toList=_;rw[bQ,bQ]
  rw[eg];exact⟨_,rfl,hR H6 s6⟩
 ·intro l hl hp H5 t5 R hR;symm;exact hR H5 (a9.refl _)
 intro D2 H2 hD2 s2 h2;refine k' D2 H2 (s1.free hD2) (s1.trans s2) ?_;rw[h2,List.filter_map,aW]
 congr 2
 rw[show (fs.filter ((fun l=>Mk.bW al ws r l) ∘ Mk.bD al))=fs.filter fun ps=>Mk.good ⇑al ws r ps from List.filter_congr fun y hy=>Mk.j9 ok.nd (fo y hy).1 (fo y hy).2];rfl
inductive rp (Ad:Ê) (vs:List V) (H:Hp) (Q:VK) (E:XK):Prop
 | mk (b ca dn de g:Addr) (es:List Ã) (xs:List V) (al:Za) (ws:Zb) (r:Int) (q0:vs=[.ref b,.ref g]) (q1:dB Ad H b ca dn de es) (q2:cx Ad H ca al ws r) (q3:bP al ws r) (q4:(∀ e∈es,qH e.key/\0<=e.num/\e.num<bI al ws)) (q5:H g=some (.lst xs)) (q6:⇑xs<=1000) (q7:(∀ x∈xs,∃ t,eZ H x=some t)) (q8:(∀ wd,qY (xs.map (Õ es))=.inr wd->∀ H',a9 H H'->Q (.str (tx (Mk.fK 32 wd))) H')) (q9:∀ n,qY (xs.map (Õ es))=.inl n->∀ dx H',a9 H H'->H' dx=some (.xd [("at",.int n)])->E (.ref Ad.NoReading) (some dx) H'):rp Ad vs H Q E
theorem kA:aI ["book","groups","words","spelling","at","group","entry"] ["book","groups"] (aw BJ):=by subst_eqs
theorem J6 (F:Ç K "said" "said" BJ f fd) (T:Bl mg) (AF:È K mg Ad) (C_can_stand:Å P w K mg base (Á P w) 1 "can_stand" ["entry","many","spelling"] rl) (M_Book_entry:Í P w K mg base (Á P w) Ad.Book "entry" 3 ["self","number"] (gy Ad)) (K_NoReading:Fd P w K mg base (Á P w) Ad.NoReading "NoReading" 1 ["self","at"] (fJ Ad)):bR P w K mg base (Á P w) 4 f fd ["book","groups"] (rp Ad):=by
 specialize kA;obtain⟨b,ca,dn,de,g,es,xs,al,ws,r,rfl,B,C,ok,hes,hg,gl,htg,k1,k2⟩:=h;refine⟨_,ah (aP (i:=2) kA.nd (cR ae)) (ah (aP (i:=3) kA.nd bU) (ah (gH cN rfl (qS (K:=K) rfl T.enumerate (aj (À 1) ae)) (k6 (K:=K) (n:=2) rfl rfl (cE (aL (i:=4) kA.nd) (cE (aL (i:=5) kA.nd) jt))) (ah (aP (i:=6) kA.nd (cW M_Book_entry au (hr.mono Zd) (À 0) (aj (À 5) ae))) (ah (cp ((ng (bF yj (À 6) jB (bw _)) (kO (cU (cH (az C_can_stand au (hr.mono Zd) (aj (À 6) (aj (ax (aN (K:=K) rfl) T.len bB (aj (À 2) ae)) (aj (À 3) ae)))))))).pt) (ao (sL K_NoReading pT rfl (hr.mono Zd) (aj (À 4) ae))) bu) (ao (cp (bF (dI (K:=K) rfl hu) (cL (eQ (K:=K) rfl) (À 6) aA (fun _ _=>rfl)) bU (bw _)) (ao (eG (eR (K:=K) rfl gC PySem.F.slot_list_extend PySem.F.type_list_extend E7 (À 2) (aj (eR (K:=K) rfl jb PySem.F.slot_str_split PySem.F.type_str_split vd (cL (eQ (K:=K) rfl) (À 6) aA (fun _ _=>rfl)) (aj bU ae)) ae)))) (ao (cp (bF (dI (K:=K) rfl hu) (cL (eQ (K:=K) rfl) (À 6) aA (fun _ _=>rfl)) bU (bw _)) (ao (aP (i:=3) kA.nd (aO aZ (À 3) (cL (eQ (K:=K) rfl) (À 6) aA (fun _ _=>rfl))))) (ah (eG (eR (K:=K) rfl gC ka kb gR (À 2) (aj (À 3) ae))) (ao (aP (i:=3) kA.nd bU)))))))))) (ah (cp ((ng (bF (iB (K:=K) rfl hu) (À 3) bU (bw _)) (kO (bF (dI (K:=K) rfl hu) (ax (aN (K:=K) rfl) T.len bB (aj (À 2) ae)) aA (bw _)))).pt) (ao (sL K_NoReading pT rfl (hr.mono Zd) (aj (ax (aN (K:=K) rfl) T.len bB (aj (À 1) ae)) ae))) bu) (ao (aJ (eR (K:=K) rfl jb PySem.F.slot_str_join PySem.F.type_str_join (vc (K:=K) rfl) bU (aj (À 2) ae))))))),?_⟩;have big:∀ {u:Nat},u<=10000->u<=sizeLine:=fun hu=>aM (ak ⋯);generalize hks:xs.map (Õ es)=ks at k1 k2;have kl:⇑ks=⇑xs:=by rw[←hks,af]
 grind;refine⟨bc _,fun D H1 hD s1 h1=>?_⟩;cbv;grind;cbv;grind;refine⟨g,rfl,⟨_,.of (s1 _ _ hg)⟩,?_⟩;refine wN (xs:=xs) (fun i σ H'=>∃ (s:Ú) (o4 o5 o6:Option V),σ=[some (V.ref b),some (V.ref g),some (V.ref D),some (V.str (tx s.2)),o4,o5,o6]/\a9 H H'/\H' D=some (.lst (s.1.map fun w=>V.str (tx w)))/\wk s/\pU ks ([],[]) 0=pU (ks.drop i) s i) ?_ ?_ ?_ ?_
 ·exact⟨([],[]),_,_,_,rfl,s1,h1,O3,rfl⟩
 ·rintro i σ H' _ ⟨s,o4,o5,o6,_,sH,_⟩;exact .of (sH _ _ hg)
 ·rintro i x σ A1 hx ⟨s,o4,o5,o6,rfl,sA,hDA,say,hrs⟩ N hNx p A2 zp t2 h2;clear hN;refine⟨p,_,rfl,.of h2,rfl,?_⟩;have S2:=sA.trans t2;have hD2:=t2 _ _ hDA;clear zp h2;have hi:i<⇑xs:=(br.mp hx).1;obtain⟨tx1,htx⟩:=htg x (bL hx);have hk:ks[i]?=some (Õ es x):=by rw[←hks,aS,hx];rfl
  have hcut:pU ks ([],[]) 0=pU (Õ es x::ks.drop (i+1)) s i:=by rw[hrs,lK (by rw[kl];exact hi),(br.mp hk).2]
  have raised:∀ G,a9 H G->pU ks ([],[]) 0=.inl i->∀ dx H',a9 G H'->H' dx=some (.xd [("at",.int (i:Int))])->E (.ref Ad.NoReading) (some dx) H':=fun G sG hr dx H' sH hd=>k2 i (by unfold qY;rw[hr]) dx H' (sG.trans sH) hd;have few:=say.few;have len:=say.len;have B2:=B.same S2;obtain⟨dx2,h12⟩:=B2.bk;symm;refine gM fun n2 hM=>?_;symm;have none1:Õ es x=none->∀ D' G,a9 A2 G->n2 D' [some (V.ref b),some (V.ref g),some (V.ref D),some (V.str (tx s.2)),some (V.int (i:Int)),some x,some V.non] G:=fun hno D' G tG=>by rw[hM];clear hM n2;refine gM fun n2 hM=>?_;symm;exact⟨big Zd,mm ⋯ ⋯ (raised G (S2.trans tG) (by rw[hcut,hno];rfl))⟩
  refine⟨dx2,_,h12,cC Zd Zd Zd ca dn de,b,ca,dn,de,es,al,ws,r,x,tx1,rfl,B2,C.same S2,ok,il S2 htx,fun hb G tG=>none1 ?_ _ G tG,fun n' en _ _ hno G tG=>?_,fun n' en _ _ u hu eu G tG=>?_⟩
  ·cases x with
   | int n =>refine Be fun hm=>?_;obtain⟨u,hu,eu⟩:=aK.mp hm;obtain⟨_,u0,u1⟩:=hes u hu;rw[←eu,gP u0 u1] at hb;cases hb
   | _=>rfl
  ·subst en;exact none1 (Be hno) _ G tG
  subst en;have hem:=hu;obtain⟨eo,en0,en1⟩:=hes u hu;have hkk:Õ es (.int n')=some u.key:=by rw[←eu];exact Gk B.nn hu
  rw[hkk] at hcut;clear none1;rw[hM];clear hM n2;have hG:=S2.trans tG;have htG:=(B.same hG).en u hem;have hDG:=tG _ _ hD2;refine gM fun n2 hM=>?_;symm;refine⟨_,.inl (.of hDG),?_⟩;rw[af];refine⟨u.adr,u.key,s,rfl,htG,eo,say,fun G3 t3=>⟨_,rfl,?_⟩⟩;cases hst:stepK u.key s with
  | none =>symm;rw[ai (by rfl)];symm;exact⟨big Zd,mm ⋯ (by omega) (raised G3 (hG.trans t3) (by rw[hcut];show (match stepK u.key s with | none=>_ | some s'=>_)=_;rw[hst]))⟩
  | some s' =>
  have hrs':pU ks ([],[]) 0=pU (ks.drop (i+1)) s' (i+1):=by rw[hcut];show (match stepK u.key s with | none=>_ | some s'=>_)=_;rw[hst]
  have say':=say.step eo hst;rw[ag (by show ¬ (!true)=true;decide)];show n2 _ _ _;rw[hM];clear hM n2;have SG:=hG.trans t3;have htG3:=t3 _ _ htG;have hDG3:=t3 _ _ hDG;have hNN:∀ G,a9 H G->G D=some (.lst (s'.1.map fun w=>V.str (tx w)))->N [some (V.ref b),some (V.ref g),some (V.ref D),some (V.str (tx s'.2)),some (V.int (i:Int)),some (V.int n'),some (V.ref u.adr)] G:=fun G sG hDG'=>hNx _ _ ⟨s',_,_,_,rfl,sG,hDG',say',hrs'⟩;rcases uO eo with ⟨l,ek,hl⟩ | ⟨l,ek,hl⟩ | ek
  ·rw[ek] at htG3 hst eo;have ht':G3 u.adr=some (.tup [.str ("phrase":Str),.str (tx l)]):=htG3;have hs:⇑l<=10000:=by
    have:=eo.short (tx l) (by simp [kV])
    rwa [bS] at this
   rw[kD] at hst;split at hst
   ·rename_i hc
    cases hst
    symm;refine⟨_,_,.inr (.of ht'),eP Zd rfl,?_⟩;symm;rw[ai (by rfl)];refine⟨.inl ⟨rfl,_,.of hDG3⟩,_,_,.inr (.of ht'),eP Zd rfl,rfl,?_⟩;symm;refine⟨by rw[bS];left,32,rfl,fun p4 G4 hp4 t4 g4=>?_⟩;rw[bQ] at g4;refine⟨D,p4,_,_,rfl,rfl,t4 _ _ hDG3,g4,by rw[af,af];exact big ⋯,?_⟩;rw[←bM];have e2:s.2=[]:=hc.1;rw[e2];exact hNN _ ((SG.trans t4).cf hD) aC
   ·cases hst
  ·rw[ek] at htG3 hst eo;have ht':G3 u.adr=some (.tup [.str ("part":Str),.str (tx l)]):=htG3;rw[sY] at hst;split at hst
   ·rename_i hc
    cases hst
    symm;refine⟨_,_,.inr (.of ht'),eP Zd rfl,?_⟩;symm;rw[ag (by decide)];refine⟨_,_,.inr (.of ht'),eP Zd rfl,?_⟩;symm;rw[ai (by rfl)];refine⟨_,_,.inr (.of ht'),eP Zd rfl,?_⟩;symm;simp only[bS,vT];exact⟨big ⋯,hNN _ SG hDG3⟩
   ·cases hst
  ·rw[ek] at htG3 hst eo;have ht':G3 u.adr=some (.tup [.str ("end":Str)]):=htG3;rw[vP] at hst;split at hst
   ·cases hst
   ·rename_i hc
    cases hst
    symm;refine⟨_,_,.inr (.of ht'),eP Zd rfl,?_⟩;symm;rw[ag (by decide)];refine⟨_,_,.inr (.of ht'),eP Zd rfl,?_⟩;symm;rw[ag (by decide)];refine gM fun n2 hM=>?_;symm;refine⟨.inl ⟨rfl,_,.of hDG3⟩,D,_,_,rfl,rfl,hDG3,by rw[af];exact ak ⋯,?_⟩;rw[hM];clear hM n2;symm;rw[show (s.1.map fun w=>V.str (tx w))++[V.str (tx s.2)]=(s.1++[s.2]).map fun w=>V.str (tx w) by rw[bM];rfl];exact hNN _ (SG.cf hD) aC
 rintro σ H2 ⟨s,o4,o5,o6,rfl,s2,h2,say,hrs⟩;show nn _ _ _;cbv;have hfin:pU ks ([],[]) 0=.inr s:=by rw[hrs,List.drop_eq_nil_of_le ⋯];rfl
 clear hrs;obtain⟨wd,sp⟩:=s;have few:⇑wd<=60:=say.few;have ended:¬ (sp=[]/\wd≠[])->∀ dx H',a9 H2 H'->H' dx=some (.xd [("at",.int (⇑xs:Int))])->E (.ref Ad.NoReading) (some dx) H':=fun hno dx H' sH hd=>k2 ⇑xs (by unfold qY;rw[hfin];show (if _ then _ else _)=_;rw[ag hno,kl]) dx H' (s2.trans sH) hd;grind;have e0:Str.ofString ""=tx []:=rfl;rw[e0,Ca]
 by_cases hsp:sp=[]
 ·subst hsp;rw[ag (by decide)];refine⟨_,.inl (.of h2),?_⟩;rw[af];show (if decide ((⇑wd:Int)=0)=true then _ else _)
  by_cases hwne:wd=[]
  ·subst hwne;rw[ai (by decide)];symm;refine⟨_,.inl (.of (s2 _ _ hg)),big Zd,mm ⋯ ⋯ (ended (fun z=>z.2 rfl))⟩
  have hl0:⇑wd≠0:=fun z=>hwne (oi.mp z);obtain⟨j1,j2⟩:=Jv (ws:=wd) few say.wds;rw[ag (by rw[ay ⋯];decide)];show nn _ _ _;cbv;symm;have ejs:(wd.map fun w=>V.str (tx w))=(wd.map tx).map V.str:=by rw[aW];rfl
  refine⟨rfl,wd.map tx,.of (by rw[h2,ejs]),?_,?_⟩
  ·rw[aW,af];have:(wd.map ((fun z:Str=>⇑z) ∘ tx)).sum<=(wd.map fun w=>⇑w+1).sum:=by
    have e:wd.map ((fun z:Str=>⇑z) ∘ tx)=wd.map fun w=>⇑w:=iY fun w _=>bS w;rw[e];clear e j1 j2 ejs h2 say hfin hwne few hl0 ended
    induction wd with
    | nil=>simp
    | cons w r ih=>simp only[bg,lQ];left
   have e1:(Str.ofString " ").length=1:=rfl;rw[e1];left
  ·rw[show (Str.ofString " ")=tx [32] from rfl,EW];exact k1 wd (by unfold qY;rw[hfin];exact ai ⟨rfl,hwne⟩) H2 s2
 ·rw[ai (by rw[ay hsp];rfl)];symm;refine⟨_,.inl (.of (s2 _ _ hg)),big Zd,mm ⋯ ⋯ (ended (fun z=>hsp z.1))⟩
inductive nF (Ad:Ê) (vs:List V) (H:Hp) (Q:VK) (E:XK):Prop
 | mk (ca q:Addr) (al:Za) (ws:Zb) (r:Int) (gs:Zb) (q0:vs=[.ref ca,.ref q]) (q1:cx Ad H ca al ws r) (q2:bP al ws r) (q3:H q=some (.lst (gs.map V.int))) (q4:∀ H',a9 H H'->Q (É (we al ws r ((gs.sum+(⇑gs:Int))%bI al ws))) H'):nF Ad vs H Q E
theorem z6 (F:Ç K "check_of" "check_of" pX f fd) (T:Bl mg) (AF:È K mg Ad) (C_check_number:Å P w K mg base (Á P w) 2 "check_number" ["code","groups"] (gG Ad)) (M_Code_word:Í P w K mg base (Á P w) Ad.Code "word" 3 ["self","k"] (ik Ad)):bR P w K mg base (Á P w) 4 f fd ["code","groups"] (nF Ad):=by
 exists["code","groups"];obtain⟨ca,q,al,ws,r,gs,rfl,C,ok,hq,k⟩:=h;refine⟨_,ao (aJ (cW M_Code_word au (hr.mono Zd) (À 0) (aj (az C_check_number au (hr.mono Zd) (aj (À 0) (aj (À 1) ae))) ae))),?_⟩;obtain⟨dc,qc,hc1,hc2⟩:=id C;have a3:=ok.a3;have hmany:0<bI al ws:=Int.pow_pos ⋯;have c0:=bY (gs.sum+(⇑gs:Int)) (b:=bI al ws) ⋯;have c1:=bZ (gs.sum+(⇑gs:Int)) hmany;symm;refine⟨dc,_,hc1,bC Zd Zd Zd al qc r,ca,q,al,ws,r,gs,rfl,C,ok,hq,fun G1 t1=>?_⟩;refine⟨ca,al,ws,r,.int _,.int,rfl,C.same t1,ok,rfl,(fun h=>?_),fun k' e _ _ G3 t3=>?_⟩
 ·rw[gP (b:=(⇑al:Int)^(⇑ws-1)) c0 c1] at h;cases h
 cases e
 exact k G3 (t1.trans t3)
inductive gF (Ad:Ê) (vs:List V) (H:Hp) (Q:VK) (E:XK):Prop
 | mk (a q D:Addr) (al:Za) (ws:Zb) (r s:Int) (zs:List Za) (fs:List Flt) (kvs:List (List Key×V)) (q0:vs=[.ref a,.ref q,.ref D,.int s]) (q1:cx Ad H a al ws r) (q2:H q=some (.lst (zs.map É))) (q3:(∀ z∈zs,yE al z)) (q4:⇑zs<=1000) (q5:H D=some (.dT kvs)) (q6:oH H kvs fs) (q7:(∀ f∈fs,0<=f.n)) (q8:∀ p H',H p=none->a9 H H'->H' p=some (.lst ((iJ al fs s zs).map É))->Q (.ref p) H'):gF Ad vs H Q E
theorem ue (F:Ç K "as_they_come" "as_they_come" jG f fd) (T:Bl mg) (AF:È K mg Ad) (C_as_it_comes:Å P w K mg base (Á P w) 3 "as_it_comes" ["code","word","fault"] (jP Ad)):bR P w K mg base (Á P w) 4 f fd ["code","words","first","sending"] (gF Ad):=by
 exists["code","words","first","sending"];obtain⟨a,q,D,al,ws,r,s,zs,fs,kvs,rfl,hC,hq,hok,hl,hD,hF,hn,k⟩:=h;refine⟨_,ao (aJ (fH ["place","word"] rfl ⟨rfl,by nofun,rfl,by nofun⟩ (.cons (j:=0) rfl (.inl (by ext)) (.cons (j:=2) rfl (.inl (by ext)) (.cons (j:=3) rfl (.inl (by ext)) (.nil)))) (by nofun) (qS (K:=K) rfl T.enumerate (aj (À 1) ae)) (fun _ _ _ _=>k6 (K:=K) (n:=2) rfl rfl (cE (aL (i:=0) (show (["place","word","code","first","sending"]:Ze).Nodup from by nofun)) (cE (aL (i:=1) (show (["place","word","code","first","sending"]:Ze).Nodup from by nofun)) jt))) (fun _ _ _ _=>cM) (fun _ _ _ _=>az C_as_it_comes e8 (hr.mono Zd) (aj (Ä 2) (aj (À 1) (aj (xf hu1 (Ä 3) (kz (aj (Ä 4) (aj (À 0) ae)))) ae)))))),?_⟩;have le2:2<=sizeLine:=aM (ak Zd);symm;refine⟨q,rfl,⟨_,.of hq⟩,Gs (.of hq) (by rw[af];exact ak ⋯) (fun i=>É (j8 al (zs.getD i []) (fs.find? (hits s (i:Int))))) ?_ ?_⟩
 ·intro i x hx H1 s1 R hR;rw[aS] at hx;obtain⟨z,hz,rfl⟩:=eh.mp hx;have ez:zs.getD i []=z:=by rw[aT,hz];rfl
  rw[ez] at hR;have okz:=hok z (bL hz);have hD1:=s1 _ _ hD;symm;refine⟨.inr ⟨_,.inl hD1⟩,le2,fun p1 H2 hp1 s2 h2=>⟨_,tW.t (k:=[.inl s,.inl (i:Int)]) (s2 _ _ hD1) h2,?_⟩⟩;refine⟨a,al,z,ws,r,fs.find? (hits s (i:Int)),_,rfl,hC.same (s1.trans s2),okz,?_,hR H2 s2⟩;rcases hF s (i:Int) with ⟨e1,e2⟩ | ⟨t2,f2,e1,e2,e3⟩
  ·exact .inl ⟨e2,by rw[e1];rfl⟩
  ·exact .inr ⟨t2,f2,e2,by rw[e1];rfl,(s1.trans s2) _ _ e3,hn f2 (List.mem_of_find?_eq_some e2)⟩
 ·intro p H1 hp s1 h1;refine k p H1 hp s1 ?_;rw[h1];unfold iJ;rw[aW,af];rfl
inductive jN (Ad:Ê) (vs:List V) (H:Hp) (Q:VK) (E:XK):Prop
 | mk (b ca dn de f t:Addr) (es:List Ã) (al:Za) (ws:Zb) (r n:Int) (key:List Key) (y:V) (q0:vs=[.ref b,.ref t,y,.ref f]) (q1:dB Ad H b ca dn de es) (q2:cx Ad H ca al ws r) (q3:bP al ws r) (q4:rV xO Ad.tb H f) (q5:H t=some (.tup (key.map kV))) (q6:qH key) (q7:key∉es.map (·.key)) (q8:⇑es<300) (q9:0<=n) (q10:n<bI al ws) (q11:n∉es.map (·.num)) (q12:(y=.int n∨(y=.non/\uH (es.map (·.num)) n))) (q13:∀ H',a9 H H'->Q (.int n) H'):jN Ad vs H Q E
theorem vB:aI ["self","entry","number","is_barred"] ["self","entry","number","is_barred"] (aw kP):=by subst_eqs
theorem vh (F:Ç K "choose" "Book.choose" kP f fd) (T:Bl mg) (AF:È K mg Ad) (C_is_below:Å P w K mg base (Á P w) 2 "is_below" ["thing","bound"] gY) (C_is_entry:Å P w K mg base (Á P w) 3 "is_entry" ["thing"] tP) (M_Book_least_free:Í P w K mg base (Á P w) Ad.Book "least_free" 2 ["self","is_barred"] (eX Ad)) (M_Code_many:Í P w K mg base (Á P w) Ad.Code "many" 1 ["self"] (dE Ad)):bR P w K mg base (Á P w) 4 f fd ["self","entry","number","is_barred"] (jN Ad):=by
 refine F.æ (k:=3) vB ?_ (fun cdv A outer s H vs Q E hr h=>?_)
 ·bv_decide
 ·obtain⟨b,ca,dn,de,f,t,es,al,ws,r,n,key,y,rfl,B,C,ok,Fb,ht,eo,hk,h300,n0,n1,hnn,hy,k⟩:=h;obtain⟨dx,h1⟩:=B.bk;have hu:=hr.jQ;have hu1:=pd hr;refine⟨_,ah (cp (cU (cH (az C_is_entry au (hr.mono Zd) (aj (À 1) ae)))) (ao (dX d0 AF.q_NoEntry AF.g_NoEntry di rfl (aj bU ae))) bu) (ah (cp (bF (pP (K:=K) rfl hu1) (À 1) (c6 (K:=K) rfl (À 0)) (by ext)) (ao (dX d0 AF.q_Twice AF.g_Twice di rfl (aj bU ae))) bu) (ah (cp (bF sI (À 2) jB (bw _)) (ah (cp (cU (cH (az C_is_below au (hr.mono Zd) (aj (À 2) (aj (bX M_Code_many au (hr.mono Zd) (c6 (K:=K) rfl (À 0))) ae))))) (ao (dX d0 AF.q_NoNumber AF.g_NoNumber di rfl (aj bU ae))) bu) (ao (cp ((ng (bF (pP (K:=K) rfl hu1) (À 2) (c6 (K:=K) rfl (À 0)) (by ext)) (kO (cH (vy (q:=xO) (Pt:=Ad.tb) (À 3) hr (aj (À 2) ae))))).pt) (ao (dX d0 AF.q_NoNumber AF.g_NoNumber di rfl (aj bU ae))) bu))) bu) (ah (cp (bF GQ (ax D8 T.len bB (aj (c6 (K:=K) rfl (À 0)) ae)) (fh AF.v_MOST_ENTRIES) (bw _)) (ao (dX d0 AF.q_TooMany AF.g_TooMany di rfl (aj bU ae))) bu) (ao (aJ (zK (bF yj (À 2) jB (bw _)) (cW M_Book_least_free au (hr.mono Zd) (À 0) (aj (À 3) ae)) (À 2))))))),?_⟩;grind;refine⟨_,.tup,rfl,(show mE (H t)=_ by rw[ht];rfl),(fun p xs ep hp=>?_),fun G1 t1=>?_⟩
  ·cases ep
   rw[ht] at hp;cases hp;refine⟨by rw[af];have:=eo.few;left,fun v hv=>?_⟩;obtain⟨z,hz,rfl⟩:=aK.mp hv;exact⟨LO H z,fun s es=>eo.short s (by rw[←es];exact hv)⟩
  rw[Jd ht eo];symm;cbv;have B1:=B.same t1;obtain⟨dx1,h11⟩:=B1.bk;grind;refine⟨_,dx1,_,_,h11,AF.c_Book,AF.n_Book_by_entry,wC ca dn de,?_⟩;refine .inr ⟨_,.inr ⟨_,key,t,.inl B1.he,rfl,t1 _ _ ht,rfl⟩,?_⟩;rw[FA hk];bv_omega;show nn _ _ _;cbv;have rest:∀ (G2:Hp),a9 H G2->(Kq
       (Kp
        (xm
         (õ (N6 K) (ø Hu (p9 (HX K (sZ 0) (Str.ofString "by_number")) uq)) (tC (V.int 300))))
        (BH Ad.TooMany (fun x=>E) (p9 (tC (V.str (Str.ofString "a book has at most 300 entries"))) uq))
        Di)
       (MD
        (Ĕ (xm (õ (EH false) (sZ 2) (tC V.non)))
         (nO Ad.Book (Str.ofString "least_free") (eX Ad) (fun x=>E) (sZ 0)
          (p9 (sZ 3) uq))
         (sZ 2)))) { nx:=fun x H'=>Q V.non H',rt:=Q } [some (V.ref b),some (V.ref t),some y,some (V.ref f)] G2:=by
   intro G2 t2;have B2:=B.same t2;obtain⟨dx2,h12⟩:=B2.bk;grind;refine⟨_,dx2,_,_,h12,AF.c_Book,AF.n_Book_by_number,i8 ca dn de,?_⟩;symm;refine⟨_,.inl B2.hn,?_⟩;rw[zx,ay (show ¬ (300:Int)<=(⇑es:Int) by left)];bv_omega;show nn _ _ _;cbv;rcases hy with rfl | ⟨rfl,Lf⟩
   ·symm;exact k G2 t2
   ·symm;exact⟨dx2,_,h12,cC Zd Zd Zd ca dn de,b,ca,dn,de,f,es,al,ws,r,n,rfl,B2,C.same t2,ok,Fb.same t2,Lf,n1,fun G3 t3=>k G3 (t2.trans t3)⟩
  grind;rcases id hy with rfl | ⟨rfl,Lf⟩
  ·symm;have C1:=C.same t1;obtain⟨dc,qc,hc1,hc2⟩:=id C1;refine gM fun n2 hM=>?_;symm;refine⟨_,dx1,_,_,h11,AF.c_Book,AF.n_Book_basis,kj ca dn de,?_⟩;refine⟨dc,_,hc1,bC Zd Zd Zd al qc r,ca,al,ws,r,rfl,C1,ok.a26,by have:=ok.w3;left,ok.w8,fun G2 t2=>?_⟩;refine⟨_,.int,_,rfl,rfl,?_⟩;rw[gP (b:=(⇑al:Int)^(⇑ws-1)) n0 n1];symm;rw[hM];clear hM n2;have t02:=t1.trans t2;have B2:=B.same t02;obtain⟨dx2,h12⟩:=B2.bk;symm;refine⟨_,dx2,_,_,h12,AF.c_Book,AF.n_Book_by_number,i8 ca dn de,?_⟩;refine .inr ⟨_,.inl ⟨_,.inl n,.inl B2.hn,rfl,rfl⟩,?_⟩;rw[xT hnn];bv_omega;refine⟨Fb.same t02,Fb.same t02,?_⟩;show nn _ _ _;rw[hN];exact rest G2 t02
  ·symm;show nn _ _ _;rw[hN];exact rest G1 t1
noncomputable def tR:Sp:=fun vs H Q _=>∃ c:Int,vs=[.int c]/\∀ P q al ws r H',a9 H H'->Parts H' P q al ws r->bP al ws r->Q (.ref P) H'
theorem k9:aI ["_law_cell","_law_many","_law_length","_law_weights_here"] ["_law_cell"] (aw qi):=by subst_eqs
theorem zE (F:Ç K "_law_code" "_law_code" qi f fd) (T:Bl mg) (AF:È K mg Ad) (C_law_mixed:Å P w K mg base (Á P w) 2 "_law_mixed" ["_law_cell","_law_k"] dY) (C_law_alphabet:Å P w K mg base (Á P w) 3 "_law_alphabet" ["_law_cell","_law_many"] mO) (C_law_weights:Å P w K mg base (Á P w) 3 "_law_weights" ["_law_cell","_law_many","_law_length"] nL):bR P w K mg base (Á P w) 4 f fd ["_law_cell"] tR:=by
 specialize k9;obtain⟨c,rfl,k⟩:=h;refine⟨_,ah (aP (i:=1) k9.nd (aO aZ aA (aO oP aA (aO cg (az C_law_mixed au (hr.mono Zd) (aj (À 0) (aj aA ae))) aA)))) (ah (aP (i:=2) k9.nd (aO aZ aA (aO cg (az C_law_mixed au (hr.mono Zd) (aj (À 0) (aj aA ae))) aA))) (ah (aP (i:=3) k9.nd (az C_law_weights au (hr.mono Zd) (aj (À 0) (aj (À 1) (aj (À 2) ae))))) (ao (aJ (cR (aj (az C_law_alphabet au (hr.mono Zd) (aj (À 0) (aj (À 1) ae))) (aj (À 3) (aj (aO cg (az C_law_mixed au (hr.mono Zd) (aj (À 0) (aj aA ae))) (À 1)) ae)))))))),?_⟩;grind;refine⟨c,20,rfl,Zd,?_⟩;generalize jm c 20%2147483629=x1;symm;refine⟨Zd,.inl Zd,?_⟩;obtain⟨m,hm⟩:=cY (show 0<=3+2*(x1%12) by left);rw[hm,hN];clear hN nn;have m3:3<=m:=⋯
 have m26:m<=26:=⋯
 have mo:m%2=1:=⋯
 clear hm x1;grind;refine⟨c,21,rfl,Zd,Zd,?_⟩;generalize jm c 21%2147483629=x2;symm;obtain⟨n,hn⟩:=cY (show 0<=3+x2%6 by left);rw[hn,hN];clear hN nn;have n3:3<=n:=⋯
 have n8:n<=8:=⋯
 clear hn x2;grind;refine⟨c,m,n,rfl,m3,m26,mo,n8,fun p ws H1 hp s1 h1 hl hb hs=>?_⟩;cbv;symm;refine⟨c,m,rfl,m26,fun al H2 s2 hal hnd hab=>⟨c,22,rfl,Zd,⋯,aM (ak Zd),fun P H3 hP s3 h3=>?_⟩⟩;subst hal;refine k P p al ws _ H3 (s1.trans (s2.trans s3)) ⟨h3,s3 _ _ (s2 _ _ h1)⟩ ⟨m3,m26,hnd,hab,⋯,⋯,hb,hs,?_⟩;exact⟨bY _ ⋯,bZ _ ⋯⟩
inductive jk (Ad:Ê) (vs:List V) (H:Hp) (Q:VK) (E:XK):Prop
 | mk (ca q:Addr) (al:Za) (ws:Zb) (r:Int) (gs:Zb) (q0:vs=[.ref ca,.ref q]) (q1:cx Ad H ca al ws r) (q2:bP al ws r) (q3:H q=some (.lst (gs.map V.int))) (q4:⇑gs<=1000) (q5:(∀ g∈gs,0<=g/\g<bI al ws)) (q6:∀ D H',H D=none->a9 H H'->H' D=some (.lst ((vS al ws r gs).map É))->Q (.ref D) H'):jk Ad vs H Q E
theorem mM:aI ["_law_code_here","_law_groups_here","_law_total"] ["_law_code_here","_law_groups_here"] (aw jK):=by subst_eqs
theorem ui (F:Ç K "_law_telegram" "_law_telegram" jK f fd) (T:Bl mg) (AF:È K mg Ad) (M_Code_word:Í P w K mg base (Á P w) Ad.Code "word" 3 ["self","k"] (ik Ad)) (M_Code_many:Í P w K mg base (Á P w) Ad.Code "many" 1 ["self"] (dE Ad)):bR P w K mg base (Á P w) 4 f fd ["_law_code_here","_law_groups_here"] (jk Ad):=by
 specialize mM;obtain⟨ca,q,al,ws,r,gs,rfl,C,ok,hq,gl,hg,k⟩:=h;refine⟨_,ah (aP (i:=2) mM.nd (aO cg (aO aZ (ax (rZ (K:=K) rfl rfl) T.sum Av (aj (À 1) ae)) (ax (aN (K:=K) rfl) T.len bB (aj (À 1) ae))) (bX M_Code_many au (hr.mono Zd) (Ä 0)))) (ao (aJ (aO aZ (fH ["_law_group"] rfl ⟨rfl,by nofun,rfl,by nofun⟩ (.cons (j:=0) rfl (.inl (by ext)) (.nil)) (by nofun) (ck (K:=K) rfl (À 1)) (fun _ _ _ _=>aL (i:=0) (show (["_law_group","_law_code_here"]:Ze).Nodup from by nofun)) (fun _ _ _ _=>cM) (fun _ _ _ _=>cW M_Code_word e8 (hr.mono Zd) (Ä 1) (aj (À 0) ae))) (cR (aj (cW M_Code_word au (hr.mono Zd) (Ä 0) (aj (À 2) ae)) ae))))),?_⟩;obtain⟨dc,qc,hc1,hc2⟩:=id C;have a3:=ok.a3;have w3:=ok.w3;have hmany:0<bI al ws:=Int.pow_pos ⋯;grind;refine⟨q,gs,rfl,.of hq,_,.l hq,?_⟩;rw[af];symm;refine⟨dc,_,hc1,bC Zd Zd Zd al qc r,ca,al,ws,r,rfl,C,ok.a26,⋯,ok.w8,fun G1 t1=>?_⟩;have em:(⇑al:Int)^(⇑ws-1)=bI al ws:=rfl;rw[em];symm;refine⟨hmany,?_⟩;have c0:=bY (gs.sum+(⇑gs:Int)) (b:=bI al ws) ⋯;have c1:=bZ (gs.sum+(⇑gs:Int)) hmany;cbv;symm;have hq1:=t1 _ _ hq;refine .inl ⟨⟨_,.of hq1⟩,zi V.int (fun a b e=>V.int.inj e) (cT (.of hq1)) (ak ⋯) (fun _=>true) (fun g=>É (we al ws r g)) ?_ ?_ ?_⟩
 ·intro g hgm G2 t2 R hR;exact hR G2 (a9.refl _)
 ·intro g hgm _ G2 t2 R hR;have C2:=C.same (t1.trans t2);obtain⟨dc2,qc2,hc21,hc22⟩:=id C2;obtain⟨g0,g1⟩:=hg g hgm;symm;refine⟨dc2,_,hc21,bC Zd Zd Zd al qc2 r,ca,al,ws,r,.int g,.int,rfl,C2,ok,rfl,(fun h=>?_),fun k e _ _ G3 t3=>?_⟩
  ·rw[gP (b:=(⇑al:Int)^(⇑ws-1)) g0 g1] at h;cases h
  ·cases e
   exact hR G3 t3
 intro D G2 hD t2 g2;have C2:=C.same (t1.trans t2);obtain⟨dc2,qc2,hc21,hc22⟩:=id C2;symm;refine⟨dc2,_,hc21,bC Zd Zd Zd al qc2 r,ca,al,ws,r,.int _,.int,rfl,C2,ok,rfl,(fun h=>?_),fun k' e _ _ G3 t3=>?_⟩
 ·rw[gP (b:=(⇑al:Int)^(⇑ws-1)) c0 c1] at h;cases h
 cases e
 symm;rw[List.filter_eq_self.mpr (fun _ _=>rfl)] at g2;refine⟨aM (ak Zd),fun p G4 hp t4 g4=>⟨_,_,(t3.trans t4) _ _ g2,g4,by rw[af];exact aM (ak (by simp;left)),fun p5 G5 hp5 t5 g5=>?_⟩⟩;refine k p5 G5 ((t1.trans (t2.trans (t3.trans t4))).free hp5) (t1.trans (t2.trans (t3.trans (t4.trans t5)))) ?_;rw[g5];unfold vS;rw[bM,aW];rfl
inductive nM (Ad:Ê) (vs:List V) (H:Hp) (Q:VK) (E:XK):Prop
 | mk (b ca dn de g:Addr) (es:List Ã) (xs:List V) (al:Za) (ws:Zb) (r:Int) (q0:vs=[.ref b,.ref g]) (q1:dB Ad H b ca dn de es) (q2:cx Ad H ca al ws r) (q3:bP al ws r) (q4:(∀ e∈es,qH e.key/\0<=e.num/\e.num<bI al ws)) (q5:H g=some (.lst xs)) (q6:⇑xs<=1000) (q7:(∀ x∈xs,∃ t,eZ H x=some t)) (q8:(∀ wd,qY (xs.map (Õ es))=.inr wd->∀ gs:Zb,xs=gs.map V.int->(∀ x∈gs,x∈es.map (·.num))->∀ D H',H D=none->a9 H H'->H' D=some (.lst ((vS al ws r gs).map É))->Q (.ref D) H')) (q9:∀ n,qY (xs.map (Õ es))=.inl n->∀ dx H',a9 H H'->H' dx=some (.xd [("at",.int n)])->E (.ref Ad.NoReading) (some dx) H'):nM Ad vs H Q E
theorem zR {es:List Ã}:∀ {xs:List V}{s s':Ú}{i:Nat},pU (xs.map (Õ es)) s i=.inr s'->∃ gs:Zb,xs=gs.map V.int/\∀ x∈gs,x∈es.map (·.num)
 | [],_,_,_,_=>⟨[],rfl,fun x h=>by cases h⟩
 | x::xs,s,s',i,h=>by
  rw[bg] at h;cases hk:Õ es x with
  | none=>rw[hk] at h;cases h
  | some k =>
   rw[hk] at h;have h':(match stepK k s with | none=>Sum.inl i | some t=>pU (xs.map (Õ es)) t (i+1))=.inr s':=h;cases hs:stepK k s with
   | none=>rw[hs] at h';cases h'
   | some t =>
    rw[hs] at h';obtain⟨gs,rfl,hg⟩:=zR h';cases x with
    | int n =>
     refine⟨n::gs,rfl,fun y hy=>?_⟩;rcases aU.mp hy with rfl | hy
     ·refine Classical.byContradiction fun hno=>?_;rw[Be hno] at hk;cases hk
     ·exact hg y hy
    | _=>cases hk
theorem Ka {es:List Ã}{wd:List (Za)} (h:qY (xs.map (Õ es))=.inr wd):∃ gs:Zb,xs=gs.map V.int/\∀ x∈gs,x∈es.map (·.num):=by
 unfold qY at h;cases hr:pU (xs.map (Õ es)) ([],[]) 0 with
 | inl n=>rw[hr] at h;cases h
 | inr s=>exact zR hr
theorem tM:aI ["book","groups","code"] ["book","groups"] (aw qp):=by subst_eqs
theorem zI (F:Ç K "telegram" "telegram" qp f fd) (T:Bl mg) (AF:È K mg Ad) (C_check_of:Å P w K mg base (Á P w) 4 "check_of" ["code","groups"] (nF Ad)) (C_said:Å P w K mg base (Á P w) 4 "said" ["book","groups"] (rp Ad)) (M_Code_word:Í P w K mg base (Á P w) Ad.Code "word" 3 ["self","k"] (ik Ad)) (M_Book_code:Í P w K mg base (Á P w) Ad.Book "code" 1 ["self"] (dD Ad)):bR P w K mg base (Á P w) 5 f fd ["book","groups"] (nM Ad):=by
 specialize tM;obtain⟨b,ca,dn,de,g,es,xs,al,ws,r,rfl,B,C,ok,hes,hg,gl,htg,k1,k2⟩:=h;refine⟨_,ah (eG (az C_said au (hr.mono Zd) (aj (À 0) (aj (À 1) ae)))) (ah (eU (i:=2) tM.nd (bX M_Book_code au (hr.mono Zd) (À 0))) (ao (aJ (aO aZ (fH ["group"] rfl ⟨rfl,by nofun,rfl,by nofun⟩ (.cons (j:=2) rfl (.inl (by ext)) (.nil)) (by nofun) (ck (K:=K) rfl (À 1)) (fun _ _ _ _=>aL (i:=0) (show (["group","code"]:Ze).Nodup from by nofun)) (fun _ _ _ _=>cM) (fun _ _ _ _=>cW M_Code_word e8 (hr.mono Zd) (Ä 1) (aj (À 0) ae))) (cR (aj (az C_check_of au (hr.mono Zd) (aj (Ä 2) (aj (À 1) ae))) ae)))))),?_⟩;grind;refine⟨b,ca,dn,de,g,es,xs,al,ws,r,rfl,B,C,ok,hes,hg,gl,htg,fun wd hwd H1 s1=>?_,k2⟩;obtain⟨gs,rfl,hgs⟩:=Ka hwd;have k1':=k1 wd hwd gs rfl hgs;have hgb:∀ x∈gs,0<=x/\x<bI al ws:=fun x hx=>by
  obtain⟨e,he,rfl⟩:=aK.mp (hgs x hx);exact (hes e he).2
 rw[af] at gl;rw[hN];clear hN nn k1 k2;grind;have B1:=B.same s1;have C1:=C.same s1;have hg1:=s1 _ _ hg;obtain⟨dx,h1⟩:=B1.bk;refine⟨dx,_,h1,cC Zd Zd Zd ca dn de,b,ca,dn,de,es,rfl,B1,?_⟩;cbv;symm;refine .inl ⟨⟨_,.of hg1⟩,uY V.int hU (cT (.of hg1)) (ak ⋯) (fun g=>É (we al ws r g)) ?_ ?_⟩
 ·intro x hx G2 t2 R hR;have C2:=C1.same t2;obtain⟨dc2,qc2,hc21,hc22⟩:=id C2;obtain⟨g0,g1⟩:=hgb x hx;symm;refine⟨dc2,_,hc21,bC Zd Zd Zd al qc2 r,ca,al,ws,r,.int x,.int,rfl,C2,ok,rfl,(fun h=>?_),fun k e _ _ G3 t3=>?_⟩
  ·rw[gP (b:=(⇑al:Int)^(⇑ws-1)) g0 g1] at h;cases h
  ·cases e
   exact hR G3 t3
 intro D G2 hD t2 g2;symm;refine⟨ca,g,al,ws,r,gs,rfl,C1.same t2,ok,t2 _ _ hg1,fun G3 t3=>?_⟩;refine⟨aM (ak Zd),fun p G4 hp t4 g4=>⟨_,_,(t3.trans t4) _ _ g2,g4,by rw[af];exact aM (ak (by simp;left)),fun p5 G5 hp5 t5 g5=>?_⟩⟩;refine k1' p5 G5 ((s1.trans (t2.trans (t3.trans t4))).free hp5) (s1.trans (t2.trans (t3.trans (t4.trans t5)))) ?_;rw[g5];unfold vS;rw[bM,aW];rfl
inductive iO (Ad:Ê) (vs:List V) (H:Hp) (Q:VK) (E:XK):Prop
 | mk (b ca dn de:Addr) (es:List Ã) (al:Za) (ws:Zb) (r:Int) (z:Za) (c:Bool) (q0:vs=[.ref b,.str (tx z),.bl c]) (q1:dB Ad H b ca dn de es) (q2:cx Ad H ca al ws r) (q3:bP al ws r) (q4:⇑z<=100) (q5:∀ H',a9 H H'->Q (.bl (Mk.bW al ws r z&&(c||decide (i6 al z∈es.map (·.num))))) H'):iO Ad vs H Q E
theorem tL:aI ["book","word","is_check","code"] ["book","word","is_check"] (aw qd):=by subst_eqs
theorem zB (F:Ç K "is_sound" "is_sound" qd f fd) (T:Bl mg) (AF:È K mg Ad) (M_Book_entry:Í P w K mg base (Á P w) Ad.Book "entry" 3 ["self","number"] (gy Ad)) (M_Code_number:Í P w K mg base (Á P w) Ad.Code "number" 4 ["self","word"] (fS Ad)) (M_Code_has_good:Í P w K mg base (Á P w) Ad.Code "has_good" 3 ["self","thing"] (dG Ad)) (M_Book_code:Í P w K mg base (Á P w) Ad.Book "code" 1 ["self"] (dD Ad)):bR P w K mg base (Á P w) 5 f fd ["book","word","is_check"] (iO Ad):=by
 refine F.æ (k:=4) tL ?_ (fun cdv A outer s H vs Q E hr h=>?_)
 ·bv_decide
 ·obtain⟨b,ca,dn,de,es,al,ws,r,z,c,rfl,B,C,ok,zl,k⟩:=h;obtain⟨dx,h1⟩:=B.bk;have hu:=hr.jQ;have hu1:=pd hr;refine⟨_,ah (aP (i:=3) tL.nd (bX M_Book_code au (hr.mono Zd) (À 0))) (ah (cp (cU (cH (cW M_Code_has_good au (hr.mono Zd) (À 3) (aj (À 1) ae)))) (ao (aJ ky)) bu) (ao (aJ (K3 (À 2) (mh (cK sI (cW M_Book_entry au (hr.mono Zd) (À 0) (aj (cW M_Code_number au (hr.mono Zd) (À 3) (aj (À 1) ae)) ae)) jB (bw _))))))),?_⟩;grind;refine⟨dx,_,h1,cC Zd Zd Zd ca dn de,b,ca,dn,de,es,rfl,B,?_⟩;cbv;obtain⟨dc,qc,hc1,hc2⟩:=id C;grind;refine⟨dc,_,hc1,bC Zd Zd Zd al qc r,ca,al,ws,r,.str (tx z),.str,rfl,C,ok,rfl,(fun y ey=>by rw[←V.str.inj ey,bS];left),fun G1 t1=>?_⟩;have eg:iG (tx al) ws r (.str (tx z))=Mk.bW al ws r z:=by
   show Mk.bW (tx al).cps.toList ws r (tx z).cps.toList=_;rw[bQ,bQ]
  rw[eg];cases hg:Mk.bW al ws r z with
  | false =>rw[hg] at k;symm;exact k G1 t1
  | true =>
   rw[hg,dq] at k;symm;cbv;cases c with
   | true =>symm;exact k G1 t1
   | false =>
    symm;have B1:=B.same t1;have C1:=C.same t1;obtain⟨dx1,h11⟩:=B1.bk;obtain⟨dc1,qc1,hc11,hc12⟩:=id C1;obtain⟨n0,n1⟩:=xb ok hg;refine⟨dx1,_,h11,cC Zd Zd Zd ca dn de,dc1,_,hc11,bC Zd Zd Zd al qc1 r,ca,al,ws,r,.str (tx z),.str,rfl,C1,ok,rfl,(fun y ey=>by rw[←V.str.inj ey,bS];left),(fun h=>by rw[eg,hg] at h;cases h),fun y ey hy G2 t2=>?_⟩;have ey':y=tx z:=(V.str.inj ey).symm;subst ey';rw[bQ];have en:Mk.numOf (⇑al:Int) (Mk.Ò al z.dropLast)=i6 al z:=rfl;rw[en] at n0 n1 ⊢;refine⟨b,ca,dn,de,es,al,ws,r,.int (i6 al z),.int,rfl,B1.same t2,C1.same t2,ok,rfl,(fun h=>?_),(fun n e _ _ hn G3 t3=>?_),fun n e _ _ x hx ex G3 t3=>?_⟩
    ·rw[gP (b:=bI al ws) n0 n1] at h;cases h
    ·cases e
     have:=k G3 (t1.trans (t2.trans t3));rw[ay hn] at this;exact this
    ·cases e
     have:=k G3 (t1.trans (t2.trans t3));rw[a8 (show i6 al z∈es.map (·.num) by rw[←ex];exact iZ hx)] at this;exact this
inductive qA (Ad:Ê) (vs:List V) (H:Hp) (Q:VK) (E:XK):Prop
 | mk (b ca dn de q:Addr) (es:List Ã) (al:Za) (ws:Zb) (r:Int) (ns:Zb) (q0:vs=[.ref b,.ref q]) (q1:dB Ad H b ca dn de es) (q2:cx Ad H ca al ws r) (q3:bP al ws r) (q4:(∀ e∈es,qH e.key/\0<=e.num/\e.num<bI al ws)) (q5:H q=some (.lst (ns.map V.int))) (q6:1<=⇑ns) (q7:⇑ns<=1000) (q8:(∀ t,mF es (bI al ws) ns=some t->∀ H',a9 H H'->Q (.str (tx t)) H')) (q9:(mF es (bI al ws) ns=none->∀ H',a9 H H'->Q .non H')):qA Ad vs H Q E
theorem vI:aI ["book","numbers","groups"] ["book","numbers"] (aw sT):=by subst_eqs
theorem Bw (F:Ç K "text_of" "text_of" sT f fd) (T:Bl mg) (AF:È K mg Ad) (C_said:Å P w K mg base (Á P w) 4 "said" ["book","groups"] (rp Ad)) (C_check_number:Å P w K mg base (Á P w) 2 "check_number" ["code","groups"] (gG Ad)) (M_Book_code:Í P w K mg base (Á P w) Ad.Book "code" 1 ["self"] (dD Ad)):bR P w K mg base (Á P w) 5 f fd ["book","numbers"] (qA Ad):=by
 specialize vI;obtain⟨b,ca,dn,de,q,es,al,ws,r,ns,rfl,B,C,ok,hes,hq,n1,n1000,k1,k2⟩:=h;refine⟨_,ah (aP (i:=2) vI.nd (cS (i7 (K:=K) rfl) (À 1) eF (dh (CN yC aA)))) (ah (cp (bF (iB (K:=K) rfl hu) (cL (eQ (K:=K) rfl) (À 1) (CN yC aA) (fun _ _=>rfl)) (az C_check_number au (hr.mono Zd) (aj (bX M_Book_code au (hr.mono Zd) (À 0)) (aj (À 2) ae))) (bw _)) (ao (aJ jB)) bu) (ao (JQ rfl rfl rfl (fun pn xe E1 po px=>ao (aJ (az C_said px (hr.mono Zd) (aj (À 0) (aj (À 2) ae))))) (N1 AF.g_NoReading (fun _=>ao (aJ jB)) Mv)))),?_⟩;grind;refine⟨_,.of hq,fun p H1 hp s1 h1=>?_⟩;rw[DO,←List.map_dropLast] at h1;cbv;grind;obtain⟨m,hm⟩:∃ m,ns.getLast?=some m:=by
  cases h:ns.getLast? with
  | none=>rw[List.getLast?_eq_none_iff] at h;subst h;simp at n1
  | some m=>exact⟨m,rfl⟩
 have B1:=B.same s1;have C1:=C.same s1;obtain⟨dx,hb1⟩:=B1.bk;have eD:ns.getLastD 0=m:=by rw[jT,hm];rfl
 refine⟨_,_,.l (s1 _ _ hq),wq (v:=.int m) (by rw[List.getLast?_map,hm];rfl),dx,_,hb1,cC Zd Zd Zd ca dn de,b,ca,dn,de,es,rfl,B1,?_⟩;refine⟨ca,p,al,ws,r,ns.dropLast,rfl,C1,ok,h1,fun G1 t1=>?_⟩;symm
 by_cases hc:m=(ns.dropLast.sum+(⇑ns.dropLast:Int))%bI al ws
 ·rw[a8 hc];bv_omega;show nn _ _ _;cbv;symm;refine⟨b,ca,dn,de,p,es,ns.dropLast.map V.int,al,ws,r,rfl,B1.same t1,C1.same t1,ok,hes,t1 _ _ h1,by rw[af,iX];left,(fun x hx=>by obtain⟨n,_,rfl⟩:=aK.mp hx;exact⟨.int,rfl⟩),fun wd hwd G2 t2=>k1 _ (by unfold mF;rw[eD,ai hc,hwd]) G2 (s1.trans (t1.trans t2)),fun n hn dx2 G2 t2 hdx ea G3 hea t3 h3 hxd=>⟨true,AF.x_NoReading,?_⟩⟩;rw[ai rfl];exact k2 (by unfold mF;rw[eD,ai hc,hn]) G3 (s1.trans (t1.trans (t2.trans t3)))
 ·rw[ay hc];bv_omega;exact k2 (by unfold mF;rw[eD,ag hc]) G1 (s1.trans t1)
inductive qw (Ad:Ê) (vs:List V) (H:Hp) (Q:VK) (E:XK):Prop
 | mk (a q b:Addr) (al:Za) (ws:Zb) (r s:Int) (zs:List Za) (fv:List V) (fs:List Flt) (q0:vs=[.ref a,.ref q,.ref b,.int s]) (q1:cx Ad H a al ws r) (q2:H q=some (.lst (zs.map É))) (q3:(∀ z∈zs,yE al z)) (q4:⇑zs<=1000) (q5:H b=some (.lst fv)) (q6:pB H fv fs) (q7:⇑fs<=1000) (q8:(∀ f∈fs,0<=f.n)) (q9:∀ p H',H p=none->a9 H H'->H' p=some (.lst ((iJ al fs s zs).map É))->Q (.ref p) H'):qw Ad vs H Q E
theorem Bq (F:Ç K "garbled" "garbled" sN f fd) (T:Bl mg) (AF:È K mg Ad) (C_as_they_come:Å P w K mg base (Á P w) 4 "as_they_come" ["code","words","first","sending"] (gF Ad)) (C_first_faults:Å P w K mg base (Á P w) 1 "first_faults" ["faults"] jj):bR P w K mg base (Á P w) 5 f fd ["code","words","faults","sending"] (qw Ad):=by
 exists["code","words","faults","sending"];obtain⟨a,q,b,al,ws,r,s,zs,fv,fs,rfl,hC,hq,hok,hl,hb,hf,hfl,hn,k⟩:=h;refine⟨_,ao (aJ (az C_as_they_come au (hr.mono Zd) (aj (À 0) (aj (À 1) (aj (az C_first_faults au (hr.mono Zd) (aj (À 2) ae)) (aj (À 3) ae)))))),?_⟩;symm;refine⟨b,fv,fs,rfl,hb,hf,hfl,fun D kvs H1 hD s1 h1 hF=>?_⟩;exact⟨a,q,D,al,ws,r,s,zs,fs,kvs,rfl,hC.same s1,s1 _ _ hq,hok,hl,h1,hF,hn,fun p H2 hp s2 h2=>k p H2 (s1.free hp) (s1.trans s2) h2⟩
inductive fR (Ad:Ê) (vs:List V) (H:Hp) (Q:VK) (E:XK):Prop
 | mk (b ca dn de t:Addr) (es:List Ã) (al:Za) (ws:Zb) (r n:Int) (key:List Key) (y:V) (q0:vs=[.ref b,.ref t,y]) (q1:dB Ad H b ca dn de es) (q2:cx Ad H ca al ws r) (q3:bP al ws r) (q4:H Ad.tb=some (qC xO)) (q5:H t=some (.tup (key.map kV))) (q6:qH key) (q7:key∉es.map (·.key)) (q8:⇑es<300) (q9:0<=n) (q10:n<bI al ws) (q11:n∉es.map (·.num)) (q12:(y=.int n∨(y=.non/\uH (es.map (·.num)) n))) (q13:∀ H',(∀ c o,c≠dn->c≠de->H c=some o->H' c=some o)->dB Ad H' b ca dn de (es++[⟨n,key,t⟩])->Q (.int n) H'):fR Ad vs H Q E
theorem tH:aI ["self","entry","number","given"] ["self","entry","number"] (aw dw):=by subst_eqs
theorem tD (F:Io K "put" "Book.put" dw f fd) (T:Bl mg) (AF:È K mg Ad) (CD:fd.code=.ref Ad.cd) (M_Book_choose:Í P w K mg base (Á P w) Ad.Book "choose" 4 ["self","entry","number","is_barred"] (jN Ad)):bR P w K mg base (Á P w) 5 f fd ["self","entry","number"] (fR Ad):=by
 refine F.ĉ (k:=4) CD tH ?_ (fun A outer s H vs Q E hr h=>?_)
 ·bv_decide
 ·obtain⟨b,ca,dn,de,t,es,al,ws,r,n,key,y,rfl,B,C,ok,Tb,ht,eo,hk,h300,n0,n1,hnn,hy,k⟩:=h;obtain⟨dx,h1⟩:=B.bk;have hu:=hr.jQ;have hu1:=pd hr;refine⟨_,ah (aP (i:=3) tH.nd (cW M_Book_choose au (hr.mono Zd) (À 0) (aj (À 1) (aj (À 2) (aj (JI (q:=xO) (x:="k") rfl AF.t_tab (by ext) rfl rfl (fun _ _ _ _=>rfl)) ae))))) (ah (zM hu1 (c6 (K:=K) rfl (À 0)) (À 3) (À 1)) (ah (zM hu1 (c6 (K:=K) rfl (À 0)) (À 1) (À 3)) (ao (aJ (À 3))))),?_⟩;grind;refine⟨dx,_,h1,cC Zd Zd Zd ca dn de,Tb,fun f G1 z1 t1 Fb=>?_⟩;refine⟨b,ca,dn,de,f,t,es,al,ws,r,n,key,y,rfl,B.same t1,C.same t1,ok,Fb,t1 _ _ ht,eo,hk,h300,n0,n1,hnn,hy,fun G2 t2=>?_⟩;have t02:=t1.trans t2;have B2:=B.same t02;obtain⟨dx2,h12⟩:=B2.bk;cbv;grind;refine⟨_,dx2,_,_,h12,AF.c_Book,AF.n_Book_by_number,i8 ca dn de,dn,_,rfl,.inl ⟨_,.inl n,B2.hn,rfl,by rw[zx];exact ak ⋯,rfl⟩,?_⟩;rw[CS (xT hnn),show mY es++[((.inl n:Key),V.ref t)]=mY (es++[⟨n,key,t⟩]) from (E9 es ⟨n,key,t⟩).symm];have hnb:dn≠b:=pq B2.hn h12 (by intro z;cases z);have heb:de≠b:=pq B2.he h12 (by intro z;cases z);have hne:dn≠de:=pq B2.hn B2.he (by intro z;cases z);have hdt:∀ {c:Addr}{xs:List V},G2 c=some (.tup xs)->c≠dn/\c≠de:=fun h=>⟨pq h B2.hn (by intro z;cases z),pq h B2.he (by intro z;cases z)⟩;have k3:∀ c o,c≠dn->G2 c=some o->upd G2 dn (.dK (mY (es++[⟨n,key,t⟩]))) c=some o:=fun c o hc h=>by rw[aG hc];exact h
  have g3:upd G2 dn (.dK (mY (es++[⟨n,key,t⟩]))) dn=some (.dK (mY (es++[⟨n,key,t⟩]))):=aC;generalize upd G2 dn (.dK (mY (es++[⟨n,key,t⟩])))=G3 at k3 g3;cbv;have ht2:=t02 _ _ ht;have hb3:=k3 _ _ hnb.symm h12;grind;refine⟨_,dx2,_,_,hb3,AF.c_Book,AF.n_Book_by_entry,wC ca dn de,de,_,rfl,.inr ⟨_,key,t,k3 _ _ hne.symm B2.he,rfl,k3 _ _ (hdt ht2).1 ht2,by show ⇑(sf es)<_;unfold sf;rw[af];exact ak ⋯,rfl⟩,?_⟩;rw[CS (FA hk),show sf es++[(key,V.int n)]=sf (es++[⟨n,key,t⟩]) from (DR es ⟨n,key,t⟩).symm];have k4:∀ c o,c≠de->G3 c=some o->upd G3 de (.dT (sf (es++[⟨n,key,t⟩]))) c=some o:=fun c o hc h=>by rw[aG hc];exact h
  have g4:upd G3 de (.dT (sf (es++[⟨n,key,t⟩]))) de=some (.dT (sf (es++[⟨n,key,t⟩]))):=aC;generalize upd G3 de (.dT (sf (es++[⟨n,key,t⟩])))=G4 at k4 g4;cbv;symm;refine k G4 (fun c o h1 h2 h=>k4 _ _ h2 (k3 _ _ h1 (t02 _ _ h))) ⟨⟨dx2,k4 _ _ heb.symm hb3⟩,k4 _ _ hne g3,g4,fun e he=>?_,?_,?_⟩
  ·rcases bG.mp he with he | he
   ·have:=B2.en e he;exact k4 _ _ (hdt this).2 (k3 _ _ (hdt this).1 this)
   ·rw[b9.mp he];exact k4 _ _ (hdt ht2).2 (k3 _ _ (hdt ht2).1 ht2)
  ·rw[bM];exact xS B.nn hnn
  ·rw[bM];exact xS B.nk hk
theorem Ft {n:Int} (h:gO al n H x=true):∃ (p:Addr) (zs:List Za),x=.ref p/\H p=some (.lst (zs.map É))/\2<=⇑zs/\⇑zs<=1400/\∀ z∈zs,Mk.bE al n z=true:=by
 cases x with
 | ref p =>
  have h':(match H p with | some (.lst xs)=>decide (2<=⇑xs)&&decide (⇑xs<=1400)&&xs.all (dC (tx al) n) | _=>false)=true:=h;split at h'
  ·rename_i xs hp
   rw[bT,bT,bN,bN] at h';obtain⟨zs,rfl,hz⟩:=words_of (al:=al) (n:=n) (f:=dC (tx al) n) (fun x hx=>by
    cases x with
    | str z=>exact⟨z,rfl,by have hx':Mk.bE (tx al).cps.toList n z.cps.toList=true:=hx;rwa [bQ] at hx'⟩
    | _=>cases hx) h'.2
   rw[af] at h';exact⟨p,zs,rfl,hp,h'.1.1,h'.1.2,hz⟩
  ·cases h'
 | _=>cases h
inductive nG (Ad:Ê) (vs:List V) (H:Hp) (Q:VK) (E:XK):Prop
 | mk (b ca dn de:Addr) (es:List Ã) (al:Za) (ws:Zb) (r:Int) (x:V) (t:Tg) (q0:vs=[.ref b,x]) (q1:dB Ad H b ca dn de es) (q2:cx Ad H ca al ws r) (q3:bP al ws r) (q4:eZ H x=some t) (q5:(∀ p o u,x=.ref p->H p≠some (.frz o u))) (q6:(∀ p xs,x=.ref p->H p=some (.lst xs)->∀ y∈xs,(∃ t,eZ H y=some t)/\∀ z,y=.str z->⇑z<=100000)) (q7:(gO al ⇑ws H x=false->∀ H',a9 H H'->E (.ref Ad.NoWord) none H')) (q8:∀ (p:Addr) (zs:List Za),x=.ref p->H p=some (.lst (zs.map É))->2<=⇑zs->⇑zs<=1400->(∀ z∈zs,Mk.bE al ⇑ws z=true)->∀ D H',H D=none->a9 H H'->H' D=some (.lst ((Ï al ws r es zs).map jo))->Q (.ref D) H'):nG Ad vs H Q E
theorem tK:aI ["book","words","last"] ["book","words"] (aw pY):=by subst_eqs
theorem z7 (F:Ç K "doubtful" "doubtful" pY f fd) (T:Bl mg) (AF:È K mg Ad) (C_is_sound:Å P w K mg base (Á P w) 5 "is_sound" ["book","word","is_check"] (iO Ad)) (C_are_words_of:Å P w K mg base (Á P w) 2 "are_words_of" ["code","thing"] (ji Ad)) (M_Book_code:Í P w K mg base (Á P w) Ad.Book "code" 1 ["self"] (dD Ad)):bR P w K mg base (Á P w) 6 f fd ["book","words"] (nG Ad):=by
 specialize tK;obtain⟨b,ca,dn,de,es,al,ws,r,x,t,rfl,B,C,ok,ht,hfz,hit,kE,kQ⟩:=h;refine⟨_,ah (cp (cU (cH (az C_are_words_of au (hr.mono Zd) (aj (bX M_Book_code au (hr.mono Zd) (Ä 0)) (aj (À 1) ae))))) (ao (dX d0 AF.q_NoWord AF.g_NoWord di rfl (aj bU ae))) bu) (ah (eU (i:=2) tK.nd (aO jr (ax (aN (K:=K) rfl) T.len bB (aj (À 1) ae)) aA)) (ao (aJ (fH ["at","word"] rfl ⟨rfl,by nofun,rfl,by nofun⟩ (.cons (j:=0) rfl (.inl (by ext)) (.cons (j:=2) rfl (.inl (by ext)) (.nil))) (by nofun) (qS (K:=K) rfl T.enumerate (aj (À 1) ae)) (fun _ _ _ _=>k6 (K:=K) (n:=2) rfl rfl (cE (aL (i:=0) (show (["at","word","book","last"]:Ze).Nodup from by nofun)) (cE (aL (i:=1) (show (["at","word","book","last"]:Ze).Nodup from by nofun)) jt))) (fun _ _ _ _=>mi (cU (cH (az C_is_sound e8 (hr.mono Zd) (aj (Ä 2) (aj (À 1) (aj (cK (dI (K:=K) rfl hu) (À 0) (Ä 3) (bw _)) ae))))))) (fun _ _ _ _=>À 0))))),?_⟩;have w8:=ok.w8;obtain⟨dx,hb1⟩:=B.bk;grind;refine⟨dx,_,hb1,cC Zd Zd Zd ca dn de,b,ca,dn,de,es,rfl,B,?_⟩;refine⟨ca,al,ws,r,x,t,rfl,C,ht,hfz,hit,fun H1 s1=>?_⟩;symm;cases hA:gO al ⇑ws H x with
 | false =>bv_omega;exact⟨Zd,kE hA H1 s1⟩
 | true =>
  obtain⟨p,zs,rfl,hp,z2,z14,hz⟩:=Ft hA;have kQ':=kQ p zs rfl hp z2 z14 hz;bv_omega;show nn _ _ _;rw[hN];clear hN nn kQ kE;grind;refine⟨_,.l (s1 _ _ hp),?_⟩;rw[af,hN];clear hN nn;symm;have hp1:=s1 _ _ hp;refine⟨p,rfl,⟨_,.of hp1⟩,Gu (.of hp1) (by rw[af];exact ak ⋯) (fun i=>!jw al ws r es ⇑zs i (zs.getD i [])) jo ?_ ?_ ?_⟩
  ·intro i v hi G2 t2 R hR;rw[aS] at hi;obtain⟨z,hzi,rfl⟩:=eh.mp hi;have hil:=(br.mp hzi).1;have zl:=(Mk.dH.mp (hz z (bL hzi))).1;rw[show zs.getD i []=z by rw[aT,hzi];rfl] at hR;unfold É;symm;refine⟨b,ca,dn,de,es,al,ws,r,z,_,rfl,B.same (s1.trans t2),C.same (s1.trans t2),ok,⋯,fun G3 t3=>?_⟩;have e:decide ((i:Int)=(⇑zs:Int)-1)=decide (i+1=⇑zs):=by
    by_cases h:i+1=⇑zs
    ·rw[a8 h,a8 ⋯]
    ·rw[ay h,ay ⋯]
   rw[e];have:=hR G3 t3;unfold jw at this;exact⟨_,rfl,this⟩
  ·intro i v hi _ G2 t2 R hR;symm;exact hR G2 (a9.refl _)
  intro D G2 hD t2 g2;refine kQ' D G2 (s1.free hD) (s1.trans t2) ?_;rw[g2,af];rfl
inductive mB (Ad:Ê) (vs:List V) (H:Hp) (Q:VK) (E:XK):Prop
 | mk (b ca dn de:Addr) (es:List Ã) (al:Za) (ws:Zb) (r:Int) (z:Za) (c:Bool) (q0:vs=[.ref b,.str (tx z),.bl c]) (q1:dB Ad H b ca dn de es) (q2:cx Ad H ca al ws r) (q3:bP al ws r) (q4:Mk.bE al ⇑ws z=true) (q5:∀ D cs H',H D=none->a9 H H'->H' D=some (.lst (cs.map V.int))->Fe al ws r es c z cs->Q (.ref D) H'):mB Ad vs H Q E
theorem rh:aI ["book","word","is_check","code"] ["book","word","is_check"] (aw nz):=by subst_eqs
theorem yf (F:Ç K "may_stand" "may_stand" nz f fd) (T:Bl mg) (AF:È K mg Ad) (C_nearest:Å P w K mg base (Á P w) 4 "nearest" ["code","word"] (qy Ad)) (C_is_sound:Å P w K mg base (Á P w) 5 "is_sound" ["book","word","is_check"] (iO Ad)) (M_Code_number:Í P w K mg base (Á P w) Ad.Code "number" 4 ["self","word"] (fS Ad)) (M_Book_code:Í P w K mg base (Á P w) Ad.Book "code" 1 ["self"] (dD Ad)):bR P w K mg base (Á P w) 6 f fd ["book","word","is_check"] (mB Ad):=by
 specialize rh;obtain⟨b,ca,dn,de,es,al,ws,r,z,c,rfl,B,C,ok,hz,k⟩:=h;refine⟨_,ah (eU (i:=3) rh.nd (bX M_Book_code au (hr.mono Zd) (Ä 0))) (ao (aJ (fH ["made"] rfl ⟨rfl,by nofun,rfl,by nofun⟩ (.cons (j:=3) rfl (.inl (by ext)) (.cons (j:=0) rfl (.inl (by ext)) (.cons (j:=2) rfl (.inl (by ext)) (.nil)))) (by nofun) (ck (K:=K) rfl (az C_nearest au (hr.mono Zd) (aj (Ä 3) (aj (À 1) ae)))) (fun _ _ _ _=>aL (i:=0) (show (["made","code","book","is_check"]:Ze).Nodup from by nofun)) (fun _ _ _ _=>mi (cH (az C_is_sound e8 (hr.mono Zd) (aj (Ä 2) (aj (À 0) (aj (Ä 3) ae)))))) (fun _ _ _ _=>cW M_Code_number e8 (hr.mono Zd) (Ä 1) (aj (À 0) ae))))),?_⟩;have w8:=ok.w8;have a26:=ok.a26;obtain⟨zl,zm⟩:=Mk.dH.mp hz;have pm:=Mk.mj zm;have pl:⇑(Mk.Ò al z)=⇑ws:=by rw[Mk.oR];left
 obtain⟨dx,hb1⟩:=B.bk;grind;refine⟨dx,_,hb1,cC Zd Zd Zd ca dn de,b,ca,dn,de,es,rfl,B,?_⟩;cbv;symm;have ew:dC (tx al) ⇑ws (.str (tx z))=true:=by show Mk.bE (tx al).cps.toList ⇑ws (tx z).cps.toList=true;rw[bQ,bQ];exact hz
 refine⟨ca,al,ws,r,.str (tx z),.str,rfl,C,ok,rfl,(fun y ey=>by rw[←V.str.inj ey,bS];left),(fun h=>by rw[ew] at h;cases h),fun z' ez hw fs fp D1 H1 hD1 s1 h1=>?_⟩;have ez':z=z':=lq (V.str.inj ez);subst ez';have fo:∀ q∈fs,⇑q=⇑ws/\∀ x∈q,0<=x/\x<(⇑al:Int):=fun q hq=>by have:=pH pm q (fp.mem_iff.mp hq);exact⟨by rw[this.1,pl],this.2⟩
 have fl:⇑fs<=208:=by rw[fp.length_eq];exact AZ a26 ⋯ pm
 have fg:=jU (fun ps=>Mk.good ⇑al ws r ps) fs;have go:∀ q∈fs.filter (fun ps=>Mk.good ⇑al ws r ps),⇑q=⇑ws/\(∀ x∈q,0<=x/\x<(⇑al:Int))/\Mk.good ⇑al ws r q=true:=fun q hq=>by obtain⟨h1,h2⟩:=cG.mp hq;exact⟨(fo q h1).1,(fo q h1).2,h2⟩
 have gnd:(fs.filter fun ps=>Mk.good ⇑al ws r ps).Nodup:=jS _ (fp.nodup_iff.mpr wM);have gfew:⇑(fs.filter fun ps=>Mk.good ⇑al ws r ps)<=16:=by rw[(fp.filter _).length_eq];exact Jm ok pl pm
 have gmem:∀ q,q∈fs.filter (fun ps=>Mk.good ⇑al ws r ps)↔q∈kL ⇑al (Mk.Ò al z)/\Mk.good ⇑al ws r q=true:=fun q=>by rw[cG,fp.mem_iff]
 generalize fs.filter (fun ps=>Mk.good ⇑al ws r ps)=gs at h1 go gnd gfew gmem;have h1':H1 D1=some (.lst ((gs.map (Mk.bD al)).map fun l=>V.str (tx l))):=by rw[h1,aW];rfl
 have nmS:∀ q∈gs,i6 al (Mk.bD al q)=Mk.numOf ⇑al q.dropLast:=fun q hq=>by
  unfold i6;have e:(Mk.bD al q).dropLast=Mk.bD al q.dropLast:=by unfold Mk.bD;rw[List.map_dropLast]
  rw[e,Mk.jz ok.nd fun p hp=>(go q hq).2.1 p (ip _ hp)]
 have goodS:∀ q∈gs,Mk.bW al ws r (Mk.bD al q)=true:=fun q hq=>by rw[Mk.j9 ok.nd (go q hq).1 (go q hq).2.1];exact (go q hq).2.2
 refine .inl ⟨⟨_,.of h1⟩,zi (fun l:Za=>V.str (tx l)) (fun x y e=>lq (V.str.inj e)) (cT (.of h1')) (by rw[af];exact ak ⋯) (fun l=>c||decide (i6 al l∈es.map (·.num))) (fun l=>V.int (i6 al l)) ?_ ?_ ?_⟩
 ·intro l hl H5 t5 R hR;obtain⟨y,hy,rfl⟩:=aK.mp hl;symm;refine⟨b,ca,dn,de,es,al,ws,r,_,c,rfl,B.same (s1.trans t5),C.same (s1.trans t5),ok,by rw[Mk.fA,(go y hy).1];left,fun G3 t3=>?_⟩;rw[goodS y hy,dq];exact⟨_,rfl,hR G3 t3⟩
 ·intro l hl _ H5 t5 R hR;obtain⟨y,hy,rfl⟩:=aK.mp hl;have C5:=C.same (s1.trans t5);obtain⟨dc,qc,hc1,hc2⟩:=id C5;have eg:iG (tx al) ws r (.str (tx (Mk.bD al y)))=true:=by
   show Mk.bW (tx al).cps.toList ws r (tx (Mk.bD al y)).cps.toList=true;rw[bQ,bQ];exact goodS y hy
  symm;refine⟨dc,_,hc1,bC Zd Zd Zd al qc r,ca,al,ws,r,.str (tx (Mk.bD al y)),.str,rfl,C5,ok,rfl,(fun u eu=>by rw[←V.str.inj eu,bS,Mk.fA,(go y hy).1];left),(fun h=>by rw[eg] at h;cases h),fun u eu hu G2 t2=>?_⟩;have eu':u=tx (Mk.bD al y):=(V.str.inj eu).symm;subst eu';rw[bQ];exact hR G2 t2
 intro D2 H2 hD2 s2 h2;refine k D2 ((((gs.map (Mk.bD al)).filter fun l=>c||decide (i6 al l∈es.map (·.num)))).map (i6 al)) H2 (s1.free hD2) (s1.trans s2) (by rw[h2,aW];rfl) ?_;rw[List.filter_map,aW];have sub:=List.filter_sublist (p:=(fun l=>c||decide (i6 al l∈es.map (·.num))) ∘ Mk.bD al) (l:=gs);refine⟨?_,by rw[af];exact aX sub.length_le gfew,fun n=>?_⟩
 ·refine ja.mpr (rD (fun {x y} hx hy hxy e=>hxy ?_) (sub.nodup gnd));have hx':=sub.subset hx;have hy':=sub.subset hy;have e':i6 al (Mk.bD al x)=i6 al (Mk.bD al y):=e;rw[nmS x hx',nmS y hy'] at e';exact FY ok (go x hx').1 (go y hy').1 (go x hx').2.1 (go y hy').2.1 (go x hx').2.2 (go y hy').2.2 e'
 ·rw[aK];constructor
  ·rintro⟨q,hq,rfl⟩;obtain⟨h3,h4⟩:=cG.mp hq;have h4':(c||decide (i6 al (Mk.bD al q)∈es.map (·.num)))=true:=h4;rw[oW,bN] at h4';obtain⟨h5,h6⟩:=(gmem q).mp h3;exact⟨q,h5,h6,h4',nmS q h3⟩
  ·rintro⟨q,h3,h4,h5,rfl⟩;have hq:=(gmem q).mpr ⟨h3,h4⟩;refine⟨q,cG.mpr ⟨hq,?_⟩,nmS q hq⟩;show (c||decide (i6 al (Mk.bD al q)∈es.map (·.num)))=true;rw[oW,bN,nmS q hq];exact h5
inductive ll (Ad:Ê) (vs:List V) (H:Hp) (Q:VK) (E:XK):Prop
 | mk (b ca dn de q p:Addr) (es:List Ã) (al:Za) (ws:Zb) (r:Int) (zs:List Za) (fv:List V) (fs:List Flt) (q0:vs=[.ref b,.ref q,.ref p]) (q1:dB Ad H b ca dn de es) (q2:cx Ad H ca al ws r) (q3:bP al ws r) (q4:H q=some (.lst (zs.map É))) (q5:(∀ z∈zs,GoodW al ws r z)) (q6:1<=⇑zs) (q7:⇑zs<=64) (q8:(∀ (i:Nat) z,zs[i]?=some z->i+1<⇑zs->i6 al z∈es.map (·.num))) (q9:H p=some (.lst fv)) (q10:pB H fv fs) (q11:⇑fs<=1000) (q12:(∀ f∈fs,0<=f.n/\f.s≠61)) (q13:∀ T pk ps svs H',H T=none->H pk=none->H ps=none->a9 H H'->H' T=some (.tup [.ref pk,.ref ps])->H' pk=some (.lst (zs.map É))->H' ps=some (.lst svs)->ly H' svs (vK al fs zs 63 0 (List.range ⇑zs))->Q (.ref T) H'):ll Ad vs H Q E
theorem cF:aI ["book","words","faults","first","last","kept","asked","sendings","came","left","at","word"] ["book","words","faults"] (aw mz):=by subst_eqs
theorem vZ (F:Ç K "got_across" "got_across" mz f fd) (T:Bl mg) (AF:È K mg Ad) (C_is_sound:Å P w K mg base (Á P w) 5 "is_sound" ["book","word","is_check"] (iO Ad)) (C_as_they_come:Å P w K mg base (Á P w) 4 "as_they_come" ["code","words","first","sending"] (gF Ad)) (C_first_faults:Å P w K mg base (Á P w) 1 "first_faults" ["faults"] jj) (M_Book_code:Í P w K mg base (Á P w) Ad.Book "code" 1 ["self"] (dD Ad)):bR P w K mg base (Á P w) 6 f fd ["book","words","faults"] (ll Ad):=by
 refine F.æ (k:=5) cF ?_ (fun cdv A outer s H vs Q E hr h=>?_)
 ·bv_decide
 ·obtain⟨b,ca,dn,de,q,p,es,al,ws,r,zs,fv,fs,rfl,B,C,ok,hq,hgd,z1,z64,hin,hp,hfs,fl,hf,k⟩:=h;have hf1:∀ f∈fs,f.s≠61:=fun f h=>(hf f h).2;have hwd:∀ z∈zs,yE al z:=fun z hz=>(hgd z hz).wd ok;have lz:⇑(zs.map É)=⇑zs:=af _;have hu:=hr.jQ;have hu1:=pd hr;refine⟨_,ah (aP (i:=3) cF.nd (az C_first_faults au (hr.mono Zd) (aj (À 2) ae))) (ah (aP (i:=4) cF.nd (aO jr (ax (aN (K:=K) rfl) T.len bB (aj (Ä 1) ae)) aA)) (ah (aP (i:=5) cF.nd (aO oQ (cR (aj bU ae)) (ax (aN (K:=K) rfl) T.len bB (aj (Ä 1) ae)))) (ah (aP (i:=6) cF.nd (eS (j6 (K:=K) rfl rfl) T.list km (aj (eS DE T.range Fw (aj (ax (aN (K:=K) rfl) T.len bB (aj (Ä 1) ae)) ae)) ae))) (ah (aP (i:=7) cF.nd (cR ae)) (ah (qU cN (bF yi (ax (aN (K:=K) rfl) T.len bB (aj (À 6) ae)) aA (bw _)) (ah (aP (i:=8) cF.nd (az C_as_they_come au (hr.mono Zd) (aj (bX M_Book_code au (hr.mono Zd) (À 0)) (aj (fH ["at"] rfl ⟨rfl,by nofun,rfl,by nofun⟩ (.cons (j:=1) rfl (.inl (by ext)) (.nil)) (by nofun) (ck (K:=K) rfl (À 6)) (fun _ _ _ _=>aL (i:=0) (show (["at","words"]:Ze).Nodup from by nofun)) (fun _ _ _ _=>cM) (fun _ _ _ _=>cL (eQ (K:=K) rfl) (Ä 1) (À 0) (fun _ _=>rfl))) (aj (À 3) (aj (ax (aN (K:=K) rfl) T.len bB (aj (À 7) ae)) ae)))))) (ah (eG (eR (K:=K) rfl gC ka kb gR (À 7) (aj (À 8) ae))) (ah (aP (i:=9) cF.nd (cR ae)) (ah (gH cN rfl (yk (K:=K) rfl T.zip (aj (À 6) (aj (À 8) ae))) (k6 (K:=K) (n:=2) rfl rfl (cE (aL (i:=10) cF.nd) (cE (aL (i:=11) cF.nd) jt))) (ao (cp (cH (az C_is_sound au (hr.mono Zd) (aj (À 0) (aj (À 11) (aj (cK (dI (K:=K) rfl hu) (À 10) (À 4) (bw _)) ae))))) (ao (Hn (À 11) (Mt (À 5) (À 10) set_list))) (ao (eG (eR (K:=K) rfl gC ka kb gR (À 9) (aj (À 10) ae))))))) (ao (aP (i:=6) cF.nd (À 9)))))))) (ao (aJ (kz (aj (À 5) (aj (À 7) ae)))))))))),?_⟩;grind;refine⟨p,fv,fs,rfl,hp,hfs,fl,fun D kvs H1 hD s1 h1 hF=>?_⟩;cbv;grind;refine⟨_,.l (s1 _ _ hq),?_⟩;rw[lz,hN];clear hN nn;grind;refine⟨aM (ak Zd),fun l0 H2 hl0 s2 h2=>⟨_,.l ((s1.trans s2) _ _ hq),?_⟩⟩;rw[lz];symm;refine⟨_,h2,⋯,⋯,aM (ak (by show 1*_<=100000;left)),fun pk H3 hpk s3 h3=>?_⟩;have hk3:H3 pk=some (.lst ((mJ zs (List.range ⇑zs)).map É)):=by
   rw[h3]
   congr 2
   unfold mJ;rw[aW];have:∀ n:Nat,(List.replicate n [V.str (Str.ofString "")]).flatten=List.replicate n (V.str (Str.ofString "")):=fun n=>by
    induction n with
    | zero=>rfl
    | succ n ih=>rw[gz,lN,ih];rfl
   rw[this];refine (List.eq_replicate_iff.mpr ⟨by rw[af,cJ],fun v hv=>?_⟩).symm;obtain⟨i,hi,rfl⟩:=aK.mp hv;show É (if i∈List.range ⇑zs then [] else zs.getD i [])=_;rw[ai hi];rfl
  have s03:=s1.trans (s2.trans s3);cbv;grind;refine⟨_,.l (s03 _ _ hq),fun p1 H4 hp1 s4 h4=>?_⟩;rw[lz] at h4;refine⟨_,.inr ⟨0,_,h4,⟨Zd,Zd,⋯,⋯⟩,⋯,rfl⟩,fun p2 H5 hp2 s5 h5=>?_⟩;rw[JZ] at h5;cbv;grind;refine⟨bc _,fun ps H6 hps0 s6 h6=>?_⟩;have s13:=s2.trans s3;have s35:=s4.trans s5;have hkn:H1 pk=none:=s2.free hpk;have hpn:H1 ps=none:=(s13.trans s35).free hps0;have nkp:pk≠ps:=aQ (s35 _ _ hk3) hps0;have nak:p2≠pk:=(aQ (s4 _ _ hk3) hp2).symm;have nap:p2≠ps:=aQ h5 hps0;cbv;refine gM fun nn hN=>?_;refine Ku (fun m σ G=>∃ (pa:Addr) (as:Za) (svs:List V) (css:List (List Za)) (o8 o9 o10 o11:Option V),σ=[some (V.ref b),some (V.ref q),some (V.ref p),some (V.ref D),some (V.int ((⇑zs:Int)-1)),some (V.ref pk),some (V.ref pa),some (V.ref ps),o8,o9,o10,o11]/\a9 H1 G/\G pk=some (.lst ((mJ zs as).map É))/\G pa=some (.lst (as.map jo))/\pa≠pk/\pa≠ps/\G ps=some (.lst svs)/\ly G svs css/\(∀ v∈svs,v≠V.ref ps/\v≠V.ref pk)/\⇑css+m=63/\css++vK al fs zs m ⇑css as=vK al fs zs 63 0 (List.range ⇑zs)/\(∀ i∈as,i<⇑zs)/\as.Nodup/\(as≠[]->⇑css<=61)/\⇑as<=64) 63 ⟨p2,List.range ⇑zs,[],[],_,_,_,_,rfl,s13.trans (s35.trans s6),(s35.trans s6) _ _ hk3,s6 _ _ h5,nak,nap,h6,.nil,(fun v hv=>by cases hv),rfl,rfl,(fun i hi=>cb.mp hi),ou,(fun _=>bc _),by rw[cJ];exact z64⟩ ?_;rintro m σ G ⟨pa,as,svs,css,o8,o9,o10,o11,rfl,t1,hpk',hpa,nak,nap,hps,hss,hsv,hm,htot,hlt,hnd,h61,al64⟩;symm;refine⟨_,.l hpa,?_⟩;rw[af];cases as with
  | nil =>rw[show decide ((0:Int)<((⇑([]:Za):Nat):Int))=false from rfl];bv_omega;show nn _ _ _;cbv;symm;rw[Kk,dM] at htot;rw[Gp] at hpk';refine⟨aM (ak Zd),fun T G1 hT t2 gT=>?_⟩;have hss1:=hss.keep (H':=G1) fun b ws h=>t2 _ _ h;rw[htot] at hss1;exact k T pk ps svs G1 ((s1.trans t1).free hT) (s1.free hkn) (s1.free hpn) (s1.trans (t1.trans t2)) gT (t2 _ _ hpk') (t2 _ _ hps) hss1
  | cons a0 ar =>
   rw[a8 (show (0:Int)<((⇑(a0::ar):Nat):Int) by rw[bf];left)];bv_omega;generalize has:a0::ar=as at *;have ane:as≠[]:=by rw[←has];intro z;cases z
   clear hN;refine Ik fun N hNx=>?_;have h61':=h61 ane;have t01:=s1.trans t1;have hq1:=t01 _ _ hq;have B1:=B.same t01;have C1:=C.same t01;obtain⟨dx1,h11⟩:=B1.bk;refine gM fun n2 hM=>?_;symm;refine⟨dx1,_,h11,cC Zd Zd Zd ca dn de,b,ca,dn,de,es,rfl,B1,?_⟩;refine .inl ⟨⟨_,.of hpa⟩,uY jo GH (cT (.of hpa)) (ak ⋯) (fun i=>É (zs.getD i [])) ?_ ?_⟩
   ·intro i hi G2 t3 R hR;have hil:=hlt i hi;symm;exact⟨_,_,.l (t3 _ _ hq1),df (j:=i) (by rw[aS,aD hil];rfl),by rw[aT,aD hil] at hR;exact hR G2 (a9.refl _)⟩
   intro D5 G2 hD5 t3 g5;rw[HK] at g5;have hsw:∀ z∈dJ zs as,yE al z:=fun z hz=>by unfold dJ at hz;obtain⟨i,hi,rfl⟩:=aK.mp hz;have hil:=hlt i hi;rw[aT,aD hil];exact hwd _ (cZ hil)
   have sll:=EM zs as;have clen:⇑css=⇑svs:=(fM hss).symm;have hps2:=t3 _ _ hps;refine⟨_,.l hps2,ca,D5,D,al,ws,r,⇑svs,dJ zs as,fs,kvs,rfl,C1.same t3,g5,hsw,⋯,(t1.trans t3) _ _ h1,hF.Nl (t1.trans t3),(fun f h=>(hf f h).1),fun D6 G3 hD6 t4 g6=>?_⟩;rw[←clen] at g6;rw[hM];clear hM n2;refine gM fun n2 hM=>?_;symm;have hps3:=t4 _ _ hps2;refine⟨.inl ⟨rfl,_,.of hps3⟩,ps,_,_,rfl,rfl,hps3,ak ⋯,?_⟩;have t24:a9 H1 (upd G3 ps (.lst (svs++[V.ref D6]))):=(t1.trans (t3.trans t4)).cf hpn;have k5:∀ b o,b≠ps->G3 b=some o->upd G3 ps (.lst (svs++[V.ref D6])) b=some o:=fun b o hb e=>by rw[aG hb];exact e
   have g34:upd G3 ps (.lst (svs++[V.ref D6])) ps=some (.lst (svs++[V.ref D6])):=aC;generalize upd G3 ps (.lst (svs++[V.ref D6]))=G4 at t24 k5 g34;have nD6:D6≠ps:=(aQ hps2 hD6).symm;have nD6k:D6≠pk:=(aQ (t3 _ _ hpk') hD6).symm;rw[hM];clear hM n2;refine gM fun n2 hM=>?_;symm;refine⟨bc _,fun pl G5 hpl t5 g9=>?_⟩;have t34:=t3.trans t4;have hpk5:=t5 _ _ (k5 _ _ nkp (t34 _ _ hpk'));have hpa5:=t5 _ _ (k5 _ _ nap (t34 _ _ hpa));have g65:=t5 _ _ (k5 _ _ nD6 g6);have hss4:ly G4 svs css:=ly.ph (P:=fun p=>p≠ps) (hss.keep fun b ws h=>t34 _ _ h) (fun p hp e=>(hsv _ hp).1 (by rw[e])) k5;have nlk:pl≠pk:=(aQ (k5 _ _ nkp (t34 _ _ hpk')) hpl).symm;have nla:pl≠pa:=(aQ (k5 _ _ nap (t34 _ _ hpa)) hpl).symm;have nl6:pl≠D6:=(aQ (k5 _ _ nD6 g6) hpl).symm;have nls:pl≠ps:=(aQ g34 hpl).symm;have t25:=t24.trans t5;have hln:H1 pl=none:=t24.free hpl;have keepH:∀ {G':Hp},(∀ c o,c≠pk->c≠pl->G5 c=some o->G' c=some o)->a9 H1 G':=fun h c o e=>h c o (fun z=>by rw[z,hkn] at e;cases e) (fun z=>by rw[z,hln] at e;cases e) (t25 _ _ e);have step:=HM (al:=al) (fs:=fs) (zs:=zs) (m:=m) (s:=⇑css) ⋯ ane;have le:=Gy (al:=al) (fs:=fs) (zs:=zs) (as:=as) (s:=⇑css) hf1 h61';have cml:=se al fs (⇑css:Int) (dJ zs as);have cmg:∀ (j:Nat) u,(iJ al fs (⇑css:Int) (dJ zs as))[j]?=some u->∃ o,u=j8 al ((dJ zs as).getD j []) o:=fun j u hu=>by
    have hj:j<⇑(dJ zs as):=by rw[←cml];exact (br.mp hu).1
    rw[sd hj] at hu;exact⟨_,(Option.some.inj hu).symm⟩
   generalize iJ al fs (⇑css:Int) (dJ zs as)=cm at g65 step le cml cmg;rw[hM];clear hM n2 g6;refine gM fun n2 hM=>?_;symm;refine⟨⟨_,.of hpa5⟩,⟨_,.of g65⟩,FT (xs:=as.map jo) (ys:=cm.map É) (fun j σ G'=>(∃ o10 o11,σ=[some (V.ref b),some (V.ref q),some (V.ref p),some (V.ref D),some (V.int ((⇑zs:Int)-1)),some (V.ref pk),some (V.ref pa),some (V.ref ps),some (V.ref D6),some (V.ref pl),o10,o11])/\(∀ c o,c≠pk->c≠pl->G5 c=some o->G' c=some o)/\G' pl=some (.lst ((mU as (dJ zs as) cm j).map jo))/\G' pk=some (.lst ((mJ zs (mU as (dJ zs as) cm j++as.drop j)).map É))) (by rw[af,af];left) ⟨⟨_,_,rfl⟩,(fun c o _ _ e=>e),g9,hpk5⟩ (fun j σ G' h=>⟨.of (h.2.1 _ _ nak nla.symm hpa5),.of (h.2.1 _ _ nD6k nl6.symm g65)⟩) ?_ ?_⟩
   ·rintro j x y pp σ G6 hx hy hpp ⟨⟨o10,o11,rfl⟩,hk6,hl6,hkp6⟩ N2 hN2;clear hM hNx;rw[aS] at hx hy;obtain⟨a1,ha1,rfl⟩:=eh.mp hx;obtain⟨u1,hu1,rfl⟩:=eh.mp hy;have hja:=(br.mp ha1).1;have ha1m:=hlt a1 (bL ha1);have hz1:zs[a1]?=some (zs.getD a1 []):=by rw[aT,aD ha1m];rfl
    have hs1:(dJ zs as).getD j []=zs.getD a1 []:=by unfold dJ;rw[aT,aS,ha1];rfl
    have hcu:=Js (d:=[]) hu1;obtain⟨oo,hu1e⟩:=cmg j u1 hu1;rw[hs1] at hu1e;have hg1:=hgd _ (bL hz1);have ul:⇑u1<=100:=by rw[hu1e];exact F5 (hg1.wd ok).z8
    have ap:∀ {c:Addr}{o:HO},G6 c=some o->c≠pp:=fun h=>aQ h hpp;have k7:∀ c o,G6 c=some o->upd G6 pp (.tup [jo a1,É u1]) c=some o:=fun c o h=>by rw[aG (ap h)];exact h
    have g7:upd G6 pp (.tup [jo a1,É u1]) pp=some (.tup [jo a1,É u1]):=aC;generalize upd G6 pp (.tup [jo a1,É u1])=G7 at k7 g7;refine⟨pp,[jo a1,É u1],rfl,Û.of g7,rfl,jo a1,[É u1],rfl,É u1,[],rfl,rfl,?_⟩;have kk7:∀ c o,c≠pk->c≠pl->G5 c=some o->G7 c=some o:=fun c o h1 h2 h=>k7 _ _ (hk6 c o h1 h2 h);have sH7:=s1.trans (keepH kk7);unfold jo É;symm;refine⟨b,ca,dn,de,es,al,ws,r,u1,_,rfl,B.same sH7,C.same sH7,ok,ul,fun G8 t8=>?_⟩;have kk8:∀ c o,c≠pk->c≠pl->G5 c=some o->G8 c=some o:=fun c o h1 h2 h=>t8 _ _ (kk7 c o h1 h2 h);have hl8:=t8 _ _ (k7 _ _ hl6);have hkp8:=t8 _ _ (k7 _ _ hkp6);have rest:=zv (A:=mU as (dJ zs as) cm j) hnd ha1 (E6 ⋯);have lj:=Bg (s:=dJ zs as) (c:=cm) ha1;rw[hs1,hcu] at lj;have dr:as.drop j=a1::as.drop (j+1):=by rw[lK hja];congr 1;exact (br.mp ha1).2
    by_cases he:zs.getD a1 []=u1
    ·rw[ai he,dM] at lj;have hgood:Mk.bW al ws r u1=true:=by rw[←he];exact hg1.good ok
     have hb:(decide ((a1:Int)=(⇑zs:Int)-1)||decide (i6 al u1∈es.map (·.num)))=true:=by
      by_cases hl:a1+1<⇑zs
      ·rw[a8 (show i6 al u1∈es.map (·.num) by rw[←he];exact hin a1 _ hz1 hl),Bool.or_true]
      ·rw[a8 (show (a1:Int)=(⇑zs:Int)-1 by left),Bool.true_or]
     rw[hgood,hb,dq];symm;refine⟨pk,_,(a1:Int),a1,rfl,rfl,hkp8,(by unfold ð;rw[ai ⋯,ai (by rw[af,zh];left),c8]),hN2 _ _ ⟨⟨_,_,rfl⟩,(fun c o h1 h2 h=>by rw[aG h1];exact kk8 c o h1 h2 h),by rw[aG nlk,lj];exact hl8,?_⟩⟩;rw[aC,lj,←he,dr]
     congr 2
     rw[←Gq rest ha1m,List.map_set];rfl
    ·rw[ag he] at lj;have hbad:Mk.bW al ws r u1=false:=by rw[hu1e];exact wF ok hg1 (by rw[←hu1e];exact fun e=>he e.symm)
     rw[hbad,gq];symm;refine⟨.inl ⟨rfl,_,.of hl8⟩,pl,_,_,rfl,rfl,hl8,ak (by rw[af];have:⇑(mU as (dJ zs as) cm j)<=j:=(by unfold mU;rw[af];have:=jU (fun t=>!decide ((dJ zs as).getD t []=cm.getD t [])) (List.range j);rwa [cJ] at this);left),hN2 _ _ ⟨⟨_,_,rfl⟩,(fun c o h1 h2 h=>by rw[aG h2];exact kk8 c o h1 h2 h),?_,?_⟩⟩
     ·rw[aC,lj,bM];rfl
     ·rw[aG nlk.symm,lj,hkp8,dr,bJ];rfl
   ·rintro σ G6 ⟨⟨o10,o11,rfl⟩,hk6,hl6,hkp6⟩;show n2 _ _ _;rw[hM];clear hM n2;symm;rw[af] at hl6 hkp6;rw[List.drop_length,dM] at hkp6;have lle:mU as (dJ zs as) cm ⇑as=lD as (dJ zs as) cm:=rfl;rw[lle] at hl6 hkp6;refine hNx (m-1) _ _ ⋯ ⟨pl,lD as (dJ zs as) cm,svs++[V.ref D6],css++[cm],_,_,_,_,rfl,keepH hk6,hkp6,hl6,nlk,nls,hk6 _ _ nkp.symm nls.symm (t5 _ _ g34),?_,fun v hv=>?_,by rw[aF];show ⇑css+1+_=_;left,?_,Jz hlt,J0 hnd,fun h=>?_,aX (Gz _ _ _) al64⟩
    ·refine fL (ly.ph (P:=fun c=>c≠pk/\c≠pl) (hss4.keep fun b ws h=>t5 _ _ h) (fun c hc=>⟨fun e=>(hsv _ hc).2 (by rw[e]),fun e=>?_⟩) fun c o hc h=>hk6 c o hc.1 hc.2 h) (.cons ⟨D6,rfl,hk6 _ _ nD6k nl6.symm g65⟩ .nil);exact MJ hss4 hpl _ hc (by rw[e])
    ·rcases bG.mp hv with hv | hv
     ·exact hsv v hv
     ·rw[b9.mp hv];exact⟨fun z=>nD6 (by cases z;rfl),fun z=>nD6k (by cases z;rfl)⟩
    ·rw[←htot,step,bJ,aF];rfl
    ·rw[aF];exact le h
inductive nI (Ad:Ê) (vs:List V) (H:Hp) (Q:VK) (E:XK):Prop
 | mk (ca:Addr) (al:Za) (ws:Zb) (r c:Int) (q0:vs=[.ref ca,.int c]) (q1:cx Ad H ca al ws r) (q2:bP al ws r) (q3:H Ad.tb=some (qC xO)) (q4:∀ b dn de es H',a9 H H'->dB Ad H' b ca dn de es->1<=⇑es->⇑es<=13->(∀ e∈es,0<=e.num/\e.num<bI al ws)->(∀ e∈es,∃ j m:Nat,j<13/\1<=m/\m<=4/\e.key=ã j m)->Q (.ref b) H'):nI Ad vs H Q E
theorem iN:aI ["_law_code_here","_law_cell","_law_book_here","_law_k","_law_word","_law_number"] ["_law_code_here","_law_cell"] (aw qh):=by subst_eqs
theorem zD (F:Ç K "_law_book" "_law_book" qh f fd) (T:Bl mg) (AF:È K mg Ad) (C_law_mixed:Å P w K mg base (Á P w) 2 "_law_mixed" ["_law_cell","_law_k"] dY) (M_Book_entry:Í P w K mg base (Á P w) Ad.Book "entry" 3 ["self","number"] (gy Ad)) (M_Code_many:Í P w K mg base (Á P w) Ad.Code "many" 1 ["self"] (dE Ad)) (M_Book_put:Í P w K mg base (Á P w) Ad.Book "put" 5 ["self","entry","number"] (fR Ad)) (M_Book_entries:Í P w K mg base (Á P w) Ad.Book "entries" 1 ["self"] (fi Ad)) (D_Book_put:Lc P w K mg base (Á P w) Ad.Book "put" 5 ["self","entry","number"] (fR Ad)) (K_Book:ā P w K mg base (Á P w) Ad.Book "Book" 1 ["self","code"] (m7 Ad)):bR P w K mg base (Á P w) 6 f fd ["_law_code_here","_law_cell"] (nI Ad):=by
 specialize iN;obtain⟨ca,al,ws,r,c,rfl,C,ok,Tb,k⟩:=h;refine⟨_,ah (aP (i:=2) iN.nd (zL K_Book au (hr.mono Zd) (aj (À 0) ae))) (ah (gH cN rfl (eT T.range (aj (aO aZ aA (aO cg (az C_law_mixed au (hr.mono Zd) (aj (À 1) (aj aA ae))) aA)) ae)) (aL (i:=3) iN.nd) (ah (aP (i:=4) iN.nd (aO J9 (cL (eQ (K:=K) rfl) bU (À 3) (fun _ _=>rfl)) (aO aZ aA (aO cg (az C_law_mixed au (hr.mono Zd) (aj (À 1) (aj (aO aZ aA (À 3)) ae))) aA)))) (ah (aP (i:=5) iN.nd (aO cg (aO oP (az C_law_mixed au (hr.mono Zd) (aj (À 1) (aj (aO aZ aA (À 3)) ae))) aA) (bX M_Code_many au (hr.mono Zd) (À 0)))) (ao (cp ((Hq (bF vv (À 3) aA (bw _)) (Hq (bF yi (bX M_Code_many au (hr.mono Zd) (À 0)) aA (bw _)) (JR (bF yj (cW M_Book_entry au (hr.mono Zd) (À 2) (aj (À 5) ae)) jB (bw _))))).pt) (ao (eG (cW M_Book_put au (hr.mono Zd) (À 2) (aj (kz (aj bU (aj (À 4) ae))) (aj (À 5) ae))))) (ao (cp (bF vv (ax (aN (K:=K) rfl) T.len bB (aj (bX M_Book_entries au (hr.mono Zd) (À 2)) ae)) (bX M_Code_many au (hr.mono Zd) (À 0)) (bw _)) (ao (eG (Hf D_Book_put au (hr.mono Zd) (À 2) (aj (kz (aj bU (aj (À 4) ae))) ae)))) bu))))))) (ao (aJ (À 2)))),?_⟩;grind;intro b bx G0 hb hbx hbb t0 g0 g0x;refine⟨b,bx,ca,rfl,g0,fun dn de G1 hdn hde ne1 ne2 ne3 k1 g1 gn ge=>⟨rfl,?_⟩⟩;have n0:a9 H G1:=fun x o e=>k1 x o (fun z=>by rw[z,hb] at e;cases e) (t0 _ _ e);have hdn0:=t0.free hdn;have hde0:=t0.free hde;have a3:=ok.a3;have w3:=ok.w3;have hmany:9<=bI al ws:=Nq ok;cbv;grind;refine⟨c,80,rfl,Zd,?_⟩;have y0:0<=jm c 80%2147483629%12:=⋯
 have y1:jm c 80%2147483629%12<12:=⋯
 generalize jm c 80%2147483629=yy at y0 y1;symm;refine⟨Zd,⋯,⋯,?_⟩;refine mT (n:=(2+yy%12).toNat) (fun i σ H'=>(∃ o3 o4 o5,σ=[some (V.ref ca),some (V.int c),some (V.ref b),o3,o4,o5])/\a9 H H'/\∃ es,dB Ad H' b ca dn de es/\⇑es<=i/\(1<=i->1<=⇑es)/\(∀ e∈es,0<=e.num/\e.num<bI al ws)/\∀ e∈es,∃ j m:Nat,j<i/\1<=m/\m<=4/\e.key=ã j m) ?_ ?_ ?_
 ·exact⟨⟨_,_,_,rfl⟩,n0,[],⟨⟨_,g1⟩,gn,ge,(fun e he=>by cases he),.nil,.nil⟩,av _,(fun h=>⋯),(fun e he=>by cases he),fun e he=>by cases he⟩
 ·rintro i σ G2 hi ⟨⟨o3,o4,o5,rfl⟩,t2,es,B,el,e1,en,ek⟩ N hNx;clear hN;have i13:i<13:=⋯
  have C2:=C.same t2;obtain⟨dx2,h12⟩:=B.bk;obtain⟨dc2,qc2,hc21,hc22⟩:=id C2;symm;rw[show (0:Int)+(i:Int)=(i:Int) by left];grind;have abc:∀ i:Nat,i<16->(Str.ofString "abcdefghijklmnop").cps.toList[i]?=some (97+i):=by nofun
  refine⟨aM (ak Zd),97+i,df (abc i ⋯),c,81+i,by rw[show (81:Int)+(i:Int)=((81+i:Nat):Int) by left],⋯,?_⟩;have z0:0<=jm c (81+i)%2147483629%4:=⋯
  have z1:jm c (81+i)%2147483629%4<4:=⋯
  generalize jm c (81+i)%2147483629=zz at z0 z1;symm;refine⟨Zd,97+i,rfl,⋯,⋯,?_⟩;obtain⟨m,hm⟩:=cY (a:=1+zz%4) ⋯;rw[hm,c8];have m1:1<=m:=⋯
  have m4:m<=4:=⋯
  clear hm z0 z1;have hk:ã i m∉es.map (·.key):=fun h=>by obtain⟨e,he,ee⟩:=aK.mp h;obtain⟨j,m',hj,hm',_,e2⟩:=ek e he;rw[e2] at ee;have:=JM hm' ee;left
  cbv;grind;refine⟨c,100+i,by rw[show (100:Int)+(i:Int)=((100+i:Nat):Int) by left],⋯,?_⟩;generalize jm c (100+i)%2147483629=uu;symm;refine⟨.inr Zd,dc2,_,hc21,bC Zd Zd Zd al qc2 r,ca,al,ws,r,rfl,C2,ok.a26,⋯,ok.w8,fun G3 t3=>?_⟩;have em:(⇑al:Int)^(⇑ws-1)=bI al ws:=rfl;rw[em];symm;refine⟨⋯,?_⟩;have u0:=bY (uu*7919) (b:=bI al ws) ⋯;have u1:=bZ (uu*7919) (b:=bI al ws) ⋯;generalize uu*7919%bI al ws=nu at u0 u1;cbv;have t03:=t2.trans t3;have B3:=B.same t3;have C3:=C.same t03;have fin:∀ (n:Int) (t:Addr) (G:Hp),0<=n->n<bI al ws->(∀ c o,c≠dn->c≠de->H c=some o->G c=some o)->dB Ad G b ca dn de (es++[⟨n,ã i m,t⟩])->N [some (V.ref ca),some (V.int c),some (V.ref b),some (V.int i),some (V.str (tx (List.replicate m (97+i)))),some (V.int nu)] G:=fun n t G n0 n1 hs BG=>hNx _ _ ⟨⟨_,_,_,rfl⟩,fun x o e=>hs x o (fun z=>by rw[z,hdn0] at e;cases e) (fun z=>by rw[z,hde0] at e;cases e) e,es++[⟨n,ã i m,t⟩],BG,by rw[aF];show ⇑es+1<=_;left,(fun _=>by rw[aF];show 1<=⇑es+1;left),(fun e he=>(bG.mp he).elim (en e) fun h=>by rw[b9.mp h];exact⟨n0,n1⟩),fun e he=>(bG.mp he).elim (fun h=>let ⟨j,m',h1,h2⟩:=ek e h;⟨j,m',⋯,h2⟩) fun h=>⟨i,m,⋯,m1,m4,by rw[b9.mp h]⟩⟩;have pko:=Hj (j:=i) (m:=m) ⋯ m1 m4;have els:∀ (bk:St->Hp->Prop) (G:Hp),a9 G3 G->(Kp (xm (õ N8 (ø (zN K) (p9 (nO Ad.Book (Str.ofString "entries") (fi Ad) (fun x=>E) (sZ 2) uq) uq)) (nO Ad.Code (Str.ofString "many") (dE Ad) (fun x=>E) (sZ 0) uq))) (HW (nO Ad.Book (Str.ofString "put") (ē (fR Ad)) (fun x=>E) (sZ 2) (p9 (HZ (p9 (tC (V.str (Str.ofString "phrase"))) (p9 (sZ 4) uq))) uq))) Di) { nx:=N,rt:=Q,bk:=bk,ct:=N } [some (V.ref ca),some (V.int c),some (V.ref b),some (V.int i),some (V.str (tx (List.replicate m (97+i)))),some (V.int nu)] G:=by
   intro bk G tG;have B4:=B3.same tG;obtain⟨dx4,h14⟩:=B4.bk;symm;refine⟨dx4,_,h14,cC Zd Zd Zd ca dn de,b,ca,dn,de,es,rfl,B4,⋯,fun D1 ws1 ms G5 hD1 t5 g5 mp ml hp=>?_⟩;have C5:=C3.same (tG.trans t5);obtain⟨dc5,qc5,hc51,hc52⟩:=id C5;refine⟨_,.l g5,dc5,_,hc51,bC Zd Zd Zd al qc5 r,ca,al,ws,r,rfl,C5,ok.a26,⋯,ok.w8,fun G6 t6=>?_⟩;rw[em,fM hp,mp.length_eq];symm;have t36:=tG.trans (t5.trans t6);have B6:=B3.same t36;obtain⟨dx6,h16⟩:=B6.bk
   by_cases hl:(⇑es:Int)<bI al ws
   ·rw[a8 hl,ai rfl];obtain⟨n,Lf,hn⟩:=Gx (es.map (·.num));rw[af] at hn;refine⟨dx6,_,h16,cC Zd Zd Zd ca dn de,aM (ak Zd),fun pt G7 hpt t7 g7=>?_⟩;symm;refine⟨b,ca,dn,de,pt,es,al,ws,r,n,ã i m,.non,rfl,B6.same t7,C3.same (t36.trans t7),ok,((t03.trans t36).trans t7) _ _ Tb,g7,pko,hk,⋯,⋯,⋯,Lf.2.1,.inr ⟨rfl,Lf⟩,fun G8 hs8 B8=>?_⟩;exact fin n pt G8 ⋯ ⋯ (fun x o h1 h2 h3=>hs8 x o h1 h2 (((t03.trans t36).trans t7) _ _ h3)) B8
   ·rw[ay hl,ag (by decide)];exact hNx _ _ ⟨⟨_,_,_,rfl⟩,t03.trans t36,es,B6,⋯,(fun _=>⋯),en,fun e he=>let ⟨j,m',h1,h2⟩:=ek e he;⟨j,m',⋯,h2⟩⟩
  obtain⟨dc3,qc3,hc31,hc32⟩:=id C3
  by_cases hi4:i<4
  ·symm;rw[a8 (show (i:Int)<4 by left)];bv_omega;refine⟨dc3,_,hc31,bC Zd Zd Zd al qc3 r,ca,al,ws,r,rfl,C3,ok.a26,⋯,ok.w8,fun G4 t4=>?_⟩;rw[em];symm
   by_cases h20:20<bI al ws
   ·rw[a8 h20];bv_omega;have B4:=B3.same t4;obtain⟨dx4,h14⟩:=B4.bk;refine⟨dx4,_,h14,cC Zd Zd Zd ca dn de,b,ca,dn,de,es,al,ws,r,.int nu,.int,rfl,B4,C3.same t4,ok,rfl,(fun h=>by rw[gP (b:=bI al ws) u0 u1] at h;cases h),(fun n e _ _ hn G5 t5=>?_),fun n e _ _ x hx ex G5 t5=>?_⟩
    ·cases e
     symm;have t35:=t4.trans t5;have B5:=B3.same t35;obtain⟨dx5,h15⟩:=B5.bk;refine⟨dx5,_,h15,cC Zd Zd Zd ca dn de,aM (ak Zd),fun pt G6 hpt t6 g6=>?_⟩;exact⟨b,ca,dn,de,pt,es,al,ws,r,nu,ã i m,.int nu,rfl,B5.same t6,C3.same (t35.trans t6),ok,((t03.trans t35).trans t6) _ _ Tb,g6,pko,hk,⋯,u0,u1,hn,.inl rfl,fun G7 hs7 B7=>fin nu pt G7 u0 u1 (fun x o h1 h2 h3=>hs7 x o h1 h2 (((t03.trans t35).trans t6) _ _ h3)) B7⟩
    ·cases e
     have h:=els (fun _ _=>True) G5 (t4.trans t5)
     revert h
     symm;exact id
   ·rw[ay h20];bv_omega;have h:=els (fun _ _=>True) G4 t4
    revert h
    symm;exact id
  ·have h:=els (fun _ _=>True) G3 (a9.refl _)
   revert h
   symm;rw[ay (show ¬ (i:Int)<4 by left)];bv_omega;exact id
 ·rintro σ G2 ⟨⟨o3,o4,o5,rfl⟩,t2,es,B,el,e1,en,ek⟩;show nn _ _ _;cbv;symm;exact k b dn de es G2 t2 B (e1 ⋯) ⋯ en fun e he=>by obtain⟨j,m,h1,h2⟩:=ek e he;exact⟨j,m,⋯,h2⟩
theorem BA (h:i<⇑xs) (k:Nat):(oY xs i c)[k]?=if k=i then some c else xs[k]?:=by
 unfold oY;rcases Nat.lt_trichotomy k i with hk | hk | hk
 ·rw[bJ,iU (by rw[bK];left),rL,ai hk,ag ⋯]
 ·subst hk;rw[bJ,ir (by rw[bK];left),bK,iz ⋯,Nat.sub_self,ai rfl];rfl
 ·rw[ir (by rw[aF,bK];show min i _+1<=k;left),aF,bK,iz ⋯,iu,ag ⋯]
  congr 1
  show i+1+(k-(i+1))=k;left
theorem yn (h:i<⇑xs):⇑(oY xs i c)=⇑xs:=by unfold oY;rw[aF,aF,bK,cq,dz];left
noncomputable def jC (L:List (List V)) (pcs:List (Nat×Zb)):List (List V):=pcs.foldl (fun L p=>L.flatMap fun xs=>p.2.map fun c=>oY xs p.1 (.int c)) L
theorem xi (L:List (List V)) (pcs:List (Nat×Zb)) (p:Nat×Zb):jC L (pcs++[p])=(jC L pcs).flatMap fun xs=>p.2.map fun c=>oY xs p.1 (.int c):=by unfold jC;rw[List.foldl_append];rfl
structure Pk (y:List V) (pcs:List (Nat×Zb)) (xs:List V):Prop where
 len:⇑xs=⇑y
 on:∀ p∈pcs,∃ c∈p.2,xs[p.1]?=some (.int c)
 off:∀ i,i∉pcs.map (·.1)->xs[i]?=y[i]?
theorem B9:∀ {pcs:List (Nat×Zb)}{L:List (List V)}{xs:List V},(pcs.map (·.1)).Nodup->(∀ y∈L,∀ p∈pcs,p.1<⇑y)->(xs∈jC L pcs↔∃ y∈L,Pk y pcs xs)
 | [],L,xs,_,_=>by
  constructor
  ·exact fun h=>⟨xs,h,rfl,(fun p hp=>by cases hp),fun _ _=>rfl⟩
  ·rintro⟨y,hy,P⟩;have:xs=y:=fj fun i=>P.off i (by simp);rw[this];exact hy
 | (i,cs)::rest,L,xs,hn,hl=>by
  rw[bg,eL] at hn;have hL:∀ y∈L,i<⇑y:=fun y hy=>hl y hy _ aR;show xs∈jC (L.flatMap fun xs=>cs.map fun c=>oY xs i (.int c)) rest↔_;rw[B9 hn.2 fun y hy p hp=>?_]
  ·constructor
   ·rintro⟨y',hy',P⟩;obtain⟨y,hy,h2⟩:=List.mem_flatMap.mp hy';obtain⟨c,hc,rfl⟩:=aK.mp h2;have hi:=hL y hy;refine⟨y,hy,by rw[P.len,yn hi],fun p hp=>?_,fun k hk=>?_⟩
    ·rcases aU.mp hp with rfl | hp
     ·exact⟨c,hc,by rw[P.off i hn.1,BA hi,ai rfl]⟩
     ·exact P.on p hp
    ·rw[bg,aU,not_or] at hk;rw[P.off k hk.2,BA hi,ag hk.1]
   ·rintro⟨y,hy,P⟩;have hi:=hL y hy;obtain⟨c,hc,hx⟩:=P.on _ aR;refine⟨oY y i (.int c),List.mem_flatMap.mpr ⟨y,hy,aK.mpr ⟨c,hc,rfl⟩⟩,by rw[P.len,yn hi],fun p hp=>P.on p (aV _ hp),fun k hk=>?_⟩;rw[BA hi]
    by_cases e:k=i
    ·subst e;rw[ai rfl];exact hx
    ·rw[ag e];exact P.off k (by rw[bg,aU,not_or];exact⟨e,hk⟩)
  ·obtain⟨y0,hy0,h2⟩:=List.mem_flatMap.mp hy;obtain⟨c,hc,rfl⟩:=aK.mp h2;rw[yn (hL y0 hy0)];exact hl y0 hy0 p (aV _ hp)
theorem C8 {α β:Type}{f:α->List β}{m:Nat}:∀ {l:List α},(∀ x∈l,⇑(f x)<=m)->⇑(l.flatMap f)<=⇑l*m
 | [],_=>bc _
 | x::r,h=>by rw[oa,aF,bf,Nat.add_mul,lR];have:=h x aR;have:=C8 (f:=f) (m:=m) (l:=r) fun y hy=>h y (aV _ hy);left
theorem nc {L:List (List V)}:∀ {pcs:List (Nat×Zb)},(∀ p∈pcs,p.2.length<=16)->∀ {M:Nat},⇑L<=M->⇑(jC L pcs)<=M*16^⇑pcs:=by
 intro pcs
 induction pcs generalizing L with
 | nil=>intro _ M hL;show ⇑L<=_;simpa using hL
 | cons p r ih =>intro h M hL;show ⇑(jC (L.flatMap fun xs=>p.2.map fun c=>oY xs p.1 (.int c)) r)<=_;have h1:⇑(L.flatMap fun xs=>p.2.map fun c=>oY xs p.1 (.int c))<=M*16:=aX (C8 (m:=16) fun x _=>by rw[af];exact h p aR) (Nat.mul_le_mul_right _ hL);have:=ih (fun q hq=>h q (aV _ hq)) h1;rw[bf,Nat.pow_succ,Nat.mul_comm (16^_) 16,←Nat.mul_assoc];exact this
noncomputable def ko (xs:List V):Zb:=xs.map fun v=>match v with
 | .int n=>n
 | _=>0
theorem sk (ns:Zb):ko (ns.map V.int)=ns:=by unfold ko;rw[aW];exact List.map_id _
theorem K2 {α:Type} [DecidableEq α]:∀ {l m:List α},l.Nodup->(∀ x∈l,x∈m)->⇑l<=⇑m
 | [],_,_,_=>bc _
 | x::l,m,hn,h=>by rw[eL] at hn;have hx:=h x aR;have:=K2 (l:=l) (m:=m.erase x) hn.2 fun y hy=>(List.mem_erase_of_ne (fun e=>hn.1 (by rw[←e];exact hy))).mpr (h y (aV _ hy));rw[List.length_erase_of_mem hx] at this;have:=List.length_pos_of_mem hx;rw[bf];left
noncomputable def ó (al:Za) (ws:Zb) (r:Int) (es:List Ã) (zs:List Za) (ns:Zb):Prop:=⇑ns=⇑zs/\∀ (i:Nat) z,zs[i]?=some z →
 (jw al ws r es ⇑zs i z=true->ns[i]?=some (i6 al z))/\(jw al ws r es ⇑zs i z=false->∃ ps∈kL ⇑al (Mk.Ò al z),Mk.good ⇑al ws r ps=true/\(i+1=⇑zs∨Mk.numOf ⇑al ps.dropLast∈es.map (·.num))/\ns[i]?=some (Mk.numOf ⇑al ps.dropLast))
noncomputable def ć (al:Za) (ws:Zb) (r:Int) (es:List Ã) (zs:List Za) (t:Za):Prop:=∃ ns,ó al ws r es zs ns/\mF es (bI al ws) ns=some t
noncomputable def iA (al:Za) (ws:Zb) (r:Int) (z:Za):V:=if Mk.bW al ws r z=true then .int (i6 al z) else .non
theorem sC {es:List Ã}:i∈Ï al ws r es zs↔∃ z,zs[i]?=some z/\jw al ws r es ⇑zs i z=false:=by
 unfold Ï;rw[cG,cb];constructor
 ·rintro⟨h1,h2⟩;refine⟨zs[i],aD h1,?_⟩;rw[aT,aD h1] at h2
  simpa using h2
 ·rintro⟨z,h1,h2⟩;refine⟨(br.mp h1).1,?_⟩;rw[aT,h1];show (!jw al ws r es ⇑zs i z)=true;rw[h2];rfl
theorem Hl {es:List Ã} (hp:pcs.map (·.1)=Ï al ws r es zs) (hc:∀ p∈pcs,∃ z,zs[p.1]?=some z/\Fe al ws r es (decide (p.1+1=⇑zs)) z p.2) {xs:List V} :
  xs∈jC [zs.map (iA al ws r)] pcs↔∃ ns,xs=ns.map V.int/\ó al ws r es zs ns:=by
 have hnd:(pcs.map (·.1)).Nodup:=by rw[hp];exact jS _ ou
 rw[B9 hnd fun y hy p hp'=>by rw[b9.mp hy,af];obtain⟨z,hz,_⟩:=hc p hp';exact (br.mp hz).1];have at0:∀ {i:Nat}{z:Za},zs[i]?=some z->(zs.map (iA al ws r))[i]?=some (iA al ws r z):=fun h=>by rw[aS,h];rfl
 have snd0:∀ {i:Nat}{z:Za},jw al ws r es ⇑zs i z=true->iA al ws r z=.int (i6 al z):=fun h=>by unfold jw at h;rw[bT] at h;unfold iA;rw[ai h.1]
 have inP:∀ {i:Nat}{z:Za},zs[i]?=some z->jw al ws r es ⇑zs i z=false->∃ p∈pcs,p.1=i:=fun h1 h2=>by have:=sC.mpr ⟨_,h1,h2⟩;rw[←hp] at this;obtain⟨p,h,e⟩:=aK.mp this;exact⟨p,h,e⟩
 have outP:∀ {i:Nat}{z:Za},zs[i]?=some z->jw al ws r es ⇑zs i z=true->i∉pcs.map (·.1):=fun h1 h2 h=>by rw[hp] at h;obtain⟨z',h3,h4⟩:=sC.mp h;rw[h1] at h3;cases h3;rw[h2] at h4;cases h4
 constructor
 ·rintro⟨y,hy,P⟩;rw[b9.mp hy] at P;have pl:=P.len;rw[af] at pl;have hent:∀ (i:Nat) z,zs[i]?=some z->(jw al ws r es ⇑zs i z=true->xs[i]?=some (.int (i6 al z)))/\(jw al ws r es ⇑zs i z=false->∃ ps∈kL ⇑al (Mk.Ò al z),Mk.good ⇑al ws r ps=true/\(i+1=⇑zs∨Mk.numOf ⇑al ps.dropLast∈es.map (·.num))/\xs[i]?=some (.int (Mk.numOf ⇑al ps.dropLast))):=fun i z hz=>by
   refine⟨fun hs=>by rw[P.off i (outP hz hs),at0 hz,snd0 hs],fun hs=>?_⟩;obtain⟨p,hp1,rfl⟩:=inP hz hs;obtain⟨c,hc1,hc2⟩:=P.on p hp1;obtain⟨z',hz',M⟩:=hc p hp1;rw[hz] at hz';cases hz';obtain⟨ps,h1,h2,h3,rfl⟩:=(M.mem c).mp hc1;exact⟨ps,h1,h2,h3.imp jc id,hc2⟩
  have hall:∀ v∈xs,∃ n,v=V.int n/\True:=fun v hv=>by
   obtain⟨i,hi⟩:=oh hv;have hil:=(br.mp hi).1;have hz:zs[i]?=some (zs[i]'⋯):=aD _;obtain⟨h1,h2⟩:=hent i _ hz;cases hs:jw al ws r es ⇑zs i (zs[i]'⋯) with
   | true=>have:=h1 hs;rw[hi] at this;cases this;exact⟨_,rfl,trivial⟩
   | false=>obtain⟨ps,_,_,_,this⟩:=h2 hs;rw[hi] at this;cases this;exact⟨_,rfl,trivial⟩
  obtain⟨ns,rfl,_⟩:=xJ hall;rw[af] at pl;refine⟨ns,rfl,pl,fun i z hz=>?_⟩;obtain⟨h1,h2⟩:=hent i z hz;have bk:∀ {n:Int},(ns.map V.int)[i]?=some (.int n)->ns[i]?=some n:=fun h=>by rw[aS] at h;obtain⟨m,hm,e⟩:=eh.mp h;cases e;exact hm
  exact⟨fun hs=>bk (h1 hs),fun hs=>by obtain⟨ps,a1,a2,a3,a4⟩:=h2 hs;exact⟨ps,a1,a2,a3,bk a4⟩⟩
 ·rintro⟨ns,rfl,nl,hR⟩;refine⟨_,b9.mpr rfl,by rw[af,af,nl],fun p hp1=>?_,fun i hi=>?_⟩
  ·obtain⟨z,hz,M⟩:=hc p hp1;have hs:jw al ws r es ⇑zs p.1 z=false:=by
    have:p.1∈Ï al ws r es zs:=by rw[←hp];exact iZ hp1
    obtain⟨z',h3,h4⟩:=sC.mp this;rw[hz] at h3;cases h3;exact h4
   obtain⟨ps,a1,a2,a3,a4⟩:=(hR p.1 z hz).2 hs;exact⟨_,(M.mem _).mpr ⟨ps,a1,a2,a3.imp a8 id,rfl⟩,by rw[aS,a4];rfl⟩
  ·by_cases hil:i<⇑zs
   ·have hz:zs[i]?=some zs[i]:=aD hil;rw[at0 hz];cases hs:jw al ws r es ⇑zs i zs[i] with
    | true=>rw[aS,(hR i _ hz).1 hs,snd0 hs];rfl
    | false =>obtain⟨p,h1,rfl⟩:=inP hz hs;exact absurd (iZ h1) hi
   ·rw[dZ (by rw[af];left),dZ (by rw[af];left)]
noncomputable def DI (M:Int) (ns:Zb):Prop:=ns.getLastD 0=(ns.dropLast.sum+(⇑ns.dropLast:Int))%M
theorem uD {es:List Ã}{t:Za} (h:mF es M ns=some t):DI M ns:=by
 unfold mF at h;split at h
 ·assumption
 ·cases h
theorem Cn {A B:Zb}{d e M:Int} (hd:0<=d/\d<M) (he:0<=e/\e<M) (h1:DI M (A++[d]++B)) (h2:DI M (A++[e]++B)):d=e:=by
 unfold DI at h1 h2
 by_cases hB:B=[]
 ·subst hB;simp only[dM,rE] at h1 h2;rw[jT,List.getLast?_concat] at h1 h2;have e1:d=(A.sum+(⇑A:Int))%M:=h1;have e2:e=(A.sum+(⇑A:Int))%M:=h2;rw[e1,e2]
 ·obtain⟨C,y,rfl⟩:∃ C y,B=C++[y]:=⟨B.dropLast,B.getLast hB,(rF hB).symm⟩;rw[←bJ] at h1 h2;simp only[rE,List.sum_append,aF,lQ,List.sum_nil,dz] at h1 h2;rw[jT,List.getLast?_concat] at h1 h2;have e1:y=(A.sum+(d+0)+C.sum+((⇑A+1+⇑C:Nat):Int))%M:=h1;have e2:y=(A.sum+(e+0)+C.sum+((⇑A+1+⇑C:Nat):Int))%M:=h2;have e3:=e1.symm.trans e2;have e4:(A.sum+(d+0)+C.sum+((⇑A+1+⇑C:Nat):Int)-(A.sum+(e+0)+C.sum+((⇑A+1+⇑C:Nat):Int)))%M=0:=Int.emod_eq_emod_iff_emod_sub_eq_zero.mp e3;have e5:A.sum+(d+0)+C.sum+((⇑A+1+⇑C:Nat):Int)-(A.sum+(e+0)+C.sum+((⇑A+1+⇑C:Nat):Int))=d-e:=⋯
  rw[e5] at e4;obtain⟨q,hq⟩:=lJ e4;have:q=0:=by
   rcases Int.lt_trichotomy q 0 with h | h | h
   ·have:M*q<=M*(-1):=rC ⋯ ⋯;left
   ·exact h
   ·have:M*1<=M*q:=rC ⋯ ⋯;left
  subst this;left
theorem C7 {α β γ:Type}{f:α->List β}{g:β->Option γ}{m:Nat}:∀ {l:List α},(∀ x∈l,⇑((f x).filterMap g)<=m)->⇑((l.flatMap f).filterMap g)<=⇑l*m
 | [],_=>bc _
 | x::r,h=>by rw[oa,List.filterMap_append,aF,bf,Nat.add_mul,lR];have:=h x aR;have:=C7 (f:=f) (g:=g) (m:=m) (l:=r) fun y hy=>h y (aV _ hy);left
theorem FQ {β γ:Type}{g:β->Option γ}:∀ {l:List β},l.Nodup->(∀ x∈l,∀ y∈l,(g x).isSome=true->(g y).isSome=true->x=y)->⇑(l.filterMap g)<=1
 | [],_,_=>bc _
 | x::r,hn,h=>by
  rw[eL] at hn;have ih:=FQ (g:=g) hn.2 fun y hy z hz=>h y (aV _ hy) z (aV _ hz);cases hx:g x with
  | none=>rw[List.filterMap_cons_none hx];exact ih
  | some u =>
   rw[List.filterMap_cons_some hx];have:r.filterMap g=[]:=by
    rw[List.filterMap_eq_nil_iff];intro y hy;cases hy':g y with
    | none=>rfl
    | some w =>have:=h x aR y (aV _ hy) (by rw[hx];rfl) (by rw[hy'];rfl);rw[this] at hn;exact absurd hy hn.1
   rw[this];exact av _
theorem Et :ko (oY xs j (.int d))=(ko xs).take j++[d]++(ko xs).drop (j+1):=by unfold ko oY;rw[bM,bM,iy,iw];rfl
theorem LY {es:List Ã}{c:Bool}{cs:Zb} (ok:bP al ws r) (hz:Mk.bE al ⇑ws z=true) (M:Fe al ws r es c z cs):∀ n∈cs,0<=n/\n<bI al ws:=fun n hn=>by
 obtain⟨zl,zm⟩:=Mk.dH.mp hz;have a3:=ok.a3;obtain⟨ps,h1,_,_,rfl⟩:=(M.mem n).mp hn;obtain⟨pl,pm⟩:=pH (Mk.mj zm) ps h1;have hb:=Mk.jq (m:=(⇑al:Int)) ⋯ ps.dropLast fun p hp=>pm p (ip _ hp);have e:⇑ps.dropLast=⇑ws-1:=by rw[iX,pl,Mk.oR];left
 rw[e] at hb;exact hb
theorem Hm {es:List Ã} (ok:bP al ws r) (hz:∀ z∈zs,Mk.bE al ⇑ws z=true) (h2:⇑pcs<=2) (hc:∀ p∈pcs,∃ z,zs[p.1]?=some z/\Fe al ws r es (decide (p.1+1=⇑zs)) z p.2) (x0:List V) :
  ⇑((jC [x0] pcs).filterMap fun xs=>mF es (bI al ws) (ko xs))<=16:=by
 have few:∀ p∈pcs,p.2.length<=16:=fun p hp=>by obtain⟨_,_,M⟩:=hc p hp;exact M.few
 match pcs,h2,hc,few with
 | [],_,_,few =>refine aX (List.length_filterMap_le _ _) ?_;exact aX (nc few (M:=1) (av _)) (by show 1*16^0<=16;decide)
 | [p],_,_,few =>refine aX (List.length_filterMap_le _ _) ?_;exact aX (nc few (M:=1) (av _)) (by show 1*16^1<=16;decide)
 | [p,q],_,hc,few =>rw[show [p,q]=[p]++[q] from rfl,xi];have l1:=nc (L:=[x0]) (pcs:=[p]) (fun y hy=>few y (by rw[b9.mp hy];exact aR)) (M:=1) (av _);have l2:⇑(jC [x0] [p])<=16:=aX l1 (by show 1*16^1<=16;decide);refine aX (C7 (m:=1) fun xs _=>?_) ⋯;obtain⟨z,hzq,M⟩:=hc q (by simp);have bd:=LY ok (hz z (bL hzq)) M;rw[List.filterMap_map];refine FQ M.nd fun d hd e he h3 h4=>?_;obtain⟨t1,h3'⟩:=oA.mp h3;obtain⟨t2,h4'⟩:=oA.mp h4;have c1:=uD h3';have c2:=uD h4';rw[Et] at c1 c2;exact Cn (bd d hd) (bd e he) c1 c2
 | _::_::_::_,h2,_,_=>exact absurd h2 (by simp)
noncomputable def By:Option (Za)->V
 | some t=>.str (tx t)
 | none=>.non
theorem GU (a b:Option Za) (h:By a=By b):a=b:=by
 cases a with
 | none=>cases b with
  | none=>rfl
  | some _=>cases h
 | some x=>cases b with
  | none=>cases h
  | some y=>rw[lq (V.str.inj h)]
theorem Dp (a b:Za) (h:É a=É b):a=b:=lq (V.str.inj h)
theorem vw:∀ l:List (Option Za),(l.filter fun o=>o.isSome).map By=((l.filterMap id).map tx).map V.str
 | []=>rfl
 | none::l=>by rw[rG (by decide),vw l];rfl
 | some x::l=>by rw[rH rfl,bg,vw l];rfl
inductive iP (Ad:Ê) (vs:List V) (H:Hp) (Q:VK) (E:XK):Prop
 | mk (b ca dn de:Addr) (es:List Ã) (al:Za) (ws:Zb) (r:Int) (x:V) (t:Tg) (q0:vs=[.ref b,x]) (q1:dB Ad H b ca dn de es) (q2:cx Ad H ca al ws r) (q3:bP al ws r) (q4:(∀ e∈es,qH e.key/\0<=e.num/\e.num<bI al ws)) (q5:eZ H x=some t) (q6:(∀ p o u,x=.ref p->H p≠some (.frz o u))) (q7:(∀ p xs,x=.ref p->H p=some (.lst xs)->∀ y∈xs,(∃ t,eZ H y=some t)/\∀ z,y=.str z->⇑z<=100000)) (q8:(gO al ⇑ws H x=false->∀ H',a9 H H'->E (.ref Ad.NoWord) none H')) (q9:∀ (p:Addr) (zs:List Za),x=.ref p->H p=some (.lst (zs.map É))->2<=⇑zs->⇑zs<=1400->(∀ z∈zs,Mk.bE al ⇑ws z=true)->⇑zs<=1000/\(2<⇑(Ï al ws r es zs)->∀ dx pp H',a9 H H'->H' dx=some (.xd [("places",.ref pp)])->H' pp=some (.lst ((Ï al ws r es zs).map jo))->E (.ref Ad.TooGarbled) (some dx) H')/\(⇑(Ï al ws r es zs)<=2->∀ D (ts:List Za) H',H D=none->a9 H H'->H' D=some (.lst (ts.map É))->ts.Nodup/\⇑ts<=16->PyProof.Rows.sortedS (ts.map tx)=true->(∀ t,t∈ts↔ć al ws r es zs t)->Q (.ref D) H')):iP Ad vs H Q E
theorem Dq:∀ {a b:List (Za)},a.map É=b.map É->a=b
 | [],[],_=>rfl
 | [],_::_,h=>by cases h
 | _::_,[],h=>by cases h
 | x::a,y::b,h=>by
  rw[bg,bg] at h
  injection h with h1 h2
  rw[Dp x y h1,Dq h2]
theorem Fs {n:Int}{q:Addr} (hq:H q=some (.lst (zs.map É))) (z2:2<=⇑zs) (z14:⇑zs<=1400) (hz:∀ z∈zs,Mk.bE al n z=true):gO al n H (.ref q)=true:=by show (match H q with | some (.lst xs)=>decide (2<=⇑xs)&&decide (⇑xs<=1400)&&xs.all (dC (tx al) n) | _=>false)=true;rw[hq];show (decide (2<=⇑(zs.map É))&&decide (⇑(zs.map É)<=1400)&&(zs.map É).all (dC (tx al) n))=true;rw[af,a8 z2,a8 z14,dq,dq,c9];intro v hv;obtain⟨z,hzm,rfl⟩:=aK.mp hv;show Mk.bE (tx al).cps.toList n (tx z).cps.toList=true;rw[bQ,bQ];exact hz z hzm
theorem uA {Ad:Ê}{Q:VK}{E:XK}{b ca dn de q:Addr}{es:List Ã}{zs:List (Za)} (B:dB Ad H b ca dn de es) (C:cx Ad H ca al ws r) (ok:bP al ws r) (hes:∀ e∈es,qH e.key/\0<=e.num/\e.num<bI al ws)
  (hq:H q=some (.lst (zs.map É))) (z2:2<=⇑zs) (z1000:⇑zs<=1000) (hz:∀ z∈zs,Mk.bE al ⇑ws z=true)
  (k1:2<⇑(Ï al ws r es zs)->∀ dx pp H',a9 H H'->H' dx=some (.xd [("places",.ref pp)])->H' pp=some (.lst ((Ï al ws r es zs).map jo))->E (.ref Ad.TooGarbled) (some dx) H')
  (k2:⇑(Ï al ws r es zs)<=2->∀ D (ts:List Za) H',H D=none->a9 H H'->H' D=some (.lst (ts.map É))->ts.Nodup/\⇑ts<=16->PyProof.Rows.sortedS (ts.map tx)=true->(∀ t,t∈ts↔ć al ws r es zs t)->Q (.ref D) H'):iP Ad [.ref b,.ref q] H Q E:=by
 have w8:=ok.w8;refine⟨b,ca,dn,de,es,al,ws,r,.ref q,.lst,rfl,B,C,ok,hes,by show mE (H q)=_;rw[hq];rfl,(fun p o u e h=>by cases e;rw[hq] at h;cases h),(fun p xs e h y hy=>?_),(fun h=>by rw[Fs hq z2 ⋯ hz] at h;cases h),fun p zs' e h _ _ _=>?_⟩
 ·cases e
  rw[hq] at h;cases h;obtain⟨z,hzm,rfl⟩:=aK.mp hy;exact⟨⟨.str,rfl⟩,fun u eu=>by have:u=tx z:=(V.str.inj eu).symm;rw[this,bS];have:=(Mk.dH.mp (hz z hzm)).1;left⟩
 ·cases e
  rw[hq] at h
  injection h with h
  injection h with h
  obtain rfl:=Dq h;exact⟨z1000,k1,k2⟩
theorem zP {es:List Ã} (ok:bP al ws r) (hz:∀ z∈zs,Mk.bE al ⇑ws z=true)  (h:ó al ws r es zs ns)  (hd:ns[i]?=some d):0<=d/\d<bI al ws:=by
 have a3:=ok.a3;have hi:i<⇑zs:=by rw[←h.1];exact (br.mp hd).1
 have hzi:zs[i]?=some zs[i]:=aD hi;obtain⟨h1,h2⟩:=h.2 i _ hzi;cases hs:jw al ws r es ⇑zs i zs[i] with
 | true =>have e:=h1 hs;rw[hd] at e;cases e;unfold jw at hs;rw[bT] at hs;exact xb ok hs.1
 | false =>
  obtain⟨ps,a1,_,_,e⟩:=h2 hs;rw[hd] at e;cases e;obtain⟨zl,zm⟩:=Mk.dH.mp (hz _ (bL hzi));obtain⟨pl,pm⟩:=pH (Mk.mj zm) ps a1;have hb:=Mk.jq (m:=(⇑al:Int)) ⋯ ps.dropLast fun p hp=>pm p (ip _ hp);have e:⇑ps.dropLast=⇑ws-1:=by rw[iX,pl,Mk.oR];left
  rw[e] at hb;exact hb
theorem JW {es:List Ã} (ok:bP al ws r) (hz:∀ z∈zs,Mk.bE al ⇑ws z=true) (h1:⇑(Ï al ws r es zs)<=1) {ns ms:Zb} (hn:ó al ws r es zs ns) (hm:ó al ws r es zs ms) (cn:DI (bI al ws) ns) (cm:DI (bI al ws) ms):ns=ms:=by
 have same:∀ i,i∉Ï al ws r es zs->ns[i]?=ms[i]?:=fun i hi=>by
  by_cases hl:i<⇑zs
  ·have hzi:zs[i]?=some zs[i]:=aD hl;have hs:jw al ws r es ⇑zs i zs[i]=true:=by
    cases h:jw al ws r es ⇑zs i zs[i] with
    | true=>rfl
    | false=>exact absurd (sC.mpr ⟨_,hzi,h⟩) hi
   rw[(hn.2 i _ hzi).1 hs,(hm.2 i _ hzi).1 hs]
  ·rw[dZ (by rw[hn.1];left),dZ (by rw[hm.1];left)]
 match hd:Ï al ws r es zs,h1 with
 | [],_=>exact fj fun i=>same i (by rw[hd];simp)
 | [j],_ =>
  rw[hd] at same;have hj:j<⇑zs:=by
   have:j∈Ï al ws r es zs:=by rw[hd];exact b9.mpr rfl
   obtain⟨z,hzj,_⟩:=sC.mp this;exact (br.mp hzj).1
  have hjn:j<⇑ns:=by rw[hn.1];exact hj
  have hjm:j<⇑ms:=by rw[hm.1];exact hj
  have off:∀ i,i≠j->ns[i]?=ms[i]?:=fun i hi=>same i (by simpa using hi);have cut:∀ (l:Zb) (hl:j<⇑l),l=l.take j++[l[j]]++l.drop (j+1):=fun l hl=>by rw[bJ];have e:[l[j]]++l.drop (j+1)=l.drop j:=(lK hl).symm;rw[e,List.take_append_drop]
  have eA:ns.take j=ms.take j:=fj fun i=>by
   rw[rL,rL];split
   ·exact off i ⋯
   ·rfl
  have eB:ns.drop (j+1)=ms.drop (j+1):=fj fun i=>by rw[iu,iu];exact off _ ⋯
  rw[cut ns hjn] at cn ⊢;rw[cut ms hjm] at cm ⊢;rw[eA,eB] at cn ⊢;rw[Cn (zP ok hz hn (aD hjn)) (zP ok hz hm (aD hjm)) cn cm]
 | _::_::_,h1=>exact absurd h1 (by simp)
theorem G9 {ts:List α}{t:α} (hn:ts.Nodup) (h1:t∈ts) (h2:∀ u∈ts,u=t):ts=[t]:=by
 have:=CJ hn fun x hx y hy=>by rw[h2 x hx,h2 y hy]
 match ts,h1,this with
 | [u],h1,_=>rw[h2 u aR]
 | _::_::_,_,h=>exact absurd h (by simp)
theorem Ic {es:List Ã}{gs:Zb}{wd:List (Za)} (h:qY ((gs.map V.int).map (Õ es))=.inr wd):mF es M (gs++[(gs.sum+(⇑gs:Int))%M])=some (Mk.fK 32 wd):=by unfold mF;rw[jT,List.getLast?_concat,rE,h];show (if (gs.sum+(⇑gs:Int))%M=(gs.sum+(⇑gs:Int))%M then some (Mk.fK 32 wd) else none)=_;rw[ai rfl]
theorem CZ {es:List Ã} (ok:bP al ws r) (hz:∀ z∈zs,Mk.bE al ⇑ws z=true) (h1:⇑(Ï al ws r es zs)<=1) {t:Za} (hn:ó al ws r es zs ns) (ht:mF es (bI al ws) ns=some t) {ts:List (Za)} (hnd:ts.Nodup) (hmem:∀ t,t∈ts↔ć al ws r es zs t):ts=[t] :=
 G9 hnd ((hmem t).mpr ⟨ns,hn,ht⟩) fun u hu=>by obtain⟨ms,hm,hu'⟩:=(hmem u).mp hu;rw[JW ok hz h1 hm hn (uD hu') (uD ht),ht] at hu';exact (Option.some.inj hu').symm
theorem eO:aI ["book","words","places","code","last","lists","at","texts"] ["book","words"] (aw qo):=by subst_eqs
theorem zH (F:Ç K "readings" "readings" qo f fd) (T:Bl mg) (AF:È K mg Ad) (C_text_of:Å P w K mg base (Á P w) 5 "text_of" ["book","numbers"] (qA Ad)) (C_with_each:Å P w K mg base (Á P w) 1 "with_each" ["lists","at","choices"] mC) (C_may_stand:Å P w K mg base (Á P w) 6 "may_stand" ["book","word","is_check"] (mB Ad)) (C_doubtful:Å P w K mg base (Á P w) 6 "doubtful" ["book","words"] (nG Ad)) (M_Code_has_good:Í P w K mg base (Á P w) Ad.Code "has_good" 3 ["self","thing"] (dG Ad)) (M_Code_number:Í P w K mg base (Á P w) Ad.Code "number" 4 ["self","word"] (fS Ad)) (M_Book_code:Í P w K mg base (Á P w) Ad.Book "code" 1 ["self"] (dD Ad)) (K_TooGarbled:Fd P w K mg base (Á P w) Ad.TooGarbled "TooGarbled" 1 ["self","places"] (eY Ad)):bR P w K mg base (Á P w) 7 f fd ["book","words"] (iP Ad):=by
 specialize eO;obtain⟨b,ca,dn,de,es,al,ws,r,x,t,rfl,B,C,ok,hes,ht,hfz,hit,kE,kQ⟩:=h;refine⟨_,ah (aP (i:=2) eO.nd (az C_doubtful au (hr.mono Zd) (aj (Ä 0) (aj (À 1) ae)))) (ah (cp (bF yi (ax (aN (K:=K) rfl) T.len bB (aj (À 2) ae)) (fh AF.v_MOST_DOUBTFUL) (bw _)) (ao (sL K_TooGarbled pT rfl (hr.mono Zd) (aj (À 2) ae))) bu) (ah (eU (i:=3) eO.nd (bX M_Book_code au (hr.mono Zd) (Ä 0))) (ah (aP (i:=4) eO.nd (aO jr (ax (aN (K:=K) rfl) T.len bB (aj (À 1) ae)) aA)) (ah (aP (i:=5) eO.nd (cR (aj (fH ["word"] rfl ⟨rfl,by nofun,rfl,by nofun⟩ (.cons (j:=3) rfl (.inl (by ext)) (.nil)) (by nofun) (ck (K:=K) rfl (À 1)) (fun _ _ _ _=>aL (i:=0) (show (["word","code"]:Ze).Nodup from by nofun)) (fun _ _ _ _=>cM) (fun _ _ _ _=>zK (cH (cW M_Code_has_good e8 (hr.mono Zd) (Ä 1) (aj (À 0) ae))) (cW M_Code_number e8 (hr.mono Zd) (Ä 1) (aj (À 0) ae)) jB)) ae))) (ah (gH cN rfl (ck (K:=K) rfl (À 2)) (aL (i:=6) eO.nd) (ao (aP (i:=5) eO.nd (az C_with_each au (hr.mono Zd) (aj (À 5) (aj (À 6) (aj (az C_may_stand au (hr.mono Zd) (aj (Ä 0) (aj (cL (eQ (K:=K) rfl) (À 1) (À 6) (fun _ _=>rfl)) (aj (cK (dI (K:=K) rfl hu) (À 6) (À 4) (bw _)) ae)))) ae))))))) (ah (lE (i:=7) ["numbers"] eO.nd rfl (Or.inl rfl) rfl ⟨rfl,by nofun,rfl,by nofun⟩ (.cons (j:=0) rfl (.inl (by ext)) (.nil)) (by nofun) (ck (K:=K) rfl (À 5)) (fun _ _ _ _=>aL (i:=0) (show (["numbers","book"]:Ze).Nodup from by nofun)) (fun _ _ _ _=>cM) (fun _ _ _ _=>az C_text_of e8 (hr.mono Zd) (aj (Ä 1) (aj (À 0) ae)))) (ao (aJ (ax (A4 (P:=P) (w:=w) rfl rfl rfl) T.sorted rX (aj (eS (Az (K:=K) (P:=P) (w:=w) rfl rfl rfl rfl) T.set Fx (aj (fH ["text"] rfl ⟨rfl,by nofun,rfl,by nofun⟩ (.nil) (by nofun) (ck (K:=K) rfl (À 7)) (fun _ _ _ _=>aL (i:=0) (show (["text"]:Ze).Nodup from by nofun)) (fun _ _ _ _=>mi (bF sI (À 0) jB (bw _))) (fun _ _ _ _=>À 0)) ae)) ae)))))))))),?_⟩;have big:∀ {u:Nat},u<=10000->u<=sizeLine:=fun hu=>aM (ak ⋯);have w8:=ok.w8;grind;refine⟨b,ca,dn,de,es,al,ws,r,x,t,rfl,B,C,ok,ht,hfz,hit,kE,fun p zs ex hp z2 z14 hz D1 H1 hD1 s1 h1=>?_⟩;subst ex;obtain⟨z1000,kG,kR⟩:=kQ p zs rfl hp z2 z14 hz;clear kQ kE hit hfz;cbv;have dnd:(Ï al ws r es zs).Nodup:=jS _ ou;have dlt:∀ i∈Ï al ws r es zs,i<⇑zs:=fun i hi=>cb.mp (cG.mp hi).1;grind;refine⟨_,.l h1,?_⟩;rw[af]
 by_cases h3:2<⇑(Ï al ws r es zs)
 ·rw[a8 (show (2:Int)<(⇑(Ï al ws r es zs):Int) by left)];symm;exact⟨big Zd,BE h1 fun dx pp H' sH hd hpp=>kG h3 dx pp H' (s1.trans sH) hd hpp⟩
 have d2:⇑(Ï al ws r es zs)<=2:=⋯
 rw[ay (show ¬ (2:Int)<(⇑(Ï al ws r es zs):Int) by left)];bv_omega;show nn _ _ _;rw[hN];clear hN nn kG h3;have kR':=kR d2;clear kR;have B1:=B.same s1;have C1:=C.same s1;have hp1:=s1 _ _ hp;obtain⟨dx,hb1⟩:=B1.bk;grind;refine⟨dx,_,hb1,cC Zd Zd Zd ca dn de,b,ca,dn,de,es,rfl,B1,?_⟩;cbv;grind;refine⟨_,.l hp1,?_⟩;rw[af,hN];clear hN nn;grind;refine .inl ⟨⟨_,.of hp1⟩,uY É Dp (cT (.of hp1)) (ak ⋯) (iA al ws r) ?_ ?_⟩
 ·intro z hzm G2 t2 R hR;have C2:=C1.same t2;obtain⟨dc,qc,hc1,hc2⟩:=id C2;have zl:=(Mk.dH.mp (hz z hzm)).1;have eg:iG (tx al) ws r (.str (tx z))=Mk.bW al ws r z:=by
   show Mk.bW (tx al).cps.toList ws r (tx z).cps.toList=_;rw[bQ,bQ]
  unfold É;symm;refine⟨dc,_,hc1,bC Zd Zd Zd al qc r,ca,al,ws,r,.str (tx z),.str,rfl,C2,ok,rfl,(fun y ey=>by rw[←V.str.inj ey,bS];left),fun G3 t3=>?_⟩;rw[eg];unfold iA at hR;cases hg:Mk.bW al ws r z with
  | false =>rw[hg] at hR;symm;exact hR G3 t3
  | true =>rw[hg] at hR;have C3:=C2.same t3;obtain⟨dc3,qc3,hc31,hc32⟩:=id C3;symm;refine⟨dc3,_,hc31,bC Zd Zd Zd al qc3 r,ca,al,ws,r,.str (tx z),.str,rfl,C3,ok,rfl,(fun y ey=>by rw[←V.str.inj ey,bS];left),(fun h=>by rw[eg,hg] at h;cases h),fun u eu hu G4 t4=>?_⟩;have eu':u=tx z:=(V.str.inj eu).symm;subst eu';rw[bQ];exact hR G4 (t3.trans t4)
 intro D2 G2 hD2 t2 g2;symm;refine⟨big Zd,fun pl0 G3 hpl0 t3 g3=>?_⟩;have s3:=s1.trans (t2.trans t3);have h13:=(t2.trans t3) _ _ h1;have hp3:=s3 _ _ hp;have B3:=B.same s3;have C3:=C.same s3;cbv;grind;refine .inl ⟨⟨_,.of h13⟩,qL (xs:=(Ï al ws r es zs).map jo) (fun i σ G=>∃ (pl:Addr) (vs:List V) (pcs:List (Nat×Zb)) (o6 o7:Option V),σ=[some (V.ref b),some (V.ref p),some (V.ref D1),some (V.ref ca),some (V.int ((⇑zs:Int)-1)),some (V.ref pl),o6,o7]/\a9 G3 G/\G pl=some (.lst vs)/\lx G vs (jC [zs.map (iA al ws r)] pcs)/\pcs.map (·.1)=(Ï al ws r es zs).take i/\(∀ q∈pcs,∃ z,zs[q.1]?=some z/\Fe al ws r es (decide (q.1+1=⇑zs)) z q.2)) ?_ ?_ ?_ ?_⟩
 ·exact⟨pl0,_,[],_,_,rfl,a9.refl _,g3,.cons ⟨D2,rfl,t3 _ _ g2⟩ .nil,rfl,fun q hq=>by cases hq⟩
 ·rintro i σ G _ ⟨_,_,_,_,_,_,t,_⟩;exact .of (t _ _ h13)
 ·rintro i v σ G hi ⟨pl,vs,pcs,o6,o7,rfl,t4,hpl,hvs,hpc,hpm⟩ N hNx;clear hN;rw[aS] at hi;obtain⟨a,ha,rfl⟩:=eh.mp hi;have hil:=(br.mp ha).1;have alt:=dlt a (bL ha);have hza:zs[a]?=some zs[a]:=aD alt;have hwa:=hz _ (bL hza);have pcl:⇑pcs<=1:=by
   have:=cc List.length hpc;rw[af,bK] at this;left
  have few:∀ q∈pcs,q.2.length<=16:=fun q hq=>by obtain⟨_,_,M⟩:=hpm q hq;exact M.few
  have l16:⇑(jC [zs.map (iA al ws r)] pcs)<=1000:=by refine aX (nc few (M:=1) (av _)) (aX (Nat.mul_le_mul_left 1 (lS Zd pcl)) Zd)
  have pnd:(pcs.map (·.1)).Nodup:=by rw[hpc];exact dnd.sublist (List.take_sublist _ _)
  have plen:∀ xs∈jC [zs.map (iA al ws r)] pcs,⇑xs=⇑zs:=fun xs hxs=>by obtain⟨y,hy,P⟩:=(B9 pnd fun y hy q hq=>by rw[b9.mp hy,af];obtain⟨z,hz',_⟩:=hpm q hq;exact (br.mp hz').1).mp hxs;rw[P.len,b9.mp hy,af]
  unfold jo;symm;refine⟨_,_,.l (t4 _ _ hp3),df (j:=a) (by rw[aS,hza];rfl),?_⟩;unfold É;symm;refine⟨b,ca,dn,de,es,al,ws,r,zs[a],_,rfl,B3.same t4,C3.same t4,ok,hwa,fun D5 cs G5 hD5 t5 g5 M=>?_⟩;have e:decide ((a:Int)=(⇑zs:Int)-1)=decide (a+1=⇑zs):=by
   by_cases h:a+1=⇑zs
   ·rw[a8 h,a8 ⋯]
   ·rw[ay h,ay ⋯]
  rw[e] at M;refine⟨pl,D5,vs,_,a,cs,rfl,t5 _ _ hpl,hvs.keep fun b xs h=>t5 _ _ h,g5,by have:=M.few;left,l16,(fun xs hxs=>by rw[plen xs hxs];exact z14),⋯,fun D6 vs6 G6 hD6 t6 g6 hv6=>?_⟩;refine hNx _ _ ⟨D6,vs6,pcs++[(a,cs)],_,_,rfl,t4.trans (t5.trans t6),g6,by rw[xi];exact hv6,?_,fun q hq=>?_⟩
  ·rw[bM,hpc,gA,ha];rfl
  ·rcases bG.mp hq with hq | hq
   ·exact hpm q hq
   ·rw[b9.mp hq];exact⟨_,hza,M⟩
 rintro σ G ⟨pl,vs,pcs,o6,o7,rfl,t4,hpl,hvs,hpc,hpm⟩;show nn _ _ _;cbv;rw[af,ef (av _)] at hpc;have few:∀ q∈pcs,q.2.length<=16:=fun q hq=>by obtain⟨_,_,M⟩:=hpm q hq;exact M.few
 have pcl:⇑pcs<=2:=by have:=cc List.length hpc;rw[af] at this;left
 have l256:⇑(jC [zs.map (iA al ws r)] pcs)<=256:=aX (nc few (M:=1) (av _)) (aX (Nat.mul_le_mul_left 1 (lS Zd pcl)) Zd);have pin:=fun xs=>Hl (r:=r) hpc hpm (xs:=xs);have ptx:=Hm ok hz pcl hpm (zs.map (iA al ws r));generalize jC [zs.map (iA al ws r)] pcs=LL at hvs l256 pin ptx;have lvs:⇑vs=LL.length:=fM hvs;have B4:=B3.same t4;have C4:=C3.same t4;grind;refine .inl ⟨⟨_,.of hpl⟩,K0 (cT (.of hpl)) (ak ⋯) ((LL.map fun xs=>mF es (bI al ws) (ko xs)).map By) (by rw[af,af,lvs]) ?_ ?_⟩
 ·intro i v u hv hu G5 t5 R hR;obtain⟨xs,hxs,q,rfl,hq⟩:=iC hvs hv;rw[aS,aS,hxs] at hu;obtain⟨ns,rfl,hns⟩:=(pin xs).mp (bL hxs);have hu':By (mF es (bI al ws) (ko (ns.map V.int)))=u:=Option.some.inj hu;rw[sk] at hu';subst hu';have nl:=hns.1;symm;refine⟨b,ca,dn,de,q,es,al,ws,r,ns,rfl,B4.same t5,C4.same t5,ok,hes,t5 _ _ hq,⋯,⋯,fun tt htt G6 t6=>?_,fun htt G6 t6=>?_⟩
  ·rw[htt] at hR;exact hR G6 t6
  ·rw[htt] at hR;exact hR G6 t6
 intro D5 G5 hD5 t5 g5;cbv;symm;refine .inl ⟨⟨_,.of g5⟩,zi By GU (cT (.of g5)) (by rw[af];exact ak ⋯) (fun o=>o.isSome) By ?_ ?_ ?_⟩
 ·intro o ho G6 t6 R hR;cases o with
  | none =>symm;exact hR G6 (a9.refl _)
  | some tt =>symm;exact hR G6 (a9.refl _)
 ·intro o ho _ G6 t6 R hR;symm;exact hR G6 (a9.refl _)
 intro D6 G6 hD6 t6 g6;rw[vw,List.filterMap_map] at g6;have ptx':⇑(LL.filterMap (id ∘ fun xs=>mF es (bI al ws) (ko xs)))<=16:=ptx;have pmem:∀ tt,tt∈LL.filterMap (id ∘ fun xs=>mF es (bI al ws) (ko xs))↔ć al ws r es zs tt:=fun tt=>by
  rw[om];constructor
  ·rintro⟨xs,hxs,e⟩;obtain⟨ns,rfl,hns⟩:=(pin xs).mp hxs;have e':mF es (bI al ws) (ko (ns.map V.int))=some tt:=e;rw[sk] at e';exact⟨ns,hns,e'⟩
  ·rintro⟨ns,hns,e⟩;refine⟨ns.map V.int,(pin _).mpr ⟨ns,rfl,hns⟩,?_⟩;show mF es (bI al ws) (ko (ns.map V.int))=some tt;rw[sk];exact e
 generalize LL.filterMap (id ∘ fun xs=>mF es (bI al ws) (ko xs))=TT at g6 ptx' pmem;symm;refine⟨TT.map tx,.of g6,by rw[af];left,fun pS G7 hpS t7 g7=>?_⟩;symm;refine⟨TT.map tx,g7,by have:=mX (nR (TT.map tx)) ⇑(TT.map tx);rw[af] at this ⊢;left,fun us hnd hmem hsrt pO G8 hpO t8 g8=>?_⟩;have eus:us=(us.map fun z=>z.cps.toList).map tx:=by rw[aW];exact (List.map_id' us).symm.trans (iY fun z _=>(nQ z).symm)
 refine kR' pO (us.map fun z=>z.cps.toList) G8 ((s3.trans (t4.trans (t5.trans (t6.trans t7)))).free hpO) (s3.trans (t4.trans (t5.trans (t6.trans (t7.trans t8))))) ?_ ?_ ?_ fun tt=>?_
 ·rw[g8]
  congr 2
  rw[aW];exact iY fun z _=>by show V.str z=V.str (tx z.cps.toList);rw[nQ]
 ·refine⟨ja.mpr (nV (fun {x y} hxy e=>hxy ?_) hnd),?_⟩
  ·rw[af];have:=K2 hnd fun z hz=>(hmem z).mp hz;rw[af] at this;left
  ·rw[←nQ x,←nQ y,e]
 ·rw[←eus];exact hsrt
 ·rw[←pmem,aK];constructor
  ·rintro⟨z,hz',rfl⟩;obtain⟨y,hy,e⟩:=aK.mp ((hmem z).mp hz');rw[←e,bQ];exact hy
  ·exact fun h=>⟨tx tt,(hmem _).mpr (iZ h),bQ tt⟩
inductive gN (Ad:Ê) (vs:List V) (H:Hp) (Q:VK) (E:XK):Prop
 | mk (b ca dn de q pl:Addr) (es:List Ã) (al:Za) (ws:Zb) (r:Int) (zs:List Za) (q0:vs=[.ref b,.ref q,.ref pl]) (q1:dB Ad H b ca dn de es) (q2:cx Ad H ca al ws r) (q3:bP al ws r) (q4:(∀ e∈es,qH e.key/\0<=e.num/\e.num<bI al ws)) (q5:H q=some (.lst (zs.map É))) (q6:2<=⇑zs) (q7:⇑zs<=1000) (q8:(∀ z∈zs,Mk.bE al ⇑ws z=true)) (q9:2<⇑(Ï al ws r es zs)) (q10:H pl=some (.lst ((Ï al ws r es zs).map jo))) (q11:∀ H',a9 H H'->Q (.bl true) H'):gN Ad vs H Q E
theorem jL:aI ["_law_book_here","_law_words","_law_places","e"] ["_law_book_here","_law_words","_law_places"] (aw ib):=by subst_eqs
theorem pN (F:Ç K "_law_too_garbled" "_law_too_garbled" ib f fd) (T:Bl mg) (AF:È K mg Ad) (C_readings:Å P w K mg base (Á P w) 7 "readings" ["book","words"] (iP Ad)):bR P w K mg base (Á P w) 8 f fd ["_law_book_here","_law_words","_law_places"] (gN Ad):=by
 specialize jL;obtain⟨b,ca,dn,de,q,pl,es,al,ws,r,zs,rfl,B,C,ok,hes,hq,z2,z1000,hz,h3,hpl,k⟩:=h;refine⟨_,ah (M3 (i:=3) rfl rfl rfl jL.nd AF.g_TooGarbled (fun pn xe E1 po px=>ao (eG (az C_readings px (hr.mono Zd) (aj (À 0) (aj (À 1) ae))))) (fun _=>ao (aJ (cK (dI (K:=K) rfl hu) (JG (K:=K) rfl (À 3)) (À 2) (bw _))))) (ao (aJ ky)),?_⟩;grind;refine uA B C ok hes hq z2 z1000 hz (fun _ dx pp H1 s1 hdx hpp=>?_) fun h=>⋯
 have eC:=LB AF.err (c:=Ad.TooGarbled) (bL (i:=7) rfl);refine⟨AF.x_TooGarbled,fun ea H2 hea s2 h2=>⟨_,dx,_,_,h2,s2 _ _ hdx,eC.ex,AF.s_TooGarbled,AF.f_TooGarbled,zk,?_⟩⟩;symm;refine⟨_,_,.of (s2 _ _ hpp),.of ((s1.trans s2) _ _ hpl),uU _,uU _,?_⟩;rw[oK _ (uU _)];exact k H2 (s1.trans s2)
theorem za {H:Hp}:∀ {vs:List V},(∀ v∈vs,∃ p o,v=.ref p/\H p=some o/\∃ f,o=.tup (FP f)/\0<=f.n/\0<=f.s/\f.s<4)->∃ fs,pB H vs fs/\∀ f∈fs,0<=f.n/\0<=f.s/\f.s<4
 | [],_=>⟨[],.nil,fun _ h=>by cases h⟩
 | v::vs,h=>by
  obtain⟨fs,h1,h2⟩:=za (vs:=vs) fun x hx=>h x (aV _ hx);obtain⟨p,o,e,hp,f,rfl,hn⟩:=h v aR;refine⟨f::fs,.cons ⟨p,e,hp⟩ h1,fun g hg=>?_⟩;rcases aU.mp hg with rfl | hg
  ·exact hn
  ·exact h2 g hg
theorem Gg (z:Str):∀ zs:Ze,ÿ (.str z) (zs.map V.str)=decide (z∈zs)
 | []=>rfl
 | y::ys=>by
  show ((y==z)||ÿ (.str z) (ys.map V.str))=_;rw[Gg z ys]
  by_cases e:y=z
  ·subst e;simp
  ·have:¬ z=y:=fun h=>e h.symm;simp [e,this]
theorem Cp (ok:bP al ws r) (g:GoodW al ws r z) (o:Option Flt):j8 al z o=z∨∃ ps q,z=Mk.bD al ps/\⇑ps=⇑ws/\(∀ x∈ps,0<=x/\x<(⇑al:Int))/\Mk.good ⇑al ws r ps=true/\j8 al z o=Mk.bD al q/\q∈kL ⇑al ps:=by
 cases o with
 | none=>exact .inl rfl
 | some f =>
  obtain⟨ps,rfl,hl,hm,hg⟩:=g;have sl:=Mk.fA al ps;have w3:=ok.w3;have a3:=ok.a3;have gc:∀ j (hj:j<⇑ps),(Mk.bD al ps).getD j 0=al.getD ps[j].toNat 0:=fun j hj=>by rw[aT];unfold Mk.bD;rw[aS,aD hj];rfl
  have e:j8 al (Mk.bD al ps) (some f)=if f.isL then ç al (Mk.bD al ps) f.n else ä (Mk.bD al ps) f.n:=rfl
  rw[e];cases hL:f.isL with
  | true =>
   refine .inr ⟨ps,?_⟩;show ∃ q,_/\_/\_/\_/\ç al (Mk.bD al ps) f.n=_/\_;unfold ç;rw[sl];obtain⟨i,hi⟩:=cY (bY f.n (show (⇑ps:Int)≠0 by left));have hip:i<⇑ps:=by have:=bZ f.n (show 0<(⇑ps:Int) by left);left
   rw[hi,c8];have hpi:=hm _ (cZ hip);have hix:al.idxOf (al.getD ps[i].toNat 0)=ps[i].toNat:=Mk.sj ok.nd (Mk.getD_at hpi);rw[gc i hip,hix,nU hpi.1];have f0:=bY (f.n/(⇑ps:Int)) (show (⇑al:Int)-1≠0 by left);have f1:=bZ (f.n/(⇑ps:Int)) (show 0<(⇑al:Int)-1 by left);generalize f.n/(⇑ps:Int)%((⇑al:Int)-1)=fu at f0 f1;have hj0:=bY (ps[i]+(fu+1)) (show (⇑al:Int)≠0 by left);have hj1:=bZ (ps[i]+(fu+1)) (show 0<(⇑al:Int) by left);have hne:(ps[i]+(fu+1))%(⇑al:Int)≠ps[i]:=by
    by_cases h:ps[i]+(fu+1)<⇑al
    ·rw[iR ⋯ h];left
    ·have e:(ps[i]+(fu+1))%(⇑al:Int)=ps[i]+(fu+1)-⇑al:=by
      rw[←Int.sub_emod_right,iR ⋯ ⋯]
     rw[e];left
   generalize (ps[i]+(fu+1))%(⇑al:Int)=j at hj0 hj1 hne;rw[Mk.xk hip];refine⟨_,rfl,hl,hm,hg,rfl,bG.mpr (.inl (mV.mpr ⟨i,j,hip,hj0,hj1,?_,rfl⟩))⟩;rw[aT,aD hip];exact hne
  | false =>
   show ä (Mk.bD al ps) f.n=_∨∃ ps' q,_/\_/\_/\_/\ä (Mk.bD al ps) f.n=_/\_;unfold ä;rw[sl];obtain⟨i,hi⟩:=cY (bY f.n (show (⇑ps:Int)-1≠0 by left));have hip:i+1<⇑ps:=by have:=bZ f.n (show 0<(⇑ps:Int)-1 by left);left
   have hi0:i<⇑ps:=⋯
   rw[hi,c8,gc i hi0,gc (i+1) hip,bJ (List.take i _),Mk.vN hip]
   by_cases e2:ps[i]=ps[i+1]
   ·apply Or.inl;rw[←e2,rO hi0];have e3:ps.set (i+1) ps[i]=ps:=by rw[e2];exact rO hip
    rw[e3]
   ·right;have g1:ps.getD i 0=ps[i]:=by rw[aT,aD hi0];rfl
    have g2:ps.getD (i+1) 0=ps[i+1]:=by rw[aT,aD hip];rfl
    refine⟨ps,_,rfl,hl,hm,hg,rfl,bG.mpr (.inr (mW.mpr ⟨i,hip,by rw[g1,g2];exact e2,by rw[g1,g2]⟩))⟩
theorem FZ {es:List Ã}:∀ {gs:Zb},(∀ g∈gs,g∈es.map (·.num))->∃ grp:List Ã,(∀ e∈grp,e∈es)/\grp.map (·.num)=gs
 | [],_=>⟨[],(fun e h=>by cases h),rfl⟩
 | g::gs,h=>by
  obtain⟨grp,h1,h2⟩:=FZ fun x hx=>h x (aV _ hx);obtain⟨e,he,rfl⟩:=aK.mp (h g aR);refine⟨e::grp,fun x hx=>?_,by rw[bg,h2]⟩;rcases aU.mp hx with rfl | hx
  ·exact he
  ·exact h1 x hx
theorem HH:∀ {grp:List Ã}{s:List (Za)},(∀ e∈grp,∃ j m:Nat,j<13/\1<=m/\m<=4/\e.key=ã j m)->⇑s+⇑grp<=60->∃ ws',runK (grp.map fun e:Ã=>e.key) (s,[])=some (s++ws',[])/\⇑ws'=⇑grp
 | [],s,_,_=>⟨[],by rw[dM];rfl,rfl⟩
 | e::grp,s,h,hl=>by
  obtain⟨j,m,hj,m1,_,ek⟩:=h e aR;have sp:Mk.bV 32 (List.replicate m (97+j))=[List.replicate m (97+j)]:=Mk.oU _ fun h=>by have:=List.eq_of_mem_replicate h;left
  rw[bf] at hl;obtain⟨ws',h1,h2⟩:=HH (grp:=grp) (s:=s++[List.replicate m (97+j)]) (fun x hx=>h x (aV _ hx)) (by rw[aF,dz];left);refine⟨List.replicate m (97+j)::ws',?_,by rw[bf,bf,h2]⟩;rw[bg,ek];show (match stepK (ã j m) (s,[]) with | none=>none | some t=>runK (grp.map fun e:Ã=>e.key) t)=_;have hs:stepK (ã j m) (s,[])=some (s++[List.replicate m (97+j)],[]):=by unfold ã;rw[kD,sp,ai ⟨rfl,by show ⇑s+1<=60;left⟩]
  rw[hs];show runK (grp.map fun e:Ã=>e.key) (s++[List.replicate m (97+j)],[])=_;rw[h1,bJ];rfl
noncomputable def BS (K:Zf) (tb:Addr):Sp:=fun vs H Q _=>∃ (a:Addr) (ns:Zb),vs=[.ref a]/\Æ K H a (ns.map V.int)/\⇑ns<=63/\H tb=some (qC xO)/\∀ H',Q (.bl true) H'
theorem gK:aI ["_law_script","_law_letters","_law_weights_here","_law_rest","_law_code_here","_law_second","_law_book_here","_law_many","_law_groups_here","_law_text","_law_words","_law_few","_law_faults","_law_came","_law_places"] ["_law_script"] (aw qX):=by subst_eqs
theorem Mc (F:Ç K "law" "law" qX f fd) (T:Bl mg) (AF:È K mg Ad) (C_readings:Å P w K mg base (Á P w) 7 "readings" ["book","words"] (iP Ad)) (C_law_too_garbled:Å P w K mg base (Á P w) 8 "_law_too_garbled" ["_law_book_here","_law_words","_law_places"] (gN Ad)) (C_garbled:Å P w K mg base (Á P w) 5 "garbled" ["code","words","faults","sending"] (qw Ad)) (C_got_across:Å P w K mg base (Á P w) 6 "got_across" ["book","words","faults"] (ll Ad)) (C_law_fault:Å P w K mg base (Á P w) 3 "_law_fault" ["_law_cell","_law_many"] rn) (C_law_mixed:Å P w K mg base (Á P w) 2 "_law_mixed" ["_law_cell","_law_k"] dY) (C_law_telegram:Å P w K mg base (Á P w) 4 "_law_telegram" ["_law_code_here","_law_groups_here"] (jk Ad)) (C_telegram:Å P w K mg base (Á P w) 5 "telegram" ["book","groups"] (nM Ad)) (C_said:Å P w K mg base (Á P w) 4 "said" ["book","groups"] (rp Ad)) (C_law_groups:Å P w K mg base (Á P w) 3 "_law_groups" ["_law_book_here","_law_cells"] (lp Ad)) (C_law_book:Å P w K mg base (Á P w) 6 "_law_book" ["_law_code_here","_law_cell"] (nI Ad)) (C_law_cell_at:Å P w K mg base (Á P w) 1 "_law_cell_at" ["_law_script","_law_k"] (nJ K)) (C_law_code:Å P w K mg base (Á P w) 4 "_law_code" ["_law_cell"] tR) (K_Code:ā P w K mg base (Á P w) Ad.Code "Code" 4 ["self","alphabet","weights","rest"] (ij Ad)):bR P w K mg base (Á P w) 9 f fd ["_law_script"] (BS K Ad.tb):=by
 specialize gK;obtain⟨a,ns,rfl,hS,hlen,hT,k⟩:=h;refine⟨_,ah (Hn (az C_law_code au (hr.mono Zd) (aj (az C_law_cell_at au (hr.mono Zd) (aj (À 0) (aj aA ae))) ae)) (JL (K:=K) (n:=3) rfl rfl (cE (aL (i:=1) gK.nd) (cE (aL (i:=2) gK.nd) (cE (aL (i:=3) gK.nd) jt))))) (ah (aP (i:=4) gK.nd (zL K_Code au (hr.mono Zd) (aj (À 1) (aj (eS (j6 (K:=K) rfl rfl) T.list km (aj (À 2) ae)) (aj (À 3) ae))))) (ah (aP (i:=5) gK.nd (az C_law_cell_at au (hr.mono Zd) (aj (À 0) (aj aA ae)))) (ah (aP (i:=6) gK.nd (az C_law_book au (hr.mono Zd) (aj (À 4) (aj (À 5) ae)))) (ah (aP (i:=7) gK.nd (aO aZ aA (aO cg (az C_law_mixed au (hr.mono Zd) (aj (À 5) (aj aA ae))) aA))) (ah (aP (i:=8) gK.nd (az C_law_groups au (hr.mono Zd) (aj (À 6) (aj (cS (i7 (K:=K) rfl) (aO aZ (cS (i7 (K:=K) rfl) (À 0) (dh aA) (dh (aO aZ aA (À 7)))) (cR (aj aA ae))) eF (dh (À 7))) ae)))) (ah (aP (i:=9) gK.nd (az C_said au (hr.mono Zd) (aj (À 6) (aj (À 8) ae)))) (ah (eU (i:=10) gK.nd (az C_telegram au (hr.mono Zd) (aj (À 6) (aj (À 8) ae)))) (ah (cp (bF (iB (K:=K) rfl hu) (Ä 10) (az C_law_telegram au (hr.mono Zd) (aj (À 4) (aj (À 8) ae))) (bw _)) (ao (aJ ky)) bu) (ah (eU (i:=11) gK.nd (ax (DC rfl) T.min Lz (aj (ax (aN (K:=K) rfl) T.len bB (aj (Ä 10) ae)) (aj (aO aZ aA (aO oQ (ax (aN (K:=K) rfl) T.len bB (aj (Ä 10) ae)) (aO cg (az C_law_mixed au (hr.mono Zd) (aj (À 5) (aj aA ae))) aA))) ae)))) (ah (lE (i:=12) ["_law_cell"] gK.nd rfl (Or.inl rfl) rfl ⟨rfl,by nofun,rfl,by nofun⟩ (.cons (j:=11) rfl (.inl (by ext)) (.nil)) (by nofun) (ck (K:=K) rfl (cS (i7 (K:=K) rfl) (À 0) (dh (aO aZ aA (À 7))) (dh aA))) (fun _ _ _ _=>aL (i:=0) (show (["_law_cell","_law_few"]:Ze).Nodup from by nofun)) (fun _ _ _ _=>cM) (fun _ _ _ _=>az C_law_fault e8 (hr.mono Zd) (aj (À 0) (aj (Ä 1) ae)))) (ah (cp (bF (iB (K:=K) rfl hu) (az C_readings au (hr.mono Zd) (aj (À 6) (aj (cL (eQ (K:=K) rfl) (az C_got_across au (hr.mono Zd) (aj (À 6) (aj (Ä 10) (aj (À 12) ae)))) aA (fun _ _=>rfl)) ae))) (cR (aj (À 9) ae)) (bw _)) (ao (aJ ky)) bu) (ah (eU (i:=13) gK.nd (az C_garbled au (hr.mono Zd) (aj (À 4) (aj (Ä 10) (aj (À 12) (aj aA ae)))))) (ah (lE (i:=14) ["_law_place"] gK.nd rfl (Or.inl rfl) rfl ⟨rfl,by nofun,rfl,by nofun⟩ (.cons (j:=13) rfl (.inl (by ext)) (.cons (j:=10) rfl (.inl (by ext)) (.nil))) (by nofun) (eT T.range (aj (ax (aN (K:=K) rfl) T.len bB (aj (Ä 10) ae)) ae)) (fun _ _ _ _=>aL (i:=0) (show (["_law_place","_law_came","_law_words"]:Ze).Nodup from by nofun)) (fun _ _ _ _=>mi (bF (iB (K:=K) rfl hu) (cL (eQ (K:=K) rfl) (Ä 1) (À 0) (fun _ _=>rfl)) (cL (eQ (K:=K) rfl) (Ä 2) (À 0) (fun _ _=>rfl)) (bw _))) (fun _ _ _ _=>À 0)) (ah (cp (bF yi (ax (aN (K:=K) rfl) T.len bB (aj (À 14) ae)) aA (bw _)) (ao (aJ (az C_law_too_garbled au (hr.mono Zd) (aj (À 6) (aj (Ä 13) (aj (À 14) ae)))))) bu) (ah (cp (bF (dI (K:=K) rfl hu) (ax (aN (K:=K) rfl) T.len bB (aj (À 14) ae)) aA (bw _)) (ao (aJ (cK (pP (K:=K) rfl hu1) (À 9) (az C_readings au (hr.mono Zd) (aj (À 6) (aj (Ä 13) ae))) (by ext)))) bu) (ao (aJ (cK (dI (K:=K) rfl hu) (az C_readings au (hr.mono Zd) (aj (À 6) (aj (Ä 13) ae))) (cR (aj (À 9) ae)) (bw _))))))))))))))))))),?_⟩;have big:∀ {u:Nat},u<=1000->u<=sizeLine:=fun hu=>aM (ak ⋯);grind;refine⟨a,ns,0,rfl,hS,Zd,?_⟩;generalize ns.getD (0:Int).toNat 0=c0;refine⟨c0,rfl,fun P q al ws r H1 s1 hP ok=>?_⟩;obtain⟨hP1,hP2⟩:=hP;have g3:=ok.a3;have g26:=ok.a26;have w3:=ok.w3;have w8:=ok.w8;symm;refine⟨_,.l hP1,rfl,?_⟩;symm;cbv;grind;refine⟨_,.inl (.l hP2),fun qn H2 hqn s2 hq2=>?_⟩;refine fun ca cd H3 hca hcd hcc s3 h3a h3d=>?_;have hq3:=s3 _ _ hq2;refine Es h3a hq3 ok fun H4 s4 c4=>⟨rfl,?_⟩;have n14:a9 H1 H4:=fun b o e=>by
  have hb:b≠ca:=fun e2=>by rw[←e2,s2 _ _ e] at hca;cases hca
  exact s4 b o hb (s3 _ _ (s2 _ _ e))
 have n04:=s1.trans n14;have hS4:Æ K H4 a (ns.map V.int):=n04.seq hS;have hT4:=n04 _ _ hT;clear hq3 h3a h3d s3 s4 hca hcd hcc hq2 s2 hqn n14 hP1 hP2 s1 n04 H1 H2 H3;cbv;grind;refine⟨a,ns,1,rfl,hS4,Zd,?_⟩;generalize ns.getD (1:Int).toNat 0=c1;cbv;grind;refine⟨ca,al,ws,r,c1,rfl,c4,ok,hT4,fun b dn de es H5 s5 B e1 e13 en ek=>?_⟩;have hes:∀ e∈es,qH e.key/\0<=e.num/\e.num<bI al ws:=fun e he=>by obtain⟨j,m,hj,m1,m4,ee⟩:=ek e he;exact⟨by rw[ee];exact Hj ⋯ m1 m4,en e he⟩
 have c5:=c4.same s5;have hS5:=s5.seq hS4;cbv;grind;refine⟨c1,49,rfl,Zd,?_⟩;have y0:0<=jm c1 49%2147483629%20:=⋯
 have y1:jm c1 49%2147483629%20<20:=⋯
 generalize jm c1 49%2147483629=yy at y0 y1;symm;refine⟨Zd,?_⟩;obtain⟨mn,hmn⟩:=cY (a:=1+yy%20) ⋯;rw[hmn];have m1:1<=mn:=⋯
 have m20:mn<=20:=⋯
 clear hmn y0 y1;cbv;grind;have cutI:∀ lo hi,∃ l:Zb,oX (ns.map V.int) lo hi=l.map V.int/\⇑l<=⇑ns:=fun lo hi=>by unfold oX;rw[←iw,←iy];refine⟨_,rfl,?_⟩;rw[bK,cq];left
 obtain⟨l1,el1,ll1⟩:=cutI (some 2) (some (2+(mn:Int)));refine⟨_,hS5,fun p1 H6 hp1 s6 h6=>⟨big Zd,fun p2 H7 hp2 s7 h7=>⟨_,_,s7 _ _ h6,h7,by rw[el1,af];exact big (by simp;left),fun p3 H8 hp3 s8 h8=>?_⟩⟩⟩;rw[el1,show l1.map V.int++[V.int 0]=(l1++[0]).map V.int by rw[bM];rfl] at h8;refine⟨_,.of h8,fun p4 H9 hp4 s9 h9=>?_⟩;rw[kK,←iy] at h9;have s59:=s6.trans (s7.trans (s8.trans s9));have cl:⇑((l1++[0]).take mn)=min mn (⇑l1+1):=by rw[bK,aF];rfl
 generalize (l1++[0]).take mn=cells at h9 cl;refine⟨b,ca,dn,de,p4,es,cells,rfl,B.same s59,e1,⋯,h9,⋯,fun D1 gs H10 hD1 s10 h10 gl hgs=>?_⟩;have s510:=s59.trans s10;have hgb:∀ g∈gs,0<=g/\g<bI al ws:=fun g hg=>by obtain⟨e,he,rfl⟩:=aK.mp (hgs g hg);exact en e he
 cbv;obtain⟨grp,hgr1,hgr2⟩:=FZ hgs;have grl:⇑grp=⇑gs:=by rw[←hgr2,af]
 obtain⟨wd,hwd1,hwd2⟩:=HH (s:=[]) (fun e he=>ek e (hgr1 e he)) (by show 0+⇑grp<=60;left);have say:qY ((gs.map V.int).map (Õ es))=.inr wd:=Kc B.nn hgr1 hgr2 hwd1 fun z=>by rw[z] at hwd2;have:(0:Nat)=⇑grp:=hwd2;left
 have B10:=B.same s510;have c10:=c5.same s510;have hS10:=s510.seq hS5;clear h9 h8 h7 h6 s9 s8 s7 s6 s59 hp1 hp2 hp3 hp4 hgr1 hgr2 hwd1 hwd2 hD1 c4 c5 hS4 hS5 B s510 s10 s5 hT4 en e1 e13;have htg:∀ x∈gs.map V.int,∃ t,eZ H10 x=some t:=fun x hx=>by obtain⟨n,_,rfl⟩:=aK.mp hx;exact⟨.int,rfl⟩
 grind;refine⟨b,ca,dn,de,D1,es,_,al,ws,r,rfl,B10,c10,ok,hes,h10,by rw[af];left,htg,fun wd' hw' H11 s11=>?_,fun n hn=>by rw[say] at hn;cases hn⟩;rw[say] at hw';cases hw';cbv;grind;have B11:=B10.same s11;have c11:=c10.same s11;refine⟨b,ca,dn,de,D1,es,_,al,ws,r,rfl,B11,c11,ok,hes,s11 _ _ h10,by rw[af];left,(fun x hx=>by obtain⟨n,_,rfl⟩:=aK.mp hx;exact⟨.int,rfl⟩),fun wd' hw' gs' eg hg' pw H12 hpw s12 h12=>?_,fun n hn=>by rw[say] at hn;cases hn⟩;have eg':gs=gs':=(List.map_inj_right (fun a b h=>V.int.inj h)).mp eg;subst eg';clear hg' eg hw';cbv;have s1012:=s11.trans s12;grind;refine⟨ca,D1,al,ws,r,gs,rfl,c10.same s1012,ok,s1012 _ _ h10,⋯,hgb,fun pw2 H13 hpw2 s13 h13=>?_⟩;refine⟨_,_,.of (s13 _ _ h12),.of h13,iK _,iK _,?_⟩;rw[oK _ (iK _)];bv_omega;cbv;have s1013:=s1012.trans s13;have zfull:vS al ws r gs=(gs++[(gs.sum+(⇑gs:Int))%bI al ws]).map (we al ws r):=by unfold vS;rw[bM];rfl
 obtain⟨zs,ez⟩:∃ zs,vS al ws r gs=zs:=⟨_,rfl⟩;rw[ez] at h12 zfull;have hmany:0<bI al ws:=Int.pow_pos ⋯;have ckb:0<=(gs.sum+(⇑gs:Int))%bI al ws/\(gs.sum+(⇑gs:Int))%bI al ws<bI al ws:=⟨bY _ ⋯,bZ _ hmany⟩;have txs:=Ic (M:=bI al ws) say;have zl:⇑zs=⇑gs+1:=by rw[zfull,af,aF];rfl
 obtain⟨nst,ens⟩:∃ nst,gs++[(gs.sum+(⇑gs:Int))%bI al ws]=nst:=⟨_,rfl⟩;rw[ens] at txs zfull;have nl:⇑nst=⇑zs:=by rw[zfull,af]
 have nb:∀ n∈nst,0<=n/\n<bI al ws:=fun n hn=>by
  rw[←ens] at hn;rcases bG.mp hn with hn | hn
  ·exact hgb n hn
  ·rw[b9.mp hn];exact ckb
 have nin:∀ (i:Nat) n,nst[i]?=some n->i+1<⇑zs->n∈es.map (·.num):=fun i n hn hi=>by rw[←ens,iU ⋯] at hn;exact hgs n (bL hn)
 have zat:∀ (i:Nat) z,zs[i]?=some z->∃ n,nst[i]?=some n/\z=we al ws r n/\i6 al z=n:=fun i z hz=>by rw[zfull,aS] at hz;obtain⟨n,hn,rfl⟩:=eh.mp hz;have:=nb n (bL hn);exact⟨n,hn,rfl,Nr ok this.1 this.2⟩
 have zgd:∀ z∈zs,GoodW al ws r z:=fun z hz=>by rw[zfull] at hz;obtain⟨n,_,rfl⟩:=aK.mp hz;exact Ni ok
 have zin:∀ (i:Nat) z,zs[i]?=some z->i+1<⇑zs->i6 al z∈es.map (·.num):=fun i z hz hi=>by obtain⟨n,hn,_,e⟩:=zat i z hz;rw[e];exact nin i n hn hi
 have zwd:∀ z∈zs,yE al z:=fun z hz=>(zgd z hz).wd ok;have z2:2<=⇑zs:=⋯
 have z21:⇑zs<=21:=⋯
 have zsnd:∀ (i:Nat) z,zs[i]?=some z->jw al ws r es ⇑zs i z=true:=fun i z hz=>by
  unfold jw;rw[(zgd z (bL hz)).good ok,dq,oW,bN,bN];have:=(br.mp hz).1
  by_cases h:i+1<⇑zs
  ·exact .inr (zin i z hz h)
  ·exact .inl ⋯
 have B13:=B10.same s1013;have c13:=c10.same s1013;have hS13:=s1013.seq hS10;have h13':=s13 _ _ h12;clear h13 h12 s13 s12 s11 s1013 s1012 hpw hpw2 B10 B11 c10 c11 hS10 h10 ez hgb ckb say htg hgs;grind;refine⟨_,.l h13',_,.l h13',c1,52,rfl,Zd,?_⟩;have y0:0<=jm c1 52%2147483629%2:=⋯
 have y1:jm c1 52%2147483629%2<2:=⋯
 generalize jm c1 52%2147483629=yy at y0 y1;rw[af];symm;refine⟨Zd,⟨ft (show ((⇑zs:Int)).natAbs<=1000 by left) Zd,ft (show (yy%2).natAbs<=1000 by left) Zd⟩,?_⟩;obtain⟨fw,hfw,f1,f2⟩:∃ fw:Nat,min (⇑zs:Int) (2+(⇑zs:Int)*(yy%2))=(fw:Int)/\1<=fw/\fw<=1000:=by
  have hy:yy%2=0∨yy%2=1:=⋯
  rcases hy with e | e
  ·rw[e];exact⟨2,⋯,Zd,Zd⟩
  ·rw[e];exact⟨⇑zs,⋯,⋯,⋯⟩
 rw[hfw,hN];clear hN nn hfw y0 y1 yy;grind;obtain⟨l2,el2,ll2⟩:=cutI (some (2+(mn:Int))) (some 84);refine⟨_,hS13,fun p5 H14 hp5 s14 h14=>?_⟩;rw[el2] at h14;refine .inl ⟨⟨_,.of h14⟩,LU (cT (.of h14)) (by rw[af];exact ak ⋯) (fun o=>∃ f,o=.tup (FP f)/\0<=f.n/\0<=f.s/\f.s<4) (fun ys h=>by obtain⟨f,e,_⟩:=h;cases e) ?_ ?_⟩
 ·intro x hx G1 t1 R hR;obtain⟨c,_,rfl⟩:=aK.mp hx;symm;refine⟨c,fw,rfl,f1,f2,fun p f G2 hp t2 h2 hn hs=>hR p _ G2 t2 h2 ⟨f,rfl,hn,hs⟩⟩
 intro pf fv H15 hpf s15 h15 lfv hfv;obtain⟨fs,hfs,hf⟩:=za hfv;rw[af] at lfv;have lfs:⇑fs<=63:=by have:=fM hfs;left
 have hf2:∀ f∈fs,0<=f.n/\f.s≠61:=fun f h=>⟨(hf f h).1,by have:=(hf f h).2;left⟩;have s1315:=s14.trans s15;have B15:=B13.same s1315;have c15:=c13.same s1315;have hz15:=s1315 _ _ h13';clear h14 hp5 s14 s15 hpf hfv lfv hS13 B13 c13 h13' s1315 f1 f2;cbv;grind;refine⟨b,ca,dn,de,pw,pf,es,al,ws,r,zs,fv,fs,rfl,B15,c15,ok,hz15,zgd,⋯,⋯,zin,h15,hfs,⋯,hf2,fun tt pk ps svs H16 htt hpk hps s16 h16 hk16 hs16 hss=>?_⟩;symm;refine⟨_,_,.t h16,df (j:=0) rfl,?_⟩;have gw:∀ {z:Za},Mk.bW al ws r z=true->Mk.bE al ⇑ws z=true:=fun h=>by unfold Mk.bW at h;rw[bT] at h;exact h.1
 have zw:∀ z∈zs,Mk.bE al ⇑ws z=true:=fun z hz=>gw ((zgd z hz).good ok);have db0:Ï al ws r es zs=[]:=by
  cases h:Ï al ws r es zs with
  | nil=>rfl
  | cons i l =>obtain⟨z,hz,h2⟩:=sC.mp (show i∈Ï al ws r es zs by rw[h];exact aR);rw[zsnd i z hz] at h2;cases h2
 have rd0:ó al ws r es zs nst:=⟨nl,fun i z hz=>⟨fun _=>by obtain⟨n,hn,_,e⟩:=zat i z hz;rw[e];exact hn,fun h=>by rw[zsnd i z hz] at h;cases h⟩⟩;refine uA (B15.same s16) (c15.same s16) ok hes hk16 z2 ⋯ zw (fun h=>by rw[db0] at h;cases h) fun _ D ts H17 hD s17 h17 hnd hsrt hmem=>?_;have ets:=CZ ok zw (by rw[db0];exact bc _) rd0 txs hnd.1 hmem;rw[ets] at h17;clear ets hnd hsrt hmem rd0 db0 hD htt hpk hps hss hs16 hk16 h16;refine⟨big Zd,fun p6 H18 hp6 s18 h18=>?_⟩;have e1:[V.str (tx (Mk.fK 32 wd))]=[Mk.fK 32 wd].map É:=rfl;symm;refine⟨_,_,.of (s18 _ _ h17),.of h18,iK _,rfl,?_⟩;rw[e1,oK _ (iK _)];bv_omega;rw[hN];clear hN nn h17 h18 hp6;have s1518:=s16.trans (s17.trans s18);have B18:=B15.same s1518;have c18:=c15.same s1518;have hz18:=s1518 _ _ hz15;have h18f:=s1518 _ _ h15;have hfs18:=hfs.same s1518;clear B15 c15 hz15 h15 hfs s16 s17 s18;grind;refine⟨ca,pw,pf,al,ws,r,0,zs,fv,fs,rfl,c18,hz18,zwd,⋯,h18f,hfs18,⋯,fun f h=>(hf f h).1,fun pc H19 hpc s19 h19=>?_⟩;have cml:=se al fs 0 zs;have cat:∀ (i:Nat) c,(iJ al fs 0 zs)[i]?=some c->∃ z,zs[i]?=some z/\∃ o,c=j8 al z o:=fun i c hc=>by
  have hi:i<⇑zs:=by rw[←cml];exact (br.mp hc).1
  rw[sd hi,aT,aD hi] at hc;exact⟨zs[i],aD hi,_,(Option.some.inj hc).symm⟩
 generalize iJ al fs 0 zs=cms at h19 cml cat
 have csn:∀ (i:Nat) c z,cms[i]?=some c->zs[i]?=some z->jw al ws r es ⇑cms i c=decide (c=z):=fun i c z hc hz=>by
  obtain⟨z',hz',o,rfl⟩:=cat i c hc;rw[hz] at hz';cases hz'
  by_cases e:j8 al z o=z
  ·rw[a8 e,e,cml];exact zsnd i z hz
  ·rw[ay e];unfold jw;rw[wF ok (zgd z (bL hz)) e,gq]
 have cw:∀ c∈cms,Mk.bE al ⇑ws c=true:=fun c hc=>by
  obtain⟨i,hi⟩:=oh hc;obtain⟨z,hz,o,rfl⟩:=cat i c hi;rcases Cp ok (zgd z (bL hz)) o with e | ⟨ps,y,_,pl,pm,_,e,hy⟩
  ·rw[e];exact zw z (bL hz)
  ·obtain⟨yl,ym⟩:=pH pm y hy;rw[e];exact qB (by rw[yl,pl]) ym
 have rdc:ó al ws r es cms nst:=by
  refine⟨by rw[nl,cml],fun i c hc=>?_⟩;obtain⟨z,hz,o,rfl⟩:=cat i c hc;obtain⟨n,hn,_,en⟩:=zat i z hz;rw[csn i _ z hc hz];refine⟨fun h=>by rw[jc h,en];exact hn,fun h=>?_⟩;have hne:=of_decide_eq_false h;rcases Cp ok (zgd z (bL hz)) o with e | ⟨ps,y,rfl,pl,pm,pg,e,hy⟩
  ·exact absurd e hne
  ·obtain⟨yl,ym⟩:=pH pm y hy;have enm:Mk.numOf ⇑al ps.dropLast=n:=by
    rw[←en];unfold i6;have e3:(Mk.bD al ps).dropLast=Mk.bD al ps.dropLast:=by unfold Mk.bD;rw[List.map_dropLast]
    rw[e3,Mk.jz ok.nd fun p hp=>pm p (ip _ hp)]
   refine⟨ps,?_,pg,?_,by rw[enm];exact hn⟩
   ·rw[e,Mk.jz ok.nd ym];exact Jn pm hy
   ·rw[enm,cml]
    by_cases hl:i+1<⇑zs
    ·exact .inr (nin i n hn hl)
    ·have:=(br.mp hz).1;exact .inl ⋯
 have dbe:Ï al ws r es cms=(List.range ⇑zs).filter fun i=>!decide (cms.getD i []=zs.getD i []):=by
  unfold Ï;rw[cml];refine List.filter_congr fun i hi=>?_;have hi':=cb.mp hi;have hc:cms[i]?=some (cms.getD i []):=by rw[aT,aD ⋯];rfl
  have hz:zs[i]?=some (zs.getD i []):=by rw[aT,aD hi'];rfl
  have:=csn i _ _ hc hz;rw[cml] at this;rw[this]
 cbv;grind;have hz19:=s19 _ _ hz18;refine⟨_,.l hz19,?_⟩;rw[af];refine⟨⋯,(by omega),zi V.int hU (yu ⇑zs) (by rw[Mk.qP];exact ak ⋯) (fun x=>!decide (cms.getD x.toNat []=zs.getD x.toNat [])) V.int ?_ ?_ ?_⟩
 ·intro x hx G2 t2 R hR;obtain⟨x0,x1⟩:=Mk.hX.mp hx;obtain⟨i,rfl⟩:=cY x0;have hi:i<⇑zs:=⋯
  rw[c8] at hR;have hc:cms[i]?=some (cms.getD i []):=by rw[aT,aD ⋯];rfl
  have hz:zs[i]?=some (zs.getD i []):=by rw[aT,aD hi];rfl
  symm;refine⟨_,_,.l (t2 _ _ h19),df (j:=i) (by rw[aS,hc];rfl),_,_,.l (t2 _ _ hz19),df (j:=i) (by rw[aS,hz];rfl),?_⟩;unfold É;symm;rw[Ca];exact hR G2 (a9.refl _)
 ·intro x hx _ G2 t2 R hR;symm;exact hR G2 (a9.refl _)
 intro D7 H20 hD7 s20 h20;have e20:((Mk.Ù ⇑zs).filter fun x=>!decide (cms.getD x.toNat []=zs.getD x.toNat [])).map V.int=(Ï al ws r es cms).map jo:=by rw[dbe];unfold Mk.Ù;rw[List.filter_map,aW];rfl
 rw[e20] at h20;clear e20 dbe csn cat hD7;cbv;have s1820:=s19.trans s20;have B20:=B18.same s1820;have c20:=c18.same s1820;have h19':=s20 _ _ h19;grind;refine⟨_,.l h20,?_⟩;rw[af]
 by_cases h3:2<⇑(Ï al ws r es cms)
 ·rw[a8 (show (2:Int)<(⇑(Ï al ws r es cms):Int) by left)];symm;exact⟨b,ca,dn,de,pc,D7,es,al,ws,r,cms,rfl,B20,c20,ok,hes,h19',⋯,⋯,cw,h3,h20,fun H' _=>k H'⟩
 rw[ay (show ¬ (2:Int)<(⇑(Ï al ws r es cms):Int) by left)];bv_omega;show nn _ _ _;cbv;grind;refine⟨_,.l h20,?_⟩;rw[af]
 by_cases h2:⇑(Ï al ws r es cms)=2
 ·rw[a8 (show (⇑(Ï al ws r es cms):Int)=2 by left)];symm;refine uA B20 c20 ok hes h19' ⋯ ⋯ cw (fun h=>absurd h h3) fun _ D ts H21 hD s21 h21 hnd hsrt hmem=>?_;symm;refine .inl ⟨_,.l h21,rfl,iK _,?_⟩;have ein:ÿ (V.str (tx (Mk.fK 32 wd))) (ts.map É)=true:=by
   have e2:ts.map É=(ts.map tx).map V.str:=by rw[aW];rfl
   rw[e2,Gg,a8 (iZ ((hmem _).mpr ⟨nst,rdc,txs⟩))]
  rw[ein];exact k H21
 rw[ay (show ¬ (⇑(Ï al ws r es cms):Int)=2 by left)];bv_omega;show nn _ _ _;cbv;symm;refine uA B20 c20 ok hes h19' ⋯ ⋯ cw (fun h=>absurd h h3) fun _ D ts H21 hD s21 h21 hnd hsrt hmem=>?_;have ets:=CZ ok cw ⋯ rdc txs hnd.1 hmem;rw[ets] at h21;refine⟨big Zd,fun p6 H22 hp6 s22 h22=>?_⟩;symm;refine⟨_,_,.of (s22 _ _ h21),.of h22,iK _,rfl,?_⟩;rw[e1,oK _ (iK _)];exact k H22
end
local macro_rules | `(∅) => `(by first | exact fun _ _ _ _ _ _=>L2.bind1 fun _=>rfl | exact fun _ _ _ _ _ _=>L2.cO fun _ _=>rfl | exact fun _ _ _ _ _ _=>L2.mH fun _ _ _=>rfl | exact fun _ _ _ _ _ _=>L2.wx fun _ _ _ _=>rfl)
open PySem.W in
theorem all_mk {l:OpenLaw}{w:Zi}{K:Zf}{h:Heap}{mg:Zk}{fa:Addr}{aa ab ad ae af ag ah ai aj ak al am an:Addr}{f0 f1 f13 f46 f48 f66:Addr} (X:K.In h) (G:h.Ns mainGlobals mg) (hfa:mg "law"=some (.ref fa)){od0 an0 od1 an1 od13 an13 od46 an46 od48 an48 od66 an66:Option Addr}{sl0 sl1 sl13 sl46 sl48 sl66:Array (Option Value)}{oc0 kV0 dc0 pm0 cd0 ct0 oc1 kV1 dc1 pm1 cd1 ct1 oc13 kV13 dc13 pm13 cd13 ct13 oc46 kV46 dc46 pm46 cd46 ct46 oc48 kV48 dc48 pm48 ct48 oc66 kV66 dc66 pm66 cd66 ct66:Value}(y0:nsIn K mainGlobals "Code"=some (some (.ref aa)))(y1:nsIn K mainGlobals "Book"=some (some (.ref ab)))(y2:nsIn K mainGlobals "CableError"=some (some (.ref ad)))(y3:nsIn K mainGlobals "NoCode"=some (some (.ref ae)))(y4:nsIn K mainGlobals "NoNumber"=some (some (.ref af)))(y5:nsIn K mainGlobals "NoWord"=some (some (.ref ag)))(y6:nsIn K mainGlobals "NoEntry"=some (some (.ref ah)))(y7:nsIn K mainGlobals "Twice"=some (some (.ref ai)))(y8:nsIn K mainGlobals "TooMany"=some (some (.ref aj)))(y9:nsIn K mainGlobals "NoReading"=some (some (.ref ak)))(ch:nsIn K mainGlobals "TooGarbled"=some (some (.ref al)))(a0:findIn K (.ref ak) "__init__"=some (some (.ref f0)))(i0:isFn K (.ref f0)=true)(l0:K.lookup f0=some ⟨oc0,od0,.func (fnOf "__init__" "NoReading.__init__" (dg dF) (cQ dF) (aw dF) .none kV0 dc0 pm0 an0 cd0 ct0),sl0⟩)(c0:codeIn K cd0 "NoReading.__init__"=true)(k0:keepIn K (.ref f0)=true)(a1:findIn K (.ref al) "__init__"=some (some (.ref f1)))(i1:isFn K (.ref f1)=true)(l1:K.lookup f1=some ⟨oc1,od1,.func (fnOf "__init__" "TooGarbled.__init__" (dg dj) (cQ dj) (aw dj) .none kV1 dc1 pm1 an1 cd1 ct1),sl1⟩)(c1:codeIn K cd1 "TooGarbled.__init__"=true)(k1:keepIn K (.ref f1)=true)(d2:cV K "is_whole" qf)(d3:cV K "common_divisor" iD)(d4:cV K "are_safe" pW)(d5:cV K "is_alphabet" kY)(d6:cV K "is_below" pZ)(d7:cV K "are_weights" kU)(d8:cV K "is_word" sP)(d9:cV K "places_of" n9)(ci:cV K "spelled" sR)(cj:cV K "are_good" pV)(ck:cV K "is_good" sO)(cl:findIn K (.ref aa) "__init__"=some (some (.ref f13)))(cm:isFn K (.ref f13)=true)(cn:K.lookup f13=some ⟨oc13,od13,.func (fnOf "__init__" "Code.__init__" (dg gX) (cQ gX) (aw gX) .none kV13 dc13 pm13 an13 cd13 ct13),sl13⟩)(co:codeIn K cd13 "Code.__init__"=true)(cp:keepIn K (.ref f13)=true)(cq:pA K aa "alphabet" "Code.alphabet" jf)(cr:pA K aa "weights" "Code.weights" jE)(cs:pA K aa "many" "Code.many" ni)(ct:pA K aa "word" "Code.word" nj)(cu:pA K aa "number" "Code.number" kS)(cv:pA K aa "has_good" "Code.has_good" jg)(cw:cV K "by_exchange" kX)(cx:cV K "by_swap" sM)(cy:cV K "faulty" vA)(cz:cV K "nearest" sQ)(cB:cV K "with_each" nA)(cC:cV K "are_letters" kT)(cD:cV K "are_words" nq)(cE:cV K "can_stand" nr)(cF:cV K "said" BJ)(cG:cV K "check_number" jH)(cH:cV K "check_of" pX)(cI:cV K "telegram" qp)(cJ:cV K "is_sound" qd)(cK:cV K "are_words_of" jF)(cL:cV K "doubtful" pY)(cM:cV K "may_stand" nz)(cN:cV K "text_of" sT)(cP:cV K "readings" qo)(cR:cV K "exchanged" nt)(cS:cV K "swapped" sS)(cT:cV K "first_faults" jI)(cU:cV K "as_it_comes" kW)(cW:cV K "as_they_come" jG)(cX:cV K "garbled" sN)(cY:cV K "got_across" mz)(cZ:cV K "is_entry" qa)(c2:findIn K (.ref ab) "__init__"=some (some (.ref f46)))(c3:isFn K (.ref f46)=true)(c4:K.lookup f46=some ⟨oc46,od46,.func (fnOf "__init__" "Book.__init__" (dg gW) (cQ gW) (aw gW) .none kV46 dc46 pm46 an46 cd46 ct46),sl46⟩)(c5:codeIn K cd46 "Book.__init__"=true)(c6:keepIn K (.ref f46)=true)(c7:pA K ab "code" "Book.code" nh)(c8:findIn K (.ref ab) "put"=some (some (.ref f48)))(c9:isFn K (.ref f48)=true){dt48:Addr}{tc48:Value}{td48:Option Addr}{tn48:Nat}{ts48:Array (Option Value)}(da:K.lookup f48=some ⟨oc48,od48,.func (fnOf "put" "Book.put" (dg dw) (cQ dw) (aw dw) (.ref dt48) kV48 dc48 pm48 an48 (.ref am) ct48),sl48⟩)(db:K.lookup dt48=some ⟨tc48,td48,.seq #[.none] tn48,ts48⟩)(dc:codeIn K (.ref am) "Book.put"=true)(dd:keepIn K (.ref f48)=true)(de:pA K ab "choose" "Book.choose" kP)(df:pA K ab "least_free" "Book.least_free" ia)(dh:pA K ab "entry" "Book.entry" my)(di:pA K ab "entries" "Book.entries" jD)(dk:cV K "_law_cell_at" kZ)(dl:cV K "_law_long" qj)(dm:cV K "_law_mixed" ny)(dn:cV K "_law_divisor" lg)(dp:cV K "_law_alphabet" jJ)(dq:cV K "_law_safe" qk)(dr:cV K "_law_weights" lh)(ds:cV K "_law_code" qi)(dt:cV K "_law_book" qh)(du:cV K "_law_groups" m5)(dv:cV K "_law_telegram" jK)(dx:cV K "_law_fault" nv)(dy:cV K "_law_too_garbled" ib)(dz:nsIn K mainGlobals "law"=some (some (.ref f66)))(dB:K.lookup f66=some ⟨oc66,od66,.func (fnOf "law" "law" (dg qX) (cQ qX) (aw qX) .none kV66 dc66 pm66 an66 cd66 ct66),sl66⟩)(dC:codeIn K cd66 "law"=true)(dD:keepIn K (.ref f66)=true)(dE:plainGet K aa Str.empty=true)(dG:hasDictIn K aa=true)(dH:plainOver K aa=true)(dI:findIn K (.ref aa) "__setattr__"=some (some (.builtin "object.__setattr__")))(dJ:makesIn K aa=true)(dK:keepIn K (.ref aa)=true)(dL:findIn K (.ref aa) "letters"=some none)(dM:findIn K (.ref aa) "factors"=some none)(dN:findIn K (.ref aa) "remainder"=some none)(dO:plainGet K ab Str.empty=true)(dP:hasDictIn K ab=true)(dQ:plainOver K ab=true)(dR:findIn K (.ref ab) "__setattr__"=some (some (.builtin "object.__setattr__")))(dS:makesIn K ab=true)(dT:keepIn K (.ref ab)=true)(dU:findIn K (.ref ab) "basis"=some none)(dV:findIn K (.ref ab) "by_number"=some none)(dW:findIn K (.ref ab) "by_entry"=some none)(dX:excIn K ae Zv "ValueError.__new__"=true)(dY:excIn K af Zv "ValueError.__new__"=true)(dZ:excIn K ag Zv "ValueError.__new__"=true)(d0:excIn K ah Zv "ValueError.__new__"=true)(d1:excIn K ai Zv "ValueError.__new__"=true)(ea:excIn K aj Zv "ValueError.__new__"=true)(eb:specialIn K (.ref ad) "__getattribute__"=some (some (.builtin "type.__getattribute__")))(ec:readsIn K ad (.type "type")=true)(ed:findCls K (.ref ad) (.type "type") "__init__"=some (.val (.builtin "ValueError.__init__"))){ao ap:Str}{aq:Addr}{ar as au:Zc}{av ax:Bool}{ay:Ze}{az:Option Bool}{aA:Option Addr}{aB aC aD aE aF:Option Value}(ee:K.lookup ak=some (excClassObj ao ap ak aq ar as av ay au ax az aA aB aC aD aE aF "ValueError.__new__"))(ef:nsOkIn K aq=true)(eg:nsIn K aq "__init__"=some (some (.ref f0)))(eh:tailIn K Je as=true)(ei:keepIn K (.ref ak)=true)(ej:findIn K (.ref ak) "__setattr__"=some (some (.builtin "object.__setattr__")))(ek:((clsIn K ak).any fun cd=>pG cd.mro)=true)(el:takerIn K ak "at"=some none)(em:hasDictIn K ak=true)(en:findIn K (.ref ak) "at"=some none){aG aH:Str}{aI:Addr}{aJ aK aL:Zc}{aM aN:Bool}{aO:Ze}{aP:Option Bool}{aQ:Option Addr}{aR aS aT aU aV:Option Value}(eo:K.lookup al=some (excClassObj aG aH al aI aJ aK aM aO aL aN aP aQ aR aS aT aU aV "ValueError.__new__"))(ep:nsOkIn K aI=true)(eq:nsIn K aI "__init__"=some (some (.ref f1)))(er:tailIn K Je aK=true)(es:keepIn K (.ref al)=true)(et:findIn K (.ref al) "__setattr__"=some (some (.builtin "object.__setattr__")))(eu:((clsIn K al).any fun cd=>pG cd.mro)=true)(ev:takerIn K al "places"=some none)(ew:hasDictIn K al=true)(ex:findIn K (.ref al) "places"=some none)(ey:exmOne K (.ref ak) (.ref ak)=some true)(ez:exmOne K (.ref al) (.ref al)=some true)(eA:codeHdIn K am an=true)(eB:xD K ad [ae,af,ag,ah,ai,aj,ak,al]=true)(eC:đ [ae,af,ag,ah,ai,aj,ak,al]=true){aW:Value}(eD:nsIn K mainGlobals "SMALL_LETTERS"=some (some aW))(eE:RelV (.str "abcdefghijklmnopqrstuvwxyz") aW){aX:Value}(eF:nsIn K mainGlobals "LONGEST_WORD"=some (some aX))(eG:RelV (.int 20) aX){aY:Value}(eH:nsIn K mainGlobals "MOST_WORDS"=some (some aY))(eI:RelV (.int 60) aY){aZ:Value}(eJ:nsIn K mainGlobals "FEWEST_CAME"=some (some aZ))(eK:RelV (.int 2) aZ){a2:Value}(eL:nsIn K mainGlobals "MOST_CAME"=some (some a2))(eM:RelV (.int 1400) a2){a3:Value}(eN:nsIn K mainGlobals "MOST_DOUBTFUL"=some (some a3))(eO:RelV (.int 2) a3){a4:Value}(eP:nsIn K mainGlobals "MOST_ENTRIES"=some (some a4))(eQ:RelV (.int 300) a4){a5:Value}(eR:nsIn K mainGlobals "MOST_PHRASE_WORDS"=some (some a5))(eS:RelV (.int 6) a5){a6:Value}(eT:nsIn K mainGlobals "MOST_PART_LETTERS"=some (some a6))(eU:RelV (.int 6) a6)(eV:nsIn K mainGlobals "list"=some none)(eW:nsIn K mainGlobals "isinstance"=some none)(eX:nsIn K mainGlobals "bool"=some none)(eZ:nsIn K mainGlobals "int"=some none)(e0:nsIn K mainGlobals "abs"=some none)(e1:nsIn K mainGlobals "all"=some none)(e2:nsIn K mainGlobals "zip"=some none)(e3:nsIn K mainGlobals "len"=some none)(e4:nsIn K mainGlobals "set"=some none)(e5:nsIn K mainGlobals "str"=some none)(e6:nsIn K mainGlobals "sum"=some none)(e7:nsIn K mainGlobals "range"=some none)(e8:nsIn K mainGlobals "enumerate"=some none)(e9:nsIn K mainGlobals "sorted"=some none)(fb:nsIn K mainGlobals "tuple"=some none)(fc:nsIn K mainGlobals "min"=some none): (∃ c,codeHdIn K c an=true)/\∃ fd:FuncData,(∀ (s:Zg) (v:Value),BindsTo s fd ⟨[v],[]⟩ [("_law_script",v)])/\∀ base:Heap,K.In base->base.Ns mainGlobals mg->bR l.prog w K mg base (Á l.prog w) 9 fa fd ["_law_script"] (BS K an):=by
 have e:=hfa.symm.trans (cA X G dz);cases e;have T:Bl mg:=⟨dA X G eV,dA X G eW,dA X G eX,dA X G eZ,dA X G e0,dA X G e1,dA X G e2,dA X G e3,dA X G e4,dA X G e5,dA X G e6,dA X G e7,dA X G e8,dA X G e9,dA X G fb,dA X G fc⟩;have AF:È K mg ⟨aa,ab,ad,ae,af,ag,ah,ai,aj,ak,al,am,an,()⟩:=⟨cA X G y0,cA X G y1,cA X G y2,cA X G y3,cA X G y4,cA X G y5,cA X G y6,cA X G y7,cA X G y8,cA X G y9,cA X G ch,⟨dE,dG,dH,dI⟩,dL,dM,dN,⟨dO,dP,dQ,dR⟩,dU,dV,dW,dX,dY,dZ,d0,d1,ea,⟨eb,ec,ed⟩,⟨_,⟨⟨_,_,_,_,_,_,_,_,_,_,_,_,_,_,_,_,ee,ef,eg,eh⟩,i0,ei⟩⟩,⟨ej,ek,el,em⟩,en,⟨_,⟨⟨_,_,_,_,_,_,_,_,_,_,_,_,_,_,_,_,eo,ep,eq,er⟩,i1,es⟩⟩,⟨et,eu,ev,ew⟩,ex,ey,ez,eA,eB,eC,⟨_,cA X G eD,eE⟩,⟨_,cA X G eF,eG⟩,⟨_,cA X G eH,eI⟩,⟨_,cA X G eJ,eK⟩,⟨_,cA X G eL,eM⟩,⟨_,cA X G eN,eO⟩,⟨_,cA X G eP,eQ⟩,⟨_,cA X G eR,eS⟩,⟨_,cA X G eT,eU⟩⟩;have F0:=pI (st:=dF) l0 c0 k0;have F1:=pI (st:=dj) l1 c1 k1;have F13:=pI (st:=gX) cn co cp;have F46:=pI (st:=gW) c4 c5 c6;have F48:=Jp (st:=dw) da dc dd;have F66:=pI (st:=qX) dB dC dD;refine⟨⟨_,eA⟩,fnOf "law" "law" (dg qX) (cQ qX) (aw qX) .none kV66 dc66 pm66 an66 cd66 ct66,fun s v=>.of_eq rfl,fun base _ _=>?_⟩;have Z {k:Nat}{x:Str}{st:Stmt}{ps:Ze}{sp:Sp}{CX:L2.Ö}:=@cV.fnc l.prog w K h base mg k x st ps sp CX X G;have Y {k:Nat}{m q:Str}{st:Stmt}{C:Addr}{ps:Ze}{sp:Sp}:=@pA.mtd l.prog w K base mg k m q st C ps sp;have b0:=F0.binds (ps:=["self","at"]) ∅;have a7:Fd l.prog w K mg base (Á l.prog w) ak "NoReading" 1 ["self","at"] (fJ (⟨aa,ab,ad,ae,af,ag,ah,ai,aj,ak,al,am,an,()⟩:Ê)):=⟨⟨f0,_,qQ F0 T AF ,⟨⟨_,_,_,_,_,_,_,_,_,_,_,_,_,_,_,_,ee,ef,eg,eh⟩,i0,ei⟩,b0⟩,AF.g_NoReading⟩;have b1:=F1.binds (ps:=["self","places"]) ∅;have a8:Fd l.prog w K mg base (Á l.prog w) al "TooGarbled" 1 ["self","places"] (eY (⟨aa,ab,ad,ae,af,ag,ah,ai,aj,ak,al,am,an,()⟩:Ê)):=⟨⟨f1,_,pM F1 T AF ,⟨⟨_,_,_,_,_,_,_,_,_,_,_,_,_,_,_,_,eo,ep,eq,er⟩,i1,es⟩,b1⟩,AF.g_TooGarbled⟩;have a9:=Z d2 (fun _ _ F=>zC F T AF ) ∅;have ba:=Z d3 (fun _ _ F=>qR F T AF ) ∅;have bb:=Z d5 (fun _ _ F=>vo F T AF ) ∅;have bc:=Z d8 (fun _ _ F=>Bs F T AF ) ∅;have bd:=Z d9 (fun _ _ F=>yg F T AF ) ∅;have be:=Z ci (fun _ _ F=>Bu F T AF ) ∅;have bf:=Z cj (fun _ _ F=>zy F T AF ) ∅;have bg:=Y AF.c_Code cq (fun _ _ F=>sE F T AF ) ∅;have bh:=Y AF.c_Code cr (fun _ _ F=>uc F T AF ) ∅;have bi:=Y AF.c_Code cs (fun _ _ F=>xY F T AF ) ∅;have bj:=Z cw (fun _ _ F=>vn F T AF ) ∅;have bk:=Z cx (fun _ _ F=>Bp F T AF ) ∅;have bl:=Z cB (fun _ _ F=>yh F T AF ) ∅;have bm:=Z cC (fun _ _ F=>vj F T AF ) ∅;have bn:=Z cE (fun _ _ F=>yb F T AF ) ∅;have bo:=Z cS (fun _ _ F=>Bv F T AF ) ∅;have bp:=Z cT (fun _ _ F=>ug F T AF ) ∅;have b46:=F46.binds (ps:=["self","code"]) ∅;have bq:ā l.prog w K mg base (Á l.prog w) ab "Book" 1 ["self","code"] (m7 (⟨aa,ab,ad,ae,af,ag,ah,ai,aj,ak,al,am,an,()⟩:Ê)):=⟨⟨f46,_,xW F46 T AF ,⟨dS,c2,c3,dT⟩,b46⟩,AF.g_Book⟩;have br:=Y AF.c_Book c7 (fun _ _ F=>xV F T AF ) ∅;have bs:=Y AF.c_Book di (fun _ _ F=>ub F T AF ) ∅;have bt:=Z dk (fun _ _ F=>vp F T AF ) ∅;have bu:=Z dl (fun _ _ F=>zF F T AF ) ∅;have bv:=Z dn (fun _ _ F=>vq F T AF ) ∅;have bw:=Z d4 (fun _ _ F=>z5 F T AF ba) ∅;have bx:=Z d6 (fun _ _ F=>z9 F T AF a9) ∅;have bz:=Z ck (fun _ _ F=>Br F T AF bf bd bc) ∅;have bA:=Z cy (fun _ _ F=>EB F T AF bj bk be bd bc bh bg) ∅;have bB:=Z cD (fun _ _ F=>ya F T AF bm) ∅;have bC:=Z cG (fun _ _ F=>uf F T AF bi) ∅;have bD:=Z cK (fun _ _ F=>ud F T AF bc bg bh) ∅;have bE:=Z cR (fun _ _ F=>yc F T AF bg) ∅;have bF:=Y AF.c_Book df (fun _ _ F=>pL F T AF bi) ∅;have bG:=Z dm (fun _ _ F=>ye F T AF bu) ∅;have bH:=Z dq (fun _ _ F=>zG F T AF bv) ∅;have bI:=Z d7 (fun _ _ F=>vk F T AF bx) ∅;have bJ:=Y AF.c_Code ct (fun _ _ F=>xZ F T AF be bf bx bi) ∅;have bK:=Y AF.c_Code cv (fun _ _ F=>sF F T AF bz) ∅;have bL:=Z cU (fun _ _ F=>vm F T AF bo bE) ∅;have bM:=Z cZ (fun _ _ F=>zA F T AF bm bB) ∅;have bN:=Y AF.c_Book dh (fun _ _ F=>vY F T AF bx bi) ∅;have bO:=Z dp (fun _ _ F=>uh F T AF bG) ∅;have bP:=Z dr (fun _ _ F=>vt F T AF bH bG) ∅;have bQ:=Z du (fun _ _ F=>wa F T AF bG bs) ∅;have bS:=Z dx (fun _ _ F=>yd F T AF bG) ∅;have b13:=F13.binds (ps:=["self","alphabet","weights","rest"]) ∅;have bT:ā l.prog w K mg base (Á l.prog w) aa "Code" 4 ["self","alphabet","weights","rest"] (ij (⟨aa,ab,ad,ae,af,ag,ah,ai,aj,ak,al,am,an,()⟩:Ê)):=⟨⟨f13,_,xX F13 T AF bw bx bI bb,⟨dJ,cl,cm,dK⟩,b13⟩,AF.g_Code⟩;have bU:=Y AF.c_Code cu (fun _ _ F=>vi F T AF bd bK) ∅;have bV:=Z cz (fun _ _ F=>Bt F T AF bA bK) ∅;have bW:=Z cF (fun _ _ F=>J6 F T AF bn bN a7) ∅;have bX:=Z cH (fun _ _ F=>z6 F T AF bC bJ) ∅;have bY:=Z cW (fun _ _ F=>ue F T AF bL) ∅;have bZ:=Y AF.c_Book de (fun _ _ F=>vh F T AF bx bM bF bi) ∅;have b2:=Z ds (fun _ _ F=>zE F T AF bG bO bP) ∅;have b3:=Z dv (fun _ _ F=>ui F T AF bJ bi) ∅;have b4:=Z cI (fun _ _ F=>zI F T AF bX bW bJ br) ∅;have b5:=Z cJ (fun _ _ F=>zB F T AF bN bU bK br) ∅;have b6:=Z cN (fun _ _ F=>Bw F T AF bW bC br) ∅;have b7:=Z cX (fun _ _ F=>Bq F T AF bY bp) ∅;have b48:Binds K (fnOf "put" "Book.put" (dg dw) (cQ dw) (aw dw) (.ref dt48) kV48 dc48 pm48 an48 (.ref am) ct48) ["self","entry","number"] []:=fun s us hK hl=>by rcases us with _ | ⟨_,_ | ⟨_,_ | ⟨_,_ | _⟩⟩⟩<;>first | (simp at hl;done) | exact .of_defaults rfl (hK _ _ db) rfl rfl rfl
 have bd48:Binds K (fnOf "put" "Book.put" (dg dw) (cQ dw) (aw dw) (.ref dt48) kV48 dc48 pm48 an48 (.ref am) ct48) ["self","entry","number"] [.none]:=fun s us hK hl=>by rcases us with _ | ⟨_,_ | ⟨_,_ | _⟩⟩<;>first | (simp at hl;done) | exact .of_defaults rfl (hK _ _ db) rfl rfl rfl
 have b8:Í l.prog w K mg base (Á l.prog w) ab "put" 5 ["self","entry","number"] (fR (⟨aa,ab,ad,ae,af,ag,ah,ai,aj,ak,al,am,an,()⟩:Ê)):=⟨⟨f48,_,tD F48 T AF rfl bZ,⟨c8,c9,dd⟩,b48⟩,AF.c_Book⟩;have b9:Lc l.prog w K mg base (Á l.prog w) ab "put" 5 ["self","entry","number"] (fR (⟨aa,ab,ad,ae,af,ag,ah,ai,aj,ak,al,am,an,()⟩:Ê)):=⟨⟨f48,_,tD F48 T AF rfl bZ,⟨c8,c9,dd⟩,bd48⟩,AF.c_Book⟩;have ca:=Z cL (fun _ _ F=>z7 F T AF b5 bD br) ∅;have cb:=Z cM (fun _ _ F=>yf F T AF bV b5 bU br) ∅;have cc:=Z cY (fun _ _ F=>vZ F T AF b5 bY bp br) ∅;have ce:=Z dt (fun _ _ F=>zD F T AF bG bN bi b8 bs b9 bq) ∅;have cf:=Z cP (fun _ _ F=>zH F T AF b6 bl cb ca bK bU br a8) ∅;have cg:=Z dy (fun _ _ F=>pN F T AF cf) ∅;exact Mc F66 T AF cf cg b7 cc bS bG b3 b4 bW bQ ce bt b2 bT
end Kb
open PySem PySem.W PyProof.Rows
local macro_rules|`(tactic| ac_rfl) => `(tactic| first|(refine' L2.Jb ?a ?l ?c ?k; (case a => k_is); (case l => k_is); (case c => k_is); (case k => k_is))|(refine' L2.Jc ?a ?i ?l ?c ?k; (case a => k_is); (case i => k_is); (case l => k_is); (case c => k_is); (case k => k_is)))
set_option maxRecDepth 100000 in
set_option maxHeartbeats 0 in
theorem Hk.NW:Hk.top.c:=by
 delta Hk.top
 dsimp only
 k_fill
 refine L2.Ii (l:=PySem.Challenge.rw_cablehouse_k29_whole_asked_again) (n:=63) (k:=9) (x:="_law_script") (CX:=fun w=>L2.Á PySem.Challenge.rw_cablehouse_k29_whole_asked_again.prog w) (sp:=fun w=>Kb.BS _ _) Kb.xO rfl Zd rfl ⟨rfl,Zd,Zd⟩ (fun w h Y=>⟨km_in_of Y,km_tabs_of Y _ (List.Mem.head _)⟩) ?F (fun w=>by ext) (fun _ _ a ns hl hS hT=>⟨a,ns,rfl,hS,hl,hT,fun _=>rfl⟩) fun _ _ _ _ _ z=>L2.wI z
 case F =>
  intro w mg fa h KX G hmg;refine' Kb.all_mk KX G hmg ?y0 ?y1 ?y2 ?y3 ?y4 ?y5 ?y6 ?y7 ?y8 ?y9 ?ch ?a0 ?i0 ?l0 ?c0 ?k0 ?a1 ?i1 ?l1 ?c1 ?k1 ?d2 ?d3 ?d4 ?d5 ?d6 ?d7 ?d8 ?d9 ?ci ?cj ?ck ?cl ?cm ?cn ?co ?cp ?cq ?cr ?cs ?ct ?cu ?cv ?cw ?cx ?cy ?cz ?cB ?cC ?cD ?cE ?cF ?cG ?cH ?cI ?cJ ?cK ?cL ?cM ?cN ?cP ?cR ?cS ?cT ?cU ?cW ?cX ?cY ?cZ ?c2 ?c3 ?c4 ?c5 ?c6 ?c7 ?c8 ?c9 ?da ?db ?dc ?dd ?de ?df ?dh ?di ?dk ?dl ?dm ?dn ?dp ?dq ?dr ?ds ?dt ?du ?dv ?dx ?dy ?dz ?dB ?dC ?dD ?dE ?dG ?dH ?dI ?dJ ?dK ?dL ?dM ?dN ?dO ?dP ?dQ ?dR ?dS ?dT ?dU ?dV ?dW ?dX ?dY ?dZ ?d0 ?d1 ?ea ?eb ?ec ?ed ?ee ?ef ?eg ?eh ?ei ?ej ?ek ?el ?em ?en ?eo ?ep ?eq ?er ?es ?et ?eu ?ev ?ew ?ex ?ey ?ez ?eA ?eB ?eC ?eD ?eE ?eF ?eG ?eH ?eI ?eJ ?eK ?eL ?eM ?eN ?eO ?eP ?eQ ?eR ?eS ?eT ?eU ?eV ?eW ?eX ?eZ ?e0 ?e1 ?e2 ?e3 ?e4 ?e5 ?e6 ?e7 ?e8 ?e9 ?fb ?fc
  (case y0|y1|y2|y3|y4|y5|y6|y7|y8|y9|ch|a0|i0|l0|c0|k0|a1|i1|l1|c1|k1=>k_is)
  (case d2|d3|d4|d5|d6|d7|d8|d9|ci|cj|ck=>ac_rfl)
  (case cl|cm|cn|co|cp=>k_is)
  (case cq|cr|cs|ct|cu|cv|cw|cx|cy|cz|cB|cC|cD|cE|cF|cG|cH|cI|cJ|cK|cL|cM|cN|cP|cR|cS|cT|cU|cW|cX|cY|cZ=>ac_rfl)
  (case c2|c3|c4|c5|c6=>k_is)
  (case c7=>ac_rfl)
  (case c8|c9|da|db|dc|dd=>k_is)
  (case de|df|dh|di|dk|dl|dm|dn|dp|dq|dr|ds|dt|du|dv|dx|dy=>ac_rfl)
  (case dz|dB|dC|dD|dE|dG|dH|dI|dJ|dK|dL|dM|dN|dO|dP|dQ|dR|dS|dT|dU|dV|dW=>k_is)
  (case dX|dY|dZ|d0|d1|ea|eb|ec|ed=>ext)
  (case ee=>k_is)
  (case ef|eg|eh|ei|ej|ek|el|em|en=>ext)
  (case eo=>k_is)
  (case ep|eq|er|es|et|eu|ev|ew|ex|ey|ez|eA|eB|eC=>ext)
  (case eD|eE|eF|eG|eH|eI|eJ|eK|eL|eM|eN|eO|eP|eQ|eR|eS|eT|eU=>first|exact⟨_,rfl⟩|k_is)
  (case eV|eW|eX|eZ|e0|e1|e2|e3|e4|e5|e6|e7|e8|e9|fb|fc=>k_is)
theorem PySem.Challenge.cw_cablehouse_k29_whole_asked_again_holds : PySem.Challenge.rw_cablehouse_k29_whole_asked_again.Holds :=
 Hk.top.go Hk.NN Hk.NO Hk.NP Hk.NQ Hk.NR Hk.NS Hk.NT Hk.NU Hk.NV Hk.NX Hk.NW
