import PyProof.Rows.All
import Wide.All
import OpenK.AllK
import Wide.FinOn
import Lean
import PyProof.EqAt
import PyProof.EqKinds
import PyProof.TupleCall
import PySem.Challenge.RW_cablehouse_k25_whole_two_faults
set_option Elab.async false
set_option linter.all false
set_option maxRecDepth 100000
local macro_rules | `(tactic| lia) => `(tactic| omega)
local macro_rules | `(tactic| nofun) => `(tactic| decide +kernel)
local macro_rules | `(tactic| ext) => `(tactic| kernel_rfl)
noncomputable abbrev Zq:=PySem.Value->PySem.Shared->Prop
noncomputable abbrev Zf:=PySem.W.Frag
noncomputable abbrev Zp:=List (PySem.Addr×PySem.Obj)
theorem Zd {p:Prop}[Decidable p] (h:decide p=true:=by rfl):p:=of_decide_eq_true h
noncomputable abbrev Zk:=PySem.Str->Option PySem.Value
noncomputable abbrev Za:=List Nat
noncomputable abbrev Zb:=List Int
noncomputable abbrev Zc:=List PySem.Value
noncomputable abbrev Ze:=List PySem.Str
noncomputable abbrev Zg:=PySem.Shared
noncomputable abbrev Zh:=PySem.Program
noncomputable abbrev Zi:=PySem.World
namespace Hd
open PySem PySem.W PyProof.Rows
theorem Ms {b1 b2 b3 a:Prop} (main:a) (hl:b1) (hw:b2) (hc:b3):a:=main
structure LX (r:Prop) where
  l1:Prop
  l2:Prop
  l3:Prop
  l4:Prop
  l5:Prop
  l6:Prop
  l7:Prop
  l8:Prop
  l9:Prop
  h:Prop
  c:Prop
  go:l1->l2->l3->l4->l5->l6->l7->l8->l9->h->c->r
theorem two {σ α β γ:Type}{x:Zi->OsState->Option σ}{as:List α}{f:σ->α->β}{h:σ->γ}{g:Zi->List β}{e:Zi->γ} (n:Nat)
    (h1:∀ w os,(x w os).map (fun s=>(as.take n).map (f s))=some ((g w).take n)) (h2:∀ w os,(x w os).map (fun s=>((as.drop n).map (f s),h s))=some ((g w).drop n,e w)):∀ w os,(x w os).map (fun s=>(as.map (f s),h s))=some (g w,e w):=fun w os=>by
  obtain⟨s,e0,e1⟩:=Option.map_eq_some_iff.mp (h1 w os);have e2:=h2 w os;rw[e0] at e2 ⊢;have e2:=Option.some.inj e2;simp only[Prod.mk.injEq] at e2;refine congrArg some (Prod.ext ?_ e2.2);show as.map (f s)=g w;rw[←List.take_append_drop n as,List.map_append,e1,e2.1,List.take_append_drop]
noncomputable def tree:List Obj->Nat->BT->BT
  | [],_,t=>t
  | o::l,n,t=>tree l (n+1) (t.ins n o)
noncomputable def goT (st:SharedT->Thread->Option (SharedT×Thread)) (ok:Thread->Bool):Nat->SharedT->Thread->Option SharedT
  | 0,_,_=>none
  | n+1,s,t=>match through t with
    | true=>some s
    | false=>match ok t with
      | false=>none
      | true=>match st s t with
        | some (s',t')=>goT st ok n s' t'
        | none=>none
theorem FA {tb:String->Option Builtin}{p:Zh}{w:Zi}{n₀:Nat}{ann:Option Value}:∀ {n:Nat}{s s':SharedT}{t:Thread},goT (stepT (denote tb) p w) (stepOk n₀ ann) n s t=some s'->topRun tb p w n₀ ann n s.abs t=some s'.abs
  | 0,_,_,_,h=>nomatch h
  | n+1,s,s',t,h=>by
    unfold goT at h;unfold topRun;cases ht:through t with
    | true=>rw[ht] at h;cases h;rfl
    | false =>
      rw[ht] at h;cases hk:stepOk n₀ ann t with
      | false=>rw[hk] at h;cases h
      | true =>
        rw[hk] at h;cases hs:stepT (denote tb) p w s t with
        | none=>rw[hs] at h;cases h
        | some r=>obtain⟨s₂,t₂⟩:=r;rw[hs] at h;rw[stepT_spec hs];exact FA h
noncomputable def boot (w:Zi) (os:OsState):SharedT:=⟨tree (boot_heap w.params).objs.toList 0 .nil,(boot_heap w.params).objs.size,(boot_heap w.params).life,#[],boot_drawn,boot_toks,os⟩
noncomputable def ran (p:Zh) (N:Nat) (w:Zi) (os:OsState):Option SharedT:=goT (stepT (denote treeTable) p w) (stepOk 11 (some (.ref 6))) N (boot w os) (topStub p)
theorem CN (P:Params):absHeap (tree (boot_heap P).objs.toList 0 .nil) (boot_heap P).objs.size (boot_heap P).life=boot_heap P:=by ext
theorem CM (P:Params):((boot_heap P).isNs mainGlobals,(boot_heap P).objs.size,(boot_heap P).nsMap mainGlobals "__annotations__")=(true,11,some (.ref 6)):=by ext
theorem six {σ α β γ δ ε ζ η θ ι:Type}{x:Zi->OsState->Option σ}{f1:σ->α}{f2:σ->β}{f3:σ->γ}{f4:σ->δ}{f5:σ->ε}{f6:σ->ζ}{f7:σ->η}{f8:σ->θ}{f9:σ->ι}{g1:α}{g2:β}{g3:γ}{g4:δ}{g5:ε}{g6:ζ}{g7:η}{g8:θ}{g9:ι}
    (h1:∀ w os,(x w os).map (fun s=>f1 s)=some g1) (h2:∀ w os,(x w os).map (fun s=>(f2 s,f3 s))=some (g2,g3)) (h3:∀ w os,(x w os).map (fun s=>(f4 s,f5 s))=some (g4,g5)) (h4:∀ w os,(x w os).map (fun s=>f6 s)=some g6)
    (h5:∀ w os,(x w os).map (fun s=>(f7 s,f8 s))=some (g7,g8)) (h6:∀ w os,(x w os).map (fun s=>f9 s)=some g9):∀ w os,(x w os).map (fun s=>(f1 s,f2 s,f3 s,f4 s,f5 s,f6 s,f7 s,f8 s,f9 s))=some (g1,g2,g3,g4,g5,g6,g7,g8,g9):=fun w os=>by
  obtain⟨s,e,e1⟩:=Option.map_eq_some_iff.mp (h1 w os);have e2:=h2 w os;have e3:=h3 w os;have e4:=h4 w os;have e5:=h5 w os;have e6:=h6 w os;rw[e] at e2 e3 e4 e5 e6 ⊢;have e2:=Option.some.inj e2;have e3:=Option.some.inj e3;have e4:=Option.some.inj e4;have e5:=Option.some.inj e5;have e6:=Option.some.inj e6;simp only[Prod.mk.injEq] at e2 e3 e5;exact congrArg some (Prod.ext e1 (Prod.ext e2.1 (Prod.ext e2.2 (Prod.ext e3.1 (Prod.ext e3.2 (Prod.ext e4 (Prod.ext e5.1 (Prod.ext e5.2 e6))))))))
theorem left {p q:Zh}{loose:Ze}{Xt:Zg->Bool}{α:Type}{Yf:Zg->α}{Ya:Zi->α}{N:Nat}{g0:Bool}
    (e:opening p=plainProg p.main.scope.names) (hN:Nat.ble 600 N=true) (f:∀ s,fenceModules? p s=some s)
    (r1:∀ w os,(ran p N w os).map (fun s=>staticsOk (importedModules p.main.body) (boot_heap w.params) s.abs.heap&&namesBound p s.abs.heap&&gensDone s.abs&&laidKept (boot_heap w.params) s.abs.heap)=some true)
    (r2:∀ w os,(ran p N w os).map (fun s=>openSeen q loose (importedModules p.main.body) Xt g0 s.abs)=some (openGood q loose))
    (r3:∀ w os,(ran p N w os).map (fun s=>Yf s.abs)=some (Ya w)):LeftO p q loose Xt Yf Ya N g0:=fun w=>by
  obtain⟨⟨h,gs,d,k,os⟩,e,e'⟩:=Option.map_eq_some_iff.mp (boot_open e hN f w);obtain⟨rfl,rfl,rfl,rfl⟩:h=boot_heap w.params/\gs=#[]/\d=boot_drawn/\k=boot_toks:=by simpa using e'
  obtain⟨z1,z2,z3⟩:_/\_/\_:=by simpa only[Prod.mk.injEq] using CM w.params
  obtain⟨s',r,l1⟩:=Option.map_eq_some_iff.mp (r1 w os);have l2:=r2 w os;have l3:=r3 w os;rw[r] at l2 l3;have l2:=Option.some.inj l2;have l3:=Option.some.inj l3;unfold ran at r;have r:=FA r;have hB:(boot w os).abs=⟨boot_heap w.params,#[],boot_drawn,boot_toks,os⟩:=by unfold boot SharedT.abs;rw[CN]
  rw[hB] at r;have t:topFrom treeTable p w N ⟨boot_heap w.params,#[],boot_drawn,boot_toks,os⟩=some s'.abs:=by unfold topFrom;dsimp only;rw[z1,z2,z3,r];show (match staticsOk (importedModules p.main.body) (boot_heap w.params) s'.abs.heap&&namesBound p s'.abs.heap&&gensDone s'.abs&&laidKept (boot_heap w.params) s'.abs.heap with | true=>_ | false=>_)=_;rw[l1]
  unfold openEnds;rw[e];show (topFrom treeTable p w N _).map _=_;rw[t];exact congrArg some (Prod.ext l2 l3)
theorem mw:@ran=fun p N w os=>goT (PySem.W.Fast.tw10156331382660048174 (denote PySem.W.Fast.tw14364793385576792824) p w) (PySem.W.Fast.tw6613529449190102663 11 (some (.ref 6))) N (boot w os) (topStub p):=by unfold ran;rw[PySem.W.Fast.te10156331382660048174,PySem.W.Fast.te6613529449190102663,PySem.W.Fast.te14364793385576792824]
end Hd
section
open PySem PySem.W PyProof.Rows
set_option maxHeartbeats 0
noncomputable def Hk.top:Hd.LX PySem.Challenge.rw_cablehouse_k25_whole_two_faults.Holds:=by
  apply Hd.LX.mk
  case go =>
    intro x1 x2 x3 x4 x5 x6 x7 x8 x9 y z
    w_on;refine PySem.W.holds_law (by ext) fun said=>?_
    apply Hd.Ms
    case main=>k_head
    case hl=>exact Hd.left (by ext) Zd (fun _=>by ext) x1 (Hd.six x2 x4 x5 x6 x7 x8) (Hd.two 180 x3 x9)
    case hw=>exact y
    case hc=>exact z
theorem Hk.MR:Hk.top.l1:=by
  delta Hk.top
  dsimp only;intro w os;rw[Hd.mw]
  ext
theorem Hk.MS:Hk.top.l2:=by
  delta Hk.top
  dsimp only;intro w os;rw[Hd.mw]
  ext
theorem Hk.MT:Hk.top.l3:=by
  delta Hk.top
  dsimp only;intro w os;rw[Hd.mw]
  ext
theorem Hk.MU:Hk.top.l4:=by
  delta Hk.top
  dsimp only;intro w os;rw[Hd.mw]
  ext
theorem Hk.MV:Hk.top.l5:=by
  delta Hk.top
  dsimp only;intro w os;rw[Hd.mw]
  ext
theorem Hk.MW:Hk.top.l6:=by
  delta Hk.top
  dsimp only;intro w os;rw[Hd.mw]
  ext
theorem Hk.MX:Hk.top.l7:=by
  delta Hk.top
  dsimp only;intro w os;rw[Hd.mw]
  ext
theorem Hk.MY:Hk.top.l8:=by
  delta Hk.top
  dsimp only;intro w os;rw[Hd.mw]
  ext
theorem Hk.MZ:Hk.top.l9:=by
  delta Hk.top
  dsimp only;intro w os;rw[Hd.mw]
  ext
theorem Hk.Nb:Hk.top.h:=by
  delta Hk.top
  dsimp only
  w_witness2
end
theorem qa:type_of%@PySem.Around.under_plainId:=@PySem.Around.under_plainId
theorem jv:type_of%@Array.getElem?_eq_getElem:=@Array.getElem?_eq_getElem
theorem om:type_of%@Array.getElem?_eq_none:=@Array.getElem?_eq_none
theorem iJ:type_of%@Array.getElem?_toList:=@Array.getElem?_toList
theorem di:type_of%@Array.length_toList:=@Array.length_toList
theorem bP:type_of%@Bool.and_eq_true:=@Bool.and_eq_true
theorem gB:type_of%@Bool.false_and:=@Bool.false_and
theorem iK:type_of%@Bool.false_eq_true:=@Bool.false_eq_true
theorem bS:type_of%@Bool.false_ne_true:=@Bool.false_ne_true
theorem dj:type_of%@Bool.true_and:=@Bool.true_and
theorem eJ:type_of%@PySem.F.called_set:=@PySem.F.called_set
theorem r0:type_of%@PySem.F.slot_dict_keyiterator_next:=@PySem.F.slot_dict_keyiterator_next
theorem aD:type_of%@PySem.Heap.get?_push_of_some:=@PySem.Heap.get?_push_of_some
theorem bt:type_of%@PySem.Heap.get?_push_size:=@PySem.Heap.get?_push_size
theorem dv:type_of%@PySem.Heap.get?_update_other:=@PySem.Heap.get?_update_other
theorem fP:type_of%@PySem.Heap.get?_update_self:=@PySem.Heap.get?_update_self
theorem aG:type_of%@PySem.Heap.lt_size:=@PySem.Heap.lt_size
theorem iW:type_of%@PySem.Heap.size_push:=@PySem.Heap.size_push
theorem jS:type_of%@Int.dvd_of_emod_eq_zero:=@Int.dvd_of_emod_eq_zero
theorem vg:type_of%@Int.emod_eq_emod_iff_emod_sub_eq_zero:=@Int.emod_eq_emod_iff_emod_sub_eq_zero
theorem jT:type_of%@Int.emod_eq_of_lt:=@Int.emod_eq_of_lt
theorem cQ:type_of%@Int.emod_lt_of_pos:=@Int.emod_lt_of_pos
theorem cK:type_of%@Int.emod_nonneg:=@Int.emod_nonneg
theorem ie:type_of%@Int.eq_ofNat_of_zero_le:=@Int.eq_ofNat_of_zero_le
theorem iX:type_of%@Int.le_of_lt:=@Int.le_of_lt
theorem qU:type_of%@Int.lt_of_lt_of_le:=@Int.lt_of_lt_of_le
theorem qV:type_of%@Int.mul_ediv_add_emod:=@Int.mul_ediv_add_emod
theorem qW:type_of%@Int.mul_le_mul_of_nonneg_left:=@Int.mul_le_mul_of_nonneg_left
theorem dw:type_of%@Int.toNat_natCast:=@Int.toNat_natCast
theorem nI:type_of%@Int.toNat_of_nonneg:=@Int.toNat_of_nonneg
theorem jU:type_of%@Int.zero_add:=@Int.zero_add
theorem jV:type_of%@List.Pairwise.filter:=@List.Pairwise.filter
theorem nJ:type_of%@List.Pairwise.imp:=@List.Pairwise.imp
theorem jW:type_of%@List.Pairwise.imp_of_mem:=@List.Pairwise.imp_of_mem
theorem iY:type_of%@List.all_cons:=@List.all_cons
theorem cj:type_of%@List.all_eq_true:=@List.all_eq_true
theorem fQ:type_of%@List.all_map:=@List.all_map
theorem nK:type_of%@List.any_cons:=@List.any_cons
theorem dN:type_of%@List.append_assoc:=@List.append_assoc
theorem fR:type_of%@List.append_nil:=@List.append_nil
theorem qX:type_of%@List.dropLast_concat:=@List.dropLast_concat
theorem qY:type_of%@List.dropLast_concat_getLast:=@List.dropLast_concat_getLast
theorem ig:type_of%@List.dropLast_subset:=@List.dropLast_subset
theorem nL:type_of%@List.drop_of_length_le:=@List.drop_of_length_le
theorem ij:type_of%@List.ext_getElem?:=@List.ext_getElem?
theorem nM:type_of%@List.filterMap_cons:=@List.filterMap_cons
theorem gi:type_of%@List.filter_append:=@List.filter_append
theorem nN:type_of%@List.filter_cons_of_neg:=@List.filter_cons_of_neg
theorem nO:type_of%@List.filter_cons_of_pos:=@List.filter_cons_of_pos
theorem nQ:type_of%@List.filter_eq_nil_iff:=@List.filter_eq_nil_iff
theorem nR:type_of%@List.filter_map:=@List.filter_map
theorem iZ:type_of%@List.find?_cons:=@List.find?_cons
theorem nS:type_of%@List.flatMap_cons:=@List.flatMap_cons
theorem nT:type_of%@List.flatten_cons:=@List.flatten_cons
theorem bz:type_of%@List.getD_eq_getElem?_getD:=@List.getD_eq_getElem?_getD
theorem ja:type_of%@List.getElem?_append_left:=@List.getElem?_append_left
theorem ik:type_of%@List.getElem?_append_right:=@List.getElem?_append_right
theorem jb:type_of%@List.getElem?_drop:=@List.getElem?_drop
theorem aO:type_of%@List.getElem?_eq_getElem:=@List.getElem?_eq_getElem
theorem ip:type_of%@List.getElem?_eq_none:=@List.getElem?_eq_none
theorem b7:type_of%@List.getElem?_eq_some_iff:=@List.getElem?_eq_some_iff
theorem aT:type_of%@List.getElem?_map:=@List.getElem?_map
theorem lJ:type_of%@List.getElem?_of_mem:=@List.getElem?_of_mem
theorem jc:type_of%@List.getElem?_set_ne:=@List.getElem?_set_ne
theorem jX:type_of%@List.getElem?_set_self:=@List.getElem?_set_self
theorem lK:type_of%@List.getElem?_take:=@List.getElem?_take
theorem iq:type_of%@List.getElem_mem:=@List.getElem_mem
theorem jY:type_of%@List.getLastD_eq_getLast?:=@List.getLastD_eq_getLast?
theorem nU:type_of%@List.idxOf_lt_length_of_mem:=@List.idxOf_lt_length_of_mem
theorem aB:type_of%@List.length_append:=@List.length_append
theorem aZ:type_of%@List.length_cons:=@List.length_cons
theorem cf:type_of%@List.length_drop:=@List.length_drop
theorem jd:type_of%@List.length_dropLast:=@List.length_dropLast
theorem nV:type_of%@List.length_eq_zero_iff:=@List.length_eq_zero_iff
theorem lL:type_of%@List.length_filter_le:=@List.length_filter_le
theorem ag:type_of%@List.length_map:=@List.length_map
theorem ir:type_of%@List.length_nil:=@List.length_nil
theorem dy:type_of%@List.length_range:=@List.length_range
theorem eQ:type_of%@List.length_set:=@List.length_set
theorem cN:type_of%@List.length_singleton:=@List.length_singleton
theorem bI:type_of%@List.length_take:=@List.length_take
theorem fS:type_of%@List.lookup_cons:=@List.lookup_cons
theorem bu:type_of%@List.map_append:=@List.map_append
theorem iu:type_of%@List.map_congr_left:=@List.map_congr_left
theorem bf:type_of%@List.map_cons:=@List.map_cons
theorem gj:type_of%@List.map_drop:=@List.map_drop
theorem qZ:type_of%@List.map_inj_right:=@List.map_inj_right
theorem aI:type_of%@List.map_map:=@List.map_map
theorem jf:type_of%@List.map_nil:=@List.map_nil
theorem lM:type_of%@List.map_singleton:=@List.map_singleton
theorem jg:type_of%@List.map_take:=@List.map_take
theorem bE:type_of%@List.mem_append:=@List.mem_append
theorem lN:type_of%@List.mem_append_left:=@List.mem_append_left
theorem eR:type_of%@List.mem_append_right:=@List.mem_append_right
theorem aP:type_of%@List.mem_cons:=@List.mem_cons
theorem aU:type_of%@List.mem_cons_of_mem:=@List.mem_cons_of_mem
theorem aS:type_of%@List.mem_cons_self:=@List.mem_cons_self
theorem cA:type_of%@List.mem_filter:=@List.mem_filter
theorem nW:type_of%@List.mem_filterMap:=@List.mem_filterMap
theorem aM:type_of%@List.mem_map:=@List.mem_map
theorem iw:type_of%@List.mem_map_of_mem:=@List.mem_map_of_mem
theorem bQ:type_of%@List.mem_of_getElem?:=@List.mem_of_getElem?
theorem cg:type_of%@List.mem_range:=@List.mem_range
theorem bg:type_of%@List.mem_singleton:=@List.mem_singleton
theorem eS:type_of%@List.nodup_cons:=@List.nodup_cons
theorem dZ:type_of%@List.not_mem_nil:=@List.not_mem_nil
theorem nX:type_of%@List.of_mem_zip:=@List.of_mem_zip
theorem nY:type_of%@List.pairwise_lt_range:=@List.pairwise_lt_range
theorem fk:type_of%@List.pairwise_map:=@List.pairwise_map
theorem lO:type_of%@List.range_succ:=@List.range_succ
theorem nZ:type_of%@List.replicate_succ:=@List.replicate_succ
theorem bF:type_of%@List.size_toArray:=@List.size_toArray
theorem jh:type_of%@List.sum_cons:=@List.sum_cons
theorem iy:type_of%@List.take_add_one:=@List.take_add_one
theorem oa:type_of%@List.take_length:=@List.take_length
theorem fq:type_of%@List.take_of_length_le:=@List.take_of_length_le
theorem lP:type_of%@Nat.le_of_eq:=@Nat.le_of_eq
theorem aQ:type_of%@Nat.le_of_lt:=@Nat.le_of_lt
theorem ar:type_of%@Nat.le_refl:=@Nat.le_refl
theorem gk:type_of%@Nat.le_succ:=@Nat.le_succ
theorem aV:type_of%@Nat.le_trans:=@Nat.le_trans
theorem ft:type_of%@Nat.lt_irrefl:=@Nat.lt_irrefl
theorem cV:type_of%@Nat.lt_of_le_of_lt:=@Nat.lt_of_le_of_lt
theorem bK:type_of%@Nat.lt_of_lt_of_le:=@Nat.lt_of_lt_of_le
theorem ra:type_of%@Nat.lt_succ_iff_lt_or_eq:=@Nat.lt_succ_iff_lt_or_eq
theorem fT:type_of%@Nat.lt_succ_of_lt:=@Nat.lt_succ_of_lt
theorem lQ:type_of%@Nat.lt_succ_self:=@Nat.lt_succ_self
theorem iz:type_of%@Nat.min_eq_left:=@Nat.min_eq_left
theorem og:type_of%@Nat.min_le_right:=@Nat.min_le_right
theorem gm:type_of%@Nat.ne_of_gt:=@Nat.ne_of_gt
theorem aW:type_of%@Nat.ne_of_lt:=@Nat.ne_of_lt
theorem rb:type_of%@Nat.pow_le_pow_left:=@Nat.pow_le_pow_left
theorem jZ:type_of%@Nat.pow_le_pow_right:=@Nat.pow_le_pow_right
theorem bj:type_of%@Nat.zero_le:=@Nat.zero_le
theorem bD:type_of%@Ne.symm:=@Ne.symm
theorem rg:type_of%@Option.isSome_iff_exists:=@Option.isSome_iff_exists
theorem dO:type_of%@Option.map_eq_some_iff:=@Option.map_eq_some_iff
theorem cB:type_of%@PySem.PassesOwn.leaving:=@PySem.PassesOwn.leaving
theorem rh:type_of%@PyProof.Rows.F.entry_set_update_loop:=@PyProof.Rows.F.entry_set_update_loop
theorem lR:type_of%@PyProof.Rows.F.plain_set_update_loop:=@PyProof.Rows.F.plain_set_update_loop
theorem oh:type_of%@PyProof.Rows.callWith_type1:=@PyProof.Rows.callWith_type1
theorem dA:type_of%@PySem.F.excBase_ValueError:=@PySem.F.excBase_ValueError
theorem fv:type_of%@PySem.F.plainAttrs_list:=@PySem.F.plainAttrs_list
theorem gq:type_of%@PySem.F.plainAttrs_str:=@PySem.F.plainAttrs_str
theorem gu:type_of%@PySem.F.slot_list_append:=@PySem.F.slot_list_append
theorem rk:type_of%@PySem.F.slot_str_join:=@PySem.F.slot_str_join
theorem rl:type_of%@PySem.F.slot_str_split:=@PySem.F.slot_str_split
theorem gv:type_of%@PySem.F.type_list_append:=@PySem.F.type_list_append
theorem rn:type_of%@PySem.F.type_str_join:=@PySem.F.type_str_join
theorem rp:type_of%@PySem.F.type_str_split:=@PySem.F.type_str_split
theorem rq:type_of%@PySem.W.callWith_K:=@PySem.W.callWith_K
theorem fU:type_of%@PySem.W.kia_one:=@PySem.W.kia_one
theorem rz:type_of%@PySem.W.looks_findIn:=@PySem.W.looks_findIn
theorem dB:type_of%@PySem.W.mg_none_of:=@PySem.W.mg_none_of
theorem cC:type_of%@PySem.W.mg_of:=@PySem.W.mg_of
theorem oi:type_of%@PySem.mem_of_lookup:=@PySem.mem_of_lookup
theorem ka:type_of%@beq_eq_false_iff_ne:=@beq_eq_false_iff_ne
theorem lS:type_of%@beq_false_of_ne:=@beq_false_of_ne
theorem eT:type_of%@beq_iff_eq:=@beq_iff_eq
theorem i3:type_of%@PySem.call_meets:=@PySem.call_meets
theorem fV:type_of%@PySem.codeAny_builtin:=@PySem.codeAny_builtin
theorem oj:type_of%@PySem.codeAny_call_builtin:=@PySem.codeAny_call_builtin
theorem gw:type_of%@PySem.codeAny_mono:=@PySem.codeAny_mono
theorem bJ:type_of%@congrArg:=@congrArg
theorem av:type_of%@decide_eq_false:=@decide_eq_false
theorem aw:type_of%@decide_eq_true:=@decide_eq_true
theorem bR:type_of%@decide_eq_true_eq:=@decide_eq_true_eq
theorem kb:type_of%@PyProof.Rows.get?_update_seq:=@PyProof.Rows.get?_update_seq
theorem eU:type_of%@if_false:=@if_false
theorem af:type_of%@if_neg:=@if_neg
theorem ah:type_of%@if_pos:=@if_pos
theorem i4:type_of%@if_true:=@if_true
theorem ji:type_of%@of_decide_eq_true:=@of_decide_eq_true
theorem ef:type_of%@or_false:=@or_false
theorem lT:type_of%@PySem.plainId_quiet:=@PySem.plainId_quiet
theorem i5:type_of%@PySem.sizeLine_eq:=@PySem.sizeLine_eq
theorem oo:type_of%@PySem.tupleKind_room_in1:=@PySem.tupleKind_room_in1
theorem lU:type_of%@PySem.wpAny_Call_Name_kw:=@PySem.wpAny_Call_Name_kw
theorem lV:type_of%@PySem.wpAny_askSetting:=@PySem.wpAny_askSetting
theorem jj:type_of%@PySem.wpAny_attempt:=@PySem.wpAny_attempt
theorem aa:type_of%@PySem.wpAny_bind:=@PySem.wpAny_bind
theorem i6:type_of%@PySem.wpAny_call:=@PySem.wpAny_call
theorem lW:type_of%@PySem.wpAny_callSpecial?_slot:=@PySem.wpAny_callSpecial?_slot
theorem fw:type_of%@PySem.wpAny_call_entry:=@PySem.wpAny_call_entry
theorem lX:type_of%@PySem.wpAny_execs_nil:=@PySem.wpAny_execs_nil
theorem jk:type_of%@PySem.wpAny_fieldsOf:=@PySem.wpAny_fieldsOf
theorem cW:type_of%@PySem.wpAny_holding:=@PySem.wpAny_holding
theorem oq:type_of%@PySem.wpAny_loadPart_at:=@PySem.wpAny_loadPart_at
theorem bM:type_of%@PySem.wpAny_mono:=@PySem.wpAny_mono
theorem gx:type_of%@PySem.wpAny_newObj_type:=@PySem.wpAny_newObj_type
theorem kc:type_of%@PySem.wpAny_passesOwn:=@PySem.wpAny_passesOwn
theorem ak:type_of%@PySem.wpAny_pure:=@PySem.wpAny_pure
theorem ou:type_of%@PySem.wpAny_setEntries_of:=@PySem.wpAny_setEntries_of
theorem jB:type_of%@PySem.wpAny_setState_of:=@PySem.wpAny_setState_of
theorem jC:type_of%@PySem.wpAny_standAt:=@PySem.wpAny_standAt
theorem fB:type_of%@PySem.wpAny_truthy_bool:=@PySem.wpAny_truthy_bool
theorem oP:type_of%@PySem.wpAny_typeNameOfWhole_keyiter:=@PySem.wpAny_typeNameOfWhole_keyiter
theorem oQ:type_of%@PySem.wpAny_typeNameOf_keyiter:=@PySem.wpAny_typeNameOf_keyiter
theorem b8:type_of%@PyProof.Rows.wpS_bind:=@PyProof.Rows.wpS_bind
theorem ck:type_of%@PyProof.Rows.wpS_pure:=@PyProof.Rows.wpS_pure
set_option Elab.async false
set_option linter.all false
set_option maxRecDepth 100000
namespace L2
open PySem PySem.Spec PyProof.Rows
variable {A:Around}{C:Addr}{E:Zq}{K:Zf}{M:Model}{P:Zh}{Q:Zq}{a:Addr}{b:Addr}{base:Heap}{body:List Stmt}{c:Expr}{ch:List Addr}{d':Drawn}{e:Expr}{es:List Expr}{f:Value->Value->Sem Value}{fp:List Addr}{g':Array GenState}{h:Heap}{i:Nat}{it:Addr}{kw:List (Str×Value)}{mA:Zk}{mg:Zk}{o:Obj}{op:CmpOp}{outer:List Env}{Yp:Zp}{pl:Sem Bool}{pos:Pos}{s:Zg}{scope:Scope}{t':Nat}{tg:Expr}{u:Value}{us:Zc}{w:Zi}{x:Str}
section
noncomputable abbrev Key:=Sum Int Str
noncomputable def jH:Key->Value->Bool
 | .inl k,v=>Value.isInt k v
 | .inr x,v=>Value.isStrOf x v
noncomputable def Nq (w:Zi):Key->Int
 | .inl k=>hashInt k
 | .inr x=>hashStr w x
theorem cO:∀ {k:Key}{v:Value},jH k v=true->(∃ i t,k=Sum.inl i/\v=Value.int i t)∨(∃ x t,k=Sum.inr x/\v=Value.str x t)
 | .inl i,v,h=>by obtain⟨t,e⟩:=Value.isInt_shape (k:=i) (v:=v) h;exact .inl ⟨i,t,rfl,e⟩
 | .inr x,v,h=>by obtain⟨t,e⟩:=Value.isStrOf_shape (x:=x) (v:=v) h;exact .inr ⟨x,t,rfl,e⟩
theorem DQ (i:Int) (t:Tok):jH (.inl i) (.int i t)=true:=by simp [jH,Value.isInt]
theorem oB (x:Str) (t:Tok):jH (.inr x) (.str x t)=true:=by simp [jH,Value.isStrOf]
theorem KR (a b:Int):decide ((Sum.inl a:Key)=Sum.inl b)=(a==b):=by
 by_cases e:a=b
 ·subst e;simp
 ·have h:¬ (Sum.inl a:Key)=Sum.inl b:=fun q=>e (Sum.inl.inj q);rw[av h];exact (ka.mpr e).symm
theorem KW (a b:Str):decide ((Sum.inr a:Key)=Sum.inr b)=decide (a=b):=by
 by_cases e:a=b
 ·subst e;simp
 ·have h:¬ (Sum.inr a:Key)=Sum.inr b:=fun q=>e (Sum.inr.inj q);rw[av h,av e]
theorem KS (a:Int) (b:Str):decide ((Sum.inl a:Key)=Sum.inr b)=false:=av (fun q=>nomatch q)
theorem KU (a:Str) (b:Int):decide ((Sum.inr a:Key)=Sum.inl b)=false:=av (fun q=>nomatch q)
noncomputable def br (prog:Zh) (w:Zi):PySem.KeyKind prog w Key where
 is:=jH
 hash:=Nq w
 inj:=fun v a b ha hb=>by
  rcases cO ha with ⟨i,t,rfl,rfl⟩ | ⟨x,t,rfl,rfl⟩
  ·rcases cO hb with ⟨j,u,rfl,e⟩ | ⟨y,u,rfl,e⟩
   ·injection e with e1 _;rw[e1]
   ·exact nomatch e
  ·rcases cO hb with ⟨j,u,rfl,e⟩ | ⟨y,u,rfl,e⟩
   ·exact nomatch e
   ·injection e with e1 _;rw[e1]
 byValue:=fun k v h=>by rcases cO h with ⟨i,t,rfl,rfl⟩ | ⟨x,t,rfl,rfl⟩<;>rfl
 pyHash:=fun hv h=>by
  rcases cO hv with ⟨i,t,rfl,rfl⟩ | ⟨x,t,rfl,rfl⟩
  ·exact wpAny_pyHash_int h
  ·exact wpAny_pyHash_str h
 eqBool:=fun hu hv h=>by
  rcases cO hu with ⟨i,t,rfl,rfl⟩ | ⟨x,t,rfl,rfl⟩
  ·rcases cO hv with ⟨j,u,rfl,rfl⟩ | ⟨y,u,rfl,rfl⟩
   ·rw[KR] at h;exact wpAny_eqBool_int h
   ·rw[KS] at h;exact SeqAt.EqAt.int_str i t y u _ _ _ _ h
  ·rcases cO hv with ⟨j,u,rfl,rfl⟩ | ⟨y,u,rfl,rfl⟩
   ·rw[KU] at h;exact SeqAt.EqAt.str_int x t j u _ _ _ _ h
   ·rw[KW] at h;exact wpAny_eqBool_str h
 «strs»:=fun k x t v h=>by
  rcases cO h with ⟨i,u,rfl,e⟩ | ⟨y,u,rfl,e⟩
  ·exact nomatch e
  ·injection e with e1 _
   subst e1;cases v<;>rfl
theorem yz (prog:Zh) (w:Zi) (i:Int) (t:Tok):(br prog w).is (.inl i) (.int i t)=true:=DQ i t
theorem yA (prog:Zh) (w:Zi) (x:Str) (t:Tok):(br prog w).is (.inr x) (.str x t)=true:=oB x t
end
section
inductive V where
 | non | bl (b:Bool) | int (i:Int) | str (x:Str) | byt (b:Array UInt8) | flt (b:UInt64) | ref (a:Addr) | ty (n:String)
 deriving DecidableEq
noncomputable def RelV:V->Value->Prop
 | .non,u=>u=Value.none
 | .bl b,u=>u=Value.bool b
 | .int i,u=>∃ t,u=Value.int i t
 | .str x,u=>∃ t,u=Value.str x t
 | .byt b,u=>∃ t,u=Value.bytes b t
 | .flt b,u=>∃ t,u=Value.float b t
 | .ref a,u=>u=Value.ref a
 | .ty n,u=>u=Value.type n
noncomputable abbrev Vals:List V->Zc->Prop:=Paired RelV
theorem Vals.length {xs:List V}{us:Zc} (r:Vals xs us):xs.length=us.length:=Paired.length r
theorem Vals.get:∀ {xs:List V}{us:Zc}{i:Nat}{x:V},Vals xs us->xs[i]?=some x->∃ u,us[i]?=some u/\RelV x u
 | _,_,_,_,.nil,e=>by simp at e
 | _,_,0,_,.cons r _,e=>by simp at e;subst e;exact⟨_,rfl,r⟩
 | _,_,i+1,x,.cons _ t,e=>by obtain⟨u,h1,h2⟩:=Vals.get (i:=i) (x:=x) t (by simpa using e);exact⟨u,by simpa using h1,h2⟩
theorem Vals.set {x:V}{u:Value} (r:RelV x u):∀ {xs:List V}{us:Zc} (i:Nat),Vals xs us->Vals (xs.set i x) (us.set i u)
 | _,_,_,.nil=>.nil
 | _,_,0,.cons _ t=>.cons r t
 | _,_,i+1,.cons q t=>.cons q (Vals.set r i t)
theorem Vals.append:∀ {xs ys:List V}{us ws:Zc},Vals xs us->Vals ys ws->Vals (xs++ys) (us++ws)
 | _,_,_,_,.nil,s=>s
 | _,_,_,_,.cons r t,s=>.cons r (Vals.append t s)
theorem Vals.take:∀ {xs:List V}{us:Zc} (n:Nat),Vals xs us->Vals (xs.take n) (us.take n)
 | _,_,0,_=>.nil
 | _,_,_+1,.nil=>.nil
 | _,_,n+1,.cons r t=>.cons r (Vals.take n t)
theorem Vals.drop:∀ {xs:List V}{us:Zc} (n:Nat),Vals xs us->Vals (xs.drop n) (us.drop n)
 | _,_,0,r=>r
 | _,_,_+1,.nil=>.nil
 | _,_,n+1,.cons _ t=>Vals.drop n t
noncomputable def mK:Option V->Option Value->Prop
 | some v,some u=>RelV v u
 | none,none=>True
 | _,_=>False
noncomputable def KV {κ:Type}:List (κ×V)->List (κ×Value)->Prop:=Paired fun (p:κ×V) (q:κ×Value)=>p.1=q.1/\RelV p.2 q.2
noncomputable def kV:Key->V
 | .inl i=>.int i
 | .inr x=>.str x
inductive HO where
  | lst (xs:List V)
  | tup (xs:List V)
  | dK (kvs:List (Key×V)) | dT (kvs:List (List Key×V))
  | set (S:Int->Bool) (n:Nat)
  | ins (C dx:Addr) (fs:List (Str×V))
  | own (x:Addr)
  | xd (fs:List (Str×V))
  | met (f x:Addr)
  | rng (lo hi:Int)
  | frz (o:Obj) (u:HO)
  | tbl (ps:Array Value)
  | ext (φ:Heap->Prop)
noncomputable abbrev Hp:=Addr->Option HO
noncomputable def upd (H:Hp) (a:Addr) (o:HO):Hp:=fun b=>if b=a then some o else H b
theorem aE {H:Hp}{o:HO}:upd H a o a=some o:=by unfold upd;rw[ah rfl]
theorem aJ {H:Hp}{a b:Addr}{o:HO} (h:b≠a):upd H a o b=H b:=by unfold upd;rw[af h]
theorem jw {H:Hp}{a b:Addr}{o u:HO} (h:H a=some o) (h':H b=some u) (d:o≠u):a≠b:=by intro e;subst e;rw[h] at h';exact d (Option.some.inj h')
theorem b9 {H:Hp}{a b:Addr}{o:HO} (h:H a=some o) (h':H b=none):a≠b:=by intro e;subst e;rw[h] at h';cases h'
section
variable (P:Zh) (w:Zi)
noncomputable def bY (H:Hp) (h:Heap) (a:Addr):HO->Prop
 | .lst xs=>xs.length<=sizeLine/\∃ (its:Zc) (n:Nat),Vals xs its/\h.get? a=some { cls:=.type "list",data:=.seq its.toArray n }
 | .tup xs=>xs.length<=sizeLine/\∃ its:Zc,Vals xs its/\IsTup h a its.toArray
 | .dK kvs=>kvs.length<=sizeLine/\(a==sysModules)=false/\∃ vs,KV kvs vs/\h.DictOf (br P w) a vs
 | .dT kvs=>kvs.length<=sizeLine/\(a==sysModules)=false/\∃ xs:List (List Key×Addr×Value),
   Paired (fun (p:List Key×V) (q:List Key×Addr×Value)=>p.1=q.1/\H q.2.1=some (.tup (p.1.map kV))/\RelV p.2 q.2.2) kvs xs ∧
   ∃ o es ep,h.get? a=some o/\o.ExactDict/\o.data=.dict es ep/\es.toList=xs.map (entryOfKey (tupleKind (br P w)))/\(xs.map (·.1)).Nodup
 | .set S n=>h.SetOf (intKind P w) a S n
 | .ins C dx fs=>H dx=some (.own a)/\fs.length<=1000/\dx≠a/\h.get? a=some (PySem.W.instObj C dx) ∧
   ∃ mA,h.Ns1 dx mA/\(∀ f,mK (fs.lookup f) (mA f))/\PySem.Within mA (fs.map (·.1))
 | .own _=>∃ o,h.get? a=some o
 | .xd fs=>∃ mA,h.Ns1 a mA/\∀ f,mK (fs.lookup f) (mA f)
 | .rng lo hi=>∃ t u v,h.get? a=some { cls:=.type "range",data:=.fields #[.int lo t,.int hi u,.int 1 v] }
 | .frz o u=>h.get? a=some o/\bY H h a u
 | .tbl ps=>∃ qs:Array Value,h.get? a=some { cls:=.none,data:=.fields qs }/\TriplesOk qs.toList/\∀ pos c,codeAmong pos qs.toList=some c->∃ c' oc vs t q,c=.ref c'/\H c'=some (.frz oc (.own a))/\oc.data=.fields vs/\vs[1]?=some (.str q t)/\ps=#[.str q 0]
 | .met f x=>h.get? a=some (PySem.W.methodObj (.ref f) (.ref x))
 | .ext φ=>φ h/\(∃ o,h.get? a=some o)/\∀ h1 h2:Heap,φ h1->(∀ o,h1.get? a=some o->h2.get? a=some o)->φ h2
noncomputable def HOk (H:Hp) (h:Heap):Prop:=∀ a o,H a=some o->bY P w H h a o
end
section
variable {P:Zh}{w:Zi}{H H':Hp}{h h':Heap}{a:Addr}{o:HO}
theorem bY.lt (x:bY P w H h a o):a<h.objs.size:=by
 cases o with
 | lst xs=>obtain⟨_,_,_,_,e⟩:=x;exact aG e
 | tup xs=>obtain⟨_,_,_,p⟩:=x;exact p.lt
 | dK kvs=>obtain⟨_,_,_,_,o,_,_,e,_⟩:=x;exact aG e
 | dT kvs=>obtain⟨_,_,_,_,o,_,_,e,_⟩:=x;exact aG e
 | set S n=>obtain⟨o,_,_,_,e,_⟩:=x;exact aG e
 | ins C dx fs=>obtain⟨_,_,_,e,_⟩:=x;exact aG e
 | own y=>obtain⟨_,e⟩:=x;exact aG e
 | xd fs=>obtain⟨_,⟨_,_,_,e,_⟩,_⟩:=x;exact aG e
 | rng lo hi=>obtain⟨_,_,_,e⟩:=x;exact aG e
 | frz ob u=>obtain⟨e,_⟩:=x;exact aG e
 | tbl ps=>obtain⟨_,e,_⟩:=x;exact aG e
 | met f y=>exact aG (show h.get? a=some _ from x)
 | ext φ=>obtain⟨_,⟨_,e⟩,_⟩:=x;exact aG e
theorem Paired.Le {α β:Type}{F G:α->β->Prop}:∀ {l₁:List α}{l₂:List β},Paired F l₁ l₂->(∀ a b,F a b->G a b)->Paired G l₁ l₂
 | _,_,.nil,_=>.nil
 | _,_,.cons r t,f=>.cons (f _ _ r) (Paired.Le t f)
theorem bY.mF (x:bY P w H h a o) (k:∀ b u,(b=a∨H b=some (.own a))->h.get? b=some u->h'.get? b=some u)
  (ho:∀ b,H b=some (.own a)->H' b=some (.own a)) (ht:∀ b xs,H b=some (.tup xs)->H' b=some (.tup xs))
  (hf:∀ b ob u,H b=some (.frz ob u)->H' b=some (.frz ob u):=by first | exact fun _ _ _ q=>q | exact fun c ob u q=>(aJ (b9 q (by assumption))).trans q):bY P w H' h' a o:=by
 induction o with
 | lst xs=>obtain⟨z,its,n,r,e⟩:=x;exact⟨z,its,n,r,k _ _ (.inl rfl) e⟩
 | tup xs=>obtain⟨z,its,r,ob,e,c⟩:=x;exact⟨z,its,r,ob,k _ _ (.inl rfl) e,c⟩
 | dK kvs=>obtain⟨z,y,vs,r,ob,es,ep,e,c⟩:=x;exact⟨z,y,vs,r,ob,es,ep,k _ _ (.inl rfl) e,c⟩
 | dT kvs =>obtain⟨z,y,xs,r,ob,es,ep,e,c⟩:=x;exact⟨z,y,xs,Paired.Le r fun p q z=>⟨z.1,ht _ _ z.2.1,z.2.2⟩,ob,es,ep,k _ _ (.inl rfl) e,c⟩
 | set S n=>obtain⟨ob,es,ep,t,e,c⟩:=x;exact⟨ob,es,ep,t,k _ _ (.inl rfl) e,c⟩
 | ins C dx fs =>obtain⟨d,z,ne,e,mA,⟨od,es,ep,e2,c⟩,r⟩:=x;exact⟨ho _ d,z,ne,k _ _ (.inl rfl) e,mA,⟨od,es,ep,k _ _ (.inr d) e2,c⟩,r⟩
 | own y=>obtain⟨ob,e⟩:=x;exact⟨ob,k _ _ (.inl rfl) e⟩
 | xd fs=>obtain⟨mA,⟨od,es,ep,e,c⟩,r⟩:=x;exact⟨mA,⟨od,es,ep,k _ _ (.inl rfl) e,c⟩,r⟩
 | rng lo hi=>obtain⟨t,u,v,e⟩:=x;exact⟨t,u,v,k _ _ (.inl rfl) e⟩
 | frz ob u ih=>obtain⟨e,q⟩:=x;exact⟨k _ _ (.inl rfl) e,ih q⟩
 | tbl ps =>obtain⟨qs,e,t,z⟩:=x;refine⟨qs,k a _ (.inl rfl) e,t,fun pos c q=>?_⟩;obtain⟨c',oc,vs,tk,qq,h1,h2,h3⟩:=z pos c q;exact⟨c',oc,vs,tk,qq,h1,hf _ _ _ h2,h3⟩
 | met f y =>have e:h.get? a=some (PySem.W.methodObj (.ref f) (.ref y)):=x;show h'.get? a=some (PySem.W.methodObj (.ref f) (.ref y));exact k a _ (.inl rfl) e
 | ext φ=>obtain⟨p,⟨o,e⟩,st⟩:=x;exact⟨st _ _ p fun o q=>k _ _ (.inl rfl) q,⟨o,k _ _ (.inl rfl) e⟩,st⟩
theorem HOk.lt (x:HOk P w H h) (e:H a=some o):a<h.objs.size:=(x a o e).lt
theorem HOk.fresh (x:HOk P w H h) (e:h.objs.size<=a):H a=none:=by
 cases q:H a with
 | none=>rfl
 | some u=>exact absurd (bK (x.lt q) e) (ft _)
theorem HOk.kept (x:HOk P w H h) (k:∀ b u,h.get? b=some u->h'.get? b=some u):HOk P w H h':=fun a o e =>(x a o e).mF (fun b u _ q=>k b u q) (fun _ q=>q) fun _ _ q=>q
theorem HOk.laid (x:HOk P w H h) (k:∀ b u,h.get? b=some u->h'.get? b=some u) (hp:h.objs.size<=a) (new:bY P w (upd H a o) h' a o):HOk P w (upd H a o) h':=fun b u e=>by
 have hn:=x.fresh hp
 by_cases hb:b=a
 ·subst hb;rw[aE] at e;cases e;exact new
 ·rw[aJ hb] at e;exact (x b u e).mF (fun c v _ q=>k c v q) (fun c q=>by rw[aJ (b9 q hn)];exact q) fun c xs q=>by rw[aJ (b9 q hn)];exact q
end
noncomputable def Rd (H:Hp) (a:Addr) (u:HO):Prop:=H a=some u∨∃ o,H a=some (.frz o u)
theorem Rd.ok {H:Hp}{u:HO} (r:Rd H a u) (x:HOk P w H h):bY P w H h a u:=by
 rcases r with r | ⟨o,r⟩
 ·exact x a u r
 ·obtain⟨_,q⟩:=x a _ r;exact q
noncomputable def Mut:Option HO->Prop
 | some (.lst _)=>True
 | some (.dK _)=>True
 | some (.dT _)=>True
 | some (.set _ _)=>True
 | some (.ins _ _ _)=>True
 | some (.ext _)=>True
 | _=>False
section
variable {P:Zh}{w:Zi}{H:Hp}{h h':Heap}{x e:Addr}{o':HO}
theorem HOk.write (ok:HOk P w H h) (mu:Mut (H x)) (he:e=x∨H e=some (.own x)) (k:∀ b u,b≠e->h.get? b=some u->h'.get? b=some u) (heo:∃ u,h'.get? e=some u)
  (new:bY P w (upd H x o') h' x o'):HOk P w (upd H x o') h':=fun b u q=>by
 have nown:∀ c y,H c=some (.own y)->c≠x:=fun c y r z=>by subst z;rw[r] at mu;exact mu
 have ntup:∀ c xs,H c=some (.tup xs)->c≠x:=fun c xs r z=>by subst z;rw[r] at mu;exact mu
 by_cases hb:b=x
 ·subst hb;rw[aE] at q;cases q;exact new
 ·rw[aJ hb] at q
  by_cases hbe:b=e
  ·have q':H b=some (.own x):=by
    rcases he with z | z
    ·exact absurd (hbe.trans z) hb
    ·rw[hbe];exact z
   rw[q] at q';cases q';obtain⟨v,hv⟩:=heo;exact⟨v,by rw[hbe];exact hv⟩
  ·refine (ok b u q).mF (fun c v hc r=>k c v ?_ r) (fun c r=>by rw[aJ (nown c b r)];exact r) (fun c xs r=>by rw[aJ (ntup c xs r)];exact r) fun c ob u r=>(aJ (fun z=>by subst z;rw[r] at mu;exact mu)).trans r;rcases hc with rfl | hc
   ·exact hbe
   ·rintro rfl;rcases he with z | z
    ·exact nown c b hc z
    ·rw[hc] at z;cases z;exact hb rfl
end
structure Un (fs ex:List Addr) (H H':Hp) (h h':Heap):Prop where
 keep:∀ b o,h.get? b=some o->H b=none->b∉fs->b∉ex->h'.get? b=some o
 slot:∀ b o,h.get? b=some o->H b=none->b∈fs->b∉ex->∃ sl,h'.get? b=some { o with slots:=sl }
 free:∀ b o,h.get? b=some o->H b=none->b∉ex->H' b=none
 there:∀ b o,h.get? b=some o->b∉ex->∃ o',h'.get? b=some o'
 tups:∀ b xs,H b=some (.tup xs)->H' b=some (.tup xs)
 frzs:∀ b o u,H b=some (.frz o u)->H' b=some (.frz o u)
 tbls:∀ b ps,H b=some (.tbl ps)->∃ more,H' b=some (.tbl (ps++more))
section
variable {fs fs' ex ex':List Addr}{H H1 H2:Hp}{h h1 h2 h':Heap}{a x e:Addr}{o:HO}
theorem Un.any (u:Un fs ex H H1 h h1) {ob:Obj} (q:h.get? b=some ob) (n:H b=none) (hx:b∉ex):∃ sl,h1.get? b=some { ob with slots:=sl }:=by
 by_cases hb:b∈fs
 ·exact u.slot b ob q n hb hx
 ·exact⟨ob.slots,u.keep b ob q n hb hx⟩
theorem Un.kept (k:∀ b u,h.get? b=some u->h'.get? b=some u):Un fs ex H H h h' :=
 ⟨fun b ob q _ _ _=>k b ob q,fun b ob q _ _ _=>⟨ob.slots,k b ob q⟩,fun _ _ _ n _=>n,fun b ob q _=>⟨ob,k b ob q⟩,fun _ _ q=>q,fun _ _ _ q=>q,fun _ ps q=>⟨#[],by rw[q];simp⟩⟩
theorem Un.refl:Un fs ex H H h h:=Un.kept fun _ _ q=>q
theorem Un.laid (k:∀ b u,h.get? b=some u->h'.get? b=some u) (hp:h.objs.size<=a) (hn:H a=none):Un fs ex H (upd H a o) h h' where
 keep:=fun b u q _ _ _=>k b u q
 slot:=fun b u q _ _ _=>⟨u.slots,k b u q⟩
 free:=fun b u q n _=>by rw[aJ (aW (bK (aG q) hp))];exact n
 there:=fun b u q _=>⟨u,k b u q⟩
 tups:=fun b xs q=>by rw[aJ (b9 q hn)];exact q
 frzs:=fun b u xs q=>by rw[aJ (b9 q hn)];exact q
 tbls:=fun b ps q=>⟨#[],by rw[aJ (b9 q hn),q];simp⟩
theorem Un.write (mu:Mut (H x)) (he:e=x∨H e=some (.own x)) (k:∀ b u,b≠e->h.get? b=some u->h'.get? b=some u) (heo:∃ u,h'.get? e=some u):Un fs ex H (upd H x o) h h':=by
 have hx:∀ b,H b=none->b≠x:=fun b n z=>by subst z;rw[n] at mu;exact mu
 have hb:∀ b,H b=none->b≠e:=fun b n z=>by
  subst z;rcases he with r | r
  ·exact hx b n r
  ·rw[n] at r;cases r
 have hm:∀ b u,H b=some u->¬ Mut (some u)->b≠x:=fun b u q nm z=>by subst z;rw[q] at mu;exact nm mu
 refine⟨fun b u q n _ _=>k b u (hb b n) q,fun b u q n _ _=>⟨u.slots,k b u (hb b n) q⟩,fun b u q n _=>by rw[aJ (hx b n)];exact n,fun b u q _=>?_,
  fun b xs q=>by rw[aJ (hm b _ q fun z=>z)];exact q,fun b u xs q=>by rw[aJ (hm b _ q fun z=>z)];exact q,fun b ps q=>⟨#[],by rw[aJ (hm b _ q fun z=>z),q];simp⟩⟩
 by_cases hbe:b=e
 ·subst hbe;exact heo
 ·exact⟨u,k b u hbe q⟩
theorem Un.mono (u:Un fs ex H H1 h h1) (hs:∀ b∈fs,b∈fs') (hx:∀ b∈ex,b∈ex'):Un fs' ex' H H1 h h1 :=
 ⟨fun b ob q n hb he=>u.keep b ob q n (fun z=>hb (hs b z)) fun z=>he (hx b z),fun _ _ q n _ he=>u.any q n fun z=>he (hx _ z),fun b ob q n he=>u.free b ob q n fun z=>he (hx b z),fun b ob q he=>u.there b ob q fun z=>he (hx b z),u.tups,u.frzs,u.tbls⟩
end
noncomputable def trk (h:Heap) (H:Hp):List Addr:=(List.range h.objs.size).filter fun a=>(H a).isSome
noncomputable def wM (h:Heap) (H:Hp):Heap:=PySem.W.hideAll h (trk h H)
theorem DG (h:Heap) (H:Hp):(wM h H).objs.size=h.objs.size:=PySem.W.hideAll_size _ _
theorem FD {H:Hp} (e:h.get? b=some o) (n:H b=none):(wM h H).get? b=some o :=
 PySem.W.hideAll_get _ e fun hm=>by have q:(H b).isSome=true:=(cA.mp hm).2;rw[n] at q;simp at q
theorem IQ {H:Hp} (e:(wM h H).get? b=some o):h.get? b=some o/\H b=none:=by
 have e':h.get? b=some o:=PySem.W.of_hideAll (trk h H) e;refine⟨e',?_⟩;cases q:H b with
 | none=>rfl
 | some x =>have hm:b∈trk h H:=cA.mpr ⟨cg.mpr (aG e'),by simp [q]⟩;have z:(wM h H).get? b=none:=PySem.W.hideAll_none (trk h H) hm;rw[z] at e;cases e
noncomputable def HG (g h:Heap) (L:Addr):Zp:=(List.range h.objs.size).filterMap fun a=>if a=L∨(g.get? a).isSome=true then none else (h.get? a).map fun o=>(a,o)
noncomputable def rest (g h:Heap) (L d:Addr):Zp:=(HG g h L).filter fun p=>decide (p.1≠d)
end
section
structure Mod (K:Zf) (mg:Zk) (base:Heap):Prop where
 kin:K.In base
 glob:base.Ns mainGlobals mg
 blt:∃ mb,base.Ns builtinsNs mb/\∀ x:Str,x≠"__name__"->mb x=bootBuiltins x
 nolimit:base.NoLimit
 bmn:∃ bm ob,mg "__builtins__"=some (.ref bm)/\bm≠builtinsNs/\base.get? bm=some ob/\ob.cls=.type "module"/\ob.dict=some builtinsNs/\ob.data=.plain
structure Cx where
 prog:Zh
 w:Zi
 K:Zf
 mg:Zk
 base:Heap
 A:Around
 N:Ze
 s₀:Zg
 H₀:Hp
 env:Env
 outer:List Env
 stack:List Env
 ex:List Addr
 fn:Str->Bool
 calm:Bool
 pn:Zp
 xe:Zq
noncomputable def frs (l:List Env):List Addr:=l.filterMap (·.frame)
noncomputable abbrev Cx.fs (X:Cx):List Addr:=frs X.outer
noncomputable def Vis (sc:Scope) (x:Str):Prop:=sc.names.lookup x=some .local∨sc.names.lookup x=some .cell∨sc.names.lookup x=some .free
noncomputable def Loc (sc:Scope) (x:Str):Prop:=sc.names.lookup x=some .local∨sc.names.lookup x=some .cell
noncomputable def Look (env:Env) (h:Heap) (m:Zk) (x:Str) (u:Value):Prop :=
 (env.kindOf x=some .local/\m x=some u)∨((env.kindOf x=some .cell∨env.kindOf x=some .free)/\∃ c,env.cells.lookup x=some c/\h.IsCell c (some u))
structure Cx.Ok (X:Cx):Prop where
 mod:Mod X.K X.mg X.base
 kind:X.env.scope.kind=.function
 glob:X.env.globals=mainGlobals
 blt:X.env.builtins=builtinsNs
 above:X.s₀.heap.objs.size<=X.env.locals
 inj:∀ x y c,X.env.cells.lookup x=some c->X.env.cells.lookup y=some c->x=y
 has:∀ x,(X.env.kindOf x=some .cell∨X.env.kindOf x=some .free)->∃ c,X.env.cells.lookup x=some c
 cab:∀ x c,X.fn x=true->X.env.cells.lookup x=some c->X.s₀.heap.objs.size<=c
 hd:X.calm=true->X.A.handled=none
 frames:X.A.frames=some X.stack
 stk:X.stack=X.outer∨(X.stack=X.env::X.outer/\X.env.frame=some X.env.locals)
 exf:∀ b∈X.ex,b≠X.env.locals/\∀ x c,X.env.cells.lookup x=some c->c≠b
 bs:∀ b o,X.base.get? b=some o->X.s₀.heap.get? b=some o/\X.H₀ b=none
 bsz:X.base.objs.size<=X.s₀.heap.objs.size
 noex:∀ b o,X.base.get? b=some o->b∉X.ex
 exfs:∀ b∈X.ex,b∉X.fs
 rE:X.s₀.heap.FunFrames X.base X.outer
 frf:∀ b∈X.fs,X.H₀ b=none
structure Inv (X:Cx) (Yp:Zp) (σ:List (Option V)) (H:Hp) (s:Zg):Prop where
 ok:X.Ok
 os:s.os=X.s₀.os
 bare:AllBare s.gens
 base:Un X.fs X.ex X.H₀ H X.s₀.heap s.heap
 loc:∃ m,s.heap.Ns X.env.locals m/\∀ (i:Nat) (x:Str) (v:V),X.N[i]?=some x->σ[i]?=some (some v)->Vis X.env.scope x->∃ u,RelV v u/\Look X.env s.heap m x u
 cell:∀ x c,X.env.cells.lookup x=some c->∃ v,s.heap.IsCell c v
 free:H X.env.locals=none
 freeC:∀ x c,X.env.cells.lookup x=some c->H c=none
 pin:∀ p∈X.pn++Yp,s.heap.get? p.1=some p.2/\H p.1=none/\p.1≠X.env.locals/\p.1∉X.fs/\∀ v,p.2.data≠.cell v
 hok:HOk X.prog X.w H s.heap
 len:σ.length=X.N.length
section
variable {X:Cx}{Yp:Zp}{σ:List (Option V)}{H H':Hp}{s:Zg}{h':Heap}
theorem Cx.Ok.Nt (ok:X.Ok)  (e:X.base.get? b=some o):b∉X.fs:=fun hb=>by have:=(ok.rE.mem hb).1;rw[e] at this;cases this
theorem Inv.bs (I:Inv X Yp σ H s):∀ b o,X.base.get? b=some o->s.heap.get? b=some o/\H b=none:=fun b o e =>⟨I.base.keep b o (I.ok.bs b o e).1 (I.ok.bs b o e).2 (I.ok.Nt e) (I.ok.noex b o e),I.base.free b o (I.ok.bs b o e).1 (I.ok.bs b o e).2 (I.ok.noex b o e)⟩
theorem Inv.bk (I:Inv X Yp σ H s):∀ b o,X.base.get? b=some o->s.heap.get? b=some o:=fun b o e=>(I.bs b o e).1
theorem Inv.mod (I:Inv X Yp σ H s):Mod X.K X.mg X.base:=I.ok.mod
theorem Inv.kIn (I:Inv X Yp σ H s):X.K.In s.heap:=I.ok.mod.kin.keeps I.bk
theorem Inv.nolimit (I:Inv X Yp σ H s):s.heap.NoLimit:=I.ok.mod.nolimit.keeps I.bk
theorem Inv.lt (I:Inv X Yp σ H s):X.env.locals<s.heap.objs.size:=let ⟨_,hn,_⟩:=I.loc;hn.lt
theorem Inv.sz (I:Inv X Yp σ H s):X.s₀.heap.objs.size<=s.heap.objs.size:=aV I.ok.above (aQ I.lt)
theorem Inv.Nu (I:Inv X Yp σ H s)  (h:s.heap.objs.size<=a):a∉X.fs:=fun hb=>by obtain⟨_,o,ho,_⟩:=I.ok.rE.mem hb;exact absurd (bK (aG ho) (aV I.sz h)) (ft _)
theorem Inv.cne (I:Inv X Yp σ H s):∀ x c,X.env.cells.lookup x=some c->c≠X.env.locals:=fun x c e z=>by obtain⟨v,o,ho,hd⟩:=I.cell x c e;obtain⟨m,⟨o',es,ep,ho',hd',_⟩,_⟩:=I.loc;rw[z,ho'] at ho;cases ho;rw[hd'] at hd;cases hd
theorem Inv.rE (I:Inv X Yp σ H s):s.heap.FunFrames X.base X.outer:=by
 have all:∀ (l:List Env),(∀ b∈frs l,b∈X.fs)->X.s₀.heap.FunFrames X.base l->s.heap.FunFrames X.base l:=by
  intro l
  induction l with
  | nil=>intro _ _;trivial
  | cons env r ih =>intro hs hl;obtain⟨hk,⟨L,o,hf,hn,ho,hd⟩,hr⟩:=hl;have hL:L∈X.fs:=hs L (by unfold frs;rw[nM,hf];exact aS);obtain⟨sl,e⟩:=I.base.slot L o ho (I.ok.frf L hL) hL fun z=>I.ok.exfs L z hL;exact⟨hk,⟨L,_,hf,hn,e,hd⟩,ih (fun b hb=>hs b (by unfold frs;rw[nM,hf];exact aU _ hb)) hr⟩
 exact all X.outer (fun _ hb=>hb) I.ok.rE
theorem Inv.stack (I:Inv X Yp σ H s):s.heap.FunFrames X.base X.stack:=by
 rcases I.ok.stk with e | ⟨e,hf⟩
 ·rw[e];exact I.rE
 ·rw[e];obtain⟨m,hn,_⟩:=I.loc;refine .cons (by rw[I.ok.kind];decide) hf hn ?_ I.rE;exact Heap.get?_none_of_le (aV I.ok.bsz I.ok.above)
theorem Inv.xO (I:Inv X Yp σ H s):∀ b∈frs X.stack,b∈X.env.locals::X.fs:=fun b hb=>by
 rcases I.ok.stk with e | ⟨e,hf⟩
 ·rw[e] at hb;exact aU _ hb
 ·rw[e] at hb;unfold frs at hb;rw[nM,hf] at hb;exact hb
theorem Inv.qP (I:Inv X Yp σ H s):∀ b∈frs X.stack,H b=none:=fun b hb=>by
 rcases aP.mp (I.xO b hb) with e | hb
 ·rw[e];exact I.free
 ·obtain⟨_,o,ho,_⟩:=I.ok.rE.mem hb;exact I.base.free b o ho (I.ok.frf b hb) fun z=>I.ok.exfs b z hb
theorem Inv.step {g':Array GenState}{t':Nat}{d':Drawn}{ch:List Addr} (I:Inv X Yp σ H s)
  (hch:∀ b∈ch,(b∈X.ex∨X.s₀.heap.objs.size<=b)/\b≠X.env.locals/\(∀ x c,X.env.cells.lookup x=some c->c≠b)/\∀ p∈X.pn++Yp,p.1≠b)
  (keep:∀ b o,b≠X.env.locals->b∉X.fs->b∉ch->s.heap.get? b=some o->H b=none->h'.get? b=some o)
  (slot:∀ b o,b≠X.env.locals->b∈X.fs->b∉ch->s.heap.get? b=some o->H b=none->∃ sl,h'.get? b=some { o with slots:=sl }) (free:∀ b o,b∉ch->s.heap.get? b=some o->H b=none->H' b=none)
  (there:∀ b o,b∉ch->s.heap.get? b=some o->∃ o',h'.get? b=some o')
  (tups:∀ b xs,H b=some (.tup xs)->H' b=some (.tup xs)) (frzs:∀ b o u,H b=some (.frz o u)->H' b=some (.frz o u)) (tbls:∀ b ps,H b=some (.tbl ps)->∃ more,H' b=some (.tbl (ps++more)))
  (ns:∀ m,s.heap.Ns X.env.locals m->h'.Ns X.env.locals m) (hok:HOk X.prog X.w H' h') (hg:AllBare g') :
  Inv X Yp σ H' { s with heap:=h',gens:=g',drawn:=d',toks:=t' }:=by
 have neL:∀ b o,X.s₀.heap.get? b=some o->b≠X.env.locals:=fun b o e=>aW (bK (aG e) I.ok.above);have neC:∀ b o,X.s₀.heap.get? b=some o->b∉X.ex->b∉ch:=fun b o e hx hb=>by
  rcases (hch b hb).1 with z | z
  ·exact hx z
  ·exact absurd (bK (aG e) z) (ft _)
 have cellK:∀ x c,X.env.cells.lookup x=some c->∀ v,s.heap.IsCell c v->h'.IsCell c v:=fun x c e v ⟨o,ho,hd⟩=>by
  have nch:c∉ch:=fun z=>(hch c z).2.2.1 x c e rfl
  by_cases hc:c∈X.fs
  ·obtain⟨sl,q⟩:=slot c o (I.cne x c e) hc nch ho (I.freeC x c e);exact⟨_,q,hd⟩
  ·exact⟨o,keep c o (I.cne x c e) hc nch ho (I.freeC x c e),hd⟩
 refine⟨I.ok,I.os,hg,⟨fun b o e n hb hx=>?_,fun b o e n hb hx=>?_,fun b o e n hx=>?_,fun b o e hx=>?_,fun b xs e=>tups b xs (I.base.tups b xs e),fun b o xs e=>frzs b o xs (I.base.frzs b o xs e),fun b ps e=>?_⟩,?_,fun x c e=>?_,?_,fun x c e=>?_,fun p hp=>?_,hok,I.len⟩
 ·exact keep b o (neL b o e) hb (neC b o e hx) (I.base.keep b o e n hb hx) (I.base.free b o e n hx)
 ·obtain⟨sl,e1⟩:=I.base.slot b o e n hb hx;obtain⟨sl',e2⟩:=slot b _ (neL b o e) hb (neC b o e hx) e1 (I.base.free b o e n hx);exact⟨sl',e2⟩
 ·obtain⟨o',e1⟩:=I.base.there b o e hx;exact free b o' (neC b o e hx) e1 (I.base.free b o e n hx)
 ·obtain⟨o',e1⟩:=I.base.there b o e hx;exact there b o' (neC b o e hx) e1
 ·obtain⟨m1,e1⟩:=I.base.tbls b ps e;obtain⟨m2,e2⟩:=tbls b _ e1;exact⟨m1++m2,by rw[e2,Array.append_assoc]⟩
 ·obtain⟨m,hn,hl⟩:=I.loc;refine⟨m,ns m hn,fun i x v e1 e2 e3=>?_⟩;obtain⟨u,r,l⟩:=hl i x v e1 e2 e3;refine⟨u,r,?_⟩;rcases l with l | ⟨k,c,e,z⟩
  ·exact .inl l
  ·exact .inr ⟨k,c,e,cellK x c e _ z⟩
 ·obtain⟨v,z⟩:=I.cell x c e;exact⟨v,cellK x c e v z⟩
 ·obtain⟨m,⟨o,_,_,ho,_⟩,_⟩:=I.loc;exact free _ o (fun z=>(hch _ z).2.1 rfl) ho I.free
 ·obtain⟨v,o,ho,hd⟩:=I.cell x c e;exact free c o (fun z=>(hch c z).2.2.1 x c e rfl) ho (I.freeC x c e)
 ·obtain⟨e,n,ne,nf,d⟩:=I.pin p hp;have nch:p.1∉ch:=fun z=>(hch p.1 z).2.2.2 p hp rfl;exact⟨keep p.1 p.2 ne nf nch e n,free p.1 p.2 nch e n,ne,nf,d⟩
theorem Inv.un {t':Nat} (I:Inv X Yp σ H s) (u:Un X.fs [] H H' s.heap h') (hok:HOk X.prog X.w H' h'):Inv X Yp σ H' { s with heap:=h',toks:=t' }:=by obtain⟨m,⟨o,es,ep,ho,r⟩,_⟩:=id I.loc;obtain⟨sl,hL⟩:=u.any ho I.free (by simp);exact I.step (g':=s.gens) (d':=s.drawn) (ch:=[]) (fun _ z=>nomatch z) (fun b o _ hb _ e n=>u.keep b o e n hb (by simp)) (fun b o _ hb _ e n=>u.slot b o e n hb (by simp)) (fun b o _ e n=>u.free b o e n (by simp)) (fun b o _ e=>u.there b o e (by simp)) u.tups u.frzs u.tbls (fun m' hm=>by obtain⟨o',es',ep',ho',r'⟩:=hm;rw[ho] at ho';cases ho';exact⟨_,es',ep',hL,r'⟩) hok I.bare
theorem Inv.call {t':Nat}{d':Drawn} (I:Inv X Yp σ H s) (u:Un (frs X.stack) ch H H' s.heap h') (hok:HOk X.prog X.w H' h') (hg:AllBare g')
  (hch:∀ b∈ch,(b∈X.ex∨X.s₀.heap.objs.size<=b)/\b≠X.env.locals/\(∀ x c,X.env.cells.lookup x=some c->c≠b)/\∀ p∈X.pn++Yp,p.1≠b) :
  Inv X Yp σ H' { s with heap:=h',gens:=g',drawn:=d',toks:=t' }:=by
 obtain⟨m,⟨o,es,ep,ho,r⟩,_⟩:=id I.loc;obtain⟨sl,hL⟩:=u.any ho I.free fun z=>(hch _ z).2.1 rfl;exact I.step (ch:=ch) hch (fun b o hL hb hc e n=>u.keep b o e n (fun z=>(aP.mp (I.xO b z)).elim hL hb) hc) (fun b o _ _ hc e n=>u.any e n hc) (fun b o hc e n=>u.free b o e n hc) (fun b o hc e=>u.there b o e hc) u.tups u.frzs u.tbls (fun m' hm=>by obtain⟨o',es',ep',ho',r'⟩:=hm;rw[ho] at ho';cases ho';exact⟨_,es',ep',hL,r'⟩) hok hg
theorem Inv.turned {t':Nat} (I:Inv X Yp σ H s) (k:∀ b o,b≠it->s.heap.get? b=some o->h'.get? b=some o) (hn:H it=none) (hL:it≠X.env.locals)
  (h1:it∈X.ex∨X.s₀.heap.objs.size<=it) (h2:∀ x c,X.env.cells.lookup x=some c->c≠it) (h3:∀ p∈X.pn++Yp,p.1≠it):Inv X Yp σ H { s with heap:=h',toks:=t' }:=by
 have nit:∀ b u,H b=some u->b≠it:=fun b u e z=>by rw[z,hn] at e;cases e
 refine I.step (g':=s.gens) (d':=s.drawn) (ch:=[it]) (fun b hb=>?_) (fun b o _ _ hc e _=>k b o (fun z=>hc (by simp [z])) e) (fun b o _ _ hc e _=>⟨o.slots,k b o (fun z=>hc (by simp [z])) e⟩) (fun _ _ _ _ n=>n)
  (fun b o hc e=>⟨o,k b o (fun z=>hc (by simp [z])) e⟩) (fun _ _ e=>e) (fun _ _ _ e=>e) (fun b ps e=>⟨#[],by rw[e];simp⟩) (fun m hm=>?_) (fun b u e=>?_) I.bare
 ·have e:b=it:=by simpa using hb
  subst e;exact⟨h1,hL,h2,h3⟩
 ·obtain⟨o,es,ep,ho,r⟩:=hm;exact⟨o,es,ep,k _ o (bD hL) ho,r⟩
 ·refine (I.hok b u e).mF (fun c v hc q=>k c v ?_ q) (fun _ q=>q) fun _ _ q=>q;rcases hc with z | z
  ·rw[z];exact nit b u e
  ·exact nit c _ z
theorem Inv.tok (I:Inv X Yp σ H s) (t:Nat):Inv X Yp σ H { s with toks:=t }:=I.un (h':=s.heap) (t':=t) Un.refl I.hok
theorem Inv.kept {t':Nat} (I:Inv X Yp σ H s) (k:∀ b u,s.heap.get? b=some u->h'.get? b=some u):Inv X Yp σ H { s with heap:=h',toks:=t' }:=I.un (Un.kept k) (I.hok.kept k)
theorem Inv.laid {a:Addr}{o:HO}{t':Nat} (I:Inv X Yp σ H s) (k:∀ b u,s.heap.get? b=some u->h'.get? b=some u) (hp:s.heap.objs.size<=a) (new:bY X.prog X.w (upd H a o) h' a o) :
  Inv X Yp σ (upd H a o) { s with heap:=h',toks:=t' }:=I.un (Un.laid k hp (I.hok.fresh hp)) (I.hok.laid k hp new)
theorem Inv.write {x e:Addr}{o:HO}{t':Nat} (I:Inv X Yp σ H s) (mu:Mut (H x)) (he:e=x∨H e=some (.own x)) (k:∀ b u,b≠e->s.heap.get? b=some u->h'.get? b=some u) (heo:∃ u,h'.get? e=some u)
  (new:bY X.prog X.w (upd H x o) h' x o):Inv X Yp σ (upd H x o) { s with heap:=h',toks:=t' }:=I.un (Un.write mu he k heo) (I.hok.write mu he k heo new)
theorem Inv.Cc {pins':Zp} (I:Inv X Yp σ H s) (h:∀ p∈pins',s.heap.get? p.1=some p.2/\H p.1=none/\p.1≠X.env.locals/\p.1∉X.fs/\∀ v,p.2.data≠.cell v):Inv X pins' σ H s :=
 ⟨I.ok,I.os,I.bare,I.base,I.loc,I.cell,I.free,I.freeC,fun p hp=>(bE.mp hp).elim (fun z=>I.pin p (lN _ z)) (h p),I.hok,I.len⟩
theorem uq {N:Ze} (hN:N.Nodup) {i j:Nat} (a:N[i]?=some x) (b:N[j]?=some x):i=j:=by obtain⟨h1,e1⟩:=b7.mp a;obtain⟨h2,e2⟩:=b7.mp b;exact (List.getElem_inj hN).mp (e1.trans e2.symm)
theorem wk {M:Model}{A:Around}{E:Zq}{v:V}{Q:Unit->Zg->Prop} (I:Inv X Yp σ H s) (hN:X.N.Nodup) (hi:X.N[i]?=some x) (hx:Loc X.env.scope x) (r:RelV v u)
  (h:∀ s',Inv X Yp (σ.set i (some v)) H s'->(∃ a,Heap.SameBut a s.heap s'.heap/\(a=X.env.locals∨X.env.cells.lookup x=some a))->Q () s') (hf:X.fn x=true∨X.env.scope.names.lookup x=some .local:=by first | exact .inl rfl | exact .inr rfl | assumption):wpAny M A (storeName X.env x u) Q E s:=by
 obtain⟨m,hn,hl⟩:=id I.loc;have hcls:(X.env.scope.kind==.class||(X.env.scope.kind==.module&&X.env.locals != X.env.globals))=false:=by rw[I.ok.kind];rfl
 have hiσ:i<σ.length:=by rw[I.len];exact (b7.mp hi).1
 have cne:=I.cne;have tracked:∀ {a:Addr}{h':Heap},(∃ o,s.heap.get? a=some o/\H a=none)->Heap.SameBut a s.heap h'->HOk X.prog X.w H h':=fun {a h'} ha hs b ob e=>by
  obtain⟨_,_,hfree⟩:=ha;refine (I.hok b ob e).mF (fun c w' hc q=>(hs.2 c ?_).trans q) (fun _ q=>q) fun _ _ q=>q;rintro rfl;rcases hc with rfl | hc
  ·rw[hfree] at e;cases e
  ·rw[hfree] at hc;cases hc
 rcases hx with hk | hk
 ·refine wpAny_storeName_local hk hn (fun h' hn' hs=>?_) hcls;obtain⟨oL,_,_,hoL,_⟩:=id hn;refine h _ ⟨I.ok,I.os,I.bare,⟨fun b o e n hb hx=>?_,fun b o e n hb hx=>?_,I.base.free,fun b o e hx=>?_,I.base.tups,I.base.frzs,I.base.tbls⟩,⟨_,hn',fun j y v' e1 e2 e3=>?_⟩,fun y c e=>?_,I.free,I.freeC,fun p hp=>?_,tracked ⟨oL,hoL,I.free⟩ hs,by simpa using I.len⟩ ⟨_,hs,.inl rfl⟩
  ·exact (hs.2 b (aW (bK (aG e) I.ok.above))).trans (I.base.keep b o e n hb hx)
  ·obtain⟨sl,e1⟩:=I.base.slot b o e n hb hx;exact⟨sl,(hs.2 b (aW (bK (aG e) I.ok.above))).trans e1⟩
  ·obtain⟨o',e1⟩:=I.base.there b o e hx;exact⟨o',(hs.2 b (aW (bK (aG e) I.ok.above))).trans e1⟩
  ·by_cases hj:j=i
   ·subst hj;rw[hi] at e1;cases e1;rw[jX hiσ] at e2;cases e2;exact⟨u,r,.inl ⟨hk,by simp⟩⟩
   ·rw[jc (bD hj)] at e2;obtain⟨u',r',q⟩:=hl j y v' e1 e2 e3;refine⟨u',r',?_⟩;rcases q with ⟨k,e⟩ | ⟨k,c,e,z⟩
    ·refine .inl ⟨k,?_⟩;have:y≠x:=fun e=>hj (uq hN e1 (e ▸ hi));simp [this,e]
    ·exact .inr ⟨k,c,e,z.sameBut hs (cne y c e)⟩
  ·obtain⟨w',z⟩:=I.cell y c e;exact⟨w',z.sameBut hs (cne y c e)⟩
  ·obtain⟨e,n,ne,nf,d⟩:=I.pin p hp;exact⟨(hs.2 p.1 ne).trans e,n,ne,nf,d⟩
 ·have hfn:X.fn x=true:=by
   rcases hf with z | z
   ·exact z
   ·rw[z] at hk;cases hk
  obtain⟨c,hc⟩:=I.ok.has x (.inl hk);obtain⟨w',z⟩:=I.cell x c hc;refine wpAny_storeName_cell I.ok.kind hk hc z (fun h' hc' hs=>?_);obtain⟨oc,hoc,hocd⟩:=id z;refine h { s with heap:=h' } ⟨I.ok,I.os,I.bare,⟨fun b o e n hb hx=>?_,fun b o e n hb hx=>?_,I.base.free,fun b o e hx=>?_,I.base.tups,I.base.frzs,I.base.tbls⟩,⟨m,hn.sameBut hs (bD (cne x c hc)),fun j y v' e1 e2 e3=>?_⟩,fun y c' e=>?_,I.free,I.freeC,fun p hp=>?_,tracked ⟨oc,hoc,I.freeC x c hc⟩ hs,by simpa using I.len⟩ ⟨c,hs,.inr hc⟩
  ·exact (hs.2 b (aW (bK (aG e) (I.ok.cab x c hfn hc)))).trans (I.base.keep b o e n hb hx)
  ·obtain⟨sl,e1⟩:=I.base.slot b o e n hb hx;exact⟨sl,(hs.2 b (aW (bK (aG e) (I.ok.cab x c hfn hc)))).trans e1⟩
  ·obtain⟨o',e1⟩:=I.base.there b o e hx;exact⟨o',(hs.2 b (aW (bK (aG e) (I.ok.cab x c hfn hc)))).trans e1⟩
  ·by_cases hj:j=i
   ·subst hj;rw[hi] at e1;cases e1;rw[jX hiσ] at e2;cases e2;exact⟨u,r,.inr ⟨.inl hk,c,hc,hc'⟩⟩
   ·rw[jc (bD hj)] at e2;obtain⟨u',r',q⟩:=hl j y v' e1 e2 e3;refine⟨u',r',?_⟩;rcases q with q | ⟨k,c',e,z'⟩
    ·exact .inl q
    ·refine .inr ⟨k,c',e,z'.sameBut hs ?_⟩;rintro rfl;exact hj (uq hN e1 (I.ok.inj _ _ _ e hc ▸ hi))
  ·by_cases hcc:c'=c
   ·subst hcc;exact⟨_,hc'⟩
   ·obtain⟨w2,z2⟩:=I.cell y c' e;exact⟨w2,z2.sameBut hs hcc⟩
  ·obtain⟨e,n,ne,nf,d⟩:=I.pin p hp;refine⟨(hs.2 p.1 ?_).trans e,n,ne,nf,d⟩;intro q;rw[q,hoc] at e;have q':oc=p.2:=Option.some.inj e;exact d w' (by rw[←q'];exact hocd)
theorem lF {M:Model}{A:Around}{E:Zq}{v:V}{Q:Unit->Zg->Prop} (I:Inv X Yp σ H s) (hN:X.N.Nodup) (hi:X.N[i]?=some x) (hx:Loc X.env.scope x) (r:RelV v u)
  (h:∀ s',Inv X Yp (σ.set i (some v)) H s'->Q () s') (hf:X.fn x=true∨X.env.scope.names.lookup x=some .local:=by first | exact .inl rfl | exact .inr rfl | assumption):wpAny M A (storeName X.env x u) Q E s :=
 wk I hN hi hx r (fun s' I' _=>h s' I') hf
theorem Inv.vD {s':Zg} (I:Inv X Yp σ H s) (ho:s'.os=s.os) (u:Un (frs X.stack) ch H H' s.heap s'.heap) (hok:HOk X.prog X.w H' s'.heap) (hg:AllBare s'.gens)
  (hch:∀ b∈ch,(b∈X.ex∨X.s₀.heap.objs.size<=b)/\b≠X.env.locals/\(∀ x c,X.env.cells.lookup x=some c->c≠b)/\∀ p∈X.pn++Yp,p.1≠b):Inv X Yp σ H' s':=by
 obtain⟨h',g',d',t',o'⟩:=s';have e:o'=s.os:=ho;subst e;exact I.call (g':=g') (t':=t') (d':=d') u hok hg hch
end
noncomputable abbrev XK:=Value->Option Addr->Hp->Prop
noncomputable abbrev St:=List (Option V)
noncomputable abbrev VK:=V->Hp->Prop
noncomputable abbrev TE:=St->Hp->VK->Prop
noncomputable abbrev TT:=St->Hp->(Bool->Hp->Prop)->Prop
noncomputable abbrev TA:=St->Hp->(List V->Hp->Prop)->Prop
structure Ends where
 nx:St->Hp->Prop
 rt:VK
 bk:St->Hp->Prop:=fun _ _=>False
 ct:St->Hp->Prop:=fun _ _=>False
noncomputable abbrev TS:=Ends->St->Hp->Prop
inductive EP (X:Cx) (Yp:Zp) (σ:St) (Q:VK) (u:Value) (s':Zg):Prop
 | mk (v:V) (H':Hp) (i:Inv X Yp σ H' s') (r:RelV v u) (q:Q v H'):EP X Yp σ Q u s'
inductive TP (X:Cx) (Yp:Zp) (σ:St) (Q:Bool->Hp->Prop) (b:Bool) (s':Zg):Prop
 | mk (H':Hp) (i:Inv X Yp σ H' s') (q:Q b H'):TP X Yp σ Q b s'
inductive AP (X:Cx) (Yp:Zp) (σ:St) (Q:List V->Hp->Prop) (us:Zc) (s':Zg):Prop
 | mk (vs:List V) (H':Hp) (i:Inv X Yp σ H' s') (r:Vals vs us) (q:Q vs H'):AP X Yp σ Q us s'
noncomputable def SP (X:Cx) (Yp:Zp) (D:Ends) (f:Flow) (s':Zg):Prop :=
 match f with
 | .next=>∃ σ' H',Inv X Yp σ' H' s'/\D.nx σ' H'
 | .brk=>∃ σ' H',Inv X Yp σ' H' s'/\D.bk σ' H'
 | .cont=>∃ σ' H',Inv X Yp σ' H' s'/\D.ct σ' H'
 | .ret u=>∃ v σ' H',Inv X Yp σ' H' s'/\RelV v u/\D.rt v H'
noncomputable def PE (X:Cx) (e:Expr) (t:TE):Prop :=
 ∀ (Yp:Zp) (s:Zg) (σ:St) (H:Hp) (Q:VK),Inv X Yp σ H s->t σ H Q->wpAny (model X.prog X.w) X.A (eval e X.env) (EP X Yp σ Q) X.xe s
noncomputable def PT (X:Cx) (e:Expr) (t:TT):Prop :=
 ∀ (Yp:Zp) (s:Zg) (σ:St) (H:Hp) (Q:Bool->Hp->Prop),Inv X Yp σ H s->t σ H Q->wpAny (model X.prog X.w) X.A (isTrue e X.env (eval e X.env)) (TP X Yp σ Q) X.xe s
noncomputable def PW (X:Cx) (e:Expr) (t:TT):Prop :=
 ∀ (whole:Sem Value) (Yp:Zp) (s:Zg) (σ:St) (H:Hp) (Q:Bool->Hp->Prop),Inv X Yp σ H s->t σ H Q->wpAny (model X.prog X.w) X.A (isTrue e X.env whole) (TP X Yp σ Q) X.xe s
theorem PW.pt {X:Cx}{t:TT} (h:PW X e t):PT X e t:=h _
noncomputable def PA (X:Cx) (es:List Expr) (t:TA):Prop :=
 ∀ (pos:Pos) (Yp:Zp) (s:Zg) (σ:St) (H:Hp) (Q:List V->Hp->Prop),Inv X Yp σ H s->t σ H Q->wpAny (model X.prog X.w) X.A (spliced (backTo pos (starEach es X.env))) (AP X Yp σ Q) X.xe s
noncomputable def PS (X:Cx) (st:Stmt) (t:TS):Prop :=
 ∀ (Yp:Zp) (s:Zg) (σ:St) (H:Hp) (D:Ends),Inv X Yp σ H s->t D σ H->wpAny (model X.prog X.w) X.A (exec st X.env) (SP X Yp D) X.xe s
noncomputable def PSs (X:Cx) (st:List Stmt) (t:TS):Prop :=
 ∀ (Yp:Zp) (s:Zg) (σ:St) (H:Hp) (D:Ends),Inv X Yp σ H s->t D σ H->wpAny (model X.prog X.w) X.A (execs st X.env) (SP X Yp D) X.xe s
theorem thn {α:Type}{t:Sem α}{Q Q':α->Zg->Prop} (h:wpAny M A t Q E s) (hQ:∀ a s,Q a s->Q' a s):wpAny M A t Q' E s:=bM h hQ fun _ _ x=>x
end
section
section
variable {X:Cx}
noncomputable def xQ (i:Nat):TE:=fun σ H Q=>∃ v,σ[i]?=some (some v)/\Q v H
noncomputable def tC (v:V):TE:=fun _ H Q=>Q v H
theorem GC (hN:X.N[i]?=some x) (hv:Vis X.env.scope x) (hd:(x==("__debug__":Str))=false:=by decide) (hcd:(x==("__classdict__":Str))=false:=by decide):PE X (.Name x pos) (xQ i):=by
 intro Yp s σ H Q I h;obtain⟨v,e,h⟩:=h;obtain⟨m,hn,hl⟩:=I.loc;obtain⟨u,r,l⟩:=hl i x v hN e hv;have fin:EP X Yp σ Q u s:=⟨v,H,I,r,h⟩;rcases l with ⟨hk,hm⟩ | ⟨hk,c,hc,hcell⟩
 ·exact wpAny_Name (wpAny_loadName_local I.ok.kind hk hn hm fin) hd
 ·rcases hk with hk | hk
  ·exact wpAny_Name (wpAny_loadName_cell I.ok.kind hk hc hcell fin) hd
  ·exact wpAny_Name (wpAny_loadName_free I.ok.kind hk hc hcell fin hcd) hd
theorem au {i j pos}:PE X (.Constant (.int i) j pos) (tC (.int i)):=fun _ _ _ H _ I h=>wpAny_Constant_int ⟨.int i,H,I.tok _,⟨_,rfl⟩,h⟩
theorem kx {b j pos}:PE X (.Constant (.bool b) j pos) (tC (.bl b)):=fun _ _ _ H _ I h=>Constant_bool ⟨.bl b,H,I,rfl,h⟩
theorem gD {j pos}:PE X (.Constant .none j pos) (tC .non):=fun _ _ _ H _ I h=>Constant_none ⟨.non,H,I,rfl,h⟩
theorem aY {x j pos}:PE X (.Constant (.str x) j pos) (tC (.str x)):=fun _ _ _ H _ I h=>Calls.Constant_str ⟨.str x,H,I.tok _,⟨_,rfl⟩,h⟩
noncomputable def Gl (X:Cx) (x:Str):Prop:=X.env.kindOf x=some .globalImplicit
theorem ko {E:Zq}{σ:St}{H:Hp}{pos:Pos} (I:Inv X Yp σ H s) (hg:Gl X x) (hm:X.mg x=some u) (h:Q u s)
  (hd:(x==("__debug__":Str))=false:=by decide):wpAny (model X.prog X.w) X.A (eval (.Name x pos) X.env) Q E s :=
 Calls.Name_function_global I.ok.kind hg (Calls.loadGlobal_global (by rw[I.ok.glob];exact I.mod.glob.keeps I.bk) hm h) hd
theorem pf {E:Zq}{σ:St}{H:Hp}{pos:Pos} (I:Inv X Yp σ H s) (hg:Gl X x) (hm:X.mg x=none) (hv:bootBuiltins x=some u) (h:Q u s)
  (hn:x≠"__name__":=by decide) (hd:(x==("__debug__":Str))=false:=by decide):wpAny (model X.prog X.w) X.A (eval (.Name x pos) X.env) Q E s:=by
 obtain⟨mb,h1,h2⟩:=I.mod.blt;exact Calls.Name_function_global I.ok.kind hg (Calls.loadGlobal_builtin (by rw[I.ok.glob];exact I.mod.glob.keeps I.bk) hm (by rw[I.ok.blt];exact h1.keeps I.bk) ((h2 x hn).trans hv) h) hd
theorem Jd {v:V} (hg:Gl X x) (hm:X.mg x=some u) (r:RelV v u) (hd:(x==("__debug__":Str))=false:=by decide):PE X (.Name x pos) (tC v) :=
 fun _ _ _ H _ I h=>ko I hg hm ⟨v,H,I,r,h⟩ hd
theorem IZ {v:V} (hg:Gl X x) (hm:X.mg x=none) (hv:bootBuiltins x=some u) (r:RelV v u) (hn:x≠"__name__":=by decide) (hd:(x==("__debug__":Str))=false:=by decide):PE X (.Name x pos) (tC v) :=
 fun _ _ _ H _ I h=>pf I hg hm hv ⟨v,H,I,r,h⟩ hn hd
variable {a b:Expr}{ta tb:TE}{pos:Pos}
noncomputable def tB (t:TE):TT:=fun σ H Q=>t σ H fun x H1=>∃ c,x=.bl c/\Q c H1
theorem cD {t:TE} (h:PE X e t) (he:∀ whole,isTrue e X.env whole=(do let v ←whole;standAt e.pos;holding [v] (truthy v)):=by intro _;rfl):PT X e (tB t):=by intro Yp s σ H Q I hw;refine isTrue_plain (thn (h Yp s σ H _ I hw) fun v s1 ⟨x,H1,I1,r1,q1⟩=>?_) (he _);obtain⟨d,rfl,q⟩:=q1;cases r1;exact fB ⟨H1,I1,q⟩
variable {tA tB':TT}{rest:List Expr}
noncomputable def MJ (t u:TT):TT:=fun σ H Q=>t σ H fun c H1=>if c=true then u σ H1 Q else Q false H1
noncomputable def tOr (t u:TT):TT:=fun σ H Q=>t σ H fun c H1=>if c=true then Q true H1 else u σ H1 Q
noncomputable def MM (t:TT):TT:=fun σ H Q=>t σ H fun c H1=>Q (!c) H1
theorem xB (ha:PT X a tA):PW X (.BoolOp .And [a] pos) tA:=by
 intro wh Yp s σ H Q I h;refine isTrue_and (thn (ha Yp s σ H Q I h) fun c s1 e=>?_);cases c with
 | true=>exact isTrue_and_nil e
 | false=>exact e
theorem gE (ha:PT X a tA):PW X (.BoolOp .Or [a] pos) tA:=by
 intro wh Yp s σ H Q I h;refine isTrue_or (thn (ha Yp s σ H Q I h) fun c s1 e=>?_);cases c with
 | false=>exact isTrue_or_nil e
 | true=>exact e
theorem xA (ha:PT X a tA) (hb:PW X (.BoolOp .And (b::rest) pos) tB'):PW X (.BoolOp .And (a::b::rest) pos) (MJ tA tB'):=by
 intro wh Yp s σ H Q I h;refine isTrue_and (thn (ha Yp s σ H _ I h) fun c s1 ⟨H1,I1,q1⟩=>?_);cases c with
 | true=>exact hb wh Yp s1 σ H1 Q I1 q1
 | false=>exact⟨H1,I1,q1⟩
theorem iR (ha:PT X a tA) (hb:PW X (.BoolOp .Or (b::rest) pos) tB'):PW X (.BoolOp .Or (a::b::rest) pos) (tOr tA tB'):=by
 intro wh Yp s σ H Q I h;refine isTrue_or (thn (ha Yp s σ H _ I h) fun c s1 ⟨H1,I1,q1⟩=>?_);cases c with
 | true=>exact⟨H1,I1,q1⟩
 | false=>exact hb wh Yp s1 σ H1 Q I1 q1
theorem cM (ha:PT X a tA):PT X (.UnaryOp .Not a pos) (MM tA):=by intro Yp s σ H Q I h;exact isTrue_not (thn (ha Yp s σ H (fun c H1=>Q (!c) H1) I h) fun c s1 ⟨H1,I1,q1⟩=>⟨H1,I1,q1⟩)
noncomputable def Ka (ta tb:TE):TE:=fun σ H Q=>ta σ H fun x H1=>∃ c,x=.bl c/\if c=true then tb σ H1 Q else Q (.bl false) H1
noncomputable def MN (ta tb:TE):TE:=fun σ H Q=>ta σ H fun x H1=>∃ c,x=.bl c/\if c=true then Q (.bl true) H1 else tb σ H1 Q
noncomputable def Kh (ta:TE):TE:=fun σ H Q=>ta σ H fun x H1=>∃ c,x=.bl c/\Q (.bl (!c)) H1
theorem mU {op}{t:TE} (h:PE X a t):PE X (.BoolOp op [a] pos) t:=fun Yp s σ H Q I hw=>BoolOp_one (h Yp s σ H Q I hw)
theorem pA (ha:PE X a ta) (hb:PE X (.BoolOp .And (b::rest) pos) tb):PE X (.BoolOp .And (a::b::rest) pos) (Ka ta tb):=by
 intro Yp s σ H Q I h;refine BoolOp_and (thn (ha Yp s σ H _ I h) fun v s1 ⟨x,H1,I1,r1,q1⟩=>?_);obtain⟨c,rfl,q1⟩:=q1;cases r1;refine fB ?_;cases c with
 | true=>exact hb Yp s1 σ H1 Q I1 q1
 | false=>exact⟨.bl false,H1,I1,rfl,q1⟩
theorem M6 (ha:PE X a ta) (hb:PE X (.BoolOp .Or (b::rest) pos) tb):PE X (.BoolOp .Or (a::b::rest) pos) (MN ta tb):=by
 intro Yp s σ H Q I h;refine BoolOp_or (thn (ha Yp s σ H _ I h) fun v s1 ⟨x,H1,I1,r1,q1⟩=>?_);obtain⟨c,rfl,q1⟩:=q1;cases r1;refine fB ?_;cases c with
 | false=>exact hb Yp s1 σ H1 Q I1 q1
 | true=>exact⟨.bl true,H1,I1,rfl,q1⟩
theorem L6 (ha:PE X a ta):PE X (.UnaryOp .Not a pos) (Kh ta):=by intro Yp s σ H Q I h;refine UnaryOp_ (thn (ha Yp s σ H _ I h) fun v s1 ⟨x,H1,I1,r1,q1⟩=>?_);obtain⟨c,rfl,q1⟩:=q1;cases r1;exact not_of (fB ⟨.bl (!c),H1,I1,rfl,q1⟩)
noncomputable def tIf (t:TT) (ta tb:TE):TE:=fun σ H Q=>t σ H fun c H1=>if c=true then ta σ H1 Q else tb σ H1 Q
theorem yR (hc:PT X c tA) (ha:PE X a ta) (hb:PE X b tb):PE X (.IfExp c a b pos) (tIf tA ta tb):=by
 intro Yp s σ H Q I h;refine wpAny_IfExp (thn (hc Yp s σ H _ I h) fun d s1 ⟨H1,I1,q1⟩=>?_);cases d with
 | true=>exact ha Yp s1 σ H1 Q I1 q1
 | false=>exact hb Yp s1 σ H1 Q I1 q1
end
end
section
noncomputable def SqL (K:Zf) (H:Hp) (a:Addr) (xs:List V):Prop :=
 Rd H a (.lst xs) ∨
  ∃ (o:Obj) (its:Array Value) (n:Nat),K.lookup a=some o/\o.cls=.type "list"/\o.dict=none/\o.data=.seq its n/\its.size<=sizeLine/\Vals xs its.toList
noncomputable def SqT (K:Zf) (H:Hp) (a:Addr) (xs:List V):Prop :=
 Rd H a (.tup xs) ∨
  ∃ (o:Obj) (its:Array Value) (n:Nat),K.lookup a=some o/\o.cls=.type "tuple"/\o.data=.seq its n/\its.size<=sizeLine/\Vals xs its.toList
noncomputable def Nj:Value->Option V
 | .none=>some .non
 | .bool b=>some (.bl b)
 | .int i _=>some (.int i)
 | .str x _=>some (.str x)
 | .bytes b _=>some (.byt b)
 | .float b _=>some (.flt b)
 | .ref a=>some (.ref a)
 | .type n=>some (.ty n)
 | _=>none
theorem RelV.abs {x:V} (r:RelV x u):Nj u=some x:=by
 cases x with
 | non=>cases r;rfl
 | bl _=>cases r;rfl
 | int _=>obtain⟨t,rfl⟩:=r;rfl
 | str _=>obtain⟨t,rfl⟩:=r;rfl
 | byt _=>obtain⟨t,rfl⟩:=r;rfl
 | flt _=>obtain⟨t,rfl⟩:=r;rfl
 | ref _=>cases r;rfl
 | ty _=>cases r;rfl
theorem RelV.inj {x y:V}{u:Value} (r:RelV x u) (q:RelV y u):x=y:=Option.some.inj (r.abs.symm.trans q.abs)
theorem Vals.inj:∀ {xs ys:List V}{us:Zc},Vals xs us->Vals ys us->xs=ys
 | _,_,_,.nil,.nil=>rfl
 | _,_,_,.cons r t,.cons r' t'=>by rw[r.inj r',Vals.inj t t']
section
variable {X:Cx}{Yp:Zp}{σ:St}{H:Hp}{s:Zg}{a:Addr}{xs ys:List V}
theorem SqL.of (h:H a=some (.lst xs)):SqL K H a xs:=.inl (.inl h)
theorem SqT.of (h:H a=some (.tup xs)):SqT K H a xs:=.inl (.inl h)
theorem Inv.list (I:Inv X Yp σ H s) (h:SqL X.K H a xs):∃ its:Zc,Vals xs its/\PlainL s.heap a its.toArray/\xs.length<=sizeLine:=by
 rcases h with h | ⟨o,its,n,hk,hc,hd,hs,hz,r⟩
 ·obtain⟨z,its,n,r,e⟩:=h.ok I.hok;exact⟨its,r,⟨_,n,e,rfl,rfl,rfl⟩,z⟩
 ·refine⟨its.toList,r,⟨o,n,I.kIn a o hk,hc,hd,by simpa using hs⟩,?_⟩;have e:=r.length;simp only[di] at e;lia
theorem Inv.tuple (I:Inv X Yp σ H s) (h:SqT X.K H a xs):∃ its:Zc,Vals xs its/\IsTup s.heap a its.toArray/\xs.length<=sizeLine:=by
 rcases h with h | ⟨o,its,n,hk,hc,hs,hz,r⟩
 ·obtain⟨z,its,r,p⟩:=h.ok I.hok;exact⟨its,r,p,z⟩
 ·refine⟨its.toList,r,⟨o,I.kIn a o hk,hc,n,by simpa using hs⟩,?_⟩;have e:=r.length;simp only[di] at e;lia
theorem Inv.qr (I:Inv X Yp σ H s) (h:SqL X.K H a xs) (h':SqL X.K H a ys):xs=ys:=by
 obtain⟨its,r,⟨o,n,e,_,_,d⟩,_⟩:=I.list h;obtain⟨its',r',⟨o',n',e',_,_,d'⟩,_⟩:=I.list h';rw[e] at e';cases e';rw[d] at d'
 injection d' with d1 _
 have:its=its':=by simpa using bJ Array.toList d1
 subst this;exact r.inj r'
theorem Inv.E2 (I:Inv X Yp σ H s) (h:SqT X.K H a xs) (h':SqT X.K H a ys):xs=ys:=by
 obtain⟨its,r,⟨o,e,_,n,d⟩,_⟩:=I.tuple h;obtain⟨its',r',⟨o',e',_,n',d'⟩,_⟩:=I.tuple h';rw[e] at e';cases e';rw[d] at d'
 injection d' with d1 _
 have:its=its':=by simpa using bJ Array.toList d1
 subst this;exact r.inj r'
end
section
variable {X:Cx}{Yp:Zp}{σ:St}{H:Hp}{s:Zg}{E:Zq}
end
section
variable {X:Cx}{st:Stmt}{rest:List Stmt}{t u:TS}{e:Expr}{te:TE}{pos:Pos}
noncomputable def Hs:TS:=fun D σ H=>D.nx σ H
noncomputable def Ht (t u:TS):TS:=fun D σ H=>t { D with nx:=u D } σ H
theorem bh:PSs X [] Hs:=fun _ _ σ H _ I h=>lX ⟨σ,H,I,h⟩
theorem ai (h1:PS X st t) (h2:PSs X rest u):PSs X (st::rest) (Ht t u):=by
 intro Yp s σ H D I h;refine wpAny_execs_cons (thn (h1 Yp s σ H { D with nx:=u D } I h) fun f s1 q=>?_);cases f with
 | next =>obtain⟨σ',H',I',q⟩:=q;exact h2 Yp s1 σ' H' D I' q
 | ret v=>exact q
 | brk=>exact q
 | cont=>exact q
theorem ao (h1:PS X st t):PSs X [st] t:=by
 intro Yp s σ H D I h;refine wpAny_execs_cons (thn (h1 Yp s σ H D I h) fun f s1 q=>?_);cases f with
 | next=>exact lX q
 | ret v=>exact q
 | brk=>exact q
 | cont=>exact q
theorem Inv.quiet {σ:St}{H:Hp} (I:Inv X Yp σ H s):interactive X.env=false:=by simp [interactive,I.ok.kind]
noncomputable def Kc (te:TE):TS:=fun D σ H=>te σ H fun _ H1=>D.nx σ H1
theorem dW (he:PE X e te) (hs:swapsWith e none pos.line X.env=pure false:=by rfl):PS X (.Expr e pos) (Kc te):=by intro Yp s σ H D I h;exact wpAny_Expr_any (thn (he Yp s σ H _ I h) fun v s1 ⟨x,H1,I1,r1,q1⟩=>⟨σ,H1,I1,q1⟩) I.quiet hs
noncomputable def LR (te:TE):TS:=fun D σ H=>te σ H D.rt
theorem aK (he:PE X e te):PS X (.Return (some e) pos) (LR te):=by intro Yp s σ H D I h;exact wpAny_Return_some (thn (he Yp s σ H _ I h) fun v s1 ⟨x,H1,I1,r1,q1⟩=>⟨x,σ,H1,I1,r1,q1⟩)
noncomputable def LQ (c:TT) (t u:TS):TS:=fun D σ H=>c σ H fun b H1=>if b=true then t D σ H1 else u D σ H1
theorem bT {a b:List Stmt}{tc:TT} (hc:PT X c tc) (ha:PSs X a t) (hb:PSs X b u):PS X (.If c a b pos) (LQ tc t u):=by
 intro Yp s σ H D I h;refine wpAny_If (thn (hc Yp s σ H _ I h) fun d s1 ⟨H1,I1,q1⟩=>?_);cases d with
 | true=>exact ha Yp s1 σ H1 D I1 q1
 | false=>exact hb Yp s1 σ H1 D I1 q1
end
noncomputable abbrev TG:=V->St->Hp->(St->Hp->Prop)->Prop
noncomputable abbrev TGs:=List V->St->Hp->(St->Hp->Prop)->Prop
noncomputable def PG (X:Cx) (target:Expr) (t:TG):Prop :=
 ∀ (Yp:Zp) (s:Zg) (σ:St) (H:Hp) (v:V) (u:Value) (Q:St->Hp->Prop),Inv X Yp σ H s->RelV v u->t v σ H Q →
  wpAny (model X.prog X.w) X.A (assign target X.env u) (fun _ s'=>∃ σ' H',Inv X Yp σ' H' s'/\Q σ' H') X.xe s
noncomputable def PGs (X:Cx) (ts:List Expr) (t:TGs):Prop :=
 ∀ (Yp:Zp) (s:Zg) (σ:St) (H:Hp) (vs:List V) (us:Zc) (Q:St->Hp->Prop),Inv X Yp σ H s->Vals vs us->t vs σ H Q →
  wpAny (model X.prog X.w) X.A (assignInOrder ((assignEach ts X.env).map (·.2)) us) (fun _ s'=>∃ σ' H',Inv X Yp σ' H' s'/\Q σ' H') X.xe s
noncomputable abbrev HF:=V->V->V->Hp->(Hp->Prop)->Prop
noncomputable def Kn (X:Cx) (t:HF):Prop :=
 ∀ (Yp:Zp) (s:Zg) (σ:St) (H:Hp) (o i v:V) (ov iv u:Value) (Q:Hp->Prop),Inv X Yp σ H s->RelV o ov->RelV i iv->RelV v u->t o i v H Q →
  wpAny (model X.prog X.w) X.A (setItem ov iv u) (fun _ s'=>∃ H',Inv X Yp σ H' s'/\Q H') X.xe s
section
variable {X:Cx}{pos:Pos}
noncomputable def gN (i:Nat):TG:=fun v σ H Q=>Q (σ.set i (some v)) H
theorem BY (hN:X.N.Nodup) (hi:X.N[i]?=some x) (hx:Loc X.env.scope x) (hf:X.fn x=true∨X.env.scope.names.lookup x=some .local:=by first | exact .inl rfl | exact .inr rfl | assumption):PG X (.Name x pos) (gN i):=by intro Yp s σ H v u Q I r h;exact wpAny_assign_Name (lF I hN hi hx r (fun s' I'=>⟨_,H,I',h⟩) hf)
noncomputable def F2:TGs:=fun vs σ H Q=>vs=[]/\Q σ H
noncomputable def sv (t:TG) (u:TGs):TGs:=fun vs σ H Q=>∃ v r,vs=v::r/\t v σ H fun σ' H'=>u r σ' H' Q
theorem qB:PGs X [] F2:=by intro Yp s σ H vs us Q I r h;obtain⟨e,h⟩:=h;subst e;cases r;exact assignInOrder_nil ⟨σ,H,I,h⟩
theorem gd {t:TG}{u:TGs} (h1:PG X e t) (h2:PGs X es u)
  (hs:(assignEach (e::es) X.env).map (·.2)=assign e X.env::(assignEach es X.env).map (·.2):=by rfl):PGs X (e::es) (sv t u):=by
 intro Yp s σ H vs us Q I r h;obtain⟨v,vr,e1,h⟩:=h;subst e1;cases r with
 | cons r rr =>rw[hs];refine assignInOrder_cons (thn (h1 Yp s σ H _ _ _ I r h) fun _ s1 ⟨σ1,H1,I1,q1⟩=>?_);exact h2 Yp s1 σ1 H1 _ _ Q I1 rr q1
noncomputable def F5 (K:Zf) (n:Nat) (t:TGs):TG:=fun v σ H Q=>∃ a xs,v=.ref a/\SqT K H a xs/\xs.length=n/\t xs σ H Q
theorem L8 {k:Nat}{t:TGs}{n:Nat} (hc:X.calm=true) (h:PGs X es t)
  (hn:(assignEach es X.env).length=n:=by rfl) (hst:(assignEach es X.env).findIdx? (·.1)=none:=by rfl):PG X (.Tuple es k pos) (F5 X.K n t):=by
 intro Yp s σ H v u Q I r hw;obtain⟨a,xs,e1,hq,hl,hw⟩:=hw;subst e1;cases r;obtain⟨its,rv,ht,hz⟩:=I.tuple hq;refine assign_Tuple_tuple (I.ok.hd hc) ht (by simp [hn,←hl,rv.length]) hst fun h' hx=>?_;have I1:Inv X Yp σ H { s with heap:=h' }:=I.kept (t':=s.toks) fun b o e=>hx b o (aW (aG e)) e;exact h Yp _ σ H xs _ Q I1 (by simpa using rv) hw
noncomputable def Mq (to ti:TE) (t:HF):TG:=fun v σ H Q=>to σ H fun o H1=>ti σ H1 fun i H2=>t o i v H2 fun H3=>Q σ H3
theorem L7 {o i:Expr}{to ti:TE}{t:HF} (ho:PE X o to) (hi:PE X i ti) (hs:Kn X t)
  (ha:∀ v,assign (.Subscript o i pos) X.env v=(do
   let ov ←holding [v] (eval o X.env);let iv ←holding [v,ov] (eval i X.env)
   standAt pos
   holding [v,ov,iv] (setItem ov iv v)
   release [v,ov,iv] []):=by intro _;rfl):PG X (.Subscript o i pos) (Mq to ti t):=by
 intro Yp s σ H v u Q I r h;rw[ha];refine aa (cW (thn (ho Yp s σ H _ I h) fun ov s1 ⟨x,H1,I1,r1,q1⟩=>?_));refine aa (cW (thn (hi Yp s1 σ H1 _ I1 q1) fun iv s2 ⟨y,H2,I2,r2,q2⟩=>?_));refine aa (jC (aa (cW (thn (hs Yp s2 σ H2 x y v ov iv u _ I2 r1 r2 r q2) fun _ s3 ⟨H3,I3,q3⟩=>?_))));exact wpAny_release ⟨σ,H3,I3,q3⟩
noncomputable def Ey (te:TE) (g:TG):TS:=fun D σ H=>te σ H fun x H1=>g x σ H1 D.nx
theorem LC {tg e:Expr}{te:TE}{g:TG} (he:PE X e te) (hg:PG X tg g) (hs:swapsWithSole [tg] e pos.line X.env=pure false:=by rfl) (hw:swappedStores [tg] e X.env=pure none:=by rfl)
  (h1:(assignEach [tg] X.env).map (·.2)=[assign tg X.env]:=by rfl):PS X (.Assign [tg] e pos) (Ey te g):=by
 intro Yp s σ H D I h;refine wpAny_Assign_stores (thn (he Yp s σ H _ I h) fun v s1 ⟨x,H1,I1,r1,q1⟩=>?_) hs hw;rw[h1];exact thn (hg Yp s1 σ H1 x v _ I1 r1 q1) fun _ s2 q=>q
theorem GI {te:TE}{pos':Pos} (hN:X.N.Nodup) (hi:X.N[i]?=some x) (hx:Loc X.env.scope x) (he:PE X e te) (hs:swapsWith e (some (.Name x pos')) pos.line X.env=pure false:=by rfl) (hf:X.fn x=true∨X.env.scope.names.lookup x=some .local:=by first | exact .inl rfl | exact .inr rfl | assumption) :
  PS X (.Assign [.Name x pos'] e pos) (Ey te (gN i)):=by
 intro Yp s σ H D I h;refine wpAny_Assign_Name (thn (he Yp s σ H _ I h) fun v s1 ⟨y,H1,I1,r1,q1⟩=>?_) hs;exact lF I1 hN hi hx r1 (fun s2 I2=>⟨_,H1,I2,q1⟩) hf
noncomputable def MO (i j:Nat) (ta:TA):TS:=fun D σ H=>ta σ H fun vs H1=>∃ v w,vs=[v,w]/\D.nx ((σ.set i (some v)).set j (some w)) H1
theorem LF {i j:Nat}{x y:Str}{a b:Expr}{ta:TA}{px py pt:Pos}{kt k2 pt2} (hc:X.calm=true) (hN:X.N.Nodup) (hi:X.N[i]?=some x) (hj:X.N[j]?=some y) (hij:i≠j)
  (hx:X.env.scope.names.lookup x=some .local) (hy:X.env.scope.names.lookup y=some .local) (ha:PA X [a,b] ta)
  (hw:swappedStores [.Tuple [.Name x px,.Name y py] kt pt] (.Tuple [a,b] k2 pt2) X.env=pure (some [x,y]))
  (hs:swapsWithSole [.Tuple [.Name x px,.Name y py] kt pt] (.Tuple [a,b] k2 pt2) pos.line X.env=pure false:=by rfl) :
  PS X (.Assign [.Tuple [.Name x px,.Name y py] kt pt] (.Tuple [a,b] k2 pt2) pos) (MO i j ta):=by
 intro Yp s σ H D I h;rw[exec_Assign_arm];refine aa (jC ?_);rw[hs];refine aa (ak ?_);rw[af (by decide)];refine aa (Tuple_ (thn (ha _ Yp s σ H _ I h) fun us s1 ⟨vs,H1,I1,r1,q1⟩=>?_));obtain⟨v,w,e1,q1⟩:=q1;subst e1;obtain⟨u1,u2,rfl,rv,rw'⟩:∃ u1 u2,us=[u1,u2]/\RelV v u1/\RelV w u2:=by
  cases r1 with
  | cons p q =>
   cases q with
   | cons p' q' =>
    cases q'
    exact⟨_,_,rfl,p,p'⟩
 refine gx ?_ (by show 2<=sizeLine;decide);have I2:Inv X Yp σ H1 { s1 with heap:=s1.heap.push { cls:=.type "tuple",data:=.seq [u1,u2].toArray } }:=I1.kept (t':=s1.toks) fun b o e=>aD _ e;rw[hw];refine aa (ak ?_);show wpAny (model X.prog X.w) X.A (do rule "assign.swapped-stores";let items ←unpackItems (.ref s1.heap.objs.size) 2 none;assignInOrder [fun v=>bindName X.env y v,fun v=>bindName X.env x v] items.reverse;pure Flow.next) _ _ _;refine aa (wpAny_rule (aa (unpackItems_tuple (items:=#[u1,u2]) (I.ok.hd hc) (IsTup.new s1.heap _) fun h' hx'=>?_)));have I3:=I2.kept (h':=h') (t':=s1.toks) fun b o e=>hx' b o (aW (aG e)) e;show wpAny _ _ (assignInOrder [fun v=>bindName X.env y v,fun v=>bindName X.env x v] [u2,u1] >>= fun _=>pure Flow.next) _ _ _;refine aa (assignInOrder_cons (wpAny_bindName (lF I3 hN hj (.inl hy) rw' (fun s2 I4=>?_) (.inr hy))));refine assignInOrder_cons (wpAny_bindName (lF I4 hN hi (.inl hx) rv (fun s3 I5=>assignInOrder_nil (ak ?_)) (.inr hx)));rw[List.set_comm _ _ (bD hij)] at I5;exact⟨_,H1,I5,q1⟩
end
section
variable {X:Cx}{pos:Pos}
noncomputable def Hu (c:TT) (tb:TS):TS:=fun D σ H=>∃ W:Nat->St->Hp->Prop,(∃ m,W m σ H)/\∀ m σ H,W m σ H →
 c σ H fun b H1=>if b=true then ∃ N:St->Hp->Prop,(∀ σ' H',N σ' H'->∃ m',m'<m/\W m' σ' H')/\tb { D with nx:=N,ct:=N,bk:=D.nx } σ H1 else D.nx σ H1
theorem uJ {tc:TT}{tb:TS} (hp:PassesOwn (model X.prog X.w) X.A X.env X.xe) (hc:PT X c tc) (hb:PSs X body tb):PS X (.While c body [] pos) (Hu tc tb):=by
 intro Yp s σ H D I h;obtain⟨W,⟨m0,w0⟩,turn⟩:=h;refine wpAny_While (codeAny_whileLoop (fun n s'=>∃ σ' H',Inv X Yp σ' H' s'/\W n σ' H') ?_ m0 ⟨σ,H,I,w0⟩);rintro n s1 ⟨σ1,H1,I1,w1⟩;refine kc hp (thn (hc Yp s1 σ1 H1 _ I1 (turn n σ1 H1 w1)) fun b s2 ⟨H2,I2,q2⟩=>?_);cases b with
 | true =>
  obtain⟨N,hN,q2⟩:=q2;rw[ah rfl];refine kc hp (thn (hb Yp s2 σ1 H2 _ I2 q2) fun f s3 q3=>?_);cases f with
  | next =>obtain⟨σ3,H3,I3,n3⟩:=q3;obtain⟨m',hm,w3⟩:=hN σ3 H3 n3;exact⟨m',hm,σ3,H3,I3,w3⟩
  | cont =>obtain⟨σ3,H3,I3,n3⟩:=q3;obtain⟨m',hm,w3⟩:=hN σ3 H3 n3;exact⟨m',hm,σ3,H3,I3,w3⟩
  | brk=>exact q3
  | ret v=>exact q3
 | false =>rw[af bS];exact lX ⟨σ1,H2,I2,q2⟩
end
structure It where
 go:Nat->Hp->Prop
 yld:Nat->Hp->V->Hp->Prop
 stop:Nat->Hp->Prop
noncomputable def sU (X:Cx) (Yp:Zp) (H:Hp) (b:Addr):Prop :=
 H b=none/\b≠X.env.locals/\b∉X.fs/\(b∈X.ex∨X.s₀.heap.objs.size<=b)/\(∀ x c,X.env.cells.lookup x=some c->c≠b)/\∀ p∈X.pn++Yp,p.1≠b
theorem Inv.wL {X:Cx}{σ:St}{H H':Hp} (I:Inv X Yp σ H s) (hb:s.heap.objs.size<=b) (hn:H' b=none):sU X Yp H' b:=by
 refine⟨hn,gm (bK I.lt hb),I.Nu hb,.inr (aV I.sz hb),fun x c e z=>?_,fun p hp z=>?_⟩
 ·obtain⟨v,q⟩:=I.cell x c e;exact absurd (bK q.lt (by rw[z];exact hb)) (ft _)
 ·exact absurd (bK (aG (I.pin p hp).1) (by rw[z];exact hb)) (ft _)
structure Turn (P:Zh) (w:Zi) (K:Zf) (tg:Expr) (J:It) (fp:List Addr) (it:Addr) (tn:Nat->Heap->Prop):Prop where
 mem:it∈fp
 obj:∀ i h,tn i h->∀ b∈fp,∃ o,h.get? b=some o/\∀ v,o.data≠.cell v
 keep:∀ i h h',tn i h->(∀ b∈fp,∀ o,h.get? b=some o->h'.get? b=some o)->tn i h'
 item:∀ (X:Cx),X.prog=P->X.w=w->X.K=K->X.calm=true->∀ (i:Nat) (Yp:Zp) (s:Zg) (σ:St) (H:Hp) (E:Zq),Inv X Yp σ H s->(∀ b∈fp,sU X Yp H b)->tn i s.heap->J.go i H →
  wpAny (model P w) X.A (pyNext (.ref it)) (fun r s1=>∃ u,r=some u ∧
   wpAny (model P w) X.A (letOwnedTupleGo tg (.ref it) u) (fun _ s2=>∃ x H',Inv X Yp σ H' s2/\RelV x u/\J.yld i H x H'/\tn (i+1) s2.heap/\∀ b∈fp,H' b=none) E s1) E s
 done:∀ (X:Cx),X.prog=P->X.w=w->X.K=K->X.calm=true->∀ (i:Nat) (Yp:Zp) (s:Zg) (σ:St) (H:Hp) (E:Zq),Inv X Yp σ H s->(∀ b∈fp,sU X Yp H b)->tn i s.heap->J.stop i H →
  wpAny (model P w) X.A (pyNext (.ref it)) (fun r s1=>r=none/\Inv X Yp σ H s1) E s
 self:∀ (A:Around) (i:Nat) (s:Zg) (Q:Zq) (E:Zq),tn i s.heap->Q (.ref it) s->wpAny (model P w) A (pyIter (.ref it)) Q E s
noncomputable abbrev TI:=St->Hp->(It->Hp->Prop)->Prop
noncomputable def PIE (X:Cx) (Yp:Zp) (σ:St) (tg:Expr) (R:It->Hp->Prop) (itv:Value) (s2:Zg):Prop :=
 ∃ (it:Addr) (fp:List Addr) (tn:Nat->Heap->Prop) (J:It) (H':Hp),itv=.ref it/\Inv X Yp σ H' s2/\Turn X.prog X.w X.K tg J fp it tn/\tn 0 s2.heap/\(∀ b∈fp,sU X Yp H' b)/\R J H'
noncomputable def PI (X:Cx) (tg iter:Expr) (wi:TI):Prop :=
 ∀ (Yp:Zp) (s:Zg) (σ:St) (H:Hp) (R:It->Hp->Prop),Inv X Yp σ H s->wi σ H R →
  wpAny (model X.prog X.w) X.A (eval iter X.env) (fun v s1=>wpAny (model X.prog X.w) X.A (pyIter v) (PIE X Yp σ tg R) X.xe s1) X.xe s
theorem yq {M:Model}{A:Around}{E:Zq}{tg:Expr}{u:Value}{n:String}{vs:Array Value}{Q:Unit->Zg->Prop} (ho:s.heap.get? it=some o) (hc:o.cls=.type n) (hd:o.data=.fields vs)
  (hn:["enumerate","zip","dict_itemiterator","dict_reverseitemiterator","odict_iterator","itertools.zip_longest","itertools.pairwise"].contains n=false) (hQ:Q () s):wpAny M A (letOwnedTupleGo tg (.ref it) u) Q E s:=by
 unfold letOwnedTupleGo;cases tg<;>first
  | exact ak hQ
  | (cases u<;>first
    | exact ak hQ
    | (refine aa (wpAny_load ho ?_)
       rw[hc,hd];show wpAny M A (if (["enumerate","zip","dict_itemiterator","dict_reverseitemiterator","odict_iterator","itertools.zip_longest","itertools.pairwise"].contains n&&vs[0]?==some (rawInt _))=true then _ else _) Q E s;rw[af (by intro h;rw[hn,gB] at h;cases h)];exact ak hQ))
noncomputable def Itl (K:Zf) (a:Addr):It :=
 ⟨fun i H=>∃ xs x,SqL K H a xs/\xs[i]?=some x,fun i H x H'=>H'=H/\∀ xs,SqL K H a xs->xs[i]?=some x,fun i H=>∃ xs,SqL K H a xs/\xs.length<=i⟩
noncomputable def Itt (K:Zf) (a:Addr):It :=
 ⟨fun i H=>∃ xs x,SqT K H a xs/\xs[i]?=some x,fun i H x H'=>H'=H/\∀ xs,SqT K H a xs->xs[i]?=some x,fun i H=>∃ xs,SqT K H a xs/\xs.length<=i⟩
noncomputable def Itr (lo:Int) (n:Nat):It:=⟨fun i _=>i<n,fun i H x H'=>H'=H/\x=.int (lo+i),fun i _=>n<=i⟩
theorem E4 (a it:Addr):Turn P w K tg (Itl K a) [it] it (fun i h=>h.IsListIter it a i) where
 mem:=by simp
 obj:=fun i h st b hb=>by
  have e:b=it:=by simpa using hb
  subst e;obtain⟨o,e,c,d⟩:=st;exact⟨o,e,fun v z=>by rw[d] at z;cases z⟩
 keep:=fun i h h' st k=>st.at fun o e=>k it (by simp) o e
 item:=by intro X hP hw hK hc i Yp s σ H E I hf st hg;subst hP hw hK;obtain⟨xs,x,hq,hx⟩:=hg;obtain⟨its,rv,p,hz⟩:=I.list hq;obtain⟨u,hu,ru⟩:=rv.get hx;obtain⟨f0,f1,f2,f3,f4,f5⟩:=hf it (by simp);refine wpAny_pyNext_list_item st p.isList (x:=u) (by simpa using hu) fun h' st' sb=>?_;have I1:Inv X Yp σ H { s with heap:=h' }:=I.turned (t':=s.toks) (fun b o hb e=>(sb.2 b hb).trans e) f0 f1 f3 f4 f5;obtain⟨o,e,c,d⟩:=id st';exact⟨u,rfl,yq (s:={ s with heap:=h' }) e c d Zd ⟨x,H,I1,ru,⟨rfl,fun ys hy=>by rw[I.qr hy hq];exact hx⟩,st',fun b hb=>(hf b hb).1⟩⟩
 done:=by intro X hP hw hK hc i Yp s σ H E I hf st hg;subst hP hw hK;obtain⟨xs,hq,hx⟩:=hg;obtain⟨its,rv,p,hz⟩:=I.list hq;obtain⟨f0,f1,f2,f3,f4,f5⟩:=hf it (by simp);have hl:=rv.length;exact wpAny_pyNext_list_end (I.ok.hd hc) st p.isList (by simp;lia) fun h' eb=>⟨rfl,I.turned (t':=s.toks) (fun b o hb e=>eb b o hb e) f0 f1 f3 f4 f5⟩
 self:=fun _ _ _ _ _ st h=>wpAny_pyIter_listiter st h
theorem Bo (a it:Addr):Turn P w K tg (Itt K a) [it] it (fun i h=>h.IsTupleIter it a i) where
 mem:=by simp
 obj:=fun i h st b hb=>by
  have e:b=it:=by simpa using hb
  subst e;obtain⟨o,e,c,d⟩:=st;exact⟨o,e,fun v z=>by rw[d] at z;cases z⟩
 keep:=fun i h h' st k=>st.at fun o e=>k it (by simp) o e
 item:=by intro X hP hw hK hc i Yp s σ H E I hf st hg;subst hP hw hK;obtain⟨xs,x,hq,hx⟩:=hg;obtain⟨its,rv,p,hz⟩:=I.tuple hq;obtain⟨u,hu,ru⟩:=rv.get hx;obtain⟨f0,f1,f2,f3,f4,f5⟩:=hf it (by simp);refine wpAny_pyNext_tuple_item st (show s.heap.IsTuple a its.toArray from p) (x:=u) (by simpa using hu) fun h' st' sb=>?_;have I1:Inv X Yp σ H { s with heap:=h' }:=I.turned (t':=s.toks) (fun b o hb e=>(sb.2 b hb).trans e) f0 f1 f3 f4 f5;obtain⟨o,e,c,d⟩:=id st';exact⟨u,rfl,yq (s:={ s with heap:=h' }) e c d Zd ⟨x,H,I1,ru,⟨rfl,fun ys hy=>by rw[I.E2 hy hq];exact hx⟩,st',fun b hb=>(hf b hb).1⟩⟩
 done:=by intro X hP hw hK hc i Yp s σ H E I hf st hg;subst hP hw hK;obtain⟨xs,hq,hx⟩:=hg;obtain⟨its,rv,p,hz⟩:=I.tuple hq;obtain⟨f0,f1,f2,f3,f4,f5⟩:=hf it (by simp);have hl:=rv.length;exact wpAny_pyNext_tuple_end (I.ok.hd hc) st (show s.heap.IsTuple a its.toArray from p) (by simp;lia) fun h' eb=>⟨rfl,I.turned (t':=s.toks) (fun b o hb e=>eb b o hb e) f0 f1 f3 f4 f5⟩
 self:=fun _ _ _ _ _ st h=>wpAny_pyIter_tupleiter st h
theorem Bn (it:Addr) (lo:Int) (n:Nat):Turn P w K tg (Itr lo n) [it] it (fun i h=>IsRangeIter h it (lo+(i:Nat)*1) ((n:Int)-(i:Nat)) 1) where
 mem:=by simp
 obj:=fun i h st b hb=>by
  have e:b=it:=by simpa using hb
  subst e;exact⟨_,st,fun v z=>by have z':Data.fields _=Data.cell v:=z;cases z'⟩
 keep:=fun i h h' st k=>k it (by simp) _ st
 item:=by intro X hP hw hK hc i Yp s σ H E I hf st hg;subst hP hw hK;obtain⟨f0,f1,f2,f3,f4,f5⟩:=hf it (by simp);have W:=Walks.range (prog:=X.prog) (w:=X.w) (I.ok.hd hc) it lo 1 n;refine W.item i s _ _ hg st fun v h' tk hv st' kk=>?_;obtain⟨t,rfl⟩:=hv;have I1:Inv X Yp σ H { s with heap:=h',toks:=tk }:=I.turned (fun b o hb e=>kk b o (by simpa using hb) e) f0 f1 f3 f4 f5;refine⟨_,rfl,yq (s:={ s with heap:=h',toks:=tk }) (n:="range_iterator") st' rfl rfl Zd ⟨.int (lo+i),H,I1,⟨t,?_⟩,⟨rfl,rfl⟩,st',fun b hb=>(hf b hb).1⟩⟩;rw[Int.mul_one]
 done:=by intro X hP hw hK hc i Yp s σ H E I hf st hg;subst hP hw hK;obtain⟨f0,f1,f2,f3,f4,f5⟩:=hf it (by simp);exact wpAny_pyNext_range_end (I.ok.hd hc) st (by have:n<=i:=hg;lia) fun h' eb=>⟨rfl,I.turned (t':=s.toks) (fun b o hb e=>eb b o hb e) f0 f1 f3 f4 f5⟩
 self:=fun _ _ _ _ _ st h=>wpAny_pyIter_rangeiter st h
end
section
section
variable {X:Cx}{tg:Expr}
theorem yY {σ:St}{H:Hp}{R:It->Hp->Prop}{E:Zq}{lo hi:Int}{t u v:Tok}{tk:Nat} (I:Inv X Yp σ H s) (h1:-(2^62)<=lo) (h2:lo<2^62) (h3:-(2^62)<=hi) (h4:hi<2^62)
  (q:R (Itr lo (hi-lo).toNat) H):wpAny (model X.prog X.w) X.A (pyIter (.ref s.heap.objs.size)) (PIE X Yp σ tg R) E { s with heap:=s.heap.push { cls:=.type "range",data:=.fields #[.int lo t,.int hi u,.int 1 v] },toks:=tk }:=by
 refine wpAny_pyIter_range (IsRange.new ..) (small_one h1 h2 h3 h4) ?_;have I1:Inv X Yp σ H { s with heap:=s.heap.push { cls:=.type "range",data:=.fields #[.int lo t,.int hi u,.int 1 v] },toks:=tk }:=I.kept fun b o e=>aD _ e;refine⟨(s.heap.push { cls:=.type "range",data:=.fields #[.int lo t,.int hi u,.int 1 v] }).objs.size,[(s.heap.push { cls:=.type "range",data:=.fields #[.int lo t,.int hi u,.int 1 v] }).objs.size],_,_,H,rfl,
  I1.kept (t':=tk) fun b o e=>aD _ e,Bn _ lo (hi-lo).toNat,?_,fun b hb=>?_,q⟩
 ·have e1:lo+((0:Nat):Int)*1=lo:=by simp
  have e2:(((hi-lo).toNat:Nat):Int)-((0:Nat):Int)=Builtin.Range.rangeSize lo hi 1:=by rw[rangeSize_one];split<;>lia
  show IsRangeIter _ _ (lo+((0:Nat):Int)*1) ((((hi-lo).toNat:Nat):Int)-((0:Nat):Int)) 1;rw[e1,e2];exact bt _ rfl
 ·have e:b=(s.heap.push { cls:=.type "range",data:=.fields #[.int lo t,.int hi u,.int 1 v] }).objs.size:=by simpa using hb
  subst e;exact I1.wL (ar _) (I1.hok.fresh (ar _))
noncomputable def FH (ta:TA):TI:=fun σ H R=>ta σ H fun vs H1=>∃ j:Int,vs=[.int j]/\-(2^62)<=j/\j<2^62/\R (Itr 0 j.toNat) H1
noncomputable def FI (ta:TA):TI:=fun σ H R=>ta σ H fun vs H1=>∃ i j:Int,vs=[.int i,.int j]/\(-(2^62)<=i/\i<2^62/\-(2^62)<=j/\j<2^62)/\R (Itr i (j-i).toNat) H1
theorem Eh {a:Expr}{ta:TA}{p pos:Pos} (hg:Gl X "range") (hm:X.mg "range"=none) (ha:PA X [a] ta) (hs:starEach [a] X.env=[(false,eval a X.env)]:=by rfl):PI X tg (.Call (.Name "range" p) [a] [] pos) (FH ta):=by
 intro Yp s σ H R I h;refine Call_ (pf I hg hm boot_range (oh (thn (ha pos Yp s σ H _ I h) fun us s1 ⟨vs,H1,I1,r1,q1⟩=>?_) hs rfl));obtain⟨j,e,q1,q2,q⟩:=q1;subst e;cases r1 with
 | cons r rr =>
  cases rr
  obtain⟨t,rfl⟩:=r;exact call_range_1 (yY I1 (by lia) (by lia) q1 q2 (by simpa using q))
theorem Ei {a b:Expr}{ta:TA}{p pos:Pos} (hg:Gl X "range") (hm:X.mg "range"=none) (ha:PA X [a,b] ta) (hs:starEach [a,b] X.env=[(false,eval a X.env),(false,eval b X.env)]:=by rfl) (hs2:starEach [b] X.env=[(false,eval b X.env)]:=by rfl) :
  PI X tg (.Call (.Name "range" p) [a,b] [] pos) (FI ta):=by
 intro Yp s σ H R I h;refine Call_ (pf I hg hm boot_range (oh (thn (ha pos Yp s σ H _ I h) fun us s1 ⟨vs,H1,I1,r1,q1⟩=>?_) (by rw[hs,hs2]) (by rw[hs2];rfl)));obtain⟨i,j,e,⟨q1,q2,q3,q4⟩,q⟩:=q1;subst e;cases r1 with
 | cons r rr =>
  cases rr with
  | cons r' rr =>
   cases rr
   obtain⟨t,rfl⟩:=r;obtain⟨t',rfl⟩:=r';exact call_range_2 (yY I1 q1 q2 q3 q4 q)
noncomputable def MK (wi:TI) (g:TG) (tb:TS):TS:=fun D σ H=>wi σ H fun J H1=>∃ W:Nat->Nat->St->Hp->Prop,(∃ m,W 0 m σ H1)/\∀ i m σ H,W i m σ H →
 (J.stop i H/\D.nx σ H)∨(J.go i H/\∃ N:St->Hp->Prop,(∀ σ' H',N σ' H'->∃ m',m'<m/\W (i+1) m' σ' H')/\∀ x H',J.yld i H x H'->g x σ H' fun σ2 H2=>tb { D with nx:=N,ct:=N,bk:=D.nx } σ2 H2)
noncomputable def uH (fp:List Addr) (h:Heap):Zp:=fp.filterMap fun b=>(h.get? b).map fun o=>(b,o)
theorem mh (hb:b∈fp) (e:h.get? b=some o):(b,o)∈uH fp h:=nW.mpr ⟨b,hb,by rw[e];rfl⟩
theorem DY {p:Addr×Obj} (hp:p∈uH fp h):p.1∈fp/\h.get? p.1=some p.2:=by
 obtain⟨b,hb,e⟩:=nW.mp hp;cases q:h.get? b with
 | none=>rw[q] at e;cases e
 | some o =>rw[q] at e;have e':(b,o)=p:=Option.some.inj e;subst e';exact⟨hb,q⟩
theorem Inv.pinned {σ:St}{H:Hp} (I:Inv X Yp σ H s) (hf:∀ b∈fp,sU X Yp H b) (ho:∀ b∈fp,∃ o,s.heap.get? b=some o/\∀ v,o.data≠.cell v):Inv X (Yp++uH fp s.heap) σ H s :=
 I.Cc fun p hp=>(bE.mp hp).elim (fun z=>I.pin p (eR _ z)) fun z=>by obtain⟨hb,e⟩:=DY z;obtain⟨f0,f1,f2,_⟩:=hf p.1 hb;obtain⟨o,e',d⟩:=ho p.1 hb;rw[e] at e';cases e';exact⟨e,f0,f1,f2,d⟩
theorem Inv.qS {Yp pl:Zp}{σ:St}{H:Hp} (I:Inv X (Yp++pl) σ H s):Inv X Yp σ H s:=I.Cc fun p hp=>I.pin p (eR _ (lN _ hp))
theorem eZ {iter:Expr}{wi:TI}{g:TG}{tb:TS}{pos:Pos} (hp:PassesOwn (model X.prog X.w) X.A X.env X.xe) (hc:X.calm=true) (hi:PI X tg iter wi) (hg:PG X tg g) (hb:PSs X body tb)
  (hs:∀ x,foldedSetIterable iter X.env x=pure x:=by intro _;rfl):PS X (.For tg iter body [] pos) (MK wi g tb):=by
 intro Yp s σ H D I h;refine wpAny_For (thn (hi Yp s σ H _ I h) fun v s1 h1=>thn h1 fun itv s2 h2=>?_) hs;obtain⟨it,fp,tn,J,H2,e,I2,T,st2,f2,W,⟨m0,w0⟩,turn⟩:=h2;subst e
 -- what stays true of the iterator's objects through the loop
 have stat:∀ {H':Hp},(∀ b∈fp,H' b=none)->∀ b∈fp,sU X Yp H' b:=fun hn b hb=>⟨hn b hb,(f2 b hb).2⟩;refine codeAny_forLoop_any (fun n s'=>∃ i σ' H',Inv X Yp σ' H' s'/\tn i s'.heap/\(∀ b∈fp,H' b=none)/\W i n σ' H') ?_ m0 ⟨0,σ,H2,I2,st2,fun b hb=>(f2 b hb).1,w0⟩;rintro n s3 ⟨i,σ3,H3,I3,st3,fr3,w3⟩;rcases turn i n σ3 H3 w3 with ⟨stop,qn⟩ | ⟨go,N,hN,step⟩
 ·refine kc hp (thn (T.done X rfl rfl rfl hc i Yp s3 σ3 H3 X.xe I3 (stat fr3) st3 stop) fun r s4 ⟨hr,I4⟩=>?_);subst hr;exact lX ⟨σ3,H3,I4,qn⟩
 ·refine kc hp (thn (T.item X rfl rfl rfl hc i Yp s3 σ3 H3 X.xe I3 (stat fr3) st3 go) fun r s4 ⟨u,hr,h4⟩=>?_);subst hr;refine kc hp (thn h4 fun _ s5 ⟨x,H5,I5,r5,y5,st5,fr5⟩=>?_);have I5':=I5.pinned (stat fr5) (T.obj _ _ st5);refine kc hp (thn (hg _ s5 σ3 H5 x u _ I5' r5 (step x H5 y5)) fun _ s6 ⟨σ6,H6,I6,q6⟩=>?_);refine kc hp (thn (hb _ s6 σ6 H6 _ I6 q6) fun f s7 q7=>?_);have again:∀ {σ7:St}{H7:Hp},Inv X (Yp++uH fp s5.heap) σ7 H7 s7->N σ7 H7->∃ m,m<n/\∃ i σ' H',Inv X Yp σ' H' s7/\tn i s7.heap/\(∀ b∈fp,H' b=none)/\W i m σ' H':=fun {σ7 H7} I7 n7=>by
   obtain⟨m',hm,w7⟩:=hN σ7 H7 n7;refine⟨m',hm,i+1,σ7,H7,I7.qS,T.keep _ _ _ st5 fun b hb o e=>(I7.pin (b,o) (eR _ (eR _ (mh hb e)))).1,fun b hb=>?_,w7⟩;obtain⟨o,e,d⟩:=T.obj _ _ st5 b hb;exact (I7.pin (b,o) (eR _ (eR _ (mh hb e)))).2.1
  cases f with
  | next=>obtain⟨σ7,H7,I7,n7⟩:=q7;exact again I7 n7
  | cont=>obtain⟨σ7,H7,I7,n7⟩:=q7;exact again I7 n7
  | brk=>obtain⟨σ7,H7,I7,q7⟩:=q7;exact⟨σ7,H7,I7.qS,q7⟩
  | ret v=>obtain⟨x7,σ7,H7,I7,r7,q7⟩:=q7;exact⟨x7,σ7,H7,I7.qS,r7,q7⟩
end
theorem Fy {xs:List V}{g:TG}{tb:TS}{D:Ends}{σ:St}{H:Hp} (Pv:Nat->St->Hp->Prop) (h0:Pv 0 σ H) (hl:∀ i σ H,i<=xs.length->Pv i σ H->SqL K H a xs)
  (hs:∀ i x σ H,xs[i]?=some x->Pv i σ H->g x σ H fun σ2 H2=>tb { D with nx:=Pv (i+1),ct:=Pv (i+1),bk:=D.nx } σ2 H2) (hd:∀ σ H,Pv xs.length σ H->D.nx σ H) :
  ∃ W:Nat->Nat->St->Hp->Prop,(∃ m,W 0 m σ H)/\∀ i m σ H,W i m σ H →
   ((Itl K a).stop i H/\D.nx σ H)∨((Itl K a).go i H/\∃ N:St->Hp->Prop,(∀ σ' H',N σ' H'->∃ m',m'<m/\W (i+1) m' σ' H')/\∀ x H',(Itl K a).yld i H x H'->g x σ H' fun σ2 H2=>tb { D with nx:=N,ct:=N,bk:=D.nx } σ2 H2):=by
 refine⟨fun i m σ H=>m=xs.length-i/\i<=xs.length/\Pv i σ H,⟨xs.length,by simp,bj _,h0⟩,?_⟩;rintro i m σ H ⟨rfl,hi,p⟩;have q:=hl i σ H hi p
 by_cases hlt:i<xs.length
 ·refine .inr ⟨⟨xs,xs[i],q,by simp [hlt]⟩,Pv (i+1),fun σ' H' p'=>⟨xs.length-(i+1),by lia,rfl,hlt,p'⟩,fun x H' y=>?_⟩;obtain⟨e,y⟩:=y;subst e;exact hs i x σ _ (y xs q) p
 ·have e:i=xs.length:=by lia
  subst e;exact .inl ⟨⟨xs,q,ar _⟩,hd σ H p⟩
theorem DC {lo:Int}{n:Nat}{g:TG}{tb:TS}{D:Ends}{σ:St}{H:Hp} (Pv:Nat->St->Hp->Prop) (h0:Pv 0 σ H)
  (hs:∀ i σ H,i<n->Pv i σ H->g (.int (lo+i)) σ H fun σ2 H2=>tb { D with nx:=Pv (i+1),ct:=Pv (i+1),bk:=D.nx } σ2 H2) (hd:∀ σ H,Pv n σ H->D.nx σ H) :
  ∃ W:Nat->Nat->St->Hp->Prop,(∃ m,W 0 m σ H)/\∀ i m σ H,W i m σ H →
   ((Itr lo n).stop i H/\D.nx σ H)∨((Itr lo n).go i H/\∃ N:St->Hp->Prop,(∀ σ' H',N σ' H'->∃ m',m'<m/\W (i+1) m' σ' H')/\∀ x H',(Itr lo n).yld i H x H'->g x σ H' fun σ2 H2=>tb { D with nx:=N,ct:=N,bk:=D.nx } σ2 H2):=by
 refine⟨fun i m σ H=>m=n-i/\i<=n/\Pv i σ H,⟨n,by simp,bj _,h0⟩,?_⟩;rintro i m σ H ⟨rfl,hi,p⟩
 by_cases hlt:i<n
 ·refine .inr ⟨hlt,Pv (i+1),fun σ' H' p'=>⟨n-(i+1),by lia,rfl,hlt,p'⟩,fun x H' y=>?_⟩;obtain⟨e,y⟩:=y;subst e y;exact hs i σ _ hlt p
 ·have e:i=n:=by lia
  subst e;exact .inl ⟨ar _,hd σ H p⟩
end
section
noncomputable abbrev R2:=V->V->Hp->VK->Prop
noncomputable def OpR (X:Cx) (f:Value->Value->Sem Value) (r:R2):Prop :=
 ∀ (Yp:Zp) (s:Zg) (σ:St) (H:Hp) (x y:V) (v u:Value) (Q:VK),Inv X Yp σ H s->RelV x v->RelV y u->r x y H Q →
  wpAny (model X.prog X.w) X.A (f v u) (EP X Yp σ Q) X.xe s
noncomputable def UnR (X:Cx) (f:Value->Sem Value) (r:V->Hp->VK->Prop):Prop :=
 ∀ (Yp:Zp) (s:Zg) (σ:St) (H:Hp) (x:V) (v:Value) (Q:VK),Inv X Yp σ H s->RelV x v->r x H Q →
  wpAny (model X.prog X.w) X.A (f v) (EP X Yp σ Q) X.xe s
noncomputable def dr (X:Cx) (f:Value) (r:List V->Hp->VK->Prop):Prop :=
 ∀ (Yp:Zp) (s:Zg) (σ:St) (H:Hp) (xs:List V) (us:Zc) (Q:VK),Inv X Yp σ H s->Vals xs us->r xs H Q →
  wpAny (model X.prog X.w) X.A (call f us) (EP X Yp σ Q) X.xe s
noncomputable def tOp (r:R2) (ta tb:TE):TE:=fun σ H Q=>ta σ H fun x H1=>tb σ H1 fun y H2=>r x y H2 Q
noncomputable def tUn (r:V->Hp->VK->Prop) (ta:TE):TE:=fun σ H Q=>ta σ H fun x H1=>r x H1 Q
noncomputable def rI (C:Int->Int->Prop) (g:Int->Int->V):R2:=fun x y H Q=>∃ i j,x=.int i/\y=.int j/\C i j/\Q (g i j) H
noncomputable def rI0 (g:Int->Int->V):R2:=fun x y H Q=>∃ i j,x=.int i/\y=.int j/\Q (g i j) H
noncomputable def rU (g:Int->V):V->Hp->VK->Prop:=fun x H Q=>∃ i,x=.int i/\Q (g i) H
section
variable {X:Cx}{a b c:Expr}{ta tb tc:TE}{pos:Pos}
theorem K3 (ha:PE X a ta) (hb:PE X b tb) {σ:St}{H:Hp}{R:V->V->Hp->Prop} (I:Inv X Yp σ H s)
  (h:ta σ H fun x H1=>tb σ H1 fun y H2=>R x y H2) {Q:Zq}{f:Value->Value->Sem Value}
  (hf:∀ v u s2 x y H2,Inv X Yp σ H2 s2->RelV x v->RelV y u->R x y H2->wpAny (model X.prog X.w) X.A (f v u) Q X.xe s2) :
  wpAny (model X.prog X.w) X.A (eval a X.env) (fun v s₁=>wpAny (model X.prog X.w) X.A (eval b X.env) (fun u s₂=>wpAny (model X.prog X.w) X.A (f v u) Q X.xe s₂) X.xe s₁) X.xe s:=by
 refine thn (ha Yp s σ H _ I h) fun v s1 ⟨x,H1,I1,r1,q1⟩=>?_;refine thn (hb Yp s1 σ H1 _ I1 q1) fun u s2 ⟨y,H2,I2,r2,q2⟩=>?_;exact hf v u s2 x y H2 I2 r1 r2 q2
theorem aA {op:Operator}{r:R2} (ho:OpR X (binaryOp op) r) (ha:PE X a ta) (hb:PE X b tb):PE X (.BinOp a op b pos) (tOp r ta tb):=by intro Yp s σ H Q I h;exact wpAny_BinOp (K3 ha hb I h fun v u s2 x y H2 I2 rx ry q=>ho Yp s2 σ H2 x y v u Q I2 rx ry q)
theorem GB {op:UnaryOp}{r:V->Hp->VK->Prop} (ho:UnR X (unaryOp op) r) (ha:PE X a ta):PE X (.UnaryOp op a pos) (tUn r ta):=by intro Yp s σ H Q I h;exact UnaryOp_ (thn (ha Yp s σ H _ I h) fun v s1 ⟨x,H1,I1,r1,q1⟩=>ho Yp s1 σ H1 x v Q I1 r1 q1)
theorem opI {f:Value->Value->Sem Value}{C:Int->Int->Prop}{g:Int->Int->Int}
  (rule:∀ (i j:Int) (t u:Tok) (s:Zg) (Q:Zq) (E:Zq),C i j->Q (.int (g i j) s.toks) { s with toks:=s.toks+1 }->wpAny (model X.prog X.w) X.A (f (.int i t) (.int j u)) Q E s) :
  OpR X f (rI C fun i j=>.int (g i j)):=by
 intro Yp s σ H x y v u Q I rx ry h;obtain⟨i,j,rfl,rfl,hc,q⟩:=h;obtain⟨t,rfl⟩:=rx;obtain⟨t',rfl⟩:=ry;exact rule i j t t' s _ _ hc ⟨.int (g i j),H,I.tok _,⟨_,rfl⟩,q⟩
theorem Mx {f:Value->Value->Sem Value}{g:Int->Int->Int}
  (rule:∀ (i j:Int) (t u:Tok) (s:Zg) (Q:Zq) (E:Zq),Q (.int (g i j) s.toks) { s with toks:=s.toks+1 }->wpAny (model X.prog X.w) X.A (f (.int i t) (.int j u)) Q E s) :
  OpR X f (rI0 fun i j=>.int (g i j)):=by
 intro Yp s σ H x y v u Q I rx ry h;obtain⟨i,j,rfl,rfl,q⟩:=h;obtain⟨t,rfl⟩:=rx;obtain⟨t',rfl⟩:=ry;exact rule i j t t' s _ _ ⟨.int (g i j),H,I.tok _,⟨_,rfl⟩,q⟩
theorem IU {f:Value->Value->Sem Value}{g:Int->Int->Bool}
  (rule:∀ (i j:Int) (t u:Tok) (s:Zg) (Q:Zq) (E:Zq),Q (.bool (g i j)) s->wpAny (model X.prog X.w) X.A (f (.int i t) (.int j u)) Q E s) :
  OpR X f (rI0 fun i j=>.bl (g i j)):=by
 intro Yp s σ H x y v u Q I rx ry h;obtain⟨i,j,rfl,rfl,q⟩:=h;obtain⟨t,rfl⟩:=rx;obtain⟨t',rfl⟩:=ry;exact rule i j t t' s _ _ ⟨.bl (g i j),H,I,rfl,q⟩
noncomputable def Nf (i j:Int):Prop:=0<=j/\j<=1000000/\i.natAbs<2^64
theorem Lk:OpR X (binaryOp .Add) (rI0 fun i j=>.int (i+j)):=Mx fun _ _ _ _ _ _ _ q=>add_int q
theorem Lx:OpR X (binaryOp .Sub) (rI0 fun i j=>.int (i-j)):=Mx fun _ _ _ _ _ _ _ q=>sub_int q
theorem Lr:OpR X (binaryOp .Mod) (rI (fun _ j=>0<j) fun i j=>.int (i%j)):=opI fun i j _ _ _ _ _ hc q=>by have h1:(0:Int)<j:=hc;exact mod_int' (by lia) (by rw[Int.fmod_eq_emod_of_nonneg i (by lia)];exact q)
theorem Lv:OpR X (binaryOp .Pow) (rI Nf fun i j=>.int (i^j.toNat)):=opI fun _ _ _ _ _ _ _ hc q=>pow_int_small hc.1 hc.2.1 hc.2.2 q
theorem unI {f:Value->Sem Value}{g:Int->Int}
  (rule:∀ (i:Int) (t:Tok) (s:Zg) (Q:Zq) (E:Zq),Q (.int (g i) s.toks) { s with toks:=s.toks+1 }->wpAny (model X.prog X.w) X.A (f (.int i t)) Q E s) :
  UnR X f (rU fun i=>.int (g i)):=by
 intro Yp s σ H x v Q I rx h;obtain⟨i,rfl,q⟩:=h;obtain⟨t,rfl⟩:=rx;exact rule i t s _ _ ⟨.int (g i),H,I.tok _,⟨_,rfl⟩,q⟩
theorem Bp:UnR X (unaryOp .USub) (rU fun i=>.int (-i)):=unI fun _ _ _ _ _ q=>neg_int q
end
noncomputable def MI:V->V->Bool
 | .non,.non=>true | .non,.int _=>true | .int _,.non=>true | .non,.bl _=>true | .bl _,.non=>true | .non,.str _=>true | .str _,.non=>true
 | .int _,.int _=>true | .bl _,.bl _=>true | .str _,.str _=>true | .byt _,.byt _=>true
 | .int _,.str _=>true | .str _,.int _=>true | .bl _,.str _=>true | .str _,.bl _=>true
 | _,_=>false
noncomputable def rEq:R2:=fun x y H Q=>MI x y=true/\Q (.bl (decide (x=y))) H
noncomputable def rNe:R2:=fun x y H Q=>MI x y=true/\Q (.bl (!decide (x=y))) H
theorem BD {i j:Int}:decide (V.int i=V.int j)=(i==j):=by rw[Bool.eq_iff_iff];simp
theorem Ff {i j:Bool}:decide (V.bl i=V.bl j)=(i==j):=by rw[Bool.eq_iff_iff];simp
theorem BE {i j:Str}:decide (V.str i=V.str j)=(i==j):=by rw[Bool.eq_iff_iff];simp
theorem BC {i j:Array UInt8}:decide (V.byt i=V.byt j)=(i.toList==j.toList):=by rw[Bool.eq_iff_iff];cases i;cases j;simp
section
variable {X:Cx}{a b c:Expr}{ta tb tc:TE}{pos:Pos}
theorem c4 {σ:St}{H:Hp}{Q:VK}{k k':Bool} (I:Inv X Yp σ H s) (q:Q (.bl k) H) (e:k=k'):EP X Yp σ Q (.bool k') s:=by subst e;exact⟨.bl k,H,I,rfl,q⟩
theorem Gk:OpR X (compareOp .Eq) rEq:=by
 intro Yp s σ H x y v u Q I rx ry h;obtain⟨hs,q⟩:=h;cases x with
 | non =>
  cases rx
  cases y with
  | non=>cases ry;exact PySem.EqNone.eq_none_none (c4 I q (by simp))
  | bl j=>cases ry;exact PySem.EqNone.eq_none_bool (c4 I q (by simp))
  | int j=>obtain⟨t',rfl⟩:=ry;exact PySem.EqNone.eq_none_int (c4 I q (by simp))
  | str j=>obtain⟨t',rfl⟩:=ry;exact PySem.EqNone.eq_none_str (c4 I q (by simp))
  | _=>exact absurd (show false=true from hs) bS
 | bl i =>
  cases rx
  cases y with
  | non=>cases ry;exact PySem.EqNone.eq_bool_none (c4 I q (by simp))
  | bl j=>cases ry;exact eq_bool (c4 I q Ff)
  | str j=>obtain⟨t',rfl⟩:=ry;exact PySem.EqMixed.eq_bool_str (c4 I q (by simp))
  | _=>exact absurd (show false=true from hs) bS
 | int i =>
  obtain⟨t,rfl⟩:=rx;cases y with
  | non=>cases ry;exact PySem.EqNone.eq_int_none (c4 I q (by simp))
  | int j=>obtain⟨t',rfl⟩:=ry;exact eq_int (c4 I q BD)
  | str j=>obtain⟨t',rfl⟩:=ry;exact PySem.EqMixed.eq_int_str (c4 I q (by simp))
  | _=>exact absurd (show false=true from hs) bS
 | str i =>
  obtain⟨t,rfl⟩:=rx;cases y with
  | non=>cases ry;exact PySem.EqNone.eq_str_none (c4 I q (by simp))
  | bl j=>cases ry;exact PySem.EqMixed.eq_str_bool (c4 I q (by simp))
  | int j=>obtain⟨t',rfl⟩:=ry;exact PySem.EqMixed.eq_str_int (c4 I q (by simp))
  | str j=>obtain⟨t',rfl⟩:=ry;exact eq_str (c4 I q BE)
  | _=>exact absurd (show false=true from hs) bS
 | byt i =>
  obtain⟨t,rfl⟩:=rx;cases y with
  | byt j=>obtain⟨t',rfl⟩:=ry;exact PySem.W.eq_bytes (c4 I q BC)
  | _=>exact absurd (show false=true from hs) bS
 | _=>cases y<;>exact absurd (show false=true from hs) bS
theorem Gr:OpR X (compareOp .NotEq) rNe:=by
 intro Yp s σ H x y v u Q I rx ry h;obtain⟨hs,q⟩:=h;cases x with
 | non =>
  cases rx
  cases y with
  | non=>cases ry;exact PySem.EqNone.ne_none_none (c4 I q (by simp))
  | bl j=>cases ry;exact PySem.EqNone.ne_none_bool (c4 I q (by simp))
  | int j=>obtain⟨t',rfl⟩:=ry;exact PySem.EqNone.ne_none_int (c4 I q (by simp))
  | str j=>obtain⟨t',rfl⟩:=ry;exact PySem.EqNone.ne_none_str (c4 I q (by simp))
  | _=>exact absurd (show false=true from hs) bS
 | bl i =>
  cases rx
  cases y with
  | non=>cases ry;exact PySem.EqNone.ne_bool_none (c4 I q (by simp))
  | bl j=>cases ry;exact ne_bool (c4 I q (bJ not Ff))
  | str j=>obtain⟨t',rfl⟩:=ry;exact PySem.EqMixed.ne_bool_str (c4 I q (by simp))
  | _=>exact absurd (show false=true from hs) bS
 | int i =>
  obtain⟨t,rfl⟩:=rx;cases y with
  | non=>cases ry;exact PySem.EqNone.ne_int_none (c4 I q (by simp))
  | int j=>obtain⟨t',rfl⟩:=ry;exact ne_int (c4 I q (bJ not BD))
  | str j=>obtain⟨t',rfl⟩:=ry;exact PySem.EqMixed.ne_int_str (c4 I q (by simp))
  | _=>exact absurd (show false=true from hs) bS
 | str i =>
  obtain⟨t,rfl⟩:=rx;cases y with
  | non=>cases ry;exact PySem.EqNone.ne_str_none (c4 I q (by simp))
  | bl j=>cases ry;exact PySem.EqMixed.ne_str_bool (c4 I q (by simp))
  | int j=>obtain⟨t',rfl⟩:=ry;exact PySem.EqMixed.ne_str_int (c4 I q (by simp))
  | str j=>obtain⟨t',rfl⟩:=ry;exact ne_str (c4 I q (bJ not BE))
  | _=>exact absurd (show false=true from hs) bS
 | byt i =>
  obtain⟨t,rfl⟩:=rx;cases y with
  | byt j=>obtain⟨t',rfl⟩:=ry;exact PySem.W.ne_bytes (c4 I q (bJ not BC))
  | _=>exact absurd (show false=true from hs) bS
 | _=>cases y<;>exact absurd (show false=true from hs) bS
theorem M3:OpR X (compareOp .Lt) (rI0 fun i j=>.bl (decide (i<j))):=IU fun _ _ _ _ _ _ _ q=>lt_int q
theorem M0:OpR X (compareOp .LtE) (rI0 fun i j=>.bl (decide (i<=j))):=IU fun _ _ _ _ _ _ _ q=>le_int q
theorem Mz:OpR X (compareOp .Gt) (rI0 fun i j=>.bl (decide (j<i))):=IU fun _ _ _ _ _ _ _ q=>gt_int q
theorem My:OpR X (compareOp .GtE) (rI0 fun i j=>.bl (decide (j<=i))):=IU fun _ _ _ _ _ _ _ q=>ge_int q
theorem Eb:OpR X (compareOp .In) (fun x y H Q=>∃ i j,x=.str i/\y=.str j/\Q (.bl (!(Builtin.Str.occurrences j i 0 j.length 1).isEmpty)) H):=by intro Yp s σ H x y v u Q I rx ry h;obtain⟨i,j,rfl,rfl,q⟩:=h;obtain⟨t,rfl⟩:=rx;obtain⟨t',rfl⟩:=ry;exact in_str (c4 I q rfl)
theorem Lq:OpR X (compareOp .Is) (fun x y H Q=>y=.non/\Q (.bl (decide (x=.non))) H):=by
 intro Yp s σ H x y v u Q I rx ry h;obtain⟨rfl,q⟩:=h;cases ry;refine is_none_gen (c4 I q ?_);cases x<;>first
  | (cases rx;rfl)
  | (obtain⟨t,rfl⟩:=rx;rfl)
theorem IW:OpR X (compareOp .IsNot) (fun x y H Q=>y=.non/\Q (.bl (!decide (x=.non))) H):=by
 intro Yp s σ H x y v u Q I rx ry h;obtain⟨rfl,q⟩:=h;cases ry;refine isnot_none_gen (c4 I q ?_);cases x<;>first
  | (cases rx;rfl)
  | (obtain⟨t,rfl⟩:=rx;rfl)
theorem xv:OpR X (compareOp .NotIn) (fun x y H Q=>∃ i j,x=.str i/\y=.str j/\Q (.bl (!(!(Builtin.Str.occurrences j i 0 j.length 1).isEmpty))) H):=by intro Yp s σ H x y v u Q I rx ry h;obtain⟨i,j,rfl,rfl,q⟩:=h;obtain⟨t,rfl⟩:=rx;obtain⟨t',rfl⟩:=ry;exact notIn_str (c4 I q rfl)
theorem bc (b:Expr)  (h:op≠.In:=by decide) (h2:op≠.NotIn:=by decide):behindInMarks op b=false:=by
 have e1:(op==CmpOp.In)=false:=by cases op<;>first | rfl | exact absurd rfl h
 have e2:(op==CmpOp.NotIn)=false:=by cases op<;>first | rfl | exact absurd rfl h2
 cases b<;>simp [behindInMarks,e1,e2]
theorem cZ {r:R2} (ho:OpR X (compareOp op) r) (ha:PE X a ta) (hb:PE X b tb) (hm:behindInMarks op b=false):PE X (.Compare a [op] [b] pos) (tOp r ta tb):=by intro Yp s σ H Q I h;exact wpAny_Compare1 (K3 ha hb I h fun v u s2 x y H2 I2 rx ry q=>ho Yp s2 σ H2 x y v u Q I2 rx ry q) hm
noncomputable def zw (t:TE):TT:=fun σ H Q=>t σ H fun x H'=>∃ k,x=.bl k/\Q k H'
theorem aX {r:R2} (ho:OpR X (compareOp op) r) (ha:PE X a ta) (hb:PE X b tb) (hm:behindInMarks op b=false):PT X (.Compare a [op] [b] pos) (zw (tOp r ta tb)):=by intro Yp s σ H Q I h;refine wpAny_isTrue_Compare1 (thn (ha Yp s σ H _ I h) fun v s1 ⟨x,H1,I1,r1,q1⟩=>thn (hb Yp s1 σ H1 _ I1 q1) fun u s2 ⟨y,H2,I2,r2,q2⟩ =>thn (ho Yp s2 σ H2 x y v u _ I2 r1 r2 q2) fun c s3 ⟨z,H3,I3,r3,k,e,q3⟩=>?_) hm;subst e;cases r3;exact fB ⟨H3,I3,q3⟩
noncomputable def Bi (r r':R2) (ta tb tc:TE):TE:=fun σ H Q=>ta σ H fun x H1=>tb σ H1 fun y H2=>r x y H2 fun z H3=>∃ k,z=.bl k ∧
 (if k=true then tc σ H3 fun w' H4=>r' y w' H4 Q else Q (.bl false) H3)
theorem Gw {op op':CmpOp}{r r':R2} (ho:OpR X (compareOp op) r) (ho':OpR X (compareOp op') r') (ha:PE X a ta) (hb:PE X b tb) (hc:PE X c tc)
  (hm:lastMarks [op,op'] [b,c]=false:=by with_unfolding_all rfl):PE X (.Compare a [op,op'] [b,c] pos) (Bi r r' ta tb tc):=by
 intro Yp s σ H Q I h;refine Compare_chain (thn (ha Yp s σ H _ I h) fun v s1 ⟨x,H1,I1,r1,q1⟩=>chain_link (thn (hb Yp s1 σ H1 _ I1 q1) fun u s2 ⟨y,H2,I2,r2,q2⟩ =>thn (ho Yp s2 σ H2 x y v u _ I2 r1 r2 q2) fun d s3 ⟨z,H3,I3,r3,k,e,q3⟩=>?_)) hm;subst e;cases r3;refine fB ?_;cases k with
 | false=>exact ite_ff ⟨.bl false,H3,I3,rfl,q3⟩
 | true=>exact ite_tt (chain_last (thn (hc Yp s3 σ H3 _ I3 q3) fun w' s4 ⟨z',H4,I4,r4,q4⟩=>ho' Yp s4 σ H4 y z' u w' Q I4 r2 r4 q4))
theorem qD {op op':CmpOp}{r r':R2} (ho:OpR X (compareOp op) r) (ho':OpR X (compareOp op') r') (ha:PE X a ta) (hb:PE X b tb) (hc:PE X c tc)
  (hm:lastMarks [op,op'] [b,c]=false:=by with_unfolding_all rfl):PT X (.Compare a [op,op'] [b,c] pos) (zw (Bi r r' ta tb tc)):=by
 intro Yp s σ H Q I h;refine isTrue_chain (thn (ha Yp s σ H _ I h) fun v s1 ⟨x,H1,I1,r1,q1⟩=>test_link (thn (hb Yp s1 σ H1 _ I1 q1) fun u s2 ⟨y,H2,I2,r2,q2⟩ =>thn (ho Yp s2 σ H2 x y v u _ I2 r1 r2 q2) fun d s3 ⟨z,H3,I3,r3,k,e,q3⟩=>?_)) hm;subst e;cases r3;refine fB ?_;cases k with
 | false =>obtain⟨k',e',q'⟩:=q3;cases e';exact ite_ff ⟨H3,I3,q'⟩
 | true =>refine ite_tt (test_last (thn (hc Yp s3 σ H3 _ I3 q3) fun w' s4 ⟨z',H4,I4,r4,q4⟩=>thn (ho' Yp s4 σ H4 y z' u w' _ I4 r2 r4 q4) fun d' s5 ⟨z2,H5,I5,r5,k2,e2,q5⟩=>?_));subst e2;cases r5;exact fB ⟨H5,I5,q5⟩
theorem rL:(sizeLine:Nat)<2^63:=by rw[i5];decide
theorem AH:OpR X (binaryOp .Add) (fun x y H Q=>∃ i j,x=.str i/\y=.str j/\i.length+j.length<=sizeLine/\Q (.str (i++j)) H):=by intro Yp s σ H x y v u Q I rx ry h;obtain⟨i,j,rfl,rfl,hz,q⟩:=h;obtain⟨t,rfl⟩:=rx;obtain⟨t',rfl⟩:=ry;exact add_str (fun t' tk=>⟨.str (i++j),H,I.tok _,⟨_,rfl⟩,q⟩) hz
theorem vals1 {x:V} (r:Vals [x] us):∃ u,us=[u]/\RelV x u:=by
 cases r with
 | cons r1 r2=>cases r2;exact⟨_,rfl,r1⟩
theorem vals2 {x y:V} (r:Vals [x,y] us):∃ u w',us=[u,w']/\RelV x u/\RelV y w':=by
 cases r with
 | cons r1 r2 =>
  cases r2 with
  | cons r3 r4=>cases r4;exact⟨_,_,rfl,r1,r3⟩
theorem EY:dr X (.builtin "abs") (fun xs H Q=>∃ i,xs=[.int i]/\Q (.int (if i<0 then -i else i)) H):=by intro Yp s σ H xs us Q I r h;obtain⟨i,rfl,q⟩:=h;obtain⟨u,rfl,t,rfl⟩:=vals1 r;exact call_abs_int fun u tk=>⟨.int (if i<0 then -i else i),H,I.tok _,⟨_,rfl⟩,q⟩
theorem CT (hc:X.calm=true):dr X (.builtin "min") (fun xs H Q=>∃ i j,xs=[.int i,.int j]/\Q (.int (if j<i then j else i)) H):=by
 intro Yp s σ H xs us Q I r h;obtain⟨i,j,rfl,q⟩:=h;obtain⟨u,w',rfl,⟨t,rfl⟩,⟨t',rfl⟩⟩:=vals2 r;refine min_two_ints (I.ok.hd hc) fun h' tk k=>⟨_,H,I.kept k,?_,q⟩
 by_cases hj:j<i
 ·rw[ah hj,ah hj];exact⟨_,rfl⟩
 ·rw[af hj,af hj];exact⟨_,rfl⟩
end
end
section
structure zD (h:Heap) (x dx C:Addr) (mA:Zk):Prop where
 obj:h.get? x=some (PySem.W.instObj C dx)
 ns:h.Ns1 dx mA
 ne:dx≠x
theorem vR {dx:Addr} (n:h.Ns1 dx mA):∃ od,h.get? dx=some od/\∀ name,PySem.W.lookIn name od=some (mA name):=by
 obtain⟨o,es,ep,ho,hd,hk,_,hm⟩:=n;refine⟨o,ho,fun name=>?_⟩;have e:=hm name;unfold nsFind findBy at e;rw[←Array.find?_toList] at e;unfold PySem.W.lookIn;rw[hd];dsimp only;split
 ·rename_i y q
  rw[q] at e;exact bJ some e
 ·rename_i q
  rw[q] at e;have a:es.toList.any (·.refKey)=false:=by rw[List.any_eq_false];intro y hy;obtain⟨z,t,hkey⟩:=hk y (Array.mem_toList_iff.mp hy);simp [DictEntry.refKey,hkey]
  have a':¬ es.toList.any (·.refKey)=true:=by rw[a];exact bS
  rw[af a'];exact bJ some e
theorem zD.look {x dx C:Addr} (I:zD h x dx C mA):∃ od,PySem.W.InstAt h x (PySem.W.instObj C dx) C (some od)/\∀ name,PySem.W.lookIn name od=some (mA name) :=
 let ⟨od,ho,hl⟩:=vR I.ns
 ⟨od,⟨I.obj,rfl,rfl,ho⟩,hl⟩
section
variable {prog:Zh}{w:Zi}{A:Around}{E:Zq}{s:Zg}{K:Zf}{x dx C f:Addr}{mA:Zk}{name:Str}{v:Value}
theorem get_map {expr:Bool}{Q:Zq} (X:K.In s.heap) (I:zD s.heap x dx C mA) (hg:PySem.W.plainGet K C name=true) (hh:PySem.W.hasDictIn K C=true)
  (ha:PySem.W.findIn K (.ref C) name=some none) (hv:mA name=some v) (hv':PySem.W.handedIn v=true) (h:Q v { s with toks:=s.toks+1 }) :
  wpAny (model prog w) A (getAttr (.ref x) name expr) Q E s:=by
 obtain⟨od,J,hl⟩:=I.look;exact PySem.W.get_value X J (PySem.W.plainGet_of hg).1 (PySem.W.findObj_own hh ha rfl (by rw[hl,hv])) hv' h
theorem F9 {pl:Sem Bool}{Q:Value×Zc->Zg->Prop} (X:K.In s.heap) (I:zD s.heap x dx C mA) (hg:PySem.W.plainGet K C name=true)
  (hf:PySem.W.findIn K (.ref C) name=some (some (.ref f))) (ht:PySem.W.isFn K (.ref f)=true) (hv:mA name=none) (h:Q (.ref f,[.ref x]) s) :
  wpAny (model prog w) A (getMethod (.ref x) name pl) Q E s:=by
 obtain⟨od,J,hl⟩:=I.look;exact PySem.W.method_fn X J (PySem.W.plainGet_of hg).1 (PySem.W.plainGet_of hg).2 hf (eT.mp ht) (by show (PySem.W.lookIn name od).map (·.isSome)=some false;rw[hl,hv];rfl) h
theorem J0 {ns:Ze}{Q:Unit->Zg->Prop} (X:K.In s.heap) (I:zD s.heap x dx C mA)
  (hs:PySem.W.findIn K (.ref C) "__setattr__"=some (some (.builtin "object.__setattr__"))) (hp:PySem.W.plainOver K C=true) (ht:PySem.W.takerIn K C name=some none) (hh:PySem.W.hasDictIn K C=true)
  (hw:PySem.Within mA ns) (hsz:ns.length<=sizeLine)
  (h:∀ h',zD h' x dx C (fun y=>if y=name then some v else mA y)->Heap.SameBut dx s.heap h'->Q () { s with heap:=h',toks:=s.toks+2 }) :
  wpAny (model prog w) A (setAttr (.ref x) name v) Q E s:=by
 obtain⟨od,J,hl⟩:=I.look;refine PySem.W.set_plain X J hs (PySem.W.osa_open (s:={ s with toks:=s.toks+1 }) (r:=none) X J hp ht fun b=>?_);obtain⟨cd,hc,hd'⟩:=PySem.W.any_some hh;have hx:s.heap.get? x=some ⟨.ref C,some dx,.plain,#[]⟩:=I.obj;refine aa (ak (aa (aa (wpAny_loadPart hx (aa (PySem.W.Looks.here (s:={ s with toks:=s.toks+1 }) (PySem.W.looks_clsIn X hc) ?_))))));rw[hd'];refine ak (a:=some dx) (aa (ak (aa ?_)));refine wpAny_nsSet1 (s:={ s with toks:=s.toks+1 }) I.ns fun h' hn2 hs2=>?_;obtain⟨oD,esD,epD,hoD,hdD,hcD⟩:=hn2.count (PySem.Within.cons name v hw);refine aa (wpAny_lookBehind hoD (by rw[hdD];exact pastItsLine_dict (aV hcD (by rw[aZ];lia))) ?_);exact ak (h _ ⟨(hs2.2 _ (bD I.ne)).trans I.obj,hn2,I.ne⟩ hs2)
theorem FX {R:Result->Zg->Prop}{vs:Zc}{kw:List (Str×Value)} (X:K.In s.heap) (hm:PySem.W.makesIn K C=true)
  (hi:PySem.W.findIn K (.ref C) "__init__"=some (some (.ref f))) (hf:PySem.W.typeIn K (.ref f)=some (.type "function"))
  (h:codeAny (model prog w) (A.under (.builtin "type.__call__" ⟨.ref C::vs,kw⟩)) (.call (.ref f) ⟨.ref (s.heap.objs.size+1)::vs,kw⟩) (PySem.W.InitBack (s.heap.objs.size+1) R)
   { s with heap:=(s.heap.push PySem.W.emptyDict).push (PySem.W.instObj C s.heap.objs.size) }) :
  codeAny (model prog w) A (.call (.ref C) ⟨vs,kw⟩) R s:=by
 obtain⟨hh,g,d,t,os⟩:=s;exact PySem.W.make_core (PySem.W.makes_of X hm) (rz X hi) (fun self=>PySem.W.bind_fn X self hf) (.inl rfl) h
end
noncomputable def mL (f:Str) (v:V):List (Str×V)->List (Str×V)
 | []=>[(f,v)]
 | (g,x)::r=>if g=f then (g,v)::r else (g,x)::mL f v r
theorem sD (f g:Str) (v:V):∀ fs:List (Str×V),(mL f v fs).lookup g=if g=f then some v else fs.lookup g
 | []=>by
  show List.lookup g [(f,v)]=_
  by_cases h:g=f
  ·have hb:(g==f)=true:=eT.mpr h;simp only[List.lookup,hb,ah h]
  ·have hb:(g==f)=false:=ka.mpr h;simp only[List.lookup,hb,af h]
 | (k,x)::r=>by
  have ih:=sD f g v r;rw[show mL f v ((k,x)::r)=(if k=f then (k,v)::r else (k,x)::mL f v r) from rfl]
  by_cases hk:k=f
  ·rw[ah hk]
   by_cases h:g=k
   ·have hb:(g==k)=true:=eT.mpr h;simp only[List.lookup,hb,ah (h.trans hk)]
   ·have hb:(g==k)=false:=ka.mpr h;simp only[List.lookup,hb,af (fun e:g=f=>h (e.trans hk.symm))]
  ·rw[af hk]
   by_cases h:g=k
   ·have hb:(g==k)=true:=eT.mpr h;simp only[List.lookup,hb,af (fun e:g=f=>hk (h.symm.trans e))]
   ·have hb:(g==k)=false:=ka.mpr h;simp only[List.lookup,hb];exact ih
theorem rJ (f:Str) (v:V):∀ fs:List (Str×V),f∈(mL f v fs).map (·.1)/\∀ g,g∈fs.map (·.1)->g∈(mL f v fs).map (·.1)
 | []=>⟨by simp [mL],fun g h=>by simp at h⟩
 | (k,x)::r=>by
  obtain⟨i1,i2⟩:=rJ f v r;rw[show mL f v ((k,x)::r)=(if k=f then (k,v)::r else (k,x)::mL f v r) from rfl]
  by_cases hk:k=f
  ·rw[ah hk];subst hk;exact⟨by simp,fun g h=>by simpa using h⟩
  ·rw[af hk];refine⟨?_,fun g h=>?_⟩
   ·rw[bf];exact aU _ i1
   ·rw[bf] at h ⊢;rcases aP.mp h with e | e
    ·exact aP.mpr (.inl e)
    ·exact aU _ (i2 g e)
theorem sy (f:Str) (v:V):∀ fs:List (Str×V),(mL f v fs).length<=fs.length+1
 | []=>by simp [mL]
 | (k,x)::r=>by
  have ih:=sy f v r;rw[show mL f v ((k,x)::r)=(if k=f then (k,v)::r else (k,x)::mL f v r) from rfl]
  by_cases hk:k=f
  ·rw[ah hk,aZ,aZ];lia
  ·rw[af hk,aZ,aZ];lia
theorem mK.some_of {v:V}{o:Option Value} (r:mK (some v) o):∃ u,o=some u/\RelV v u:=by
 cases o with
 | none=>exact (show False from r).elim
 | some u=>exact⟨u,rfl,r⟩
theorem mK.none_of {o:Option Value} (r:mK none o):o=none:=by
 cases o with
 | none=>rfl
 | some u=>exact (show False from r).elim
theorem DF {v:V} (r:RelV v u):PySem.W.handedIn u=true:=by
 cases v with
 | non=>cases (show u=Value.none from r);rfl
 | bl b=>cases (show u=Value.bool b from r);rfl
 | int i=>obtain⟨t,e⟩:=(show ∃ t,u=Value.int i t from r);cases e;rfl
 | str x=>obtain⟨t,e⟩:=(show ∃ t,u=Value.str x t from r);cases e;rfl
 | byt b=>obtain⟨t,e⟩:=(show ∃ t,u=Value.bytes b t from r);cases e;rfl
 | flt b=>obtain⟨t,e⟩:=(show ∃ t,u=Value.float b t from r);cases e;rfl
 | ref a=>cases (show u=Value.ref a from r);rfl
 | ty n=>cases (show u=Value.type n from r);rfl
section
variable {P:Zh}{w:Zi}{H H':Hp}{h h':Heap}{a C dx:Addr}{fs fs':List (Str×V)}
theorem tH (hok:HOk P w H h) (e:H a=some (.ins C dx fs)):∃ mA,zD h a dx C mA/\(∀ f,mK (fs.lookup f) (mA f))/\PySem.Within mA (fs.map (·.1))/\fs.length<=1000/\H dx=some (.own a):=by obtain⟨d,z,ne,ob,mA,n,r,q⟩:=(show bY P w H h a (.ins C dx fs) from hok a _ e);exact⟨mA,⟨ob,n,ne⟩,r,q,z,d⟩
end
structure Cls (K:Zf) (C:Addr):Prop where
 pg:PySem.W.plainGet K C Str.empty=true
 hd:PySem.W.hasDictIn K C=true
 po:PySem.W.plainOver K C=true
 sa:PySem.W.findIn K (.ref C) "__setattr__"=some (some (.builtin "object.__setattr__"))
theorem Cls.get (c:Cls K C) (f:Str):PySem.W.plainGet K C f=true:=c.pg
noncomputable def gU (K:Zf) (C:Addr) (f:Str):Prop:=PySem.W.findIn K (.ref C) f=some none
theorem gU.MP {f:Str} (n:gU K C f):PySem.W.takerIn K C f=some none:=by unfold PySem.W.takerIn;rw[show PySem.W.findIn K (.ref C) f=some none from n];rfl
structure Meth (K:Zf) (C:Addr) (m:Str) (f:Addr):Prop where
 at_:PySem.W.findIn K (.ref C) m=some (some (.ref f))
 fn:PySem.W.isFn K (.ref f)=true
 kp:PySem.W.keepIn K (.ref f)=true
section
variable {X:Cx}{Yp:Zp}{σ:St}{H:Hp}{s:Zg}{a C dx:Addr}{fs:List (Str×V)}{f:Str}{v:V}{A:Around}{E:Zq}
theorem An {b:Bool}{Q:Zq} (I:Inv X Yp σ H s) (e:H a=some (.ins C dx fs)) (c:Cls X.K C) (n:gU X.K C f) (l:fs.lookup f=some v)
  (h:∀ u s',Inv X Yp σ H s'->RelV v u->Q u s'):wpAny (model X.prog X.w) A (getAttr (.ref a) f b) Q E s:=by
 obtain⟨mA,O,r,_,_,_⟩:=tH I.hok e;obtain⟨u,hu,ru⟩:=mK.some_of (v:=v) (o:=mA f) (by rw[←l];exact r f);exact get_map I.kIn O (c.get f) c.hd n hu (DF ru) (h u _ (I.tok _) ru)
theorem uf {m:Str}{g:Addr}{pl:Sem Bool}{Q:Value×Zc->Zg->Prop} (I:Inv X Yp σ H s) (e:H a=some (.ins C dx fs)) (c:Cls X.K C) (k:Meth X.K C m g) (l:fs.lookup m=none)
  (h:Q (.ref g,[.ref a]) s):wpAny (model X.prog X.w) A (getMethod (.ref a) m pl) Q E s:=by
 obtain⟨mA,O,r,_,_,_⟩:=tH I.hok e;have hn:mA m=none:=mK.none_of (by rw[←l];exact r m);exact F9 I.kIn O (c.get m) k.at_ k.fn hn h
theorem Be {y:V}{Q:Unit->Zg->Prop} (I:Inv X Yp σ H s) (e:H a=some (.ins C dx fs)) (c:Cls X.K C) (n:gU X.K C f) (hl:fs.length<1000) (ry:RelV y u)
  (h:∀ s',Inv X Yp σ (upd H a (.ins C dx (mL f y fs))) s'->Q () s'):wpAny (model X.prog X.w) A (setAttr (.ref a) f u) Q E s:=by
 obtain⟨mA,O,r,wi,_,ho⟩:=tH I.hok e;have hz:(fs.map (·.1)).length<=sizeLine:=by rw[ag,i5];lia
 refine J0 I.kIn O c.sa c.po n.MP c.hd wi hz fun h' O' sb=>h _ ?_;have hd:∃ o,h'.get? dx=some o:=let ⟨o,_,_,e',_⟩:=O'.ns;⟨o,e'⟩;refine I.write (x:=a) (e:=dx) (by rw[e];exact True.intro) (.inr ho) (fun b q hb z=>(sb.2 b hb).trans z) hd ?_;refine⟨by rw[aJ O.ne];exact ho,?_,O.ne,O'.obj,_,O'.ns,fun g=>?_,fun g hg=>?_⟩
 ·have:=sy f y fs;lia
 ·show mK ((mL f y fs).lookup g) (if g=f then some u else mA g);rw[sD]
  by_cases q:g=f
  ·rw[ah q,ah q];exact ry
  ·rw[af q,af q];exact r g
 ·by_cases q:g=f
  ·rw[q];exact (rJ f y fs).1
  ·refine (rJ f y fs).2 g (wi g fun z=>hg ?_);show (if g=f then some u else mA g)=none;rw[af q];exact z
theorem Inv.made (I:Inv X Yp σ H s):Inv X Yp σ (upd (upd H s.heap.objs.size (.own (s.heap.objs.size+1))) (s.heap.objs.size+1) (.ins C s.heap.objs.size []))
  { s with heap:=(s.heap.push PySem.W.emptyDict).push (PySem.W.instObj C s.heap.objs.size) }:=by
 have e1:(s.heap.push PySem.W.emptyDict).get? s.heap.objs.size=some PySem.W.emptyDict:=bt s.heap rfl;have e2:((s.heap.push PySem.W.emptyDict).push (PySem.W.instObj C s.heap.objs.size)).get? (s.heap.objs.size+1)=some (PySem.W.instObj C s.heap.objs.size):=by
  have:=bt (s.heap.push PySem.W.emptyDict) (o:=PySem.W.instObj C s.heap.objs.size) rfl
  rwa [iW] at this
 have e3:(s.heap.push PySem.W.emptyDict).Ns s.heap.objs.size (fun _=>none):=⟨PySem.W.emptyDict,#[],_,e1,rfl,(fun e he=>absurd he (by simp)),fun _=>rfl⟩;have I1:=I.laid (a:=s.heap.objs.size) (o:=.own (s.heap.objs.size+1)) (h':=s.heap.push PySem.W.emptyDict) (t':=s.toks) (fun b u q=>aD _ q) (ar _) ⟨_,e1⟩;refine I1.laid (a:=s.heap.objs.size+1) (o:=.ins C s.heap.objs.size []) (t':=s.toks) (fun b u q=>aD _ q) (lP (iW _ _)) ?_;have ne:s.heap.objs.size≠s.heap.objs.size+1:=aW (lQ _);refine⟨by rw[aJ ne,aE],bj _,ne,e2,fun _=>none,(Heap.Ns1.of_empty e3).at fun o q=>aD _ q,fun _=>True.intro,fun y hy=>absurd rfl hy⟩
theorem By {prog:Zh}{w:Zi}{env:Env}{f:Str}{pos:Pos}{s:Zg}{Q:Zq} (hb:attributeBase e f env (eval e env)=eval e env)
  (h:wpAny (model prog w) A (eval e env) (fun o s₁=>wpAny (model prog w) A (getAttr o f true) Q E s₁) E s):wpAny (model prog w) A (eval (.Attribute e f pos) env) Q E s :=
 Attribute_any_ h (by rw[arm_eval_Attribute,hb])
end
noncomputable def N9 (K:Zf) (ta:TE) (f:Str):TE:=fun σ H Q=>ta σ H fun x H1=>∃ a C dx fs v,x=.ref a/\H1 a=some (.ins C dx fs)/\Cls K C/\gU K C f/\fs.lookup f=some v/\Q v H1
noncomputable def N7 (K:Zf) (ta tv:TE) (f:Str):TS:=fun D σ H=>tv σ H fun y H1=>ta σ H1 fun x H2=>∃ a C dx fs,x=.ref a/\H2 a=some (.ins C dx fs)/\Cls K C/\gU K C f/\fs.length<1000 ∧
 D.nx σ (upd H2 a (.ins C dx (mL f y fs)))
section
variable {X:Cx}{o e value:Expr}{f:Str}{pos pos' tpos:Pos}{ta tv:TE}
theorem Lz (he:PE X e ta) (hb:attributeBase e f X.env (eval e X.env)=eval e X.env):PE X (.Attribute e f pos) (N9 X.K ta f):=by intro Yp s σ H Q I h;refine By hb (thn (he Yp s σ H _ I h) fun u s1 hz=>?_);obtain⟨x,H1,I1,rx,a,C,dx,fs,v,ex,ea,c,n,l,q⟩:=hz;subst ex;obtain rfl:u=Value.ref a:=rx;exact An I1 ea c n l fun u' s2 I2 ru=>⟨v,H1,I2,ru,q⟩
theorem LD (ha:PE X o ta) (hv:PE X value tv) (hs:swapsWith value (some (.Attribute o f pos')) pos.line X.env=pure false):PS X (.Assign [.Attribute o f pos'] value pos) (N7 X.K ta tv f):=by intro Yp s σ H D I h;refine plainObj_wpAny_Assign_Attribute (thn (hv Yp s σ H _ I h) fun u s1 ⟨y,H1,I1,ry,q⟩=>thn (ha Yp s1 σ H1 _ I1 q) fun ov s2 hz=>?_) hs;obtain⟨x,H2,I2,rx,a,C,dx,fs,ex,ea,c,n,l,q2⟩:=hz;subst ex;obtain rfl:ov=Value.ref a:=rx;exact Be I2 ea c n l ry fun s3 I3=>⟨σ,_,I3,q2⟩
end
section
variable {X:Cx}{Yp:Zp}{σ:St}{H:Hp}{s:Zg}{A:Around}{E:Zq}{Q:Zq}{c:Value}{b:Bool}
inductive oW (K:Zf) (H:Hp):V->Value->Prop where
 | non:oW K H .non (.type "NoneType")
 | bl (x:Bool):oW K H (.bl x) (.type "bool")
 | int (i:Int):oW K H (.int i) (.type "int")
 | str (x:Str):oW K H (.str x) (.type "str")
 | flt (x:UInt64):oW K H (.flt x) (.type "float")
 | lst {a:Addr}{xs:List V} (e:H a=some (.lst xs)):oW K H (.ref a) (.type "list")
 | frz {a:Addr}{o:Obj}{xs:List V} (e:H a=some (.frz o (.lst xs))):oW K H (.ref a) (.type "list")
 | tup {a:Addr}{xs:List V} (e:H a=some (.tup xs)):oW K H (.ref a) (.type "tuple")
 | dK {a:Addr}{kvs:List (Key×V)} (e:H a=some (.dK kvs)):oW K H (.ref a) (.type "dict")
 | dT {a:Addr}{kvs:List (List Key×V)} (e:H a=some (.dT kvs)):oW K H (.ref a) (.type "dict")
 | ins {a C dx:Addr}{fs:List (Str×V)} (e:H a=some (.ins C dx fs)) (cl:Cls K C) (ha:PySem.W.findIn K (.ref C) "__class__"=some (some (.builtin "object.__class__")))
   (hn:PySem.W.specialIn K (.builtin "object.__class__") "__get__"=some (some (.builtin "getset_descriptor.__get__"))) (htk:PySem.W.takesIn K (.builtin "object.__class__")=some true)
   (hm:PySem.W.mroIn K C (.type "object")=some true):oW K H (.ref a) (.ref C)
theorem isinst_ok {x:V}{u t:Value} (I:Inv X Yp σ H s) (rx:RelV x u) (ty:oW X.K H x t) (e:PySem.W.kitOne X.K t c=some b) (h:∀ tk,Q (.bool b) { s with toks:=tk }) :
  wpAny (model X.prog X.w) A (call (.builtin "isinstance") [u,c]) Q E s:=by
 cases ty with
 | non=>cases (show u=Value.none from rx);exact fU PySem.W.kitx_none I.kIn True.intro e (fun z=>nomatch z) h
 | bl y=>cases (show u=Value.bool y from rx);exact fU PySem.W.kitx_bool I.kIn True.intro e (fun z=>nomatch z) h
 | int i=>obtain⟨t,q⟩:=(show ∃ t,u=Value.int i t from rx);cases q;exact fU PySem.W.kitx_int I.kIn True.intro e (fun z=>nomatch z) h
 | str y=>obtain⟨t,q⟩:=(show ∃ t,u=Value.str y t from rx);cases q;exact fU PySem.W.kitx_str I.kIn True.intro e (fun z=>nomatch z) h
 | flt y=>obtain⟨t,q⟩:=(show ∃ t,u=Value.float y t from rx);cases q;exact fU PySem.W.kitx_float I.kIn True.intro e (fun z=>nomatch z) h
 | @lst a xs ea =>
  cases (show u=Value.ref a from rx)
  obtain⟨_,_,n,_,h1⟩:=(show bY X.prog X.w H s.heap a (.lst xs) from I.hok a _ ea);exact fU PySem.W.kitx_list I.kIn ⟨_,h1,rfl⟩ e (fun z=>nomatch z) h
 | @frz a ob xs ea =>
  cases (show u=Value.ref a from rx)
  obtain⟨_,_,_,n,_,h1⟩:=(show bY X.prog X.w H s.heap a (.frz ob (.lst xs)) from I.hok a _ ea);exact fU PySem.W.kitx_list I.kIn ⟨_,h1,rfl⟩ e (fun z=>nomatch z) h
 | @tup a xs ea =>
  cases (show u=Value.ref a from rx)
  obtain⟨_,_,_,p⟩:=(show bY X.prog X.w H s.heap a (.tup xs) from I.hok a _ ea);obtain⟨o,h1,h2,_⟩:=p;exact fU PySem.W.kitx_tuple I.kIn ⟨o,h1,h2⟩ e (fun z=>nomatch z) h
 | @dK a kvs ea =>
  cases (show u=Value.ref a from rx)
  obtain⟨_,_,vs,_,p⟩:=(show bY X.prog X.w H s.heap a (.dK kvs) from I.hok a _ ea);obtain⟨o,es,ep,h1,h2,_⟩:=p;exact fU PySem.W.kitx_dict I.kIn ⟨o,h1,h2.1⟩ e (fun z=>nomatch z) h
 | @dT a kvs ea =>
  cases (show u=Value.ref a from rx)
  obtain⟨_,_,xs,_,o,es,ep,h1,h2,_⟩:=(show bY X.prog X.w H s.heap a (.dT kvs) from I.hok a _ ea);exact fU PySem.W.kitx_dict I.kIn ⟨o,h1,h2.1⟩ e (fun z=>nomatch z) h
 | @ins a C dx fs ea cl ha hn htk hm =>
  cases (show u=Value.ref a from rx)
  obtain⟨mA,O,_⟩:=tH I.hok ea;obtain⟨od,J,_⟩:=O.look;exact fU (PySem.W.kitx_own (cl.get _) cl.hd ha hn htk hm) I.kIn J e (fun z=>nomatch z) h
end
end
section
structure fD (k:Nat) (A:Around):Prop where
 hd:A.handled=none
 dp:A.depth+3*k+5<recursionLimit
 un:A.units+16*k+200<cLine
theorem fD.mono {j k:Nat} (r:fD k A) (h:j<=k):fD j A:=⟨r.hd,by have:=r.dp;lia,by have:=r.un;lia⟩
theorem fD.deeper {k:Nat}{A:Around} (r:fD (k+1) A) (env:Env):fD k (A.deeper env) :=
 ⟨r.hd,by have:=r.dp;show A.depth+1+3*k+5<_;lia,by have:=r.un;show A.units+3+16*k+200<_;lia⟩
theorem Ax :(A.under (.builtin "type.__call__" ⟨.ref C::us,kw⟩)).depth=A.depth+1:=by first | rfl | simp [Around.under,Code.weight,Code.isCreation,Code.isGuard,Code.isCaller,Code.frames,Code.isFrame,guardIds]
theorem Ay :(A.under (.builtin "type.__call__" ⟨.ref C::us,kw⟩)).units=A.units+1:=by first | rfl | simp [Around.under,Code.cUnits,Code.frames,Code.isFrame]
theorem fD.make {k:Nat} (r:fD (k+1) A) (C:Addr) (us:Zc) (kw:List (Str×Value)):fD k (A.under (.builtin "type.__call__" ⟨.ref C::us,kw⟩)) :=
 ⟨r.hd,by have:=r.dp;rw[Ax];lia,by have:=r.un;rw[Ay];lia⟩
theorem fD.depth {k:Nat}{A:Around} (r:fD k A):A.depth<recursionLimit:=by have:=r.dp;lia
theorem fD.units {k:Nat}{A:Around} (r:fD k A):A.units+64<cLine:=by have:=r.un;lia
theorem fD.nH {k:Nat} (r:fD k A):A.units<cLine:=by have:=r.un;lia
noncomputable def Bk:TA:=fun _ H Q=>Q [] H
noncomputable def wo (ta:TE) (tr:TA):TA:=fun σ H Q=>ta σ H fun x H1=>tr σ H1 fun xs H2=>Q (x::xs) H2
section
variable {X:Cx}{e:Expr}{es:List Expr}{te:TE}{t:TA}{pos:Pos}
theorem ae:PA X [] Bk:=fun _ _ _ _ H Q I h=>Calls.spliced_nil ⟨[],H,I,.nil,h⟩
theorem IY (ha:PE X e te) (hr:PA X es t) (hs:starEach (e::es) X.env=(false,eval e X.env)::starEach es X.env:=by rfl):PA X (e::es) (wo te t):=by intro pos Yp s σ H Q I h;rw[hs];show wpAny _ _ (spliced ((false,eval e X.env)::backTo pos (starEach es X.env))) _ _ s;refine Calls.spliced_cons (thn (ha Yp s σ H _ I h) fun u s1 ⟨x,H1,I1,r1,q1⟩=>?_);exact thn (hr pos Yp s1 σ H1 _ I1 q1) fun us s2 ⟨xs,H2,I2,r2,q2⟩=>⟨x::xs,H2,I2,.cons r1 r2,q2⟩
end
noncomputable abbrev Sp:=List V->Hp->VK->XK->Prop
noncomputable abbrev CXT:=List Env->Hp->Zg->XK->Zq
structure zB (P:Zh) (w:Zi) (K:Zf) (mg:Zk) (base:Heap) (A:Around) (outer:List Env) (s:Zg) (H:Hp):Prop where
 frames:A.frames=some outer
 mod:Mod K mg base
 bs:∀ b o,base.get? b=some o->s.heap.get? b=some o/\H b=none
 bsz:base.objs.size<=s.heap.objs.size
 rE:s.heap.FunFrames base outer
 frf:∀ b∈frs outer,H b=none
 hok:HOk P w H s.heap
 bare:AllBare s.gens
noncomputable def CE (outer:List Env) (P:Zh) (w:Zi) (H:Hp) (s:Zg) (Q:VK) (u:Value) (s':Zg):Prop :=
 ∃ v H',s'.os=s.os/\AllBare s'.gens/\Un (frs outer) [] H H' s.heap s'.heap/\HOk P w H' s'.heap/\RelV v u/\Q v H'
noncomputable def CR (CX:CXT) (outer:List Env) (P:Zh) (w:Zi) (H:Hp) (s:Zg) (Q:VK) (E:XK) (r:Result) (s':Zg):Prop :=
 match r with
 | .ok (.ret u)=>CE outer P w H s Q u s'
 | .ok _=>False
 | .error e=>CX outer H s E e s'
structure bU (P:Zh) (w:Zi) (K:Zf) (mg:Zk) (base:Heap) (CX:CXT) (k:Nat) (f:Addr) (fd:FuncData) (ps:Ze) (sp:Sp):Prop where
 len:∀ vs H Q E,sp vs H Q E->vs.length=ps.length
 run:∀ (A:Around) (outer:List Env) (s:Zg) (H:Hp) (args:Args) (us:Zc) (vs:List V) (Q:VK) (E:XK),fD k A->zB P w K mg base A outer s H->BindsTo s fd args (ps.zip us)->Vals vs us->sp vs H Q E →
  codeAny (model P w) A (.call (.ref f) args) (CR CX outer P w H s Q E) s
theorem bU.mono {P:Zh}{w:Zi}{K:Zf}{mg:Zk}{base:Heap}{CX:CXT}{j k:Nat}{f:Addr}{fd:FuncData}{ps:Ze}{sp:Sp} (F:bU P w K mg base CX j f fd ps sp) (h:j<=k) :
  bU P w K mg base CX k f fd ps sp:=⟨F.len,fun A outer s H args us vs Q E hr=>F.run A outer s H args us vs Q E (hr.mono h)⟩
theorem zB.make {H:Hp} (e:zB P w K mg base A outer s H) (C:Addr) (us:Zc) (kw:List (Str×Value)) :
  zB P w K mg base (A.under (.builtin "type.__call__" ⟨.ref C::us,kw⟩)) outer s H:=⟨by first | exact e.frames | (simpa [Around.under,Code.envs,Code.isFrame,pushEnvs] using e.frames),e.mod,e.bs,e.bsz,e.rE,e.frf,e.hok,e.bare⟩
section
variable {X:Cx}{Yp:Zp}{σ:St}{H:Hp}{s s':Zg}
theorem Inv.K9 (I:Inv X Yp σ H s):zB X.prog X.w X.K X.mg X.base X.A X.stack s H :=
 ⟨I.ok.frames,I.ok.mod,I.bs,aV I.ok.bsz I.sz,I.stack,I.qP,I.hok,I.bare⟩
theorem Inv.after {Q:VK} (I:Inv X Yp σ H s) (h:CE X.stack X.prog X.w H s Q u s'):EP X Yp σ Q u s':=by obtain⟨v,H',os,bare,un,hok,r,q⟩:=h;obtain⟨hh,g,d,t,os'⟩:=s';obtain rfl:os'=s.os:=os;exact⟨v,H',I.call (h':=hh) (g':=g) (d':=d) (t':=t) (ch:=[]) un hok bare (fun b z=>absurd z (by simp)),r,q⟩
end
noncomputable def Cs (sp:Sp) (dvs:List V) (E:St->XK) (t:TA):TE:=fun σ H Q=>t σ H fun vs H1=>sp (vs++dvs) H1 Q (E σ)
noncomputable def Kg (C:Addr) (m:Str) (sp:Sp) (dvs:List V) (E:St->XK) (ta:TE) (t:TA):TE:=fun σ H Q=>ta σ H fun x H1=>∃ a dx fs,x=.ref a/\H1 a=some (.ins C dx fs)/\fs.lookup m=none ∧
 t σ H1 fun vs H2=>sp (x::(vs++dvs)) H2 Q (E σ)
noncomputable def ML (C:Addr) (sp:Sp) (dvs:List V) (E:St->XK) (t:TA):TE:=fun σ H Q=>t σ H fun vs H1=>∀ x dx,H1 x=none->H1 dx=none->dx≠x →
 sp (.ref x::(vs++dvs)) (upd (upd H1 dx (.own x)) x (.ins C dx [])) (fun v H2=>v=.non/\Q (.ref x) H2) (E σ)
noncomputable def Binds (K:Zf) (fd:FuncData) (ps:Ze) (ds:Zc):Prop :=
 ∀ (s:Zg) (us:Zc),K.In s.heap->(us++ds).length=ps.length->BindsTo s fd ⟨us,[]⟩ (ps.zip (us++ds))
theorem Binds.all {fd:FuncData}{ps:Ze} (h:∀ us:Zc,us.length=ps.length->bindArgs fd ⟨us,[]⟩=pure (ps.zip us)):Binds K fd ps []:=fun s us _ hl=>by rw[fR] at hl ⊢;exact .of_eq (h us hl)
noncomputable def Passes (CX:CXT) (X:Cx) (E:St->XK):Prop:=∀ (Yp:Zp) (σ:St) (H:Hp) (s:Zg) (e:Value) (s':Zg),Inv X Yp σ H s->CX X.stack H s (E σ) e s'->X.xe e s'
section
variable {X:Cx}{CX:CXT}{k:Nat}{f C:Addr}{fd:FuncData}{ps:Ze}{sp:Sp}{dvs:List V}{ds:Zc}{E:St->XK}{x m:Str}{p pos apos:Pos}{e o:Expr}{es:List Expr}{ta:TE}{t:TA}
theorem AU {Yp:Zp}{σ:St}{H:Hp}{s:Zg}{Q:VK}{us:Zc}{vs:List V} (F:bU X.prog X.w X.K X.mg X.base CX k f fd ps sp) (hr:fD k X.A) (hb:Binds X.K fd ps ds) (hd:Vals dvs ds) (hx:Passes CX X E)
  (I:Inv X Yp σ H s) (r:Vals vs us) (h:sp (vs++dvs) H Q (E σ)):wpAny (model X.prog X.w) X.A (call (.ref f) us) (EP X Yp σ Q) X.xe s:=by
 have r2:Vals (vs++dvs) (us++ds):=r.append hd;have hl:(us++ds).length=ps.length:=by rw[←r2.length];exact F.len _ _ _ _ h
 refine i6 (gw (F.run X.A X.stack s H ⟨us,[]⟩ (us++ds) (vs++dvs) Q (E σ) hr I.K9 (hb s us I.kIn hl) r2 h) fun r s' hq=>?_);cases r with
 | error e=>exact hx Yp σ H s e s' I hq
 | ok fl =>
  cases fl with
  | ret u=>exact I.after hq
  | next=>exact False.elim hq
  | brk=>exact False.elim hq
  | cont=>exact False.elim hq
theorem Ja (F:bU X.prog X.w X.K X.mg X.base CX k f fd ps sp) (hr:fD k X.A) (hg:Gl X x) (hm:X.mg x=some (.ref f)) (hk:PySem.W.keepIn X.K (.ref f)=true) (hb:Binds X.K fd ps ds) (hd:Vals dvs ds) (hx:Passes CX X E)
  (ha:PA X (e::es) t) (hdb:(x==("__debug__":Str))=false:=by decide) (he:starEach (e::es) X.env=(false,eval e X.env)::starEach es X.env:=by rfl) (hpl:(backTo pos (starEach es X.env)).any (·.1)=false:=by rfl) :
  PE X (.Call (.Name x p) (e::es) [] pos) (Cs sp dvs E t):=by
 intro Yp s σ H Q I h;refine lU (ko I hg hm ?_ hdb);refine rq (h₀:=X.base) I.ok.mod.kin hk (thn (ha pos Yp s σ H _ I h) fun us s1 ⟨vs,H1,I1,r,q⟩=>⟨I1.kIn,?_⟩) he hpl;exact AU F hr hb hd hx I1 r q
theorem Jg {pl:Sem Bool} (he:PE X o ta) (c:Cls X.K C) (hm:Meth X.K C m f) (F:bU X.prog X.w X.K X.mg X.base CX k f fd ps sp) (hr:fD k X.A) (hb:Binds X.K fd ps ds) (hd:Vals dvs ds) (hx:Passes CX X E) (ha:PA X (e::es) t)
  (hst:starEach (e::es) X.env=(false,eval e X.env)::starEach es X.env:=by rfl) (hpl:(backTo pos (starEach es X.env)).any (·.1)=false:=by rfl)
  (ht:eval (.Call (.Attribute o m apos) (e::es) [] pos) X.env=(do
   let ov ←eval o X.env
   standAt apos.atName
   let (f,first) ←holding [ov] (getMethod ov m pl)
   callWith pos f first (backTo pos (starEach (e::es) X.env)) (backToKw pos (keywordEach [] X.env))):=by rfl) :
  PE X (.Call (.Attribute o m apos) (e::es) [] pos) (Kg C m sp dvs E ta t):=by
 intro Yp s σ H Q I h;refine PySem.W.methodCall_KW (pl:=pl) (thn (he Yp s σ H _ I h) fun u s1 hz=>?_) ht;obtain⟨x,H1,I1,rx,a,dx,fs,ex,ea,l,q⟩:=hz;subst ex;obtain rfl:u=Value.ref a:=rx;refine uf I1 ea c hm l ?_;refine rq (first:=[.ref a]) (h₀:=X.base) I.ok.mod.kin hm.kp (thn (ha pos Yp s1 σ H1 _ I1 q) fun us s2 ⟨vs,H2,I2,r,q2⟩=>⟨I2.kIn,?_⟩) hst hpl;exact AU (us:=.ref a::us) (vs:=.ref a::vs) F hr hb hd hx I2 (.cons rfl r) q2
theorem GA {pl:Sem Bool} (he:PE X o ta) (c:Cls X.K C) (hm:Meth X.K C m f) (F:bU X.prog X.w X.K X.mg X.base CX k f fd ps sp) (hr:fD k X.A) (hb:Binds X.K fd ps ds) (hd:Vals dvs ds) (hx:Passes CX X E)
  (ht:eval (.Call (.Attribute o m apos) [] [] pos) X.env=(do
   let ov ←eval o X.env
   standAt apos.atName
   let (f,first) ←holding [ov] (getMethod ov m pl)
   callWith pos f first (backTo pos (starEach [] X.env)) (backToKw pos (keywordEach [] X.env))):=by rfl) :
  PE X (.Call (.Attribute o m apos) [] [] pos) (Kg C m sp dvs E ta Bk):=by
 intro Yp s σ H Q I h;refine PySem.W.methodCall_KW (pl:=pl) (thn (he Yp s σ H _ I h) fun u s1 hz=>?_) ht;obtain⟨x,H1,I1,rx,a,dx,fs,ex,ea,l,q⟩:=hz;subst ex;obtain rfl:u=Value.ref a:=rx;refine uf I1 ea c hm l ?_;exact PySem.W.callWith_K0 (first:=[.ref a]) I1.kIn hm.kp (AU (us:=[.ref a]) (vs:=[.ref a]) F hr hb hd hx I1 (.cons rfl .nil) q)
structure Mk (K:Zf) (C f:Addr):Prop where
 makes:PySem.W.makesIn K C=true
 init:PySem.W.findIn K (.ref C) "__init__"=some (some (.ref f))
 fn:PySem.W.isFn K (.ref f)=true
 kp:PySem.W.keepIn K (.ref C)=true
theorem Ha {Yp:Zp}{σ:St}{H:Hp}{s:Zg}{Q:VK}{us:Zc}{vs:List V} (M:Mk X.K C f) (F:bU X.prog X.w X.K X.mg X.base CX k f fd ps sp) (hr:fD (k+1) X.A) (hb:Binds X.K fd ps ds) (hd:Vals dvs ds)
  (hx:Passes CX X E) (I:Inv X Yp σ H s) (r:Vals vs us)
  (h:∀ x dx,H x=none->H dx=none->dx≠x->sp (.ref x::(vs++dvs)) (upd (upd H dx (.own x)) x (.ins C dx [])) (fun v H2=>v=.non/\Q (.ref x) H2) (E σ)) :
  wpAny (model X.prog X.w) X.A (call (.ref C) us) (EP X Yp σ Q) X.xe s:=by
 have hq:=h (s.heap.objs.size+1) s.heap.objs.size (I.hok.fresh (gk _)) (I.hok.fresh (ar _)) (aW (lQ _));have I2:=Inv.made (C:=C) I;have r2:Vals (V.ref (s.heap.objs.size+1)::(vs++dvs)) (Value.ref (s.heap.objs.size+1)::(us++ds)):=.cons rfl (r.append hd);have hl:(Value.ref (s.heap.objs.size+1)::us++ds).length=ps.length:=by have e:=r2.length;rw[F.len _ _ _ _ hq] at e;exact e.symm
 refine i6 (FX (f:=f) I.kIn M.makes M.init (eT.mp M.fn) (gw (F.run _ X.stack _ _ ⟨Value.ref (s.heap.objs.size+1)::us,[]⟩ (Value.ref (s.heap.objs.size+1)::(us++ds)) _ _ (E σ) (hr.make C us [])
  (I2.K9.make C us []) (hb _ (Value.ref (s.heap.objs.size+1)::us) I2.kIn hl) r2 hq) fun r s' hq'=>?_))
 cases r with
 | error e=>exact hx Yp σ _ _ e s' I2 hq'
 | ok fl =>
  cases fl with
  | ret u =>obtain⟨v,H',I3,rv,ev,q3⟩:=I2.after hq';subst ev;exact⟨rv,⟨V.ref (s.heap.objs.size+1),H',I3,rfl,q3⟩⟩
  | next=>exact False.elim hq'
  | brk=>exact False.elim hq'
  | cont=>exact False.elim hq'
theorem Jf (M:Mk X.K C f) (F:bU X.prog X.w X.K X.mg X.base CX k f fd ps sp) (hr:fD (k+1) X.A) (hg:Gl X x) (hm:X.mg x=some (.ref C)) (hb:Binds X.K fd ps ds) (hd:Vals dvs ds) (hx:Passes CX X E)
  (ha:PA X (e::es) t) (hdb:(x==("__debug__":Str))=false:=by decide) (he:starEach (e::es) X.env=(false,eval e X.env)::starEach es X.env:=by rfl) (hpl:(backTo pos (starEach es X.env)).any (·.1)=false:=by rfl) :
  PE X (.Call (.Name x p) (e::es) [] pos) (ML C sp dvs E t):=by
 intro Yp s σ H Q I h;refine lU (ko I hg hm ?_ hdb);refine rq (h₀:=X.base) I.ok.mod.kin M.kp (thn (ha pos Yp s σ H _ I h) fun us s1 ⟨vs,H1,I1,r,q⟩=>⟨I1.kIn,?_⟩) he hpl;exact Ha M F hr hb hd hx I1 r q
end
section
variable {X:Cx}{CX:CXT}{k:Nat}{f C:Addr}{fd:FuncData}{ps ks:Ze}{sp:Sp}{E:St->XK}{x m:Str}{p pos apos kpos:Pos}{e o:Expr}{es:List Expr}{kws:List Keyword}{te ta:TE}{t tk:TA}{nm:Option Str}
variable {g:Zc->Zc->Zc}{gV:List V->List V->List V}
end
structure aN (N P:Ze) (sc:Scope):Prop where
 kind:sc.kind=.function
 co:sc.isCoroutine=false
 gen:sc.isGenerator=false
 nd:N.Nodup
 pre:N.take P.length=P
 par:∀ x∈P,sc.names.lookup x=some .local∨sc.names.lookup x=some .cell
 nofree:∀ y∈sc.names,y.2≠.free
theorem vB {kindOf:Str->Option NameKind}{x:Str}:∀ {binds:List (Str×Value)}{m:Zk},(∀ v,(x,v)∉binds)->bindL kindOf binds m x=m x
 | [],_,_=>rfl
 | (n,v)::r,m,h=>by
  unfold bindL;rw[vB fun w hw=>h w (aU _ hw)];split
  ·have:x≠n:=by rintro rfl;exact h v aS
   simp [this]
  ·rfl
theorem vz {kindOf:Str->Option NameKind}{x:Str}:∀ {binds:List (Str×Value)}{m:Zk},(∀ v,(x,v)∉binds)->bindC kindOf binds m x=m x
 | [],_,_=>rfl
 | (n,v)::r,m,h=>by
  unfold bindC;rw[vz fun w hw=>h w (aU _ hw)];split
  ·rfl
  ·have:x≠n:=by rintro rfl;exact h v aS
   simp [this]
theorem vA {kindOf:Str->Option NameKind}{x:Str}{v:Value}:∀ {P:Ze}{vs:Zc}{i:Nat}{m:Zk},P.Nodup->P[i]?=some x->vs[i]?=some v->kindOf x=some .local →
  bindL kindOf (P.zip vs) m x=some v
 | [],_,_,_,_,h,_,_=>by simp at h
 | _::_,[],_,_,_,_,h,_=>by simp at h
 | p::P,w::vs,0,m,nd,h1,h2,hk=>by simp at h1 h2;subst h1;subst h2;show bindL kindOf ((p,w)::P.zip vs) m p=_;unfold bindL;rw[vB fun v hv=>(eS.mp nd).1 (nX hv).1,ah hk];simp
 | p::P,w::vs,i+1,m,nd,h1,h2,hk=>by show bindL kindOf ((p,w)::P.zip vs) m x=_;unfold bindL;exact vA (i:=i) (eS.mp nd).2 (by simpa using h1) (by simpa using h2) hk
theorem vy {kindOf:Str->Option NameKind}{x:Str}{v:Value}:∀ {P:Ze}{vs:Zc}{i:Nat}{m:Zk},P.Nodup->P[i]?=some x->vs[i]?=some v->kindOf x≠some .local →
  bindC kindOf (P.zip vs) m x=some v
 | [],_,_,_,_,h,_,_=>by simp at h
 | _::_,[],_,_,_,_,h,_=>by simp at h
 | p::P,w::vs,0,m,nd,h1,h2,hk=>by simp at h1 h2;subst h1;subst h2;show bindC kindOf ((p,w)::P.zip vs) m p=_;unfold bindC;rw[vz fun v hv=>(eS.mp nd).1 (nX hv).1,af hk];simp
 | p::P,w::vs,i+1,m,nd,h1,h2,hk=>by show bindC kindOf ((p,w)::P.zip vs) m x=_;unfold bindC;exact vy (i:=i) (eS.mp nd).2 (by simpa using h1) (by simpa using h2) hk
noncomputable def start (N:Ze) (vs:List V):St:=vs.map some++List.replicate (N.length-vs.length) none
noncomputable def vi (CX:CXT) (P:Zh) (w:Zi) (K:Zf) (mg:Zk) (base:Heap) (N:Ze) (qual:Str) (scope:Scope) (f:Addr) (cd:Value) (A:Around) (outer:List Env) (s:Zg) (H:Hp) (E:XK):Cx where
 prog:=P
 w:=w
 K:=K
 mg:=mg
 base:=base
 A:=A.deeper (envOfC qual scope s.heap.objs.size f cd)
 N:=N
 s₀:=s
 H₀:=H
 env:=envOfC qual scope s.heap.objs.size f cd
 outer:=outer
 stack:=envOfC qual scope s.heap.objs.size f cd::outer
 ex:=[]
 calm:=true
 fn:=fun _=>true
 pn:=[]
 xe:=fun e s'=>wpAny (model P w) (A.deeper (envOfC qual scope s.heap.objs.size f cd)) (leaving (envOfC qual scope s.heap.objs.size f cd) e) (fun _ s''=>CX outer H s E e s'') (fun e' s''=>CX outer H s E e' s'') s'
theorem xX {sc:Scope}{n:Nat} (h:sc.names.lookup x=some .cell):∃ c,(cellsFrom n sc.names []).lookup x=some c:=by have q:=PySem.W.cellsFrom_some sc.names n [] (.inl h);exact rg.mp q
theorem DM {CX:CXT}{P:Zh}{w:Zi}{K:Zf}{mg:Zk}{base:Heap}{N ps:Ze}{qual:Str}{scope:Scope}{f:Addr}{cd:Value}{A:Around}{outer:List Env}{s s1:Zg}{H:Hp}{E:XK}{us:Zc}{vs:List V}
  (S:aN N ps scope) (hd:A.handled=none) (e0:zB P w K mg base A outer s H) (hl:vs.length=ps.length) (r:Vals vs us)
  (x:InCallC s s.heap.objs.size (bindL (envOfC qual scope s.heap.objs.size f cd).kindOf (ps.zip us) fun _=>none) (cellsFrom (s.heap.objs.size+1) scope.names []) (bindC (envOfC qual scope s.heap.objs.size f cd).kindOf (ps.zip us) fun _=>none) s1) :
  Inv (vi CX P w K mg base N qual scope f cd A outer s H E) [] (start N vs) H s1:=by
 have hpl:ps.length<=N.length:=by have:=bJ List.length S.pre;rw[bI] at this;lia
 obtain⟨h1,tk,rfl,hk⟩:=x.done;have noA:∀ b:Addr,b∉(vi CX P w K mg base N qual scope f cd A outer s H E).ex:=fun b z=>absurd (show b∈([]:List Addr) from z) (by simp);refine⟨⟨e0.mod,S.kind,rfl,rfl,ar _,fun y z c h1 h2=>?_,fun y hy=>?_,fun y c _ h=>?_,fun _=>hd,Around.frames_deeper e0.frames,.inr ⟨rfl,rfl⟩,fun b z=>absurd z (noA b),e0.bs,e0.bsz,fun b _ _=>noA b,fun b z=>absurd z (noA b),e0.rE,e0.frf⟩,
  rfl,e0.bare,Un.kept hk,⟨_,x.toInCall.ns,fun i y v h1 h2 h3=>?_⟩,fun y c h=>⟨_,x.cell y c h⟩,e0.hok.fresh (ar _),fun y c h=>?_,fun p hp=>absurd (show p∈([]:Zp) from hp) (by simp),e0.hok.kept hk,?_⟩
 ·exact name_of_addr x.apart (oi h1) (oi h2)
 ·have hy:scope.names.lookup y=some .cell∨scope.names.lookup y=some .free:=hy;rcases hy with hy | hy
  ·exact xX hy
  ·exact absurd rfl (S.nofree _ (oi hy))
 ·exact aQ (x.above y c (oi h))
 ·have hi:i<vs.length:=by
   unfold start at h2
   by_cases hi:i<vs.length
   ·exact hi
   ·rw[ik (by simpa using hi)] at h2;rw[List.getElem?_replicate] at h2;split at h2<;>cases h2
  have ha:vs[i]?=some v:=by
   unfold start at h2;rw[ja (by simpa using hi),aT] at h2;cases e:vs[i]? with
   | none=>rw[e] at h2;cases h2
   | some a=>rw[e] at h2;cases h2;rfl
  obtain⟨u,hu,rv⟩:=r.get ha;have hp:ps[i]?=some y:=by rw[←S.pre,List.getElem?_take_of_lt (by lia)];exact h1
  have ndP:ps.Nodup:=by rw[←S.pre];exact S.nd.sublist (List.take_sublist _ _)
  refine⟨u,rv,?_⟩;rcases S.par y (bQ hp) with k | k
  ·exact .inl ⟨k,vA ndP hp hu k⟩
  ·obtain⟨c,e⟩:=xX (n:=s.heap.objs.size+1) k;refine .inr ⟨.inl k,c,e,?_⟩;have q:=x.cell y c e;rw[vy ndP hp hu (by show scope.names.lookup y≠_;rw[k];decide)] at q;exact q
 ·exact e0.hok.fresh (aQ (x.above y c (oi h)))
 ·unfold start;show _=N.length;rw[aB,ag,List.length_replicate];lia
theorem JJ {CX:CXT}{P:Zh}{w:Zi}{K:Zf}{mg:Zk}{base:Heap}{k:Nat}{f:Addr}{name qual:Str}{params:Arguments}{body:List Stmt}{scope:Scope}{dV kV doc pm cdv ct oc:Value}{an od:Option Addr}
  {osl:Array (Option Value)}{N ps:Ze}{sp:Sp} (lk:K.lookup f=some ⟨oc,od,.func (PySem.W.fnOf name qual params body scope dV kV doc pm an cdv ct),osl⟩) (hcd:PySem.W.codeIn K cdv qual=true) (S:aN N ps scope)
  (len:∀ vs H Q E,sp vs H Q E->vs.length=ps.length)
  (hbody:∀ (A:Around) (outer:List Env) (s:Zg) (H:Hp) (vs:List V) (Q:VK) (E:XK),fD k (A.deeper (envOfC qual scope s.heap.objs.size f cdv))->sp vs H Q E →
   ∃ t,PSs (vi CX P w K mg base N qual scope f cdv A outer s H E) body t/\t { nx:=fun _ H'=>Q .non H',rt:=Q } (start N vs) H) :
  bU P w K mg base CX (k+1) f (PySem.W.fnOf name qual params body scope dV kV doc pm an cdv ct) ps sp:=by
 refine⟨len,fun A outer s H args us vs Q E hr e0 hb r hsp=>?_⟩;have hl:=len _ _ _ _ hsp;have KX:K.In s.heap:=e0.mod.kin.keeps fun b o e=>(e0.bs b o e).1;have lim:s.heap.NoLimit:=e0.mod.nolimit.keeps fun b o e=>(e0.bs b o e).1;have hkind:∀ y∈ps.zip us,scope.names.lookup y.1=some .local∨(scope.names.lookup y.1=some .cell/\((cellsFrom (s.heap.objs.size+1) scope.names []).lookup y.1).isSome=true):=fun ⟨n,v⟩ hy=>by
  rcases S.par n (nX hy).1 with q | q
  ·exact .inl q
  ·exact .inr ⟨q,PySem.W.cellsFrom_some _ _ _ (.inl q)⟩
 refine codeAny_call_function hr.depth (KX _ _ lk) rfl S.co S.gen rfl (PySem.W.codeRec_of KX hcd) (hb _ _ _ _ ?_);refine wpAny_newFunctionEnv_cells S.kind hkind fun env he s1 x=>?_;subst he;refine⟨lim.keeps x.toInCall.keep,codeAny_func ?_⟩;obtain⟨t,ht,hq⟩:=hbody A outer s H vs Q E (hr.deeper _) hsp;have I:Inv (vi CX P w K mg base N qual scope f cdv A outer s H E) [] (start N vs) H s1:=DM S hr.hd e0 hl r x;refine bM (ht [] s1 (start N vs) H _ I hq) (fun fl s' hs=>?_) fun e s' hs=>hs;have fin:∀ {σ':St}{H':Hp}{v:V}{u:Value},Inv (vi CX P w K mg base N qual scope f cdv A outer s H E) [] σ' H' s'->RelV v u->Q v H'->CE outer P w H s Q u s' :=
  fun {σ' H' v u} J rv q=>⟨v,H',J.os,J.bare,J.base,J.hok,rv,q⟩
 cases fl with
 | ret u =>obtain⟨v,σ',H',J,rv,q⟩:=hs;exact fin J rv q
 | next =>obtain⟨σ',H',J,q⟩:=hs;exact fin (v:=V.non) (u:=Value.none) J rfl q
 | brk =>obtain⟨_,_,_,q⟩:=hs;exact False.elim q
 | cont =>obtain⟨_,_,_,q⟩:=hs;exact False.elim q
end
section
section
variable {X:Cx}{x:Str}{p pos:Pos}{e:Expr}{es:List Expr}{t:TA}{id T:String}{r:List V->Hp->VK->Prop}
noncomputable def tCB (r:List V->Hp->VK->Prop) (t:TA):TE:=fun σ H Q=>t σ H fun vs H1=>r vs H1 Q
theorem Gu (hc:dr X (.builtin id) r) (hg:Gl X x) (hm:X.mg x=none) (hv:bootBuiltins x=some (.builtin id)) (ha:PA X (e::es) t) (hn:x≠"__name__":=by decide) (hdb:(x==("__debug__":Str))=false:=by decide)
  (he:starEach (e::es) X.env=(false,eval e X.env)::starEach es X.env:=by rfl) (hpl:(backTo pos (starEach es X.env)).any (·.1)=false:=by rfl):PE X (.Call (.Name x p) (e::es) [] pos) (tCB r t):=by
 intro Yp s σ H Q I h;refine lU (pf I hg hm hv ?_ hn hdb);exact PyProof.Rows.callWith_builtin1 (thn (ha pos Yp s σ H _ I h) fun us s1 ⟨vs,H1,I1,r1,q1⟩=>hc Yp s1 σ H1 vs us Q I1 r1 q1) he hpl
theorem Ed (hc:dr X (.type T) r) (hg:Gl X x) (hm:X.mg x=none) (hv:bootBuiltins x=some (.type T)) (ha:PA X (e::es) t) (hn:x≠"__name__":=by decide) (hdb:(x==("__debug__":Str))=false:=by decide)
  (he:starEach (e::es) X.env=(false,eval e X.env)::starEach es X.env:=by rfl) (hpl:(backTo pos (starEach es X.env)).any (·.1)=false:=by rfl):PE X (.Call (.Name x p) (e::es) [] pos) (tCB r t):=by
 intro Yp s σ H Q I h;refine lU (pf I hg hm hv ?_ hn hdb);exact oh (thn (ha pos Yp s σ H _ I h) fun us s1 ⟨vs,H1,I1,r1,q1⟩=>hc Yp s1 σ H1 vs us Q I1 r1 q1) he hpl
end
end
end L2
namespace HT
open PySem PyProof.Rows
theorem Fm (A:Around) (s:Zg) (a:Int) (t:Tok) (c:Int) (u:Tok):∃ e,SeqAt.EqAt A s (.int a t) (.int c u) e/\(e=true↔a=c) :=
 ⟨(a==c),SeqAt.EqAt.int_int a t c u,by simp⟩
section
open PySem.SeqAt
open PySem.AutoSeq1 (wpAny_loadPart')
open PySem.MeetsSeq PySem.MeetsSeq2 PySem.MeetsSeq3
end
section
variable {prog:Zh}{w:Zi}{A:Around}{E:Zq}{s:Zg}
noncomputable def sIx (n d:Nat):Option Int->Nat
 | none=>d
 | some v=>if v<0 then (v+(n:Int)).toNat else min v.toNat n
theorem qE (n d:Nat):sIx n d none=d:=rfl
theorem oM (n d k:Nat):sIx n d (some (k:Int))=min k n:=by show (if (k:Int)<0 then ((k:Int)+(n:Int)).toNat else min (k:Int).toNat n)=min k n;rw[af (by lia),dw]
theorem Hc (n d:Nat) (hd:d<=n) (o:Option Int):sIx n d o<=n:=by
 cases o with
 | none=>exact hd
 | some v =>
  show (if v<0 then (v+(n:Int)).toNat else min v.toNat n)<=n
  by_cases hv:v<0
  ·rw[ah hv];lia
  ·rw[af hv];exact og _ _
end
end HT
namespace L2
open PySem PySem.Spec PyProof.Rows
variable {A:Around}{H:Hp}{H':Hp}{P:Zh}{Q:Zq}{X:Cx}{a:Addr}{h':Heap}{i:Int}{j:Nat}{kvs:List (List Key×V)}{o:Option V}{Yp:Zp}{s:Zg}{t':Nat}{u:Value}{us:Zc}{w:Zi}{x:V}{xs:List (List Key×Addr×Value)}{y:V}{α:Type}{σ:St}
section
noncomputable abbrev TO:=St->Hp->(Option Int->Hp->Prop)->Prop
noncomputable def PO (X:Cx) (e:Option Expr) (t:TO):Prop :=
 ∀ (Yp:Zp) (s:Zg) (σ:St) (H:Hp) (Q:Option Int->Hp->Prop),Inv X Yp σ H s->t σ H Q →
  wpAny (model X.prog X.w) X.A (evalPart e X.env) (fun u s'=>∃ o H',Inv X Yp σ H' s'/\IsPart u o/\Q o H') X.xe s
noncomputable def Cu:TO:=fun _ H Q=>Q none H
noncomputable def Ki (t:TE):TO:=fun σ H Q=>t σ H fun x H1=>∃ i,x=.int i/\Q (some i) H1
theorem intsAre_of {ns:Zb}:∀ {us:Zc},Vals (ns.map V.int) us->IntsAre us ns:=by
 induction ns with
 | nil=>intro us r;rw[jf] at r;cases r;exact .nil
 | cons n ns ih =>
  intro us r;rw[bf] at r;cases r with
  | cons r1 r2 =>obtain⟨t,e⟩:=r1;subst e;exact .cons n t (ih r2)
section
variable {X:Cx}{e:Expr}{te:TE}{lo hi:Option Expr}{tl th:TO}{pos p2:Pos}
theorem eI:PO X none Cu:=by intro Yp s σ H Q I h;rw[evalPart_none];exact ak ⟨none,H,I,.none,h⟩
theorem dQ (h:PE X e te):PO X (some e) (Ki te):=by intro Yp s σ H Q I hw;rw[evalPart_some];refine thn (h Yp s σ H _ I hw) fun u s1 ⟨x,H1,I1,r1,q1⟩=>?_;obtain⟨i,rfl,q⟩:=q1;obtain⟨t,rfl⟩:=r1;exact⟨some i,H1,I1,.int i t,q⟩
noncomputable def SlR (X:Cx) (r:V->Option Int->Option Int->Hp->VK->Prop):Prop :=
 ∀ (Yp:Zp) (s:Zg) (σ:St) (H:Hp) (x:V) (v vl vu:Value) (lo hi:Option Int) (sl:Addr) (Q:VK),Inv X Yp σ H s->RelV x v->s.heap.IsSliceOf sl vl vu .none->IsPart vl lo->IsPart vu hi->r x lo hi H Q →
  ∃ T id,typeLookup (.type T) "__getitem__"=pure (some (.builtin id))/\s.TypeIs v T/\wpAny (model X.prog X.w) X.A (getItem v (.ref sl)) (EP X Yp σ Q) X.xe s
noncomputable def tSl (r:V->Option Int->Option Int->Hp->VK->Prop) (te:TE) (tl th:TO):TE:=fun σ H Q=>te σ H fun x H1=>tl σ H1 fun l H2=>th σ H2 fun u H3=>r x l u H3 Q
theorem cU {r:V->Option Int->Option Int->Hp->VK->Prop} (hr:SlR X r) (he:PE X e te) (hl:PO X lo tl) (hu:PO X hi th):PE X (.Subscript e (.Slice lo hi none p2) pos) (tSl r te tl th):=by intro Yp s σ H Q I h;refine Subscript_ (thn (he Yp s σ H _ I h) fun v s1 ⟨x,H1,I1,r1,q1⟩=>?_);refine wpAny_Slice (thn (hl Yp s1 σ H1 _ I1 q1) fun vl s2 ⟨l,H2,I2,pl,q2⟩=>thn (hu Yp s2 σ H2 _ I2 q2) fun vu s3 ⟨u,H3,I3,pu,q3⟩=>?_);rw[evalPart_none];refine ak ?_;have I4:Inv X Yp σ H3 { s3 with heap:=s3.heap.push { cls:=.type "slice",data:=.fields #[vl,vu,.none] } }:=I3.kept (t':=s3.toks) fun b ob q=>aD _ q;obtain⟨T,id,hT,ht,hg⟩:=hr Yp { s3 with heap:=s3.heap.push { cls:=.type "slice",data:=.fields #[vl,vu,.none] } } σ H3 x v vl vu l u s3.heap.objs.size Q I4 r1 (Heap.IsSliceOf.new ..) pl pu q3;show wpAny (model X.prog X.w) X.A (subscriptTail e (.Slice lo hi none p2) v (.ref s3.heap.objs.size)) (EP X Yp σ Q) X.xe { s3 with heap:=s3.heap.push { cls:=.type "slice",data:=.fields #[vl,vu,.none] } };exact tail_any (ops:=[.ref s3.heap.objs.size,v]) ht hT hg (by with_unfolding_all rfl)
noncomputable def mQ (xs:List V) (lo hi:Option Int):List V:=(xs.drop (HT.sIx xs.length 0 lo)).take (HT.sIx xs.length xs.length hi-HT.sIx xs.length 0 lo)
theorem ya (xs:List V) (lo hi:Option Int):(mQ xs lo hi).length<=xs.length:=by unfold mQ;rw[bI,cf];lia
end
end
section
noncomputable def ixN (n:Nat) (i:Int):Option Nat:=if 0<=i then (if i<n then some i.toNat else none) else if -(n:Int)<=i then some (i+n).toNat else none
noncomputable def atI {α:Type} (xs:List α) (i:Int):Option α:=(ixN xs.length i).bind fun j=>xs[j]?
theorem BQ {n:Nat} (h:ixN n i=some j):seqIndex? i n=some j/\j<n/\-(n:Int)<=i/\i<n:=by
 unfold ixN at h
 by_cases h0:0<=i
 ·rw[ah h0] at h
  by_cases h1:i<n
  ·rw[ah h1] at h;have e:i.toNat=j:=Option.some.inj h;exact⟨by rw[seqIndex_of h0 h1,e],by lia,by lia,h1⟩
  ·rw[af h1] at h;cases h
 ·rw[af h0] at h
  by_cases h1:-(n:Int)<=i
  ·rw[ah h1] at h;have e:(i+n).toNat=j:=Option.some.inj h;exact⟨by rw[seqIndex_neg (by lia) h1,e],by lia,h1,by lia⟩
  ·rw[af h1] at h;cases h
theorem wB {xs:List α}{v:α} (h:atI xs i=some v):∃ j,seqIndex? i xs.length=some j/\xs[j]?=some v/\j<xs.length/\-(xs.length:Int)<=i/\i<xs.length:=by
 unfold atI at h;cases e:ixN xs.length i with
 | none=>rw[e] at h;cases h
 | some j =>rw[e] at h;obtain⟨h1,h2,h3,h4⟩:=BQ e;exact⟨j,h1,h,h2,h3,h4⟩
theorem cu {xs:List α}{v:α} (h:xs[j]?=some v):atI xs (j:Int)=some v:=by
 have hj:j<xs.length:=(b7.mp h).1;have e:ixN xs.length (j:Int)=some j:=by unfold ixN;rw[ah (by lia),ah (by lia)];simp
 unfold atI;rw[e];exact h
noncomputable def HD (b:Expr):Prop:=∀ o i,subscripted b false o i=operate [o,i] (getItem o i)
noncomputable def IxR (X:Cx) (r:R2):Prop :=
 ∀ (value slice:Expr) (Yp:Zp) (s:Zg) (σ:St) (H:Hp) (x y:V) (v u:Value) (Q:VK),Inv X Yp σ H s->RelV x v->RelV y u->r x y H Q →
  subscripted slice false v u=operate [v,u] (getItem v u)->wpAny (model X.prog X.w) X.A (subscriptTail value slice v u) (EP X Yp σ Q) X.xe s
noncomputable def MtR (X:Cx) (id:String) (r:V->List V->Hp->VK->Prop):Prop :=
 ∀ (Yp:Zp) (s:Zg) (σ:St) (H:Hp) (x:V) (xs:List V) (v:Value) (us:Zc) (Q:VK),Inv X Yp σ H s->RelV x v->Vals xs us->r x xs H Q →
  wpAny (model X.prog X.w) X.A (call (.builtin id) (v::us)) (EP X Yp σ Q) X.xe s
section
variable {X:Cx}{a b:Expr}{ta tb:TE}{pos:Pos}
theorem bZ {r:R2} (hr:IxR X r) (ha:PE X a ta) (hb:PE X b tb) (hs:HD b):PE X (.Subscript a b pos) (tOp r ta tb):=by intro Yp s σ H Q I h;exact Subscript_ (K3 ha hb I h fun v u s2 x y H2 I2 rx ry q=>hr a b Yp s2 σ H2 x y v u Q I2 rx ry q (hs _ _))
noncomputable def Nz (K:Zf):R2:=fun x y H Q=>∃ p xs i v,x=.ref p/\y=.int i/\SqL K H p xs/\atI xs i=some v/\Q v H
noncomputable def N1 (K:Zf):R2:=fun x y H Q=>∃ p xs i v,x=.ref p/\y=.int i/\SqT K H p xs/\atI xs i=some v/\Q v H
noncomputable def N0:R2:=fun x y H Q=>∃ z i c,x=.str z/\y=.int i/\z.length<=sizeLine/\atI z.cps.toList i=some c/\Q (.str ⟨#[c]⟩) H
theorem IH:IxR X (Nz X.K):=by
 intro value slice Yp s σ H x y v u Q I rx ry h hs;obtain⟨p,xs,i,z,rfl,rfl,hq,he,q⟩:=h;cases rx;obtain⟨t,rfl⟩:=ry;obtain⟨its,r,pl,hz⟩:=I.list hq;obtain⟨j,h1,h2,h3,h4,h5⟩:=wB he;obtain⟨w,ew,rw'⟩:=r.get h2;have hl:=r.length;have hn:=rL;have fin:EP X Yp σ Q w s:=⟨z,H,I,rw',q⟩
 by_cases h0:0<=i
 ·have hj:i.toNat=j:=by
   rw[seqIndex_of h0 h5] at h1;exact Option.some.inj h1
  exact item_listR pl.isList h0 (by lia) (by rw[hj];simpa using ew) fin hs
 ·have hj:(i+(its.toArray.size:Int)).toNat=j:=by
   rw[seqIndex_neg (by lia) h4] at h1;rw[bF,←hl];exact Option.some.inj h1
  exact subscriptTail_builtinR (x:=w) pl.isList.typeIs slot_list_getitem.lookup
   (wpAny_getItem_list_neg (Q:=fun r s'=>r=w/\EP X Yp σ Q r s') pl.isList (by lia) (by rw[bF]<;>lia) (by lia) (by rw[hj];simpa using ew) ⟨rfl,fin⟩) hs
theorem KP:IxR X (N1 X.K):=by
 intro value slice Yp s σ H x y v u Q I rx ry h hs;obtain⟨p,xs,i,z,rfl,rfl,hq,he,q⟩:=h;cases rx;obtain⟨t,rfl⟩:=ry;obtain⟨its,r,pl,hz⟩:=I.tuple hq;obtain⟨j,h1,h2,h3,h4,h5⟩:=wB he;obtain⟨w,ew,rw'⟩:=r.get h2;have hl:=r.length;have hn:=rL;have fin:EP X Yp σ Q w s:=⟨z,H,I,rw',q⟩;exact subscriptTail_builtinR (x:=w) pl.typeIs slot_tuple_getitem.lookup
  (getItem_tuple (j:=j) (Q:=fun r s'=>r=w/\EP X Yp σ Q r s') pl (by lia) (by lia) (by rw[bF,←hl];exact h1) (by simpa using ew) ⟨rfl,fin⟩) hs
theorem KO:IxR X N0:=by
 intro value slice Yp s σ H x y v u Q I rx ry h hs;obtain⟨z,i,c,rfl,rfl,hz,he,q⟩:=h;obtain⟨t,rfl⟩:=rx;obtain⟨t',rfl⟩:=ry;obtain⟨j,h1,h2,h3,h4,h5⟩:=wB he;have hl:z.cps.toList.length=z.length:=by simp [Str.length]
 rw[hl] at h1 h4 h5;have hn:=rL;exact tail_any (typeIs_str s z t) slot_str_getitem.lookup (getItem_str (c:=c) (by have e1:decide (i < -(2^63:Int))=false:=av (by lia);have e2:decide (i≥2^63)=false:=av (by lia);rw[e1,e2,Bool.or_false]) (by rw[h1];simpa using h2) ⟨.str ⟨#[c]⟩,H,I.tok _,⟨_,rfl⟩,q⟩) hs
theorem Az (its:Zc) (n j:Nat) (u:Value):Obj.mapSeq (·.setIfInBounds j u) { cls:=.type "list",data:=.seq its.toArray n }={ cls:=.type "list",data:=.seq (its.set j u).toArray n }:=by simp [Obj.mapSeq]
theorem Inv.lst {Yp:Zp}{σ:St}{H:Hp}{s:Zg}{p:Addr}{xs:List V} (I:Inv X Yp σ H s) (h:H p=some (.lst xs)) :
  ∃ (its:Zc) (n:Nat),Vals xs its/\s.heap.get? p=some { cls:=.type "list",data:=.seq its.toArray n }/\xs.length<=sizeLine:=by
 obtain⟨z,its,n,r,e⟩:=I.hok p _ h;exact⟨its,n,r,e,z⟩
theorem Inv.Lc {p:Addr}{xs ys:List V}{its its':Zc}{n n':Nat}{f:Obj->Obj} (I:Inv X Yp σ H s) (h:H p=some (.lst xs))
  (ho:s.heap.get? p=some { cls:=.type "list",data:=.seq its.toArray n }) (hf:f { cls:=.type "list",data:=.seq its.toArray n }={ cls:=.type "list",data:=.seq its'.toArray n' }) (r:Vals ys its') (hz:ys.length<=sizeLine) (t:Nat) :
  Inv X Yp σ (upd H p (.lst ys)) { s with heap:=s.heap.update p f,toks:=t }:=by
 have e:(s.heap.update p f).get? p=some { cls:=.type "list",data:=.seq its'.toArray n' }:=by rw[fP f ho (by rw[hf]<;>rfl),hf]
 refine I.write (x:=p) (e:=p) (by rw[h];trivial) (.inl rfl) (fun b u hb q=>(dv _ _ (bD hb)).trans q) ⟨_,e⟩ ?_;exact⟨hz,its',n',r,e⟩
noncomputable def MF:V->V->V->Hp->(Hp->Prop)->Prop:=fun o i v H Q=>∃ p xs k j,o=.ref p/\i=.int k/\H p=some (.lst xs)/\ixN xs.length k=some j/\Q (upd H p (.lst (xs.set j v)))
theorem set_list:Kn X MF:=by
 intro Yp s σ H o i v ov iv u Q I ro ri rv h;obtain⟨p,xs,k,j,rfl,rfl,hp,hj,q⟩:=h;cases ro;obtain⟨t,rfl⟩:=ri;obtain⟨its,n,r,ho,hz⟩:=I.lst hp;obtain⟨h1,h2,h3,h4⟩:=BQ hj;have hl:=r.length;have hn:=rL;have I':Inv X Yp σ (upd H p (.lst (xs.set j v))) { s with heap:=s.heap.update p (Obj.mapSeq (·.setIfInBounds j u)) } :=
  I.Lc hp ho (Az its n j u) (r.set rv j) (by rw[eQ];exact hz) s.toks
 by_cases h0:0<=k
 ·have hk:k.toNat=j:=by
   rw[seqIndex_of h0 h4] at h1;exact Option.some.inj h1
  exact PySem.W.ki_setAt ho h0 (by lia) (by rw[bF,←hl];exact h4) (by rw[hk];exact⟨_,I',q⟩)
 ·have hk:(k+(its.toArray.size:Int)).toNat=j:=by
   rw[seqIndex_neg (by lia) h3] at h1;rw[bF,←hl];exact Option.some.inj h1
  exact PySem.W.ki_setBack ho (by lia) (by rw[bF,←hl];exact h3) (by lia) (by rw[hk];exact⟨_,I',q⟩)
theorem xK (lo hi:Option Int) (n:Nat):(sliceBounds lo hi none n).1=((HT.sIx n 0 lo:Nat):Int)/\(sliceBounds lo hi none n).2.1=((HT.sIx n n hi:Nat):Int)/\(sliceBounds lo hi none n).2.2=1:=by
 refine⟨?_,?_,rfl⟩
 ·cases lo with
  | none=>simp [sliceBounds,HT.sIx]
  | some i =>
   simp only[sliceBounds,HT.sIx,Option.getD_none,show (1:Int)>0 by decide,i4]
   by_cases h:i<0
   ·simp only[h,i4]<;>lia
   ·simp only[h,eU]<;>lia
 ·cases hi with
  | none=>simp [sliceBounds,HT.sIx]
  | some i =>
   simp only[sliceBounds,HT.sIx,Option.getD_none,show (1:Int)>0 by decide,i4]
   by_cases h:i<0
   ·simp only[h,i4]<;>lia
   ·simp only[h,eU]<;>lia
theorem vt (its:Zc) (lo hi:Option Int):slicePick its.toArray lo hi none=((its.drop (HT.sIx its.length 0 lo)).take (HT.sIx its.length its.length hi-HT.sIx its.length 0 lo)).toArray:=by obtain⟨h1,h2,h3⟩:=xK lo hi its.toArray.size;unfold slicePick;rw[h1,h2,h3];simp only[sliceRange_one,pick_run,bF]<;>rfl
noncomputable def N6 (K:Zf):V->Option Int->Option Int->Hp->VK->Prop:=fun x lo hi H Q=>∃ a xs,x=.ref a/\SqL K H a xs/\∀ p,H p=none->Q (.ref p) (upd H p (.lst (mQ xs lo hi)))
theorem J4:SlR X (N6 X.K):=by intro Yp s σ H x v vl vu lo hi sl Q I rx hs pl pu h;obtain⟨a,xs,rfl,hx,q⟩:=h;cases rx;obtain⟨its,r,ht,hz⟩:=I.list hx;have hlen:=r.length;refine⟨"list",_,slot_list_getitem.lookup,ht.isList.typeIs,?_⟩;refine wpAny_getItem_list_slice ht.isList hs pl pu .none (by simp) ?_ (by rw[bF]<;>lia);rw[vt,←hlen];refine⟨.ref s.heap.objs.size,_,I.laid (t':=s.toks) (o:=.lst (mQ xs lo hi)) (fun b ob q=>aD _ q) (ar _) ?_,rfl,q _ (I.hok.fresh (ar _))⟩;exact⟨aV (ya xs lo hi) hz,_,0,(r.drop (HT.sIx xs.length 0 lo)).take (HT.sIx xs.length xs.length hi-HT.sIx xs.length 0 lo),bt _ rfl⟩
noncomputable def eL:V->Bool
 | .non=>true
 | .bl _=>true
 | .int _=>true
 | .str _=>true
 | _=>false
noncomputable def eqV:V->V->Bool
 | .non,.non=>true
 | .bl a,.bl b=>a==b
 | .bl a,.int b=>(if a then 1 else 0)==b
 | .int a,.bl b=>a==(if b then 1 else 0)
 | .int a,.int b=>a==b
 | .str a,.str b=>a==b
 | _,_=>false
theorem Fl {y x:V}{u v:Value} (ry:RelV y u) (rx:RelV x v) (fy:eL y=true) (fx:eL x=true):SeqAt.EqAt A s u v (eqV y x):=by
 cases y with
 | non =>
  cases ry
  cases x with
  | non=>cases rx;exact SeqAt.EqAt.same _
  | bl b=>cases rx;exact SeqAt.EqAt.none_bool b
  | int b=>obtain⟨t,rfl⟩:=rx;exact SeqAt.EqAt.none_int b t
  | str b=>obtain⟨t,rfl⟩:=rx;exact SeqAt.EqAt.none_str b t
  | _=>exact absurd (show false=true from fx) bS
 | bl a =>
  cases ry
  cases x with
  | non=>cases rx;exact SeqAt.EqAt.bool_none a
  | bl b=>cases rx;exact SeqAt.EqAt.bool_bool a b
  | int b=>obtain⟨t,rfl⟩:=rx;exact SeqAt.EqAt.bool_int a b t
  | str b=>obtain⟨t,rfl⟩:=rx;exact SeqAt.EqAt.bool_str a b t
  | _=>exact absurd (show false=true from fx) bS
 | int a =>
  obtain⟨t',rfl⟩:=ry;cases x with
  | non=>cases rx;exact SeqAt.EqAt.int_none a t'
  | bl b=>cases rx;exact SeqAt.EqAt.int_bool a t' b
  | int b=>obtain⟨t,rfl⟩:=rx;exact SeqAt.EqAt.int_int a t' b t
  | str b=>obtain⟨t,rfl⟩:=rx;exact SeqAt.EqAt.int_str a t' b t
  | _=>exact absurd (show false=true from fx) bS
 | str a =>
  obtain⟨t',rfl⟩:=ry;cases x with
  | non=>cases rx;exact SeqAt.EqAt.str_none a t'
  | bl b=>cases rx;exact SeqAt.EqAt.str_bool a t' b
  | int b=>obtain⟨t,rfl⟩:=rx;exact SeqAt.EqAt.str_int a t' b t
  | str b=>obtain⟨t,rfl⟩:=rx;exact SeqAt.EqAt.str_str a t' b t
  | _=>exact absurd (show false=true from fx) bS
 | _=>exact absurd (show false=true from fy) bS
noncomputable def eqU (x:V) (u:Value):Bool:=match u with
 | .none=>eqV .non x
 | .bool b=>eqV (.bl b) x
 | .int i _=>eqV (.int i) x
 | .str z _=>eqV (.str z) x
 | _=>false
theorem Fn {x y:V} (r:RelV y u) (f:eL y=true):eqU x u=eqV y x:=by
 cases y with
 | non=>cases r;rfl
 | bl b=>cases r;rfl
 | int i=>obtain⟨t,rfl⟩:=r;rfl
 | str z=>obtain⟨t,rfl⟩:=r;rfl
 | _=>exact absurd (show false=true from f) bS
theorem qi {x:V}:∀ {xs:List V}{us:Zc},Vals xs us->xs.all eL=true->us.any (eqU x)=xs.any fun y=>eqV y x
 | _,_,.nil,_=>rfl
 | y::xs,u::us,.cons r t,f=>by rw[iY,bP] at f;rw[nK,nK,Fn r f.1,qi t f.2]
theorem mT {A:Around}{s:Zg}{x:V}{v:Value} (rx:RelV x v) (fx:eL x=true):∀ {xs:List V}{us:Zc},Vals xs us->xs.all eL=true->∀ u∈us,SeqAt.EqAt A s u v (eqU x u)
 | _,_,.nil,_=>fun u hu=>by cases hu
 | y::xs,u::us,.cons r t,f=>fun u' hu=>by
  rw[iY,bP] at f;rcases aP.mp hu with rfl | hu
  ·rw[Fn r f.1];exact Fl r rx f.1 fx
  ·exact mT rx fx t f.2 u' hu
noncomputable def inV (x:V) (xs:List V):Bool:=xs.any fun y=>eqV y x
noncomputable def rIn (K:Zf) (neg:Bool):R2:=fun x y H Q=>∃ p xs,y=.ref p/\(SqL K H p xs∨SqT K H p xs)/\eL x=true/\xs.all eL=true/\Q (.bl (if neg then !inV x xs else inV x xs)) H
theorem Ea:OpR X (compareOp .In) (rIn X.K false):=by
 intro Yp s σ H x y v u Q I rx ry h;obtain⟨p,xs,rfl,hq,fx,fs,q⟩:=h;cases ry;rcases hq with hq | hq
 ·obtain⟨its,r,pl,hz⟩:=I.list hq;refine SeqAt.in_listAt (eqU x) pl.isList (fun w hw=>mT rx fx r fs w (by simpa using hw)) ⟨.bl _,H,I,rfl,?_⟩;rw[show its.toArray.any (eqU x)=its.any (eqU x) by simp,qi r fs];exact q
 ·obtain⟨its,r,pl,hz⟩:=I.tuple hq;refine SeqAt.in_tupleAt (eqU x) pl (fun w hw=>mT rx fx r fs w (by simpa using hw)) ⟨.bl _,H,I,rfl,?_⟩;rw[show its.toArray.any (eqU x)=its.any (eqU x) by simp,qi r fs];exact q
theorem xu:OpR X (compareOp .NotIn) (rIn X.K true):=by
 intro Yp s σ H x y v u Q I rx ry h;obtain⟨p,xs,rfl,hq,fx,fs,q⟩:=h;cases ry;rcases hq with hq | hq
 ·obtain⟨its,r,pl,hz⟩:=I.list hq;refine SeqAt.notIn_listAt (eqU x) pl.isList (fun w hw=>mT rx fx r fs w (by simpa using hw)) ⟨.bl _,H,I,rfl,?_⟩;rw[show its.toArray.any (eqU x)=its.any (eqU x) by simp,qi r fs];exact q
 ·obtain⟨its,r,pl,hz⟩:=I.tuple hq;refine SeqAt.notIn_tupleAt (eqU x) pl (fun w hw=>mT rx fx r fs w (by simpa using hw)) ⟨.bl _,H,I,rfl,?_⟩;rw[show its.toArray.any (eqU x)=its.any (eqU x) by simp,qi r fs];exact q
theorem wD:dr X (.builtin "len") (fun xs H Q=>∃ p ys,xs=[.ref p]/\(SqL X.K H p ys∨SqT X.K H p ys)/\Q (.int ys.length) H):=by
 intro Yp s σ H xs us Q I r h;obtain⟨p,ys,rfl,hq,q⟩:=h;obtain⟨u,rfl,rx⟩:=vals1 r;cases rx;have hn:=rL;rcases hq with hq | hq
 ·obtain⟨its,r',pl,hz⟩:=I.list hq;have hlen:=r'.length;exact Calls.call_len_list pl.isList (by simp only[bF]<;>lia) ⟨.int ys.length,H,I.tok _,⟨s.toks+1,by rw[bF,hlen]⟩,q⟩
 ·obtain⟨its,r',pl,hz⟩:=I.tuple hq;have hlen:=r'.length;exact len_tuple pl (by simp only[bF]<;>lia) ⟨.int ys.length,H,I.tok _,⟨s.toks+1,by rw[bF,hlen]⟩,q⟩
theorem wF:dr X (.builtin "len") (fun xs H Q=>∃ z,xs=[.str z]/\z.length<=sizeLine/\Q (.int z.length) H):=by intro Yp s σ H xs us Q I r h;obtain⟨z,rfl,hz,q⟩:=h;obtain⟨u,rfl,t,rfl⟩:=vals1 r;have hn:=rL;exact len_str (by lia) ⟨.int z.length,H,I.tok _,⟨_,rfl⟩,q⟩
theorem wH:dr X (.type "list") (fun xs H Q=>∃ p ys,xs=[.ref p]/\(SqL X.K H p ys∨SqT X.K H p ys)/\∀ l,H l=none->Q (.ref l) (upd H l (.lst ys))):=by
 intro Yp s σ H xs us Q I r h;obtain⟨p,ys,rfl,hq,q⟩:=h;obtain⟨u,rfl,rx⟩:=vals1 r;cases rx;have fin:∀ (its:Zc),Vals ys its->ys.length<=sizeLine->∀ (h':Heap) (c':Nat),(∀ b o',s.heap.get? b=some o'->h'.get? b=some o') →
   h'.get? s.heap.objs.size=some { cls:=.type "list",dict:=none,data:=.seq its.toArray c',slots:=#[] }->EP X Yp σ Q (.ref s.heap.objs.size) { s with heap:=h' }:=fun its r' hz h' c' kp e =>
  ⟨.ref s.heap.objs.size,_,I.laid (t':=s.toks) kp (ar _) (show bY X.prog X.w _ h' _ (.lst ys) from ⟨hz,its,c',r',e⟩),rfl,q _ (I.hok.fresh (ar _))⟩
 rcases hq with hq | hq
 ·obtain⟨its,r',pl,hz⟩:=I.list hq;have hlen:=r'.length;obtain⟨o,ho,hc,n,hd⟩:=pl.isList;exact call_list_seq p (.inl rfl) ho hc hd (fun h' c' kp e=>fin its r' hz h' c' kp e) (by simp only[bF]<;>lia)
 ·obtain⟨its,r',pl,hz⟩:=I.tuple hq;have hlen:=r'.length;obtain⟨o,ho,hc,n,hd⟩:=pl;exact call_list_seq p (.inr rfl) ho hc hd (fun h' c' kp e=>fin its r' hz h' c' kp e) (by simp only[bF]<;>lia)
noncomputable def tyV (K:Zf) (T:String) (x:V) (H:Hp):Prop:=match x with
 | .str _=>T="str"
 | .int _=>T="int"
 | .ref p=>(T="list"/\∃ xs,SqL K H p xs)∨(T="tuple"/\∃ o,K.lookup p=some o/\o.cls=.type "tuple"/\o.dict=none) ∨
   (T="dict"/\((∃ kvs,H p=some (.dK kvs))∨∃ kvs,H p=some (.dT kvs)))∨(T="set"/\∃ S n,H p=some (.set S n))
 | _=>False
theorem LV {T:String}{v:Value} (I:Inv X Yp σ H s) (r:RelV x v) (ty:tyV X.K T x H) :
  s.TypeIs v T/\∀ a,v=.ref a->∃ ob,s.heap.get? a=some ob/\ob.dict=none:=by
 cases x with
 | str z =>obtain⟨t,rfl⟩:=r;cases (show T="str" from ty);exact⟨typeIs_str s z t,fun _ e=>nomatch e⟩
 | int i =>obtain⟨t,rfl⟩:=r;cases (show T="int" from ty);exact⟨typeIs_int s i t,fun _ e=>nomatch e⟩
 | ref p =>
  cases r
  rcases ty with ⟨rfl,xs,hq⟩ | ⟨rfl,o,hk,hc,hd⟩ | ⟨rfl,hk⟩ | ⟨rfl,S,n,hk⟩
  ·obtain⟨its,_,pl,_⟩:=I.list hq;refine⟨pl.isList.typeIs,fun a e=>?_⟩;cases e;obtain⟨o,n,e,c,hd,_⟩:=pl;exact⟨o,e,hd⟩
  ·refine⟨⟨o,I.kIn p o hk,hc⟩,fun a e=>?_⟩;cases e;exact⟨o,I.kIn _ o hk,hd⟩
  ·have z:∃ o,s.heap.get? p=some o/\o.ExactDict:=by
    rcases hk with ⟨kvs,hk⟩ | ⟨kvs,hk⟩
    ·obtain⟨_,_,_,_,o,_,_,e,ex,_⟩:=I.hok p _ hk;exact⟨o,e,ex⟩
    ·obtain⟨_,_,_,_,o,_,_,e,ex,_⟩:=I.hok p _ hk;exact⟨o,e,ex⟩
   obtain⟨o,e,ex⟩:=z;refine⟨⟨o,e,ex.1⟩,fun a e2=>?_⟩;cases e2;exact⟨o,e,ex.2.1⟩
  ·obtain⟨o,_,_,_,e,ex,_⟩:=I.hok p _ hk;refine⟨⟨o,e,ex.1⟩,fun a e2=>?_⟩;cases e2;exact⟨o,e,ex.2.1⟩
 | _=>exact False.elim ty
noncomputable def tBM (K:Zf) (T:String) (r:V->List V->Hp->VK->Prop) (to:TE) (t:TA):TE:=fun σ H Q=>to σ H fun x H1=>tyV K T x H1/\t σ H1 fun xs H2=>r x xs H2 Q
variable {o e:Expr}{es:List Expr}{to:TE}{t:TA}{name:Str}{apos cpos:Pos}{T id:String}{r:V->List V->Hp->VK->Prop}
theorem M4 (pa:PlainAttrs T) (slot:Slot T name id) (hty:typeOf (.builtin id)=pure (.type "method_descriptor")) (hm:MtR X id r) (ho:PE X o to) (ha:PA X (e::es) t)
  (hbase:attributeBase o name X.env (eval o X.env)=eval o X.env:=by rfl)
  (hfew:((backTo cpos (starEach (e::es) X.env)).all (fun x=>!x.1)&&(backToKw cpos (keywordEach [] X.env)).all (fun x=>x.1.isSome)
   && decide ((e::es).length+([]:List Keyword).length+(if ([]:List Keyword).isEmpty then 0 else 1)<30))=true:=by rfl)
  (hline:(apos.endLine==cpos.line)=true:=by rfl) (hs:starEach (e::es) X.env=(false,eval e X.env)::starEach es X.env:=by rfl) (hplain:(backTo cpos (starEach es X.env)).any (·.1)=false:=by rfl) :
  PE X (.Call (.Attribute o name apos) (e::es) [] cpos) (tBM X.K T r to t):=by
 intro Yp s σ H Q I h;refine wpAny_Call_method_late hbase hfew hline rfl (thn (ho Yp s σ H _ I h) fun v s1 ⟨x,H1,I1,r1,ty,q1⟩=>?_);obtain⟨h1,h2⟩:=LV I1 r1 ty;refine⟨T,id,pa,slot,hty,h1,h2,?_⟩;have hA:=ha cpos Yp s1 σ H1 _ I1 q1;rw[hs] at hA ⊢;refine Calls.callWith_builtin (by show (false||(backTo cpos (starEach es X.env)).any (·.1))=false;rw[hplain]<;>rfl) (Calls.evalArgs_plain ?_);exact thn hA fun us s2 ⟨vs,H2,I2,r2,q2⟩=>hm Yp s2 σ H2 x vs v us Q I2 r1 r2 q2
end
end
section
noncomputable def MtM (X:Cx) (id:String) (r:V->List V->Hp->VK->Prop):Prop :=
 ∀ (Yp:Zp) (s:Zg) (σ:St) (H:Hp) (x:V) (xs:List V) (v:Value) (us:Zc) (Q:VK),Inv X Yp σ H s->RelV x v->Vals xs us->r x xs H Q →
  wpAny (model X.prog X.w) X.A (call (.builtin id) (v::us)) (EP X Yp σ Q) X.xe s
theorem Vals.one (h:Vals [x] us):∃ u,us=[u]/\RelV x u:=by cases h with | cons r q=>cases q;exact⟨_,rfl,r⟩
theorem Vals.two {x y:V} (h:Vals [x,y] us):∃ u v,us=[u,v]/\RelV x u/\RelV y v:=by cases h with | cons r q=>obtain⟨_,rfl,p⟩:=Vals.one q;exact⟨_,_,rfl,r,p⟩
theorem Vals.reverse {xs:List V}{us:Zc} (h:Vals xs us):Vals xs.reverse us.reverse:=by
 induction h with
 | nil=>exact .nil
 | cons r t ih=>rw[List.reverse_cons,List.reverse_cons];exact Vals.append ih (.cons r .nil)
theorem Vals.rep {xs:List V}{us:Zc} (h:Vals xs us):∀ k:Nat,Vals (List.replicate k xs).flatten (List.replicate k us).flatten
 | 0=>.nil
 | k+1=>by rw[nZ,nZ,nT,nT];exact Vals.append h (Vals.rep h k)
theorem foldl_rep (its:Zc):∀ (k:Nat) (acc:Zc),
  List.foldl (fun x1 x2=>x1++x2) acc.toArray (List.replicate k its.toArray)=(acc++(List.replicate k its).flatten).toArray
 | 0,acc=>by simp
 | k+1,acc=>by
  have e:acc.toArray++its.toArray=(acc++its).toArray:=by simp
  have e2:(acc++its)++(List.replicate k its).flatten=acc++(List.replicate (k+1) its).flatten:=by rw[nZ,nT,dN]
  rw[←e2,←foldl_rep its k (acc++its),←e,nZ,List.foldl_cons]
section
variable {X:Cx}{Yp:Zp}{σ:St}{H:Hp}{s:Zg}{l b:Addr}{xs ys zs:List V}
theorem Inv.Lb {its its':Zc}{n:Nat}{f:Array Value->Array Value}{t':Nat} (I:Inv X Yp σ H s) (hH:H l=some (.lst xs))
  (e:s.heap.get? l=some { cls:=.type "list",data:=.seq its.toArray n }) (hf:f its.toArray=its'.toArray) (hv:Vals ys its') (hz:ys.length<=sizeLine) :
  Inv X Yp σ (upd H l (.lst ys)) { s with heap:=s.heap.update l (Obj.mapSeq f),toks:=t' }:=by
 have q:=PySem.IsL.update e f;rw[hf] at q;refine I.write (x:=l) (e:=l) (by rw[hH];exact trivial) (.inl rfl) (fun b' u hb hu=>(dv s.heap (Obj.mapSeq f) (bD hb)).trans hu) ⟨_,q⟩ ?_;exact⟨hz,its',_,hv,q⟩
theorem Inv.Mv {its:Zc}{t':Nat} (I:Inv X Yp σ H s) (hv:Vals ys its) (hz:ys.length<=sizeLine) :
  Inv X Yp σ (upd H s.heap.objs.size (.lst ys)) { s with heap:=s.heap.push { cls:=.type "list",data:=.seq its.toArray },toks:=t' } :=
 I.laid (fun _ _ q=>aD _ q) (ar _) ⟨hz,its,0,hv,bt _ rfl⟩
theorem Inv.fresh (I:Inv X Yp σ H s):H s.heap.objs.size=none:=I.hok.fresh (ar _)
theorem Inv.Aw (I:Inv X Yp σ H s) (hH:H l=some (.lst xs)):xs.length<=sizeLine/\∃ (its:Zc) (n:Nat),Vals xs its/\xs.length=its.length/\s.heap.get? l=some { cls:=.type "list",data:=.seq its.toArray n }:=by obtain⟨z,its,n,r,e⟩:=I.hok l _ hH;exact⟨z,its,n,r,r.length,e⟩
theorem yB {n:Nat} (h:n<=sizeLine):Builtin.List.listTooLong n=false:=by unfold Builtin.List.listTooLong;exact av (by lia)
end
section
variable {X:Cx}
noncomputable def Jl:V->List V->Hp->VK->Prop:=fun x vs H Q=>∃ l xs y,x=.ref l/\vs=[y]/\H l=some (.lst xs)/\xs.length<sizeLine/\Q .non (upd H l (.lst (xs++[y])))
theorem eM:MtM X "list.append" Jl:=by intro Yp s σ H x vs v us Q I rx rv h;obtain⟨l,xs,y,rfl,rfl,hH,hz,q⟩:=h;cases rx;obtain⟨u,rfl,ru⟩:=rv.one;obtain⟨z,its,n,r,hl,e⟩:=I.Aw hH;refine i3 F.slot_list_append ⟨_,e,rfl⟩ F.entry_list_append (F.args_list_append_2 _ _) (PySem.list_append l its.toArray n u (by rw[bF];lia)) ⟨e,?_⟩;refine⟨.non,_,I.Lb (its':=its++[u]) hH e (by simp) (r.append (.cons ru .nil)) ?_,rfl,q⟩;rw[aB,cN];lia
noncomputable def Jm:V->List V->Hp->VK->Prop:=fun x vs H Q=>∃ l b xs zs,x=.ref l/\vs=[.ref b]/\H l=some (.lst xs)/\H b=some (.lst zs)/\xs.length+zs.length<=sizeLine/\Q .non (upd H l (.lst (xs++zs)))
theorem DW:MtM X "list.extend" Jm:=by
 intro Yp s σ H x vs v us Q I rx rv h;obtain⟨l,b,xs,zs,rfl,rfl,hH,hB,hz,q⟩:=h;cases rx;obtain⟨u,rfl,ru⟩:=rv.one;cases ru;obtain⟨z,its,n,r,hl,e⟩:=I.Aw hH;obtain⟨z2,its2,n2,r2,hl2,e2⟩:=I.Aw hB;have hsz:its.toArray.size+its2.toArray.size<=sizeLine:=by rw[bF,bF];lia
 have hlong:¬ (!its.toArray.isEmpty&&Builtin.List.listTooLong (its.toArray.size+its2.toArray.size))=true:=by rw[yB hsz,Bool.and_false];exact bS
 refine i3 F.slot_list_extend ⟨_,e,rfl⟩ F.entry_list_extend (F.args_list_extend_2 _ _)
  (AutoSeq1.list_extend_list_list_0 l its.toArray n b its2.toArray n2 hlong (by rw[bF];lia) (by lia)) ⟨e,e2,?_⟩
 refine⟨.non,_,I.Lb (its':=its++its2) hH e (by simp) (r.append r2) ?_,rfl,q⟩;rw[aB];lia
noncomputable def Nv:R2:=fun x y H Q=>∃ l b xs zs,x=.ref l/\y=.ref b/\H l=some (.lst xs)/\H b=some (.lst zs)/\xs.length+zs.length<=sizeLine/\∀ p,H p=none->Q (.ref p) (upd H p (.lst (xs++zs)))
theorem Ll:OpR X (binaryOp .Add) Nv:=by
 intro Yp s σ H x y v u Q I rx ry h;obtain⟨l,b,xs,zs,rfl,rfl,hH,hB,hz,q⟩:=h;cases rx;cases ry;obtain⟨z,its,n,r,hl,e⟩:=I.Aw hH;obtain⟨z2,its2,n2,r2,hl2,e2⟩:=I.Aw hB;refine PySem.P.add_list e e2 ?_ (by rw[bF,bF];lia);have ea:its.toArray++its2.toArray=(its++its2).toArray:=by simp
 rw[ea];exact⟨.ref _,_,I.Mv (t':=s.toks) (r.append r2) (by rw[aB];lia),rfl,q _ I.fresh⟩
noncomputable def N5:R2:=fun x y H Q=>∃ l k xs,x=.ref l/\y=.int k/\H l=some (.lst xs)/\-(2^63)<=k/\k<2^63/\xs.length*k.toNat<=sizeLine ∧
 ∀ p,H p=none->Q (.ref p) (upd H p (.lst (List.replicate k.toNat xs).flatten))
theorem len_rep (xs:List α) (k:Nat):(List.replicate k xs).flatten.length=k*xs.length:=by
 induction k with
 | zero=>simp
 | succ k ih=>rw[nZ,nT,aB,ih,Nat.succ_mul,Nat.add_comm]
theorem Lw:OpR X (binaryOp .Mult) N5:=by
 intro Yp s σ H x y v u Q I rx ry h;obtain⟨l,k,xs,rfl,rfl,hH,h1,h2,hz,q⟩:=h;cases rx;obtain⟨t,rfl⟩:=ry;obtain⟨z,its,n,r,hl,e⟩:=I.Aw hH;have hlen:its.toArray.size*k.toNat<=sizeLine:=by rw[bF,←hl];exact hz
 have hcap:¬ its.toArray.size*k.toNat>(2^63-1)/8:=by
  have:(sizeLine:Nat)<=(2^63-1)/8:=by decide
  lia
 have hfit:¬ (!Builtin.List.listFitsIndex k)=true:=by rw[fitsIndex_both h1 h2];exact bS
 have hlong:¬ Builtin.List.listTooLong (its.toArray.size*k.toNat)=true:=by rw[yB hlen];exact bS
 have hnew:List.foldl (fun x1 x2=>x1++x2) #[] (List.replicate (if its.toArray.isEmpty=true then 0 else k.toNat) its.toArray)=(List.replicate k.toNat its).flatten.toArray:=by
  have f0:∀ m:Nat,List.foldl (fun x1 x2=>x1++x2) #[] (List.replicate m its.toArray)=(List.replicate m its).flatten.toArray:=fun m=>by have:=foldl_rep its m [];rw[List.nil_append] at this;exact this
  rw[f0];cases its with
  | nil=>simp
  | cons a r'=>rw[af (by simp)]
 refine wpAny_binaryOp_repeat_ref (T:="list") (U:="int") Zd ⟨_,e,rfl⟩ (fun s'=>typeIs_int s' k t) noFill_list_mul F.fills_int_mul F.slot_int_rmul repeat_list F.slot_int_index.lookup
  (i3 F.slot_int_rmul (typeIs_int s k t) F.entry_int_rmul (F.args_int_rmul_2 _ _) (int___rmul___int_list k t l its.toArray n)
   ⟨e,rfl,⟨_,e,rfl⟩,i3 F.slot_list_mul ⟨_,e,rfl⟩ F.entry_list_mul (F.args_list_mul_2 _ _) (AutoListH.list___mul___list_int_3 l its.toArray n k t hfit hcap hlong) ⟨e,?_⟩⟩)
 rw[hnew];exact⟨.ref _,_,I.Mv (t':=s.toks) (r.rep k.toNat) (by rw[len_rep,Nat.mul_comm];exact hz),rfl,q _ I.fresh⟩
end
section
variable {prog:Zh}{w:Zi}{A:Around}{E:Zq}{s:Zg}
end
section
variable {X:Cx}
end
end
section
section
variable {κ:Type} [DecidableEq κ]
noncomputable def kW (kvs:List (κ×V)) (k:κ):Option V:=(kvs.find? fun kv=>decide (kv.1=k)).map (·.2)
noncomputable def putK (kvs:List (κ×V)) (k:κ) (v:V):List (κ×V) :=
 if (kvs.any fun kv=>decide (kv.1=k))=true then kvs.map (fun kv=>if kv.1=k then (kv.1,v) else kv) else kvs++[(k,v)]
theorem vd {p:κ×V}{r:List (κ×V)}{k:κ} (e:p.1=k):kW (p::r) k=some p.2:=by simp [kW,iZ,e]
theorem vc {p:κ×V}{r:List (κ×V)}{k:κ} (e:¬ p.1=k):kW (p::r) k=kW r k:=by simp [kW,iZ,e]
theorem vb (k:κ):∀ kvs:List (κ×V),(kvs.any fun kv=>decide (kv.1=k))=(kW kvs k).isSome
 | []=>rfl
 | p::r=>by
  rw[nK]
  by_cases e:p.1=k
  ·simp only[vd e,aw e,Bool.true_or,Option.isSome_some]
  ·rw[vc e,av e,Bool.false_or];exact vb k r
theorem sC (kvs:List (κ×V)) (k:κ) (v:V):(putK kvs k v).length<=kvs.length+1:=by
 unfold putK;split
 ·rw[ag];lia
 ·rw[aB,aZ,ir];lia
theorem mK.lq {u:Option Value} (r:mK o u):o.isSome=u.isSome:=by
 cases o with
 | none=>cases u with
  | none=>rfl
  | some _=>exact (show False from r).elim
 | some _=>cases u with
  | none=>exact (show False from r).elim
  | some _=>rfl
theorem mK.getD {o:Option V}{u:Option Value}{d:V}{d':Value} (r:mK o u) (rd:RelV d d'):RelV (o.getD d) (u.getD d'):=by
 cases o with
 | none=>cases u with
  | none=>exact rd
  | some _=>exact (show False from r).elim
 | some _=>cases u with
  | none=>exact (show False from r).elim
  | some _=>exact r
theorem KV.val {kvs:List (κ×V)}{vs:List (κ×Value)} (r:KV kvs vs) (k:κ):mK (kW kvs k) (valueAt vs k):=by
 unfold KV at r
 induction r with
 | nil=>exact True.intro
 | @cons p q ps qs h t ih =>
  obtain⟨h1,h2⟩:=h
  by_cases e:p.1=k
  ·have e':q.1=k:=h1.symm.trans e;have b:valueAt (q::qs) k=some q.2:=by simp [valueAt,iZ,e']
   rw[vd e,b];exact h2
  ·have e':¬ q.1=k:=fun z=>e (h1.trans z);have b:valueAt (q::qs) k=valueAt qs k:=by simp [valueAt,iZ,e']
   rw[vc e,b];exact ih
theorem KV.any {kvs:List (κ×V)}{vs:List (κ×Value)} (r:KV kvs vs) (k:κ):(kvs.any fun kv=>decide (kv.1=k))=vs.any fun kv=>decide (kv.1=k):=by
 unfold KV at r
 induction r with
 | nil=>rfl
 | cons h t ih=>rw[nK,nK,ih,h.1]
theorem KV.LI {kvs:List (κ×V)}{vs:List (κ×Value)} (r:KV kvs vs) (k:κ)  (ry:RelV y u) :
  KV (kvs.map fun kv=>if kv.1=k then (kv.1,y) else kv) (vs.map fun kv=>if kv.1=k then (kv.1,u) else kv):=by
 unfold KV at r ⊢
 induction r with
 | nil=>exact .nil
 | @cons p q ps qs h t ih =>
  rw[bf,bf];refine .cons ?_ ih;obtain⟨h1,h2⟩:=h
  by_cases e:p.1=k
  ·rw[ah e,ah (h1.symm.trans e)];exact⟨h1,ry⟩
  ·rw[af e,af (fun z=>e (h1.trans z))];exact⟨h1,h2⟩
theorem KV.put {kvs:List (κ×V)}{vs:List (κ×Value)} (r:KV kvs vs) (k:κ)  (ry:RelV y u):KV (putK kvs k y) (stored vs k u):=by
 unfold putK stored;rw[r.any k]
 by_cases e:(vs.any fun kv=>decide (kv.1=k))=true
 ·rw[ah e,ah e];exact r.LI k ry
 ·rw[af e,af e];exact Paired.snoc r ⟨rfl,ry⟩
theorem KV.length {kvs:List (κ×V)}{vs:List (κ×Value)} (r:KV kvs vs):kvs.length=vs.length:=Paired.length r
end
theorem vO {k:Key} (r:RelV (kV k) u):(br P w).is k u=true:=by
 cases k with
 | inl i=>obtain⟨t,e⟩:=(show ∃ t,u=Value.int i t from r);subst e;exact yz P w i t
 | inr x=>obtain⟨t,e⟩:=(show ∃ t,u=Value.str x t from r);subst e;exact yA P w x t
theorem vN {P:Zh}{w:Zi}:∀ {ks:List Key}{us:Zc},Vals (ks.map kV) us->ItemsAre (br P w) ks us
 | [],_,r=>by rw[jf] at r;cases r;exact .nil
 | k::ks,_,r=>by
  rw[bf] at r;cases r with
  | cons h t=>exact .cons (vO h) (vN t)
noncomputable abbrev KT (H:Hp):List (List Key×V)->List (List Key×Addr×Value)->Prop:=Paired fun p q=>p.1=q.1/\H q.2.1=some (.tup (p.1.map kV))/\RelV p.2 q.2.2
theorem KT.val (r:KT H kvs xs) (k:List Key):mK (kW kvs k) ((atKey xs k).map (·.2)):=by
 induction r with
 | nil=>exact True.intro
 | @cons p q ps qs h t ih =>
  obtain⟨h1,_,h2⟩:=h
  by_cases e:p.1=k
  ·have e':q.1=k:=h1.symm.trans e;have b:atKey (q::qs) k=some q.2:=by simp [atKey,iZ,e']
   rw[vd e,b];exact h2
  ·have e':¬ q.1=k:=fun z=>e (h1.trans z);have b:atKey (q::qs) k=atKey qs k:=by simp [atKey,iZ,e']
   rw[vc e,b];exact ih
theorem KT.LI (r:KT H kvs xs) (k:List Key)  (ry:RelV y u) :
  KT H (kvs.map fun kv=>if kv.1=k then (kv.1,y) else kv) (xs.map (putAt k u)):=by
 induction r with
 | nil=>exact .nil
 | @cons p q ps qs h t ih =>
  rw[bf,bf];refine .cons ?_ ih;obtain⟨h1,h2,h3⟩:=h;unfold putAt
  by_cases e:p.1=k
  ·rw[ah e,ah (h1.symm.trans e)];exact⟨h1,h2,ry⟩
  ·rw[af e,af (fun z=>e (h1.trans z))];exact⟨h1,h2,h3⟩
theorem KT.put (r:KT H kvs xs) (k:List Key) {b:Addr} (hb:H b=some (.tup (k.map kV))) (ry:RelV y u) :
  KT H (putK kvs k y) (storedH xs k b u):=by
 have e:(kvs.any fun kv=>decide (kv.1=k))=(atKey xs k).isSome:=by rw[vb,(r.val k).lq,Option.isSome_map]
 unfold putK storedH;rw[e]
 by_cases q:(atKey xs k).isSome=true
 ·rw[ah q,ah q];exact r.LI k ry
 ·rw[af q,af q];exact Paired.snoc r ⟨rfl,hb,ry⟩
theorem KT.keeps {H H':Hp} (r:KT H kvs xs) (ht:∀ b ys,H b=some (.tup ys)->H' b=some (.tup ys)):KT H' kvs xs :=
 Paired.Le r fun _ _ z=>⟨z.1,ht _ _ z.2.1,z.2.2⟩
section
variable {P:Zh}{w:Zi}{H:Hp}{h:Heap}{a:Addr}
theorem JW {u:HO} (ok:HOk P w H h) (e:Rd H a u):bY P w H h a u:=e.ok ok
theorem su {kvs:List (Key×V)} (ok:HOk P w H h) (e:Rd H a (.dK kvs)):kvs.length<=sizeLine/\(a==sysModules)=false/\∃ vs,KV kvs vs/\h.DictOf (br P w) a vs :=
 show bY P w H h a (.dK kvs) from JW ok e
theorem JG {kvs:List (Key×V)} (ok:HOk P w H h) (e:H a=some (.dK kvs)):kvs.length<=sizeLine/\(a==sysModules)=false/\∃ vs,KV kvs vs/\h.DictOf (br P w) a vs:=su ok (.inl e)
theorem rH {ks:List Key} (ok:HOk P w H h) (e:H a=some (.tup (ks.map kV))):(tupleKind (br P w)).is h ks a:=by obtain⟨_,its,r,o,h1,h2,n,h3⟩:=(show bY P w H h a (.tup (ks.map kV)) from ok a _ e);exact⟨o,its.toArray,n,h1,h2,h3,by simpa using vN r⟩
theorem tZ (ok:HOk P w H h) (e:Rd H a (.dT kvs)):kvs.length<=sizeLine/\(a==sysModules)=false ∧
  ∃ xs,KT H kvs xs/\h.DictOfH (tupleKind (br P w)) a xs:=by
 obtain⟨z,y,xs,r,o,es,ep,h1,h2,h3,h4,h5⟩:=(show bY P w H h a (.dT kvs) from JW ok e);refine⟨z,y,xs,r,o,es,ep,h1,h2,h3,h4,fun x hx=>?_,h5⟩;have all:∀ {l:List (List Key×V)}{m:List (List Key×Addr×Value)},KT H l m->∀ x∈m,(tupleKind (br P w)).is h x.1 x.2.1:=by
  intro l m q
  induction q with
  | nil=>intro x hx;exact nomatch hx
  | @cons p q ps qs hq t ih =>
   intro x hx;rcases aP.mp hx with e | hx
   ·subst e;exact rH ok (by rw[←hq.1];exact hq.2.1)
   ·exact ih x hx
 exact all r x hx
theorem Mo (ok:HOk P w H h) (e:H a=some (.dT kvs)):kvs.length<=sizeLine/\(a==sysModules)=false ∧
  ∃ xs,KT H kvs xs/\h.DictOfH (tupleKind (br P w)) a xs:=tZ ok (.inl e)
end
noncomputable def mJ (H:Hp) (a:Addr) (y:V) (r:Option V):Prop :=
 (∃ kvs k,Rd H a (.dK kvs)/\y=kV k/\r=kW kvs k)∨∃ kvs k b,Rd H a (.dT kvs)/\y=.ref b/\H b=some (.tup (k.map kV))/\r=kW kvs k
noncomputable def z9 (H:Hp) (a:Addr) (y v:V) (H':Hp):Prop :=
 (∃ kvs k,H a=some (.dK kvs)/\y=kV k/\kvs.length<sizeLine/\H'=upd H a (.dK (putK kvs k v))) ∨
 ∃ kvs k b,H a=some (.dT kvs)/\y=.ref b/\H b=some (.tup (k.map kV))/\kvs.length<sizeLine/\H'=upd H a (.dT (putK kvs k v))
theorem z9.k {H:Hp}{a:Addr}{kvs:List (Key×V)}{k:Key}{v:V} (e:H a=some (.dK kvs)) (hl:kvs.length<sizeLine):z9 H a (kV k) v (upd H a (.dK (putK kvs k v))):=.inl ⟨kvs,k,e,rfl,hl,rfl⟩
section
variable {X:Cx}{Yp:Zp}{σ:St}{H:Hp}{s:Zg}{a:Addr}{y v:V}{u r:Value}{o:Option V}{A:Around}{E:Zq}
theorem Inv.big (I:Inv X Yp σ H s):sysModules<s.heap.objs.size:=by have h:mainGlobals<s.heap.objs.size:=(I.mod.glob.keeps I.bk).lt;exact Nat.lt_trans Zd h
theorem Dl (hu:A.units+1<cLine) (I:Inv X Yp σ H s) (g:mJ H a y (some v)) (ry:RelV y u) (h:∀ w' s',Inv X Yp σ H s'->RelV v w'->Q w' s') :
  wpAny (model X.prog X.w) A (getItem (.ref a) u) Q E s:=by
 rcases g with ⟨kvs,k,e,ey,l⟩ | ⟨kvs,k,b,e,ey,eb,l⟩
 ·subst ey;obtain⟨z,hd,vs,rel,dd⟩:=su I.hok e;obtain⟨w',hw,rw'⟩:=mK.some_of (v:=v) (o:=valueAt vs k) (by rw[l];exact rel.val k);exact wpAny_getItem_of (vO ry) dd.mapOf hw (h w' _ (I.tok _) rw')
 ·subst ey;cases (show u=Value.ref b from ry);obtain⟨z,hd,xs,rel,dd⟩:=tZ I.hok e;obtain⟨w',hw,rw'⟩:=mK.some_of (v:=v) (o:=(atKey xs k).map (·.2)) (by rw[l];exact rel.val k);obtain⟨p,hp,hp2⟩:=dO.mp hw;refine wpAny_getItem_heap (oo hu) (rH I.hok eb) dd hp ?_;rw[hp2];exact h w' _ (I.tok _) rw'
theorem Nn (hu:A.units+1<cLine) (I:Inv X Yp σ H s) (g:mJ H a y o) (ry:RelV y u) (h:∀ s',Inv X Yp σ H s'->Q (.bool o.isSome) s') :
  wpAny (model X.prog X.w) A (compareOp .In u (.ref a)) Q E s:=by
 rcases g with ⟨kvs,k,e,ey,l⟩ | ⟨kvs,k,b,e,ey,eb,l⟩
 ·subst ey;obtain⟨z,hd,vs,rel,dd⟩:=su I.hok e;refine wpAny_in_of (vO ry) hd dd.mapOf ?_;rw[←(rel.val k).lq,←l];exact h _ (I.tok _)
 ·subst ey;cases (show u=Value.ref b from ry);obtain⟨z,hd,xs,rel,dd⟩:=tZ I.hok e;refine wpAny_in_heap (oo hu) (rH I.hok eb) hd dd ?_;have q:=(rel.val k).lq;rw[Option.isSome_map] at q;rw[←q,←l];exact h _ (I.tok _)
theorem Il (hu:A.units+1<cLine) (I:Inv X Yp σ H s) (g:mJ H a y o) (ry:RelV y u) (h:∀ s',Inv X Yp σ H s'->Q (.bool (!o.isSome)) s') :
  wpAny (model X.prog X.w) A (compareOp .NotIn u (.ref a)) Q E s:=by
 rcases g with ⟨kvs,k,e,ey,l⟩ | ⟨kvs,k,b,e,ey,eb,l⟩
 ·subst ey;obtain⟨z,hd,vs,rel,dd⟩:=su I.hok e;refine wpAny_notIn_of (vO ry) hd dd.mapOf ?_;rw[←(rel.val k).lq,←l];exact h _ (I.tok _)
 ·subst ey;cases (show u=Value.ref b from ry);obtain⟨z,hd,xs,rel,dd⟩:=tZ I.hok e;refine wpAny_notIn_heap (oo hu) (rH I.hok eb) hd dd ?_;have q:=(rel.val k).lq;rw[Option.isSome_map] at q;rw[←q,←l];exact h _ (I.tok _)
theorem BA {t':Nat}{ob:HO} (I:Inv X Yp σ H s) (mu:Mut (H a)) (hs:Heap.SameBut a s.heap h') (he:∃ q,h'.get? a=some q) (new:bY X.prog X.w (upd H a ob) h' a ob) :
  Inv X Yp σ (upd H a ob) { s with heap:=h',toks:=t' } :=
 I.write (x:=a) (e:=a) mu (.inl rfl) (fun b q hb z=>(hs.2 b hb).trans z) he new
theorem K7 {H':Hp}{kvs:List (Key×V)}{vs:List (Key×Value)} (z:kvs.length<=sizeLine) (hd:(a==sysModules)=false) (rel:KV kvs vs) (dd:h'.DictOf (br P w) a vs) :
  bY P w H' h' a (.dK kvs):=⟨z,hd,vs,rel,dd⟩
theorem Dm {Q:Unit->Zg->Prop} (hu:A.units+1<cLine) (I:Inv X Yp σ H s) (g:z9 H a y v H') (ry:RelV y u) (rv:RelV v r) (h:∀ s',Inv X Yp σ H' s'->Q () s') :
  wpAny (model X.prog X.w) A (setItem (.ref a) u r) Q E s:=by
 rcases g with ⟨kvs,k,e,ey,l,eH⟩ | ⟨kvs,k,b,e,ey,eb,l,eH⟩
 ·subst ey eH;obtain⟨z,hd,vs,rel,dd⟩:=JG I.hok e;have hz:vs.length<=sizeLine:=by rw[←rel.length];exact z
  have hl:(putK kvs k v).length<=sizeLine:=by have:=sC kvs k v;lia
  refine wpAny_setItem_pairs (hsz:=hz) (vO ry) dd fun h' dd' hs=>h _ ?_;have he:∃ q,h'.get? a=some q:=let ⟨q,_,_,hq,_⟩:=dd';⟨q,hq⟩;exact BA I (by rw[e];exact True.intro) hs he (K7 hl hd (rel.put k rv) dd')
 ·subst ey eH;cases (show u=Value.ref b from ry);obtain⟨z,hd,xs,rel,dd⟩:=Mo I.hok e;have hz:xs.length<=sizeLine:=by rw[←Paired.length rel];exact z
  have hl:(putK kvs k v).length<=sizeLine:=by have:=sC kvs k v;lia
  refine wpAny_setItem_heap (hsz:=hz) (oo hu) (rH I.hok eb) dd fun h' dd' hs=>h _ ?_;obtain⟨q,es,ep,hq,h2,h3,h4,_,h5⟩:=dd';refine BA I (by rw[e];exact True.intro) hs ⟨q,hq⟩ ⟨hl,hd,_,(rel.put k eb rv).keeps fun c ys ec=>?_,q,es,ep,hq,h2,h3,h4,h5⟩;rw[aJ (jw ec e (fun z=>nomatch z))];exact ec
end
section
variable {X:Cx}{Yp:Zp}{σ:St}{H:Hp}{s:Zg}{a:Addr}{kvs:List (Key×V)}{k:Key}{u:Value}{A:Around}{E:Zq}
theorem Mn (I:Inv X Yp σ H s) (e:Rd H a (.dK kvs)) (h:∀ t s',Inv X Yp σ H s'->Q (.int kvs.length t) s'):wpAny (model X.prog X.w) A (call (.builtin "len") [.ref a]) Q E s:=by obtain⟨z,hd,vs,rel,dd⟩:=su I.hok e;refine call_len_dict hd dd (by rw[←rel.length];rw[i5] at z;lia) ?_;rw[←rel.length];exact h _ _ (I.tok _)
end
noncomputable def Km (i:Expr):Prop:=∀ ov iv,subscripted i false ov iv=operate [ov,iv] (getItem ov iv)
theorem J7 {prog:Zh}{w:Zi}{A:Around}{E:Zq}{s:Zg}{env:Env}{value slice:Expr}{pos:Pos}{T id:String}{Q:Zq}
  (hl:typeLookup (.type T) "__getitem__"=pure (some (.builtin id))) (hs:Km slice)
  (h:wpAny (model prog w) A (eval value env) (fun o s₁=>wpAny (model prog w) A (eval slice env) (fun i s₂=>s₂.TypeIs o T/\wpAny (model prog w) A (getItem o i) Q E s₂) E s₁) E s) :
  wpAny (model prog w) A (eval (.Subscript value slice pos) env) Q E s:=by
 refine Subscript_ (bM h (fun o s₁ h₁=>bM h₁ (fun i s₂ h₂=>?_) fun _ _ x=>x) fun _ _ x=>x);obtain⟨hT,h₂⟩:=h₂;unfold subscriptTail;refine aa ?_;rw[getitemInPython_of_ne hT.not_modules];refine aa (wpAny_specialOf hT hl ?_);have fin:wpAny (model prog w) A (subscripted slice false o i) (fun r s₃=>wpAny (model prog w) A (letTemporaryGo value o r >>= fun _=>pure r) Q E s₃) E s₂:=by rw[hs o i];exact wpAny_operating (bM h₂ (fun r s₃ h₃=>aa (wpAny_letTemporaryGo (ak h₃))) fun _ _ x=>x)
 first
  | exact ak (aa fin)
  | exact aa (ak (aa fin))
  | exact aa fin
theorem yd (I:Inv X Yp σ H s) (g:mJ H a y o):s.TypeIs (.ref a) "dict":=by
 rcases g with ⟨kvs,k,e,_,_⟩ | ⟨kvs,k,b,e,_,_,_⟩
 ·obtain⟨_,_,vs,_,dd⟩:=su I.hok e;exact dd.typeIs
 ·obtain⟨_,_,xs,_,dd⟩:=tZ I.hok e;exact dd.typeIs
noncomputable def Hn (td ty:TE):TE:=fun σ H Q=>td σ H fun x H1=>ty σ H1 fun y H2=>∃ a v,x=.ref a/\mJ H2 a y (some v)/\Q v H2
noncomputable def Hb (td ty tv:TE):TS:=fun D σ H=>tv σ H fun v H1=>td σ H1 fun x H2=>ty σ H2 fun y H3=>∃ a H4,x=.ref a/\z9 H3 a y v H4/\D.nx σ H4
section
variable {X:Cx}{o i e value:Expr}{pos pos' tpos:Pos}{td ty tv:TE}
theorem Jb (hu:X.A.units+1<cLine) (ho:PE X o td) (hi:PE X i ty) (hs:Km i):PE X (.Subscript o i pos) (Hn td ty):=by intro Yp s σ H Q I h;refine J7 PySem.F.slot_dict_getitem.lookup hs (thn (ho Yp s σ H _ I h) fun u s1 ⟨x,H1,I1,rx,q1⟩=>thn (hi Yp s1 σ H1 _ I1 q1) fun iv s2 ⟨y,H2,I2,ry,a,v,ex,g,q2⟩=>?_);subst ex;obtain rfl:u=Value.ref a:=rx;exact⟨yd I2 g,Dl hu I2 g ry fun w' s3 I3 rw'=>⟨v,H2,I3,rw',q2⟩⟩
theorem Jj (hu:X.A.units+1<cLine) (ho:PE X o td) (hi:PE X i ty) (hv:PE X value tv) (hs:swapsWith value (some (.Subscript o i pos')) pos.line X.env=pure false) :
  PS X (.Assign [.Subscript o i pos'] value pos) (Hb td ty tv):=by
 intro Yp s σ H D I h;refine wpAny_Assign_Subscript (thn (hv Yp s σ H _ I h) fun r s1 ⟨v,H1,I1,rv,q1⟩=>thn (ho Yp s1 σ H1 _ I1 q1) fun u s2 ⟨x,H2,I2,rx,q2⟩=>thn (hi Yp s2 σ H2 _ I2 q2) fun iv s3 ⟨y,H3,I3,ry,a,H4,ex,g,q3⟩=>?_) hs;subst ex;obtain rfl:u=Value.ref a:=rx;exact Dm hu I3 g ry rv fun s4 I4=>⟨σ,H4,I4,q3⟩
end
theorem Fg (h:Heap) (hb:sysModules<h.objs.size):bY P w H (h.push { cls:=.type "dict",data:=.dict #[] }) h.objs.size (.dK []) :=
 ⟨bj _,ka.mpr (bD (aW hb)),[],.nil,Heap.DictOf.new h⟩
theorem Fh (h:Heap) (hb:sysModules<h.objs.size):bY P w H (h.push { cls:=.type "dict",data:=.dict #[] }) h.objs.size (.dT []) :=
 ⟨bj _,ka.mpr (bD (aW hb)),[],.nil,_,#[],0,bt _ rfl,⟨rfl,rfl,rfl⟩,rfl,rfl,List.nodup_nil⟩
noncomputable def LO:TE:=fun _ H Q=>∀ p,H p=none->Q (.ref p) (upd H p (.dK []))
noncomputable def LP:TE:=fun _ H Q=>∀ p,H p=none->Q (.ref p) (upd H p (.dT []))
section
variable {X:Cx}{pos:Pos}
theorem Gy:PE X (.Dict [] [] pos) LO:=fun Yp s σ H Q I h =>wpAny_Dict_empty ⟨.ref s.heap.objs.size,_,I.laid (a:=s.heap.objs.size) (o:=.dK []) (t':=s.toks) (fun _ _ q=>aD _ q) (ar _) (Fg s.heap I.big),rfl,h _ (I.hok.fresh (ar _))⟩
theorem Gz:PE X (.Dict [] [] pos) LP:=fun Yp s σ H Q I h =>wpAny_Dict_empty ⟨.ref s.heap.objs.size,_,I.laid (a:=s.heap.objs.size) (o:=.dT []) (t':=s.toks) (fun _ _ q=>aD _ q) (ar _) (Fh s.heap I.big),rfl,h _ (I.hok.fresh (ar _))⟩
end
structure M1 (X:Cx) (o:Expr) (m:Str) (apos:Pos) (e:Expr) (cpos:Pos):Prop where
 base:attributeBase o m X.env (eval o X.env)=eval o X.env
 few:((backTo cpos (starEach [e] X.env)).all (fun x=>!x.1)&&(backToKw cpos (keywordEach [] X.env)).all (fun x=>x.1.isSome)
  && decide (([e]:List Expr).length+([]:List Keyword).length+(if ([]:List Keyword).isEmpty then 0 else 1)<30))=true
 line:(apos.endLine==cpos.line)=true
 trees:backTo cpos (starEach [e] X.env)=[(false,eval e X.env)]
noncomputable def IsD (H:Hp) (a:Addr):Prop:=(∃ kvs,Rd H a (.dK kvs))∨∃ kvs,Rd H a (.dT kvs)
theorem KL (I:Inv X Yp σ H s) (d:IsD H a) :
  s.TypeIs (.ref a) "dict"/\(∀ b,Value.ref a=.ref b->∃ ob,s.heap.get? b=some ob/\ob.dict=none)/\(a==sysModules)=false:=by
 rcases d with ⟨kvs,e⟩ | ⟨kvs,e⟩
 ·obtain⟨_,hd,vs,_,dd⟩:=su I.hok e;refine⟨dd.typeIs,fun b q=>?_,hd⟩;cases q;obtain⟨ob,_,_,h1,h2,_⟩:=dd;exact⟨ob,h1,h2.2.1⟩
 ·obtain⟨_,hd,xs,_,dd⟩:=tZ I.hok e;refine⟨dd.typeIs,fun b q=>?_,hd⟩;cases q;obtain⟨ob,_,_,h1,h2,_⟩:=dd;exact⟨ob,h1,h2.2.1⟩
section
variable {X:Cx}{Yp:Zp}{σ:St}{H:Hp}{s:Zg}{a:Addr}{y d:V}{u r:Value}{o:Option V}{A:Around}{E:Zq}
theorem K6 (hu:A.units+1<cLine) (I:Inv X Yp σ H s) (g:mJ H a y o) (ry:RelV y u) (h:∀ w' s',Inv X Yp σ H s'->RelV (o.getD .non) w'->Q w' s') :
  wpAny (model X.prog X.w) A (call (.builtin "dict.get") [.ref a,u]) Q E s:=by
 rcases g with ⟨kvs,k,e,ey,l⟩ | ⟨kvs,k,b,e,ey,eb,l⟩
 ·subst ey;obtain⟨z,hd,vs,rel,dd⟩:=su I.hok e;refine call_meetsIn PySem.F.slot_dict_get dd.typeIs PySem.F.entry_dict_get (PySem.F.args_dict_get_2 _ _) (meets_dict_get (br X.prog X.w) a (vO ry) hd) ⟨_,dd.mapOf,h _ _ (I.tok _) ?_⟩;rw[l];exact (rel.val k).getD rfl
 ·subst ey;cases (show u=Value.ref b from ry);obtain⟨z,hd,xs,rel,dd⟩:=tZ I.hok e;refine call_meetsIn PySem.F.slot_dict_get dd.typeIs PySem.F.entry_dict_get (PySem.F.args_dict_get_2 _ _) (meetsH_dict_get (tupleKind (br X.prog X.w)) a b hd) ⟨oo hu,k,xs,rH I.hok eb,dd,h _ _ (I.tok _) ?_⟩;rw[l];exact (rel.val k).getD rfl
end
noncomputable def Bj (td ty:TE):TE:=fun σ H Q=>td σ H fun x H1=>∃ a,x=.ref a/\IsD H1 a/\ty σ H1 fun y H2=>∃ o,mJ H2 a y o/\Q (o.getD .non) H2
section
variable {X:Cx}{o e f:Expr}{apos cpos:Pos}{td ty tx:TE}
theorem Gx (hu:X.A.units+1<cLine) (ho:PE X o td) (he:PE X e ty) (m:M1 X o "get" apos e cpos):PE X (.Call (.Attribute o "get" apos) [e] [] cpos) (Bj td ty):=by intro Yp s σ H Q I h;refine wpAny_Call_method m.base m.few m.line PySem.F.plainAttrs_dict PySem.F.slot_dict_get PySem.F.type_dict_get (thn (ho Yp s σ H _ I h) fun u s1 ⟨x,H1,I1,rx,a,ex,d,q1⟩=>?_);subst ex;obtain rfl:u=Value.ref a:=rx;obtain⟨t1,t2,_⟩:=KL I1 d;refine⟨t1,t2,?_⟩;rw[m.trees];refine Calls.callWith_builtin rfl (Calls.evalArgs_plain (Calls.spliced_cons (thn (he Yp s1 σ H1 _ I1 q1) fun iv s2 ⟨y,H2,I2,ry,ov,g,q2⟩=>Calls.spliced_nil ?_)));exact K6 hu I2 g ry fun w' s3 I3 rw'=>⟨_,H2,I3,rw',q2⟩
end
section
variable {X:Cx}{Yp:Zp}{σ:St}{H:Hp}{s:Zg}{a:Addr}{kvs:List (Key×V)}{A:Around}{E:Zq}
end
section
variable {X:Cx}{Yp:Zp}{σ:St}{H:Hp}{s:Zg}{a:Addr}{y:V}{u:Value}{A:Around}{E:Zq}
end
end
end L2
namespace Att
open PySem PySem.W PySem.Calls PyProof.Rows
variable {P:Params}{h:Heap}
theorem sV :∀ (ns:Zb) (vs:Zc),WellAll P h vs (ns.map WData.int)->IntsAre vs ns:=by
 intro ns
 induction ns with
 | nil =>intro vs w;rw[jf] at w;cases w;exact .nil
 | cons n ns ih =>
  intro vs w;rw[bf] at w;cases w with
  | cons a b =>
   cases a
   exact .cons _ _ (ih _ b)
theorem Eo {l:OpenLaw}{n:Nat} (hn:l.most=some n) {P:Params}{h:Heap}{args:List WData}{vals:Zc}
  (hpre:l.row.toRowW.claim.pre args=true) (hwl:WellAll P h vals args) :
  ∃ a vs ns,vals=[Value.ref a]/\args=[WData.list (ns.map WData.int)]/\h.get? a=some { cls:=.type "list",data:=.seq vs.toArray }/\IntsAre vs ns/\ns.length<=n:=by
 have hsh:WShape.hasAll [] args [.list .int]=true:=(pre_splitW hpre).1;have hc:l.pre.holds [] { args:=args }=true:=(pre_splitW hpre).2;obtain⟨d,r,rfl,h1,h2⟩:=hasAllW_cons hsh;obtain rfl:=hasAllW_nil h2;obtain⟨xs,rfl,h3⟩:=hasW_list h1;obtain⟨ns,rfl⟩:=items_int h3;have hlen:ns.length<=n:=by
  unfold OpenLaw.pre at hc;have h4:(WTm.not (.lt (.lit (.int (n:Int))) (.len (.arg 0)))).holds [] { args:=[.list (ns.map .int)] }=true:=by have h4:=(holds_andW hc).1;rw[hn] at h4;exact h4
  have h5:=condW_of h4 (w_not (w_lt w_lit (w_len_list (w_arg rfl))));rw[ag] at h5;refine Nat.le_of_not_lt fun q=>?_;have q':(n:Int)<((ns.length:Nat):Int):=by lia
  first
   | (rw[aw q'] at h5;exact absurd h5 (by decide))
   | (simp at h5;lia)
 cases hwl with
 | cons w1 w2 =>
  cases w2
  cases w1 with
  | list ho hall=>exact⟨_,_,ns,rfl,rfl,ho,sV ns _ hall,hlen⟩
theorem Ej (l:OpenLaw) (args:List WData):l.row.toRowW.claim.post args (.bool true) args=true :=
 postW_of (r:=l.row.toRowW) (X:=(true==true))
  (show WShape.has [] (.bool true) .bool=true by first | rfl | decide | simp [WShape.has,WShape.arms,WShape.armsAll])
  (show (WTm.eq .res (.lit (.bool true))).value [] { args:=args,res:=some (.bool true),after:=args }=some (.bool (true==true)) from w_eq_bool (w_res rfl) w_lit) rfl
theorem xU {l:OpenLaw}{n:Nat}{q:Zh}{loose:Ze}{XP:(Zk)->Heap->Prop}{YP:Zi->Heap->Prop}{d:DefRec}
  (hn:l.most=some n) (hdf:d.params.defaults=[])
  (call:∀ (w:Zi) (s₀ s₁:Zg) (mg mb:Zk) (fa:Addr) (o:Obj) (pm cd doc:Value) (a:Addr) (vs:Zc) (ns:Zb),
   Ground q loose [] XP w s₀ mg mb s₁.heap->YP w s₁.heap →
   s₁.heap.get? fa=some o->o.data=.func (docDef d.name d.params d.body d.scope pm cd doc)->s₁.heap.CodeRec cd d.name->mg d.name=some (.ref fa) →
   s₁.heap.get? a=some { cls:=.type "list",data:=.seq vs.toArray }->IntsAre vs ns->ns.length<=n->s₁.gens=#[] →
   codeAny (model l.prog w) callerA (.call (.ref fa) ⟨[.ref a],[]⟩) (fun r s'=>r=.ok (.ret (.bool true))/\OldK s₁.heap s'.heap/\s'.os=s₁.os/\AllBare s'.gens) s₁) :
  WalkO q loose XP YP l.row.toRowW d [] (fun f vs=>PySem.call f vs):=by
 intro w s₀ s₁ mg mb G Y fa o pm cd doc dV kV ho hd hcd hD hmg hg args vals as hpre hlay hrd hwl hlo;obtain rfl:dV=.none:=Dflts.none hD hdf;obtain rfl:kV=.none:=Dflts.noKw hD;obtain⟨a,vs,ns,rfl,rfl,hobj,hints,hlen⟩:=Eo hn hpre hwl;refine enter_call (gw (call w s₀ s₁ mg mb fa o pm cd doc a vs ns G Y ho (fd_plain hd) hcd hmg hobj hints hlen hg) fun r s' hq=>?_);obtain⟨rfl,h2,h3,h4⟩:=hq;exact⟨.inl ⟨.bool true,.bool true,[],rfl,fun _=>rfl,.bool true,Ej l _,fun _=>⟨List.Pairwise.nil,fun _ hm=>(nomatch hm)⟩⟩,h2,h3,h4⟩
section
variable {prog:Zh}{w:Zi}{A:Around}{E:Zq}{s:Zg}{K:Frag}
end
end Att
namespace L2
open PySem PySem.Spec PyProof.Rows
variable {A:Around}{f:Addr}{st:Stmt}
section
theorem sq:∀ {vs:Zc}{ns:Zb},IntsAre vs ns->Vals (ns.map V.int) vs
 | _,_,.nil=>.nil
 | _,_,.cons n t h=>.cons ⟨t,rfl⟩ (sq h)
end
section
end
section
noncomputable def inClass (s:Stmt) (j:Nat):Stmt:=match s with
 | .ClassDef _ _ _ body _ _ _ _ _ _ _=>body.getD j (.Pass ⟨0,0,0,0⟩)
 | _=>.Pass ⟨0,0,0,0⟩
noncomputable def cY (s:Stmt):Arguments:=match s with
 | .FunctionDef _ a _ _ _ _ _ _ _ _=>a
 | _=>{ posonlyargs:=[],args:=[],vararg:=none,kwonlyargs:=[],kw_defaults:=[],kwarg:=none,defaults:=[] }
noncomputable def cP (s:Stmt):List Stmt:=match s with
 | .FunctionDef _ _ b _ _ _ _ _ _ _=>b
 | _=>[]
noncomputable def ay (s:Stmt):Scope:=match s with
 | .FunctionDef _ _ _ _ _ _ sc _ _ _=>sc
 | _=>{ kind:=.function,names:=[],isGenerator:=false,isCoroutine:=false }
noncomputable abbrev E0:St->XK:=fun _ _ _ _=>False
structure Fun (K:Zf) (x qual:Str) (st:Stmt) (f:Addr) (fd:FuncData):Prop where
 ex:∃ (oc:Value) (od:Option Addr) (kV doc pm:Value) (an:Option Addr) (cdv ct:Value) (osl:Array (Option Value)),
  fd=PySem.W.fnOf x qual (cY st) (cP st) (ay st) .none kV doc pm an cdv ct/\K.lookup f=some ⟨oc,od,.func fd,osl⟩/\PySem.W.codeIn K cdv qual=true
 kp:PySem.W.keepIn K (.ref f)=true
section
variable {P:Zh}{w:Zi}{K:Zf}{mg:Zk}{base:Heap}
theorem Fun.binds {x qual:Str}{fd:FuncData}{ps:Ze} (F:Fun K x qual st f fd)
  (h:∀ (kV doc pm:Value) (an:Option Addr) (cdv ct:Value) (us:Zc),us.length=ps.length->bindArgs (PySem.W.fnOf x qual (cY st) (cP st) (ay st) .none kV doc pm an cdv ct) ⟨us,[]⟩=pure (ps.zip us)):Binds K fd ps []:=by
 obtain⟨oc,od,kV,doc,pm,an,cdv,ct,osl,rfl,lk,hcd⟩:=F.ex;exact .all (h kV doc pm an cdv ct)
theorem pb {x qual:Str}{oc:Value}{od an:Option Addr}{osl:Array (Option Value)}{kV doc pm cdv ct:Value} (l:K.lookup f=some ⟨oc,od,.func (PySem.W.fnOf x qual (cY st) (cP st) (ay st) .none kV doc pm an cdv ct),osl⟩)
  (c:PySem.W.codeIn K cdv qual=true) (k:PySem.W.keepIn K (.ref f)=true):Fun K x qual st f (PySem.W.fnOf x qual (cY st) (cP st) (ay st) .none kV doc pm an cdv ct):=⟨⟨oc,od,kV,doc,pm,an,cdv,ct,osl,rfl,l,c⟩,k⟩
end
theorem ug {k:Nat} (hr:fD k A):A.units+1<cLine:=cV (Nat.add_le_add_left (by decide:1<=64) _) hr.units
section
variable {X:Cx}
end
noncomputable def az (H H':Hp):Prop:=∀ b o,H b=some o->H' b=some o
theorem az.refl (H:Hp):az H H:=fun _ _ h=>h
theorem az.trans {H H1 H2:Hp} (a:az H H1) (b:az H1 H2):az H H2:=fun c o h=>b c o (a c o h)
theorem az.free {H H':Hp} (e:az H H') {l:Addr} (h:H' l=Option.none):H l=Option.none:=by
 cases q:H l with
 | none=>rfl
 | some o =>rw[e l o q] at h;cases h
theorem az.seq {K:Zf}{H H':Hp}{a:Addr}{xs:List V} (e:az H H') (h:SqL K H a xs):SqL K H' a xs:=by
 rcases h with (h | ⟨o,h⟩) | h
 ·exact .inl (.inl (e _ _ h))
 ·exact .inl (.inr ⟨o,e _ _ h⟩)
 ·exact .inr h
end
section
section
variable {κ:Type} [DecidableEq κ]
theorem wY:∀ {l:List κ}{k:κ},l.Nodup->¬ k∈l->(l++[k]).Nodup
 | [],k,_,_=>by simp
 | a::r,k,h,hk=>by
  obtain⟨h1,h2⟩:=eS.mp h;show (a::(r++[k])).Nodup;refine eS.mpr ⟨fun m=>?_,wY h2 fun m=>hk (aP.mpr (Or.inr m))⟩;rcases bE.mp m with q | q
  ·exact h1 q
  ·exact hk (aP.mpr (Or.inl (bg.mp q).symm))
end
end
section
structure mO (k:Nat) (A:Around):Prop where
 dp:A.depth+3*k+5<recursionLimit
 un:A.units+16*k+200<cLine
theorem mO.mono {j k:Nat} (r:mO k A) (h:j<=k):mO j A:=⟨by have:=r.dp;lia,by have:=r.un;lia⟩
theorem mO.deeper {k:Nat}{A:Around} (r:mO (k+1) A) (env:Env):mO k (A.deeper env):=⟨by have:=r.dp;show A.depth+1+3*k+5<_;lia,by have:=r.un;show A.units+3+16*k+200<_;lia⟩
theorem mO.depth {k:Nat}{A:Around} (r:mO k A):A.depth<recursionLimit:=by have:=r.dp;lia
theorem mO.nH {k:Nat} (r:mO k A):A.units<cLine:=by have:=r.un;lia
theorem fD.n {k:Nat} (r:fD k A):mO k A:=⟨r.dp,r.un⟩
section
variable {X:Cx}{CX:CXT}{k:Nat}{f C:Addr}{fd:FuncData}{ps:Ze}{sp:Sp}{dvs:List V}{ds:Zc}{E:St->XK}{x m:Str}{p pos apos:Pos}{e o:Expr}{es:List Expr}{ta:TE}{t:TA}
end
end
end L2
set_option Elab.async false
set_option linter.all false
set_option maxRecDepth 100000
set_option maxHeartbeats 4000000
set_option exponentiation.threshold 2000
namespace Mk
variable {al:Za}{i:Nat}{j:Nat}{m:Int}{p:Int}{ps:Zb}{x:Int}
section
noncomputable def cop (m n:Int):Bool:=decide (Int.gcd n m=1)
noncomputable def dif (ws:Zb):Zb:=(ws.zip (ws.drop 1)).map fun p=>p.2-p.1
noncomputable def safe (m:Int) (ws:Zb):Bool:=(ws++dif ws).all (cop m)
theorem F8 (a b:Int):Int.gcd b (a%b)=Int.gcd a b:=by rw[Int.emod_def,Int.gcd_sub_mul_left_right,Int.gcd_comm]
theorem iS {ws:Zb}:safe m ws=true↔(∀ w∈ws,cop m w=true)/\∀ (j:Nat) a b,ws[j]?=some a->ws[j+1]?=some b->cop m (b-a)=true:=by
 unfold safe;rw[List.all_append,bP,cj,cj];refine and_congr Iff.rfl ⟨fun h j a b ha hb=>?_,fun h x hx=>?_⟩
 ·refine h (b-a) (aM.mpr ⟨(a,b),?_,rfl⟩);refine bQ (i:=j) ?_;rw[List.getElem?_zip_eq_some];exact⟨ha,by rw[jb,Nat.add_comm];exact hb⟩
 ·unfold dif at hx;obtain⟨⟨a,b⟩,hp,rfl⟩:=aM.mp hx;obtain⟨j,hj⟩:=lJ hp;rw[List.getElem?_zip_eq_some] at hj;exact h j a b hj.1 (by have:=hj.2;rw[jb,Nat.add_comm] at this;exact this)
noncomputable def ofN (n:Nat):Zb:=(List.range n).map fun (k:Nat)=>(k:Int)
theorem oF (n:Nat):(ofN n).length=n:=by simp [ofN]
theorem fG {n:Nat}:x∈ofN n↔0<=x/\x<n:=by
 unfold ofN;rw[aM];constructor
 ·rintro⟨k,hk,rfl⟩;have:=cg.mp hk;lia
 ·rintro⟨h1,h2⟩;exact⟨x.toNat,cg.mpr (by lia),by lia⟩
noncomputable def xW (m:Int) (found:Zb):Zb:=(ofN m.toNat).filter fun w=>cop m w&&(found.isEmpty||cop m (w-found.getLastD 0))
noncomputable def fZ (m:Int) (found:Zb):Zb:=if xW m found=[] then ofN m.toNat else xW m found
noncomputable def oV (m:Int):Nat->Int->Zb->Zb
 | 0,_,found=>found
 | n+1,c,found=>oV m n (c/7) (found++[(fZ m found).getD (c%((fZ m found).length:Int)).toNat 0])
noncomputable def wts (c m:Int) (n:Nat):Zb:=oV m n c []
theorem yV {found:Zb} (h:x∈fZ m found):0<=x/\x<m:=by
 unfold fZ at h;split at h
 ·have:=fG.mp h;lia
 ·have:=fG.mp (cA.mp h).1;lia
theorem yW (hm:0<m) (found:Zb):0<(fZ m found).length:=by
 unfold fZ;split
 ·rw[oF];lia
 ·rename_i h
  exact List.length_pos_iff.mpr h
theorem Cb (hm:0<m) (found:Zb) (c:Int):0<=c%((fZ m found).length:Int)/\c%((fZ m found).length:Int)<((fZ m found).length:Int):=by have:=yW hm found;exact⟨cK _ (by lia),cQ _ (by lia)⟩
theorem yU (hm:0<m) (found:Zb) (c:Int):(fZ m found).getD (c%((fZ m found).length:Int)).toNat 0∈fZ m found:=by
 obtain⟨h1,h2⟩:=Cb hm found c;have h3:(c%((fZ m found).length:Int)).toNat<(fZ m found).length:=by lia
 rw[bz,aO h3];exact iq h3
theorem wx (m:Int):∀ (n:Nat) (c:Int) (found:Zb),(oV m n c found).length=found.length+n
 | 0,_,_=>rfl
 | n+1,c,found=>by unfold oV;rw[wx m n,aB,cN];lia
theorem JD (c m:Int) (n:Nat):(wts c m n).length=n:=by unfold wts;rw[wx];simp
theorem wy {m:Int} (hm:0<m):∀ (n:Nat) (c:Int) (found:Zb),(∀ x∈found,0<=x/\x<m)->∀ x∈oV m n c found,0<=x/\x<m
 | 0,_,_,h=>h
 | n+1,c,found,h=>by
  unfold oV;refine wy hm n _ _ fun x hx=>?_;rcases bE.mp hx with hx | hx
  ·exact h x hx
  ·rw[bg] at hx;subst hx;exact yV (yU hm found c)
theorem JE (hm:0<m) (c:Int) (n:Nat):∀ x∈wts c m n,0<=x/\x<m:=wy hm n c [] (fun _ h=>by cases h)
theorem Di:∀ m:Nat,m<27->3<=m->cop (m:Int) 0=false/\cop (m:Int) 1=true/\cop (m:Int) (-1)=true/\cop (m:Int) 2=decide (m%2=1):=by nofun
end
section
noncomputable def dot:Zb->Zb->Int
 | a::r,b::t=>a*b+dot r t
 | _,_=>0
theorem BF:∀ (ws ps:Zb),((ws.zip ps).map fun p=>p.1*p.2).sum=dot ws ps
 | [],_=>by simp [dot]
 | _::_,[]=>by simp [dot]
 | a::r,b::t=>by rw[List.zip_cons_cons,bf,jh,BF r t];rfl
theorem ye:∀ (ws ps:Zb) (a b:Int),ws.length=ps.length->dot (ws++[a]) (ps++[b])=dot ws ps+a*b
 | [],[],a,b,_=>by simp [dot]
 | [],_::_,_,_,h=>by simp at h
 | _::_,[],_,_,h=>by simp at h
 | x::r,y::t,a,b,h=>by show x*y+dot (r++[a]) (t++[b])=x*y+dot r t+a*b;rw[ye r t a b (by simpa using h),Int.add_assoc]
noncomputable def plc (al w:Za):Zb:=w.map fun c=>((al.idxOf c:Nat):Int)
noncomputable def bL (al:Za) (n:Int) (z:Za):Bool:=decide ((z.length:Int)=n)&&z.all fun c=>decide (c∈al)
noncomputable def good (m:Int) (ws:Zb) (r:Int) (ps:Zb):Bool:=decide ((dot ws ps-r)%m=0)
noncomputable def c9 (al:Za) (ws:Zb) (r:Int) (z:Za):Bool:=bL al ws.length z&&good al.length ws r (plc al z)
noncomputable def bO (al:Za) (ps:Zb):Za:=ps.map fun p=>al.getD p.toNat 0
theorem gT (al:Za) (ps:Zb):(bO al ps).length=ps.length:=by simp [bO]
theorem oJ (al w:Za):(plc al w).length=w.length:=by simp [plc]
theorem getD_at (h:0<=p/\p<al.length):al[p.toNat]?=some (al.getD p.toNat 0):=by rw[bz,aO (by lia)];rfl
theorem getD_mem (h:0<=p/\p<al.length):al.getD p.toNat 0∈al:=bQ (getD_at h)
theorem DH (nd:al.Nodup) {i c:Nat} (h:al[i]?=some c):al.idxOf c=i:=by obtain⟨hi,e⟩:=b7.mp h;subst e;exact List.Nodup.idxOf_getElem nd i hi
theorem j9 {al:Za} (nd:al.Nodup):∀ {ps:Zb},(∀ p∈ps,0<=p/\p<al.length)->plc al (bO al ps)=ps
 | [],_=>rfl
 | p::r,h=>by show ((al.idxOf (al.getD p.toNat 0):Nat):Int)::plc al (bO al r)=p::r;rw[j9 nd (fun q hq=>h q (aU _ hq)),DH nd (getD_at (h p aS))];rw[nI (h p aS).1]
theorem mn {al w:Za} (h:∀ c∈w,c∈al):∀ p∈plc al w,0<=p/\p<al.length:=by intro p hp;obtain⟨c,hc,rfl⟩:=aM.mp hp;exact⟨Int.natCast_nonneg _,by exact_mod_cast nU (h c hc)⟩
theorem mE (h:∀ p∈ps,0<=p/\p<al.length):bL al ps.length (bO al ps)=true:=by unfold bL;rw[gT,aw rfl,dj,cj];intro c hc;obtain⟨p,hp,rfl⟩:=aM.mp hc;exact aw (getD_mem (h p hp))
theorem dm {n:Int}{z:Za}:bL al n z=true↔(z.length:Int)=n/\∀ c∈z,c∈al:=by unfold bL;rw[bP,bR,cj];refine and_congr Iff.rfl ⟨fun h c hc=>ji (h c hc),fun h c hc=>aw (h c hc)⟩
noncomputable def sml (xs:Zb):Prop:=∀ x∈xs,0<=x/\x<1000
theorem LM {xs:Zb} (h:∀ x∈xs,0<=x/\x<m) (hm:m<=1000):sml xs:=fun x hx=>⟨(h x hx).1,qU (h x hx).2 hm⟩
theorem md {ws ps:Zb}{r:Int} (nd:al.Nodup) (hl:ps.length=ws.length) (h:∀ p∈ps,0<=p/\p<al.length):c9 al ws r (bO al ps)=good al.length ws r ps:=by unfold c9;rw[j9 nd h,←hl,mE h,dj]
end
section
noncomputable def ke (m:Int):Nat->Int->Zb
 | 0,_=>[]
 | n+1,k=>ke m n (k/m)++[k%m]
theorem lh (m:Int):∀ (n:Nat) (k:Int),(ke m n k).length=n
 | 0,_=>rfl
 | n+1,k=>by unfold ke;rw[aB,lh];rfl
theorem ud {m:Int} (hm:0<m):∀ (n:Nat) (k:Int),∀ x∈ke m n k,0<=x/\x<m
 | 0,_,x,h=>by cases h
 | n+1,k,x,h=>by
  unfold ke at h;rcases bE.mp h with h | h
  ·exact ud hm n _ x h
  ·rw[bg.mp h];exact⟨cK _ (by lia),cQ _ hm⟩
theorem vJ {m:Int} (hm:0<m):∀ (n:Nat) (k:Int),ke m (n+1) k=(k/m^n)%m::ke m n k
 | 0,k=>by simp [ke]
 | n+1,k=>by show ke m (n+1) (k/m)++[k%m]=_;rw[vJ hm n (k/m),Int.ediv_ediv_of_nonneg (iX hm),←Int.pow_succ'];rfl
noncomputable def numOf (m:Int) (ps:Zb):Int:=ps.foldl (fun k p=>k*m+p) 0
theorem mj (m:Int) (ps:Zb) (p:Int):numOf m (ps++[p])=numOf m ps*m+p:=by unfold numOf;rw[List.foldl_append];rfl
theorem ur {m:Int} (hm:0<m):∀ (n:Nat) (k:Int),0<=k->k<m^n->numOf m (ke m n k)=k
 | 0,k,h0,h1=>by
  have:k=0:=by simp at h1;lia
  subst this;rfl
 | n+1,k,h0,h1=>by unfold ke;rw[mj,ur hm n (k/m) (Int.ediv_nonneg h0 (iX hm)) (Int.ediv_lt_of_lt_mul hm (by rw[←Int.pow_succ];exact h1))];have:=qV k m;rw[Int.mul_comm];exact this
theorem jy (hm:0<m):∀ (ps:Zb),(∀ p∈ps,0<=p/\p<m)->0<=numOf m ps/\numOf m ps<m^ps.length:=by
 intro ps;rw[←List.reverse_reverse ps];generalize ps.reverse=rs
 induction rs with
 | nil=>intro _;simp [numOf]
 | cons a r ih =>intro h;rw[List.reverse_cons] at h ⊢;have ih:=ih fun p hp=>h p (lN _ hp);have ha:=h a (eR _ aS);rw[mj,aB,cN,Int.pow_succ];refine⟨Int.add_nonneg (Int.mul_nonneg ih.1 (iX hm)) ha.1,?_⟩;have h2:(numOf m r.reverse+1)*m<=m^r.reverse.length*m:=Int.mul_le_mul_of_nonneg_right (by lia) (iX hm);rw[Int.add_mul,Int.one_mul] at h2;lia
theorem ue (hm:0<m):∀ (ps:Zb),(∀ p∈ps,0<=p/\p<m)->ke m ps.length (numOf m ps)=ps:=by
 intro ps;rw[←List.reverse_reverse ps];generalize ps.reverse=rs
 induction rs with
 | nil=>intro _;rfl
 | cons a r ih =>
  intro h;rw[List.reverse_cons] at h ⊢;have ih:=ih fun p hp=>h p (lN _ hp);have ha:=h a (eR _ aS);rw[mj,aB,cN];unfold ke;have e1:(numOf m r.reverse*m+a)/m=numOf m r.reverse:=by rw[Int.add_comm,Int.add_mul_ediv_right _ _ (by lia),Int.ediv_eq_zero_of_lt ha.1 ha.2,jU]
  have e2:(numOf m r.reverse*m+a)%m=a:=by rw[Int.add_comm,Int.add_mul_emod_self_right,jT ha.1 ha.2]
  rw[e1,e2,ih]
theorem DL:∀ m:Nat,m<27->0<m->∀ w:Nat,w<m->Nat.gcd w m=1->∃ v:Nat,v<m/\(w*v)%m=1%m:=by nofun
theorem KJ {m w:Int} (h0:0<m) (h26:m<=26) (hw:0<=w/\w<m) (hc:cop m w=true):∃ v t:Int,w*v=1+m*t:=by
 obtain⟨M,rfl⟩:=ie (iX h0);obtain⟨W,rfl⟩:=ie hw.1;have hg:Nat.gcd W M=1:=ji hc;obtain⟨v,_,e⟩:=DL M (by lia) (by lia) W (by lia) hg;refine⟨v,((W*v:Nat):Int)/(M:Int)-(1:Int)/(M:Int),?_⟩;have e1:=qV ((W*v:Nat):Int) (M:Int);have e2:=qV (1:Int) (M:Int);have e3:((W*v:Nat):Int)%(M:Int)=(1:Int)%(M:Int):=by exact_mod_cast e
 rw[e3] at e1;rw[Int.mul_sub];have e4:((W*v:Nat):Int)=(W:Int)*(v:Int):=by push_cast;rfl
 lia
noncomputable def BV (m:Int) (ws:Zb) (r:Int) (ps:Zb):Zb:=(ofN m.toNat).filter fun x=>good m ws r (ps++[x])
noncomputable def sx (m:Int) (ws:Zb) (r:Int) (ps:Zb):Int:=(BV m ws r ps).headD 0
theorem DD {m w r x:Int}{ws ps:Zb} (hl:ws.length=ps.length):good m (ws++[w]) r (ps++[x])=decide ((dot ws ps+w*x-r)%m=0):=by unfold good;rw[ye _ _ _ _ hl]
theorem Gj {m w r:Int}{ws ps:Zb} (h0:0<m) (h26:m<=26) (hw:0<=w/\w<m) (hc:cop m w=true) (hl:ws.length=ps.length):∃ x,0<=x/\x<m/\∀ y,0<=y->y<m->(good m (ws++[w]) r (ps++[y])=true↔y=x):=by
 obtain⟨v,t,hv⟩:=KJ h0 h26 hw hc;have hx0:=cK ((r-dot ws ps)*v) (show m≠0 by lia);have hx1:=cQ ((r-dot ws ps)*v) h0;have hq:=qV ((r-dot ws ps)*v) m;generalize ((r-dot ws ps)*v)%m=x at hx0 hx1 hq;generalize ((r-dot ws ps)*v)/m=q at hq;generalize hd:dot ws ps=d at hq;refine⟨x,hx0,hx1,fun y hy0 hy1=>?_⟩;rw[DD hl,bR,hd];constructor
 ·intro h;obtain⟨s,hs⟩:=jS h;have key:y-x=m*(v*s-t*y+q):=by grind
  have hb:-m<y-x/\y-x<m:=by lia
  generalize v*s-t*y+q=z at key;have hz:z=0:=by
   rcases Int.lt_trichotomy z 0 with hz | hz | hz
   ·have:m*z<=m*(-1):=qW (by lia) (iX h0);lia
   ·exact hz
   ·have:m*1<=m*z:=qW (by lia) (iX h0);lia
  rw[hz,Int.mul_zero] at key;lia
 ·intro h;subst h;have:d+w*y-r=m*(t*(r-d)-w*q):=by grind
  rw[this];exact Int.mul_emod_right _ _
theorem Ak {l:Zb} (hn:l.Nodup) {p:Int->Bool} (hx:x∈l) (h:∀ y∈l,(p y=true↔y=x)):l.filter p=[x]:=by
 induction l with
 | nil=>cases hx
 | cons a r ih =>
  rw[eS] at hn;rw[List.filter_cons]
  by_cases e:a=x
  ·subst e;rw[ah ((h a aS).mpr rfl)]
   congr 1
   rw[nQ];intro y hy hp;exact hn.1 ((h y (aU _ hy)).mp hp ▸ hy)
  ·rw[af (fun z=>e ((h a aS).mp z))];refine ih hn.2 ?_ fun y hy=>h y (aU _ hy);rcases aP.mp hx with z | z
   ·exact absurd z.symm e
   ·exact z
theorem rN (n:Nat):(ofN n).Nodup:=by unfold ofN;refine fk.mpr (nJ ?_ nY);intro a b h e;lia
theorem oC {m r:Int}{ws ps:Zb} (h0:0<m) (h26:m<=26) (hm:∀ x∈ws,0<=x/\x<m) (hc:∀ x∈ws,cop m x=true) (hl:ps.length+1=ws.length) :
  BV m ws r ps=[sx m ws r ps]/\0<=sx m ws r ps/\sx m ws r ps<m/\∀ y,0<=y->y<m->(good m ws r (ps++[y])=true↔y=sx m ws r ps):=by
 have hne:ws≠[]:=fun e=>by rw[e] at hl;simp at hl
 obtain⟨wi,w,rfl⟩:∃ wi w,ws=wi++[w]:=⟨ws.dropLast,ws.getLast hne,(qY hne).symm⟩;have hl2:wi.length=ps.length:=by simp at hl;lia
 obtain⟨x,x0,x1,hx⟩:=Gj (r:=r) h0 h26 (hm w (by simp)) (hc w (by simp)) hl2;have e:BV m (wi++[w]) r ps=[x]:=by unfold BV;refine Ak (rN _) (fG.mpr ⟨x0,by lia⟩) fun y hy=>?_;have:=fG.mp hy;exact hx y this.1 (by lia)
 have e2:sx m (wi++[w]) r ps=x:=by unfold sx;rw[e];rfl
 rw[e2];exact⟨e,x0,x1,hx⟩
noncomputable def kB (m:Int) (ws:Zb) (r k:Int):Zb:=ke m (ws.length-1) k++[sx m ws r (ke m (ws.length-1) k)]
end
section
theorem En {m x:Int}{l:Zb} (h:safe m l=true) (hx:cop m x=true) (hl:l=[]∨cop m (x-l.getLastD 0)=true):safe m (l++[x])=true:=by
 rw[iS] at h ⊢;refine⟨fun w hw=>?_,fun j a b ha hb=>?_⟩
 ·rcases bE.mp hw with hw | hw
  ·exact h.1 w hw
  ·rw[bg.mp hw];exact hx
 ·by_cases h1:j+1<l.length
  ·rw[ja (by lia)] at ha;rw[ja h1] at hb;exact h.2 j a b ha hb
  ·have hj:=(b7.mp hb).1;rw[aB,cN] at hj;have e:j+1=l.length:=by lia
   rw[ja (by lia)] at ha;rw[ik (by lia),e,Nat.sub_self] at hb;have hne:l≠[]:=fun e2=>by rw[e2] at e;simp at e
   have e3:l.getLastD 0=a:=by rw[jY,List.getLast?_eq_getElem?,show l.length-1=j by lia,ha];rfl
   have e4:x=b:=by simpa using hb
   subst e4;rw[←e3];exact hl.resolve_left hne
theorem Gf:∀ m:Nat,m<27->3<=m->m%2=1->∀ w:Nat,w<m->cop (m:Int) (w:Int)=true->(cop (m:Int) (((2*w)%m:Nat):Int)&&cop (m:Int) ((((2*w)%m:Nat):Int)-(w:Int)))=true:=by nofun
theorem Fd (h3:3<=m) (h26:m<=26) (ho:m%2=1) {l:Zb} (hb:∀ x∈l,0<=x/\x<m) (hc:∀ x∈l,cop m x=true):xW m l≠[]:=by
 obtain⟨M,rfl⟩:=ie (show 0<=m by lia);intro e;unfold xW at e;rw[nQ] at e
 by_cases hl:l=[]
 ·subst hl;exact e 1 (fG.mpr ⟨Zd,by lia⟩) (by rw[(Di M (by lia) (by lia)).2.1];rfl)
 ·have hm:l.getLastD 0∈l:=by
   rw[jY,List.getLast?_eq_some_getLast hl];exact List.getLast_mem hl
  have h1:=hb _ hm;have h2:=hc _ hm;generalize l.getLastD 0=w at e h1 h2;obtain⟨W,rfl⟩:=ie h1.1;have h4:=Gf M (by lia) (by lia) (by lia) W (by lia) h2;rw[bP] at h4;refine e (((2*W)%M:Nat):Int) (fG.mpr ⟨by lia,?_⟩) ?_
  ·have:=Nat.mod_lt (2*W) (show 0<M by lia);lia
  ·rw[h4.1,h4.2,Bool.or_true];rfl
theorem vf {m:Int} (h3:3<=m) (h26:m<=26) (ho:m%2=1):∀ (n:Nat) (c:Int) (l:Zb),(∀ x∈l,0<=x/\x<m)->safe m l=true->safe m (oV m n c l)=true
 | 0,_,_,_,h=>h
 | n+1,c,l,hb,h=>by
  unfold oV;have hp:=yU (show 0<m by lia) l c;generalize (fZ m l).getD (c%((fZ m l).length:Int)).toNat 0=x at hp;have hx:=yV hp;have hc:=Fd h3 h26 ho hb (iS.mp h).1;unfold fZ at hp;rw[af hc] at hp;unfold xW at hp;have hq:=(cA.mp hp).2;rw[bP,Bool.or_eq_true] at hq;refine vf h3 h26 ho n _ _ (fun y hy=>?_) (En h hq.1 ?_)
  ·rcases bE.mp hy with hy | hy
   ·exact hb y hy
   ·rw[bg.mp hy];exact hx
  ·rcases hq.2 with e | e
   ·exact .inl (List.isEmpty_iff.mp e)
   ·exact .inr e
theorem HA (h3:3<=m) (h26:m<=26) (ho:m%2=1) (c:Int) (n:Nat):safe m (wts c m n)=true:=vf h3 h26 ho n c [] (fun _ h=>by cases h) rfl
theorem B8 {m d y:Int} (hc:cop m d=true) (h:m ∣ d*y):m ∣ y:=by have hg:Nat.gcd d.natAbs m.natAbs=1:=ji hc;have h1:=Int.natAbs_dvd_natAbs.mpr h;rw[Int.natAbs_mul] at h1;exact Int.natAbs_dvd_natAbs.mp (Nat.Coprime.dvd_of_dvd_mul_left (Nat.Coprime.symm hg) h1)
theorem vI {m x y:Int} (h:m ∣ x-y) (hx:0<=x/\x<m) (hy:0<=y/\y<m):x=y:=by have:=vg.mpr (Int.emod_eq_zero_of_dvd h);rw[jT hx.1 hx.2,jT hy.1 hy.2] at this;exact this
theorem tE:∀ (ws ps:Zb) (i:Nat) (w p x:Int),ws[i]?=some w->ps[i]?=some p->dot ws (ps.set i x)=dot ws ps+w*(x-p)
 | [],_,_,_,_,_,h,_=>by simp at h
 | _::_,[],_,_,_,_,_,h=>by simp at h
 | a::ws,b::ps,0,w,p,x,h1,h2=>by simp at h1 h2;subst h1 h2;show dot (a::ws) (x::ps)=dot (a::ws) (b::ps)+a*(x-b);unfold dot;grind
 | a::ws,b::ps,i+1,w,p,x,h1,h2=>by have:=tE ws ps i w p x (by simpa using h1) (by simpa using h2);show dot (a::ws) (b::ps.set i x)=dot (a::ws) (b::ps)+w*(x-p);unfold dot;grind
theorem yr {m r w p x:Int}{ws ps:Zb} (hw:ws[i]?=some w) (hp:ps[i]?=some p) (hc:cop m w=true) (bp:0<=p/\p<m) (bx:0<=x/\x<m) (hne:x≠p) (hg:good m ws r ps=true):good m ws r (ps.set i x)=false:=by unfold good at hg ⊢;rw[bR] at hg;refine av fun h=>hne ?_;rw[tE ws ps i w p x hw hp] at h;refine vI (B8 hc ?_) bx bp;have:=Int.dvd_sub (jS h) (jS hg);rw[show dot ws ps+w*(x-p)-r-(dot ws ps-r)=w*(x-p) by lia] at this;exact this
theorem DE {m r w v p q:Int}{ws ps:Zb} (hw:ws[i]?=some w) (hv:ws[i+1]?=some v) (hp:ps[i]?=some p) (hq:ps[i+1]?=some q) (hc:cop m (v-w)=true) (bp:0<=p/\p<m) (bq:0<=q/\q<m) (hne:q≠p) (hg:good m ws r ps=true):good m ws r ((ps.set i q).set (i+1) p)=false:=by unfold good at hg ⊢;rw[bR] at hg;refine av fun h=>hne ?_;rw[tE ws (ps.set i q) (i+1) v q p hv (by rw[jc (by lia)];exact hq),tE ws ps i w p q hw hp] at h;refine (vI (B8 hc ?_) bp bq).symm;have:=Int.dvd_sub (jS h) (jS hg);rw[show dot ws ps+w*(q-p)+v*(p-q)-r-(dot ws ps-r)=(v-w)*(p-q) by grind] at this;exact this
section
variable {m r k:Int}{ws:Zb} (h0:0<m) (h26:m<=26) (hm:∀ x∈ws,0<=x/\x<m) (hs:safe m ws=true) (hl:1<=ws.length)
theorem E6 (hl:1<=ws.length):(kB m ws r k).length=ws.length:=by unfold kB;rw[aB,lh,cN];lia
include h0 h26 hm hs hl
theorem wu:∀ x∈kB m ws r k,0<=x/\x<m:=by
 obtain⟨_,l2,l3,-⟩:=oC (r:=r) h0 h26 hm (iS.mp hs).1 (show (ke m (ws.length-1) k).length+1=ws.length by rw[lh];lia);unfold kB;intro x hx;rcases bE.mp hx with hx | hx
 ·exact ud h0 _ _ x hx
 ·rw[bg.mp hx];exact⟨l2,l3⟩
theorem Bt:good m ws r (kB m ws r k)=true:=by obtain⟨_,l2,l3,l4⟩:=oC (r:=r) h0 h26 hm (iS.mp hs).1 (show (ke m (ws.length-1) k).length+1=ws.length by rw[lh];lia);exact (l4 _ l2 l3).mpr rfl
omit h26 hm hs hl in
theorem E7 (hk:0<=k) (hk2:k<m^(ws.length-1)):numOf m (kB m ws r k).dropLast=k:=by unfold kB;rw[qX,ur h0 _ _ hk hk2]
end
theorem Ew (hj:j<ps.length):(bO al ps).take j++[al.getD x.toNat 0]++(bO al ps).drop (j+1)=bO al (ps.set j x):=by unfold bO;rw[List.map_set,List.set_eq_take_append_cons_drop,ah (by rw[ag];exact hj),dN];rfl
theorem uT {m x:Int} (h:∀ p∈ps,0<=p/\p<m) (hx:0<=x/\x<m):∀ p∈ps.set i x,0<=p/\p<m:=by
 intro p hp;rcases List.mem_or_eq_of_mem_set hp with hp | hp
 ·exact h p hp
 ·rw[hp];exact hx
end
section
theorem Cp {α:Type}:∀ (l:List α) (j:Nat) (x y:α),j+1<l.length->(l.set j x).set (j+1) y=l.take j++(x::y::l.drop (j+2))
 | [],_,_,_,h=>by simp at h
 | [_],_,_,_,h=>by simp at h
 | a::b::l,0,x,y,_=>rfl
 | a::b::l,j+1,x,y,h=>by have:=Cp (b::l) j x y (by simpa using h);simp only[List.set_cons_succ,List.take_succ_cons,List.drop_succ_cons,List.cons_append];rw[this];rfl
theorem Bg {p q:Int} (hj:j+1<ps.length):(bO al ps).take j++([al.getD q.toNat 0]++[al.getD p.toNat 0])++(bO al ps).drop (j+2)=bO al ((ps.set j q).set (j+1) p):=by unfold bO;rw[List.map_set,List.map_set,Cp _ _ _ _ (by rw[ag];exact hj),dN];rfl
end
section
noncomputable def bw (c:Nat):Za->List (Za)
 | []=>[[]]
 | a::l=>if a=c then []::bw c l else match bw c l with
  | []=>[[a]]
  | w::ws=>(a::w)::ws
noncomputable def dM (c:Nat):List (Za)->Za
 | []=>[]
 | [w]=>w
 | w::v::ws=>w++c::dM c (v::ws)
theorem mI {c:Nat}:∀ (w l:Za),c∉w->bw c (w++c::l)=w::bw c l
 | [],l,_=>by simp [bw]
 | a::w,l,h=>by have ha:a≠c:=fun e=>h (by rw[e];exact aS);have ih:=mI w l fun hc=>h (aU _ hc);show (if a=c then _ else match bw c (w++c::l) with | []=>[[a]] | w::ws=>(a::w)::ws)=_;rw[af ha,ih]
theorem wj {c:Nat}:∀ (w:Za),c∉w->bw c w=[w]
 | [],_=>rfl
 | a::w,h=>by have ha:a≠c:=fun e=>h (by rw[e];exact aS);have ih:=wj w fun hc=>h (aU _ hc);show (if a=c then _ else match bw c w with | []=>[[a]] | w::ws=>(a::w)::ws)=_;rw[af ha,ih]
theorem nE {c:Nat}:∀ (ws:List (Za)),ws≠[]->(∀ w∈ws,c∉w)->bw c (dM c ws)=ws
 | [],h,_=>absurd rfl h
 | [w],_,h=>wj w (h w aS)
 | w::v::ws,_,h=>by show bw c (w++c::dM c (v::ws))=_;rw[mI w _ (h w aS),nE (v::ws) (by simp) fun x hx=>h x (aU _ hx)]
theorem uW {c:Nat}:∀ (l:Za),(bw c l).length<=l.length+1/\∀ w∈bw c l,w.length<=l.length
 | []=>by simp [bw]
 | a::l=>by
  obtain⟨h1,h2⟩:=uW (c:=c) l;have e:bw c (a::l)=if a=c then []::bw c l else match bw c l with | []=>[[a]] | w::ws=>(a::w)::ws:=rfl
  by_cases ha:a=c
  ·rw[e,ah ha,aZ,aZ];refine⟨by lia,fun w hw=>?_⟩;rcases aP.mp hw with rfl | hw
   ·exact bj _
   ·have:=h2 w hw;lia
  ·rw[e,af ha,aZ];cases hs:bw c l with
   | nil=>exact⟨by simp,fun w hw=>by rw[bg.mp hw];simp⟩
   | cons v vs =>
    rw[hs] at h1 h2;refine⟨by simp only[aZ] at h1 ⊢;lia,fun w hw=>?_⟩;rcases aP.mp hw with rfl | hw
    ·have:=h2 v aS;rw[aZ];lia
    ·have:=h2 w (aU _ hw);lia
theorem rG {c:Nat}:∀ (ws:List (Za)),(dM c ws).length<=(ws.map fun w=>w.length+1).sum
 | []=>by simp [dM]
 | [w]=>by simp [dM]
 | w::v::ws=>by have ih:=rG (c:=c) (v::ws);show (w++c::dM c (v::ws)).length<=_;rw[aB,aZ,bf,jh];lia
end
section
end
end Mk
namespace L2
open PySem PySem.Spec PyProof.Rows
variable {A:Around}{C:Addr}{CX:CXT}{D:Ends}{E:Zq}{H:Hp}{H1:Hp}{J:It}{K:Zf}{M:Model}{P:Zh}{Q:VK}{T:String}{X:Cx}{a:Addr}{bmB:Zc}{ch:List Addr}{cl:List (Str×Addr)}{d:Option Addr}{e:Expr}{elts:List Expr}{env:Env}{es:List Expr}{f:Str}{fp:List Addr}{frn:Ze}{g:TG}{h:Heap}{h':Heap}{i:Nat}{ifs:List Expr}{items:Array Value}{js:Za}{kvs:List (Key×V)}{lo:Int}{m:Str}{o:HO}{Yp:Zp}{pl:Sem Bool}{pos:Pos}{prog:Zh}{ps:Ze}{r:V->List V->Hp->VK->Prop}{s:Zg}{scope:Scope}{sp:Sp}{t':Nat}{ta:TA}{tb:TS}{tc:TT}{te:TE}{tl:TE}{to:TE}{tpos:Pos}{v:Value}{w:Zi}{wi:TI}{x:Str}{xe:Zq}{xs:List V}{α:Type}{σ:St}
section
noncomputable def clo (cells:List (Str×Addr)):List (Str×NameKind)->List (Str×Addr)->Option (List (Str×Addr))
 | [],acc=>some acc
 | (n,k)::r,acc=>if k==.free then (match cells.lookup n with | some c=>clo cells r ((n,c)::acc) | none=>none) else clo cells r acc
theorem tW {env:Env}:∀ (names:List (Str×NameKind)) (acc cl:List (Str×Addr)),clo env.cells names acc=some cl →
  (forIn names acc fun (x:Str×NameKind) (cs:List (Str×Addr))=>(if x.2==.free then do let c ←cellOf env x.1;pure (ForInStep.yield ((x.1,c)::cs)) else pure (ForInStep.yield cs):Sem (ForInStep (List (Str×Addr)))))=pure cl
 | [],acc,cl,h=>by have e:acc=cl:=Option.some.inj h;subst e;rfl
 | (n,k)::r,acc,cl,h=>by
  rw[List.forIn_cons];unfold clo at h
  by_cases hk:(k==NameKind.free)=true
  ·rw[ah hk] at h;cases hc:env.cells.lookup n with
   | none=>rw[hc] at h;cases h
   | some c =>
    rw[hc] at h;have ih:=tW (env:=env) r ((n,c)::acc) cl h;have e1:cellOf env n=pure c:=by unfold cellOf;rw[hc]
    simp only[hk,i4,e1,pure_bind];exact ih
  ·rw[af hk] at h;have ih:=tW (env:=env) r acc cl h;simp only[hk,eU,pure_bind,iK];exact ih
theorem jF (h:clo env.cells scope.names []=some cl):closureFor scope env=pure cl:=by
 have e:=tW (env:=env) scope.names [] cl h;unfold closureFor;simp only[bind_pure]
 first
  | exact e
  | (simp only[bind_pure_comp,map_pure] at e ⊢;exact e)
  | (rw[show (fun (x:Str×NameKind) (r:List (Str×Addr))=>_)=_ from rfl];exact e)
theorem tD {cells:List (Str×Addr)}:∀ (names:List (Str×NameKind)) (acc cl:List (Str×Addr)),clo cells names acc=some cl →
  (∀ x c,acc.lookup x=some c->cells.lookup x=some c)->∀ x c,cl.lookup x=some c->cells.lookup x=some c
 | [],acc,cl,h,ha=>by have e:acc=cl:=Option.some.inj h;subst e;exact ha
 | (n,k)::r,acc,cl,h,ha=>by
  unfold clo at h
  by_cases hk:(k==NameKind.free)=true
  ·rw[ah hk] at h;cases hc:cells.lookup n with
   | none=>rw[hc] at h;cases h
   | some c =>
    rw[hc] at h;refine tD r ((n,c)::acc) cl h fun x c' e=>?_;rw[fS] at e
    by_cases hx:(x==n)=true
    ·rw[hx] at e;have e':c=c':=Option.some.inj e;subst e';have:x=n:=eq_of_beq hx;subst this;exact hc
    ·rw[Bool.not_eq_true] at hx;rw[hx] at e;exact ha x c' e
  ·rw[af hk] at h;exact tD r acc cl h ha
theorem tV {cells:List (Str×Addr)}:∀ (names:List (Str×NameKind)) (acc cl:List (Str×Addr)),clo cells names acc=some cl->∀ x,(∃ c,acc.lookup x=some c)->∃ c,cl.lookup x=some c
 | [],acc,cl,h,x,hx=>by have e:acc=cl:=Option.some.inj h;subst e;exact hx
 | (n,k)::r,acc,cl,h,x,hx=>by
  unfold clo at h
  by_cases hk:(k==NameKind.free)=true
  ·rw[ah hk] at h;cases hc:cells.lookup n with
   | none=>rw[hc] at h;cases h
   | some c =>
    rw[hc] at h;refine tV r ((n,c)::acc) cl h x ?_;rw[fS]
    by_cases hxn:(x==n)=true
    ·rw[hxn];exact⟨c,rfl⟩
    ·rw[Bool.not_eq_true] at hxn;rw[hxn];exact hx
  ·rw[af hk] at h;exact tV r acc cl h x hx
theorem tp {cells:List (Str×Addr)}:∀ (names:List (Str×NameKind)) (acc cl:List (Str×Addr)),clo cells names acc=some cl->∀ x,(x,NameKind.free)∈names->∃ c,cl.lookup x=some c
 | [],_,_,_,x,hx=>by cases hx
 | (n,k)::r,acc,cl,h,x,hx=>by
  unfold clo at h
  by_cases hk:(k==NameKind.free)=true
  ·rw[ah hk] at h;cases hc:cells.lookup n with
   | none=>rw[hc] at h;cases h
   | some c =>
    rw[hc] at h;rcases aP.mp hx with e | hx
    ·have e1:x=n:=bJ Prod.fst e;subst e1;exact tV r ((x,c)::acc) cl h x ⟨c,by rw[fS,beq_self_eq_true]⟩
    ·exact tp r _ cl h x hx
  ·rw[af hk] at h;rcases aP.mp hx with e | hx
   ·cases e
    exact absurd (by rfl) hk
   ·exact tp r acc cl h x hx
theorem mx {env:Env}:∀ {names:List (Str×NameKind)}{x:Str}{k':NameKind},
  (names.map fun (n,k)=>if (k==NameKind.free&&env.scope.kind==.function&&env.kindOf n==some .cell) then (n,NameKind.cell) else (n,k)).lookup x=some k'->(x,k')∈names∨(k'=.cell/\(x,NameKind.free)∈names)
 | [],_,_,h=>by cases h
 | (n,k)::r,x,k',h=>by
  have ih:=@mx env r x k'
  by_cases hc:(k==NameKind.free&&env.scope.kind==.function&&env.kindOf n==some .cell)=true
  ·have h2:(((n,NameKind.cell)::(r.map fun (n,k)=>if (k==NameKind.free&&env.scope.kind==.function&&env.kindOf n==some .cell) then (n,NameKind.cell) else (n,k))).lookup x)=some k':=by
    rw[←h,bf];simp only[hc,i4]
   rw[fS] at h2
   by_cases hx:(x==n)=true
   ·rw[hx] at h2;have e:NameKind.cell=k':=Option.some.inj h2;have e2:x=n:=eq_of_beq hx;have e3:k=.free:=by
     simp only[bP] at hc;exact eq_of_beq hc.1.1
    subst e e2 e3;exact .inr ⟨rfl,aS⟩
   ·rw[Bool.not_eq_true] at hx;rw[hx] at h2;rcases ih h2 with q | ⟨e,q⟩
    ·exact .inl (aU _ q)
    ·exact .inr ⟨e,aU _ q⟩
  ·have h2:(((n,k)::(r.map fun (n,k)=>if (k==NameKind.free&&env.scope.kind==.function&&env.kindOf n==some .cell) then (n,NameKind.cell) else (n,k))).lookup x)=some k':=by
    rw[←h,bf];simp only[hc,eU,iK]
   rw[fS] at h2
   by_cases hx:(x==n)=true
   ·rw[hx] at h2;have e:k=k':=Option.some.inj h2;have e2:x=n:=eq_of_beq hx;subst e e2;exact .inl aS
   ·rw[Bool.not_eq_true] at hx;rw[hx] at h2;rcases ih h2 with q | ⟨e,q⟩
    ·exact .inl (aU _ q)
    ·exact .inr ⟨e,aU _ q⟩
noncomputable abbrev Cx.blk (X:Cx) (N':Ze) (scope:Scope) (cl:List (Str×Addr)) (C:Addr) (s₀:Zg) (H₀:Hp) (ex:List Addr):Cx :=
 { X with N:=N',s₀:=s₀,H₀:=H₀,env:=compEnvC scope cl C X.env,outer:=X.stack,stack:=X.stack,ex:=ex,fn:=fun _=>false,pn:=[],xe:=fun _ _=>False }
inductive tP (X:Cx):Ze->Za->Prop
 | nil:tP X [] []
 | cons {x:Str}{j:Nat}{xs:Ze}{js:Za}:X.N[j]?=some x->(X.env.kindOf x=some .cell∨X.env.kindOf x=some .free)->tP X xs js->tP X (x::xs) (j::js)
theorem tP.get {X:Cx}:∀ {xs:Ze}{js:Za}{i:Nat}{x:Str},tP X xs js->xs[i]?=some x->∃ j,js[i]?=some j/\X.N[j]?=some x/\(X.env.kindOf x=some .cell∨X.env.kindOf x=some .free)
 | _,_,_,_,.nil,e=>by simp at e
 | _,_,0,_,.cons a b _,e=>by simp at e;subst e;exact⟨_,rfl,a,b⟩
 | _,_,i+1,x,.cons _ _ t,e=>by obtain⟨j,h1,h2⟩:=tP.get (i:=i) (x:=x) t (by simpa using e);exact⟨j,by simpa using h1,h2⟩
theorem tP.len {X:Cx}:∀ {xs:Ze}{js:Za},tP X xs js->xs.length=js.length
 | _,_,.nil=>rfl
 | _,_,.cons _ _ t=>by rw[aZ,aZ,t.len]
noncomputable def jE (k:Nat) (js:Za) (σ:St):St:=List.replicate k none++js.map fun j=>(σ[j]?).join
noncomputable def PIf (X:Cx) (ifs:List Expr) (t:TT):Prop :=
 ∀ (Yp:Zp) (s:Zg) (σ:St) (H:Hp) (Q:Bool->Hp->Prop),Inv X Yp σ H s->t σ H Q →
  wpAny (model X.prog X.w) X.A (forIn ifs true fun c r=>if r=true then do let ok ←isTrue c X.env (eval c X.env);pure (ForInStep.yield ok) else pure (ForInStep.yield r)) (TP X Yp σ Q) X.xe s
noncomputable def Ez:TT:=fun _ H Q=>Q true H
theorem eG :PIf X [] Ez:=fun _ _ _ H _ I h=>wpAny_tests_nil ⟨H,I,h⟩
theorem jz {c:Expr}{t:TT} (h:PT X c t):PIf X [c] t:=fun Yp s σ H Q I q=>wpAny_tests_one (h Yp s σ H Q I q)
section
variable {prog:Zh}{w:Zi}{A:Around}{R:Result->Zg->Prop}{s:Zg}
theorem xY {elt target iter:Expr}{ifs:List Expr}{scope:Scope}{pos:Pos}{it acc:Value}{env:Env} (I:Nat->Zg->Prop)
  (turn:∀ n s,I n s->wpAny (model prog w) A (pyNext it) (fun r s₁=>match r with
   | none=>R (.ok .next) s₁
   | some v=>wpAny (model prog w) A (letOwnedTupleGo target it v) (fun _ s₀=>wpAny (model prog w) A (assign target env v) (fun _ s₂ =>
     wpAny (model prog w) A (forIn ifs true fun c r=>if r=true then do let ok ←isTrue c env (eval c env);pure (ForInStep.yield ok) else pure (ForInStep.yield r)) (fun ok s₃ =>
      if ok=true then wpAny (model prog w) A (eval elt env) (fun x s₄ =>wpAny (model prog w) A (call (.builtin "list.append") [acc,x]) (fun _ s₅=>∃ m,m<n/\I m s₅) (fun _ _=>False) s₄) (fun _ _=>False) s₃
      else ∃ m,m<n/\I m s₃) (fun _ _=>False) s₂) (fun _ _=>False) s₀) (fun _ _=>False) s₁) (fun _ _=>False) s)
  (n:Nat) (h:I n s) :
  codeAny (model prog w) A (.compLoop (.ListComp elt [⟨target,iter,ifs,0⟩] scope pos) 0 it acc env) R s:=by
 refine codeAny_loop rfl I (fun n s hI=>?_) n h;show wpAny _ A ((compTurn (.ListComp elt [⟨target,iter,ifs,0⟩] scope pos) 0 it acc env).onRaise (fun x=>do noteFrame x env;theTreesLotGoes x)) _ _ s;refine wpAny_noted ?_;rw[compTurn_list];refine aa (jC (aa (bM (turn n s hI) (fun r s₁ h₁=>?_) fun _ _ h'=>h'.elim)));cases r with
 | none=>exact ak h₁
 | some v =>
  refine aa (bM h₁ (fun _ s₀ h₀=>?_) fun _ _ h'=>h'.elim);refine aa (bM h₀ (fun _ s₂ h₂=>aa (bM h₂ (fun ok s₃ h₃=>?_) fun _ _ h'=>h'.elim)) fun _ _ h'=>h'.elim);cases ok with
  | false=>exact ak ⟨rfl,h₃⟩
  | true =>exact aa (aa (bM h₃ (fun x s₄ h₄=>aa (bM h₄ (fun _ s₅ h₅=>ak (ak ⟨rfl,h₅⟩)) fun _ _ h'=>h'.elim)) fun _ _ h'=>h'.elim))
end
noncomputable def gy (g:TG) (tc:TT) (te:TE) (σ':St) (J:It) (H1:Hp) (Q:VK):Prop :=
 ∀ D,H1 D=none->∃ W:Nat->Nat->List V->St->Hp->Prop,(∃ m,W 0 m [] σ' (upd H1 D (.lst [])))/\∀ i m ys σ1 H,W i m ys σ1 H->H D=some (.lst ys)/\ys.length<sizeLine ∧
  ((J.stop i H/\Q (.ref D) H)∨(J.go i H/\∀ x H',J.yld i H x H'->g x σ1 H' fun σ2 H2=>tc σ2 H2 fun b H3 =>if b=true then te σ2 H3 fun v H4=>H4 D=some (.lst ys)/\∃ m',m'<m/\W (i+1) m' (ys++[v]) σ2 (upd H4 D (.lst (ys++[v]))) else ∃ m',m'<m/\W (i+1) m' ys σ2 H3))
structure Bv (X:Cx) (scope:Scope) (cl:List (Str×Addr)):Prop where
 clo:L2.clo X.env.cells scope.names []=some cl
 cell:∀ y∈scope.names,y.2≠.cell
 kind:scope.kind=.function
 names:∀ y∈scope.names,y.2=.local->scope.names.lookup y.1=some .local
section
variable {X:Cx}{Yp:Zp}{σ:St}{H1:Hp}{s₂:Zg}{E:Zq}
theorem Inv.Ml {N':Ze} (I:Inv X Yp σ H1 s₂) (B:Bv X scope cl) (hC:s₂.heap.objs.size<=C) (hf:∀ b∈fp,sU X Yp H1 b)
  (ho:∀ b∈fp,∃ o,s₂.heap.get? b=some o):(X.blk N' scope cl C s₂ H1 fp).Ok:=by
 have sub:=tD scope.names [] cl B.clo (fun x c e=>by cases e);refine⟨I.ok.mod,B.kind,I.ok.glob,I.ok.blt,hC,fun x y c h1 h2=>I.ok.inj x y c (sub x c h1) (sub y c h2),fun x hx=>?_,fun x c h=>?_,I.ok.hd,I.ok.frames,.inl rfl,fun b hb=>⟨?_,fun x c e=>?_⟩,I.bs,
  aV I.ok.bsz I.sz,fun b o e hb=>?_,fun b hb hs=>?_,I.stack,I.qP⟩
 ·have hx':(compEnvC scope cl C X.env).kindOf x=some .cell∨(compEnvC scope cl C X.env).kindOf x=some .free:=hx;have key:∀ k',(compEnvC scope cl C X.env).kindOf x=some k'->(k'=.cell∨k'=.free)->∃ c,cl.lookup x=some c:=fun k' e hk=>by
   have e':(scope.names.map fun (n,k)=>if (k==NameKind.free&&X.env.scope.kind==.function&&X.env.kindOf n==some .cell) then (n,NameKind.cell) else (n,k)).lookup x=some k':=e;rcases mx e' with q | ⟨_,q⟩
   ·rcases hk with rfl | rfl
    ·exact absurd rfl (B.cell _ q)
    ·exact tp scope.names [] cl B.clo x q
   ·exact tp scope.names [] cl B.clo x q
  rcases hx' with hx' | hx'
  ·exact key _ hx' (.inl rfl)
  ·exact key _ hx' (.inr rfl)
 ·exact absurd h bS
 ·obtain⟨o,e⟩:=ho b hb;exact aW (bK (aG e) hC)
 ·exact (hf b hb).2.2.2.2.1 x c (sub x c e)
 ·rcases (hf b hb).2.2.2.1 with z | z
  ·exact I.ok.noex b o e z
  ·exact absurd (bK (aG e) (aV I.ok.bsz z)) (ft _)
 ·rcases aP.mp (I.xO b hs) with z | z
  ·exact (hf b hb).2.1 z
  ·exact (hf b hb).2.2.1 z
theorem Bz {elt target iter:Expr}{ifs:List Expr}{scope:Scope}{pos:Pos}{cl:List (Str×Addr)}{own frn:Ze}{js:Za}{g:TG}{tc:TT}{te:TE}{Q:VK}{it:Addr}{fp:List Addr}{tn:Nat->Heap->Prop}{J:It}
  {RR:Value->Addr->Result->Zg->Prop} (hc:X.calm=true) (B:Bv X scope cl) (hfr:tP X frn js) (hloc:∀ x∈frn,scope.names.lookup x≠some .local)
  (hg:∀ C s₀ H₀ ex,PG (X.blk (own++frn) scope cl C s₀ H₀ ex) target g) (hi:∀ C s₀ H₀ ex,PIf (X.blk (own++frn) scope cl C s₀ H₀ ex) ifs tc) (he:∀ C s₀ H₀ ex,PE (X.blk (own++frn) scope cl C s₀ H₀ ex) elt te)
  (I:Inv X Yp σ H1 s₂) (T:Turn X.prog X.w X.K target J fp it tn) (st0:tn 0 s₂.heap) (hf:∀ b∈fp,sU X Yp H1 b) (hq:gy g tc te (jE own.length js σ) J H1 Q)
  (fin:∀ D C s' H' m,s₂.heap.objs.size<=C->Inv X Yp σ H' s'->s'.heap.Ns C m->sU X Yp H' C->Q (.ref D) H'->RR (.ref D) C (.ok .next) s') :
  wpAny (model X.prog X.w) X.A (newList []) (fun acc s₃=>wpAny (model X.prog X.w) X.A (newFunctionEnv scope X.env.globals cl [] X.env.qual none .none (some X.env)) (fun cenv s₄ =>codeAny (model X.prog X.w) X.A (.compStart (.ListComp elt [⟨target,iter,ifs,0⟩] scope pos) 0 (.ref it) acc { cenv with scope:=relabel scope X.env }) (RR acc cenv.locals) s₄) E s₃) E s₂:=by
 have sub:=tD scope.names [] cl B.clo (fun x c e=>by cases e);refine gx (wpAny_newFunctionEnv B.cell (by intro y hy;simp at hy) (fun h₁ hns₁ hsb₁=>?_) B.kind);dsimp only at hns₁ hsb₁ ⊢;generalize hH2:s₂.heap.push { cls:=.type "list",dict:=none,data:=.seq ([]:Zc).toArray }=H2 at hns₁ hsb₁ ⊢;have hC:H2.objs.size=s₂.heap.objs.size+1:=by rw[←hH2,iW]
 have hDC:s₂.heap.objs.size≠H2.objs.size:=by rw[hC];exact aW (lQ _)
 have hCle:s₂.heap.objs.size<=H2.objs.size:=by rw[hC];exact gk _
 have below:∀ b,b<s₂.heap.objs.size->b≠H2.objs.size/\b≠s₂.heap.objs.size:=fun b hb=>⟨by rw[hC];exact aW (fT hb),aW hb⟩;have old:∀ b o,s₂.heap.get? b=some o->h₁.get? b=some o:=fun b o e=>hsb₁.extBut b o (below b (aG e)).1 (aD _ (hH2 ▸ aD _ e));have hacc:h₁.get? s₂.heap.objs.size=some { cls:=.type "list",dict:=none,data:=.seq ([]:Zc).toArray }:=hsb₁.extBut _ _ hDC (aD _ (hH2 ▸ bt _ rfl));have hfo:∀ b∈fp,∃ o,s₂.heap.get? b=some o/\∀ v,o.data≠.cell v:=T.obj 0 _ st0;have D0:H1 s₂.heap.objs.size=none:=I.hok.fresh (ar _);have C0:H1 H2.objs.size=none:=I.hok.fresh hCle;obtain⟨W,⟨m0,w0⟩,turn⟩:=hq _ D0;have okX:(X.blk (own++frn) scope cl H2.objs.size s₂ H1 fp).Ok:=I.Ml (N':=own++frn) B hCle hf fun b hb=>let ⟨o,e,_⟩:=hfo b hb;⟨o,e⟩;have I0:Inv (X.blk (own++frn) scope cl H2.objs.size s₂ H1 fp) [] (jE own.length js σ) (upd H1 s₂.heap.objs.size (.lst [])) { s₂ with heap:=h₁,toks:=s₂.toks+([]:List (Str×Value)).length }:=by
  obtain⟨m,hn,hl⟩:=id I.loc;refine⟨okX,rfl,I.bare,Un.laid old (ar _) D0,⟨_,hns₁,fun i x v e1 e2 e3=>?_⟩,fun x c e=>?_,?_,fun x c e=>?_,fun p hp=>?_,?_,?_⟩
  ·have e1:(own++frn)[i]?=some x:=e1;unfold jE at e2
   by_cases hik:i<own.length
   ·rw[ja (by simpa using hik),List.getElem?_replicate,ah hik] at e2;cases e2
   ·rw[ik (by simpa using hik),List.length_replicate,aT] at e2;rw[ik (by lia)] at e1;obtain⟨j,hj,hNj,hk⟩:=hfr.get e1;rw[hj] at e2;have e2':(σ[j]?).join=some v:=Option.some.inj e2;have e2'':σ[j]?=some (some v):=by
     cases q:σ[j]? with
     | none=>rw[q] at e2';cases e2'
     | some o=>rw[q] at e2';cases o with
      | none=>cases e2'
      | some y=>have:y=v:=Option.some.inj e2';rw[this]
    obtain⟨u,r,lk⟩:=hl j x v hNj e2'' (hk.elim (fun z=>.inr (.inl z)) fun z=>.inr (.inr z));refine⟨u,r,?_⟩;rcases lk with ⟨k1,_⟩ | ⟨_,c,hcl,hcell⟩
    ·rcases hk with z | z<;>(rw[k1] at z;cases z)
    ·have hx3:(compEnvC scope cl H2.objs.size X.env).kindOf x=some .local∨(compEnvC scope cl H2.objs.size X.env).kindOf x=some .cell∨(compEnvC scope cl H2.objs.size X.env).kindOf x=some .free:=e3;rcases hx3 with z | z
     ·exfalso;have z':(scope.names.map fun (n,k)=>if (k==NameKind.free&&X.env.scope.kind==.function&&X.env.kindOf n==some .cell) then (n,NameKind.cell) else (n,k)).lookup x=some .local:=z;rcases mx z' with q | ⟨q,_⟩
      ·exact hloc x (bQ e1) (B.names _ q rfl)
      ·cases q
     ·obtain⟨c',hc'⟩:=okX.has x z;have q:=sub x c' hc';rw[hcl] at q;have q':c=c':=Option.some.inj q;subst q';refine .inr ⟨z,c,hc',?_⟩;obtain⟨o,ho,hd⟩:=hcell;exact⟨o,old _ _ ho,hd⟩
  ·obtain⟨v,o,ho,hd⟩:=I.cell x c (sub x c e);exact⟨v,o,old _ _ ho,hd⟩
  ·show upd H1 _ _ H2.objs.size=none;rw[aJ (bD hDC)];exact C0
  ·obtain⟨v,o,ho,hd⟩:=I.cell x c (sub x c e);rw[aJ (below c (aG ho)).2];exact I.freeC x c (sub x c e)
  ·cases hp
  ·exact I.hok.laid old (ar _) ⟨bj _,[],_,.nil,hacc⟩
  ·unfold jE;show _=(own++frn).length;rw[aB,aB,List.length_replicate,ag,hfr.len]
 -- the iterator's objects in the block
 have fpx:∀ {H:Hp},(∀ b∈fp,H b=none)->∀ b∈fp,sU (X.blk (own++frn) scope cl H2.objs.size s₂ H1 fp) [] H b:=fun {H} hn b hb=>by
  obtain⟨f0,f1,f2,f3,f4,f5⟩:=hf b hb;obtain⟨o,e,_⟩:=hfo b hb;refine⟨hn b hb,(below b (aG e)).1,fun z=>?_,.inl hb,fun x c e=>f4 x c (sub x c e),fun p hp=>by cases hp⟩;rcases aP.mp (I.xO b z) with z | z
  ·exact f1 z
  ·exact f2 z
 have st1:tn 0 h₁:=T.keep _ _ _ st0 fun b _ o e=>old b o e;have fr0:∀ b∈fp,upd H1 s₂.heap.objs.size (.lst []) b=none:=fun b hb=>by obtain⟨o,e,_⟩:=hfo b hb;rw[aJ (below b (aG e)).2];exact (hf b hb).1
 have loop:codeAny (model X.prog X.w) X.A (.compLoop (.ListComp elt [⟨target,iter,ifs,0⟩] scope pos) 0 (.ref it) (.ref s₂.heap.objs.size) (compEnvC scope cl H2.objs.size X.env))
   (RR (.ref s₂.heap.objs.size) H2.objs.size) { s₂ with heap:=h₁,toks:=s₂.toks+([]:List (Str×Value)).length }:=by
  refine xY (fun n s'=>∃ i ys σ1 H,Inv (X.blk (own++frn) scope cl H2.objs.size s₂ H1 fp) [] σ1 H s'/\tn i s'.heap/\(∀ b∈fp,H b=none)/\W i n ys σ1 H) ?_ m0 ⟨0,[],_,_,I0,st1,fr0,w0⟩;rintro n s3 ⟨i,ys,σ3,H3,I3,st3,fr3,w3⟩;obtain⟨hD3,hsz,alt⟩:=turn i n ys σ3 H3 w3;rcases alt with ⟨stop,qn⟩ | ⟨go,step⟩
  ·refine thn (T.done (X.blk (own++frn) scope cl H2.objs.size s₂ H1 fp) rfl rfl rfl hc i [] s3 σ3 H3 _ I3 (fpx fr3) st3 stop) fun r s4 ⟨hr,I4⟩=>?_;subst hr;obtain⟨m,hn,_⟩:=id I4.loc;have hch:∀ b∈fp,(b∈X.ex∨X.s₀.heap.objs.size<=b)/\b≠X.env.locals/\(∀ x c,X.env.cells.lookup x=some c->c≠b)/\∀ p∈X.pn++Yp,p.1≠b:=fun b hb=>by
    obtain⟨f0,f1,f2,f3,f4,f5⟩:=hf b hb;exact⟨f3,f1,f4,f5⟩
   have IX:Inv X Yp σ H3 s4:=I.vD I4.os I4.base I4.hok I4.bare hch;exact fin _ _ s4 H3 m hCle IX hn (I.wL hCle I4.free) qn
  ·refine thn (T.item (X.blk (own++frn) scope cl H2.objs.size s₂ H1 fp) rfl rfl rfl hc i [] s3 σ3 H3 _ I3 (fpx fr3) st3 go) fun r s4 ⟨u,hr,h4⟩=>?_;subst hr;refine thn h4 fun _ s5 ⟨x,H5,I5,r5,y5,st5,fr5⟩=>?_;have I5':=I5.pinned (fpx fr5) (T.obj _ _ st5);refine thn (hg _ _ _ _ _ s5 σ3 H5 x u _ I5' r5 (step x H5 y5)) fun _ s6 ⟨σ6,H6,I6,q6⟩=>?_;refine thn (hi _ _ _ _ _ s6 σ6 H6 _ I6 q6) fun b s7 ⟨H7,I7,q7⟩=>?_;have again:∀ {ys':List V}{H8:Hp}{s8:Zg}{m':Nat},Inv (X.blk (own++frn) scope cl H2.objs.size s₂ H1 fp) ([]++uH fp s5.heap) σ6 H8 s8->m'<n->W (i+1) m' ys' σ6 H8 →
     ∃ m,m<n/\∃ i ys σ1 H,Inv (X.blk (own++frn) scope cl H2.objs.size s₂ H1 fp) [] σ1 H s8/\tn i s8.heap/\(∀ b∈fp,H b=none)/\W i m ys σ1 H:=fun {ys' H8 s8 m'} I8 hm w8=>by
    refine⟨m',hm,i+1,ys',σ6,H8,I8.qS,T.keep _ _ _ st5 fun b hb o e=>(I8.pin (b,o) (eR _ (eR _ (mh hb e)))).1,fun b hb=>?_,w8⟩;obtain⟨o,e,d⟩:=T.obj _ _ st5 b hb;exact (I8.pin (b,o) (eR _ (eR _ (mh hb e)))).2.1
   cases b with
   | false =>rw[af bS] at q7 ⊢;obtain⟨m',hm,w7⟩:=q7;exact again I7 hm w7
   | true =>rw[ah rfl] at q7 ⊢;refine thn (he _ _ _ _ _ s7 σ6 H7 _ I7 q7) fun v s8 ⟨y,H8,I8,r8,hD8,m',hm,w8⟩=>?_;refine thn (eM (X:=X.blk (own++frn) scope cl H2.objs.size s₂ H1 fp) _ s8 σ6 H8 (.ref s₂.heap.objs.size) [y] _ [v] (fun _ H9=>W (i+1) m' (ys++[y]) σ6 H9) I8 rfl (.cons r8 .nil) ⟨_,ys,y,rfl,rfl,hD8,hsz,w8⟩) fun _ s9 ⟨_,H9,I9,_,w9⟩=>?_;exact again I9 hm w9
 exact codeAny_compStart_list loop (T.self X.A 0 _ _ _ st1 loop)
end
noncomputable def tLC (k:Nat) (js:Za) (wi:TI) (g:TG) (tc:TT) (te:TE):TE:=fun σ H Q=>wi σ H fun J H1=>gy g tc te (jE k js σ) J H1 Q
section
variable {X:Cx}
theorem gO {elt target iter:Expr}{ifs:List Expr}{pos:Pos}{wi:TI}{g:TG}{tc:TT}{te:TE} (own:Ze) (hc:X.calm=true) (B:Bv X scope cl) (hfr:tP X frn js)
  (hloc:∀ x∈frn,scope.names.lookup x≠some .local) (hi:PI X target iter wi)
  (hg:∀ C s₀ H₀ ex,PG (X.blk (own++frn) scope cl C s₀ H₀ ex) target g) (hif:∀ C s₀ H₀ ex,PIf (X.blk (own++frn) scope cl C s₀ H₀ ex) ifs tc) (he:∀ C s₀ H₀ ex,PE (X.blk (own++frn) scope cl C s₀ H₀ ex) elt te)
  (hs:∀ x,foldedSetIterable iter X.env x=pure x:=by intro _;rfl):PE X (.ListComp elt [⟨target,iter,ifs,0⟩] scope pos) (tLC own.length js wi g tc te):=by
 intro Yp s σ H Q I h;rw[eval_ListComp];refine wpAny_comprehension_free (use:=none) rfl hs (jF B.clo) B.kind B.names (thn (hi Yp s σ H _ I h) fun v s1 h1=>thn h1 fun itv s2 h2=>?_);obtain⟨it,fp,tn,J,H2,e,I2,T,st2,f2,hq⟩:=h2;subst e;refine Bz (RR:=fun acc C=>compPost (model X.prog X.w) X.A X.xe none (EP X Yp σ Q) acc C) hc B hfr hloc hg hif he I2 T st2 f2 hq ?_;intro D C s' H' m hC I' hn fC q;exact⟨m,hn,fun h' sb=>⟨.ref D,H',I'.turned (t':=s'.toks) (fun b o hb e=>(sb.2 b hb).trans e) fC.1 fC.2.1 fC.2.2.2.1 fC.2.2.2.2.1 fC.2.2.2.2.2,rfl,q⟩⟩
theorem mW {elt target iter:Expr}{ifs:List Expr}{scope:Scope}{pos py spos:Pos}{y:Str}{cl:List (Str×Addr)}{frn:Ze}{js:Za}{wi:TI}{g:TG}{tc:TT}{te:TE} (own:Ze) (hN:X.N.Nodup) (hiy:X.N[i]?=some y)
  (hy:Loc X.env.scope y) (hc:X.calm=true) (B:Bv X scope cl) (hfr:tP X frn js)
  (hloc:∀ x∈frn,scope.names.lookup x≠some .local) (hi:PI X target iter wi)
  (hg:∀ C s₀ H₀ ex,PG (X.blk (own++frn) scope cl C s₀ H₀ ex) target g) (hif:∀ C s₀ H₀ ex,PIf (X.blk (own++frn) scope cl C s₀ H₀ ex) ifs tc) (he:∀ C s₀ H₀ ex,PE (X.blk (own++frn) scope cl C s₀ H₀ ex) elt te)
  (hsw:swapsWith (.ListComp elt [⟨target,iter,ifs,0⟩] scope pos) (some (.Name y py)) spos.line X.env=pure true:=by rfl)
  (hs:∀ x,foldedSetIterable iter X.env x=pure x:=by intro _;rfl)
  (hf:X.fn y=true∨X.env.scope.names.lookup y=some .local:=by first | exact .inl rfl | exact .inr rfl | assumption) :
  PS X (.Assign [.Name y py] (.ListComp elt [⟨target,iter,ifs,0⟩] scope pos) spos) (Ey (tLC own.length js wi g tc te) (gN i)):=by
 intro Yp s σ H D I h;rw[exec_Assign_Name_used _ _ _ _ hsw];refine aa (jC (aa ?_));show wpAny _ X.A (do let _ ←comprehension (.ListComp elt [⟨target,iter,ifs,0⟩] scope pos) scope X.env _ (newList []) false (eval iter X.env) (some (assign (.Name y py) X.env))) _ _ s;refine aa (bM (wpAny_comprehension_free (use:=some (assign (.Name y py) X.env)) (Q:=fun _ s'=>SP X Yp D .next s') rfl hs (jF B.clo) B.kind B.names
  (thn (hi Yp s σ H _ I h) fun v s1 h1=>thn h1 fun itv s2 h2=>?_)) (fun _ s' hq=>ak (ak hq)) fun _ _ e=>e)
 obtain⟨it,fp,tn,J,H2,e,I2,T,st2,f2,hq⟩:=h2;subst e;refine Bz (Q:=fun x H1=>D.nx (σ.set i (some x)) H1) (RR:=fun acc C=>compPost (model X.prog X.w) X.A X.xe (some (assign (.Name y py) X.env)) (fun _ s'=>SP X Yp D .next s') acc C) hc B hfr hloc hg hif he I2 T st2 f2 hq ?_;intro L C s' H' m hC I' hn fC q;show wpAny _ X.A (assign (.Name y py) X.env (.ref L)) _ _ _;refine wpAny_assign_Name (wk (v:=.ref L) I' hN hiy hy rfl (fun s'' I'' ⟨a,sb,ha⟩=>?_) hf);have hCa:C≠a:=by
  rcases ha with z | z
  ·rw[z];exact fC.2.1
  ·exact fun e=>fC.2.2.2.2.1 y a z e.symm
 exact⟨m,hn.sameBut sb hCa,fun h' sb'=>⟨_,H',I''.turned (t':=s''.toks) (fun b o hb e=>(sb'.2 b hb).trans e) fC.1 fC.2.1 fC.2.2.2.1 fC.2.2.2.2.1 fC.2.2.2.2.2,q⟩⟩
end
noncomputable def It.Seq (J:It) (H1:Hp) (xs:List V):Prop :=
 ∀ H,az H1 H->(∀ i x,xs[i]?=some x->J.go i H/\∀ y H',J.yld i H y H'->H'=H/\y=x)/\∀ i,xs.length<=i->J.stop i H
theorem eP (h:SqL K H1 a xs):(Itl K a).Seq H1 xs:=fun H s =>⟨fun i x e=>⟨⟨xs,x,s.seq h,e⟩,fun y H' ⟨e1,e2⟩=>⟨e1,Option.some.inj ((e2 xs (s.seq h)).symm.trans e)⟩⟩,fun i hi=>⟨xs,s.seq h,hi⟩⟩
theorem Er {n:Nat}:(Itr lo n).Seq H1 ((List.range n).map fun (k:Nat)=>V.int (lo+(k:Int))):=fun H s=>by
 refine⟨fun i x e=>?_,fun i hi=>?_⟩
 ·have hi:i<n:=by
   have:=(b7.mp e).1
   simpa using this
  rw[aT,List.getElem?_range hi] at e;have e':V.int (lo+(i:Int))=x:=Option.some.inj e;exact⟨hi,fun y H' ⟨e1,e2⟩=>⟨e1,by rw[e2,e']⟩⟩
 ·show n<=i
  simpa using hi
theorem az.cF {H H':Hp} (h:az H H') (hn:H a=none):az H (upd H' a o):=fun b u e=>by rw[aJ (b9 e hn)];exact h b u e
theorem Av {js:Za}{σ:St}{tc:TT}{te:TE}{Q:VK} (hJ:J.Seq H1 xs) (hl:xs.length<sizeLine) (p:V->Bool) (f:V->V)
  (hc:∀ x∈xs,∀ H,az H1 H->∀ R:Bool->Hp->Prop,(∀ H',az H H'->R (p x) H')->tc (some x::js.map fun j=>(σ[j]?).join) H R)
  (he:∀ x∈xs,p x=true->∀ H,az H1 H->∀ R:VK,(∀ H',az H H'->R (f x) H')->te (some x::js.map fun j=>(σ[j]?).join) H R)
  (q:∀ D H,H1 D=none->az H1 H->H D=some (.lst ((xs.filter p).map f))->Q (.ref D) H):gy (gN 0) tc te (jE 1 js σ) J H1 Q:=by
 intro D hD;refine⟨fun i m ys σ1 H=>m=xs.length-i/\i<=xs.length/\(∃ o,σ1=o::js.map fun j=>(σ[j]?).join)/\ys=((xs.take i).filter p).map f/\az H1 H/\H D=some (.lst ys),
  ⟨xs.length,by simp,bj _,⟨none,rfl⟩,by simp,(az.refl H1).cF hD,aE⟩,?_⟩
 rintro i m ys σ1 H ⟨rfl,hi,⟨o,rfl⟩,rfl,sH,hL⟩;have hlen:(((xs.take i).filter p).map f).length<sizeLine:=by
  rw[ag];have h1:=lL p (xs.take i);have h2:(xs.take i).length<=xs.length:=by rw[bI];lia
  lia
 refine⟨hL,hlen,?_⟩
 by_cases hlt:i<xs.length
 ·have e:xs[i]?=some xs[i]:=by simp [hlt]
  obtain⟨go,yl⟩:=(hJ H sH).1 i xs[i] e;refine .inr ⟨go,fun x H' y=>?_⟩;obtain⟨e1,e2⟩:=yl x H' y;subst e1 e2;have hm:xs[i]∈xs:=iq hlt;have htk:xs.take (i+1)=xs.take i++[xs[i]]:=by rw[iy,e];rfl
  show tc (some xs[i]::js.map fun j=>(σ[j]?).join) H' _;refine hc xs[i] hm H' sH _ fun H3 s3=>?_;cases hp:p xs[i] with
  | false =>rw[af bS];refine⟨xs.length-(i+1),by lia,rfl,hlt,⟨_,rfl⟩,?_,sH.trans s3,s3 _ _ hL⟩;rw[htk,gi];simp [hp]
  | true =>rw[ah rfl];refine he xs[i] hm hp H3 (sH.trans s3) _ fun H4 s4=>?_;refine⟨s4 _ _ (s3 _ _ hL),xs.length-(i+1),by lia,rfl,hlt,⟨_,rfl⟩,?_,((sH.trans s3).trans s4).cF hD,aE⟩;rw[htk,gi];simp [hp]
 ·have e:i=xs.length:=by lia
  subst e;refine .inl ⟨(hJ H sH).2 _ (ar _),q D H hD sH ?_⟩;rw[oa] at hL;exact hL
theorem FU {js:Za}{σ:St}{te:TE}{Q:VK} (hJ:J.Seq H1 xs) (hl:xs.length<sizeLine) (f:V->V)
  (he:∀ x∈xs,∀ H,az H1 H->∀ R:VK,(∀ H',az H H'->R (f x) H')->te (some x::js.map fun j=>(σ[j]?).join) H R)
  (q:∀ D H,H1 D=none->az H1 H->H D=some (.lst (xs.map f))->Q (.ref D) H):gy (gN 0) Ez te (jE 1 js σ) J H1 Q :=
 Av hJ hl (fun _=>true) f (fun x _ H _ R hR=>hR H (az.refl H)) (fun x hx _ H s R hR=>he x hx H s R hR) fun D H h1 h2 h3=>q D H h1 h2 (by rw[List.filter_eq_self.mpr (fun _ _=>rfl)] at h3;exact h3)
end
section
section
variable {X:Cx}
noncomputable def HB (i j:Int):Prop:=i.natAbs<2^1000/\j.natAbs<2^1000
theorem IV:OpR X (binaryOp .Mult) (rI HB fun i j=>.int (i*j)):=opI fun _ _ _ _ _ _ _ hc q =>mul_int q (IntMulOk.of_bits (aV (intBits_le_iff.mpr hc.1) Zd) (aV (intBits_le_iff.mpr hc.2) Zd))
noncomputable def LW (_ j:Int):Prop:=0<j/\j<2^1000
theorem Gm:OpR X (binaryOp .FloorDiv) (rI LW fun i j=>.int (i/j)):=opI fun i j _ _ _ _ _ hc q=>by
 have h1:(0:Int)<j:=hc.1;have h2:j<2^1000:=hc.2;have h3:j.natAbs<2^1000:=by
  have e:((j.natAbs:Nat):Int)=j:=Int.natAbs_of_nonneg (by lia);have e2:((2^1000:Nat):Int)=(2:Int)^1000:=by rw[Int.natCast_pow];rfl
  lia
 refine floordiv_int (by lia) (by rw[Int.fdiv_eq_ediv_of_nonneg i (by lia)];exact q) (.inl (PyProof.noPylong_of_log2 ?_));have h4:j.natAbs≠0:=by lia
 exact bK ((Nat.log2_lt h4).mpr h3) Zd
theorem Gq:OpR X (compareOp .Is) (fun x y H Q=>∃ a b,x=.bl a/\y=.bl b/\Q (.bl (a==b)) H):=by intro Yp s σ H x y v u Q I rx ry h;obtain⟨a,b,rfl,rfl,q⟩:=h;cases rx;cases ry;exact is_bool (c4 I q rfl)
theorem yP:OpR X (compareOp .IsNot) (fun x y H Q=>∃ a b,x=.bl a/\y=.bl b/\Q (.bl (a != b)) H):=by intro Yp s σ H x y v u Q I rx ry h;obtain⟨a,b,rfl,rfl,q⟩:=h;cases rx;cases ry;exact isnot_bool (c4 I q rfl)
noncomputable def Ny (K:Zf):List V->Hp->VK->Prop:=fun xs H Q=>∃ x t c b,xs=[x,.ty c]/\oW K H x t/\PySem.W.kitOne K t (.type c)=some b/\Q (.bl b) H
theorem EZ:dr X (.builtin "isinstance") (Ny X.K):=by intro Yp s σ H xs us Q I r h;obtain⟨x,t,c,b,rfl,ty,e,q⟩:=h;obtain⟨u,w',rfl,ru,rw'⟩:=vals2 r;obtain rfl:w'=Value.type c:=rw';exact isinst_ok I ru ty e fun tk=>⟨.bl b,H,I.tok tk,rfl,q⟩
noncomputable def mR:List V->List V->Bool
 | [],[]=>true
 | x::xs,y::ys=>eqV x y&&mR xs ys
 | _,_=>false
theorem ub:∀ {xs ys:List V},xs.length≠ys.length->mR xs ys=false
 | [],[],h=>absurd rfl h
 | [],_::_,_=>rfl
 | _::_,[],_=>rfl
 | x::xs,y::ys,h=>by have h':xs.length≠ys.length:=fun e=>h (by rw[aZ,aZ,e]);show (eqV x y&&mR xs ys)=false;rw[ub h',Bool.and_false]
theorem ma:∀ {xs ys:List V},xs.length=ys.length->(List.range xs.length).all (fun j=>eqV (xs.getD j .non) (ys.getD j .non))=mR xs ys
 | [],[],_=>rfl
 | [],_::_,h=>by cases h
 | _::_,[],h=>by cases h
 | x::xs,y::ys,h=>by
  have h':xs.length=ys.length:=by simpa using h
  rw[aZ,List.range_succ_eq_map,iY,fQ];show (eqV x y&&(List.range xs.length).all (fun j=>eqV (xs.getD j .non) (ys.getD j .non)))=(eqV x y&&mR xs ys);rw[ma h']
theorem vK (xs:Zb):(xs.map V.int).all eL=true:=by rw[cj];intro v hv;obtain⟨i,_,rfl⟩:=aM.mp hv;rfl
noncomputable def MB (K:Zf) (neg:Bool):R2:=fun x y H Q=>∃ a b xs ys,x=.ref a/\y=.ref b/\SqL K H a xs/\SqL K H b ys/\xs.all eL=true/\ys.all eL=true/\Q (.bl (if neg then !mR xs ys else mR xs ys)) H
theorem ua {A:Around}{s:Zg}{xs ys:List V}{us vs:Zc} (r1:Vals xs us) (r2:Vals ys vs) (f1:xs.all eL=true) (f2:ys.all eL=true) (j:Nat) (h1:j<us.toArray.size) (h2:j<vs.toArray.size) :
  SeqAt.EqAt A s us.toArray[j] vs.toArray[j] (eqV (xs.getD j .non) (ys.getD j .non)):=by
 have l1:=r1.length;have l2:=r2.length;rw[bF] at h1 h2;have e1:xs[j]?=some (xs[j]'(by lia)):=by simp [show j<xs.length by lia]
 have e2:ys[j]?=some (ys[j]'(by lia)):=by simp [show j<ys.length by lia]
 obtain⟨u,hu,ru⟩:=r1.get e1;obtain⟨v,hv,rv⟩:=r2.get e2;have hu':us.toArray[j]=u:=by
  have:=b7.mp hu
  simpa using this.2
 have hv':vs.toArray[j]=v:=by
  have:=b7.mp hv
  simpa using this.2
 rw[hu',hv',bz,bz,e1,e2];exact Fl ru rv (cj.mp f1 _ (iq _)) (cj.mp f2 _ (iq _))
theorem Lm (hu:X.A.units<cLine):OpR X (compareOp .Eq) (MB X.K false):=by
 intro Yp s σ H x y v u Q I rx ry h;obtain⟨a,b,xs,ys,rfl,rfl,ha,hb,f1,f2,q⟩:=h;cases rx;cases ry;obtain⟨us,r1,p1,_⟩:=I.list ha;obtain⟨vs,r2,p2,_⟩:=I.list hb;have l1:=r1.length;have l2:=r2.length
 by_cases hl:xs.length=ys.length
 ·refine SeqAt.eq_listAt p1.isList p2.isList (by simp only[bF];lia) hu (fun j h1 h2=>ua r1 r2 f1 f2 j h1 h2) ⟨.bl _,H,I,rfl,?_⟩;rw[bF,←l1,ma hl];exact q
 ·refine SeqAt.eq_list_lengthsAt p1.isList p2.isList (by simp only[bF,bne_iff_ne,ne_eq];lia) hu ⟨.bl _,H,I,rfl,?_⟩;have e:=ub hl;rw[af bS,e] at q;exact q
theorem Ls (hu:X.A.units<cLine):OpR X (compareOp .NotEq) (MB X.K true):=by
 intro Yp s σ H x y v u Q I rx ry h;obtain⟨a,b,xs,ys,rfl,rfl,ha,hb,f1,f2,q⟩:=h;cases rx;cases ry;obtain⟨us,r1,p1,_⟩:=I.list ha;obtain⟨vs,r2,p2,_⟩:=I.list hb;have l1:=r1.length;have l2:=r2.length
 by_cases hl:xs.length=ys.length
 ·refine SeqAt.RcNeAt.lists p1.isList p2.isList (by simp only[bF];lia) hu (fun j h1 h2=>ua r1 r2 f1 f2 j h1 h2) _ _ _ _ ⟨.bl _,H,I,rfl,?_⟩;rw[bF,←l1,ma hl];exact q
 ·refine SeqAt.RcNeAt.lists_lengths p1.isList p2.isList (by simp only[bF,bne_iff_ne,ne_eq];lia) hu _ _ _ _ ⟨.bl _,H,I,rfl,?_⟩;have e:=ub hl;rw[ah rfl,e] at q;exact q
theorem Vals.bools:∀ {bs:List Bool}{us:Zc},Vals (bs.map V.bl) us->us=bs.map Value.bool
 | [],_,.nil=>rfl
 | b::bs,_::_,.cons r t=>by
  cases (show _=Value.bool b from r)
  rw[bf,Vals.bools t]
theorem all_range (bs:List Bool):(List.range bs.length).all (fun i=>bs.getD i false)=bs.all id:=by
 induction bs with
 | nil=>rfl
 | cons b r ih =>rw[aZ,List.range_succ_eq_map,iY,fQ,iY];show (b&&(List.range r.length).all (fun i=>r.getD i false))=_;rw[ih];rfl
theorem zx (bs:List Bool) (A:Around) (P:Zh) (w:Zi):TruthOf P w A (fun i v=>(bs.map Value.bool).toArray[i]?=some v) (fun i=>bs.getD i false):=fun i v s Q E hP hQ=>by
 have e:(bs[i]?).map Value.bool=some v:=by simpa using hP
 cases q:bs[i]? with
 | none=>rw[q] at e;cases e
 | some b =>
  rw[q] at e;have e':Value.bool b=v:=Option.some.inj e;subst e';have hb:bs.getD i false=b:=by rw[bz,q];rfl
  have hQ':Q (bs.getD i false) s:=hQ;rw[hb] at hQ';exact fB hQ'
noncomputable def MA (K:Zf):List V->Hp->VK->Prop:=fun vs H Q=>∃ (a:Addr) (bs:List Bool),vs=[.ref a]/\SqL K H a (bs.map V.bl)/\Q (.bl (bs.all id)) H
theorem CO (hc:X.calm=true):dr X (.builtin "all") (MA X.K):=by
 intro Yp s σ H xs us Q I r h;obtain⟨a,bs,rfl,hq,q⟩:=h;obtain⟨u,rfl,ru⟩:=vals1 r;cases ru;obtain⟨its,rv,p,hz⟩:=I.list hq;obtain rfl:=rv.bools;have ha:a<s.heap.objs.size:=by obtain⟨o,e,_⟩:=p.isList;exact aG e
 refine call_all_walk (wpAny_pyIter_list p.isList ⟨s.heap.objs.size,_,_,_,_,_,fun i=>bs.getD i false,rfl,Walks.list (A:=X.A.in1) (I.ok.hd hc) _ a (aW ha) _,⟨⟨_,bt _ rfl,rfl,rfl⟩,p.isList.push _⟩,zx bs _ _ _,fun h' tk hk=>?_⟩);refine⟨.bl (bs.all id),H,I.kept fun b o e=>hk b o (fun z=>?_) (aD _ e),?_,q⟩
 ·have z':b=s.heap.objs.size:=by simpa using z
  exact absurd (aG e) (by rw[z'];exact ft _)
 ·show Value.bool _=Value.bool _;rw[←all_range bs];simp
noncomputable def MG (K:Zf):List V->Hp->VK->Prop:=fun vs H Q=>∃ (a:Addr) (ns:Zb),vs=[.ref a]/\SqL K H a (ns.map V.int)/\Q (.int ns.sum) H
theorem Dd (hc:X.calm=true):dr X (.builtin "sum") (MG X.K):=by intro Yp s σ H xs us Q I r h;obtain⟨a,ns,rfl,hq,q⟩:=h;obtain⟨u,rfl,ru⟩:=vals1 r;cases ru;obtain⟨its,rv,p,hz⟩:=I.list hq;have hi:IntsAre its ns:=intsAre_of rv;obtain⟨zs,hzs⟩:=hi.allInts.items;have hl:=p.isList;rw[hzs] at hl;refine sum_intListG (I.ok.hd hc) hl fun h' tk t' hk=>⟨.int ns.sum,H,I.kept hk,⟨t',?_⟩,q⟩;have e1:numsOf (intItems zs).toList=zs.toList.map (·.1):=nums_intItems zs;rw[←hzs] at e1;have e2:numsOf its=ns:=hi.numsOf;rw[preSum_eq,fq (by simp),←e1];show Value.int (numsOf its).sum t'=_;rw[e2]
noncomputable def ME:List V->Hp->VK->Prop:=fun vs H Q=>∃ j:Int,vs=[.int j]/\∀ p,H p=none->Q (.ref p) (upd H p (.rng 0 j))
theorem CV:dr X (.type "range") ME:=by intro Yp s σ H xs us Q I r h;obtain⟨j,rfl,q⟩:=h;obtain⟨u,rfl,t,rfl⟩:=vals1 r;refine call_range_1 ?_;exact⟨.ref s.heap.objs.size,_,I.laid (fun b ob e=>aD _ e) (ar _) (show bY X.prog X.w _ _ _ (.rng 0 j) from ⟨_,_,_,bt _ rfl⟩),rfl,q _ (I.hok.fresh (ar _))⟩
noncomputable def xD (lo:Int) (n:Nat):List V:=(List.range n).map fun (k:Nat)=>V.int (lo+(k:Int))
theorem Br {n:Nat}{acc:Array Value} (h:ItemsOf (fun (i:Nat) v=>∃ t,v=Value.int (lo+(i:Int)*1) t) acc n):Vals (xD lo n) acc.toList:=by
 obtain⟨hs,hi⟩:=h;have key:∀ (xs:Zc) (m:Nat),(∀ j v,xs[j]?=some v->∃ t,v=Value.int (lo+((m+j:Nat):Int)) t)->Vals ((List.range' m xs.length).map fun (k:Nat)=>V.int (lo+(k:Int))) xs:=by
  intro xs
  induction xs with
  | nil=>intro m _;exact .nil
  | cons x r ih =>
   intro m hx;rw[aZ,List.range'_succ,bf];refine .cons ?_ (ih (m+1) fun j v e=>?_)
   ·obtain⟨t,e⟩:=hx 0 x rfl;exact⟨t,by simpa using e⟩
   ·obtain⟨t,e'⟩:=hx (j+1) v (by simpa using e);exact⟨t,by rw[e'];congr 2;lia⟩
 have:=key acc.toList 0 fun j v e=>by obtain⟨t,e'⟩:=hi j v (by simpa using e);exact⟨t,by rw[e',Int.mul_one,Nat.zero_add]⟩
 rw[di,hs,←List.range_eq_range'] at this;exact this
noncomputable def GP:List V->Hp->VK->Prop:=fun vs H Q=>∃ a lo hi,vs=[.ref a]/\H a=some (.rng lo hi)/\(-(2^62)<=lo/\lo<2^62/\-(2^62)<=hi/\hi<2^62)/\(hi-lo).toNat<=2^20/\∀ p,H p=none->Q (.ref p) (upd H p (.lst (xD lo (hi-lo).toNat)))
theorem wG (hc:X.calm=true):dr X (.type "list") GP:=by
 intro Yp s σ H xs us Q I r h;obtain⟨a,lo,hi,rfl,ha,⟨h1,h2,h3,h4⟩,hn,q⟩:=h;obtain⟨u,rfl,ru⟩:=vals1 r;cases ru;obtain⟨t,u,v,e⟩:=(show bY X.prog X.w H s.heap a (.rng lo hi) from I.hok a _ ha);refine call_list_range (n:=(hi-lo).toNat) (I.ok.hd hc) e (small_one h1 h2 h3 h4) (by rw[rangeSize_one];split<;>lia) (by lia) fun h' tk acc c hk hS hacc=>?_;have hv:=Br hacc;have hlen:(xD lo (hi-lo).toNat).length<=sizeLine:=by unfold xD;rw[ag,dy];exact aV hn Zd
 exact⟨.ref s.heap.objs.size,_,I.laid hk (ar _) (show bY X.prog X.w _ _ _ (.lst (xD lo (hi-lo).toNat)) from ⟨hlen,acc.toList,c,hv,by simpa using hS⟩),rfl,q _ (I.hok.fresh (ar _))⟩
theorem Inv.Cw {t':Nat} (I:Inv X Yp σ H s) (hf:∀ b∈ch,sU X Yp H b) (k:∀ b o,b∉ch->s.heap.get? b=some o->h'.get? b=some o) :
  Inv X Yp σ H { s with heap:=h',toks:=t' }:=by
 have nch:∀ b u,H b=some u->b∉ch:=fun b u e z=>by rw[(hf b z).1] at e;cases e
 refine I.step (g':=s.gens) (d':=s.drawn) (ch:=ch) (fun b hb=>?_) (fun b o _ _ hc e _=>k b o hc e) (fun b o _ _ hc e _=>⟨o.slots,k b o hc e⟩) (fun _ _ _ _ n=>n) (fun b o hc e=>⟨o,k b o hc e⟩) (fun _ _ e=>e) (fun _ _ _ e=>e)
  (fun b ps e=>⟨#[],by rw[e];simp⟩) (fun m hm=>?_) (fun b u e=>?_) I.bare
 ·obtain⟨_,f1,_,f3,f4,f5⟩:=hf b hb;exact⟨f3,f1,f4,f5⟩
 ·obtain⟨o,es,ep,ho,r⟩:=hm;exact⟨o,es,ep,k _ o (fun z=>(hf _ z).2.1 rfl) ho,r⟩
 ·refine (I.hok b u e).mF (fun c v hc q=>k c v ?_ q) (fun _ q=>q) fun _ _ q=>q;rcases hc with z | z
  ·rw[z];exact nch b u e
  ·exact nch c _ z
theorem Inv.Cy {h':Heap}{t':Nat}{T:Addr}{o':HO} (I:Inv X Yp σ H s) (hf:∀ b∈ch,sU X Yp H b)
  (k:∀ b o,b∉ch->s.heap.get? b=some o->h'.get? b=some o) (hk2:∀ b o,s.heap.get? b=some o->∃ o',h'.get? b=some o') (hT:s.heap.objs.size<=T) (new:bY X.prog X.w (upd H T o') h' T o') :
  Inv X Yp σ (upd H T o') { s with heap:=h',toks:=t' }:=by
 have nch:∀ b u,H b=some u->b∉ch:=fun b u e z=>by rw[(hf b z).1] at e;cases e
 have hTn:H T=none:=I.hok.fresh hT;have neT:∀ b o,s.heap.get? b=some o->b≠T:=fun b o e=>aW (bK (aG e) hT);refine I.step (g':=s.gens) (d':=s.drawn) (ch:=ch) (fun b hb=>?_) (fun b o _ _ hc e _=>k b o hc e) (fun b o _ _ hc e _=>⟨o.slots,k b o hc e⟩) (fun b o _ e n=>by rw[aJ (neT b o e)];exact n) (fun b o hc e=>⟨o,k b o hc e⟩)
  (fun b xs e=>by rw[aJ (b9 e hTn)];exact e) (fun b u xs e=>by rw[aJ (b9 e hTn)];exact e) (fun b ps e=>⟨#[],by rw[aJ (b9 e hTn),e];simp⟩) (fun m hm=>?_) (fun b u e=>?_) I.bare
 ·obtain⟨_,f1,_,f3,f4,f5⟩:=hf b hb;exact⟨f3,f1,f4,f5⟩
 ·obtain⟨o,es,ep,ho,r⟩:=hm;exact⟨o,es,ep,k _ o (fun z=>(hf _ z).2.1 rfl) ho,r⟩
 ·by_cases hb:b=T
  ·subst hb;rw[aE] at e;cases e;exact new
  ·rw[aJ hb] at e;refine (I.hok b u e).mF (fun c v hc q=>k c v ?_ q) (fun c q=>by rw[aJ (b9 q hTn)];exact q) fun c xs q=>by rw[aJ (b9 q hTn)];exact q
   rcases hc with z | z
   ·rw[z];exact nch b u e
   ·exact nch c _ z
end
noncomputable def Itz (K:Zf) (a b:Addr):It :=
 ⟨fun i H=>∃ xs ys x y,SqL K H a xs/\SqL K H b ys/\xs[i]?=some x/\ys[i]?=some y,
  fun i H v H'=>∃ x y p,(∀ xs,SqL K H a xs->xs[i]?=some x)/\(∀ ys,SqL K H b ys->ys[i]?=some y)/\v=.ref p/\H p=none/\H'=upd H p (.tup [x,y]),
  fun i H=>∃ xs ys,SqL K H a xs/\SqL K H b ys/\(xs.length<=i∨ys.length<=i)⟩
theorem C9 {a b z TI TO i1 i2:Addr} (st:IsZip h z TI TO .none/\IsPair h TI (.ref i1) (.ref i2)/\(∃ x y,IsPair h TO x y)/\h.IsListIter i1 a i/\h.IsListIter i2 b i):∀ c∈[z,TI,TO,i1,i2],∃ o,h.get? c=some o/\∀ v,o.data≠.cell v:=fun c hc=>by
 obtain⟨hz,hTI,⟨x,y,hTO⟩,⟨o1,e1,c1,d1⟩,⟨o2,e2,c2,d2⟩⟩:=st;simp only[aP,dZ,ef] at hc;rcases hc with rfl | rfl | rfl | rfl | rfl
 ·exact⟨_,hz,fun v q=>by have q':Data.fields _=Data.cell v:=q;cases q'⟩
 ·exact⟨_,hTI,fun v q=>by have q':Data.seq _ _=Data.cell v:=q;cases q'⟩
 ·exact⟨_,hTO,fun v q=>by have q':Data.seq _ _=Data.cell v:=q;cases q'⟩
 ·exact⟨o1,e1,fun v q=>by rw[d1] at q;cases q⟩
 ·exact⟨o2,e2,fun v q=>by rw[d2] at q;cases q⟩
theorem Hw {k:Nat} (a b z TI TO i1 i2:Addr) (D:ZipApart z TI TO i1 i2 a b):Turn P w K (.Tuple elts k pos) (Itz K a b) [z,TI,TO,i1,i2] z
  (fun i h=>IsZip h z TI TO .none/\IsPair h TI (.ref i1) (.ref i2)/\(∃ x y,IsPair h TO x y)/\h.IsListIter i1 a i/\h.IsListIter i2 b i) where
 mem:=by simp
 obj:=fun i h st=>C9 st
 keep:=fun i h h' st k=>by obtain⟨hz,hTI,⟨x,y,hTO⟩,h1,h2⟩:=st;exact⟨k z (by simp) _ hz,k TI (by simp) _ hTI,⟨x,y,k TO (by simp) _ hTO⟩,h1.at fun o e=>k i1 (by simp) o e,h2.at fun o e=>k i2 (by simp) o e⟩
 item:=by
  intro X hP hw hK hc i Yp s σ H E I hf st hg;subst hP hw hK;obtain⟨xs,ys,x,y,hx,hy,ex,ey⟩:=hg;obtain⟨us,r1,p1,_⟩:=I.list hx;obtain⟨vs,r2,p2,_⟩:=I.list hy;obtain⟨u,hu,ru⟩:=r1.get ex;obtain⟨v,hv,rv⟩:=r2.get ey;obtain⟨hz,hTI,⟨ta,tb,hTO⟩,h1,h2⟩:=id st;refine wpAny_pyNext_zip_item D hz hTI hTO h1 h2 p1.isList p2.isList (x:=u) (y:=v) (by simpa using hu) (by simpa using hv) fun h' a1 a2 a3 a4 a5 a6 a7=>?_;refine⟨_,rfl,wpAny_letOwnedTupleGo_zip (s:={ s with heap:=h' }) a1 fun h'' b1 b2=>?_⟩;have b2':Heap.SameBut z h' h'':=b2;have ne:∀ c∈[z,TI,TO,i1,i2],c<s.heap.objs.size:=fun c hc=>by obtain⟨o,e,_⟩:=C9 st c hc;exact aG e
  have kk:∀ c o,c∉[z,TI,TO,i1,i2]->s.heap.get? c=some o->h''.get? c=some o:=fun c o hc e=>by simp only[aP,dZ,ef,not_or] at hc;exact (b2'.2 c hc.1).trans (a7 c o hc.1 hc.2.2.1 hc.2.2.2.1 hc.2.2.2.2 e)
  have hT:h''.get? s.heap.objs.size=some { cls:=.type "tuple",data:=.seq #[u,v] }:=(b2'.2 _ (gm (ne z (by simp)))).trans a5;have I1:Inv X Yp σ (upd H s.heap.objs.size (.tup [x,y])) { s with heap:=h'' }:=by
   refine I.Cy (t':=s.toks) (ch:=[z,TI,TO,i1,i2]) hf kk (fun c o e=>?_) (ar _) (show bY X.prog X.w _ h'' _ (.tup [x,y]) from ⟨by show 2<=sizeLine;decide,[u,v],.cons ru (.cons rv .nil),⟨_,hT,rfl,_,rfl⟩⟩)
   by_cases hc:c∈[z,TI,TO,i1,i2]
   ·simp only[aP,dZ,ef] at hc;rcases hc with rfl | rfl | rfl | rfl | rfl
    ·exact⟨_,b1⟩
    ·exact⟨_,(b2'.2 _ D.TIz).trans (a7 _ _ D.TIz D.TITO D.TIi1 D.TIi2 hTI)⟩
    ·exact⟨_,(b2'.2 _ D.TOz).trans a2⟩
    ·obtain⟨o1,e1,_⟩:=a3;exact⟨_,(b2'.2 _ D.i1z).trans e1⟩
    ·obtain⟨o2,e2,_⟩:=a4;exact⟨_,(b2'.2 _ D.i2z).trans e2⟩
   ·exact⟨_,kk c o hc e⟩
  refine⟨.ref s.heap.objs.size,_,I1,rfl,⟨x,y,_,fun zs hz=>by rw[I.qr hz hx];exact ex,fun zs hz=>by rw[I.qr hz hy];exact ey,rfl,I.hok.fresh (ar _),rfl⟩,⟨b1,(b2'.2 _ D.TIz).trans (a7 _ _ D.TIz D.TITO D.TIi1 D.TIi2 hTI),⟨u,v,(b2'.2 _ D.TOz).trans a2⟩,a3.at fun o e=>(b2'.2 _ D.i1z).trans e,a4.at fun o e=>(b2'.2 _ D.i2z).trans e⟩,fun c hc=>?_⟩;rw[aJ (aW (ne c hc))];exact (hf c hc).1
 done:=by
  intro X hP hw hK hc i Yp s σ H E I hf st hg;subst hP hw hK;obtain⟨xs,ys,hx,hy,hl⟩:=hg;obtain⟨us,r1,p1,_⟩:=I.list hx;obtain⟨vs,r2,p2,_⟩:=I.list hy;obtain⟨hz,hTI,⟨ta,tb,hTO⟩,h1,h2⟩:=id st;have l1:=r1.length;have l2:=r2.length;refine wpAny_pyNext_zip_end (I.ok.hd hc) D hz hTI hTO h1 h2 p1.isList p2.isList ?_ fun h' kk=>⟨rfl,I.Cw (t':=s.toks) (ch:=[z,TI,TO,i1,i2]) hf fun c o hc e=>?_⟩
  ·rcases hl with hl | hl
   ·exact .inl (by simp;lia)
   ·exact .inr (by simp;lia)
  ·simp only[aP,dZ,ef,not_or] at hc;exact kk c o hc.1 hc.2.2.1 hc.2.2.2.1 hc.2.2.2.2 e
 self:=fun _ _ _ _ _ st h=>wpAny_pyIter_zip st.1 h
section
variable {X:Cx}
noncomputable def IG (K:Zf) (ta:TA):TI:=fun σ H R=>ta σ H fun vs H1=>∃ a b,vs=[.ref a,.ref b]/\(∃ xs,SqL K H1 a xs)/\(∃ ys,SqL K H1 b ys)/\R (Itz K a b) H1
theorem boot_zip:bootBuiltins "zip"=some (.type "zip"):=by ext
theorem LB {elts:List Expr}{k:Nat}{tpos:Pos}{a b:Expr}{p pos:Pos} (hg:Gl X "zip") (hm:X.mg "zip"=none) (ha:PA X [a,b] ta) (hs:starEach [a,b] X.env=[(false,eval a X.env),(false,eval b X.env)]:=by rfl)
  (hs2:starEach [b] X.env=[(false,eval b X.env)]:=by rfl):PI X (.Tuple elts k tpos) (.Call (.Name "zip" p) [a,b] [] pos) (IG X.K ta):=by
 intro Yp s σ H R I h;refine Call_ (pf I hg hm boot_zip (oh (thn (ha pos Yp s σ H _ I h) fun us s1 ⟨vs,H1,I1,r1,q1⟩=>?_) (by rw[hs,hs2]) (by rw[hs2];rfl)));obtain⟨l1,l2,e,⟨xs,hx⟩,⟨ys,hy⟩,q⟩:=q1;subst e;cases r1 with
 | cons r rr =>
  cases rr with
  | cons r' rr =>
   cases rr
   cases r
   cases r'
   obtain⟨us,_,p1,_⟩:=I1.list hx;obtain⟨vs,_,p2,_⟩:=I1.list hy;have a1:l1<s1.heap.objs.size:=by obtain⟨o,e,_⟩:=p1.isList;exact aG e
   have a2:l2<s1.heap.objs.size:=by obtain⟨o,e,_⟩:=p2.isList;exact aG e
   refine call_zip_2 p1.isList p2.isList fun h' hz hTI hTO hi1 hi2 hsz hk=>wpAny_pyIter_zip (s:={ s1 with heap:=h' }) hz ?_;have I2:Inv X Yp σ H1 { s1 with heap:=h' }:=I1.kept (t':=s1.toks) hk;refine⟨_,[s1.heap.objs.size+4,s1.heap.objs.size+2,s1.heap.objs.size+3,s1.heap.objs.size,s1.heap.objs.size+1],_,_,H1,rfl,I2,Hw l1 l2 _ _ _ _ _ (zipApart_new a1 a2),⟨hz,hTI,⟨_,_,hTO⟩,hi1,hi2⟩,fun c hc=>?_,q⟩;have hle:s1.heap.objs.size<=c:=by simp only[aP,dZ,ef] at hc;rcases hc with rfl | rfl | rfl | rfl | rfl<;>lia
   exact I1.wL hle (I1.hok.fresh hle)
end
theorem La {a b:Addr}{xs ys:List V}{js:Za}{σ:St}{te:TE}{Q:VK} (hx:SqL K H1 a xs) (hy:SqL K H1 b ys) (hl:xs.length<sizeLine) (f:V->V->V)
  (he:∀ x y,(x,y)∈xs.zip ys->∀ H,az H1 H->∀ R:VK,(∀ H',az H H'->R (f x y) H')->te (some x::some y::js.map fun j=>(σ[j]?).join) H R)
  (q:∀ D H,H1 D=none->az H1 H->H D=some (.lst ((xs.zip ys).map fun p=>f p.1 p.2))->Q (.ref D) H):gy (F5 K 2 (sv (gN 0) (sv (gN 1) F2))) Ez te (jE 2 js σ) (Itz K a b) H1 Q:=by
 intro D hD;refine⟨fun i m zs σ1 H=>m=(xs.zip ys).length-i/\i<=(xs.zip ys).length/\(∃ o1 o2,σ1=o1::o2::js.map fun j=>(σ[j]?).join)/\zs=((xs.zip ys).take i).map (fun p=>f p.1 p.2)/\az H1 H/\H D=some (.lst zs),
  ⟨(xs.zip ys).length,by simp,bj _,⟨none,none,rfl⟩,by simp,(az.refl H1).cF hD,aE⟩,?_⟩
 rintro i m zs σ1 H ⟨rfl,hi,⟨o1,o2,rfl⟩,rfl,sH,hL⟩;have hzl:(xs.zip ys).length=min xs.length ys.length:=List.length_zip;have hlen:(((xs.zip ys).take i).map fun p=>f p.1 p.2).length<sizeLine:=by rw[ag,bI];lia
 refine⟨hL,hlen,?_⟩
 by_cases hlt:i<(xs.zip ys).length
 ·have h1:i<xs.length:=by lia
  have h2:i<ys.length:=by lia
  refine .inr ⟨⟨xs,ys,xs[i],ys[i],sH.seq hx,sH.seq hy,by simp [h1],by simp [h2]⟩,fun v H' hyl=>?_⟩;obtain⟨x,y,p,hx',hy',rfl,hp,rfl⟩:=hyl;have ex:=hx' xs (sH.seq hx);have ey:=hy' ys (sH.seq hy);have ez:(xs.zip ys)[i]?=some (x,y):=zip_get ex ey;have hm:(x,y)∈xs.zip ys:=bQ ez;have htk:(xs.zip ys).take (i+1)=(xs.zip ys).take i++[(x,y)]:=by rw[iy,ez];rfl
  have hpD:D≠p:=b9 hL hp;refine⟨p,[x,y],rfl,SqT.of aE,rfl,x,[y],rfl,y,[],rfl,rfl,?_⟩;show te (some x::some y::js.map fun j=>(σ[j]?).join) _ _;have s1:az H1 (upd H p (.tup [x,y])):=sH.cF (sH.free hp);refine he x y hm _ s1 _ fun H4 s4=>?_;refine⟨s4 _ _ (by rw[aJ hpD];exact hL),(xs.zip ys).length-(i+1),by lia,rfl,hlt,⟨_,_,rfl⟩,?_,(s1.trans s4).cF hD,aE⟩;rw[htk,bu];rfl
 ·have e:i=(xs.zip ys).length:=by lia
  subst e;refine .inl ⟨⟨xs,ys,sH.seq hx,sH.seq hy,by lia⟩,q D H hD sH ?_⟩;rw[oa] at hL;exact hL
end
section
section
variable {X:Cx}
noncomputable def nw (H:Hp) (o:HO) (Q:VK):Prop:=∀ p H',H p=none->az H H'->H' p=some o->Q (.ref p) H'
theorem du (hn:H a=none):az H (upd H a o):=fun b u e=>by rw[aJ (b9 e hn)];exact e
theorem nw.go (h:nw H o Q) (p:Addr) (hp:H p=none):Q (.ref p) (upd H p o):=h p _ hp (du hp) aE
noncomputable def Ce:R2:=fun x y H Q=>match x,y with
 | .int i,.int j=>Q (.int (i+j)) H
 | .str a,.str b=>a.length+b.length<=sizeLine/\Q (.str (a++b)) H
 | .ref l,.ref b=>∃ xs zs,H l=some (.lst xs)/\H b=some (.lst zs)/\xs.length+zs.length<=sizeLine/\nw H (.lst (xs++zs)) Q
 | _,_=>False
theorem aH:OpR X (binaryOp .Add) Ce:=by
 intro Yp s σ H x y v u Q I rx ry h;cases x with
 | int i=>cases y with
  | int j=>exact Lk Yp s σ H _ _ v u Q I rx ry ⟨_,_,rfl,rfl,h⟩
  | _=>exact False.elim h
 | str a=>cases y with
  | str b=>exact AH Yp s σ H _ _ v u Q I rx ry ⟨_,_,rfl,rfl,h.1,h.2⟩
  | _=>exact False.elim h
 | ref l=>cases y with
  | ref b =>obtain⟨xs,zs,h1,h2,h3,h4⟩:=h;exact Ll Yp s σ H _ _ v u Q I rx ry ⟨_,_,xs,zs,rfl,rfl,h1,h2,h3,h4.go⟩
  | _=>exact False.elim h
 | _=>exact False.elim h
noncomputable def JV:R2:=fun x y H Q=>match x,y with
 | .int i,.int j=>Q (.int (i-j)) H
 | _,_=>False
theorem gz:OpR X (binaryOp .Sub) JV:=by
 intro Yp s σ H x y v u Q I rx ry h;cases x with
 | int i=>cases y with
  | int j=>exact Lx Yp s σ H _ _ v u Q I rx ry ⟨_,_,rfl,rfl,h⟩
  | _=>exact False.elim h
 | _=>exact False.elim h
noncomputable def JR:R2:=fun x y H Q=>match x,y with
 | .int i,.int j=>HB i j/\Q (.int (i*j)) H
 | .ref l,.int k=>∃ xs,H l=some (.lst xs)/\-(2^63)<=k/\k<2^63/\xs.length*k.toNat<=sizeLine/\nw H (.lst (List.replicate k.toNat xs).flatten) Q
 | _,_=>False
theorem ml:OpR X (binaryOp .Mult) JR:=by
 intro Yp s σ H x y v u Q I rx ry h;cases x with
 | int i=>cases y with
  | int j=>exact IV Yp s σ H _ _ v u Q I rx ry ⟨_,_,rfl,rfl,h.1,h.2⟩
  | _=>exact False.elim h
 | ref l=>cases y with
  | int k =>obtain⟨xs,h1,h2,h3,h4,h5⟩:=h;exact Lw Yp s σ H _ _ v u Q I rx ry ⟨_,_,xs,rfl,rfl,h1,h2,h3,h4,h5.go⟩
  | _=>exact False.elim h
 | _=>exact False.elim h
noncomputable def GJ:R2:=fun x y H Q=>match x,y with
 | .int i,.int j=>(0<j/\j<2^1000)/\Q (.int (i/j)) H
 | _,_=>False
theorem cG:OpR X (binaryOp .FloorDiv) GJ:=by
 intro Yp s σ H x y v u Q I rx ry h;cases x with
 | int i=>cases y with
  | int j=>exact Gm Yp s σ H _ _ v u Q I rx ry ⟨_,_,rfl,rfl,h.1,h.2⟩
  | _=>exact False.elim h
 | _=>exact False.elim h
noncomputable def JP:R2:=fun x y H Q=>match x,y with
 | .int i,.int j=>0<j/\Q (.int (i%j)) H
 | _,_=>False
theorem cx:OpR X (binaryOp .Mod) JP:=by
 intro Yp s σ H x y v u Q I rx ry h;cases x with
 | int i=>cases y with
  | int j=>exact Lr Yp s σ H _ _ v u Q I rx ry ⟨_,_,rfl,rfl,h.1,h.2⟩
  | _=>exact False.elim h
 | _=>exact False.elim h
noncomputable def JS:R2:=fun x y H Q=>match x,y with
 | .int i,.int j=>(0<=j/\j<=1000000/\i.natAbs<2^64)/\Q (.int (i^j.toNat)) H
 | _,_=>False
theorem oG:OpR X (binaryOp .Pow) JS:=by
 intro Yp s σ H x y v u Q I rx ry h;cases x with
 | int i=>cases y with
  | int j=>exact Lv Yp s σ H _ _ v u Q I rx ry ⟨_,_,rfl,rfl,h.1,h.2⟩
  | _=>exact False.elim h
 | _=>exact False.elim h
noncomputable def wb (f:Int->Int->Bool):R2:=fun x y H Q=>match x,y with
 | .int i,.int j=>Q (.bl (f i j)) H
 | _,_=>False
theorem tK {op:CmpOp}{f:Int->Int->Bool} (h0:OpR X (compareOp op) (rI0 fun i j=>.bl (f i j))):OpR X (compareOp op) (wb f):=by
 intro Yp s σ H x y v u Q I rx ry h;cases x with
 | int i=>cases y with
  | int j=>exact h0 Yp s σ H _ _ v u Q I rx ry ⟨_,_,rfl,rfl,h⟩
  | _=>exact False.elim h
 | _=>exact False.elim h
noncomputable abbrev N4:R2:=wb fun i j=>decide (i<j)
noncomputable abbrev N3:R2:=wb fun i j=>decide (i<=j)
noncomputable abbrev Nx:R2:=wb fun i j=>decide (j<i)
noncomputable abbrev Nw:R2:=wb fun i j=>decide (j<=i)
theorem xq:OpR X (compareOp .Lt) N4:=tK M3
theorem jo:OpR X (compareOp .LtE) N3:=tK M0
theorem p9:OpR X (compareOp .Gt) Nx:=tK Mz
theorem Gn:OpR X (compareOp .GtE) Nw:=tK My
noncomputable def Ek (K:Zf):R2:=fun x y H Q=>match x,y with
 | .int i,.int j=>Q (.bl (decide (i=j))) H
 | .bl i,.bl j=>Q (.bl (decide (i=j))) H
 | .str i,.str j=>Q (.bl (decide (i=j))) H
 | .ref a,.ref b=>∃ xs ys,SqL K H a xs/\SqL K H b ys/\xs.all eL=true/\ys.all eL=true/\Q (.bl (mR xs ys)) H
 | _,_=>False
noncomputable def GQ (K:Zf):R2:=fun x y H Q=>match x,y with
 | .int i,.int j=>Q (.bl (!decide (i=j))) H
 | .bl i,.bl j=>Q (.bl (!decide (i=j))) H
 | .str i,.str j=>Q (.bl (!decide (i=j))) H
 | .ref a,.ref b=>∃ xs ys,SqL K H a xs/\SqL K H b ys/\xs.all eL=true/\ys.all eL=true/\Q (.bl (!mR xs ys)) H
 | _,_=>False
theorem yb (i j:Int):decide (V.int i=V.int j)=decide (i=j):=by
 by_cases e:i=j
 ·subst e;simp
 ·rw[av e];exact av fun h=>e (V.int.inj h)
theorem BB (i j:Bool):decide (V.bl i=V.bl j)=decide (i=j):=by
 by_cases e:i=j
 ·subst e;simp
 ·rw[av e];exact av fun h=>e (V.bl.inj h)
theorem yc (i j:Str):decide (V.str i=V.str j)=decide (i=j):=by
 by_cases e:i=j
 ·subst e;simp
 ·rw[av e];exact av fun h=>e (V.str.inj h)
theorem Lo (hu:X.A.units<cLine):OpR X (compareOp .Eq) (Ek X.K):=by
 intro Yp s σ H x y v u Q I rx ry h;cases x with
 | int i=>cases y with
  | int j=>exact Gk Yp s σ H _ _ v u Q I rx ry ⟨rfl,by rw[yb];exact h⟩
  | _=>exact False.elim h
 | bl i=>cases y with
  | bl j=>exact Gk Yp s σ H _ _ v u Q I rx ry ⟨rfl,by rw[BB];exact h⟩
  | _=>exact False.elim h
 | str i=>cases y with
  | str j=>exact Gk Yp s σ H _ _ v u Q I rx ry ⟨rfl,by rw[yc];exact h⟩
  | _=>exact False.elim h
 | ref a=>cases y with
  | ref b =>obtain⟨xs,ys,h1,h2,h3,h4,h5⟩:=h;exact Lm hu Yp s σ H _ _ v u Q I rx ry ⟨_,_,xs,ys,rfl,rfl,h1,h2,h3,h4,h5⟩
  | _=>exact False.elim h
 | _=>exact False.elim h
theorem Lu (hu:X.A.units<cLine):OpR X (compareOp .NotEq) (GQ X.K):=by
 intro Yp s σ H x y v u Q I rx ry h;cases x with
 | int i=>cases y with
  | int j=>exact Gr Yp s σ H _ _ v u Q I rx ry ⟨rfl,by rw[yb];exact h⟩
  | _=>exact False.elim h
 | bl i=>cases y with
  | bl j=>exact Gr Yp s σ H _ _ v u Q I rx ry ⟨rfl,by rw[BB];exact h⟩
  | _=>exact False.elim h
 | str i=>cases y with
  | str j=>exact Gr Yp s σ H _ _ v u Q I rx ry ⟨rfl,by rw[yc];exact h⟩
  | _=>exact False.elim h
 | ref a=>cases y with
  | ref b =>obtain⟨xs,ys,h1,h2,h3,h4,h5⟩:=h;exact Ls hu Yp s σ H _ _ v u Q I rx ry ⟨_,_,xs,ys,rfl,rfl,h1,h2,h3,h4,h5⟩
  | _=>exact False.elim h
 | _=>exact False.elim h
noncomputable def isV:V->V->Option Bool
 | .non,.non=>some true
 | .bl _,.non=>some false
 | .int _,.non=>some false
 | .str _,.non=>some false
 | .ref _,.non=>some false
 | .bl a,.bl b=>some (a==b)
 | _,_=>none
noncomputable def El (neg:Bool):R2:=fun x y H Q=>match isV x y with
 | some b=>Q (.bl (b != neg)) H
 | none=>False
theorem Gp:OpR X (compareOp .Is) (El false):=by
 intro Yp s σ H x y v u Q I rx ry h;cases x<;>cases y<;>first
  | exact False.elim h
  | exact Lq Yp s σ H _ _ v u Q I rx ry ⟨rfl,h⟩
  | exact Gq Yp s σ H _ _ v u Q I rx ry ⟨_,_,rfl,rfl,by simpa [El,isV] using h⟩
theorem rR:OpR X (compareOp .IsNot) (El true):=by
 intro Yp s σ H x y v u Q I rx ry h;cases x<;>cases y<;>first
  | exact False.elim h
  | exact IW Yp s σ H _ _ v u Q I rx ry ⟨rfl,h⟩
  | exact yP Yp s σ H _ _ v u Q I rx ry ⟨_,_,rfl,rfl,by simpa [El,isV,bne] using h⟩
noncomputable def Sq (K:Zf) (H:Hp) (a:Addr) (xs:List V):Prop:=SqL K H a xs∨SqT K H a xs
theorem Sq.l (h:H a=some (.lst xs)):Sq K H a xs:=.inl (.of h)
theorem Sq.t (h:H a=some (.tup xs)):Sq K H a xs:=.inr (.of h)
noncomputable def Jn (K:Zf):R2:=fun x y H Q=>match x,y with
 | .ref p,.int i=>∃ xs v,Sq K H p xs/\atI xs i=some v/\Q v H
 | .str z,.int i=>z.length<=sizeLine/\∃ c,atI z.cps.toList i=some c/\Q (.str ⟨#[c]⟩) H
 | _,_=>False
theorem Np:IxR X (Jn X.K):=by
 intro value slice Yp s σ H x y v u Q I rx ry h hs;cases x with
 | ref p=>cases y with
  | int i =>
   obtain⟨xs,w',h1 | h1,h2,h3⟩:=h
   ·exact IH value slice Yp s σ H _ _ v u Q I rx ry ⟨_,xs,_,w',rfl,rfl,h1,h2,h3⟩ hs
   ·exact KP value slice Yp s σ H _ _ v u Q I rx ry ⟨_,xs,_,w',rfl,rfl,h1,h2,h3⟩ hs
  | _=>exact False.elim h
 | str z=>cases y with
  | int i =>obtain⟨h1,c,h2,h3⟩:=h;exact KO value slice Yp s σ H _ _ v u Q I rx ry ⟨z,i,c,rfl,rfl,h1,h2,h3⟩ hs
  | _=>exact False.elim h
 | _=>exact False.elim h
noncomputable def Cj (K:Zf):List V->Hp->VK->Prop:=fun vs H Q=>match vs with
 | [.str z]=>z.length<=sizeLine/\Q (.int z.length) H
 | [.ref p]=>∃ xs,Sq K H p xs/\Q (.int xs.length) H
 | _=>False
theorem CS:dr X (.builtin "len") (Cj X.K):=by
 intro Yp s σ H xs us Q I r h
 match xs,h with
 | [.str z],h=>exact wF Yp s σ H _ us Q I r ⟨z,rfl,h.1,h.2⟩
 | [.ref p],h =>obtain⟨ys,h1,h2⟩:=h;exact wD Yp s σ H _ us Q I r ⟨p,ys,rfl,h1,h2⟩
noncomputable def JM:List V->Hp->VK->Prop:=fun vs H Q=>match vs with
 | [.int i]=>Q (.int (i.natAbs:Int)) H
 | _=>False
theorem rB:dr X (.builtin "abs") JM:=by
 intro Yp s σ H xs us Q I r h;rcases xs with _ | ⟨x0,t⟩
 ·exact h.elim
 cases x0<;>try exact h.elim
 cases t<;>try exact h.elim
 next i =>
  refine EY Yp s σ H _ us Q I r ⟨i,rfl,?_⟩;have e:(if i<0 then -i else i)=((i.natAbs:Nat):Int):=by split<;>lia
  rw[e];exact h
noncomputable def JO:List V->Hp->VK->Prop:=fun vs H Q=>match vs with
 | [.int i,.int j]=>Q (.int (min i j)) H
 | _=>False
theorem CU (hc:X.calm=true):dr X (.builtin "min") JO:=by
 intro Yp s σ H xs us Q I r h;rcases xs with _ | ⟨x0,t⟩
 ·exact h.elim
 cases x0<;>try exact h.elim
 rcases t with _ | ⟨x1,t⟩
 ·exact h.elim
 cases x1<;>try exact h.elim
 cases t<;>try exact h.elim
 next i j =>
  refine CT hc Yp s σ H _ us Q I r ⟨i,j,rfl,?_⟩;have e:(if j<i then j else i)=min i j:=by rw[Int.min_def];split<;>split<;>lia
  rw[e];exact h
noncomputable def AQ (K:Zf):List V->Hp->VK->Prop:=fun vs H Q=>match vs with
 | [.ref a]=>∃ ys,(Sq K H a ys∨∃ lo hi,H a=some (.rng lo hi)/\(-(2^62)<=lo/\lo<2^62/\-(2^62)<=hi/\hi<2^62)/\(hi-lo).toNat<=2^20/\ys=xD lo (hi-lo).toNat)/\nw H (.lst ys) Q
 | _=>False
theorem zK (hc:X.calm=true):dr X (.type "list") (AQ X.K):=by
 intro Yp s σ H xs us Q I r h;rcases xs with _ | ⟨x0,t⟩
 ·exact h.elim
 cases x0<;>try exact h.elim
 cases t<;>try exact h.elim
 next a =>
  obtain⟨ys,h1 | ⟨lo,hi,h1,h2,h3,rfl⟩,h4⟩:=h
  ·exact wH Yp s σ H _ us Q I r ⟨a,ys,rfl,h1,h4.go⟩
  ·exact wG hc Yp s σ H _ us Q I r ⟨a,lo,hi,rfl,h1,h2,h3,h4.go⟩
noncomputable def JT:List V->Hp->VK->Prop:=fun vs H Q=>match vs with
 | [.int j]=>nw H (.rng 0 j) Q
 | _=>False
theorem CW:dr X (.type "range") JT:=by
 intro Yp s σ H xs us Q I r h;rcases xs with _ | ⟨x0,t⟩
 ·exact h.elim
 cases x0<;>try exact h.elim
 cases t<;>try exact h.elim
 next j=>exact CV Yp s σ H _ us Q I r ⟨j,rfl,nw.go h⟩
theorem bt_isinstance:bootBuiltins "isinstance"=some (.builtin "isinstance"):=by ext
theorem zH:bootBuiltins "abs"=some (.builtin "abs"):=by ext
theorem bH:bootBuiltins "len"=some (.builtin "len"):=by ext
theorem oY:bootBuiltins "all"=some (.builtin "all"):=by ext
theorem EW:bootBuiltins "sum"=some (.builtin "sum"):=by ext
theorem K5:bootBuiltins "min"=some (.builtin "min"):=by ext
theorem lg:bootBuiltins "sorted"=some (.builtin "sorted"):=by ext
theorem EV:bootBuiltins "range"=some (.type "range"):=by ext
theorem km:bootBuiltins "list"=some (.type "list"):=by ext
theorem EX:bootBuiltins "tuple"=some (.type "tuple"):=by ext
theorem K4:bootBuiltins "int"=some (.type "int"):=by ext
theorem tR:bootBuiltins "str"=some (.type "str"):=by ext
theorem Ij:bootBuiltins "bool"=some (.type "bool"):=by ext
theorem zI:bootBuiltins "set"=some (.type "set"):=by ext
theorem wC:bootBuiltins "enumerate"=some (.type "enumerate"):=by ext
theorem M7 (hg:Gl X x) (hm:X.mg x=none) (hv:bootBuiltins x=some (.type T)) (hn:x≠"__name__":=by decide) (hd:(x==("__debug__":Str))=false:=by decide):PE X (.Name x pos) (tC (.ty T)) :=
 IZ hg hm hv rfl hn hd
structure Fnc (P:Zh) (w:Zi) (K:Zf) (mg:Zk) (base:Heap) (CX:CXT) (k:Nat) (x:Str) (ps:Ze) (sp:Sp):Prop where
 ex:∃ (f:Addr) (fd:FuncData),bU P w K mg base CX k f fd ps sp/\mg x=some (.ref f)/\PySem.W.keepIn K (.ref f)=true/\Binds K fd ps []
theorem Gv {E:St->XK}{k:Nat}{t:TA}{p pos:Pos} (C:Fnc X.prog X.w X.K X.mg X.base CX k x ps sp) (hx:Passes CX X E) (hr:fD k X.A) (hg:Gl X x) (ha:PA X (e::es) t)
  (hd:(x==("__debug__":Str))=false:=by decide)
  (he:starEach (e::es) X.env=(false,eval e X.env)::starEach es X.env:=by rfl) (hpl:(backTo pos (starEach es X.env)).any (·.1)=false:=by rfl):PE X (.Call (.Name x p) (e::es) [] pos) (Cs sp [] E t):=by
 obtain⟨f,fd,F,hm,hk,hb⟩:=C.ex;exact Ja F hr hg hm hk hb .nil hx ha hd he hpl
end
noncomputable def jD (g:TG) (tb:TS) (D:Ends) (J:It) (σ:St) (H:Hp):Prop:=∃ W:Nat->Nat->St->Hp->Prop,(∃ m,W 0 m σ H)/\∀ i m σ H,W i m σ H →
 (J.stop i H/\D.nx σ H)∨(J.go i H/\∃ N:St->Hp->Prop,(∀ σ' H',N σ' H'->∃ m',m'<m/\W (i+1) m' σ' H')/\∀ x H',J.yld i H x H'->g x σ H' fun σ2 H2=>tb { D with nx:=N,ct:=N,bk:=D.nx } σ2 H2)
theorem BN {lo:Int}{n:Nat}{g:TG}{tb:TS}{D:Ends} (Pv:Nat->St->Hp->Prop) (h0:Pv 0 σ H)
  (hs:∀ i σ H,i<n->Pv i σ H->g (.int (lo+i)) σ H fun σ2 H2=>tb { D with nx:=Pv (i+1),ct:=Pv (i+1),bk:=D.nx } σ2 H2) (hd:∀ σ H,Pv n σ H->D.nx σ H):jD g tb D (Itr lo n) σ H:=DC Pv h0 hs hd
theorem tF {g:TG}{tb:TS}{D:Ends} (Pv:Nat->St->Hp->Prop) (h0:Pv 0 σ H) (hl:∀ i σ H,i<=xs.length->Pv i σ H->SqL K H a xs)
  (hs:∀ i x σ H,xs[i]?=some x->Pv i σ H->g x σ H fun σ2 H2=>tb { D with nx:=Pv (i+1),ct:=Pv (i+1),bk:=D.nx } σ2 H2) (hd:∀ σ H,Pv xs.length σ H->D.nx σ H):jD g tb D (Itl K a) σ H:=Fy Pv h0 hl hs hd
noncomputable def Kf (t:TA):TE:=fun σ H Q=>t σ H fun xs H1=>xs.length<=sizeLine/\nw H1 (.lst xs) Q
noncomputable def Kj (t:TA):TE:=fun σ H Q=>t σ H fun xs H1=>xs.length<=sizeLine/\nw H1 (.tup xs) Q
noncomputable def Ho:TE:=fun _ H Q=>nw H (.dK []) Q
theorem cy {t:TA} (h:PA X es t):PE X (.List es pos) (Kf t):=by intro Yp s σ H Q I hq;refine wpAny_List_spliced (thn (h pos Yp s σ H _ I hq) fun us s1 ⟨xs,H1,I1,r,z,q⟩=>⟨by rw[←r.length];exact z,?_⟩);have hf:H1 s1.heap.objs.size=none:=I1.hok.fresh (ar _);refine⟨.ref s1.heap.objs.size,upd H1 s1.heap.objs.size (.lst xs),I1.laid (t':=s1.toks) (fun b u e=>aD _ e) (ar _) ?_,rfl,nw.go q _ hf⟩;exact⟨z,us,0,r,bt _ rfl⟩
theorem fH {t:TA}{x1} (h:PA X es t):PE X (.Tuple es x1 pos) (Kj t):=by intro Yp s σ H Q I hq;refine wpAny_Tuple_spliced (thn (h pos Yp s σ H _ I hq) fun us s1 ⟨xs,H1,I1,r,z,q⟩=>⟨by rw[←r.length];exact z,?_⟩);have hf:H1 s1.heap.objs.size=none:=I1.hok.fresh (ar _);refine⟨.ref s1.heap.objs.size,upd H1 s1.heap.objs.size (.tup xs),I1.laid (t':=s1.toks) (fun b u e=>aD _ e) (ar _) ?_,rfl,nw.go q _ hf⟩;exact⟨z,us,r,⟨_,bt _ rfl,rfl,_,rfl⟩⟩
theorem yQ :PE X (.Dict [] [] pos) Ho:=fun Yp s σ H Q I h=>Gy Yp s σ H Q I (nw.go h)
section
variable {σ:St}{H:Hp}{Q:VK}{D:Ends}
theorem dR {t u:TS}:Ht t u D σ H=t { D with nx:=u D } σ H:=propext Iff.rfl
theorem Kq {te:TE}{g:TG}:Ey te g D σ H=te σ H fun x H1=>g x σ H1 D.nx:=propext Iff.rfl
theorem EK {i:Nat}{v:V}{R:St->Hp->Prop}:gN i v σ H R=R (σ.set i (some v)) H:=propext Iff.rfl
theorem K2 {i:Nat}:xQ i σ H Q=∃ v,σ[i]?=some (some v)/\Q v H:=propext Iff.rfl
theorem Nm {v:V}:tC v σ H Q=Q v H:=propext Iff.rfl
theorem Mf {r:R2}{ta tb:TE}:tOp r ta tb σ H Q=ta σ H fun x H1=>tb σ H1 fun y H2=>r x y H2 Q:=propext Iff.rfl
theorem Mi {r:V->Hp->VK->Prop}{ta:TE}:tUn r ta σ H Q=ta σ H fun x H1=>r x H1 Q:=propext Iff.rfl
theorem Mb {r:List V->Hp->VK->Prop}{t:TA}:tCB r t σ H Q=t σ H fun vs H1=>r vs H1 Q:=propext Iff.rfl
theorem HJ {ta:TE}{tr:TA}{R:List V->Hp->Prop}:wo ta tr σ H R=ta σ H fun x H1=>tr σ H1 fun xs H2=>R (x::xs) H2:=propext Iff.rfl
theorem Kv {R:List V->Hp->Prop}:Bk σ H R=R [] H:=propext Iff.rfl
theorem HI {sp:Sp}{E:St->XK}{t:TA}:Cs sp [] E t σ H Q=t σ H fun vs H1=>sp vs H1 Q (E σ):=by show (t σ H fun vs H1=>sp (vs++[]) H1 Q (E σ))=_;simp only[fR]
theorem Kz {te:TE}:LR te D σ H=te σ H D.rt:=propext Iff.rfl
theorem Md {c:TT}{t u:TS}:LQ c t u D σ H=c σ H fun b H1=>if b=true then t D σ H1 else u D σ H1:=propext Iff.rfl
theorem HY:Hs D σ H=D.nx σ H:=propext Iff.rfl
theorem HN {te:TE}:Kc te D σ H=te σ H fun _ H1=>D.nx σ H1:=propext Iff.rfl
theorem Ie {t:TE}{R:Bool->Hp->Prop}:zw t σ H R=t σ H fun x H'=>∃ k,x=.bl k/\R k H':=propext Iff.rfl
theorem Nl {t:TE}{R:Bool->Hp->Prop}:tB t σ H R=t σ H fun x H'=>∃ k,x=.bl k/\R k H':=propext Iff.rfl
theorem Kw {t:TT}{R:Bool->Hp->Prop}:MM t σ H R=t σ H fun c H1=>R (!c) H1:=propext Iff.rfl
theorem Kp {t u:TT}{R:Bool->Hp->Prop}:MJ t u σ H R=t σ H fun c H1=>if c=true then u σ H1 R else R false H1:=propext Iff.rfl
theorem Mg {t u:TT}{R:Bool->Hp->Prop}:tOr t u σ H R=t σ H fun c H1=>if c=true then R true H1 else u σ H1 R:=propext Iff.rfl
theorem HH {ta tb:TE}:Ka ta tb σ H Q=ta σ H fun x H1=>∃ c,x=.bl c/\if c=true then tb σ H1 Q else Q (.bl false) H1:=propext Iff.rfl
theorem Kx {ta tb:TE}:MN ta tb σ H Q=ta σ H fun x H1=>∃ c,x=.bl c/\if c=true then Q (.bl true) H1 else tb σ H1 Q:=propext Iff.rfl
theorem HZ {ta:TE}:Kh ta σ H Q=ta σ H fun x H1=>∃ c,x=.bl c/\Q (.bl (!c)) H1:=propext Iff.rfl
theorem Kt {t:TT}{ta tb:TE}:tIf t ta tb σ H Q=t σ H fun c H1=>if c=true then ta σ H1 Q else tb σ H1 Q:=propext Iff.rfl
theorem Ku {t:TA}:Kf t σ H Q=t σ H fun xs H1=>xs.length<=sizeLine/\nw H1 (.lst xs) Q:=propext Iff.rfl
theorem K1 {t:TA}:Kj t σ H Q=t σ H fun xs H1=>xs.length<=sizeLine/\nw H1 (.tup xs) Q:=propext Iff.rfl
theorem HL:Ho σ H Q=nw H (.dK []) Q:=propext Iff.rfl
theorem Me {k:Nat}{js:Za}{wi:TI}{g:TG}{tc:TT}{te:TE}:tLC k js wi g tc te σ H Q=wi σ H fun J H1=>gy g tc te (jE k js σ) J H1 Q:=propext Iff.rfl
theorem Mh {r:V->Option Int->Option Int->Hp->VK->Prop}{te:TE}{tl th:TO}:tSl r te tl th σ H Q=te σ H fun x H1=>tl σ H1 fun l H2=>th σ H2 fun u H3=>r x l u H3 Q:=propext Iff.rfl
theorem CF {R:Option Int->Hp->Prop}:Cu σ H R=R none H:=propext Iff.rfl
theorem Ia {t:TE}{R:Option Int->Hp->Prop}:Ki t σ H R=t σ H fun x H1=>∃ i,x=.int i/\R (some i) H1:=propext Iff.rfl
theorem EM {ta:TA}{R:It->Hp->Prop}:FH ta σ H R=ta σ H fun vs H1=>∃ j:Int,vs=[.int j]/\-(2^62)<=j/\j<2^62/\R (Itr 0 j.toNat) H1:=propext Iff.rfl
theorem EN {ta:TA}{R:It->Hp->Prop}:FI ta σ H R=ta σ H fun vs H1=>∃ i j:Int,vs=[.int i,.int j]/\(-(2^62)<=i/\i<2^62/\-(2^62)<=j/\j<2^62)/\R (Itr i (j-i).toNat) H1:=propext Iff.rfl
theorem HU {K:Zf}{ta:TA}{R:It->Hp->Prop}:IG K ta σ H R=ta σ H fun vs H1=>∃ a b,vs=[.ref a,.ref b]/\(∃ xs,SqL K H1 a xs)/\(∃ ys,SqL K H1 b ys)/\R (Itz K a b) H1:=propext Iff.rfl
theorem Ks {wi:TI}{g:TG}{tb:TS}:MK wi g tb D σ H=wi σ H fun J H1=>jD g tb D J σ H1:=propext Iff.rfl
theorem Ky {i j:Nat}{ta:TA}:MO i j ta D σ H=ta σ H fun vs H1=>∃ v w,vs=[v,w]/\D.nx ((σ.set i (some v)).set j (some w)) H1:=propext Iff.rfl
theorem HR {to ti:TE}{t:HF}{v:V}{R:St->Hp->Prop}:Mq to ti t v σ H R=to σ H fun o H1=>ti σ H1 fun i H2=>t o i v H2 fun H3=>R σ H3:=propext Iff.rfl
theorem Ma {K:Zf}{T:String}{r:V->List V->Hp->VK->Prop}{to:TE}{t:TA}:tBM K T r to t σ H Q=to σ H fun x H1=>tyV K T x H1/\t σ H1 fun xs H2=>r x xs H2 Q:=propext Iff.rfl
theorem EG {r r':R2}{ta tb tc:TE}:Bi r r' ta tb tc σ H Q=ta σ H fun x H1=>tb σ H1 fun y H2=>r x y H2 fun z H3=>∃ k,z=.bl k/\if k=true then tc σ H3 fun v H4=>r' y v H4 Q else Q (.bl false) H3:=propext Iff.rfl
theorem JI {b:Bool}{P:Bool->Prop}:(∃ k,V.bl b=V.bl k/\P k)=P b:=propext ⟨fun ⟨k,e,h⟩=>by cases e;exact h,fun h=>⟨b,rfl,h⟩⟩
theorem Fs {b:Int}{P:Int->Prop}:(∃ k,V.int b=V.int k/\P k)=P b:=propext ⟨fun ⟨k,e,h⟩=>by cases e;exact h,fun h=>⟨b,rfl,h⟩⟩
theorem Ft {b:Addr}{P:Addr->Prop}:(∃ k,V.ref b=V.ref k/\P k)=P b:=propext ⟨fun ⟨k,e,h⟩=>by cases e;exact h,fun h=>⟨b,rfl,h⟩⟩
theorem Iv {b:Int}{P:Int->Prop}:(∃ k,[V.int b]=[V.int k]/\P k)=P b:=propext ⟨fun ⟨k,e,h⟩=>by cases e;exact h,fun h=>⟨b,rfl,h⟩⟩
theorem Iw {b c:Int}{P:Int->Int->Prop}:(∃ k l,[V.int b,V.int c]=[V.int k,V.int l]/\P k l)=P b c:=propext ⟨fun ⟨k,l,e,h⟩=>by cases e;exact h,fun h=>⟨b,c,rfl,h⟩⟩
theorem Iy {b c:Addr}{P:Addr->Addr->Prop}:(∃ k l,[V.ref b,V.ref c]=[V.ref k,V.ref l]/\P k l)=P b c:=propext ⟨fun ⟨k,l,e,h⟩=>by cases e;exact h,fun h=>⟨b,c,rfl,h⟩⟩
theorem KC {b c:V}{P:V->V->Prop}:(∃ k l,[b,c]=[k,l]/\P k l)=P b c:=propext ⟨fun ⟨k,l,e,h⟩=>by cases e;exact h,fun h=>⟨b,c,rfl,h⟩⟩
theorem Iz {v:V}{P:V->Prop}:(∃ k,some (some v)=some (some k)/\P k)=P v:=propext ⟨fun ⟨k,e,h⟩=>by cases e;exact h,fun h=>⟨v,rfl,h⟩⟩
theorem Hj {N:Ze}{vs:List V}:start N vs=vs.map some++List.replicate (N.length-vs.length) none:=rfl
end
inductive Tg where
 | non | bl | int | str | lst | tup | dct
 deriving DecidableEq
noncomputable def Tg.name:Tg->String
 | .non=>"NoneType" | .bl=>"bool" | .int=>"int" | .str=>"str" | .lst=>"list" | .tup=>"tuple" | .dct=>"dict"
noncomputable def Tg.sub:Tg->Tg->Bool
 | .non,.non=>true | .bl,.bl=>true | .int,.int=>true | .str,.str=>true | .lst,.lst=>true | .tup,.tup=>true | .dct,.dct=>true
 | .bl,.int=>true
 | _,_=>false
noncomputable def lG:Option HO->Option Tg
 | some (.lst _)=>some .lst | some (.frz _ (.lst _))=>some .lst | some (.tup _)=>some .tup | some (.dK _)=>some .dct | some (.dT _)=>some .dct
 | _=>none
noncomputable def fj (H:Hp):V->Option Tg
 | .non=>some .non | .bl _=>some .bl | .int _=>some .int | .str _=>some .str | .ref a=>lG (H a)
 | _=>none
theorem FR (K:Zf):∀ t c:Tg,c≠.non->PySem.W.kitOne K (.type t.name) (.type c.name)=some (t.sub c):=by
 intro t c h;cases t<;>cases c<;>first
  | exact absurd rfl h
  | rfl
  | ext
  | nofun
theorem LS {x:V}{t:Tg} (h:fj H x=some t):oW K H x (.type t.name):=by
 cases x with
 | non=>cases h;exact .non
 | bl b=>cases h;exact .bl b
 | int i=>cases h;exact .int i
 | str z=>cases h;exact .str z
 | ref a =>
  have h':lG (H a)=some t:=h;cases e:H a with
  | none=>rw[e] at h';cases h'
  | some o =>
   rw[e] at h';cases o with
   | lst xs=>cases h';exact .lst e
   | tup xs=>cases h';exact .tup e
   | dK kvs=>cases h';exact .dK e
   | dT kvs=>cases h';exact .dT e
   | frz ob u=>cases u with
    | lst xs=>cases h';exact .frz e
    | _=>cases h'
   | _=>cases h'
 | _=>cases h
noncomputable def JN (c:Tg):List V->Hp->VK->Prop:=fun vs H Q=>match vs with
 | [x,.ty n]=>n=c.name/\∃ t,fj H x=some t/\Q (.bl (t.sub c)) H
 | _=>False
theorem fz (c:Tg) (hc:c≠.non:=by decide):dr X (.builtin "isinstance") (JN c):=by
 intro Yp s σ H xs us Q I r h;rcases xs with _ | ⟨x,t⟩
 ·exact h.elim
 rcases t with _ | ⟨x1,t⟩
 ·exact h.elim
 cases x1<;>try exact h.elim
 cases t<;>try exact h.elim
 next n =>obtain⟨rfl,t,ht,q⟩:=h;exact EZ Yp s σ H _ us Q I r ⟨x,_,_,_,rfl,LS ht,FR X.K t c hc,q⟩
theorem xS {c:TT}{tb:TS}{D:Ends} (Pv:St->Hp->Prop) (μ:St->Hp->Nat) (h0:Pv σ H)
  (hs:∀ σ H,Pv σ H->c σ H fun b H1=>if b=true then ∃ N:St->Hp->Prop,(∀ σ' H',N σ' H'->Pv σ' H'/\μ σ' H'<μ σ H)/\tb { D with nx:=N,ct:=N,bk:=D.nx } σ H1 else D.nx σ H1):Hu c tb D σ H :=
 ⟨fun m σ H=>m=μ σ H/\Pv σ H,⟨_,rfl,h0⟩,fun m σ H ⟨e,p⟩=>by
  subst e;have q:=hs σ H p;have e:(fun (b:Bool) (H1:Hp)=>if b=true then ∃ N:St->Hp->Prop,(∀ σ' H',N σ' H'->Pv σ' H'/\μ σ' H'<μ σ H)/\tb { D with nx:=N,ct:=N,bk:=D.nx } σ H1 else D.nx σ H1) =
    fun (b:Bool) (H1:Hp)=>if b=true then ∃ N:St->Hp->Prop,(∀ σ' H',N σ' H'->∃ m',m'<μ σ H/\m'=μ σ' H'/\Pv σ' H')/\tb { D with nx:=N,ct:=N,bk:=D.nx } σ H1 else D.nx σ H1:=by
   funext b H1
   cases b with
   | false=>rfl
   | true =>simp only[i4];refine propext ⟨fun ⟨N,h1,h2⟩=>⟨N,fun σ' H' n=>⟨_,(h1 σ' H' n).2,rfl,(h1 σ' H' n).1⟩,h2⟩,fun ⟨N,h1,h2⟩=>⟨N,fun σ' H' n=>?_,h2⟩⟩;obtain⟨m',h3,h4,h5⟩:=h1 σ' H' n;exact⟨h5,by rw[←h4];exact h3⟩
  rw[e] at q;exact q⟩
theorem fA (xs:List V) (k:Nat):mQ xs (some (k:Int)) none=xs.drop k:=by
 unfold mQ;rw[HT.oM,HT.qE];rw[fq (by rw[cf];lia)]
 by_cases h:k<=xs.length
 ·rw[iz h]
 ·rw[Nat.min_eq_right (by lia),nL (ar _),nL (by lia)]
theorem zO (xs:List V):mQ xs none (some (-1))=xs.take (xs.length-1):=by
 unfold mQ;have e:HT.sIx xs.length xs.length (some (-1))=xs.length-1:=by show (if (-1:Int)<0 then ((-1:Int)+(xs.length:Int)).toNat else min (-1:Int).toNat xs.length)=_;rw[ah (by decide)];lia
 rw[e,HT.qE,Nat.sub_zero,List.drop_zero]
theorem we (n:Nat):xD 0 n=(Mk.ofN n).map V.int:=by unfold xD Mk.ofN;rw[aI];refine iu fun k _=>?_;show V.int (0+(k:Int))=V.int (k:Int);rw[jU]
theorem tL (n:Nat):(Itr 0 n).Seq H1 ((Mk.ofN n).map V.int):=by rw[←we];exact Er
noncomputable def pI (f:Int->Bool):V->Bool
 | .int i=>f i
 | _=>false
theorem DB (f:Int->Bool) (xs:Zb):(xs.map V.int).filter (pI f)=(xs.filter f).map V.int:=by rw[nR];rfl
theorem FY {x:V}{xs:Zb} (h:x∈xs.map V.int):∃ i,x=.int i/\i∈xs:=by obtain⟨i,hi,rfl⟩:=aM.mp h;exact⟨i,rfl,hi⟩
theorem aq {n:Nat} (h:n<=100000):n<sizeLine:=cV h Zd
section
variable {X:Cx}{K:Zf}
theorem cL (hK:X.K=K) (hu:X.A.units<cLine):OpR X (compareOp .Eq) (Ek K):=hK ▸ Lo hu
theorem gC (hK:X.K=K) (hu:X.A.units<cLine):OpR X (compareOp .NotEq) (GQ K):=hK ▸ Lu hu
theorem cT (hK:X.K=K):IxR X (Jn K):=hK ▸ Np
theorem aL (hK:X.K=K):dr X (.builtin "len") (Cj K):=hK ▸ CS
theorem i8 (hK:X.K=K) (hc:X.calm=true):dr X (.builtin "all") (MA K):=hK ▸ CO hc
theorem vE (hK:X.K=K) (hc:X.calm=true):dr X (.builtin "sum") (MG K):=hK ▸ Dd hc
theorem i9 (hK:X.K=K) (hc:X.calm=true):dr X (.type "list") (AQ K):=hK ▸ zK hc
theorem Ji {elts:List Expr}{k:Nat}{tpos:Pos}{a b:Expr}{p pos:Pos} (hK:X.K=K) (hg:Gl X "zip") (hm:X.mg "zip"=none) (ha:PA X [a,b] ta) (hs:starEach [a,b] X.env=[(false,eval a X.env),(false,eval b X.env)]:=by rfl)
  (hs2:starEach [b] X.env=[(false,eval b X.env)]:=by rfl):PI X (.Tuple elts k tpos) (.Call (.Name "zip" p) [a,b] [] pos) (IG K ta):=hK ▸ LB hg hm ha hs hs2
theorem qA {k:Nat}{t:TGs}{n:Nat}{pos:Pos} (hK:X.K=K) (hc:X.calm=true) (h:PGs X es t)
  (hn:(assignEach es X.env).length=n:=by rfl) (hst:(assignEach es X.env).findIdx? (·.1)=none:=by rfl):PG X (.Tuple es k pos) (F5 K n t):=hK ▸ L8 hc h hn hst
theorem Ly {o e:Expr}{es:List Expr}{to:TE}{t:TA}{name:Str}{apos cpos:Pos}{T id:String}{r:V->List V->Hp->VK->Prop} (hK:X.K=K) (pa:PlainAttrs T) (slot:Slot T name id) (hty:typeOf (.builtin id)=pure (.type "method_descriptor"))
  (hm:MtR X id r) (ho:PE X o to) (ha:PA X (e::es) t)
  (hbase:attributeBase o name X.env (eval o X.env)=eval o X.env:=by rfl)
  (hfew:((backTo cpos (starEach (e::es) X.env)).all (fun x=>!x.1)&&(backToKw cpos (keywordEach [] X.env)).all (fun x=>x.1.isSome)
   && decide ((e::es).length+([]:List Keyword).length+(if ([]:List Keyword).isEmpty then 0 else 1)<30))=true:=by rfl)
  (hline:(apos.endLine==cpos.line)=true:=by rfl) (hs:starEach (e::es) X.env=(false,eval e X.env)::starEach es X.env:=by rfl) (hplain:(backTo cpos (starEach es X.env)).any (·.1)=false:=by rfl) :
  PE X (.Call (.Attribute o name apos) (e::es) [] cpos) (tBM K T r to t):=hK ▸ M4 pa slot hty hm ho ha hbase hfew hline hs hplain
end
end
section
noncomputable def noStar:Expr->Bool
 | .Starred _ _=>false
 | _=>true
noncomputable def eF (es:List Expr):Bool:=es.all noStar
theorem bo (h:noStar e=true):starEach (e::es) env=(false,eval e env)::starEach es env:=by
 cases e<;>first
  | rfl
  | cases h
theorem bB (h:eF (e::es)=true):noStar e=true/\eF es=true:=by unfold eF at h ⊢;rw[iY,bP] at h;exact h
theorem dI {pos:Pos}{env:Env}:∀ {es:List Expr},eF es=true->(backTo pos (starEach es env)).any (·.1)=false
 | [],_=>rfl
 | e::es,h=>by obtain⟨h1,h2⟩:=bB h;rw[bo h1];show (false||(backTo pos (starEach es env)).any (·.1))=false;rw[dI h2];rfl
theorem oX {pos:Pos}{env:Env}:∀ {es:List Expr},eF es=true->(backTo pos (starEach es env)).all (fun x=>!x.1)=true
 | [],_=>rfl
 | e::es,h=>by obtain⟨h1,h2⟩:=bB h;rw[bo h1];show (true&&(backTo pos (starEach es env)).all (fun x=>!x.1))=true;rw[oX h2];rfl
section
variable {X:Cx}{K:Zf}
theorem pvL (i:Nat) {pos:Pos} (hN:X.N[i]?=some x:=by ext) (hv:X.env.scope.names.lookup x=some .local:=by ext) (hd:(x==("__debug__":Str))=false:=by ext)
  (hcd:(x==("__classdict__":Str))=false:=by ext):PE X (.Name x pos) (xQ i):=GC hN (.inl hv) hd hcd
theorem pvC (i:Nat) {pos:Pos} (hN:X.N[i]?=some x:=by ext) (hv:X.env.scope.names.lookup x=some .cell:=by ext) (hd:(x==("__debug__":Str))=false:=by ext)
  (hcd:(x==("__classdict__":Str))=false:=by ext):PE X (.Name x pos) (xQ i):=GC hN (.inr (.inl hv)) hd hcd
theorem aj {t:TA} (ha:PE X e te) (hr:PA X es t) (hs:noStar e=true:=by ext):PA X (e::es) (wo te t):=IY ha hr (bo hs)
theorem aC {E:St->XK}{k:Nat}{t:TA}{p pos:Pos} (C:Fnc X.prog X.w X.K X.mg X.base CX k x ps sp) (hx:Passes CX X E) (hr:fD k X.A) (ha:PA X (e::es) t)
  (hg:X.env.kindOf x=some .globalImplicit:=by ext) (hd:(x==("__debug__":Str))=false:=by ext) (hs:eF (e::es)=true:=by ext):PE X (.Call (.Name x p) (e::es) [] pos) (Cs sp [] E t) :=
 Gv C hx hr hg ha hd (bo (bB hs).1) (dI (bB hs).2)
theorem ax {p pos:Pos}{t:TA}{id:String}{r:List V->Hp->VK->Prop} (hc:dr X (.builtin id) r) (hm:X.mg x=none) (hv:bootBuiltins x=some (.builtin id)) (ha:PA X (e::es) t)
  (hg:X.env.kindOf x=some .globalImplicit:=by ext) (hn:x≠"__name__":=by nofun) (hd:(x==("__debug__":Str))=false:=by ext) (hs:eF (e::es)=true:=by ext):PE X (.Call (.Name x p) (e::es) [] pos) (tCB r t) :=
 Gu hc hg hm hv ha hn hd (bo (bB hs).1) (dI (bB hs).2)
theorem ei {p pos:Pos}{t:TA}{r:List V->Hp->VK->Prop} (hc:dr X (.type T) r) (hm:X.mg x=none) (hv:bootBuiltins x=some (.type T)) (ha:PA X (e::es) t)
  (hg:X.env.kindOf x=some .globalImplicit:=by ext) (hn:x≠"__name__":=by nofun) (hd:(x==("__debug__":Str))=false:=by ext) (hs:eF (e::es)=true:=by ext):PE X (.Call (.Name x p) (e::es) [] pos) (tCB r t) :=
 Ed hc hg hm hv ha hn hd (bo (bB hs).1) (dI (bB hs).2)
theorem kC {pos:Pos} (hm:X.mg x=none) (hv:bootBuiltins x=some (.type T)) (hg:X.env.kindOf x=some .globalImplicit:=by ext) (hn:x≠"__name__":=by nofun) (hd:(x==("__debug__":Str))=false:=by ext) :
  PE X (.Name x pos) (tC (.ty T)):=M7 hg hm hv hn hd
theorem aF {pos pos':Pos} (hN:X.N.Nodup) (he:PE X e te) (hi:X.N[i]?=some x:=by ext) (hx:X.env.scope.names.lookup x=some .local:=by ext)
  (hs:swapsWith e (some (.Name x pos')) pos.line X.env=pure false:=by ext):PS X (.Assign [.Name x pos'] e pos) (Ey te (gN i)):=GI hN hi (.inl hx) he hs (.inr hx)
theorem fJ {pos pos':Pos} (hN:X.N.Nodup) (he:PE X e te) (hi:X.N[i]?=some x:=by ext) (hx:X.env.scope.names.lookup x=some .cell:=by ext) (hf:X.fn x=true:=by ext)
  (hs:swapsWith e (some (.Name x pos')) pos.line X.env=pure false:=by ext):PS X (.Assign [.Name x pos'] e pos) (Ey te (gN i)):=GI hN hi (.inr hx) he hs (.inl hf)
theorem aR (hN:X.N.Nodup) (hi:X.N[i]?=some x:=by ext) (hx:X.env.scope.names.lookup x=some .local:=by ext):PG X (.Name x pos) (gN i):=BY hN hi (.inl hx) (.inr hx)
theorem GF (hN:X.N.Nodup) (hi:X.N[i]?=some x:=by ext) (hx:X.env.scope.names.lookup x=some .cell:=by ext) (hf:X.fn x=true:=by ext):PG X (.Name x pos) (gN i):=BY hN hi (.inr hx) (.inl hf)
theorem eE {tg a:Expr}{p pos:Pos} (hm:X.mg "range"=none) (ha:PA X [a] ta) (hg:X.env.kindOf "range"=some .globalImplicit:=by ext) (hs:noStar a=true:=by ext):PI X tg (.Call (.Name "range" p) [a] [] pos) (FH ta) :=
 Eh hg hm ha (bo hs)
theorem AJ {tg a b:Expr}{p pos:Pos} (hm:X.mg "range"=none) (ha:PA X [a,b] ta) (hg:X.env.kindOf "range"=some .globalImplicit:=by ext) (hs:noStar a=true:=by ext) (hs2:noStar b=true:=by ext) :
  PI X tg (.Call (.Name "range" p) [a,b] [] pos) (FI ta):=Ei hg hm ha (by rw[bo hs,bo hs2];rfl) (bo hs2)
theorem BZ {elts:List Expr}{k:Nat}{tpos:Pos}{a b:Expr}{p pos:Pos} (hK:X.K=K) (hm:X.mg "zip"=none) (ha:PA X [a,b] ta) (hg:X.env.kindOf "zip"=some .globalImplicit:=by ext) (hs:noStar a=true:=by ext) (hs2:noStar b=true:=by ext) :
  PI X (.Tuple elts k tpos) (.Call (.Name "zip" p) [a,b] [] pos) (IG K ta):=Ji hK hg hm ha (by rw[bo hs,bo hs2];rfl) (bo hs2)
theorem dS {o e:Expr}{es:List Expr}{to:TE}{t:TA}{name:Str}{apos cpos:Pos}{T id:String}{r:V->List V->Hp->VK->Prop} (hK:X.K=K) (pa:PlainAttrs T) (slot:Slot T name id) (hty:typeOf (.builtin id)=pure (.type "method_descriptor"))
  (hm:MtR X id r) (ho:PE X o to) (ha:PA X (e::es) t)
  (hbase:attributeBase o name X.env (eval o X.env)=eval o X.env:=by ext) (hs:eF (e::es)=true:=by ext) (hlen:decide ((e::es).length<30)=true:=by ext)
  (hline:(apos.endLine==cpos.line)=true:=by ext):PE X (.Call (.Attribute o name apos) (e::es) [] cpos) (tBM K T r to t):=by
 refine Ly hK pa slot hty hm ho ha hbase ?_ hline (bo (bB hs).1) (dI (bB hs).2);rw[oX hs];show (true&&true&&decide ((e::es).length+0+0<30))=true;rw[dj,dj];exact hlen
end
end
section
noncomputable def tx (l:Za):Str:=⟨l.toArray⟩
theorem bG (l:Za):(tx l).cps.toList=l:=by unfold tx;simp
theorem bC (l:Za):(tx l).length=l.length:=by show l.toArray.size=_;simp
theorem nG (x:Str):tx x.cps.toList=x:=by unfold tx;simp
theorem so (a b:Za):tx a++tx b=tx (a++b):=by show Str.mk (a.toArray++b.toArray)=Str.mk (a++b).toArray;simp
theorem gJ {a b:Za} (h:tx a=tx b):a=b:=by have:=bJ (fun x:Str=>x.cps.toList) h;simpa [tx] using this
theorem uZ (a b:Za):decide (tx a=tx b)=decide (a=b):=by
 by_cases e:a=b
 ·subst e;simp
 ·rw[av e,av (fun z=>e (gJ z))]
theorem dP (x:Str):x.length=x.cps.toList.length:=by show x.cps.size=_;simp
noncomputable def Itx (z:Str):It:=⟨fun i _=>i<z.cps.size,fun i H v H'=>H'=H/\∃ c,z.cps[i]?=some c/\v=.str ⟨#[c]⟩,fun i _=>z.cps.size<=i⟩
theorem zy {tg:Expr} (n:String) (hn:n="str_ascii_iterator"∨n="str_iterator") (z:Str) (t:Tok) (it:Addr):Turn P w K tg (Itx z) [it] it (fun i h=>h.IsStrIter it n z t i) where
 mem:=by simp
 obj:=fun i h st b hb=>by
  have e:b=it:=by simpa using hb
  subst e;obtain⟨o,e,c,d⟩:=st;exact⟨o,e,fun v z=>by rw[d] at z;cases z⟩
 keep:=fun i h h' st k=>by obtain⟨o,e,c,d⟩:=st;exact⟨o,k it (by simp) o e,c,d⟩
 item:=by
  intro X hP hw hK hc i Yp s σ H E I hf st hg;subst hP hw hK;have hg':i<z.cps.size:=hg;have hx:z.cps[i]?=some z.cps[i]:=jv hg';obtain⟨f0,f1,f2,f3,f4,f5⟩:=hf it (by simp);have go:∀ h',h'.IsStrIter it n z t (i+1)->Heap.SameBut it s.heap h'->∃ u,some (Value.str ⟨#[z.cps[i]]⟩ s.toks)=some u ∧
    wpAny (model X.prog X.w) X.A (letOwnedTupleGo tg (.ref it) u) (fun _ s2=>∃ x H',Inv X Yp σ H' s2/\RelV x u/\(Itx z).yld i H x H'/\s2.heap.IsStrIter it n z t (i+1)/\∀ b∈[it],H' b=none) E { s with heap:=h',toks:=s.toks+1 }:=fun h' st' sb=>by
   have I1:Inv X Yp σ H { s with heap:=h',toks:=s.toks+1 }:=I.turned (t':=s.toks+1) (fun b o hb e=>(sb.2 b hb).trans e) f0 f1 f3 f4 f5;obtain⟨o,e,c,d⟩:=id st';exact⟨_,rfl,yq (s:={ s with heap:=h',toks:=s.toks+1 }) e c d (by rcases hn with rfl | rfl<;>decide) ⟨.str ⟨#[z.cps[i]]⟩,H,I1,⟨_,rfl⟩,⟨rfl,_,hx,rfl⟩,st',fun b hb=>(hf b hb).1⟩⟩
  rcases hn with rfl | rfl
  ·exact wpAny_pyNext_ascii_item st hx go
  ·exact wpAny_pyNext_wide_item st hx go
 done:=by
  intro X hP hw hK hc i Yp s σ H E I hf st hg;subst hP hw hK;have hx:z.cps[i]?=none:=om hg;obtain⟨f0,f1,f2,f3,f4,f5⟩:=hf it (by simp);have go:∀ h',Heap.ExtBut it s.heap h'->(none:Option Value)=none/\Inv X Yp σ H { s with heap:=h' }:=fun h' eb =>⟨rfl,I.turned (t':=s.toks) (fun b o hb e=>eb b o hb e) f0 f1 f3 f4 f5⟩;rcases hn with rfl | rfl
  ·exact wpAny_pyNext_ascii_end (I.ok.hd hc) st hx go
  ·exact wpAny_pyNext_wide_end (I.ok.hd hc) st hx go
 self:=fun _ _ _ _ _ st h=>by
  rcases hn with rfl | rfl
  ·exact wpAny_pyIter_striter_ascii st h
  ·exact wpAny_pyIter_striter_wide st h
noncomputable def BO (K:Zf) (x:V) (H:Hp) (R:It->Hp->Prop):Prop:=match x with
 | .ref a=>((∃ xs,SqL K H a xs)/\R (Itl K a) H)∨((∃ xs,SqT K H a xs)/\R (Itt K a) H)
 | .str z=>R (Itx z) H
 | _=>False
noncomputable def FJ (K:Zf) (te:TE):TI:=fun σ H R=>te σ H fun x H1=>BO K x H1 R
theorem LA {tg l:Expr} (hl:PE X l tl):PI X tg l (FJ X.K tl):=by
 intro Yp s σ H R I h;refine thn (hl Yp s σ H _ I h) fun v s1 ⟨x,H1,I1,r1,q1⟩=>?_;cases x with
 | ref a =>
  cases r1
  rcases q1 with ⟨⟨xs,hq⟩,q⟩ | ⟨⟨xs,hq⟩,q⟩
  ·obtain⟨its,rv,p,hz⟩:=I1.list hq;refine wpAny_pyIter_list p.isList ?_;refine⟨s1.heap.objs.size,[s1.heap.objs.size],_,_,H1,rfl,I1.kept (t':=s1.toks) fun b o e=>aD _ e,E4 a _,⟨_,bt _ rfl,rfl,rfl⟩,fun b hb=>?_,q⟩;have e:b=s1.heap.objs.size:=by simpa using hb
   subst e;exact I1.wL (ar _) (I1.hok.fresh (ar _))
  ·obtain⟨its,rv,p,hz⟩:=I1.tuple hq;refine wpAny_pyIter_tuple (show s1.heap.IsTuple a its.toArray from p) ?_;refine⟨s1.heap.objs.size,[s1.heap.objs.size],_,_,H1,rfl,I1.kept (t':=s1.toks) fun b o e=>aD _ e,Bo a _,⟨_,bt _ rfl,rfl,rfl⟩,fun b hb=>?_,q⟩;have e:b=s1.heap.objs.size:=by simpa using hb
   subst e;exact I1.wL (ar _) (I1.hok.fresh (ar _))
 | str z =>
  obtain⟨t,rfl⟩:=r1;cases ha:z.cps.all (·<128) with
  | true =>
   refine wpAny_pyIter_ascii ha ?_;refine⟨s1.heap.objs.size,[s1.heap.objs.size],_,_,H1,rfl,I1.kept (t':=s1.toks) fun b o e=>aD _ e,zy "str_ascii_iterator" (.inl rfl) z t _,⟨_,bt _ rfl,rfl,rfl⟩,fun b hb=>?_,q1⟩;have e:b=s1.heap.objs.size:=by simpa using hb
   subst e;exact I1.wL (ar _) (I1.hok.fresh (ar _))
  | false =>
   refine wpAny_pyIter_wide ha ?_;refine⟨s1.heap.objs.size,[s1.heap.objs.size],_,_,H1,rfl,I1.kept (t':=s1.toks) fun b o e=>aD _ e,zy "str_iterator" (.inr rfl) z t _,⟨_,bt _ rfl,rfl,rfl⟩,fun b hb=>?_,q1⟩;have e:b=s1.heap.objs.size:=by simpa using hb
   subst e;exact I1.wL (ar _) (I1.hok.fresh (ar _))
 | _=>exact False.elim q1
theorem cE {tg l:Expr} (hK:X.K=K) (hl:PE X l tl):PI X tg l (FJ K tl):=hK ▸ LA hl
theorem HS {σ:St}{H:Hp}{K:Zf}{tl:TE}{R:It->Hp->Prop}:FJ K tl σ H R=tl σ H fun x H1=>BO K x H1 R:=propext Iff.rfl
noncomputable def sgs (z:Str):List V:=z.cps.toList.map fun c=>V.str ⟨#[c]⟩
theorem Jx (z:Str):(Itx z).Seq H1 (sgs z):=fun H s=>by
 refine⟨fun i x e=>?_,fun i hi=>?_⟩
 ·unfold sgs at e;rw[aT,iJ] at e;cases hc:z.cps[i]? with
  | none=>rw[hc] at e;cases e
  | some c =>
   rw[hc] at e;have e':V.str ⟨#[c]⟩=x:=Option.some.inj e;have hi:i<z.cps.size:=by
    rcases Nat.lt_or_ge i z.cps.size with h | h
    ·exact h
    ·rw[om h] at hc;cases hc
   exact⟨hi,fun y H' ⟨e1,d,e2,e3⟩=>⟨e1,by rw[hc] at e2;cases e2;rw[e3,e']⟩⟩
 ·show z.cps.size<=i;unfold sgs at hi
  simpa using hi
noncomputable def GL (K:Zf) (neg:Bool):R2:=fun x y H Q=>match y with
 | .str j=>match x with
  | .str i=>Q (.bl (neg != !(Builtin.Str.occurrences j i 0 j.length 1).isEmpty)) H
  | _=>False
 | .ref p=>(∃ xs,Sq K H p xs/\eL x=true/\xs.all eL=true/\Q (.bl (neg != inV x xs)) H)∨∃ o:Option V,mJ H p x o/\Q (.bl (neg != o.isSome)) H
 | _=>False
theorem Lp (hu:X.A.units+1<cLine):OpR X (compareOp .In) (GL X.K false):=by
 intro Yp s σ H x y v u Q I rx ry h;cases y with
 | str j=>cases x with
  | str i =>
   refine Eb Yp s σ H _ _ v u Q I rx ry ⟨i,j,rfl,rfl,?_⟩;have h':Q (.bl (false != !(Builtin.Str.occurrences j i 0 j.length 1).isEmpty)) H:=h
   rwa [Bool.false_bne] at h'
  | _=>exact False.elim h
 | ref p =>
  rcases h with ⟨xs,hs,fx,fxs,q⟩ | ⟨o,hg,q⟩
  ·rw[Bool.false_bne] at q;exact Ea Yp s σ H _ _ v u Q I rx ry ⟨p,xs,rfl,hs,fx,fxs,q⟩
  ·rw[Bool.false_bne] at q;cases ry;exact Nn hu I hg rx fun s' I'=>⟨.bl _,H,I',rfl,q⟩
 | _=>exact False.elim h
theorem Ec (hu:X.A.units+1<cLine):OpR X (compareOp .NotIn) (GL X.K true):=by
 intro Yp s σ H x y v u Q I rx ry h;cases y with
 | str j=>cases x with
  | str i =>
   refine xv Yp s σ H _ _ v u Q I rx ry ⟨i,j,rfl,rfl,?_⟩;have h':Q (.bl (true != !(Builtin.Str.occurrences j i 0 j.length 1).isEmpty)) H:=h
   rwa [Bool.true_bne] at h'
  | _=>exact False.elim h
 | ref p =>
  rcases h with ⟨xs,hs,fx,fxs,q⟩ | ⟨o,hg,q⟩
  ·rw[Bool.true_bne] at q;exact xu Yp s σ H _ _ v u Q I rx ry ⟨p,xs,rfl,hs,fx,fxs,q⟩
  ·rw[Bool.true_bne] at q;cases ry;exact Il hu I hg rx fun s' I'=>⟨.bl _,H,I',rfl,q⟩
 | _=>exact False.elim h
theorem rQ (hK:X.K=K) (hu:X.A.units+1<cLine):OpR X (compareOp .In) (GL K false):=hK ▸ Lp hu
theorem rS (hK:X.K=K) (hu:X.A.units+1<cLine):OpR X (compareOp .NotIn) (GL K true):=hK ▸ Ec hu
theorem Ap (x:Str) (c:Nat):(!(Builtin.Str.occurrences x ⟨#[c]⟩ 0 x.length 1).isEmpty)=decide (c∈x.cps.toList):=StrLaws.found_one x c
theorem z7 {c i:Nat}:StrLaws.At x ⟨#[c]⟩ x.length i↔x.cps.toList[i]?=some c:=by
 unfold StrLaws.At Builtin.Str.subAt;show i+1<=x.cps.size/\(x.cps.extract i (i+1)==#[c])=true↔_;rw[iJ];constructor
 ·rintro⟨h1,h2⟩;have e:=eq_of_beq h2;have:x.cps[i]?=(x.cps.extract i (i+1))[0]?:=by
   rw[Array.getElem?_extract];simp;lia
  rw[this,e];rfl
 ·intro h;have hi:i<x.cps.size:=by
   rcases Nat.lt_or_ge i x.cps.size with h' | h'
   ·exact h'
   ·rw[om h'] at h;cases h
  refine⟨hi,?_⟩;have:x.cps.extract i (i+1)=#[c]:=by
   apply Array.ext
   ·simp;lia
   ·intro j h1 h2;have hj:j=0:=by simp at h2;lia
    subst hj;have e:=jv hi;rw[h] at e;simp [Option.some.inj e]
  rw[this];exact beq_self_eq_true _
theorem yn {c:Nat} (h:c∈x.cps.toList):Txt.find x ⟨#[c]⟩=((x.cps.toList.idxOf c:Nat):Int):=by
 have hi:x.cps.toList.idxOf c<x.cps.toList.length:=nU h;have hg:x.cps.toList[x.cps.toList.idxOf c]?=some c:=by rw[aO hi,List.getElem_idxOf]
 rcases find_whole x ⟨#[c]⟩ with ⟨_,hn⟩ | ⟨i,e,hi2,hn⟩
 ·exact absurd (z7.mpr hg) (hn _)
 ·rw[e];have h1:¬ x.cps.toList.idxOf c<i:=fun z=>hn _ z (z7.mpr hg);have h2:=z7.mp hi2;have h3:x.cps.toList.idxOf c<=i:=by
   rcases Nat.lt_or_ge i (x.cps.toList.idxOf c) with z | z
   ·obtain⟨hl,e2⟩:=b7.mp h2;have h5:=List.not_of_lt_findIdx (p:=(·==c)) (xs:=x.cps.toList) (i:=i) z;rw[e2] at h5;simp at h5
   ·exact z
  congr 1
  lia
noncomputable def Cg:V->List V->Hp->VK->Prop:=fun x vs H Q=>match x,vs with
 | .str z,[.str y]=>0<=Txt.find z y/\Q (.int (Txt.find z y)) H
 | _,_=>False
theorem vV :MtM X "str.index" Cg:=by
 intro Yp s σ H x vs v us Q I rx rv h;cases x<;>try exact h.elim
 rcases vs with _ | ⟨x0,t⟩
 ·exact h.elim
 cases x0<;>try exact h.elim
 cases t<;>try exact h.elim
 next z y =>
  obtain⟨t,rfl⟩:=rx;obtain⟨u,rfl,t',rfl⟩:=rv.one;cases ho:Builtin.Str.occurrences z y 0 z.length 1 with
  | nil =>
   have e:Txt.find z y=-1:=by simp [Txt.find,ho]
   have h1:=h.1;rw[e] at h1;exact absurd h1 (by decide)
  | cons i rest =>
   have e:Txt.find z y=(i:Int):=by simp [Txt.find,ho]
   refine SC.index ho ?_;have h2:=h.2;rw[e] at h2;exact⟨.int _,H,I.tok _,⟨_,rfl⟩,h2⟩
theorem J6 {ys:Ze}:∀ {us:Zc},Vals (ys.map V.str) us->StrsAre us ys:=by
 induction ys with
 | nil=>intro us r;cases r;exact .nil
 | cons y r ih =>
  intro us h;cases h with
  | cons h1 h2 =>obtain⟨t,rfl⟩:=h1;exact .cons _ _ (ih h2)
noncomputable def AO (K:Zf):V->List V->Hp->VK->Prop:=fun x vs H Q=>match x,vs with
 | .str z,[.ref p]=>∃ ys:Ze,SqL K H p (ys.map V.str)/\(ys.map (·.length)).sum+ys.length*z.length<=16777216/\Q (.str (Txt.join z ys)) H
 | _,_=>False
theorem Ga :MtM X "str.join" (AO X.K):=by
 intro Yp s σ H x vs v us Q I rx rv h;cases x<;>try exact h.elim
 rcases vs with _ | ⟨x0,t⟩
 ·exact h.elim
 cases x0<;>try exact h.elim
 cases t<;>try exact h.elim
 next z p =>obtain⟨ys,hs,hl,q⟩:=h;obtain⟨t,rfl⟩:=rx;obtain⟨u,rfl,ru⟩:=rv.one;cases ru;obtain⟨its,rv2,pl,hz⟩:=I.list hs;exact join_list pl.isList (by simpa using J6 rv2) hl fun t' k=>⟨.str _,H,I.tok _,⟨_,rfl⟩,q⟩
theorem qt (hK:X.K=K):MtM X "str.join" (AO K):=hK ▸ Ga
theorem uh (ls:List (Za)):Txt.join (tx []) (ls.map tx)=tx ls.flatten:=by
 have go:∀ (r:List (Za)) (acc:Za),(r.map tx).foldl (fun acc p=>acc++(tx []).cps++p.cps) acc.toArray=(acc++r.flatten).toArray:=by
  intro r
  induction r with
  | nil=>intro acc;simp
  | cons a r ih =>
   intro acc;rw[bf,List.foldl_cons];have e:acc.toArray++(tx []).cps++(tx a).cps=(acc++a).toArray:=by simp [tx]
   rw[e,ih];simp
 unfold Txt.join Builtin.Str.glued;cases ls with
 | nil=>rfl
 | cons a r =>have:=go r a;show Str.mk ((r.map tx).foldl (fun acc p=>acc++(tx []).cps++p.cps) a.toArray)=tx (a::r).flatten;rw[this];rfl
theorem Aq (l:Za):Txt.join (tx []) (l.map fun c=>tx [c])=tx l:=by
 have:=uh (l.map fun c=>[c]);rw[aI] at this;rw[show (l.map fun c=>tx [c])=l.map (tx ∘ fun c=>[c]) from rfl,this]
 congr 1
 induction l with
 | nil=>rfl
 | cons a r ih=>rw[bf,nT,ih (by have:=uh (r.map fun c=>[c]);rw[aI] at this;exact this)];rfl
section
variable {α β:Type}
noncomputable def pull {γ:Type} (e:α->V) (f:α->γ) (d:γ) (v:V):γ:=open Classical in if h:∃ a,e a=v then f (Classical.choose h) else d
theorem ky {γ:Type}{e:α->V} (inj:∀ a b,e a=e b->a=b) (f:α->γ) (d:γ) (a:α):pull e f d (e a)=f a:=by unfold pull;have h:∃ b,e b=e a:=⟨a,rfl⟩;rw[dif_pos h,inj _ _ (Classical.choose_spec h)]
theorem iG:∀ a b:Int,V.int a=V.int b->a=b:=fun _ _ h=>by cases h;rfl
theorem wO:∀ a b:Nat,V.str ⟨#[a]⟩=V.str ⟨#[b]⟩->a=b:=fun _ _ h=>by cases h;rfl
theorem Au {xs:List α}{js:Za}{σ:St}{tc:TT}{te:TE}{Q:VK} (e:α->V) (inj:∀ a b,e a=e b->a=b) (hJ:J.Seq H1 (xs.map e)) (hl:xs.length<sizeLine) (p:α->Bool) (f:α->V)
  (hc:∀ x∈xs,∀ H,az H1 H->∀ R:Bool->Hp->Prop,(∀ H',az H H'->R (p x) H')->tc (some (e x)::js.map fun j=>(σ[j]?).join) H R)
  (he:∀ x∈xs,p x=true->∀ H,az H1 H->∀ R:VK,(∀ H',az H H'->R (f x) H')->te (some (e x)::js.map fun j=>(σ[j]?).join) H R)
  (q:∀ D H,H1 D=none->az H1 H->H D=some (.lst ((xs.filter p).map f))->Q (.ref D) H):gy (gN 0) tc te (jE 1 js σ) J H1 Q:=by
 refine Av hJ (by rw[ag];exact hl) (pull e p false) (pull e f .non) ?_ ?_ ?_
 ·intro v hv H s R hR;obtain⟨x,hx,rfl⟩:=aM.mp hv;rw[ky inj] at hR;exact hc x hx H s R hR
 ·intro v hv hp H s R hR;obtain⟨x,hx,rfl⟩:=aM.mp hv;rw[ky inj] at hR hp;exact he x hx hp H s R hR
 ·intro D H h1 h2 h3;refine q D H h1 h2 ?_;rw[h3,nR,aI]
  congr 2
  have e1:pull e f .non ∘ e=f:=funext fun a=>ky inj f .non a;have e2:pull e p false ∘ e=p:=funext fun a=>ky inj p false a;rw[e1,e2]
theorem vm {xs:List α}{js:Za}{σ:St}{te:TE}{Q:VK} (e:α->V) (inj:∀ a b,e a=e b->a=b) (hJ:J.Seq H1 (xs.map e)) (hl:xs.length<sizeLine) (f:α->V)
  (he:∀ x∈xs,∀ H,az H1 H->∀ R:VK,(∀ H',az H H'->R (f x) H')->te (some (e x)::js.map fun j=>(σ[j]?).join) H R)
  (q:∀ D H,H1 D=none->az H1 H->H D=some (.lst (xs.map f))->Q (.ref D) H):gy (gN 0) Ez te (jE 1 js σ) J H1 Q :=
 Au e inj hJ hl (fun _=>true) f (fun x _ H _ R hR=>hR H (az.refl H)) (fun x hx _ H s R hR=>he x hx H s R hR) fun D H h1 h2 h3=>q D H h1 h2 (by rw[List.filter_eq_self.mpr (fun _ _=>rfl)] at h3;exact h3)
theorem Mu {K:Zf}{a b:Addr}{H1:Hp}{xs:List α}{ys:List β}{js:Za}{σ:St}{te:TE}{Q:VK} (e:α->V) (e':β->V) (inj:∀ a b,e a=e b->a=b) (inj':∀ a b,e' a=e' b->a=b)
  (hx:SqL K H1 a (xs.map e)) (hy:SqL K H1 b (ys.map e')) (hl:xs.length<sizeLine) (f:α->β->V)
  (he:∀ x y,(x,y)∈xs.zip ys->∀ H,az H1 H->∀ R:VK,(∀ H',az H H'->R (f x y) H')->te (some (e x)::some (e' y)::js.map fun j=>(σ[j]?).join) H R)
  (q:∀ D H,H1 D=none->az H1 H->H D=some (.lst ((xs.zip ys).map fun p=>f p.1 p.2))->Q (.ref D) H):gy (F5 K 2 (sv (gN 0) (sv (gN 1) F2))) Ez te (jE 2 js σ) (Itz K a b) H1 Q:=by
 refine La hx hy (by rw[ag];exact hl) (fun v u=>pull e (fun x=>pull e' (f x) .non u) .non v) ?_ ?_
 ·intro v u hvu H s R hR;rw[List.zip_map,aM] at hvu;obtain⟨⟨x,y⟩,hxy,e2⟩:=hvu;cases e2;have e3:pull e (fun x=>pull e' (f x) .non (e' y)) .non (e x)=f x y:=by rw[ky inj,ky inj']
  exact he x y hxy H s R (fun H' s'=>by have:=hR H' s';rwa [e3] at this)
 ·intro D H h1 h2 h3;refine q D H h1 h2 ?_;rw[h3,List.zip_map,aI]
  congr 2
  refine iu fun ⟨x,y⟩ _=>?_;show pull e (fun x=>pull e' (f x) .non (e' y)) .non (e x)=f x y;rw[ky inj,ky inj']
end
theorem xI (z:Str):(Itx z).Seq H1 (z.cps.toList.map fun c=>V.str ⟨#[c]⟩):=Jx z
theorem qQ {x:V}{t:Tg} (ht:fj H x=some t) (hs:∀ z,x≠.str z):t≠.str:=fun e=>by
 subst e;cases x with
 | str z=>exact hs z rfl
 | ref a =>
  have h':lG (H a)=some .str:=ht;cases e:H a with
  | none=>rw[e] at h';cases h'
  | some o=>rw[e] at h';cases o with
   | frz ob u=>cases u<;>cases h'
   | _=>cases h'
 | _=>cases ht
theorem zM {a b:Int} (ha:0<=a/\a<1000) (hb:0<=b/\b<1000):HB a b :=
 ⟨bK (show a.natAbs<1000 by lia) Zd,bK (show b.natAbs<1000 by lia) Zd⟩
theorem B9 {t u:TS} (R:St->Hp->Prop) (h2:∀ σ' H',R σ' H'->u D σ' H') (h1:∀ U:St->Hp->Prop,(∀ σ' H',R σ' H'->U σ' H')->t { D with nx:=U } σ H):Ht t u D σ H:=h1 _ h2
theorem cR {l:List α}{i:Int}{v:α} (h0:0<=i) (h1:l[i.toNat]?=some v):atI l i=some v:=by
 have:=cu h1
 rwa [nI h0] at this
theorem vv:(Str.ofString "abcdefghijklmnopqrstuvwxyz").cps.toList=List.range' 97 26:=by nofun
theorem Fi:Str.ofString ""=tx []:=by nofun
theorem FO {D:Addr}{l:Za} (h:H D=some (.lst (l.map fun c=>V.str (tx [c])))):SqL K H D ((l.map fun c=>tx [c]).map V.str):=.of (by rw[h,aI];rfl)
theorem FN {l:Za} (hl:l.length<=100000):((l.map fun c=>tx [c]).map (·.length)).sum+(l.map fun c=>tx [c]).length*(Str.ofString "").length<=16777216:=by
 have e2:(Str.ofString "").length=0:=by nofun
 rw[e2,Nat.mul_zero,Nat.add_zero,aI];have e:∀ l:Za,(l.map ((fun x:Str=>x.length) ∘ fun x=>tx [x])).sum=l.length:=by
  intro l
  induction l with
  | nil=>rfl
  | cons a r ih=>rw[bf,jh,ih,aZ];show (tx [a]).length+_=_;rw[bC];simp;lia
 rw[e];lia
theorem BS (l:Za):Txt.join (Str.ofString "") (l.map fun c=>tx [c])=tx l:=by rw[Fi,Aq]
end
section
noncomputable def DK (h h':Heap):Prop:=∀ b o,h.get? b=some o->∃ o',h'.get? b=some o'/\o'.cls=o.cls/\o'.dict=o.dict/\(∀ vs,o.data=.fields vs->∃ vs',o'.data=.fields vs'/\vs'[2]?=vs[2]?)
theorem DK.refl (h:Heap):DK h h:=fun b o e=>⟨o,e,rfl,rfl,fun vs q=>⟨vs,q,rfl⟩⟩
theorem DK.trans {h1 h2 h3:Heap} (x:DK h1 h2) (y:DK h2 h3):DK h1 h3:=fun b o e=>by obtain⟨o1,e1,c1,d1,f1⟩:=x b o e;obtain⟨o2,e2,c2,d2,f2⟩:=y b o1 e1;exact⟨o2,e2,c2.trans c1,d2.trans d1,fun vs q=>by obtain⟨v1,q1,g1⟩:=f1 vs q;obtain⟨v2,q2,g2⟩:=f2 v1 q1;exact⟨v2,q2,g2.trans g1⟩⟩
theorem DK.push (h:Heap) (o:Obj):DK h (h.push o):=fun b u e=>⟨u,aD _ e,rfl,rfl,fun vs q=>⟨vs,q,rfl⟩⟩
structure KD {α:Type} (m:Sem α):Prop where
 out:∀ (M:Model) (Γ:PySem.Ctx) (P:α->Pos->Zg->Prop) (Ee:Value->Pos->Zg->Prop) (p:Pos) (s:Zg),Sem.wp M Γ m P Ee p s →
  Sem.wp M Γ m (fun a p' s'=>P a p' s'/\DK s.heap s'.heap) (fun e p' s'=>Ee e p' s'/\DK s.heap s'.heap) p s
namespace KD
variable {α β:Type}
theorem pure (a:α):KD (Pure.pure a:Sem α):=⟨fun _ _ _ _ _ s h=>⟨h,DK.refl _⟩⟩
theorem unsupported (w:String):KD (PySem.unsupported w:Sem α):=⟨fun _ _ _ _ _ _ h=>h⟩
theorem bind {m:Sem α}{f:α->Sem β} (hm:KD m) (hf:∀ a,KD (f a)):KD (m >>= f):=⟨fun M Γ P Ee p s h=>by rw[Sem.wp_bind'] at h ⊢;refine Sem.wp_mono M Γ m (fun a p' s' h'=>?_) (fun _ _ _ x=>x) p s (hm.out M Γ _ _ p s h);refine Sem.wp_mono M Γ (f a) (fun b p2 s2 h2=>⟨h2.1,h'.2.trans h2.2⟩) (fun e p2 s2 h2=>⟨h2.1,h'.2.trans h2.2⟩) p' s' ((hf a).out M Γ P Ee p' s' h'.1)⟩
theorem ite {c:Prop} [Decidable c] {t u:Sem α} (ht:KD t) (hu:KD u):KD (if c then t else u):=by split<;>assumption
theorem load (a:Addr):KD (PySem.load a):=⟨fun _ _ _ _ _ s h=>by obtain⟨o,e,q⟩:=h;exact⟨o,e,q,DK.refl _⟩⟩
theorem stack:KD PySem.stack:=⟨fun M Γ P Ee p s h=>by unfold PySem.stack at h ⊢;rw[Sem.wp_stack] at h ⊢;exact⟨h,DK.refl _⟩⟩
theorem alloc (o:Obj):KD (PySem.alloc o):=⟨fun _ _ _ _ _ s h=>⟨h,DK.push _ _⟩⟩
theorem field (v:Value) (i:Nat):KD (PySem.field v i):=⟨fun _ Γ P Ee p s h=>by rw[wp_field_iff] at h ⊢;obtain⟨a,o,vs,x,e1,e2,e3,e4,q⟩:=h;exact⟨a,o,vs,x,e1,e2,e3,e4,q,DK.refl _⟩⟩
theorem update {a:Addr}{f:Obj->Obj} (hf:∀ o,(f o).cls=o.cls/\(f o).dict=o.dict/\(f o).isFreed=o.isFreed/\∀ vs,o.data=.fields vs->∃ vs',(f o).data=.fields vs'/\vs'[2]?=vs[2]?):KD (PySem.update a f):=⟨fun _ _ _ _ _ s h=>by
 refine⟨h.1,h.2,fun b o e=>?_⟩
 by_cases hb:b=a
 ·subst hb;obtain⟨h1,h2,h3,h4⟩:=hf o;have hfr:o.isFreed=false:=(Heap.get?_some_iff.mp e).2;exact⟨f o,fP _ e (by rw[h3];exact hfr),h1,h2,h4⟩
 ·exact⟨o,(dv _ _ (bD hb)).trans e,rfl,rfl,fun vs q=>⟨vs,q,rfl⟩⟩⟩
theorem setField (v:Value) (i:Nat) (x:Value) (hi:i≠2):KD (PySem.setField v i x):=⟨fun _ Γ P Ee p s h=>by
 rw[wp_setField_iff] at h ⊢;obtain⟨a,o,vs,e1,e2,e3,e4,q⟩:=h;refine⟨a,o,vs,e1,e2,e3,e4,q,fun b u e=>?_⟩
 by_cases hb:b=a
 ·subst hb;rw[e2] at e;cases e;have hd:=Obj.data_mapFields e3 (·.setIfInBounds i x);exact⟨_,fP _ e2 (Obj.isFreed_of_fields hd),Obj.cls_mapFields ..,by cases o with | mk c d dt sl=>cases dt<;>first | rfl,fun vs' q=>⟨_,hd,by rw[e3] at q;cases q;exact Array.getElem?_setIfInBounds_ne hi⟩⟩
 ·exact⟨u,(dv _ _ (bD hb)).trans e,rfl,rfl,fun vs q=>⟨vs,q,rfl⟩⟩⟩
theorem slots {a:Addr}{g:Obj->Array (Option Value)}:KD (PySem.update a fun o=>{ o with slots:=g o }):=update fun o=>⟨rfl,rfl,by cases o with | mk c d dt sl=>cases dt<;>rfl,fun vs q=>⟨vs,q,rfl⟩⟩
end KD
theorem DO (env:Env) (outer:List Env):KD (behindIsImport env outer):=by
 unfold behindIsImport
 repeat' with_reducible first | exact KD.pure _ | exact KD.field _ _ | apply KD.ite | apply KD.bind | intro _
theorem DP:KD underTheClaimsCaller:=by
 unfold underTheClaimsCaller
 repeat' with_reducible first | exact KD.pure _ | exact KD.stack | exact KD.unsupported _ | exact KD.field _ _ | apply KD.ite | apply KD.bind | intro _ | split
theorem II (env:Env) (i:Bool) (l:List Env):KD (keptBack env i l):=by have:=DP;cases l<;>unfold keptBack<;>repeat' with_reducible first | assumption | exact KD.pure _ | apply KD.ite | apply KD.bind | intro _
theorem yu:∀ l:List Env,KD (readyFrames l)
 | []=>KD.pure _
 | env::outer=>by
  have ih:=yu outer;have h1:=DO env outer;have h2:=fun i=>II env i outer;unfold readyFrames;split
  ·refine KD.bind (KD.load _) fun o=>KD.ite (KD.pure _) (KD.bind h1 fun b=>KD.bind (h2 b) fun v=>KD.bind KD.slots fun _=>ih)
  ·exact KD.unsupported _
theorem ui (l:List Env):KD (frameObject l):=by
 cases l with
 | nil=>exact KD.pure _
 | cons a r=>unfold frameObject;exact KD.bind (yu _) fun _=>KD.pure _
theorem As (env:Env):KD (PySem.frameOf env):=by
 unfold PySem.frameOf frameEnvs;refine KD.bind (KD.bind KD.stack fun _=>KD.pure _) fun l=>KD.bind (ui _) fun o=>?_;cases o with
 | none=>exact KD.unsupported _
 | some v=>exact KD.pure _
theorem FQ (f:Addr) (b:Bool):KD (entryPlaceOf f b):=by
 unfold entryPlaceOf
 repeat' with_reducible first | exact KD.pure _ | exact KD.stack | exact KD.unsupported _ | apply KD.ite | apply KD.bind | intro _ | split
theorem FP (a b c d e:Value) (l:Zc):KD (EntryCells.newEntry a b c d e l):=by
 unfold EntryCells.newEntry newFields newObj newObjAsIs
 repeat' first | exact KD.pure _ | exact KD.alloc _ | exact KD.unsupported _ | apply KD.ite | apply KD.bind | intro _ | split
theorem wV (e:Value) (env:Env):KD (noteFrame e env):=by
 unfold noteFrame;have h1:=As env;have h2:=FQ;have h3:=FP;split
 ·repeat' with_reducible first | exact KD.pure _ | exact KD.field _ _ | exact KD.setField _ _ _ (by decide) | exact h1 | exact h2 _ _ | exact h3 _ _ _ _ _ _ | apply KD.ite | apply KD.bind | intro _
 ·exact KD.unsupported _
theorem lr (e:Value) (o:Option Addr):KD (setFlight e o):=by
 unfold setFlight
 repeat' with_reducible first | exact KD.pure _ | exact KD.field _ _ | exact KD.setField _ _ _ (by decide) | apply KD.ite | apply KD.bind | intro _
theorem pd (env:Env) (e:Value):KD (leaving env e):=by unfold leaving;exact KD.bind (wV _ _) fun _=>lr _ _
theorem KD.any {t:Sem α}{Q:α->Zg->Prop} (k:KD t) (h:wpAny M A t Q E s) :
  wpAny M A t (fun a s'=>Q a s'/\DK s.heap s'.heap) (fun e s'=>E e s'/\DK s.heap s'.heap) s:=fun Γ p hΓ=>k.out M Γ _ _ p s (h Γ p hΓ)
theorem A7 (x:bY P w H h a o):∃ u,h.get? a=some u:=by
 cases o with
 | lst xs=>obtain⟨_,_,_,_,e⟩:=x;exact⟨_,e⟩
 | tup xs=>obtain⟨_,_,_,ob,e,_⟩:=x;exact⟨_,e⟩
 | dK kvs=>obtain⟨_,_,_,_,ob,_,_,e,_⟩:=x;exact⟨_,e⟩
 | dT kvs=>obtain⟨_,_,_,_,ob,_,_,e,_⟩:=x;exact⟨_,e⟩
 | set S n=>obtain⟨ob,_,_,_,e,_⟩:=x;exact⟨_,e⟩
 | ins C dx fs=>obtain⟨_,_,_,e,_⟩:=x;exact⟨_,e⟩
 | own y=>exact x
 | xd fs=>obtain⟨_,⟨od,_,_,e,_⟩,_⟩:=x;exact⟨_,e⟩
 | rng lo hi=>obtain⟨_,_,_,e⟩:=x;exact⟨_,e⟩
 | frz ob u=>exact⟨_,x.1⟩
 | tbl ps=>obtain⟨_,e,_⟩:=x;exact⟨_,e⟩
 | met f y=>exact⟨_,x⟩
 | ext φ=>exact x.2.1
noncomputable def XD (o:Obj) (d:Option Addr):Prop:=o.dict=d/\∃ vs,o.data=.fields vs/\vs[2]?=some .none
theorem XD.dk {o o':Obj} (x:XD o d) (h:o'.dict=o.dict) (f:∀ vs,o.data=.fields vs->∃ vs',o'.data=.fields vs'/\vs'[2]?=vs[2]?):XD o' d:=by obtain⟨x1,vs,x2,x3⟩:=x;obtain⟨vs',y1,y2⟩:=f vs x2;exact⟨h.trans x1,vs',y1,y2.trans x3⟩
noncomputable def CX1 (P:Zh) (w:Zi):CXT:=fun outer H s E e s'=>∃ (ea C t:Addr) (B:Heap) (H':Hp) (d:Option Addr),e=.ref ea/\s'.os=s.os/\AllBare s'.gens/\Un (frs outer) [] H H' s.heap s'.heap/\HOk P w H' s'.heap ∧
 Heap.FlyingW B outer ea (.ref C) (.ref t) s'.heap/\(∃ oe,s'.heap.get? ea=some oe/\XD oe d)/\(∀ dx,d=some dx->∃ fs,H' dx=some (.xd fs)) ∧
 (∀ b o,s'.heap.get? b=some o->b∉frs outer->(H' b≠none∨∃ u,s.heap.get? b=some u)->B.get? b=some o)/\E (.ref C) d H'
section
variable {X:Cx}{Yp:Zp}{σ:St}{H:Hp}{s:Zg}
theorem tY {B h':Heap} (I:Inv X Yp σ H s) (hst:X.stack=X.env::X.outer) (hf:X.env.frame=some X.env.locals) (hex:X.ex=[]) (hB:B.StaysIn h') (hsm:s.heap.UpToSlots h')
  (hk:∀ b o,s.heap.get? b=some o->b∉frs X.stack->(H b≠none∨∃ u,X.s₀.heap.get? b=some u)->B.get? b=some o) :
  Un (frs X.outer) [] X.H₀ H X.s₀.heap h'/\HOk X.prog X.w H h'/\∀ b o,h'.get? b=some o->b∉frs X.outer->(H b≠none∨∃ u,X.s₀.heap.get? b=some u)->B.get? b=some o:=by
 have hfs:frs X.stack=X.env.locals::frs X.outer:=by rw[hst];unfold frs;rw[nM,hf]
 have old:∀ b u,X.s₀.heap.get? b=some u->b≠X.env.locals:=fun b u e z=>absurd (bK (aG e) (by rw[z];exact I.ok.above)) (ft _);have nstk:∀ b,b≠X.env.locals->b∉frs X.outer->b∉frs X.stack:=fun b h1 h2 z=>by rw[hfs] at z;rcases aP.mp z with z | z;exact h1 z;exact h2 z
 have trk:∀ b,H b≠none->b∉frs X.stack:=fun b h1 z=>h1 (I.qP b z);have nx:∀ b:Addr,b∉X.ex:=fun b=>by rw[hex];simp
 have fr:∀ b,b∈frs X.outer->∃ o,s.heap.get? b=some o/\∀ vs,o.data≠.fields vs:=fun b hb=>(I.stack.mem (show b∈frs X.stack by rw[hfs];exact aU _ hb)).2;have tkeep:∀ b o,H b≠none->s.heap.get? b=some o->h'.get? b=some o:=fun b o h1 e=>hB b o (hk b o e (trk b h1) (.inl h1));have okeep:∀ b o u,X.s₀.heap.get? b=some u->b∉frs X.outer->s.heap.get? b=some o->h'.get? b=some o:=fun b o u e0 h2 e=>hB b o (hk b o e (nstk b (old b u e0) h2) (.inr ⟨u,e0⟩));refine⟨⟨fun b o e n hb _=>?_,fun b o e n hb _=>?_,fun b o e n _=>I.base.free b o e n (nx b),fun b o e _=>?_,I.base.tups,I.base.frzs,I.base.tbls⟩,fun a o e=>?_,fun b o e hb hc=>?_⟩
 ·exact okeep b o o e hb (I.base.keep b o e n hb (nx b))
 ·obtain⟨sl,e1⟩:=I.base.slot b o e n hb (nx b);obtain⟨o1,e2,hd⟩:=fr b hb;rw[e1] at e2;cases e2;obtain⟨sl',e3⟩:=hsm b _ e1 hd;exact⟨sl',e3⟩
 ·obtain⟨o1,e1⟩:=I.base.there b o e (nx b)
  by_cases hb:b∈frs X.outer
  ·obtain⟨o2,e2,hd⟩:=fr b hb;obtain⟨sl',e3⟩:=hsm b _ e2 hd;exact⟨_,e3⟩
  ·exact⟨o1,okeep b o1 o e hb e1⟩
 ·refine (I.hok a o e).mF (fun c v hc q=>tkeep c v ?_ q) (fun _ q=>q) fun _ _ q=>q;rcases hc with z | z
  ·rw[z,e];simp
  ·rw[z];simp
 ·rcases hc with h1 | ⟨u,e0⟩
  ·cases q:H b with
   | none=>exact absurd q h1
   | some ob =>obtain⟨o1,e1⟩:=A7 (I.hok b ob q);have:=tkeep b o1 h1 e1;rw[e] at this;cases this;exact hk b o e1 (trk b h1) (.inl h1)
  ·obtain⟨o1,e1⟩:=I.base.there b u e0 (nx b);have:=okeep b o1 u e0 hb e1;rw[e] at this;cases this;exact hk b o e1 (nstk b (old b u e0) hb) (.inr ⟨u,e0⟩)
noncomputable def ED (X:Cx) (E:St->XK):Prop:=∀ (Yp:Zp) (σ:St) (H:Hp) (s:Zg) (h1:Heap) (e C:Addr) (vs:Zc),Inv X Yp σ H s->Heap.MadeExcOf s.heap h1 e (.ref C) vs->E σ (.ref C) none H->X.xe (.ref e) { s with heap:=h1 }
end
section
variable {P:Zh}{w:Zi}{K:Zf}{mg:Zk}{base:Heap}{N:Ze}{qual:Str}{scope:Scope}{f:Addr}{cd:Value}{A:Around}{outer:List Env}{s:Zg}{H:Hp}{E:XK}
theorem a8:Passes (CX1 P w) (vi (CX1 P w) P w K mg base N qual scope f cd A outer s H E) (fun _=>E):=by intro Yp σ H1 s1 e s' I h;obtain⟨ea,C,t,B,H',d,rfl,os,bare,un,hok,fl,⟨oe,hoe,hdo⟩,hdx,hkb,hE⟩:=h;have I':=I.vD (ch:=[]) os un hok bare (fun b z=>absurd z (by simp));show wpAny _ _ _ _ _ _;refine bM (KD.any (E:=fun _ _=>False) (pd _ _) (wpAny_leaves_onW (Q:=fun _ s''=>∃ h',s''={ s' with heap:=h' }/\Heap.FlyingW B outer ea (.ref C) (.ref t) h'/\s'.heap.UpToSlots h') I.ok.frames rfl fl fun h' x1 x2=>⟨h',rfl,x1,x2⟩)) ?_ (fun _ _ z=>False.elim z.1);rintro _ s'' ⟨⟨h',rfl,x1,x2⟩,dk⟩;obtain⟨u1,u2,u3⟩:=tY (B:=B) (h':=h') I' rfl rfl rfl x1.1 x2 (fun b o e1 e2 e3=>hkb b o e1 e2 (e3.elim .inl fun ⟨u,e0⟩=>.inr (I.base.there b u e0 (by show b∉([]:List Addr);simp))));obtain⟨oe',hoe',_,hd',hg'⟩:=dk ea oe hoe;exact⟨ea,C,t,B,H',d,rfl,I'.os,I'.bare,u1,u2,x1,⟨oe',hoe',hdo.dk hd' hg'⟩,hdx,u3,hE⟩
theorem da:ED (vi (CX1 P w) P w K mg base N qual scope f cd A outer s H E) (fun _=>E):=by intro Yp σ H1 s1 h1 e C vs I hx hE;show wpAny _ _ _ _ _ _;have hin:∀ env∈(envOfC qual scope s.heap.objs.size f cd::outer),∀ b,env.frame=some b->b∈frs (envOfC qual scope s.heap.objs.size f cd::outer):=fun env he b hb=>nW.mpr ⟨env,he,hb⟩;have st:(PySem.W.hideAll s1.heap (frs (envOfC qual scope s.heap.objs.size f cd::outer))).StaysIn s1.heap:=fun b o q=>PySem.W.of_hideAll _ q;have ff:s1.heap.FunFrames (PySem.W.hideAll s1.heap (frs (envOfC qual scope s.heap.objs.size f cd::outer))) (envOfC qual scope s.heap.objs.size f cd::outer):=PySem.W.funFrames_hide I.stack hin;obtain⟨tt,het,_,_⟩:=hx.there;refine bM (KD.any (E:=fun _ _=>False) (pd _ _) (wpAny_leaves_madeW (s:={ s1 with heap:=h1 }) (Q:=fun _ s''=>∃ h' t,s''={ s1 with heap:=h' }/\Heap.FlyingW (PySem.W.hideAll s1.heap (frs (envOfC qual scope s.heap.objs.size f cd::outer))) outer e (.ref C) (.ref t) h'/\h1.UpToSlots h') I.ok.frames rfl st ff hx fun h' t x1 _ _ x4=>⟨h',t,rfl,x1,x4⟩)) ?_ (fun _ _ z=>False.elim z.1);rintro _ s'' ⟨⟨h',t,rfl,x1,x4⟩,dk⟩;obtain⟨u1,u2,u3⟩:=tY (h':=h') I rfl rfl rfl x1.1 ((Heap.UpToSlots.of_keeps hx.keeps).trans x4) (fun b o e1 e2 _=>PySem.W.hideAll_get _ e1 e2);obtain⟨oe',hoe',_,hd',hg'⟩:=dk e _ het;exact⟨e,C,t,_,H1,none,rfl,I.os,I.bare,u1,u2,x1,⟨oe',hoe',XD.dk ⟨rfl,_,rfl,rfl⟩ hd' hg'⟩,(fun dx z=>by cases z),u3,hE⟩
end
theorem fF :Passes (CX1 P w) X E0:=fun _ _ _ _ _ _ _ h=>by obtain⟨_,_,_,_,_,_,_,_,_,_,_,_,_,_,_,z⟩:=h;exact z.elim
theorem vH {outer:List Env}{e:Value}{s':Zg} (h:CX1 P w outer H s (fun _ _ _=>False) e s'):False:=by obtain⟨_,_,_,_,_,_,_,_,_,_,_,_,_,_,_,z⟩:=h;exact z
section
variable {P:Zh}{w:Zi}{K:Zf}{mg:Zk}{base:Heap}
theorem Fun.okX {x qual:Str}{st:Stmt}{f:Addr}{fd:FuncData}{N ps:Ze}{k:Nat} (F:Fun K x qual st f fd) (S:aN N ps (ay st)) (len:∀ vs H Q E,sp vs H Q E->vs.length=ps.length)
  (hbody:∀ (cdv:Value) (A:Around) (outer:List Env) (s:Zg) (H:Hp) (vs:List V) (Q:VK) (E:XK),fD k (A.deeper (envOfC qual (ay st) s.heap.objs.size f cdv))->sp vs H Q E →
   ∃ t,PSs (vi (CX1 P w) P w K mg base N qual (ay st) f cdv A outer s H E) (cP st) t/\t { nx:=fun _ H'=>Q .non H',rt:=Q } (start N vs) H):bU P w K mg base (CX1 P w) (k+1) f fd ps sp:=by
 obtain⟨oc,od,kV,doc,pm,an,cdv,ct,osl,rfl,lk,hcd⟩:=F.ex;exact JJ lk hcd S len fun A outer s H vs Q E hr hsp=>hbody cdv A outer s H vs Q E hr hsp
end
theorem DA {newId:String} (XK:K.In h) (q:PySem.W.excIn K C bmB newId=true) :
  ∃ bm N nm qn bs hd sn sub ab col dd k0 k1 k2 k3 k5 mN,h.get? C=some (excClassObj nm qn C N bs bm hd sn sub ab col dd k0 k1 k2 k3 k5 newId)/\h.Ns N mN/\mN "__init__"=none/\OwnTail h bmB bm:=by
 unfold PySem.W.excIn at q;split at q;next dd cd sl ho =>
  split at q;next C' bm k0 k1 k2 k3 n k5 hm hs =>
   simp only[bP,eT,Bool.not_eq_true'] at q;obtain⟨⟨⟨⟨⟨e1,e2⟩,e3⟩,e4⟩,e5⟩,e6⟩:=q;subst e1 e2;cases cd with
   | mk nm bs mro ns qn hd sn sub ab col del =>
    simp only at hm e3 e5 e6;subst hm e3;have z:sl=#[k0,k1,k2,k3,some (.builtin n),k5]:=by
     cases sl with
     | mk l=>simp only at hs;rw[hs]
    subst z;exact⟨bm,ns,nm,qn,bs,hd,sn,sub,ab,col,dd,k0,k1,k2,k3,k5,_,XK _ _ ho,.of_isNs (PySem.W.isNs_of_in XK e5),PySem.W.nsMap_none_of_in XK e5 e6,PySem.W.tail_of_in XK e4⟩
  next=>cases q
 next=>cases q
noncomputable def AV (C:Addr) (E:St->XK) (t:TA):TS:=fun _ σ H=>t σ H fun vs H1=>vs.length<=sizeLine/\E σ (.ref C) none H1
theorem EO {C:Addr}{E:St->XK}{t:TA}{D:Ends}{σ:St}{H:Hp}:AV C E t D σ H=t σ H fun vs H1=>vs.length<=sizeLine/\E σ (.ref C) none H1:=propext Iff.rfl
section
variable {X:Cx}
theorem dX {E:St->XK}{B newId initId:String}{e₀:Expr}{rest:List Expr}{t:TA}{np cpos pos:Pos} (FB:ExcBaseFacts B newId initId bmB) (hq:PySem.W.excIn X.K C bmB newId=true) (hm:X.mg x=some (.ref C))
  (hrx:ED X E) (hc:X.calm=true) (ha:PA X (e₀::rest) t) (hg:X.env.kindOf x=some .globalImplicit:=by ext) (hd:(x==("__debug__":Str))=false:=by ext) (hs:eF (e₀::rest)=true:=by ext) :
  PS X (.Raise (some (.Call (.Name x np) (e₀::rest) [] cpos)) none pos) (AV C E t):=by
 intro Yp s σ H D I h;obtain⟨bm,N,nm,qn,bs,hdct,sn,sub,ab,col,dd,k0,k1,k2,k3,k5,mN,g1,g2,g3,g4⟩:=DA I.ok.mod.kin hq;have he:=bo (es:=rest) (env:=X.env) (bB hs).1;refine wpAny_Raise_call_subT (C:=C) (nm:=nm) (q:=qn) (N:=N) (bs:=bs) (bm:=bm) (hdct:=hdct) (sn:=sn) (sub:=sub) (ab:=ab) (col:=col) (dd:=dd) (k0:=k0) (k1:=k1) (k2:=k2) (k3:=k3) (k5:=k5)
  FB (mN:=mN) (g4.hasType FB.hasBase) (I.ok.hd hc) (dI hs) g3 (ko I hg hm ⟨rfl,?_⟩ hd)
 have ha':=ha cpos Yp s σ H _ I h;rw[he] at ha' ⊢;refine Calls.evalArgs_plain (bM ha' (fun vs s2 h2=>?_) fun _ _ y=>y);obtain⟨xs,H2,I2,r,z,q⟩:=h2;exact⟨rfl,by rw[←r.length];exact z,I2.bk _ _ g1,g2.keeps I2.bk,g4.keeps I2.bk,fun h' e hx=>hrx Yp σ H2 s2 h' e C vs I2 hx q⟩
end
end
section
noncomputable def rD (a:Addr) (c:Value) (d:Option Addr):HO:=.ext fun h=>∃ o,h.get? a=some o/\o.cls=c/\XD o d
theorem BH {c:Value}{o:Obj} (e:h.get? a=some o) (h1:o.cls=c) (h2:XD o d):bY P w H h a (rD a c d) :=
 ⟨⟨o,e,h1,h2⟩,⟨o,e⟩,fun _ _ ⟨o,e,q⟩ k=>⟨o,k o e,q⟩⟩
theorem Cz {l:List Env}{H1 H':Hp}{h1 h' h5 B:Heap} (u:Un (frs l) [] H1 H' h1 h') (hk:∀ b o,h'.get? b=some o->b∉frs l->(H' b≠none∨∃ u,h1.get? b=some u)->B.get? b=some o) (hB:B.StaysIn h5) (hsm:h'.UpToSlots h5)
  (hfr:∀ b∈frs l,∃ o,h'.get? b=some o/\∀ vs,o.data≠.fields vs):Un (frs l) [] H1 H' h1 h5 where
 keep:=fun b o e n hb hx=>hB b o (hk b o (u.keep b o e n hb hx) hb (.inr ⟨o,e⟩))
 slot:=fun b o e n hb hx=>by obtain⟨sl,e1⟩:=u.slot b o e n hb hx;obtain⟨o1,e2,hd⟩:=hfr b hb;rw[e1] at e2;cases e2;obtain⟨sl',e3⟩:=hsm b _ e1 hd;exact⟨sl',e3⟩
 free:=u.free
 there:=fun b o e hx=>by
  obtain⟨o1,e1⟩:=u.there b o e hx
  by_cases hb:b∈frs l
  ·obtain⟨o2,e2,hd⟩:=hfr b hb;obtain⟨sl,e3⟩:=hsm b _ e2 hd;exact⟨_,e3⟩
  ·exact⟨o1,hB b o1 (hk b o1 e1 hb (.inr ⟨o,e⟩))⟩
 tups:=u.tups
 frzs:=u.frzs
 tbls:=u.tbls
theorem yt {l:List Env}{H':Hp}{h1 h' h5 B:Heap} (hok:HOk P w H' h') (hk:∀ b o,h'.get? b=some o->b∉frs l->(H' b≠none∨∃ u,h1.get? b=some u)->B.get? b=some o) (hB:B.StaysIn h5)
  (hf:∀ b∈frs l,H' b=none):HOk P w H' h5:=fun a o e=>by
 refine (hok a o e).mF (fun c v hc q=>hB c v (hk c v q ?_ (.inl ?_))) (fun _ q=>q) fun _ _ q=>q
 ·intro z;have:=hf c z;rcases hc with rfl | hc
  ·rw[e] at this;cases this
  ·rw[hc] at this;cases this
 ·rcases hc with rfl | hc
  ·rw[e];simp
  ·rw[hc];simp
section
variable {X:Cx}{Yp:Zp}{σ:St}{H:Hp}{s:Zg}
theorem Inv.Hv {o:HO} (I:Inv X Yp σ H s) (hn:H a=none) (h0:X.s₀.heap.get? a=none) (hL:a≠X.env.locals) (hc:∀ x c,X.env.cells.lookup x=some c->c≠a) (hp:∀ p∈X.pn++Yp,p.1≠a)
  (ho:bY X.prog X.w (upd H a o) s.heap a o):Inv X Yp σ (upd H a o) s where
 ok:=I.ok
 os:=I.os
 bare:=I.bare
 base:=by
  have ne:∀ b u,X.s₀.heap.get? b=some u->b≠a:=fun b u e z=>by rw[z,h0] at e;cases e
  refine⟨I.base.keep,I.base.slot,fun b u e n hx=>by rw[aJ (ne b u e)];exact I.base.free b u e n hx,I.base.there,fun b xs q=>?_,fun b ob u q=>?_,fun b ps q=>?_⟩
  ·have:=I.base.tups b xs q;rw[aJ (fun z=>by rw[z,hn] at this;cases this)];exact this
  ·have:=I.base.frzs b ob u q;rw[aJ (fun z=>by rw[z,hn] at this;cases this)];exact this
  ·obtain⟨m,e⟩:=I.base.tbls b ps q;exact⟨m,by rw[aJ (fun z=>by rw[z,hn] at e;cases e)];exact e⟩
 loc:=I.loc
 cell:=I.cell
 free:=by rw[aJ (bD hL)];exact I.free
 freeC:=fun x c e=>by rw[aJ (hc x c e)];exact I.freeC x c e
 pin:=fun p h=>by obtain⟨h1,h2,h3⟩:=I.pin p h;exact⟨h1,by rw[aJ (hp p h)];exact h2,h3⟩
 hok:=fun b u e=>by
  by_cases hb:b=a
  ·subst hb;rw[aE] at e;cases e;exact ho
  ·rw[aJ hb] at e;refine (I.hok b u e).mF (fun _ _ _ q=>q) (fun c q=>?_) fun c xs q=>?_
   ·rw[aJ (fun z=>by rw[z,hn] at q;cases q)];exact q
   ·rw[aJ (fun z=>by rw[z,hn] at q;cases q)];exact q
 len:=I.len
theorem oO {A:Around}{E:Zq}{n:Str}{pos:Pos}{Q:Unit->Zg->Prop} (I:Inv X Yp σ H s) (hN:X.N.Nodup) (hi:X.N[i]?=some n) (hn:X.env.scope.names.lookup n=some .local)
  (h:∀ s',Inv X Yp (σ.set i none) H s'->Q () s'):wpAny (model X.prog X.w) A (do bindName X.env n .none;unbindBehindTheSuite X.env n pos) Q E s:=by
 have hiσ:i<σ.length:=by rw[I.len];exact (b7.mp hi).1
 refine aa (wpAny_bindName (lF (v:=.non) I hN hi (.inl hn) rfl (fun s1 I1=>?_) (.inr hn)));obtain⟨m,hm,hl⟩:=id I1.loc;obtain⟨u,_,hu⟩:=hl i n .non hi (by rw[jX hiσ]) (.inl hn);have hv:∃ v,m n=some v:=by
  rcases hu with ⟨_,e⟩ | ⟨k,_⟩
  ·exact⟨_,e⟩
  ·have k':X.env.scope.names.lookup n=some .cell∨X.env.scope.names.lookup n=some .free:=k;rw[hn] at k';rcases k' with z | z<;>cases z
 obtain⟨v,hv⟩:=hv;have hcls:(X.env.scope.kind==.class||(X.env.scope.kind==.module&&X.env.locals != X.env.globals))=false:=by rw[I.ok.kind];rfl
 unfold unbindBehindTheSuite;refine wpAny_onRaise (wpAny_unbindName_local hn hm hv hcls fun h' w' hn' hs=>h _ ?_);have older:∀ b o,X.s₀.heap.get? b=some o->b≠X.env.locals:=fun b o e=>aW (bK (aG e) I.ok.above);refine⟨I1.ok,I1.os,I1.bare,⟨fun b o e k hb hx=>(hs.2 b (older b o e)).trans (I1.base.keep b o e k hb hx),fun b o e k hb hx=>?_,I1.base.free,fun b o e hx=>?_,I1.base.tups,I1.base.frzs,I1.base.tbls⟩,
  ⟨_,hn',fun j y v' e1 e2 e3=>?_⟩,fun y c e=>?_,I1.free,I1.freeC,fun p hp=>?_,fun b ob e=>?_,by rw[eQ];exact I.len⟩
 ·obtain⟨sl,e1⟩:=I1.base.slot b o e k hb hx;exact⟨sl,(hs.2 b (older b o e)).trans e1⟩
 ·obtain⟨o',e1⟩:=I1.base.there b o e hx;exact⟨o',(hs.2 b (older b o e)).trans e1⟩
 ·by_cases hj:j=i
  ·subst hj;rw[jX hiσ] at e2;cases e2
  ·rw[jc (bD hj)] at e2;obtain⟨u',r',q⟩:=hl j y v' e1 (by rw[jc (bD hj)];exact e2) e3;refine⟨u',r',?_⟩;rcases q with ⟨k,e⟩ | ⟨k,c,e,z⟩
   ·refine .inl ⟨k,?_⟩;have:y≠n:=fun e=>hj (uq hN e1 (e ▸ hi));simp [this,e]
   ·exact .inr ⟨k,c,e,z.sameBut hs (I1.cne y c e)⟩
 ·obtain⟨w2,z⟩:=I1.cell y c e;exact⟨w2,z.sameBut hs (I1.cne y c e)⟩
 ·obtain⟨e,k,ne,nf,d⟩:=I1.pin p hp;exact⟨(hs.2 p.1 ne).trans e,k,ne,nf,d⟩
 ·refine (I1.hok b ob e).mF (fun c w2 hc q=>(hs.2 c ?_).trans q) (fun _ q=>q) fun _ _ q=>q;rintro rfl;have:=I1.free;rcases hc with rfl | hc
  ·rw[this] at e;cases e
  ·rw[this] at hc;cases hc
noncomputable def Ends.un (D:Ends) (i:Nat):Ends:=⟨fun σ H=>D.nx (σ.set i none) H,D.rt,fun σ H=>D.bk (σ.set i none) H,fun σ H=>D.ct (σ.set i none) H⟩
noncomputable def MH (K:Zf) (tb:(St->XK)->TS) (CE:Addr) (i:Nat) (th:TS):TS:=fun D σ H =>tb (fun σ' c d H'=>PySem.W.exmOne K c (.ref CE)=some true/\∀ ea H2,H' ea=none->az H' H2->H2 ea=some (rD ea c d)->th (D.un i) (σ'.set i (some (.ref ea))) H2) D σ H
theorem Inv.M9 {xe:Zq} (I:Inv X Yp σ H s):Inv { X with pn:=X.pn++Yp,xe:=xe } [] σ H s :=
 ⟨⟨I.ok.mod,I.ok.kind,I.ok.glob,I.ok.blt,I.ok.above,I.ok.inj,I.ok.has,I.ok.cab,I.ok.hd,I.ok.frames,I.ok.stk,I.ok.exf,I.ok.bs,I.ok.bsz,I.ok.noex,I.ok.exfs,I.ok.rE,I.ok.frf⟩,I.os,I.bare,I.base,I.loc,I.cell,I.free,I.freeC,
  fun p h=>I.pin p (by simpa using h),I.hok,I.len⟩
theorem Inv.kD {pins':Zp} (I:Inv { X with pn:=X.pn++Yp,xe:=xe } pins' σ H s):Inv X Yp σ H s :=
 ⟨⟨I.ok.mod,I.ok.kind,I.ok.glob,I.ok.blt,I.ok.above,I.ok.inj,I.ok.has,I.ok.cab,I.ok.hd,I.ok.frames,I.ok.stk,I.ok.exf,I.ok.bs,I.ok.bsz,I.ok.noex,I.ok.exfs,I.ok.rE,I.ok.frf⟩,I.os,I.bare,I.base,I.loc,I.cell,I.free,I.freeC,
  fun p h=>I.pin p (lN _ h),I.hok,I.len⟩
theorem Inv.wW {e:Option Value} (I:Inv X Yp σ H s):Inv { X with A:=X.A.mark e,calm:=false,xe:=fun _ _=>False } Yp σ H s :=
 ⟨⟨I.ok.mod,I.ok.kind,I.ok.glob,I.ok.blt,I.ok.above,I.ok.inj,I.ok.has,I.ok.cab,(fun z=>by cases z),I.ok.frames,I.ok.stk,I.ok.exf,I.ok.bs,I.ok.bsz,I.ok.noex,I.ok.exfs,I.ok.rE,I.ok.frf⟩,I.os,I.bare,I.base,I.loc,I.cell,I.free,I.freeC,
  I.pin,I.hok,I.len⟩
theorem Inv.markFrom {e:Option Value} (ok:X.Ok) (I:Inv { X with A:=X.A.mark e,calm:=false,xe:=xe } Yp σ H s):Inv X Yp σ H s :=
 ⟨ok,I.os,I.bare,I.base,I.loc,I.cell,I.free,I.freeC,I.pin,I.hok,I.len⟩
theorem LG {body:List Stmt}{b₀:Stmt}{suite:List Stmt}{x n:Str}{i:Nat}{CE:Addr}{np hpos pos:Pos}{tb:(St->XK)->TS}{th:TS} (hst:X.stack=X.env::X.outer) (hf:X.env.frame=some X.env.locals) (hex:X.ex=[]) (hN:X.N.Nodup) (hm:X.mg x=some (.ref CE))
  (hb:∀ (pn:Zp) (xe:Zq) (E:St->XK),PassesOwn (model X.prog X.w) X.A X.env xe->Passes (CX1 X.prog X.w) { X with pn:=pn,xe:=xe } E->PSs { X with pn:=pn,xe:=xe } body (tb E))
  (hh:∀ ea:Addr,PSs { X with A:=X.A.mark (some (.ref ea)),calm:=false,xe:=fun _ _=>False } (b₀::suite) th)
  (hi:X.N[i]?=some n:=by ext) (hn:X.env.scope.names.lookup n=some .local:=by ext) (hg:X.env.kindOf x=some .globalImplicit:=by ext) (hd:(x==("__debug__":Str))=false:=by ext) :
  PS X (.Try body [.ExceptHandler (some (.Name x np)) (some n) (b₀::suite) hpos] [] [] pos) (MH X.K tb CE i th):=by
 intro Yp s σ H D I h;refine wpAny_Try_except ?_;refine bM (hb (X.pn++Yp) _ _ PassesOwn.looking ?_ [] s σ H D I.M9 h) ?_ (fun e s1 he=>he)
 ·intro pins' σ' H1 s1 e s' I' hcx;obtain⟨ea,C,t,B,H',d,rfl,os,bare,un,hok,fl,⟨oe,hoe,hdo⟩,hdx,hkb,htrue,hE⟩:=hcx;have IX:Inv X Yp σ' H1 s1:=I'.kD;have I2:Inv X Yp σ' H' s':=IX.vD (ch:=[]) os un hok bare (fun b z=>absurd z (by simp));have hfr:∀ b∈frs X.stack,∃ o,s'.heap.get? b=some o/\∀ vs,o.data≠.fields vs:=fun b hb=>(I2.stack.mem hb).2;have hff:∀ b∈frs X.stack,H' b=none:=I2.qP;obtain⟨oe0,vs0,hoe0,_,hdat0,_⟩:=fl.first;have nfr:ea∉frs X.stack:=fun z=>by
   obtain⟨o,e1,e2⟩:=hfr ea z;rw[hoe0] at e1;cases e1;exact e2 _ hdat0
  have hea:H' ea=none:=by
   cases q:H' ea with
   | none=>rfl
   | some o=>have:=hkb ea oe hoe nfr (.inl (by rw[q];simp));rw[fl.2.1] at this;cases this
  have new1:s1.heap.get? ea=none:=by
   cases q:s1.heap.get? ea with
   | none=>rfl
   | some o=>have:=hkb ea oe hoe nfr (.inr ⟨o,q⟩);rw[fl.2.1] at this;cases this
  have new0:X.s₀.heap.get? ea=none:=by
   cases q:X.s₀.heap.get? ea with
   | none=>rfl
   | some o =>obtain⟨o2,e2⟩:=IX.base.there ea o q (by rw[hex];simp);rw[new1] at e2;cases e2
  have mk:∀ h6,Heap.FlyingW B X.stack ea (.ref C) (.ref t) h6->s'.heap.UpToSlots h6->(∃ o6,h6.get? ea=some o6/\XD o6 d)->Inv X Yp σ' (upd H' ea (rD ea (.ref C) d)) { s' with heap:=h6 }:=by
   intro h6 f6 sm6 ⟨o6,e6,d6⟩;have J:Inv X Yp σ' H' { s' with heap:=h6 }:=IX.vD (s':={ s' with heap:=h6 }) (ch:=[]) os (Cz un hkb f6.1 sm6 hfr) (yt hok hkb f6.1 hff) bare (fun b z=>absurd z (by simp));obtain⟨o7,v7,e7,c7,t7,_⟩:=f6.first;rw[e6] at e7;cases e7;refine J.Hv hea new0 (fun z=>?_) (fun y c e z=>?_) (fun p hp z=>?_) (BH e6 c7 d6)
   ·obtain⟨m,⟨ob,_,_,e9,_⟩,_⟩:=IX.loc;rw[←z,new1] at e9;cases e9
   ·obtain⟨w9,o9,e9,_⟩:=IX.cell y c e;rw[z,new1] at e9;cases e9
   ·have e9:=(IX.pin p hp).1;rw[z,new1] at e9;cases e9
  refine bM (KD.any (E:=fun _ _=>False) (wV _ _) (wpAny_looks_onW (Q:=fun _ s''=>∃ h4,s''={ s' with heap:=h4 }/\Heap.HeldW B X.stack ea (.ref C) (.ref t) X.env.locals h4/\s'.heap.UpToSlots h4) (by rw[←hst];exact I.ok.frames) hf (by rw[←hst];exact fl) fun h4 x1 x2=>⟨h4,rfl,by rw[hst];exact x1,x2⟩)) ?_ (fun _ _ z=>False.elim z.1);rintro _ _ ⟨⟨h4,rfl,l4,sm4⟩,dk4⟩;refine bM (KD.any (E:=fun _ _=>False) (lr _ _) (wpAny_landsW (s:={ s' with heap:=h4 }) (Q:=fun _ s''=>∃ h5,s''={ s' with heap:=h5 }/\Heap.FlyingW B X.stack ea (.ref C) (.ref t) h5/\h4.UpToSlots h5) l4 fun h5 x1 x2=>⟨h5,rfl,x1,x2⟩)) ?_ (fun _ _ z=>False.elim z.1);rintro _ _ ⟨⟨h5,rfl,f5,sm5⟩,dk5⟩;obtain⟨o5,e5,_,d5,g5⟩:=(dk4.trans dk5) ea oe hoe;have I5:=mk h5 f5 (sm4.trans sm5) ⟨o5,e5,hdo.dk d5 g5⟩;obtain⟨o5',v5,e5',c5,t5,_⟩:=f5.first;rw[e5] at e5';cases e5';refine wpAny_handleBy_cons (codeAny_handlers_test ?_) (by intro q;cases q);refine ko (X:={ X with A:=X.A.mark (some (.ref ea)),calm:=false,xe:=fun _ _=>False }) I5.wW hg hm ?_ hd;have LT:PySem.W.Looks (model X.prog X.w) h5 (typeOf (.ref ea)) (.ref C):=c5 ▸ (PySem.W.Looks.ld e5).andThen .now;refine PySem.W.exm_one I5.kIn LT htrue _ _ _ _ (fun _ _ e=>e) ?_;refine codeAny_handlers_suite_as ?_;refine bM (KD.any (E:=fun _ _=>False) (lr _ _) (lands_againW (s:={ s' with heap:=h5 }) (Q:=fun _ s''=>∃ h6,s''={ s' with heap:=h6 }/\Heap.FlyingW B X.stack ea (.ref C) (.ref t) h6/\h5.UpToSlots h6) f5 fun h6 x1 x2=>⟨h6,rfl,x1,x2⟩)) ?_ (fun _ _ z=>False.elim z.1);rintro _ _ ⟨⟨h6,rfl,f6,sm6⟩,dk6⟩;obtain⟨o6,e6,_,d6,g6⟩:=dk6 ea o5 e5;have I6:=mk h6 f6 ((sm4.trans sm5).trans sm6) ⟨o6,e6,(hdo.dk d5 g5).dk d6 g6⟩;refine lF (X:={ X with A:=X.A.mark (some (.ref ea)),calm:=false,xe:=fun _ _=>False }) (v:=.ref ea) I6.wW hN hi (.inl hn) rfl (fun s7 I7=>?_) (.inr hn);refine bM (hh ea Yp s7 _ _ (D.un i) I7 (hE ea _ hea (du hea) aE)) (fun f s8 hsp=>?_) (fun _ _ z=>False.elim z);cases f with
  | next =>obtain⟨σ9,H9,I9,q9⟩:=hsp;exact oO (Inv.markFrom I.ok I9) hN hi hn fun s9 J=>⟨_,H9,J,q9⟩
  | brk =>obtain⟨σ9,H9,I9,q9⟩:=hsp;exact oO (Inv.markFrom I.ok I9) hN hi hn fun s9 J=>⟨_,H9,J,q9⟩
  | cont =>obtain⟨σ9,H9,I9,q9⟩:=hsp;exact oO (Inv.markFrom I.ok I9) hN hi hn fun s9 J=>⟨_,H9,J,q9⟩
  | ret u =>obtain⟨v9,σ9,H9,I9,r9,q9⟩:=hsp;exact oO (Inv.markFrom I.ok I9) hN hi hn fun s9 J=>⟨v9,_,H9,J,r9,q9⟩
 ·intro f s1 hsp;cases f with
  | next =>obtain⟨σ9,H9,I9,q9⟩:=hsp;exact lX ⟨σ9,H9,I9.kD,q9⟩
  | brk =>obtain⟨σ9,H9,I9,q9⟩:=hsp;exact⟨σ9,H9,I9.kD,q9⟩
  | cont =>obtain⟨σ9,H9,I9,q9⟩:=hsp;exact⟨σ9,H9,I9.kD,q9⟩
  | ret u =>obtain⟨v9,σ9,H9,I9,r9,q9⟩:=hsp;exact⟨v9,σ9,H9,I9.kD,r9,q9⟩
end
end
section
theorem IF:builtinKind "BaseException.__getattribute__"=some Manifest.AttrKind.slot:=by nofun
theorem F7:splitId "BaseException.__getattribute__"=some ("BaseException","__getattribute__"):=by nofun
theorem F6 {A:Around}{E:Zq}{x:Addr}{nm:Value}{Q:Unit->Zg->Prop} (l:PySem.W.Looks M s.heap (isInstance (.ref x) (.type "BaseException")) true) (q:Q () s) :
  wpAny M A (checkBuiltinCall "BaseException.__getattribute__" { pos:=[.ref x,nm] }) Q E s :=
 PySem.W.check_slot (i:="BaseException.__getattribute__") (self:=.ref x) (rest:=[nm]) (kw:=[]) IF F7 l (F.args_bexc_ga _ _) q
structure CA (K:Zf) (C:Addr):Prop where
 ga:PySem.W.findIn K (.ref C) "__getattribute__"=some (some (.builtin "BaseException.__getattribute__"))
 gn:PySem.W.findIn K (.ref C) "__getattr__"=some none
 sb:PySem.W.subIn K (.ref C) (.type "BaseException")=some true
 cl:(PySem.W.clsIn K C).isSome=true
 ha:PySem.W.findIn K (.ref C) "__class__"=some (some (.builtin "object.__class__"))
 hn:PySem.W.specialIn K (.builtin "object.__class__") "__get__"=some (some (.builtin "getset_descriptor.__get__"))
 htk:PySem.W.takesIn K (.builtin "object.__class__")=some true
 hm:PySem.W.mroIn K C (.type "object")=some true
noncomputable def TyX (K:Zf) (H:Hp) (x:V) (t:Value):Prop:=oW K H x t∨∃ a C,x=.ref a/\t=.ref C/\H a=some (rD a (.ref C) none)/\CA K C
noncomputable def MD (K:Zf):List V->Hp->VK->Prop:=fun vs H Q=>match vs with
 | [x,.ty n]=>∃ t b,TyX K H x t/\PySem.W.kitOne K t (.type n)=some b/\Q (.bl b) H
 | [x,.ref c]=>∃ t b,TyX K H x t/\(PySem.W.kitOne K t (.ref c)=some b∨∃ (a C:Addr) (cs:List Addr),x=.ref a/\t=.ref C/\H a=some (rD a (.ref C) none)/\CA K C/\H c=some (.tup (cs.map V.ref))/\PySem.W.kitAny K t (cs.map Value.ref)=some b)/\Q (.bl b) H
 | _=>False
noncomputable def Fu (K:Zf) (C:Addr):Bool :=
 PySem.W.findIn K (.ref C) "__getattribute__"==some (some (.builtin "BaseException.__getattribute__"))&&PySem.W.findIn K (.ref C) "__getattr__"==some none&&PySem.W.subIn K (.ref C) (.type "BaseException")==some true&&(PySem.W.clsIn K C).isSome&&PySem.W.findIn K (.ref C) "__class__"==some (some (.builtin "object.__class__")) &&
 PySem.W.specialIn K (.builtin "object.__class__") "__get__"==some (some (.builtin "getset_descriptor.__get__"))&&PySem.W.takesIn K (.builtin "object.__class__")==some true&&PySem.W.mroIn K C (.type "object")==some true
theorem Fv (h:Fu K C=true):CA K C:=by unfold Fu at h;simp only[bP,eT] at h;obtain⟨⟨⟨⟨⟨⟨⟨h1,h1'⟩,h1''⟩,h2⟩,h3⟩,h4⟩,h5⟩,h6⟩:=h;exact⟨h1,h1',h1'',h2,h3,h4,h5,h6⟩
noncomputable def wI (K:Zf) (b:Addr) (cs:List Addr):Bool :=
 cs.all fun c=>Fu K c&&PySem.W.exmOne K (.ref c) (.ref b)==some true&&PySem.W.kitOne K (.ref c) (.type "ValueError")==some true&&PySem.W.kitOne K (.ref c) (.ref b)==some true &&
  cs.all fun d=>PySem.W.kitOne K (.ref c) (.ref d)==some (c==d)
structure Err (K:Zf) (b:Addr) (cs:List Addr) (c:Addr):Prop where
 ex:CA K c
 em:PySem.W.exmOne K (.ref c) (.ref b)=some true
 ve:PySem.W.kitOne K (.ref c) (.type "ValueError")=some true
 ba:PySem.W.kitOne K (.ref c) (.ref b)=some true
 kd:∀ d∈cs,PySem.W.kitOne K (.ref c) (.ref d)=some (c==d)
theorem KA {b:Addr}{cs:List Addr} (h:wI K b cs=true) {c:Addr} (hc:c∈cs):Err K b cs c:=by unfold wI at h;have h:=cj.mp h c hc;simp only[bP,eT] at h;obtain⟨⟨⟨⟨h1,h2⟩,h3⟩,h4⟩,h5⟩:=h;exact⟨Fv h1,h2,h3,h4,fun d hd=>by have:=cj.mp h5 d hd;simpa using this⟩
theorem Err.any {K:Zf}{b:Addr}{cs:List Addr}{c:Addr} (E:Err K b cs c):∀ {ds:List Addr},(∀ d∈ds,d∈cs)->PySem.W.kitAny K (.ref c) (ds.map Value.ref)=some (ds.contains c)
 | [],_=>rfl
 | d::r,h=>by show (match PySem.W.kitOne K (.ref c) (.ref d) with | some true=>some true | some false=>PySem.W.kitAny K (.ref c) (r.map Value.ref) | none=>none)=_;rw[E.kd d (h d aS),Err.any E (fun x hx=>h x (aU _ hx)),List.contains_cons];cases (c==d)<;>rfl
theorem eN {v:V} (h:∃ u,X.mg x=some u/\RelV v u) (hg:X.env.kindOf x=some .globalImplicit:=by ext) (hd:(x==("__debug__":Str))=false:=by ext):PE X (.Name x pos) (tC v):=by obtain⟨u,h1,h2⟩:=h;exact Jd hg h1 h2 hd
theorem K0 {K:Zf}{tb:(St->XK)->TS}{CE:Addr}{i:Nat}{th:TS}{D:Ends}{σ:St}{H:Hp}:MH K tb CE i th D σ H =
 tb (fun σ' c d H'=>PySem.W.exmOne K c (.ref CE)=some true/\∀ ea H2,H' ea=none->az H' H2->H2 ea=some (rD ea c d)->th (D.un i) (σ'.set i (some (.ref ea))) H2) D σ H:=propext Iff.rfl
end
section
noncomputable def up (t:TE):TE:=fun σ H R=>∃ R',t σ H R'/\∀ x H,R' x H->R x H
noncomputable def upA (t:TA):TA:=fun σ H R=>∃ R',t σ H R'/\∀ x H,R' x H->R x H
theorem PE.up {X:Cx}{e:Expr}{t:TE} (h:PE X e t):PE X e (up t):=fun Yp s σ H Q I ⟨R',h1,h2⟩=>thn (h Yp s σ H R' I h1) fun _ _ ⟨v,H',I',r,q⟩=>⟨v,H',I',r,h2 v H' q⟩
theorem PA.up {t:TA} (h:PA X es t):PA X es (upA t):=fun pos Yp s σ H Q I ⟨R',h1,h2⟩=>thn (h pos Yp s σ H R' I h1) fun _ _ ⟨v,H',I',r,q⟩=>⟨v,H',I',r,h2 v H' q⟩
noncomputable def GK (K:Zf) (f:Str) (x:V) (H:Hp) (Q:VK):Prop:=match x with
 | .ref a=>∃ C dx fs v,H a=some (.ins C dx fs)/\Cls K C/\gU K C f/\fs.lookup f=some v/\Q v H
 | _=>False
noncomputable def Hq (K:Zf) (ta:TE) (f:Str):TE:=fun σ H Q=>ta σ H fun x H1=>GK K f x H1 Q
theorem Kr {K:Zf}{ta:TE}{f:Str}{σ:St}{H:Hp}{Q:VK}:Hq K ta f σ H Q=ta σ H fun x H1=>GK K f x H1 Q:=propext Iff.rfl
noncomputable def GS (K:Zf) (f:Str) (y x:V) (H:Hp) (Q:Hp->Prop):Prop:=match x with
 | .ref a=>∃ C dx fs,H a=some (.ins C dx fs)/\Cls K C/\gU K C f/\fs.length<1000/\Q (upd H a (.ins C dx (mL f y fs)))
 | _=>False
noncomputable def JX (K:Zf) (ta tv:TE) (f:Str):TS:=fun D σ H=>tv σ H fun y H1=>ta σ H1 fun x H2=>GS K f y x H2 fun H3=>D.nx σ H3
theorem Ic {K:Zf}{ta tv:TE}{f:Str}{D:Ends}{σ:St}{H:Hp}:JX K ta tv f D σ H=tv σ H fun y H1=>ta σ H1 fun x H2=>GS K f y x H2 fun H3=>D.nx σ H3:=propext Iff.rfl
section
variable {X:Cx}{K:Zf}
theorem cH {ta:TE} (hK:X.K=K) (he:PE X e ta) (hb:attributeBase e f X.env (eval e X.env)=eval e X.env:=by ext):PE X (.Attribute e f pos) (Hq K ta f):=by
 subst hK;intro Yp s σ H Q I h;refine Lz (ta:=up ta) he.up hb Yp s σ H Q I ⟨_,h,fun x H1 hx=>?_⟩;cases x with
 | ref a=>obtain⟨C,dx,fs,v,h1,h2,h3,h4,h5⟩:=hx;exact⟨a,C,dx,fs,v,rfl,h1,h2,h3,h4,h5⟩
 | _=>exact False.elim hx
theorem oK {o value:Expr}{ta tv:TE}{pos pos':Pos} (hK:X.K=K) (ha:PE X o ta) (hv:PE X value tv) (hs:swapsWith value (some (.Attribute o f pos')) pos.line X.env=pure false:=by ext) :
  PS X (.Assign [.Attribute o f pos'] value pos) (JX K ta tv f):=by
 subst hK;intro Yp s σ H D I h;refine LD (ta:=up ta) (tv:=up tv) ha.up hv.up hs Yp s σ H D I ⟨_,h,fun y H1 hy=>⟨_,hy,fun x H2 hx=>?_⟩⟩;cases x with
 | ref a=>obtain⟨C,dx,fs,h1,h2,h3,h4,h5⟩:=hx;exact⟨a,C,dx,fs,rfl,h1,h2,h3,h4,h5⟩
 | _=>exact False.elim hx
end
structure Mtd (P:Zh) (w:Zi) (K:Zf) (mg:Zk) (base:Heap) (CX:CXT) (C:Addr) (m:Str) (k:Nat) (ps:Ze) (sp:Sp):Prop where
 ex:∃ (f:Addr) (fd:FuncData),bU P w K mg base CX k f fd ps sp/\Meth K C m f/\Binds K fd ps []
 cl:Cls K C
noncomputable def AR (C:Addr) (m:Str) (x:V) (H:Hp) (Q:Hp->Prop):Prop:=match x with
 | .ref a=>∃ dx fs,H a=some (.ins C dx fs)/\fs.lookup m=none/\Q H
 | _=>False
noncomputable def xP (C:Addr) (m:Str) (sp:Sp) (E:St->XK) (ta:TE) (t:TA):TE:=fun σ H Q=>ta σ H fun x H1=>AR C m x H1 fun H1=>t σ H1 fun vs H2=>sp (x::vs) H2 Q (E σ)
theorem HX {C:Addr}{m:Str}{sp:Sp}{E:St->XK}{ta:TE}{t:TA}{σ:St}{H:Hp}{Q:VK}:xP C m sp E ta t σ H Q=ta σ H fun x H1=>AR C m x H1 fun H1=>t σ H1 fun vs H2=>sp (x::vs) H2 Q (E σ):=propext Iff.rfl
section
variable {X:Cx}{CX:CXT}{E:St->XK}
theorem dU {pl:Sem Bool}{k:Nat}{o e:Expr}{ta:TE}{t:TA}{apos pos:Pos} (M:Mtd X.prog X.w X.K X.mg X.base CX C m k ps sp) (hx:Passes CX X E) (hr:fD k X.A) (he:PE X o ta) (ha:PA X (e::es) t)
  (hs:eF (e::es)=true:=by ext)
  (ht:eval (.Call (.Attribute o m apos) (e::es) [] pos) X.env=(do
   let ov ←eval o X.env
   standAt apos.atName
   let (f,first) ←holding [ov] (getMethod ov m pl)
   callWith pos f first (backTo pos (starEach (e::es) X.env)) (backToKw pos (keywordEach [] X.env))):=by rfl) :
  PE X (.Call (.Attribute o m apos) (e::es) [] pos) (xP C m sp E ta t):=by
 obtain⟨f,fd,F,hm,hb⟩:=M.ex;intro Yp s σ H Q I h;refine Jg (ta:=up ta) (t:=t) he.up M.cl hm F hr hb .nil hx ha (bo (bB hs).1) (dI (bB hs).2) ht Yp s σ H Q I ⟨_,h,fun x H1 q=>?_⟩;cases x with
 | ref a =>obtain⟨dx,fs,h1,h2,h3⟩:=q;refine⟨a,dx,fs,rfl,h1,h2,?_⟩;simp only[fR];exact h3
 | _=>exact False.elim q
theorem cS {pl:Sem Bool}{k:Nat}{o:Expr}{ta:TE}{apos pos:Pos} (M:Mtd X.prog X.w X.K X.mg X.base CX C m k ps sp) (hx:Passes CX X E) (hr:fD k X.A) (he:PE X o ta)
  (ht:eval (.Call (.Attribute o m apos) [] [] pos) X.env=(do
   let ov ←eval o X.env
   standAt apos.atName
   let (f,first) ←holding [ov] (getMethod ov m pl)
   callWith pos f first (backTo pos (starEach [] X.env)) (backToKw pos (keywordEach [] X.env))):=by rfl) :
  PE X (.Call (.Attribute o m apos) [] [] pos) (xP C m sp E ta Bk):=by
 obtain⟨f,fd,F,hm,hb⟩:=M.ex;intro Yp s σ H Q I h;refine GA (ta:=up ta) he.up M.cl hm F hr hb .nil hx ht Yp s σ H Q I ⟨_,h,fun x H1 q=>?_⟩;cases x with
 | ref a =>obtain⟨dx,fs,h1,h2,h3⟩:=q;exact⟨a,dx,fs,rfl,h1,h2,h3⟩
 | _=>exact False.elim q
end
structure Mak (P:Zh) (w:Zi) (K:Zf) (mg:Zk) (base:Heap) (CX:CXT) (C:Addr) (x:Str) (k:Nat) (ps:Ze) (sp:Sp):Prop where
 ex:∃ (f:Addr) (fd:FuncData),bU P w K mg base CX k f fd ps sp/\Mk K C f/\Binds K fd ps []
 mg:mg x=some (.ref C)
noncomputable def Hr (C:Addr) (sp:Sp) (E:St->XK) (t:TA):TE:=fun σ H Q=>t σ H fun vs H1=>∀ x dx H2,H1 x=none->H1 dx=none->dx≠x->az H1 H2->H2 x=some (.ins C dx [])->H2 dx=some (.own x)->sp (.ref x::vs) H2 (fun v H3=>v=.non/\Q (.ref x) H3) (E σ)
theorem HW {C:Addr}{sp:Sp}{E:St->XK}{t:TA}{σ:St}{H:Hp}{Q:VK}:Hr C sp E t σ H Q=t σ H fun vs H1=>∀ x dx H2,H1 x=none->H1 dx=none->dx≠x->az H1 H2->H2 x=some (.ins C dx [])->H2 dx=some (.own x)->sp (.ref x::vs) H2 (fun v H3=>v=.non/\Q (.ref x) H3) (E σ):=propext Iff.rfl
section
variable {X:Cx}{CX:CXT}{E:St->XK}
theorem yS {k:Nat}{t:TA}{p pos:Pos} (M:Mak X.prog X.w X.K X.mg X.base CX C x k ps sp) (hx:Passes CX X E) (hr:fD (k+1) X.A) (ha:PA X (e::es) t)
  (hg:X.env.kindOf x=some .globalImplicit:=by ext) (hd:(x==("__debug__":Str))=false:=by ext) (hs:eF (e::es)=true:=by ext) :
  PE X (.Call (.Name x p) (e::es) [] pos) (Hr C sp E t):=by
 obtain⟨f,fd,F,hm,hb⟩:=M.ex;intro Yp s σ H Q I h;refine Jf (t:=upA t) hm F hr hg M.mg hb .nil hx ha.up hd (bo (bB hs).1) (dI (bB hs).2) Yp s σ H Q I ⟨_,h,fun vs H1 q x dx h1 h2 h3=>?_⟩;simp only[fR];refine q x dx _ h1 h2 h3 ((du h2).cF h1) aE ?_;rw[aJ h3,aE]
end
theorem yw {v:V}{r:List (Str×V)}:List.lookup f ((f,v)::r)=some v:=by simp [List.lookup]
end
section
section
variable {prog:Zh}{w:Zi}{A:Around}{E:Zq}
end
theorem EJ {t:TG}{u:TGs}{v:V}{r:List V}{σ:St}{H:Hp}{Q:St->Hp->Prop}:sv t u (v::r) σ H Q=t v σ H fun σ' H'=>u r σ' H' Q:=propext ⟨fun ⟨_,_,e,h⟩=>by cases e;exact h,fun h=>⟨v,r,rfl,h⟩⟩
theorem HQ {σ:St}{H:Hp}{Q:St->Hp->Prop}:F2 [] σ H Q=Q σ H:=propext ⟨fun h=>h.2,fun h=>⟨rfl,h⟩⟩
noncomputable def mP (l:Za) (lo hi:Option Int):Za:=(l.drop (HT.sIx l.length 0 lo)).take (HT.sIx l.length l.length hi-HT.sIx l.length 0 lo)
theorem xZ (l:Za) (lo hi:Option Int):(mP l lo hi).length<=l.length:=by unfold mP;rw[bI,cf];lia
theorem AK (l:List α) (a k:Nat):((List.range k).map fun j=>a+j).filterMap (l[·]?)=(l.drop a).take k:=by
 induction k with
 | zero=>simp
 | succ k ih =>
  rw[lO,bu,List.filterMap_append,ih,List.take_succ]
  congr 1
  simp only[bf,jf,nM,List.filterMap_nil,jb];cases l[a+k]?<;>rfl
noncomputable def gX:Option Int->Tok->Option (Int×Tok)
 | some i,t=>some (i,t)
 | none,_=>none
noncomputable def B5 (n d:Nat):Option Int->Int
 | none=>d
 | some i=>max 0 (min (if i<0 then i+(n:Int) else i) (n:Int))
theorem zd (n d:Nat) (o:Option Int):B5 n d o=((HT.sIx n d o:Nat):Int):=by
 cases o with
 | none=>rfl
 | some v =>
  show max 0 (min (if v<0 then v+(n:Int) else v) (n:Int))=((if v<0 then (v+(n:Int)).toNat else min v.toNat n:Nat):Int)
  by_cases h:v<0
  ·rw[ah h,ah h];lia
  ·rw[af h,af h];lia
theorem wN (lo hi:Option Int) (n:Nat):Builtin.Str.strSliceIndices lo hi 1 n=sliceRange (B5 n 0 lo) (B5 n n hi) 1:=by unfold Builtin.Str.strSliceIndices B5;cases lo<;>cases hi<;>simp
theorem range_one (a b:Nat):sliceRange (a:Int) (b:Int) 1=(List.range (b-a)).map fun j=>a+j:=by
 unfold sliceRange;have e3:(if (1:Int)>0 then (if (a:Int)<(b:Int) then ((b:Int)-(a:Int)+1-1)/1 else 0) else (if (a:Int)>(b:Int) then ((a:Int)-(b:Int)-1-1)/(-1) else 0)).toNat=b-a:=by rw[ah (by decide)];split<;>lia
 show ((List.range (if (1:Int)>0 then (if (a:Int)<(b:Int) then ((b:Int)-(a:Int)+1-1)/1 else 0) else (if (a:Int)>(b:Int) then ((a:Int)-(b:Int)-1-1)/(-1) else 0)).toNat).map fun (k:Nat)=>((a:Int)+1*(k:Int)).toNat)=_;rw[e3];exact iu fun k _=>by lia
theorem qC (x:Str) (lo hi:Option Int) (t u:Tok):slicePicked x (gX lo t) (gX hi u) none=(List.range (HT.sIx x.length x.length hi-HT.sIx x.length 0 lo)).map fun j=>HT.sIx x.length 0 lo+j:=by
 unfold slicePicked;have e1:(gX lo t).map (·.1)=lo:=by cases lo<;>rfl
 have e2:(gX hi u).map (·.1)=hi:=by cases hi<;>rfl
 rw[e1,e2];show Builtin.Str.strSliceIndices lo hi 1 x.length=_;rw[wN,zd,zd,range_one]
theorem AL (x:Str) (lo hi:Option Int) (t u:Tok):(slicePicked x (gX lo t) (gX hi u) none).filterMap (x.cps[·]?)=mP x.cps.toList lo hi:=by
 have e5:(fun i:Nat=>x.cps[i]?)=fun i:Nat=>x.cps.toList[i]?:=by funext i;rw[iJ]
 rw[qC,e5,AK];unfold mP;rw[←dP]
theorem J5 :SlR X (fun x lo hi H Q=>∃ z,x=.str z/\z.length<=sizeLine/\Q (.str (tx (mP z.cps.toList lo hi))) H):=by
 intro Yp s σ H x v vl vu lo hi sl Q I rx hs pl pu h;obtain⟨z,rfl,hz,q⟩:=h;obtain⟨t,rfl⟩:=rx;refine⟨"str",_,F.slot_str_getitem.lookup,typeIs_str s z t,?_⟩;have h1:∃ tl,vl=partValue (gX lo tl):=by cases pl with | none=>exact⟨0,rfl⟩ | int i t=>exact⟨t,rfl⟩
 have h2:∃ tu,vu=partValue (gX hi tu):=by cases pu with | none=>exact⟨0,rfl⟩ | int i t=>exact⟨t,rfl⟩
 obtain⟨tl,rfl⟩:=h1;obtain⟨tu,rfl⟩:=h2;refine wpAny_getItem_str_slice (l:=gX lo tl) (u:=gX hi tu) (st:=none) hs rfl ?_;have ec:=AL z lo hi tl tu;have key:tx (mP z.cps.toList lo hi)=⟨((slicePicked z (gX lo tl) (gX hi tu) none).filterMap (z.cps[·]?)).toArray⟩:=by rw[ec];rfl
 unfold sliceMade;split;next hh =>
  have hl:(slicePicked z (gX lo tl) (gX hi tu) none).length=z.length:=by simpa using hh
  rw[qC,ag,dy] at hl;have b1:=HT.Hc z.length 0 (bj _) lo;have b2:=HT.Hc z.length z.length (ar _) hi;have e:tx (mP z.cps.toList lo hi)=z:=by
   unfold mP;rw[←dP,hl]
   by_cases hz0:z.length=0
   ·have:z.cps.toList=[]:=by rw[←nV,←dP];exact hz0
    rw[this];have:=nG z;rw[‹z.cps.toList=[]›] at this
    simpa using this
   ·rw[show HT.sIx z.length 0 lo=0 by lia,List.drop_zero,fq (by rw[←dP];exact ar _)];exact nG z
  rw[e] at q;exact⟨.str z,H,I,⟨t,rfl⟩,q⟩
 next =>rw[←key];refine⟨?_,.str _,H,I.tok _,⟨_,rfl⟩,q⟩;rw[bC];have:=xZ z.cps.toList lo hi;rw[←dP] at this;lia
noncomputable def Jo (K:Zf):V->Option Int->Option Int->Hp->VK->Prop:=fun x lo hi H Q=>match x with
 | .ref a=>∃ xs,SqL K H a xs/\nw H (.lst (mQ xs lo hi)) Q
 | .str z=>z.length<=sizeLine/\Q (.str (tx (mP z.cps.toList lo hi))) H
 | _=>False
theorem N8 :SlR X (Jo X.K):=by
 intro Yp s σ H x v vl vu lo hi sl Q I rx hs pl pu h;cases x with
 | ref a =>obtain⟨xs,h1,h2⟩:=h;exact J4 Yp s σ H _ v vl vu lo hi sl Q I rx hs pl pu ⟨a,xs,rfl,h1,h2.go⟩
 | str z=>exact J5 Yp s σ H _ v vl vu lo hi sl Q I rx hs pl pu ⟨z,rfl,h.1,h.2⟩
 | _=>exact False.elim h
theorem iT (hK:X.K=K):SlR X (Jo K):=hK ▸ N8
end
section
noncomputable def fW (x:Key) (l:List Key):Bool:=l.any fun y=>decide (y=x)
theorem jI {x:Key}{l:List Key}:fW x l=true↔x∈l:=by unfold fW;rw[List.any_eq_true];exact⟨fun ⟨y,h,e⟩=>ji e ▸ h,fun h=>⟨x,h,aw rfl⟩⟩
theorem vS (x y:Key) (l:List Key):fW x (l++[y])=(fW x l||decide (y=x)):=by unfold fW;rw[List.any_append];simp
noncomputable def c8 (val:Nat->Key):Nat->List Key
 | 0=>[]
 | i+1=>if fW (val i) (c8 val i)=true then c8 val i else c8 val i++[val i]
theorem lC (val:Nat->Key):∀ i,(c8 val i).length<=i
 | 0=>ar _
 | i+1=>by
  have ih:=lC val i;unfold c8;split
  ·lia
  ·rw[aB,cN];lia
theorem zj {S S':Key->Bool}{n n':Nat} (x:h.SetOf (br P w) a S n) (e:∀ k,S k=S' k) (en:n=n'):h.SetOf (br P w) a S' n':=by have z:S=S':=funext e;subst z;subst en;exact x
section
variable {prog:Zh}{w:Zi}{A:Around}{R:Result->Zg->Prop}{c:Addr}{fp wr:List Addr}{G:Array GenState->Array GenState->Prop}{n:Nat}{Pv:Nat->Value->Prop}{Sv:Nat->Zg->Prop}
theorem zz (W:WalksS prog w A.in1 c fp wr G n Pv Sv) (a:Addr) (na:a∉fp) (val:Nat->Key) (hv:∀ i v,Pv i v->jH (val i) v=true/\v.scannable=true) (hb:n+1<scanBound) :
  ∀ (k i:Nat) (s:Zg),n-i=k->i<=n->Sv i s->s.heap.SetOf (br prog w) a (fun x=>fW x (c8 val i)) (c8 val i).length →
   (∀ s',Moved (a::wr) G s s'->s'.heap.SetOf (br prog w) a (fun x=>fW x (c8 val n)) (c8 val n).length->R (.ok (.ret .none)) s') →
   codeAny (model prog w) A (.builtin "set.update.loop" ⟨[.ref a,.ref c],[]⟩) R s:=by
 have nw':a∉wr:=fun z=>na (W.sub _ z);have sb:∀ b∈wr,b∈a::wr:=fun b h=>aU _ h;have mF:∀ {s s':Zg}{S:Key->Bool}{m:Nat},Moved wr G s s'->s.heap.SetOf (br prog w) a S m->s'.heap.SetOf (br prog w) a S m:=fun mv x=>by obtain⟨o,es,ep,t,ho,r⟩:=x;exact⟨o,es,ep,t,mv.heap a _ nw' ho,r⟩
 intro k
 induction k with
 | zero =>
  intro i s hk hi st x q;have e:i=n:=by lia
  subst e;refine fV rh ?_;rw[qa lR _];show wpAny _ A.in1 (pyNext (.ref c) >>= _) _ _ s;refine aa (W.done s _ _ st fun s' mv=>?_);exact ak (q s' (mv.mono sb) (mF mv x))
 | succ k ih =>
  intro i s hk hi st x q;have lt:i<n:=by lia
  refine fV rh ?_;rw[qa lR _];show wpAny _ A.in1 (pyNext (.ref c) >>= _) _ _ s;refine aa (W.item i s _ _ lt st fun v s' pv st' mv=>?_);obtain⟨hk1,hk2⟩:=hv i v pv;have x':=mF mv x;show wpAny _ A.in1 (holding [v] (setAdd a v) >>= _) _ _ s';refine aa (cW ?_);unfold setAdd;refine cW ?_;refine aa ((br prog w).pyHash (k:=val i) hk1 ?_);have room:(c8 val i).length+1<scanBound:=by have:=lC val i;lia
  refine wpAny_setAddHashed_of (knd:=br prog w) (s:={ s' with toks:=s'.toks+1 }) hk1 hk2 x' room fun g sg xg=>?_;have x2:g.SetOf (br prog w) a (fun y=>fW y (c8 val (i+1))) (c8 val (i+1)).length:=by
   refine zj xg (fun y=>?_) ?_
   ·show (fW y (c8 val i)||decide (y=val i))=fW y (if fW (val i) (c8 val i)=true then c8 val i else c8 val i++[val i])
    by_cases hc:fW (val i) (c8 val i)=true
    ·rw[ah hc]
     by_cases e:y=val i
     ·subst e;rw[hc,Bool.true_or]
     ·rw[av e,Bool.or_false]
    ·rw[af hc,vS]
     congr 1
     by_cases e:y=val i
     ·rw[aw e,aw e.symm]
     ·rw[av e,av (bD e)]
   ·show (if fW (val i) (c8 val i)=true then (c8 val i).length else (c8 val i).length+1)=(if fW (val i) (c8 val i)=true then c8 val i else c8 val i++[val i]).length
    by_cases hc:fW (val i) (c8 val i)=true
    ·rw[ah hc,ah hc]
    ·rw[af hc,af hc,aB];rfl
  refine ak ⟨lT lR _,ih (i+1) _ (by lia) lt (W.frame _ s' _ _ st' (gk _) fun b hb o e=>?_) x2 fun s'' mv2 x3=>?_⟩
  ·rw[sg.2 b (fun z:b=a=>na (by rw[←z];exact hb))];exact e
  ·refine q s'' (Moved.trans W.gtrans ((mv.mono sb).then_heap (gk _) fun b o hb e=>?_) mv2) x3;rw[sg.2 b (fun z:b=a=>hb (by rw[z];exact aS))];exact e
end
noncomputable def kU (z:Str) (i:Nat):Key:=Sum.inr ⟨#[z.cps.toList.getD i 0]⟩
theorem sub_str_set:isSubtype (.type "str") (.type "set")=pure false:=by rw[isSubtype_type];ext
theorem uY:isSubtype (.type "str") (.type "frozenset")=pure false:=by rw[isSubtype_type];ext
set_option maxRecDepth 100000 in
set_option maxHeartbeats 4000000 in
theorem zk {prog:Zh}{w:Zi}{E:Zq}{s:Zg}{z:Str}{t:Tok}{Q:Zq} (hh:A.handled=none) (hb:z.cps.size+1<scanBound)
  (q:∀ (g:Heap) (tk:Nat),g.SetOf (br prog w) s.heap.objs.size (fun x=>fW x (c8 (kU z) z.cps.size)) (c8 (kU z) z.cps.size).length->(∀ b o,b<s.heap.objs.size->s.heap.get? b=some o->g.get? b=some o) →
   Q (.ref s.heap.objs.size) { s with heap:=g,toks:=tk }):wpAny (model prog w) A (call (.type "set") [.str z t]) Q E s:=by
 obtain⟨c,tl,hmro⟩:=eJ.mro;have hmade:=eJ.made;have hsub:=eJ.sub;refine i6 (codeAny_of_tree ?_);show wpAny _ _ (callAny (.type "set") _) _ _ _;refine ak ⟨Code.quiet_builtin _ (by nofun),fV F.entry_type_call ?_⟩;rw[Around.under_plain (weight_type_call_type "set" [.str z t] []) rfl];have h1:=eJ.notType;have h2:=eJ.canCreate;have hct:=F.typeCall_set_1 (.str z t)
 repeat (any_goals (first | assumption | wp_step))
 refine gw (code_set_new_1 (.str z t) (E:=E) (Q₁:=fun ob s1=>∃ led:Bool,ob=.ref s.heap.objs.size/\s1={ s with heap:=s.heap.push { cls:=.type "set",dict:=none,data:=.set #[] 0 (.fresh 0 0 led) } }) fun led=>⟨led,rfl,rfl⟩) fun r s1 hr=>?_;cases r with
 | error e=>exact hr
 | ok fl =>
  cases fl with
  | ret ob =>
   obtain⟨led,rfl,rfl⟩:=hr;generalize hg1:s.heap.push { cls:=.type "set",dict:=none,data:=.set #[] 0 (.fresh 0 0 led) }=g1;have hS:g1.get? s.heap.objs.size=some { cls:=.type "set",dict:=none,data:=.set #[] 0 (.fresh 0 0 led) }:=by rw[←hg1];exact bt _ rfl
   have hsz:g1.objs.size=s.heap.objs.size+1:=by rw[←hg1,iW]
   have hkp:∀ b o,s.heap.get? b=some o->g1.get? b=some o:=fun b o e=>by rw[←hg1];exact aD _ e
   have hT:Shared.TypeIs { s with heap:=g1 } (.ref s.heap.objs.size) "set":=⟨_,hS,rfl⟩;have hli:=eJ.init.lookup;have hbi:=eJ.init.bind (.ref s.heap.objs.size)
   repeat (any_goals (first | assumption | wp_step))
   refine gw (oj (R:=wants (fun r s2=>r=.none/\∃ g tk,s2={ s with heap:=g,toks:=tk }/\g.SetOf (br prog w) s.heap.objs.size (fun x=>fW x (c8 (kU z) z.cps.size)) (c8 (kU z) z.cps.size).length ∧
     (∀ b o,b<s.heap.objs.size->s.heap.get? b=some o->g.get? b=some o)) E) eJ.init.plain F.entry_set_init (check_set_init_1 hT ?_)) fun r2 s2 hr2=>?_
   ·have k1:=sub_str_set;have k2:=uY;have k3:(Value.type "str"==Value.type "dict")=false:=by decide
    have hh3:A.in1.in1.in1.handled=none:=by simp [hh]
    have hval:∀ i v,SignAt z i v->jH (kU z i) v=true/\v.scannable=true:=by
     rintro i v ⟨ch,u,e,rfl⟩;refine⟨?_,rfl⟩;have e2:z.cps.toList.getD i 0=ch:=by rw[bz,iJ,e];rfl
     unfold kU;rw[e2];exact oB _ _
    have fin:∀ (g2:Heap),(∀ b o,g1.get? b=some o->g2.get? b=some o)->∀ s',Moved (s.heap.objs.size::[g1.objs.size]) (fun a b=>b=a) { s with heap:=g2 } s' →
      s'.heap.SetOf (br prog w) s.heap.objs.size (fun x=>fW x (c8 (kU z) z.cps.size)) (c8 (kU z) z.cps.size).length →
      ∃ g tk,s'={ s with heap:=g,toks:=tk }/\g.SetOf (br prog w) s.heap.objs.size (fun x=>fW x (c8 (kU z) z.cps.size)) (c8 (kU z) z.cps.size).length/\(∀ b o,b<s.heap.objs.size->s.heap.get? b=some o->g.get? b=some o):=by
     intro g2 k4 s' mv x;obtain⟨g,ge,d,tk,os⟩:=s';have eg:ge=s.gens:=mv.gens;have ed:d=s.drawn:=mv.drawn;have eo:os=s.os:=mv.os;subst eg;subst ed;subst eo;refine⟨g,tk,rfl,x,fun b o hb e=>mv.heap b o ?_ (k4 b o (hkp b o e))⟩;simp only[aP,dZ,ef,not_or];rw[hsz];exact⟨aW hb,aW (fT hb)⟩
    have start:∀ g2:Heap,(∀ b o,g1.get? b=some o->g2.get? b=some o)->g2.SetOf (br prog w) s.heap.objs.size (fun x=>fW x (c8 (kU z) 0)) (c8 (kU z) 0).length:=fun g2 k4 =>
     letI:BEq Key:=instBEqOfDecidableEq
     zj ((PyProof.Rows.setObjOf_fresh (knd:=br prog w) led).setOf (k4 _ _ hS) (by unfold scanBound;lia)) (fun _=>rfl) rfl
    have na:s.heap.objs.size∉[g1.objs.size]:=by simp only[aP,dZ,ef];lia
    unfold Builtin.«set.__init__» noKeywords Builtin.Frozenset.updateFrom;generalize hPI:pyIter=PI
    wp_walk
    subst hPI;cases ha:z.cps.all (·<128) with
    | true =>refine wpAny_pyIter_ascii ha ?_;refine aa (wpAny_runValue ?_);refine zz ((Walks.strAscii hh3 g1.objs.size z t).toS) s.heap.objs.size na (kU z) hval hb (z.cps.size-0) 0 _ (by lia) (bj _) ⟨_,bt _ rfl,rfl,rfl⟩ (start _ fun b o e=>aD _ e) fun s' mv x=>?_;obtain⟨g,tk,e,r1,r2⟩:=fin _ (fun b o e=>aD _ e) s' mv x;refine ak ?_;show wpAny _ _ (ret Value.none) _ _ _;exact ak ⟨rfl,g,tk,e,r1,r2⟩
    | false =>refine wpAny_pyIter_wide ha ?_;refine aa (wpAny_runValue ?_);refine zz ((Walks.strWide hh3 g1.objs.size z t).toS) s.heap.objs.size na (kU z) hval hb (z.cps.size-0) 0 _ (by lia) (bj _) ⟨_,bt _ rfl,rfl,rfl⟩ (start _ fun b o e=>aD _ e) fun s' mv x=>?_;obtain⟨g,tk,e,r1,r2⟩:=fin _ (fun b o e=>aD _ e) s' mv x;refine ak ?_;show wpAny _ _ (ret Value.none) _ _ _;exact ak ⟨rfl,g,tk,e,r1,r2⟩
   ·cases r2 with
    | error e=>exact hr2
    | ok fl2 =>
     cases fl2 with
     | ret v =>
      obtain⟨rfl,g,tk,rfl,x1,x2⟩:=hr2
      repeat (any_goals (first | assumption | wp_step))
      exact q _ _ x1 x2
     | _=>exact hr2.elim
  | _=>exact hr.elim
end
section
noncomputable def Bd (P:Zh) (w:Zi) (a:Addr) (l:List Key):HO:=.ext fun h=>h.SetOf (br P w) a (fun x=>fW x l) l.length
theorem Jz {l:List Key} (x:h.SetOf (br P w) a (fun x=>fW x l) l.length):bY P w H h a (Bd P w a l):=by
 refine⟨x,?_,fun h1 h2 y k=>?_⟩
 ·obtain⟨o,_,_,_,e,_⟩:=x;exact⟨o,e⟩
 ·obtain⟨o,es,ep,t,e,r⟩:=y;exact⟨o,es,ep,t,k o e,r⟩
noncomputable def GR (P:Zh) (w:Zi):List V->Hp->VK->Prop:=fun vs H Q=>match vs with
 | [.str z]=>z.length<=4000/\∀ p H',H p=none->az H H'->H' p=some (Bd P w p (c8 (kU z) z.length))->Q (.ref p) H'
 | _=>False
theorem CZ (hc:X.calm=true):dr X (.type "set") (GR X.prog X.w):=by
 intro Yp s σ H xs us Q I r h;rcases xs with _ | ⟨x0,t⟩
 ·exact h.elim
 cases x0<;>try exact h.elim
 cases t<;>try exact h.elim
 next z =>obtain⟨u,rfl,t,rfl⟩:=vals1 r;have hf:H s.heap.objs.size=none:=I.hok.fresh (ar _);have hz:z.cps.size<=4000:=h.1;refine zk (I.ok.hd hc) (by unfold scanBound;lia) fun g tk x k=>?_;have kk:∀ b o,s.heap.get? b=some o->g.get? b=some o:=fun b o e=>k b o (aG e) e;exact⟨.ref s.heap.objs.size,upd H s.heap.objs.size (Bd X.prog X.w s.heap.objs.size (c8 (kU z) z.length)),I.laid (t':=tk) kk (ar _) (Jz x),rfl,h.2 _ _ hf (du hf) aE⟩
noncomputable def GO (P:Zh) (w:Zi):List V->Hp->VK->Prop:=fun vs H Q=>match vs with
 | [.ref p]=>∃ l,H p=some (Bd P w p l)/\Q (.int l.length) H
 | _=>False
theorem CQ :dr X (.builtin "len") (GO X.prog X.w):=by
 intro Yp s σ H xs us Q I r h;rcases xs with _ | ⟨x0,t⟩
 ·exact h.elim
 cases x0<;>try exact h.elim
 cases t<;>try exact h.elim
 next p =>obtain⟨l,e,q⟩:=h;obtain⟨u,rfl,ru⟩:=vals1 r;cases ru;obtain⟨⟨o,es,ep,t,e1,e2,e3,_,_,e4,e5,e6⟩,_⟩:=(show bY X.prog X.w H s.heap p (Bd X.prog X.w p l) from I.hok p _ e);refine call_len_set e1 e2 e3 e5 (by have:es.size<4096:=e4;lia) ⟨.int es.size,H,I.tok _,⟨_,rfl⟩,?_⟩;rw[e6];exact q
theorem CY (hP:X.prog=P) (hw:X.w=w) (hc:X.calm=true):dr X (.type "set") (GR P w):=by subst hP hw;exact CZ hc
theorem zJ (hP:X.prog=P) (hw:X.w=w):dr X (.builtin "len") (GO P w):=by subst hP hw;exact CQ
theorem uo (val:Nat->Key):∀ (n:Nat) (x:Key),x∈c8 val n↔∃ i,i<n/\val i=x
 | 0,x=>⟨fun h=>(by cases h),fun ⟨i,h,_⟩=>absurd h (Nat.not_lt_zero _)⟩
 | n+1,x=>by
  have ih:=uo val n;unfold c8
  by_cases hc:fW (val n) (c8 val n)=true
  ·rw[ah hc,ih x];obtain⟨j,hj,ej⟩:=(ih (val n)).mp (jI.mp hc);constructor
   ·rintro⟨i,h,e⟩;exact⟨i,fT h,e⟩
   ·rintro⟨i,h,e⟩;rcases ra.mp h with h | h
    ·exact⟨i,h,e⟩
    ·exact⟨j,hj,by rw[ej,←h,e]⟩
  ·rw[af hc,bE,bg,ih x];constructor
   ·rintro (⟨i,h,e⟩ | e)
    ·exact⟨i,fT h,e⟩
    ·exact⟨n,lQ _,e.symm⟩
   ·rintro⟨i,h,e⟩;rcases ra.mp h with h | h
    ·exact .inl ⟨i,h,e⟩
    ·exact .inr (by rw[←e,h])
theorem vT (val:Nat->Key):∀ n,(c8 val n).length=n↔∀ i j,i<n->j<n->val i=val j->i=j
 | 0=>⟨fun _ i _ h=>absurd h (Nat.not_lt_zero _),fun _=>rfl⟩
 | n+1=>by
  have ih:=vT val n;have hl:=lC val n;unfold c8
  by_cases hc:fW (val n) (c8 val n)=true
  ·rw[ah hc];obtain⟨j,hj,ej⟩:=(uo val n (val n)).mp (jI.mp hc);constructor
   ·intro h;lia
   ·intro h;have:=h j n (fT hj) (lQ _) ej;lia
  ·rw[af hc,aB,cN];have nm:∀ i,i<n->val i≠val n:=fun i hi e=>hc (jI.mpr ((uo val n (val n)).mpr ⟨i,hi,e⟩));constructor
   ·intro h i j hi hj e;have h2:=ih.mp (by lia);rcases ra.mp hi with hi | hi<;>rcases ra.mp hj with hj | hj
    ·exact h2 i j hi hj e
    ·subst hj;exact absurd e (nm i hi)
    ·subst hi;exact absurd e.symm (nm j hj)
    ·lia
   ·intro h;have:=ih.mpr fun i j hi hj=>h i j (fT hi) (fT hj);lia
theorem vU (z:Str):(c8 (kU z) z.length).length=z.length↔z.cps.toList.Nodup:=by
 rw[vT,List.nodup_iff_pairwise_ne,List.pairwise_iff_getElem];have hl:=dP z;constructor
 ·intro h i j hi hj hij e;have:=h i j (by lia) (by lia) (by unfold kU;rw[bz,bz,aO hi,aO hj,e]);lia
 ·intro h i j hi hj e;have hi':i<z.cps.toList.length:=by lia
  have hj':j<z.cps.toList.length:=by lia
  have e2:z.cps.toList[i]=z.cps.toList[j]:=by
   unfold kU at e;rw[bz,bz,aO hi',aO hj'] at e;have e4:=bJ Str.cps (Sum.inr.inj e)
   simpa using e4
  rcases Nat.lt_trichotomy i j with z1 | z1 | z1
  ·exact absurd e2 (h i j hi' hj' z1)
  ·exact z1
  ·exact absurd e2.symm (h j i hj' hi' z1)
noncomputable def Ci:V->List V->Hp->VK->Prop:=fun x vs H Q=>match x,vs with
 | .ref l,[.int i,y]=>∃ xs,H l=some (.lst xs)/\0<=i/\i<2^62/\xs.length<sizeLine/\Q .non (upd H l (.lst (xs.take i.toNat++y::xs.drop i.toNat)))
 | _,_=>False
theorem DX :MtM X "list.insert" Ci:=by
 intro Yp s σ H x vs v us Q I rx rv h;cases x<;>try exact h.elim
 rcases vs with _ | ⟨x0,t⟩
 ·exact h.elim
 cases x0<;>try exact h.elim
 rcases t with _ | ⟨y,t⟩
 ·exact h.elim
 cases t<;>try exact h.elim
 next l i =>
  obtain⟨xs,hH,h0,h1,hz,q⟩:=h;cases rx;obtain⟨u1,u2,rfl,⟨t,rfl⟩,ry⟩:=rv.two;obtain⟨z,its,n,r,hl,e⟩:=I.Aw hH;have hfit:¬(!Builtin.List.listFitsIndex i)=true:=by unfold Builtin.List.listFitsIndex;simp;lia
  refine i3 F.slot_list_insert ⟨_,e,rfl⟩ F.entry_list_insert (F.args_list_insert_3 _ _ _) (AutoListH.list_insert_list_int_val_1 l its.toArray n i t u2 hfit (by rw[bF];lia)) ⟨e,?_⟩;refine⟨.non,_,I.Lb (ys:=xs.take i.toNat++y::xs.drop i.toNat) (its':=its.take i.toNat++u2::its.drop i.toNat) hH e ?_ ((r.take i.toNat).append (.cons ry (r.drop i.toNat))) ?_,rfl,q⟩
  ·have e0:(if i<0 then (i+((its.toArray.size:Nat):Int)).toNat else min i.toNat its.toArray.size)=min i.toNat its.length:=by rw[af (by lia),bF]
   show (its.toArray.extract 0 (if i<0 then (i+((its.toArray.size:Nat):Int)).toNat else min i.toNat its.toArray.size)).push u2++its.toArray.extract (if i<0 then (i+((its.toArray.size:Nat):Int)).toNat else min i.toNat its.toArray.size)=_;rw[e0];apply Array.toList_inj.mp
   by_cases hb:i.toNat<=its.length
   ·rw[iz hb];simp;rw[fq (by rw[cf];lia)]
   ·rw[Nat.min_eq_right (by lia)];simp [fq (show its.length<=i.toNat by lia),nL (show its.length<=i.toNat by lia)]
  ·rw[aB,aZ,bI,cf];lia
theorem Dj (l:Za):mP l none (some (-1))=l.dropLast:=by
 unfold mP;rw[List.dropLast_eq_take];have e1:HT.sIx l.length 0 none=0:=rfl;have e2:HT.sIx l.length l.length (some (-1))=l.length-1:=by unfold HT.sIx;simp;lia
 rw[e1,e2];rfl
noncomputable def ndB:List Addr->Bool
 | []=>true
 | a::r=>!r.contains a&&ndB r
theorem vG (l:Za) (j:Nat):mP l none (some (j:Int))=l.take j:=by unfold mP;rw[HT.qE,HT.oM,Nat.sub_zero,List.drop_zero,List.take_eq_take_iff];lia
theorem vF (l:Za) (j:Nat):mP l (some (j:Int)) none=l.drop j:=by
 unfold mP;rw[HT.qE,HT.oM]
 by_cases h:j<=l.length
 ·rw[iz h];exact fq (by rw[cf];exact ar _)
 ·rw[Nat.min_eq_right (by lia),nL (ar _),nL (by lia),List.take_nil]
theorem ic {H H':Hp} (s:az H H') {x:V}{t:Tg} (h:fj H x=some t):fj H' x=some t:=by
 cases x with
 | ref a =>
  have h':lG (H a)=some t:=h;cases e:H a with
  | none=>rw[e] at h';cases h'
  | some o =>show lG (H' a)=some t;rw[s a o e,←e];exact h'
 | _=>exact h
end
section
theorem tm {k:Nat}:items[((k:Nat):Int).toNat]?=(items.toList.drop k)[0]?:=by rw[jb,dw,Nat.add_zero,iJ]
theorem BG {k:Nat}{r:Zc} (h:items.toList.drop k=v::r):items.toList.drop (k+1)=r:=by rw[←List.drop_drop,h];rfl
noncomputable def JL:Zb->Zb->Bool
 | [],[]=>true
 | [],_::_=>false
 | _::_,[]=>true
 | a::x,c::y=>if a=c then JL x y else decide (c<=a)
noncomputable def yv:Zb->Zb->Bool
 | [],[]=>false
 | [],_::_=>true
 | _::_,[]=>false
 | a::x,c::y=>if a=c then yv x y else decide (a<c)
theorem IM (l b:Addr) (items items2:Array Value) (n n2:Nat) (dd dd2:Option Addr) (sl sl2:Array (Option Value)) {prog:Zh}{w:Zi}{A:Around}{R:Result->Zg->Prop}{s:Zg}
  (hl:s.heap.get? l=some { cls:=.type "list",dict:=dd,data:=.seq items n,slots:=sl }) (hb:s.heap.get? b=some { cls:=.type "list",dict:=dd2,data:=.seq items2 n2,slots:=sl2 }) :
  ∀ (xs:Zc) (k:Nat) (ns ms:Zb),items.toList.drop k=xs->IntsAre xs ns->IntsAre (items2.toList.drop k) ms->k<=items.size->k<=items2.size->R (.ok (.ret (.bool (yv ns ms)))) s →
   codeAny (model prog w) A (Code.builtin "list.__eq__.loop" { pos:=[.ref l,.ref b,rawInt (k:Int),rawInt 0] }) R s:=by
 obtain⟨hp,g,d,tk,os⟩:=s;simp only at hl hb;intro xs
 induction xs with
 | nil =>
  intro k ns ms hx hi hj hk hk2 h;refine fV MeetsSeq3.entry_eq_loop ?_;show wpAny _ _ (Builtin.«list.__eq__.loop» { pos:=[.ref l,.ref b,Value.int (k:Int) 0,Value.int 0 0] }) _ _ _;unfold Builtin.«list.__eq__.loop»;have e1:items[((k:Nat):Int).toNat]?=none:=by rw[tm,hx];rfl
  have hz:items.size=k:=by have:=bJ List.length hx;rw[cf,di,ir] at this;lia
  have hz2:items2.size-k=ms.length:=by have:=hj.length;rw[cf,di] at this;exact this
  wp_walk using AutoSeq1.wpAny_loadPart' hl,AutoSeq1.wpAny_loadPart' hb
  rw[e1]
  wp_walk using AutoSeq1.wpAny_loadPart' hl,AutoSeq1.wpAny_loadPart' hb
  cases hi
  have e2:yv [] ms=decide (items.size<items2.size):=by
   cases ms with
   | nil=>exact (av (by simp only[ir] at hz2;lia)).symm
   | cons c y=>exact (aw (by simp only[aZ] at hz2;lia)).symm
  rw[e2] at h;exact h
 | cons v xs ih =>
  intro k ns ms hx hi hj hk hk2 h;refine fV MeetsSeq3.entry_eq_loop ?_;show wpAny _ _ (Builtin.«list.__eq__.loop» { pos:=[.ref l,.ref b,Value.int (k:Int) 0,Value.int 0 0] }) _ _ _;unfold Builtin.«list.__eq__.loop»;have e1:items[((k:Nat):Int).toNat]?=some v:=by rw[tm,hx];rfl
  have hz:items.size=k+(xs.length+1):=by have:=bJ List.length hx;rw[cf,di,aZ] at this;lia
  wp_walk using AutoSeq1.wpAny_loadPart' hl,AutoSeq1.wpAny_loadPart' hb
  rw[e1];cases hi with
  | cons a t hi' =>
  generalize hy:items2.toList.drop k=ys at hj;cases hj with
  | nil =>
   have e2:items2[((k:Nat):Int).toNat]?=none:=by rw[tm,hy];rfl
   have hz2:items2.size=k:=by have:=bJ List.length hy;rw[cf,di,ir] at this;lia
   rw[e2]
   wp_walk using AutoSeq1.wpAny_loadPart' hl,AutoSeq1.wpAny_loadPart' hb
   have e3:∀ z,yv (a::z) []=decide (items.size<items2.size):=fun z=>(av (by lia)).symm;rw[e3] at h;exact h
  | cons c u hj' =>
   have e2:items2[((k:Nat):Int).toNat]?=some (.int c u):=by rw[tm,hy];rfl
   have hz2:k+1<=items2.size:=by have:=bJ List.length hy;rw[cf,di,aZ] at this;lia
   rw[e2];obtain⟨e,he,hiff⟩:=HT.Fm (A.under (Code.builtin "list.__eq__.loop" { pos:=[.ref l,.ref b,rawInt (k:Int),rawInt 0] })) ⟨hp,g,d,tk,os⟩ a t c u;refine aa (he prog w _ _ ?_);unfold yv at h;cases e with
   | true =>
    rw[ah (hiff.mp rfl)] at h
    wp_walk
    exact⟨by with_unfolding_all rfl,ih (k+1) _ _ (BG hx) hi' (by rw[BG hy];exact hj') (by lia) (by lia) h⟩
   | false =>
    rw[af (fun q=>absurd (hiff.mpr q) bS)] at h
    wp_walk using AutoSeq1.wpAny_loadPart' hl,AutoSeq1.wpAny_loadPart' hb
    rw[e1,e2];have hri:∀ (A:Around) (E:Zq) (Q:Zq),Q (.bool (decide (a<c))) ⟨hp,g,d,tk,os⟩->wpAny (model prog w) A (richCompare .Lt (.int a t) (.int c u)) Q E ⟨hp,g,d,tk,os⟩:=fun A E Q h=>(PyProof.Rows.lt_int h:wpAny (model prog w) A (compareOp .Lt (.int a t) (.int c u)) Q E _);refine aa (hri _ _ _ ?_)
    wp_walk
    exact h
section
variable {X:Cx}{K:Zf}
noncomputable def MC (K:Zf):R2:=fun x y H Q=>match x,y with
 | .int i,.int j=>Q (.bl (decide (j<=i))) H
 | .ref a,.ref b=>∃ ns ms,SqL K H a (ns.map V.int)/\SqL K H b (ms.map V.int)/\Q (.bl (JL ns ms)) H
 | _,_=>False
end
theorem gH {t u:TS} (h:∀ nn:TS,nn=u->t { D with nx:=fun σ' H'=>nn D σ' H' } σ H):Ht t u D σ H:=h u rfl
theorem lp {lo:Int}{n:Nat}{g:TG}{tb:TS}{D:Ends} (Pv:Nat->St->Hp->Prop) (h0:Pv 0 σ H)
  (hs:∀ i σ H,i<n->Pv i σ H->∀ N:St->Hp->Prop,(∀ σ' H',Pv (i+1) σ' H'->N σ' H')->g (.int (lo+i)) σ H fun σ2 H2=>tb { D with nx:=N,ct:=N,bk:=D.nx } σ2 H2) (hd:∀ σ H,Pv n σ H->D.nx σ H):jD g tb D (Itr lo n) σ H :=
 BN Pv h0 (fun i σ H hi hp=>hs i σ H hi hp _ fun _ _ h=>h) hd
theorem lj {g:TG}{tb:TS}{D:Ends} (Pv:Nat->St->Hp->Prop) (h0:Pv 0 σ H) (hl:∀ i σ H,i<=xs.length->Pv i σ H->SqL K H a xs)
  (hs:∀ i x σ H,xs[i]?=some x->Pv i σ H->∀ N:St->Hp->Prop,(∀ σ' H',Pv (i+1) σ' H'->N σ' H')->g x σ H fun σ2 H2=>tb { D with nx:=N,ct:=N,bk:=D.nx } σ2 H2) (hd:∀ σ H,Pv xs.length σ H->D.nx σ H):jD g tb D (Itl K a) σ H :=
 tF Pv h0 hl (fun i x σ H hi hp=>hs i x σ H hi hp _ fun _ _ h=>h) hd
end
section
theorem uX (c:Nat):∀ (ls:List (Za)),(tx [c]).join (ls.map tx)=tx (Mk.dM c ls)
 | []=>rfl
 | [w]=>by rfl
 | w::v::ws=>by have ih:=uX c (v::ws);show tx w++tx [c]++(tx [c]).join ((v::ws).map tx)=tx (w++c::Mk.dM c (v::ws));rw[ih,so,so,dN];rfl
theorem LU (ls:Ze):(ls.map fun z=>z.cps.toList).map tx=ls:=by
 rw[aI]
 conv=>rhs;rw[←List.map_id ls]
 exact iu fun z _=>nG z
theorem Hi (l:Za) (c:Nat):Txt.split (tx l) (tx [c])=(Mk.bw c l).map tx:=by
 have h1:=StrLaws.join_split (tx l) (tx [c]);have h2:∀ p∈Txt.split (tx l) (tx [c]),c∉p.cps.toList:=fun p hp=>StrLaws.split_free (tx l) c p hp;have h3:=PyProof.Rows.split_pos (tx l) (tx [c]);generalize Txt.split (tx l) (tx [c])=ps at h1 h2 h3;rw[←LU ps] at h1 ⊢;rw[uX] at h1;rw[←gJ h1,Mk.nE]
 ·intro e;have:=bJ List.length e;simp at this;rw[this] at h3;simp at h3
 ·intro w hw;obtain⟨p,hp,rfl⟩:=aM.mp hw;exact h2 p hp
theorem wq (c:Nat) (ls:List (Za)):Txt.join (tx [c]) (ls.map tx)=tx (Mk.dM c ls):=by
 have go:∀ (r:List (Za)) (acc:Za),(r.map tx).foldl (fun acc p=>acc++(tx [c]).cps++p.cps) acc.toArray=(acc++(r.map fun w=>c::w).flatten).toArray:=by
  intro r
  induction r with
  | nil=>intro acc;simp
  | cons a r ih =>
   intro acc;rw[bf,List.foldl_cons];have e:acc.toArray++(tx [c]).cps++(tx a).cps=(acc++c::a).toArray:=by simp [tx]
   rw[e,ih];simp
 have jl:∀ (a:Za) (r:List (Za)),Mk.dM c (a::r)=a++(r.map fun w=>c::w).flatten:=by
  intro a r
  induction r generalizing a with
  | nil=>simp [Mk.dM]
  | cons b r ih =>show a++c::Mk.dM c (b::r)=_;rw[ih b];simp
 unfold Txt.join Builtin.Str.glued;cases ls with
 | nil=>rfl
 | cons a r =>have:=go r a;show Str.mk ((r.map tx).foldl (fun acc p=>acc++(tx [c]).cps++p.cps) a.toArray)=tx (Mk.dM c (a::r));rw[this,jl];rfl
noncomputable def GW:V->List V->Hp->VK->Prop:=fun x vs H Q=>match x,vs with
 | .str z,[.str y]=>z.length<=100000/\∃ c,y=tx [c]/\nw H (.lst ((Mk.bw c z.cps.toList).map fun w=>.str (tx w))) Q
 | _,_=>False
theorem wt:∀ (l:List (Str×Tok)),Vals ((l.map fun p=>p.1).map V.str) (strValues l)
 | []=>.nil
 | p::l=>.cons ⟨p.2,rfl⟩ (wt l)
theorem Bh {prog:Zh}{w:Zi}{A:Around}{E:Zq}{s:Zg}{x y:Str}{t u:Tok}{Q:Zq} (hy:(y.length==0)=false) (hsz:x.length+2<=sizeLine)
  (h:∀ (l:List (Str×Tok)) (k:Nat),l.map (fun p=>p.1)=Txt.split x y->Q (.ref s.heap.objs.size) { s with heap:=s.heap.push { cls:=.type "list",data:=.seq (strValues l).toArray },toks:=k }) :
  wpAny (model prog w) A (call (.builtin "str.split") [.str x t,.str y u]) Q E s:=by
 have ex:Txt.split x y=if (decide (x.length<y.length)||decide (Builtin.Str.strKind x<Builtin.Str.strKind y))=true then [x] else if (Builtin.Str.occurrences x y 0 x.length (x.length+1)).isEmpty=true then [x] else Builtin.Str.partsBetween x (Builtin.Str.occurrences x y 0 x.length (x.length+1)) y.length:=rfl
 cases h1:(decide (x.length<y.length)||decide (Builtin.Str.strKind x<Builtin.Str.strKind y)) with
 | true =>rw[h1,ah rfl] at ex;refine i3 F.slot_str_split (typeIs_str s x t) F.entry_str_split (F.args_str_split_2 (Value.str x t) (Value.str y u)) (meets_str_split_cannot_occur x y t u h1) ?_;exact h [(x,_)] _ ex.symm
 | false =>
  rw[h1,af (by decide)] at ex;cases hf:(Builtin.Str.occurrences x y 0 x.length (x.length+1)).isEmpty with
  | true =>rw[hf,ah rfl] at ex;refine i3 F.slot_str_split (typeIs_str s x t) F.entry_str_split (F.args_str_split_2 (Value.str x t) (Value.str y u)) (meets_str_split_not_found x y t u h1 hy hf) ?_;exact h [(x,_)] _ ex.symm
  | false =>rw[hf,af (by decide)] at ex;have hl:=PyProof.Rows.split_le x y;rw[ex] at hl;refine i3 F.slot_str_split (typeIs_str s x t) F.entry_str_split (F.args_str_split_2 (Value.str x t) (Value.str y u)) (meets_str_split_sep x y t u h1 hy hf (by lia) (by lia)) ?_;show Q _ _;rw[strsFrom_eq];exact h _ _ ((numbered_texts _ _).trans ex.symm)
theorem qu :MtM X "str.split" GW:=by
 intro Yp s σ H x vs v us Q I rx rv h;cases x<;>try exact h.elim
 rcases vs with _ | ⟨x0,t⟩
 ·exact h.elim
 cases x0<;>try exact h.elim
 cases t<;>try exact h.elim
 next z y =>
  obtain⟨hz,c,rfl,q⟩:=h;obtain⟨t,rfl⟩:=rx;obtain⟨u,rfl,ru⟩:=rv.one;obtain⟨t2,rfl⟩:=ru;have hb:z.length+2<=sizeLine:=by rw[i5];lia
  refine Bh rfl hb fun l k e=>?_;have e2:l.map (fun p=>p.1)=(Mk.bw c z.cps.toList).map tx:=by rw[e,←Hi,nG]
  have hl:(strValues l).length<=z.length+2:=by have:=PyProof.Rows.split_le z (tx [c]);rw[←e,ag] at this;rw[show (strValues l).length=l.length from ag ..];exact this
  have r:=wt l;rw[e2,aI] at r;refine⟨.ref s.heap.objs.size,_,I.laid (t':=k) (o:=.lst ((Mk.bw c z.cps.toList).map fun w=>.str (tx w))) (fun b ob q=>aD _ q) (ar _) ?_,rfl,q.go _ (I.hok.fresh (ar _))⟩;refine⟨?_,_,0,r,bt _ rfl⟩;have:=r.length;rw[show ((Mk.bw c z.cps.toList).map fun w=>V.str (tx w))=(Mk.bw c z.cps.toList).map (V.str ∘ tx) from rfl,this];lia
noncomputable def JQ:R2:=fun x y H Q=>match x,y with
 | .int i,.int j=>(i.natAbs<2^60∨j.natAbs<2^60)/\Q (.int (i*j)) H
 | _,_=>False
theorem xt :OpR X (binaryOp .Mult) JQ:=by
 intro Yp s σ H x y v u Q I rx ry h;cases x with
 | int i=>cases y with
  | int j =>
   refine (opI (X:=X) (f:=binaryOp .Mult) (C:=fun i j=>i.natAbs<2^60∨j.natAbs<2^60) (g:=fun i j=>i*j) fun i j _ _ _ _ _ hc q=>mul_int q ?_) Yp s σ H _ _ v u Q I rx ry ⟨_,_,rfl,rfl,h.1,h.2⟩;rcases hc with hc | hc
   ·exact IntMulOk.of_left (aV (intBits_le_iff.mpr hc) Zd)
   ·exact IntMulOk.of_right (aV (intBits_le_iff.mpr hc) Zd)
  | _=>exact False.elim h
 | _=>exact False.elim h
end
section
theorem zS {i j}{H:Hp}{Q:VK}:Ce (.int i) (.int j) H Q=(Q (.int (i+j)) H):=propext Iff.rfl
theorem zT {a b}{H:Hp}{Q:VK}:Ce (.str a) (.str b) H Q=(a.length+b.length<=sizeLine/\Q (.str (a++b)) H):=propext Iff.rfl
theorem zU {l b}{H:Hp}{Q:VK}:Ce (.ref l) (.ref b) H Q=(∃ xs zs,H l=some (.lst xs)/\H b=some (.lst zs)/\xs.length+zs.length<=sizeLine/\nw H (.lst (xs++zs)) Q):=propext Iff.rfl
theorem Ai {i j}{H:Hp}{Q:VK}:JV (.int i) (.int j) H Q=(Q (.int (i-j)) H):=propext Iff.rfl
theorem Ae {i j}{H:Hp}{Q:VK}:JR (.int i) (.int j) H Q=(HB i j/\Q (.int (i*j)) H):=propext Iff.rfl
theorem yi {i j}{H:Hp}{Q:VK}:GJ (.int i) (.int j) H Q=((0<j/\j<2^1000)/\Q (.int (i/j)) H):=propext Iff.rfl
theorem Ab {i j}{H:Hp}{Q:VK}:JP (.int i) (.int j) H Q=(0<j/\Q (.int (i%j)) H):=propext Iff.rfl
theorem Af {i j}{H:Hp}{Q:VK}:JS (.int i) (.int j) H Q=((0<=j/\j<=1000000/\i.natAbs<2^64)/\Q (.int (i^j.toNat)) H):=propext Iff.rfl
theorem zV {f:Int->Int->Bool}{i j}{H:Hp}{Q:VK}:wb f (.int i) (.int j) H Q=(Q (.bl (f i j)) H):=propext Iff.rfl
theorem Dt {K:Zf}{i j}{H:Hp}{Q:VK}:MC K (.int i) (.int j) H Q=(Q (.bl (decide (j<=i))) H):=propext Iff.rfl
theorem Dq {K:Zf}{i j}{H:Hp}{Q:VK}:Ek K (.int i) (.int j) H Q=(Q (.bl (decide (i=j))) H):=propext Iff.rfl
theorem Dr {K:Zf}{i j}{H:Hp}{Q:VK}:Ek K (.str i) (.str j) H Q=(Q (.bl (decide (i=j))) H):=propext Iff.rfl
theorem Ds {K:Zf}{a b}{H:Hp}{Q:VK}:Ek K (.ref a) (.ref b) H Q=(∃ xs ys,SqL K H a xs/\SqL K H b ys/\xs.all eL=true/\ys.all eL=true/\Q (.bl (mR xs ys)) H):=propext Iff.rfl
theorem Dw {K:Zf}{i j}{H:Hp}{Q:VK}:GQ K (.int i) (.int j) H Q=(Q (.bl (!decide (i=j))) H):=propext Iff.rfl
theorem Dx {K:Zf}{i j}{H:Hp}{Q:VK}:GQ K (.str i) (.str j) H Q=(Q (.bl (!decide (i=j))) H):=propext Iff.rfl
theorem Dy {K:Zf}{a b}{H:Hp}{Q:VK}:GQ K (.ref a) (.ref b) H Q=(∃ xs ys,SqL K H a xs/\SqL K H b ys/\xs.all eL=true/\ys.all eL=true/\Q (.bl (!mR xs ys)) H):=propext Iff.rfl
theorem Du {K:Zf}{p i}{H:Hp}{Q:VK}:Jn K (.ref p) (.int i) H Q=(∃ xs v,Sq K H p xs/\atI xs i=some v/\Q v H):=propext Iff.rfl
theorem Dv {K:Zf}{z i}{H:Hp}{Q:VK}:Jn K (.str z) (.int i) H Q=(z.length<=sizeLine/\∃ c,atI z.cps.toList i=some c/\Q (.str ⟨#[c]⟩) H):=propext Iff.rfl
theorem zY {K:Zf}{z}{H:Hp}{Q:VK}:Cj K [.str z] H Q=(z.length<=sizeLine/\Q (.int z.length) H):=propext Iff.rfl
theorem zZ {K:Zf}{p}{H:Hp}{Q:VK}:Cj K [.ref p] H Q=(∃ xs,Sq K H p xs/\Q (.int xs.length) H):=propext Iff.rfl
theorem zR {i}{H:Hp}{Q:VK}:JM [.int i] H Q=(Q (.int (i.natAbs:Int)) H):=propext Iff.rfl
theorem Aa {i j}{H:Hp}{Q:VK}:JO [.int i,.int j] H Q=(Q (.int (min i j)) H):=propext Iff.rfl
theorem yk {K:Zf}{a}{H:Hp}{Q:VK}:AQ K [.ref a] H Q=(∃ ys,(Sq K H a ys∨∃ lo hi,H a=some (.rng lo hi)/\(-(2^62)<=lo/\lo<2^62/\-(2^62)<=hi/\hi<2^62)/\(hi-lo).toNat<=2^20/\ys=xD lo (hi-lo).toNat)/\nw H (.lst ys) Q):=propext Iff.rfl
theorem Ag {j}{H:Hp}{Q:VK}:JT [.int j] H Q=(nw H (.rng 0 j) Q):=propext Iff.rfl
theorem zW {c:Tg}{x n}{H:Hp}{Q:VK}:JN c [x,.ty n] H Q=(n=c.name/\∃ t,fj H x=some t/\Q (.bl (t.sub c)) H):=propext Iff.rfl
theorem Dz {K:Zf}{a}{lo}{hi}{H:Hp}{Q:VK}:Jo K (.ref a) lo hi H Q=(∃ xs,SqL K H a xs/\nw H (.lst (mQ xs lo hi)) Q):=propext Iff.rfl
theorem D3 {K:Zf}{z}{lo}{hi}{H:Hp}{Q:VK}:Jo K (.str z) lo hi H Q=(z.length<=sizeLine/\Q (.str (tx (mP z.cps.toList lo hi))) H):=propext Iff.rfl
theorem wK {l i y}{H:Hp}{Q:VK}:Ci (.ref l) [.int i,y] H Q=(∃ xs,H l=some (.lst xs)/\0<=i/\i<2^62/\xs.length<sizeLine/\Q .non (upd H l (.lst (xs.take i.toNat++y::xs.drop i.toNat)))):=propext Iff.rfl
theorem wJ {z y}{H:Hp}{Q:VK}:Cg (.str z) [.str y] H Q=(0<=Txt.find z y/\Q (.int (Txt.find z y)) H):=propext Iff.rfl
theorem yj {K:Zf}{z p}{H:Hp}{Q:VK}:AO K (.str z) [.ref p] H Q=(∃ ys:Ze,SqL K H p (ys.map V.str)/\(ys.map (·.length)).sum+ys.length*z.length<=16777216/\Q (.str (Txt.join z ys)) H):=propext Iff.rfl
theorem ym {z y}{H:Hp}{Q:VK}:GW (.str z) [.str y] H Q=(z.length<=100000/\∃ c,y=tx [c]/\nw H (.lst ((Mk.bw c z.cps.toList).map fun w=>.str (tx w))) Q):=propext Iff.rfl
theorem Ac {i j}{H:Hp}{Q:VK}:JQ (.int i) (.int j) H Q=((i.natAbs<2^60∨j.natAbs<2^60)/\Q (.int (i*j)) H):=propext Iff.rfl
theorem Ah {P:Zh}{w:Zi}{z}{H:Hp}{Q:VK}:GR P w [.str z] H Q=(z.length<=4000/\∀ p H',H p=none->az H H'->H' p=some (Bd P w p (c8 (kU z) z.length))->Q (.ref p) H'):=propext Iff.rfl
theorem zX {P:Zh}{w:Zi}{p}{H:Hp}{Q:VK}:GO P w [.ref p] H Q=(∃ l,H p=some (Bd P w p l)/\Q (.int l.length) H):=propext Iff.rfl
theorem zP {K:Zf}{a:Addr}{H:Hp}{R:It->Hp->Prop}:BO K (.ref a) H R=(((∃ xs,SqL K H a xs)/\R (Itl K a) H)∨((∃ xs,SqT K H a xs)/\R (Itt K a) H)):=propext Iff.rfl
theorem zQ {K:Zf}{z:Str}{H:Hp}{R:It->Hp->Prop}:BO K (.str z) H R=R (Itx z) H:=propext Iff.rfl
end
section
noncomputable def Ite (K:Zf) (a:Addr):It :=
 ⟨fun i H=>∃ xs x,SqL K H a xs/\xs[i]?=some x,
  fun i H v H'=>∃ x p,(∀ xs,SqL K H a xs->xs[i]?=some x)/\v=.ref p/\H p=none/\H'=upd H p (.tup [.int (i:Int),x]),
  fun i H=>∃ xs,SqL K H a xs/\xs.length<=i⟩
theorem yh {a e it:Addr} (st:(∃ old,IsEnum h e it (i:Int) old)/\h.IsListIter it a i):∀ c∈[e,it],∃ o,h.get? c=some o/\∀ v,o.data≠.cell v:=fun c hc=>by
 obtain⟨⟨old,he⟩,⟨o1,e1,c1,d1⟩⟩:=st;simp only[aP,dZ,ef] at hc;rcases hc with rfl | rfl
 ·exact⟨_,he,fun v q=>by have q':Data.fields _=Data.cell v:=q;cases q'⟩
 ·exact⟨o1,e1,fun v q=>by rw[d1] at q;cases q⟩
theorem E3 {k:Nat} (a e it:Addr) (D:e≠it):Turn P w K (.Tuple elts k pos) (Ite K a) [e,it] e
  (fun i h=>(∃ old,IsEnum h e it (i:Int) old)/\h.IsListIter it a i) where
 mem:=by simp
 obj:=fun i h st=>yh st
 keep:=fun i h h' st k=>by obtain⟨⟨old,he⟩,h1⟩:=st;exact⟨⟨old,k e (by simp) _ he⟩,h1.at fun o e=>k it (by simp) o e⟩
 item:=by
  intro X hP hw hK hc i Yp s σ H E I hf st hg;subst hP hw hK;obtain⟨xs,x,hx,ex⟩:=hg;obtain⟨us,r1,p1,_⟩:=I.list hx;obtain⟨u,hu,ru⟩:=r1.get ex;obtain⟨⟨old,he⟩,h1⟩:=id st;refine wpAny_pyNext_enum_item he h1 p1.isList (x:=u) (by simpa using hu) D fun h' a1 a2 a3 a4 a5=>?_;refine⟨_,rfl,wpAny_letOwnedTupleGo_enum (s:={ s with heap:=h',toks:=s.toks+1 }) a1 fun h'' b1 b2=>?_⟩;have b2':Heap.SameBut e h' h'':=b2;have ne:∀ c∈[e,it],c<s.heap.objs.size:=fun c hc=>by obtain⟨o,e,_⟩:=yh st c hc;exact aG e
  have kk:∀ c o,c∉[e,it]->s.heap.get? c=some o->h''.get? c=some o:=fun c o hc e=>by simp only[aP,dZ,ef,not_or] at hc;exact (b2'.2 c hc.1).trans (a5 c o hc.1 hc.2 e)
  have hT:h''.get? s.heap.objs.size=some { cls:=.type "tuple",data:=.seq #[.int (i:Int) s.toks,u] }:=(b2'.2 _ (gm (ne e (by simp)))).trans a3;have I1:Inv X Yp σ (upd H s.heap.objs.size (.tup [.int (i:Int),x])) { s with heap:=h'',toks:=s.toks+1 }:=by
   refine I.Cy (t':=s.toks+1) (ch:=[e,it]) hf kk (fun c o ee=>?_) (ar _) (show bY X.prog X.w _ h'' _ (.tup [.int (i:Int),x]) from ⟨by show 2<=sizeLine;decide,[.int (i:Int) s.toks,u],.cons ⟨_,rfl⟩ (.cons ru .nil),⟨_,hT,rfl,_,rfl⟩⟩)
   by_cases hc:c∈[e,it]
   ·simp only[aP,dZ,ef] at hc;rcases hc with rfl | rfl
    ·exact⟨_,b1⟩
    ·obtain⟨o1,e1,_⟩:=a2;exact⟨_,(b2'.2 _ (bD D)).trans e1⟩
   ·exact⟨_,kk c o hc ee⟩
  refine⟨.ref s.heap.objs.size,_,I1,rfl,⟨x,_,fun zs hz=>by rw[I.qr hz hx];exact ex,rfl,I.hok.fresh (ar _),rfl⟩,⟨⟨_,by have:=b1;rw[show ((i+1:Nat):Int)=(i:Int)+1 from rfl];exact this⟩,a2.at fun o e=>(b2'.2 _ (bD D)).trans e⟩,fun c hc=>?_⟩;rw[aJ (aW (ne c hc))];exact (hf c hc).1
 done:=by intro X hP hw hK hc i Yp s σ H E I hf st hg;subst hP hw hK;obtain⟨xs,hx,hl⟩:=hg;obtain⟨us,r1,p1,_⟩:=I.list hx;obtain⟨⟨old,he⟩,h1⟩:=id st;have l1:=r1.length;refine wpAny_pyNext_enum_end (I.ok.hd hc) he h1 p1.isList (by simp;lia) fun h' kk=>⟨rfl,I.Cw (t':=s.toks) (ch:=[e,it]) hf fun c o hc e=>?_⟩;simp only[aP,dZ,ef,not_or] at hc;exact kk c o hc.2 e
 self:=fun _ _ _ _ _ st h=>by obtain⟨⟨old,he⟩,_⟩:=st;exact wpAny_pyIter_enum he h
section
variable {X:Cx}
noncomputable def FF (K:Zf) (ta:TA):TI:=fun σ H R=>ta σ H fun vs H1=>∃ a,vs=[.ref a]/\(∃ xs,SqL K H1 a xs)/\R (Ite K a) H1
theorem EL {K:Zf}{ta:TA}{σ:St}{H:Hp}{R:It->Hp->Prop}:FF K ta σ H R=ta σ H fun vs H1=>∃ a,vs=[.ref a]/\(∃ xs,SqL K H1 a xs)/\R (Ite K a) H1:=propext Iff.rfl
theorem Jh {elts:List Expr}{k:Nat}{tpos:Pos}{a:Expr}{p pos:Pos} (hg:Gl X "enumerate") (hm:X.mg "enumerate"=none) (ha:PA X [a] ta) (hs:starEach [a] X.env=[(false,eval a X.env)]:=by rfl) :
  PI X (.Tuple elts k tpos) (.Call (.Name "enumerate" p) [a] [] pos) (FF X.K ta):=by
 intro Yp s σ H R I h;refine Call_ (pf I hg hm wC (oh (thn (ha pos Yp s σ H _ I h) fun us s1 ⟨vs,H1,I1,r1,q1⟩=>?_) hs (by rfl)));obtain⟨l1,e,⟨xs,hx⟩,q⟩:=q1;subst e;cases r1 with
 | cons r rr =>
  cases rr
  cases r
  obtain⟨us,_,p1,_⟩:=I1.list hx;refine call_enumerate_list p1.isList fun h' he hi hsz hk=>wpAny_pyIter_enum (s:={ s1 with heap:=h' }) he ?_;have I2:Inv X Yp σ H1 { s1 with heap:=h' }:=I1.kept (t':=s1.toks) hk;refine⟨_,[s1.heap.objs.size+1,s1.heap.objs.size],_,_,H1,rfl,I2,E3 l1 (s1.heap.objs.size+1) s1.heap.objs.size (Nat.succ_ne_self _),⟨⟨_,he⟩,hi⟩,fun c hc=>?_,q⟩;have hle:s1.heap.objs.size<=c:=by simp only[aP,dZ,ef] at hc;rcases hc with rfl | rfl<;>lia
  exact I1.wL hle (I1.hok.fresh hle)
theorem uG {elts:List Expr}{k:Nat}{tpos:Pos}{a:Expr}{p pos:Pos} (hK:X.K=K) (hm:X.mg "enumerate"=none) (ha:PA X [a] ta) (hg:X.env.kindOf "enumerate"=some .globalImplicit:=by ext) (hs:noStar a=true:=by ext) :
  PI X (.Tuple elts k tpos) (.Call (.Name "enumerate" p) [a] [] pos) (FF K ta):=hK ▸ Jh hg hm ha (bo hs)
end
theorem vM {g:TG}{tb:TS}{D:Ends} (Pv:Nat->St->Hp->Prop) (h0:Pv 0 σ H) (hl:∀ i σ H,i<=xs.length->Pv i σ H->SqL K H a xs)
  (hs:∀ i x σ H,xs[i]?=some x->Pv i σ H->∀ N:St->Hp->Prop,(∀ σ' H',Pv (i+1) σ' H'->N σ' H')->∀ p H',H p=none->az H H'->H' p=some (.tup [.int (i:Int),x])->g (.ref p) σ H' fun σ2 H2=>tb { D with nx:=N,ct:=N,bk:=D.nx } σ2 H2) (hd:∀ σ H,Pv xs.length σ H->D.nx σ H):jD g tb D (Ite K a) σ H:=by
 refine⟨fun i m σ H=>i+m=xs.length/\Pv i σ H,⟨xs.length,by lia,h0⟩,fun i m σ H hw=>?_⟩;obtain⟨e,hp⟩:=hw;have hL:=hl i σ H (by lia) hp
 by_cases hm:m=0
 ·subst hm;have:i=xs.length:=by lia
  subst this;exact .inl ⟨⟨xs,hL,ar _⟩,hd σ H hp⟩
 ·have hi:xs[i]?=some xs[i]:=aO (by lia);refine .inr ⟨⟨xs,_,hL,hi⟩,Pv (i+1),fun σ' H' n=>⟨m-1,by lia,by lia,n⟩,fun v H' hy=>?_⟩;obtain⟨x,p,h1,rfl,h2,rfl⟩:=hy;have hx:=h1 xs hL;exact hs i x σ H hx hp _ (fun _ _ h=>h) p _ h2 (du h2) aE
section
variable {X:Cx}{tg:Expr}
end
theorem Js {k:Key} (h:jH k v=true):RelV (kV k) v:=by
 rcases cO h with ⟨i,t,rfl,rfl⟩ | ⟨x,t,rfl,rfl⟩
 ·exact⟨t,rfl⟩
 ·exact⟨t,rfl⟩
theorem KZ {vs:List (Key×Value)} (r:KV kvs vs):∀ {i:Nat}{p:Key×V},kvs[i]?=some p->∃ q,vs[i]?=some q/\p.1=q.1/\RelV p.2 q.2:=by
 unfold KV at r
 induction r with
 | nil=>intro i p h;simp at h
 | @cons a b as bs h t ih =>
  intro i p hp;cases i with
  | zero =>rw[List.getElem?_cons_zero] at hp;cases hp;exact⟨b,rfl,h⟩
  | succ i=>exact ih (by simpa using hp)
theorem Fz {ob:Obj}{es:Array DictEntry}{ep:Nat} (x:HOk P w H h) (e:H a=some (.frz ob (.dK kvs))) (hd:ob.data=.dict es ep) :
  ∃ vs,KV kvs vs/\h.DictAt (br P w) a vs ep:=by
 obtain⟨h1,_,_,vs,r,o,es',ep',h2,h3,h4,h5⟩:=(show bY P w H h a (.frz ob (.dK kvs)) from x a _ e);have:o=ob:=Option.some.inj (h2.symm.trans h1);subst this;rw[hd] at h4
 injection h4 with e1 e2
 subst e1 e2;exact⟨vs,r,o,es,h2,h3,hd,h5⟩
section
variable {X:Cx}
theorem HK {td ty:TE}{σ:St}{H:Hp}{Q:VK}:Hn td ty σ H Q=td σ H fun x H1=>ty σ H1 fun y H2=>∃ a v,x=.ref a/\mJ H2 a y (some v)/\Q v H2:=propext Iff.rfl
theorem EH {td ty:TE}{σ:St}{H:Hp}{Q:VK}:Bj td ty σ H Q=td σ H fun x H1=>∃ a,x=.ref a/\IsD H1 a/\ty σ H1 fun y H2=>∃ o,mJ H2 a y o/\Q (o.getD .non) H2:=propext Iff.rfl
theorem uF {o i:Expr}{td ty:TE} (hu:X.A.units+1<cLine) (ho:PE X o td) (hi:PE X i ty) (hs:Km i:=by exact fun _ _=>rfl):PE X (.Subscript o i pos) (Hn td ty):=Jb hu ho hi hs
theorem Ef {o e:Expr}{td ty:TE}{apos cpos:Pos} (hu:X.A.units+1<cLine) (ho:PE X o td) (he:PE X e ty) (hbase:attributeBase o "get" X.env (eval o X.env)=eval o X.env:=by ext) (hs:eF [e]=true:=by ext)
  (hline:(apos.endLine==cpos.line)=true:=by ext) (htr:backTo cpos (starEach [e] X.env)=[(false,eval e X.env)]:=by rfl):PE X (.Call (.Attribute o "get" apos) [e] [] cpos) (Bj td ty):=by
 refine Gx hu ho he ⟨hbase,?_,hline,htr⟩;rw[oX hs];rfl
end
end
section
noncomputable def mM (zs:Ze) (i:Nat):Key:=Sum.inr (zs.getD i (tx []))
theorem Fo:∀ {x:V},eL x=true->eqV x x=true
 | .non,_=>rfl
 | .bl b,_=>by show (b==b)=true;simp
 | .int i,_=>by show (i==i)=true;simp
 | .str z,_=>by show (z==z)=true;simp
section
variable {X:Cx}
end
end
end L2
namespace L2
section
variable {α:Type} [DecidableEq α]
noncomputable abbrev Nk (α:Type):=α×Bool
theorem rM {β:Type} [DecidableEq β]:∀ (U l:List β),l.Nodup->(∀ x∈l,x∈U)->l.length<=U.length
 | [],l,_,h=>by
  cases l with
  | nil=>exact ar _
  | cons x r=>cases h x (by simp)
 | u::U,l,hn,h=>by
  have h2:∀ x∈l.erase u,x∈U:=fun x hx=>by
   rcases aP.mp (h x (List.mem_of_mem_erase hx)) with q | q
   ·subst q;exact absurd hx (List.Nodup.not_mem_erase hn)
   ·exact q
  have:=rM U (l.erase u) (hn.erase u) h2;have h3:=List.length_erase (a:=u) (l:=l);rw[aZ]
  by_cases hu:u∈l
  ·rw[ah hu] at h3;lia
  ·rw[af hu] at h3;lia
inductive Wk (St:Nk α->List (Nk α×Int)) (u:Nk α):Nk α->Int->Prop
 | nil:Wk St u u 0
 | snoc {v x:Nk α}{w c:Int}:Wk St u v w->(x,c)∈St v->Wk St u x (w+c)
theorem Wk.mono {St St':Nk α->List (Nk α×Int)}{u v:Nk α}{w:Int} (h:∀ k p,p∈St k->p∈St' k) (x:Wk St u v w):Wk St' u v w:=by
 induction x with
 | nil=>exact .nil
 | snoc _ m ih=>exact ih.snoc (h _ _ m)
theorem Wk.cons {St:Nk α->List (Nk α×Int)}{u v y:Nk α}{w c:Int} (m:(v,c)∈St u) (x:Wk St v y w):Wk St u y (c+w):=by
 induction x with
 | nil =>have:=Wk.snoc (Wk.nil (St:=St) (u:=u)) m;rw[jU] at this;rw[Int.add_zero];exact this
 | snoc _ m2 ih =>have:=ih.snoc m2;rw[Int.add_assoc] at this;exact this
structure Ln (α:Type) where
 a:α
 b:α
 p:Option Int
 c:Option Int
noncomputable def Up (x:Option Int) (w:Int):Prop:=∃ a,x=some a/\a<=w
theorem Up.mono {x:Option Int}{w w':Int} (h:Up x w) (l:w<=w'):Up x w':=by obtain⟨a,e,q⟩:=h;exact⟨a,e,by lia⟩
section
variable {zs bs:List α}{ls:List (Ln α)}{p g:Int}
end
end
end L2
namespace L2
open PySem PySem.Spec PyProof.Rows
variable {A:Around}{E:Zq}{H:Hp}{H1:Hp}{K:Zf}{M:Model}{P:Zh}{Pt:Addr}{Q:Option Value->Zg->Prop}{X:Cx}{a:Addr}{e:Expr}{ep:Nat}{es:Array (Int×Value)}{e₀:Expr}{f:Str}{fI:Addr}{fd:FuncData}{h:Heap}{hs:List ExceptHandler}{it:Addr}{kvs:List (Key×V)}{lb:Bool}{mN:Zk}{o:Obj}{oI:Obj}{ob:Obj}{params:Arguments}{pos:Pos}{prog:Zh}{ps:Array Value}{q:Str}{s:Zg}{scope:Scope}{sp:Sp}{st:Stmt}{te:TE}{tk:Tok}{u:Value}{v:Value}{vs:Zc}{w:Zi}{x:Str}{zs:Ze}{σ:St}
section
noncomputable abbrev oS (q:Str):HO:=.tbl #[.str q 0]
section
variable {X:Cx}{Yp:Zp}{σ:St}{H:Hp}{s:Zg}
theorem tab_of {P:Addr} (I:Inv X Yp σ H s) (e:H P=some (oS q)):∃ qs:Array Value,s.heap.get? P=some { cls:=.none,data:=.fields qs }/\TriplesOk qs.toList ∧
  ∀ pos c,codeAmong pos qs.toList=some c->∃ c' oc vs t,c=.ref c'/\H c'=some (.frz oc (.own P))/\s.heap.get? c'=some oc/\oc.data=.fields vs/\vs[1]?=some (.str q t):=by
 obtain⟨qs,h1,h2,h3⟩:=(show bY X.prog X.w H s.heap P (oS q) from I.hok P _ e);refine⟨qs,h1,h2,fun pos c z=>?_⟩;obtain⟨c',oc,vs,t,q',a1,a2,a4,a5,a6⟩:=h3 pos c z;have a7:q=q':=by have:=bJ Array.toList a6;simp at this;exact this
 subst a7;exact⟨c',oc,vs,t,a1,a2,(I.hok c' _ a2).1,a4,a5⟩
theorem Inv.tabled {P c':Addr}{h':Heap}{ps more:Array Value}{tk:Nat}{oc:Obj}{vs:Array Value}{tq:Tok} (I:Inv X Yp σ H s) (e:H P=some (oS q)) (hx:∀ b o,b≠P->s.heap.get? b=some o->h'.get? b=some o) (hc:s.heap.objs.size<=c')
  (h1:h'.get? P=some { cls:=.none,data:=.fields more }) (h2:TriplesOk more.toList) (h3:∀ pos c,codeAmong pos more.toList=some c->codeAmong pos ps.toList=some c∨c=.ref c') (h0:s.heap.get? P=some { cls:=.none,data:=.fields ps })
  (c1:h'.get? c'=some oc) (c2:oc.data=.fields vs) (c3:vs[1]?=some (.str q tq)):Inv X Yp σ (upd H c' (.frz oc (.own P))) { s with heap:=h',toks:=tk }:=by
 have hn:=I.hok.fresh hc;have nP:∀ b,H b=none->b≠P:=fun b hb z=>by rw[z,e] at hb;cases hb
 have lt:∀ b o,s.heap.get? b=some o->b≠c':=fun b o z=>aW (bK (aG z) hc);obtain⟨qs,g1,g2,g3⟩:=tab_of I e;have eq:qs=ps:=by
  rw[h0] at g1;have:=Option.some.inj g1
  injection this with _ _ z
  injection z with z
  exact z.symm
 subst eq;refine I.un ⟨fun b o z n _ _=>hx b o (nP b n) z,fun b o z n _ _=>⟨o.slots,hx b o (nP b n) z⟩,fun b o z n _=>by rw[aJ (lt b o z)];exact n,fun b o z _=>?_,fun b xs z=>by rw[aJ (b9 z hn)];exact z,fun b u xs z=>by rw[aJ (b9 z hn)];exact z,
  fun b xs z=>⟨#[],by rw[aJ (b9 z hn),z];simp⟩⟩ fun b u z=>?_
 ·by_cases hb:b=P
  ·rw[hb];exact⟨_,h1⟩
  ·exact⟨o,hx b o hb z⟩
 ·by_cases hb:b=c'
  ·subst hb;rw[aE] at z;cases z;exact⟨c1,_,c1⟩
  ·rw[aJ hb] at z
   by_cases hp:b=P
   ·subst hp;rw[e] at z;cases z;refine⟨more,h1,h2,fun pos c w=>?_⟩;rcases h3 pos c w with w | rfl
    ·obtain⟨c2',oc2,vs2,t2,a1,a2,a3,a4,a5⟩:=g3 pos c w;exact⟨c2',oc2,vs2,t2,q,a1,by rw[aJ (b9 a2 hn)];exact a2,a4,a5,rfl⟩
    ·exact⟨c',oc,vs,tq,q,rfl,aE,c2,c3,rfl⟩
   ·refine (I.hok b u z).mF (fun c v hc2 w=>hx c v ?_ w) (fun c w=>by rw[aJ (b9 w hn)];exact w) fun c xs w=>by rw[aJ (b9 w hn)];exact w
    rcases hc2 with rfl | w2
    ·exact hp
    ·exact jw w2 e (by intro z;cases z)
end
theorem zG {pos p2:Pos}{c:Value}:∀ (l:Zc),TriplesOk l->∀ x,codeAmong pos (l++[rawInt p2.line,rawInt p2.col,c])=some x->codeAmong pos l=some x∨x=c:=by
 intro l h
 fun_induction TriplesOk l with
 | case1 =>
  intro x e;simp only[List.nil_append,codeAmong,rawInt] at e;split at e
  ·exact .inr (Option.some.inj e).symm
  ·cases e
 | case2 a t b u y rest ih =>
  intro x e;simp only[List.cons_append,codeAmong] at e ⊢;split at e
  ·rename_i hc
   rw[ah hc];exact .inl e
  ·rename_i hc
   rw[af hc];exact ih h x e
 | case3=>exact h.elim
section
variable {X:Cx}{Yp:Zp}{σ:St}{H:Hp}{s:Zg}{a:Addr}{y v:V}{u:Value}{A:Around}{E:Zq}
end
section
variable {X:Cx}{Yp:Zp}{σ:St}{H:Hp}{s:Zg}
noncomputable def qd (H:Hp) (P:Addr) (q:Str) (c':Addr):Prop:=∃ oc vs t,H c'=some (.frz oc (.own P))/\oc.data=.fields vs/\vs[1]?=some (.str q t)
theorem qd.same {H H':Hp}{P c':Addr} (h:qd H P q c') (s:az H H'):qd H' P q c':=by obtain⟨oc,vs,t,h1,h2⟩:=h;exact⟨oc,vs,t,s _ _ h1,h2⟩
theorem qd.rec {P c':Addr} (I:Inv X Yp σ H s) (h:qd H P q c'):s.heap.CodeRec (.ref c') q:=by obtain⟨oc,vs,t,h1,h2,h3⟩:=h;exact⟨c',oc,vs,t,rfl,(I.hok c' _ h1).1,h2,h3⟩
end
section
variable {prog:Zh}{w:Zi}{A:Around}{E:Zq}{s:Zg}{d it:Addr}{D J:Obj}{es:Array DictEntry}{ep i:Nat}
theorem GX {Q:Zq} (n0:(d==sysModules)=false) (g1:s.heap.get? d=some D) (g2:D.ExactDict) (g3:D.data=.dict es ep)
  (k:Q (.ref s.heap.objs.size) { s with heap:=s.heap.push { cls:=.type "dict_keyiterator",data:=.fields #[.ref d,.int 0 0,.int es.size 0,.int ep 0] } }):wpAny (model prog w) A (pyIter (.ref d)) Q E s:=by
 have ty:s.TypeIs (.ref d) "dict":=⟨D,g1,g2.1⟩;refine wpAny_pyIter_slot ty F.slot_dict_iter (fw F.slot_dict_iter ty F.entry_dict_iter ?_ (F.args_dict_iter_1 _));unfold Builtin.«dict.__iter__» Builtin.Dict.dictSlotNone;refine aa (aa (wpAny_notOrdered_dict ty ?_));refine ak (show wpAny _ _ (Builtin.Dict.showsAll d >>= _) _ _ s from ?_);unfold Builtin.Dict.showsAll;rw[af (fun z=>by rw[n0] at z;cases z)];refine aa (ak (aa (wpAny_dictEntries g1 g3 (aa (wpAny_dictEpoch g1 g3 ?_)))));refine aa (gx (ak ⟨_,rfl,"dict_keyiterator",_,⟨_,bt _ rfl,rfl⟩,r0.lookup,?_⟩))
 simpa [rawInt] using k
theorem GY {Q:Option Value->Zg->Prop} (j:s.heap.IsKeyIter it d i es.size ep) (g1:s.heap.get? d=some D) (g3:D.data=.dict es ep) (hi:i<es.size)
  (k:∀ h',h'.IsKeyIter it d (i+1) es.size ep->Heap.SameBut it s.heap h'->Q (some es[i].key) { s with heap:=h' }):wpAny (model prog w) A (pyNext (.ref it)) Q E s:=by
 obtain⟨J,j1,j2,j3⟩:=id j;unfold pyNext;refine aa (jj (lW (name:=Str.ofString "__next__") j.typeIs r0 (fw r0 j.typeIs F.entry_dict_keyiterator_next ?_ (F.args_dict_keyiterator_next_1 _))));refine aa (ak (aa (aa ?_)))
 first | refine aa (oP j.typeIs (ak (aa (jk j1 j3 ?_)))) | refine aa (oQ j.typeIs (ak (aa (jk j1 j3 ?_))))
 have ow:Builtin.Dict_items.ownsTuple "dict_keyiterator"=false:=by decide
 simp only[ow,iK,eU];show wpAny _ _ (if (Value.ref d==Value.none)=true then _ else _) _ _ _;rw[af (fun z:(Value.ref d==Value.none)=true=>bS z)];refine aa (ak (aa (wpAny_dictEntries g1 g3 ?_)));rw[af (by simp)];refine aa (ak (aa (wpAny_dictEpoch g1 g3 ?_)));rw[af (by simp)];refine ak ?_;simp only[show ¬ ((i:Int)<0) from by lia,eU,dw,jv hi];refine aa ?_
 first | refine aa (oP j.typeIs (ak (aa (wpAny_isOneOf_keyiter j.typeIs ?_)))) | refine aa (oQ j.typeIs (ak (aa (wpAny_isOneOf_keyiter j.typeIs ?_))))
 refine show wpAny _ _ (setField (.ref it) 1 (rawInt ((i:Int)+1)) >>= _) _ _ s from aa (wpAny_setField j1 j3 (by simp) ?_)
 have jn:(s.heap.update it (Obj.mapFields (·.setIfInBounds 1 (rawInt ((i:Int)+1))))).IsKeyIter it d (i+1) es.size ep :=
  ⟨_,fP _ j1 (Obj.isFreed_of_fields (Obj.data_mapFields j3 _)),(Obj.cls_mapFields ..).trans j2,by rw[Obj.data_mapFields j3];simp [rawInt]⟩
 refine aa (cW (aa (wpAny_isOneOf_keyiter (s:={ s with heap:=s.heap.update it (Obj.mapFields (·.setIfInBounds 1 (rawInt ((i:Int)+1)))) }) jn.typeIs ?_)));refine show wpAny _ _ (pure es[i].key) _ _ _ from ?_
 exact ak (ak ⟨_,rfl,ak (k _ jn (Heap.SameBut.update ..))⟩)
theorem Jp {Q:Option Value->Zg->Prop} (ha:A.handled=none) (j:s.heap.IsKeyIter it d i es.size ep) (hi:es.size<=i) (g1:s.heap.get? d=some D) (g3:D.data=.dict es ep)
  (k:∀ h',Heap.ExtBut it s.heap h'->Q none { s with heap:=h' }):wpAny (model prog w) A (pyNext (.ref it)) Q E s:=by
 obtain⟨J,j1,j2,j3⟩:=id j;unfold pyNext;refine aa (jj (lW (name:=Str.ofString "__next__") j.typeIs r0 (fw r0 j.typeIs F.entry_dict_keyiterator_next ?_ (F.args_dict_keyiterator_next_1 _))));refine aa (ak (aa (aa ?_)))
 first | refine aa (oP j.typeIs (ak (aa (jk j1 j3 ?_)))) | refine aa (oQ j.typeIs (ak (aa (jk j1 j3 ?_))))
 have ow:Builtin.Dict_items.ownsTuple "dict_keyiterator"=false:=by decide
 simp only[ow,iK,eU];show wpAny _ _ (if (Value.ref d==Value.none)=true then _ else _) _ _ _;rw[af (fun z:(Value.ref d==Value.none)=true=>bS z)];refine aa (ak (aa (wpAny_dictEntries g1 g3 ?_)));rw[af (by simp)];refine aa (ak (aa (wpAny_dictEpoch g1 g3 ?_)));rw[af (by simp)];refine ak ?_;simp only[show ¬ ((i:Int)<0) from by lia,eU,dw,om hi];refine aa ?_
 first | refine aa (oP j.typeIs (ak ?_)) | refine aa (oQ j.typeIs (ak ?_))
 refine show wpAny _ _ (setField (.ref it) 0 .none >>= _) _ _ s from aa (wpAny_setField j1 j3 (by simp) ?_)
 refine show wpAny _ _ (newExc (.type "StopIteration") [] >>= _) _ _ _ from aa ?_
 simp only[newExc,newTuple];refine aa (gx (aa (m:=firstArgMember _ _) (wpAny_of_eq (a:=Value.none) (by first | rfl | (simp only[firstArgMember];rfl)) ?_)) (by size_fits));refine gx ?_ (by size_fits);simp only[raiseNew];refine aa (wpAny_handled ?_);rw[show A.in1.handled=none from ha];refine aa (ak (wpAny_throw ?_));refine aa (wpAny_isInstance (T:="StopIteration") (b:=true) ⟨_,bt _ rfl,rfl⟩ isSubtype_stop (ak ?_));exact (k _ (((Heap.SameBut.update ..).extBut.push _).push _))
end
section
variable {X:Cx}{Yp:Zp}{σ:St}{H:Hp}{A:Around}{s0:Zg}{l q I S:Addr}{vs:Zc}{R:Result->Zg->Prop}
end
section
variable {X:Cx}
end
noncomputable def Ct:TE:=fun _ H Q=>nw H (.dT []) Q
theorem EI {σ:St}{H:Hp}{Q:VK}:Ct σ H Q=nw H (.dT []) Q:=propext Iff.rfl
theorem Eg :PE X (.Dict [] [] pos) Ct:=fun Yp s σ H Q I h=>Gz Yp s σ H Q I (nw.go h)
theorem HM {td ty tv:TE}{D:Ends}{σ:St}{H:Hp}:Hb td ty tv D σ H=tv σ H fun v H1=>td σ H1 fun x H2=>ty σ H2 fun y H3=>∃ a H4,x=.ref a/\z9 H3 a y v H4/\D.nx σ H4:=propext Iff.rfl
theorem uI {o i value:Expr}{pos pos':Pos}{td ty tv:TE} (hu:X.A.units+1<cLine) (ho:PE X o td) (hi:PE X i ty) (hv:PE X value tv) (hs:swapsWith value (some (.Subscript o i pos')) pos.line X.env=pure false:=by ext) :
  PS X (.Assign [.Subscript o i pos'] value pos) (Hb td ty tv):=Jj hu ho hi hv hs
theorem me:∀ {ns:Zb}{us:Zc},Vals (ns.map V.int) us->IntsAre us ns
 | [],_,r=>by rw[jf] at r;cases r;exact .nil
 | n::ns,_,r=>by
  rw[bf] at r;cases r with
  | cons r1 r2=>obtain⟨t,rfl⟩:=r1;exact .cons n t (me r2)
theorem oH {α β:Type}{F:α->β->Prop}:∀ {l₁:List α}{l₂:List β},Paired F l₁ l₂->∀ {i:Nat}{x:α},l₁[i]?=some x->∃ y,l₂[i]?=some y/\F x y
 | _,_,.nil,i,x,e=>by simp at e
 | _,_,.cons r t,0,x,e=>by simp at e;subst e;exact⟨_,rfl,r⟩
 | _,_,.cons r t,i+1,x,e=>oH t (by simpa using e)
theorem DT {P:Zh}{w:Zi}{K:Zf}{mg mb:Zk}{CX:CXT}{k:Nat}{fa a c Pt:Addr}{q:Str}{fd:FuncData}{x:Str}{sp:Sp}{s₁:Zg}{vs:Zc}{ns:Zb}
  (KX:K.In s₁.heap) (hns:s₁.heap.Ns mainGlobals mg) (hb:s₁.heap.Ns builtinsNs mb) (hbb:∀ x:Str,x≠"__name__"->mb x=bootBuiltins x) (hlim:s₁.heap.NoLimit)
  (hbm:∃ bm ob,mg "__builtins__"=some (.ref bm)/\bm≠builtinsNs/\s₁.heap.get? bm=some ob/\ob.cls=.type "module"/\ob.dict=some builtinsNs/\ob.data=.plain) (hg:s₁.gens=#[])
  (ha:s₁.heap.get? a=some { cls:=.type "list",data:=.seq vs.toArray }) (hi:IntsAre vs ns) (hl:ns.length<=sizeLine) (hr:fD k callerA) (hC:PySem.W.codeHdIn K c Pt=true) (hPt:s₁.heap.get? Pt=some { cls:=.none,data:=.fields #[] }) (hKP:K.lookup Pt=none)
  (F:∀ base:Heap,K.In base->base.Ns mainGlobals mg->bU P w K mg base CX k fa fd [x] sp) (hbind:∀ (s:Zg) (u:Value),BindsTo s fd ⟨[u],[]⟩ [(x,u)])
  (hsp:∀ H:Hp,SqL K H a (ns.map V.int)->H Pt=some (oS q)->sp [.ref a] H (fun v _=>v=.bl true) fun _ _ _=>False)
  (hCX:∀ H e s',CX [] H s₁ (fun _ _ _=>False) e s'->False) :
  codeAny (model P w) callerA (.call (.ref fa) ⟨[.ref a],[]⟩) (fun r s'=>r=.ok (.ret (.bool true))/\OldK s₁.heap s'.heap/\s'.os=s₁.os/\AllBare s'.gens) s₁:=by
 have rv:=sq hi;have lenV:=hi.length;have hCd:=PySem.W.codeHd_of_K KX hC;have nPa:Pt≠a:=fun z=>by rw[z,ha] at hPt;cases hPt
 have core:∀ H:Hp,SqL K H a (ns.map V.int)->HOk P w H s₁.heap->H Pt=some (oS q)->(∀ b,H b≠none->b=Pt∨(b=a/\∃ o xs,H b=some (.frz o (.lst xs))))->(H a≠none->K.lookup a=none) →
   codeAny (model P w) callerA (.call (.ref fa) ⟨[.ref a],[]⟩) (fun r s'=>r=.ok (.ret (.bool true))/\OldK s₁.heap s'.heap/\s'.os=s₁.os/\AllBare s'.gens) s₁:=by
  intro H hS hok hT hA hK;have base_of:∀ {b:Addr}{o:Obj},s₁.heap.get? b=some o->H b=none->(wM s₁.heap H).get? b=some o:=fun e n=>FD e n;have noO:∀ {b:Addr}{o:Obj},s₁.heap.get? b=some o->(∀ xs n,o.data≠.seq xs n)->(∀ xs,o.data≠.fields xs)->H b=none:=fun {b o} e d1 d2=>by
   cases qb:H b with
   | none=>rfl
   | some u =>
    rcases hA b (by rw[qb];simp) with z | ⟨z,_⟩
    ·subst z;rw[hPt] at e;cases e;exact absurd rfl (d2 _)
    ·subst z;rw[ha] at e;cases e;exact absurd rfl (d1 _ _)
  have nsK:∀ {b:Addr}{m:Zk},s₁.heap.Ns b m->(wM s₁.heap H).Ns b m:=fun {b m} ⟨o,es,ep,e,d,r⟩=>⟨o,es,ep,base_of e (noO e (fun _ _ z=>by rw[d] at z;cases z) fun _ z=>by rw[d] at z;cases z),d,r⟩;have hKb:K.In (wM s₁.heap H):=fun b o e=>base_of (KX b o e) (by
   cases qb:H b with
   | none=>rfl
   | some u =>
    rcases hA b (by rw[qb];simp) with z | ⟨z,_⟩
    ·subst z;rw[hKP] at e;cases e
    ·subst z;rw[hK (by rw[qb];simp)] at e;cases e)
  have hM:Mod K mg (wM s₁.heap H):=⟨hKb,nsK hns,⟨mb,nsK hb,hbb⟩,let ⟨mc,h1,h2⟩:=hlim;⟨mc,nsK h1,h2⟩,let ⟨bm,ob,b1,b2,b3,b4,b5,b6⟩:=hbm;⟨bm,ob,b1,b2,base_of b3 (noO b3 (fun _ _ z=>by rw[b6] at z;cases z) fun _ z=>by rw[b6] at z;cases z),b4,b5,b6⟩⟩;have e0:zB P w K mg (wM s₁.heap H) callerA [] s₁ H:=⟨rfl,hM,fun b o e=>IQ e,lP (DG _ _),trivial,fun b hb=>absurd (show b∈([]:List Addr) from hb) (by simp),hok,.of_eq hg⟩;refine gw ((F _ hKb (nsK hns)).run callerA [] s₁ H ⟨[.ref a],[]⟩ [.ref a] [.ref a] _ _ hr e0 (hbind s₁ (.ref a)) (.cons rfl .nil) (hsp H hS hT)) fun r s' h=>?_;cases r with
  | error e=>exact (hCX H e s' h).elim
  | ok fl =>
   cases fl with
   | next=>exact False.elim h
   | brk=>exact False.elim h
   | cont=>exact False.elim h
   | ret u =>
    obtain⟨v,H',os,bare,un,hok',r',qv⟩:=h;have qv':v=.bl true:=qv;subst qv';obtain rfl:u=Value.bool true:=r';refine⟨rfl,⟨fun b o e=>?_,fun b o e=>un.there b o e (by simp)⟩,os,bare⟩;cases qb:H b with
    | none=>exact .inl (un.keep b o e qb (by intro z;exact absurd (show b∈([]:List Addr) from z) (by simp)) (by simp))
    | some u =>
     rcases hA b (by rw[qb];simp) with z | ⟨z,ob,xs,z1⟩
     ·subst z;rw[hPt] at e;cases e;obtain⟨more,z2⟩:=un.tbls b _ hT;obtain⟨qs,z3,_⟩:=(show bY P w H' s'.heap b _ from hok' b _ z2);exact .inr (.inl ⟨(hCd.tab hPt).isCodeTable,rfl,#[],qs,rfl,by simpa using z3⟩)
     ·have z2:=un.frzs b ob _ z1;obtain⟨e1,_⟩:=hok b _ z1;obtain⟨e2,_⟩:=hok' b _ z2;rw[e] at e1;cases e1;exact .inl e2
 have okT:∀ H:Hp,bY P w H s₁.heap Pt (oS q):=fun H=>⟨#[],hPt,trivial,fun pos c z=>by simp [codeAmong] at z⟩;cases hk:K.lookup a with
 | some o =>
  have e:=KX a o hk;rw[ha] at e;cases e;refine core (fun b=>if b=Pt then some (oS q) else none) (.inr ⟨_,vs.toArray,_,hk,rfl,rfl,rfl,by rw[bF,lenV];exact hl,by simpa using rv⟩) (fun b u z=>?_) (ah rfl) (fun b z=>?_) fun z=>absurd (af (bD nPa)) z
  ·by_cases hb':b=Pt
   ·have z':=(ah hb').symm.trans z;cases z';subst hb';exact okT _
   ·have z':=(af hb').symm.trans z;cases z'
  ·by_cases hb':b=Pt
   ·exact .inl hb'
   ·exact absurd (af hb') z
 | none =>
  refine core (fun b=>if b=Pt then some (oS q) else if b=a then some (.frz { cls:=.type "list",data:=.seq vs.toArray } (.lst (ns.map V.int))) else none) (.inl (.inr ⟨{ cls:=.type "list",data:=.seq vs.toArray },(af (bD nPa)).trans (ah rfl)⟩)) (fun b u z=>?_) (ah rfl) (fun b z=>?_) fun _=>hk
  ·by_cases hb':b=Pt
   ·have z':=(ah hb').symm.trans z;cases z';subst hb';exact okT _
   ·have z0:=(af hb').symm.trans z;clear z;have z:=z0
    by_cases hb2:b=a
    ·have z':=(ah hb2).symm.trans z;cases z';subst hb2;exact⟨ha,by rw[ag];exact hl,vs,_,rv,ha⟩
    ·have z':=(af hb2).symm.trans z;cases z'
  ·by_cases hb':b=Pt
   ·exact .inl hb'
   ·by_cases hb2:b=a
    ·exact .inr ⟨hb2,_,_,(af hb').trans (ah hb2)⟩
    ·exact absurd ((af hb').trans (af hb2)) z
theorem Hz {l:PySem.W.OpenLaw}{n k:Nat}{qq:Zh}{loose:Ze}{XP:(Zk)->Heap->Prop}{YP:Zi->Heap->Prop}{d:DefRec}{K:Params->Zf}{CX:Zi->CXT}{sp:Zi->Sp}{x:Str}{Pt:Addr} (q:Str)
  (hn:l.most=some n) (hn2:n<=sizeLine) (hdf:d.params.defaults=[]) (hr:fD k callerA)
  (hY:∀ (w:Zi) (h:Heap),YP w h->(K w.params).In h/\h.get? Pt=some { cls:=.none,data:=.fields #[] })
  (F:∀ (w:Zi) (mg:Zk) (fa:Addr) (h:Heap),(K w.params).In h->h.Ns mainGlobals mg->mg d.name=some (.ref fa) →
   (∃ c,PySem.W.codeHdIn (K w.params) c Pt=true)/\∃ fd:FuncData,(∀ (s:Zg) (u:Value),BindsTo s fd ⟨[u],[]⟩ [(x,u)]) ∧
    ∀ base:Heap,(K w.params).In base->base.Ns mainGlobals mg->bU l.prog w (K w.params) mg base (CX w) k fa fd [x] (sp w))
  (hKP:∀ w:Zi,(K w.params).lookup Pt=none)
  (hsp:∀ (w:Zi) (H:Hp) (a:Addr) (ns:Zb),ns.length<=n->SqL (K w.params) H a (ns.map V.int)->H Pt=some (oS q)->sp w [.ref a] H (fun v _=>v=.bl true) fun _ _ _=>False)
  (hCX:∀ (w:Zi) (H:Hp) (s:Zg) (e:Value) (s':Zg),CX w [] H s (fun _ _ _=>False) e s'->False) :
  PySem.W.WalkO qq loose XP YP l.row.toRowW d [] (fun f vs=>PySem.call f vs):=by
 refine Att.xU hn hdf fun w s₀ s₁ mg mb fa o pm cd doc a vs ns G Y ho hd hcd hmg hobj hints hlen hg=>?_;obtain⟨KX,hPt⟩:=hY w _ Y;obtain⟨⟨c,hC⟩,fd,hb,hF⟩:=F w mg fa _ KX G.T.g hmg;exact DT (q:=q) KX G.T.g G.T.b G.T.builtins G.T.nolimit G.T.bmain hg hobj hints (aV hlen hn2) hr hC hPt (hKP w) hF hb (fun H hS hT=>hsp w H a ns hlen hS hT) fun H e s'=>hCX w H s₁ e s'
section
variable {P:Zh}{w:Zi}{K:Zf}{mg:Zk}{base:Heap}
end
end
section
theorem j8:∀ {zs:Ze}{us:Zc},StrsAre us zs->Vals (zs.map V.str) us
 | _,_,.nil=>.nil
 | _,_,.cons z t h=>.cons ⟨t,rfl⟩ (j8 h)
section
variable {prog:Zh}{w:Zi}{A:Around}{E:Zq}{s:Zg}
end
section
variable {prog:Zh}{w:Zi}{A:Around}{E:Zq}{s:Zg}
end
section
variable {α:Type}
theorem Mj {p:List α->Prop} (h:p []) (us:List α) (e:us.length=0):p us:=by
 cases us with
 | nil=>exact h
 | cons _ _=>cases e
theorem bind1 {p:List α->Prop} (h:∀ a,p [a]) (us:List α) (e:us.length=1):p us:=by
 cases us with
 | nil=>cases e
 | cons a r=>exact Mj (p:=fun r=>p (a::r)) (h a) r (Nat.succ.inj e)
theorem cX {p:List α->Prop} (h:∀ a b,p [a,b]) (us:List α) (e:us.length=2):p us:=by
 cases us with
 | nil=>cases e
 | cons a r=>exact bind1 (p:=fun r=>p (a::r)) (h a) r (Nat.succ.inj e)
theorem oT {p:List α->Prop} (h:∀ a b c,p [a,b,c]) (us:List α) (e:us.length=3):p us:=by
 cases us with
 | nil=>cases e
 | cons a r=>exact cX (p:=fun r=>p (a::r)) (h a) r (Nat.succ.inj e)
theorem xV {p:List α->Prop} (h:∀ a b c d,p [a,b,c,d]) (us:List α) (e:us.length=4):p us:=by
 cases us with
 | nil=>cases e
 | cons a r=>exact oT (p:=fun r=>p (a::r)) (h a) r (Nat.succ.inj e)
end
end
section
end
section
section
variable {X:Cx}
end
section
variable {prog:Zh}{w:Zi}{A:Around}{E:Zq}{s:Zg}
end
section
variable {X:Cx}
end
end
section
structure HC (K:Zf) (x qual:Str) (st:Stmt) (f:Addr) (fd:FuncData):Prop where
 ex:∃ (oc:Value) (od:Option Addr) (dV kV doc pm:Value) (an:Option Addr) (cdv ct:Value) (osl:Array (Option Value)),
  fd=PySem.W.fnOf x qual (cY st) (cP st) (ay st) dV kV doc pm an cdv ct/\K.lookup f=some ⟨oc,od,.func fd,osl⟩/\PySem.W.codeIn K cdv qual=true
 kp:PySem.W.keepIn K (.ref f)=true
section
variable {P:Zh}{w:Zi}{K:Zf}{mg:Zk}{base:Heap}
theorem IE {x qual:Str}{f:Addr}{oc:Value}{od an:Option Addr}{osl:Array (Option Value)}{dV kV doc pm cdv ct:Value} (l:K.lookup f=some ⟨oc,od,.func (PySem.W.fnOf x qual (cY st) (cP st) (ay st) dV kV doc pm an cdv ct),osl⟩)
  (c:PySem.W.codeIn K cdv qual=true) (k:PySem.W.keepIn K (.ref f)=true):HC K x qual st f (PySem.W.fnOf x qual (cY st) (cP st) (ay st) dV kV doc pm an cdv ct):=⟨⟨oc,od,dV,kV,doc,pm,an,cdv,ct,osl,rfl,l,c⟩,k⟩
theorem HC.okT {x qual:Str}{f c:Addr}{N ps:Ze}{k:Nat} (F:HC K x qual st f fd) (hc:fd.code=.ref c) (S:aN N ps (ay st)) (len:∀ vs H Q E,sp vs H Q E->vs.length=ps.length)
  (hbody:∀ (A:Around) (outer:List Env) (s:Zg) (H:Hp) (vs:List V) (Q:VK) (E:XK),fD k (A.deeper (envOfC qual (ay st) s.heap.objs.size f (.ref c)))->sp vs H Q E →
   ∃ t,PSs (vi (CX1 P w) P w K mg base N qual (ay st) f (.ref c) A outer s H E) (cP st) t/\t { nx:=fun _ H'=>Q .non H',rt:=Q } (start N vs) H):bU P w K mg base (CX1 P w) (k+1) f fd ps sp:=by
 obtain⟨oc,od,dV,kV,doc,pm,an,cdv,ct,osl,rfl,lk,hcd⟩:=F.ex;have e:cdv=.ref c:=hc;subst e;exact JJ lk hcd S len fun A outer s H vs Q E hr hsp=>hbody A outer s H vs Q E hr hsp
end
structure Ng (P:Zh) (w:Zi) (K:Zf) (mg:Zk) (base:Heap) (CX:CXT) (C:Addr) (m:Str) (k:Nat) (ps:Ze) (sp:Sp):Prop where
 ex:∃ (f:Addr) (fd:FuncData),bU P w K mg base CX k f fd ps sp/\Meth K C m f/\Binds K fd ps [.none]
 cl:Cls K C
section
variable {X:Cx}{CX:CXT}{E:St->XK}
end
section
variable {X:Cx}{Yp:Zp}{σ:St}{H:Hp}{s:Zg}
noncomputable abbrev BU (q:Str) (params:Arguments) (body:Expr) (scope:Scope) (cl:List (Str×Addr)) (pm cd ctv:Value):Obj :=
 { cls:=.type "function",data:=.func (PySem.W.kla_fn "<lambda>" q params body scope cl pm cd ctv) }
theorem DS {A:Around}{E:Zq}{Q:Zq}{P c:Addr}{params:Arguments}{body:Expr}{scope:Scope}{lpos:Pos}{cl:List (Str×Addr)} (I:Inv X Yp σ H s) (e:H P=some (oS q))
  (hcd:X.env.code=.ref c) (hC:PySem.W.codeHdIn X.K c P=true) (hq:X.env.qual++"<lambda>"=q) (hd:defaultsOf params X.env=([],[])) (hcl:clo X.env.cells scope.names []=some cl)
  (k:∀ f c' ctv H' s',Inv X Yp σ H' s'->az H H'->H f=none->H' f=some (.frz (BU q params body scope cl ((X.mg "__name__").getD .none) (.ref c') ctv) (.own P))->qd H' P q c'->Q (.ref f) s') :
  wpAny (model X.prog X.w) A (eval (.Lambda params body scope lpos) X.env) Q E s:=by
 refine PySem.W.kla_eval hd ?_;rw[hq];have C:=PySem.W.codeHd_of_K I.kIn hC;obtain⟨qs,g1,g2,g3⟩:=tab_of I e;have hg:=I.mod.glob.keeps I.bk;obtain⟨bm,ob,b1,b2,b3,b4,b5,b6⟩:=I.mod.bmn;have hgP:mainGlobals≠P:=fun z=>by obtain⟨o,es,ep,w1,w2,_⟩:=I.mod.glob;have:=(I.bs _ _ w1).2;rw[z,e] at this;cases this
 have hbP:bm≠P:=fun z=>by have:=(I.bs _ _ b3).2;rw[z,e] at this;cases this
 have hbG:bm≠mainGlobals:=fun z=>by obtain⟨o,es,ep,w1,w2,_⟩:=I.mod.glob;rw[z,w1] at b3;cases b3;rw[w2] at b6;cases b6
 have hb:s.heap.BuiltinsAt X.mg P:=⟨bm,ob,b1,b2,hbG,hbP,I.bk _ _ b3,b4,b5,b6⟩;have hcl':=jF hcl;cases hf:codeAmong lpos qs.toList with
 | none =>refine PySem.W.kla_makeFunction (mg:=X.mg) hcl' I.ok.glob hg hcd C g1 g2 hf hgP hb fun c' ctv h' tk hx hge hlt hrec htb=>?_;obtain⟨c2,oc,vs,t,z1,z2,z3,z4⟩:=id hrec;cases z1;have I1:Inv X Yp σ (upd H c' (.frz oc (.own P))) { s with heap:=h',toks:=tk }:=I.tabled (ps:=qs) e (fun b o hb z=>hx b o hb z) hge htb (by simpa using TriplesOk_snoc _ _ _ _ g2) (fun pos x z=>zG qs.toList g2 x (by simpa using z)) g1 z2 z3 z4;have hn:=I.hok.fresh hge;have kp:∀ b o,h'.get? b=some o->(h'.push (PySem.W.kla_obj "<lambda>" q params body scope cl ((X.mg "__name__").getD .none) c' ctv)).get? b=some o:=fun b o z=>aD _ z;have hf1:=I1.hok.fresh (ar h'.objs.size);have hfH:H h'.objs.size=none:=I.hok.fresh (aQ (cV hge hlt));refine k h'.objs.size c' ctv _ _ (I1.laid (a:=h'.objs.size) (o:=.frz (BU q params body scope cl ((X.mg "__name__").getD .none) (.ref c') ctv) (.own P)) (t':=tk) kp (ar _) ⟨bt _ rfl,_,bt _ rfl⟩) ((du hn).trans (du hf1)) hfH aE ?_;exact qd.same ⟨oc,vs,t,aE,z3,z4⟩ (du hf1)
 | some cv =>obtain⟨c',oc,vs,t,a1,a2,a3,a4,a5⟩:=g3 lpos cv hf;subst a1;refine PySem.W.kla_makeFunctionHit (mg:=X.mg) hcl' I.ok.glob hg hcd C g1 g2 hf hb fun ctv h' tk hx hsz=>?_;have kp:∀ b o,s.heap.get? b=some o->(h'.push { cls:=.type "function",data:=.func (PySem.W.kla_fn "<lambda>" q params body scope cl ((X.mg "__name__").getD .none) (.ref c') ctv) }).get? b=some o:=fun b o z=>aD _ (hx b o z);have hf1:=I.hok.fresh hsz;refine k h'.objs.size c' ctv _ _ (I.laid (a:=h'.objs.size) (o:=.frz (BU q params body scope cl ((X.mg "__name__").getD .none) (.ref c') ctv) (.own P)) (t':=tk) kp hsz ⟨bt _ rfl,_,bt _ rfl⟩) (du hf1) hf1 aE ?_;exact qd.same ⟨oc,vs,t,a2,a4,a5⟩ (du hf1)
noncomputable def r6 (q:Str) (Pt:Addr) (H:Hp) (f:Addr):Prop:=∃ (pm ctv:Value) (c':Addr) (params:Arguments) (scope:Scope) (x:Str) (j:Nat) (p:Pos),
 H f=some (.frz (BU q params (.Constant (.bool false) j p) scope [] pm (.ref c') ctv) (.own Pt))/\qd H Pt q c' ∧
 (∀ u:Value,bindArgs (PySem.W.kla_fn "<lambda>" q params (.Constant (.bool false) j p) scope [] pm (.ref c') ctv) ⟨[u],[]⟩=pure [(x,u)]) ∧
 scope.isCoroutine=false/\scope.isGenerator=false/\scope.kind=.function/\(∀ y∈scope.names,y.2≠.cell)/\scope.names.lookup x=some .local
theorem r6.same {q:Str}{Pt f:Addr}{H H':Hp} (h:r6 q Pt H f) (s:az H H'):r6 q Pt H' f:=by obtain⟨pm,ctv,c',params,scope,x,j,p,h1,h2,h3⟩:=h;exact⟨pm,ctv,c',params,scope,x,j,p,s _ _ h1,h2.same s,h3⟩
theorem EU {R:Zq}{E:Zq}{Pt f:Addr}{u:Value} (I:Inv X Yp σ H s) (hr:A.depth<recursionLimit) (B:r6 q Pt H f) (k:∀ s',Inv X Yp σ H s'->R (.bool false) s') :
  wpAny (model X.prog X.w) A (call (.ref f) [u]) R E s:=by
 obtain⟨pm,ctv,c',params,scope,x,j,p,hf,hc,hbind,hco,hgen,hk,hcell,hx⟩:=B;have hf':=(I.hok f _ hf).1;refine i6 (PySem.W.kla_callFunE hr hf' rfl hco hgen rfl (hc.rec I) ?_);rw[hbind];refine ak (wpAny_newFunctionEnv hcell (fun y hy=>by rw[bg.mp hy];exact hx) (fun h₁ hns hsb=>⟨(I.nolimit).fresh _ hsb,?_⟩) hk);show codeAny _ _ (.expr _ (PySem.W.envX q scope s.heap.objs.size f (.ref c') [])) _ _;have k1:∀ b o,s.heap.get? b=some o->h₁.get? b=some o:=fun b o z=>hsb.extBut b o (aW (aG z)) (aD _ z);have I1:Inv X Yp σ H { s with heap:=h₁,toks:=s.toks+1 }:=I.kept (t':=s.toks+1) k1;refine PySem.W.kla_codeExpr ?_;exact Constant_bool (k _ I1)
end
noncomputable def Ke (q:Str) (Pt:Addr):TE:=fun _ H Q=>H Pt=some (oS q)/\∀ f H',H f=none->az H H'->r6 q Pt H' f->Q (.ref f) H'
theorem HV {q:Str}{Pt:Addr}{σ:St}{H:Hp}{Q:VK}:Ke q Pt σ H Q=(H Pt=some (oS q)/\∀ f H',H f=none->az H H'->r6 q Pt H' f->Q (.ref f) H'):=propext Iff.rfl
noncomputable def Hm (q:Str) (Pt:Addr) (tv:TE) (t:TA):TE:=fun σ H Q=>tv σ H fun x H1=>∃ f,x=.ref f/\r6 q Pt H1 f/\t σ H1 fun vs H2=>r6 q Pt H2 f/\vs.length=1/\Q (.bl false) H2
theorem EF {q:Str}{Pt:Addr}{tv:TE}{t:TA}{σ:St}{H:Hp}{Q:VK}:Hm q Pt tv t σ H Q=tv σ H fun x H1=>∃ f,x=.ref f/\r6 q Pt H1 f/\t σ H1 fun vs H2=>r6 q Pt H2 f/\vs.length=1/\Q (.bl false) H2:=propext Iff.rfl
section
variable {X:Cx}
theorem Je {Pt c:Addr}{q x:Str}{params:Arguments}{j:Nat}{p lpos:Pos} (hcd:X.env.code=.ref c) (hC:PySem.W.codeHdIn X.K c Pt=true) (hq:X.env.qual++"<lambda>"=q) (hcl:clo X.env.cells scope.names []=some [])
  (hx:scope.names.lookup x=some .local)
  (hbind:∀ (pm ctv:Value) (c':Addr) (u:Value),bindArgs (PySem.W.kla_fn "<lambda>" q params (.Constant (.bool false) j p) scope [] pm (.ref c') ctv) ⟨[u],[]⟩=pure [(x,u)])
  (hd:defaultsOf params X.env=([],[]):=by rfl)
  (hco:scope.isCoroutine=false:=by rfl) (hgen:scope.isGenerator=false:=by rfl) (hk:scope.kind=.function:=by rfl) (hcell:∀ y∈scope.names,y.2≠.cell:=by nofun) :
  PE X (.Lambda params (.Constant (.bool false) j p) scope lpos) (Ke q Pt):=by
 intro Yp s σ H Q I h;obtain⟨h1,h2⟩:=h;exact DS I h1 hcd hC hq hd hcl fun f c' ctv H' s' I' sm hn hf hc=>⟨.ref f,H',I',rfl,h2 f H' hn sm ⟨_,ctv,c',params,scope,x,j,p,hf,hc,fun u=>hbind _ _ _ u,hco,hgen,hk,hcell,hx⟩⟩
theorem uE {q x:Str}{tv:TE}{t:TA}{p pos:Pos}{k:Nat} (hv:PE X (.Name x p) tv) (hr:fD k X.A) (ha:PA X [e] t) (hs:eF [e]=true:=by ext):PE X (.Call (.Name x p) [e] [] pos) (Hm q Pt tv t):=by
 intro Yp s σ H Q I h;refine lU (thn (hv Yp s σ H _ I h) fun u s1 ⟨v,H1,I1,r,f,ev,B1,q1⟩=>?_);subst ev;cases r;have fnA:∀ {H:Hp}{s:Zg},Inv X Yp σ H s->r6 q Pt H f->PySem.W.FnAt f s.heap:=fun I B=>by obtain⟨pm,ctv,c',params,scope,x,j,p,hf,_⟩:=B;exact⟨_,_,_,_,(I.hok f _ hf).1⟩
 refine PySem.W.callWith_F (fnA I1 B1) (thn (ha pos Yp s1 σ H1 _ I1 q1) fun us s2 ⟨vs,H2,I2,r2,B2,l2,q2⟩=>⟨fnA I2 B2,?_⟩) (bo (bB hs).1) (dI (bB hs).2);obtain⟨u,rfl⟩:∃ u,us=[u]:=by have:=r2.length;rw[l2] at this;exact List.length_eq_one_iff.mp this.symm
 exact EU I2 hr.depth B2 fun s3 I3=>⟨.bl false,H2,I3,rfl,q2⟩
end
noncomputable def GN:List V->Hp->VK->Prop:=fun vs H Q=>match vs with
 | [.ref a]=>∃ kvs,Rd H a (.dK kvs)/\Q (.int kvs.length) H
 | _=>False
theorem Fp {a:Addr}{H:Hp}{Q:VK}:GN [.ref a] H Q=(∃ kvs,Rd H a (.dK kvs)/\Q (.int kvs.length) H):=propext Iff.rfl
theorem CP :dr X (.builtin "len") GN:=by
 intro Yp s σ H xs us Q I r h;rcases xs with _ | ⟨x0,t⟩
 ·exact h.elim
 cases x0<;>try exact h.elim
 cases t<;>try exact h.elim
 next a =>obtain⟨kvs,ha,q⟩:=h;obtain⟨u,rfl,r2⟩:=vals1 r;cases r2;exact Mn I ha fun t s' I'=>⟨.int kvs.length,H,I',⟨t,rfl⟩,q⟩
section
variable {prog:Zh}{w:Zi}{A:Around}{E:Zq}{s:Zg}
end
end
section
section
variable {prog:Zh}{w:Zi}{A:Around}{E:Zq}{s:Zg}
end
section
variable {X:Cx}
end
end
section
end
section
section
variable {prog:Zh}{w:Zi}{A:Around}{E:Zq}{h:Heap}{g:Array GenState}{d:Drawn}{t:Nat}{os:OsState}
variable {nm q:Str}{C N:Addr}{bs bm bmB:Zc}{hdct:Bool}{sn:Ze}{sub:Zc}{ab:Bool}{col:Option Bool}{dd:Option Addr}{k0 k1 k2 k3 k5:Option Value}{B newId initId:String}
noncomputable abbrev gM (C t:Addr) (dx:Option Addr):Obj:={ cls:=.ref C,dict:=dx,data:=.fields #[.ref t,.none,.none,.none,.bool false,.none] }
noncomputable abbrev qj (vs:Zc):Obj:={ cls:=.type "tuple",data:=.seq vs.toArray }
theorem Ju (F:ExcBaseFacts B newId initId bmB) (T:OwnTail h bmB bm) {mN:Zk}{rest:Zc}{fI:Addr}{oI:Obj}{Q:Fin->Zg->Prop}
  (hC:h.get? C=some (excClassObj nm q C N bs bm hdct sn sub ab col dd k0 k1 k2 k3 k5 newId)) (hn:h.Ns N mN) (hi:mN "__init__"=some (.ref fI)) (hfI:h.get? fI=some oI) (hfc:oI.cls=.type "function") (hz:rest.length<=sizeLine)
  (k:wpAny (model prog w) A (call (.ref fI) (.ref (h.objs.size+1)::rest)) (fun r s'=>r=.none/\Q (.done (.ret (.ref (h.objs.size+1)))) s') E ⟨(h.push (qj rest)).push (gM C h.objs.size none),g,d,t,os⟩) :
  wpAny (model prog w) A (Builtin.«type.__call__» ⟨.ref C::rest,[]⟩) Q E ⟨h,g,d,t,os⟩:=by
 have up:∀ b o,h.get? b=some o->((h.push (qj rest)).push (gM C h.objs.size none)).get? b=some o:=fun b o e=>aD _ (aD _ e);have hC':=up _ _ hC;have he:((h.push (qj rest)).push (gM C h.objs.size none)).get? (h.objs.size+1)=some (gM C h.objs.size none):=by heap_get
 have own:(Value.ref C::bm).contains (.ref C)=true:=by simp
 repeat (first | with_reducible refine oq hC ?_ | with_reducible refine wpAny_madeBy_exc hC ?_ | wp_step)
 refine codeAny_call_builtin_code (Code.quiet_builtin _ F.quiet) (wpAny_check_new_subT F T hC (codeAny_exc_new_subT F T hC ?_ hz));show wpAny _ _ _ _ _ _;unfold isInstance
 repeat (first | with_reducible refine oq he ?_ | (with_reducible refine wpAny_isSubtype_exc hC' ?_;rw[own]) | wp_step)
 show wpAny _ _ (typeLookup (.ref C) _) _ _ _;refine wpAny_typeLookup_tail hC' (hn.keeps up) (T.keeps up) F.mroIs F.init.lookup ?_;rw[hi];refine cW (aa ?_);unfold bindSpecial;refine aa (wpAny_typeOf (T:="function") ⟨_,up _ _ hfI,hfc⟩ ?_);rw[ah (by decide)];refine ak (aa (bM k (fun r s' z=>?_) fun _ _ z=>z));obtain⟨rfl,z⟩:=z
 wp_walk
 exact z
theorem Jt (F:ExcBaseFacts B newId initId bmB) (T:OwnTail h bmB bm) {mN:Zk}{rest:Zc}{fI:Addr}{oI:Obj}{Q:Zq}
  (hC:h.get? C=some (excClassObj nm q C N bs bm hdct sn sub ab col dd k0 k1 k2 k3 k5 newId)) (hn:h.Ns N mN) (hi:mN "__init__"=some (.ref fI)) (hfI:h.get? fI=some oI) (hfc:oI.cls=.type "function") (hz:rest.length<=sizeLine)
  (k:wpAny (model prog w) (A.under (.builtin "type.__call__" ⟨.ref C::rest,[]⟩)) (call (.ref fI) (.ref (h.objs.size+1)::rest)) (fun r s'=>r=.none/\Q (.ref (h.objs.size+1)) s') E ⟨(h.push (qj rest)).push (gM C h.objs.size none),g,d,t,os⟩) :
  wpAny (model prog w) A (call (.ref C) rest) Q E ⟨h,g,d,t,os⟩:=by
 have f1:=tc_lookup;have f2:=tc_bind (.ref C);have ty:(⟨h,g,d,t,os⟩:Zg).TypeIs (.ref C) "type":=⟨_,hC,rfl⟩;refine i6 (codeAny_of_tree ?_);show wpAny _ _ (callAny (.ref C) _) _ _ _
 repeat (any_goals (first | assumption | with_reducible refine oq hC ?_ | wp_step))
 exact⟨rfl,codeAny_call_builtin_at (Code.quiet_builtin _ (by nofun)) entry_typeCall (wpAny_check_type_call_sub hC (Ju F T hC hn hi hfI hfc hz k))⟩
theorem GZ {M:Model}{env:Env}{s:Zg}{x:Sem Value}{Q:Flow->Zg->Prop} (hbase:bm.contains (.type "BaseException")=true) (hh:A.handled=none)
  (k:wpAny M A x (fun v s₁=>∃ e t dx,v=.ref e/\s₁.heap.get? C=some (excClassObj nm q C N bs bm hdct sn sub ab col dd k0 k1 k2 k3 k5 newId)/\s₁.heap.get? e=some (gM C t dx)/\E (.ref e) s₁) E s) :
  wpAny M A (raiseStmt env (some x) none) Q E s:=by
 have has:(Value.ref C::bm).contains (.type "BaseException")=true:=by rw[List.contains_cons,hbase,Bool.or_true]
 unfold raiseStmt;refine aa (bM k (fun v s₁ z=>?_) fun _ _ z=>z);obtain⟨e,t,dx,rfl,hC,he,hE⟩:=z;obtain⟨hp,g,d,tk,os⟩:=s₁
 repeat (first | with_reducible refine oq he ?_ | with_reducible refine oq hC ?_ | (with_reducible refine wpAny_isSubtype_exc hC ?_;rw[has]) | wp_step)
 exact wpAny_raiseNew_none hh hE
end
noncomputable def oZ:Zc->Bool
 | .ref _::r=>oZ r
 | l=>l==[.type "ValueError",.type "Exception",.type "BaseException",.type "object"]
theorem Aj:∀ (l:Zc),oZ l=true->l.contains (.type "object")=true/\∀ self,refuseLoop self "__setattr__" l=pure ():=by
 intro l
 induction l with
 | nil=>intro e;cases (eT.mp e:([]:Zc)=_)
 | cons v r ih =>
  intro e;unfold oZ at e;split at e
  ·rename_i c r' z
   cases z
   obtain⟨h1,h2⟩:=ih e;refine⟨by rw[List.contains_cons,h1,Bool.or_true],fun self=>?_⟩;rw[refuseLoop_ref];exact h2 self
  ·have e':=eT.mp e;rw[e'];exact⟨by nofun,fun self=>by ext⟩
section
variable {prog:Zh}{w:Zi}{A:Around}{E:Zq}{s:Zg}{K:Zf}{x C t:Addr}{name:Str}{v:Value}
theorem LJ {Q:Unit->Zg->Prop} (X:K.In s.heap) (hx:s.heap.get? x=some (gM C t none)) (hs:PySem.W.findIn K (.ref C) "__setattr__"=some (some (.builtin "object.__setattr__")))
  (hp:((PySem.W.clsIn K C).any fun cd=>oZ cd.mro)=true) (ht:PySem.W.takerIn K C name=some none) (hh:PySem.W.hasDictIn K C=true)
  (k:∀ h',h'.get? x=some (gM C t (some s.heap.objs.size))->h'.Ns1 s.heap.objs.size (fun y=>if y=name then some v else none)->(∀ b o,b≠x->s.heap.get? b=some o->h'.get? b=some o)->Q () { s with heap:=h',toks:=s.toks+2 }) :
  wpAny (model prog w) A (setAttr (.ref x) name v) Q E s:=by
 have J:PySem.W.InstAt s.heap x (gM C t none) C none:=⟨hx,rfl,rfl,trivial⟩;refine PySem.W.set_plain X J hs ?_;have SF:=PySem.F.store_object;obtain⟨cd,hc,ho⟩:=PySem.W.any_some hp;obtain⟨o1,o2⟩:=Aj _ ho;have ne:cd.mro.isEmpty=false:=by cases q:cd.mro with | nil=>rw[q] at o1;cases o1 | cons _ _=>rfl
 have sub:PySem.W.Looks (model prog w) s.heap (isInstance (.ref x) (.type "object")) true:=J.type.andThen (PySem.W.looks_mroIn X (by unfold PySem.W.mroIn;rw[hc,Option.bind_some,af (by rw[ne];decide),o1]));refine oj SF.slot.plain SF.entry (@PySem.W.check_slot (model prog w) _ _ { s with toks:=s.toks+1 } "object.__setattr__" "object" "__setattr__" (.ref x) [.str name s.toks,v] [] _ SF.kind SF.split sub (SF.args (.ref x) (.str name s.toks) v) ?_);obtain⟨attr,ha,hr⟩:=Option.bind_eq_some_iff.mp ht;have hm:PySem.W.Looks (model prog w) s.heap (mroOf (.ref C)) cd.mro:=(PySem.W.looks_clsIn X hc).andThen .now;have L3:PySem.W.Looks (model prog w) s.heap (Builtin.ObjectAttr.storeTaker? attr) none:=by
  cases attr with
  | none=>exact .now
  | some a =>
   obtain⟨b,hb,e⟩:=dO.mp hr;refine (PySem.W.looks_takesIn X hb).andThen ?_;cases b with
   | false=>exact .now
   | true=>cases e
 rw[PySem.W.osa_eq,refuse_eq];refine aa (aa (J.type.here (s:={ s with toks:=s.toks+1 }) (aa (hm.here (s:={ s with toks:=s.toks+1 }) ?_))));rw[o2];refine ak (aa (J.type.here (s:={ s with toks:=s.toks+1 }) (aa ((rz X ha).here (s:={ s with toks:=s.toks+1 }) (aa (L3.here (s:={ s with toks:=s.toks+1 }) ?_))))));obtain⟨cd',hc',hd'⟩:=PySem.W.any_some hh;refine aa (ak (aa (aa (wpAny_loadPart (s:={ s with toks:=s.toks+1 }) hx (aa (PySem.W.Looks.here (s:={ s with toks:=s.toks+1 }) (PySem.W.looks_clsIn X hc') ?_))))));rw[hd'];rw[af (by decide)];refine aa (m:=alloc PySem.W.emptyDict) (wpAny_alloc ?_);have e0:(s.heap.push PySem.W.emptyDict).get? x=some (gM C t none):=aD _ hx;have ed:(s.heap.push PySem.W.emptyDict).get? s.heap.objs.size=some PySem.W.emptyDict:=bt s.heap rfl;have nx:x≠s.heap.objs.size:=aW (aG hx);refine aa (wpAny_update (s:=⟨s.heap.push PySem.W.emptyDict,s.gens,s.drawn,s.toks+1,s.os⟩) e0 ?_);have upx:((s.heap.push PySem.W.emptyDict).update x fun o=>{ o with dict:=some s.heap.objs.size }).get? x=some (gM C t (some s.heap.objs.size)):=fP _ e0 rfl;have upo:∀ b o,b≠x->(s.heap.push PySem.W.emptyDict).get? b=some o->((s.heap.push PySem.W.emptyDict).update x fun o=>{ o with dict:=some s.heap.objs.size }).get? b=some o:=fun b o hb q=>(dv _ _ (bD hb)).trans q;refine ak (a:=some s.heap.objs.size) (aa (ak (aa ?_)));have n0:((s.heap.push PySem.W.emptyDict).update x fun o=>{ o with dict:=some s.heap.objs.size }).Ns s.heap.objs.size (fun _=>none):=⟨PySem.W.emptyDict,#[],_,upo _ _ (bD nx) ed,rfl,(fun e he=>absurd he (by simp)),fun _=>rfl⟩;refine wpAny_nsSet1 (s:=⟨(s.heap.push PySem.W.emptyDict).update x fun o=>{ o with dict:=some s.heap.objs.size },s.gens,s.drawn,s.toks+1,s.os⟩) (Heap.Ns1.of_empty n0) fun h' hn2 hs2=>?_;obtain⟨oD,esD,epD,hoD,hdD,hcD⟩:=hn2.count (ns:=[name]) (fun y hy=>by
  by_cases z:y=name
  ·rw[z];simp
  ·exact absurd (af z) hy)
 refine aa (wpAny_lookBehind hoD (by rw[hdD];exact pastItsLine_dict (aV hcD (by rw[aZ];exact Nat.succ_le_succ (bj _)))) ?_);exact ak (k _ ((hs2.2 _ nx).trans upx) hn2 fun b o hb q=>(hs2.2 _ (aW (aG q))).trans (upo b o hb (aD _ q)))
end
noncomputable abbrev Ir:Zc:=[.type "ValueError",.type "Exception",.type "BaseException",.type "object"]
theorem Li {N:Addr}{m:Zk} (X:K.In h) (G:h.Ns N m) (q:PySem.W.nsIn K N x=some (some v)):m x=some v:=by
 obtain⟨ob,ents,pp,h1,h2,_,h3⟩:=G;unfold PySem.W.nsIn at q;split at q;next c d l n sl e1 =>
  have e2:=(X _ _ e1).symm.trans h1;cases e2;cases h2;split at q;next u e3 =>
   cases q
   rw[←h3];unfold nsFind findBy;rw[←Array.find?_toList,e3];rfl
  next=>split at q<;>cases q
 next=>cases q
structure CB (K:Zf) (C f:Addr):Prop where
 ex:∃ nm q N bs bm hdct sn sub ab col dd k0 k1 k2 k3 k5,K.lookup C=some (excClassObj nm q C N bs bm hdct sn sub ab col dd k0 k1 k2 k3 k5 "ValueError.__new__")/\PySem.W.nsOkIn K N=true/\PySem.W.nsIn K N "__init__"=some (some (.ref f))/\PySem.W.tailIn K Ir bm=true
 fn:PySem.W.isFn K (.ref f)=true
 kp:PySem.W.keepIn K (.ref C)=true
theorem CB.at {C f:Addr} (O:CB K C f) (X:K.In h) :
  ∃ nm q N bs bm hdct sn sub ab col dd k0 k1 k2 k3 k5 mN oI,h.get? C=some (excClassObj nm q C N bs bm hdct sn sub ab col dd k0 k1 k2 k3 k5 "ValueError.__new__")/\h.Ns N mN/\mN "__init__"=some (.ref f)/\OwnTail h Ir bm/\h.get? f=some oI/\oI.cls=.type "function":=by
 obtain⟨nm,q,N,bs,bm,hdct,sn,sub,ab,col,dd,k0,k1,k2,k3,k5,h1,h2,h3,h4⟩:=O.ex;have hns:h.Ns N _:=.of_isNs (PySem.W.isNs_of_in X h2);have hf:PySem.W.typeIn K (.ref f)=some (.type "function"):=eT.mp O.fn;have:∃ oI,h.get? f=some oI/\oI.cls=.type "function":=by have hf':(K.lookup f).map (fun o=>o.cls)=some (.type "function"):=hf;obtain⟨o,q1,q2⟩:=dO.mp hf';exact⟨o,X _ _ q1,q2⟩
 obtain⟨oI,i1,i2⟩:=this;exact⟨nm,q,N,bs,bm,hdct,sn,sub,ab,col,dd,k0,k1,k2,k3,k5,_,oI,X _ _ h1,hns,Li X hns h3,PySem.W.tail_of_in X h4,i1,i2⟩
noncomputable def xiO (e C:Addr) (dx:Option Addr):HO:=.ext fun h=>∃ t,h.get? e=some (gM C t dx)
theorem Bu {e C t:Addr}{dx:Option Addr} (q:h.get? e=some (gM C t dx)):bY P w H h e (xiO e C dx):=⟨⟨t,q⟩,⟨_,q⟩,fun _ _ ⟨t,q⟩ k=>⟨t,k _ q⟩⟩
noncomputable def hid (e:Addr) (H:Hp):Hp:=fun b=>if b=e then none else H b
theorem qp {e:Addr}:hid e H e=none:=by unfold hid;rw[ah rfl]
theorem fY {e b:Addr} (h:b≠e):hid e H b=H b:=by unfold hid;rw[af h]
structure EB (P:Zh) (w:Zi) (K:Zf) (mg:Zk) (base:Heap) (CX:CXT) (C:Addr) (x:Str) (k:Nat) (ps:Ze) (sp:Sp):Prop where
 ex:∃ (f:Addr) (fd:FuncData),bU P w K mg base CX k f fd ps sp/\CB K C f/\Binds K fd ps []
 mg:mg x=some (.ref C)
section
variable {X:Cx}{Yp:Zp}{σ:St}{H:Hp}{s:Zg}
theorem Inv.hid {e:Addr}{φ:Heap->Prop} (I:Inv X Yp σ H s) (h0:X.s₀.heap.objs.size<=e) (he:H e=some (.ext φ)):Inv X Yp σ (L2.hid e H) s:=by
 have ne:∀ b u,X.s₀.heap.get? b=some u->b≠e:=fun b u q z=>absurd (aG q) (by rw[z];exact Nat.not_lt.mpr h0);have no:∀ b,H b=none->L2.hid e H b=none:=fun b q=>by unfold L2.hid;split;rfl;exact q
 refine⟨I.ok,I.os,I.bare,⟨I.base.keep,I.base.slot,fun b o q n hx=>no b (I.base.free b o q n hx),I.base.there,fun b xs q=>?_,fun b ob u q=>?_,fun b ps q=>?_⟩,I.loc,I.cell,no _ I.free,fun x c q=>no _ (I.freeC x c q),fun p hp=>?_,fun b u q=>?_,I.len⟩
 ·have z:=I.base.tups b xs q;rw[fY (fun y=>by rw[y,he] at z;cases z)];exact z
 ·have z:=I.base.frzs b ob u q;rw[fY (fun y=>by rw[y,he] at z;cases z)];exact z
 ·obtain⟨m,z⟩:=I.base.tbls b ps q;exact⟨m,by rw[fY (fun y=>by rw[y,he] at z;cases z)];exact z⟩
 ·obtain⟨q1,q2,q3⟩:=I.pin p hp;exact⟨q1,no _ q2,q3⟩
 ·have hb:b≠e:=fun z=>by rw[z,qp] at q;cases q
  rw[fY hb] at q;refine (I.hok b u q).mF (fun _ _ _ z=>z) (fun c z=>?_) (fun c xs z=>?_) fun c ob u' z=>?_
  ·rw[fY (fun y=>by rw[y,he] at z;cases z)];exact z
  ·rw[fY (fun y=>by rw[y,he] at z;cases z)];exact z
  ·rw[fY (fun y=>by rw[y,he] at z;cases z)];exact z
noncomputable def Bw (X:Cx) (E:St->XK):Prop:=∀ (Yp:Zp) (σ:St) (H:Hp) (s:Zg) (e C t dx:Addr),Inv X Yp σ H s->X.s₀.heap.objs.size<=e->s.heap.get? e=some (gM C t (some dx))->H e=none->(∃ fs,H dx=some (.xd fs))->E σ (.ref C) (some dx) H->X.xe (.ref e) s
end
section
variable {P:Zh}{w:Zi}{K:Zf}{mg:Zk}{base:Heap}{N:Ze}{qual:Str}{scope:Scope}{f:Addr}{cd:Value}{A:Around}{outer:List Env}{s:Zg}{H:Hp}{E:XK}
theorem pC:Bw (vi (CX1 P w) P w K mg base N qual scope f cd A outer s H E) (fun _=>E):=by
 intro Yp σ H1 s1 e C t dx I h0 het hn hdx hE;show wpAny _ _ _ _ _ _;have hin:∀ env∈(envOfC qual scope s.heap.objs.size f cd::outer),∀ b,env.frame=some b->b∈e::frs (envOfC qual scope s.heap.objs.size f cd::outer):=fun env he b hb=>aU _ (nW.mpr ⟨env,he,hb⟩);have st:(PySem.W.hideAll s1.heap (e::frs (envOfC qual scope s.heap.objs.size f cd::outer))).StaysIn s1.heap:=fun b o q=>PySem.W.of_hideAll _ q;have ff:s1.heap.FunFrames (PySem.W.hideAll s1.heap (e::frs (envOfC qual scope s.heap.objs.size f cd::outer))) (envOfC qual scope s.heap.objs.size f cd::outer):=PySem.W.funFrames_hide I.stack hin;have hen:(PySem.W.hideAll s1.heap (e::frs (envOfC qual scope s.heap.objs.size f cd::outer))).get? e=none:=PySem.W.hideAll_none _ aS;refine bM (KD.any (E:=fun _ _=>False) (pd _ _) (wpAny_leaving_firstW (a0:=.ref t) (oe:=gM C t (some dx)) (Q:=fun _ s''=>∃ h',s''={ s1 with heap:=h' }/\Heap.FlyingW (PySem.W.hideAll s1.heap (e::frs (envOfC qual scope s.heap.objs.size f cd::outer))) outer e (.ref C) (.ref t) h'/\s1.heap.UpToSlots h') I.ok.frames ff rfl het st hen rfl rfl rfl fun h' hL=>?_)) ?_ (fun _ _ z=>False.elim z.1)
 ·obtain⟨k1,⟨_,_,k2⟩,k3,k4⟩:=hL;exact⟨h',rfl,⟨k1,hen,k2,k3⟩,k4⟩
 rintro _ s'' ⟨⟨h',rfl,x1,x4⟩,dk⟩;obtain⟨u1,u2,u3⟩:=tY (h':=h') I rfl rfl rfl x1.1 x4 (fun b o e1 e2 e3=>PySem.W.hideAll_get _ e1 (fun z=>by
  rcases aP.mp z with z | z
  ·subst z;rcases e3 with q | ⟨u,q⟩
   ·exact q hn
   ·exact absurd (aG q) (Nat.not_lt.mpr h0)
  ·exact e2 z))
 obtain⟨oe',hoe',_,hd',hg'⟩:=dk e _ het;exact⟨e,C,t,_,H1,some dx,rfl,I.os,I.bare,u1,u2,x1,⟨oe',hoe',XD.dk ⟨rfl,_,rfl,rfl⟩ hd' hg'⟩,(fun dx' z=>by cases z;exact hdx),u3,hE⟩
end
noncomputable def Co (C:Addr) (sp:Sp) (E:St->XK) (t:TA):TS:=fun _ σ H=>t σ H fun vs H1=>vs.length<=sizeLine/\∀ e H2,H1 e=none->az H1 H2->H2 e=some (xiO e C none) →
 sp (.ref e::vs) H2 (fun v H3=>v=.non/\∃ dx fs,H3 e=some (xiO e C (some dx))/\H3 dx=some (.xd fs)/\E σ (.ref C) (some dx) (hid e H3)) (fun _ _ _=>False)
theorem CH {C:Addr}{sp:Sp}{E:St->XK}{t:TA}{D:Ends}{σ:St}{H:Hp}:Co C sp E t D σ H=t σ H fun vs H1=>vs.length<=sizeLine/\∀ e H2,H1 e=none->az H1 H2->H2 e=some (xiO e C none) →
 sp (.ref e::vs) H2 (fun v H3=>v=.non/\∃ dx fs,H3 e=some (xiO e C (some dx))/\H3 dx=some (.xd fs)/\E σ (.ref C) (some dx) (hid e H3)) (fun _ _ _=>False):=propext Iff.rfl
section
variable {X:Cx}
theorem rV {C:Addr}{k:Nat}{ps:Ze}{E:St->XK}{e₀:Expr}{rest:List Expr}{t:TA}{np cpos pos:Pos} (M:EB X.prog X.w X.K X.mg X.base (CX1 X.prog X.w) C x k ps sp)
  (hrx:Bw X E) (hc:X.calm=true) (hr:fD (k+1) X.A) (ha:PA X (e₀::rest) t) (hg:X.env.kindOf x=some .globalImplicit:=by ext) (hd:(x==("__debug__":Str))=false:=by ext) (hs:eF (e₀::rest)=true:=by ext) :
  PS X (.Raise (some (.Call (.Name x np) (e₀::rest) [] cpos)) none pos) (Co C sp E t):=by
 intro Yp s σ H D I h;obtain⟨f,fd,F,O,hb⟩:=M.ex;obtain⟨nm,q,N,bs,bm,hdct,sn,sub,ab,col,dd,k0,k1,k2,k3,k5,mN,oI,g1,g2,g3,g4,g5,g6⟩:=O.at I.ok.mod.kin;have FB:=dA;rw[arm_exec_Raise];refine aa (jC ?_);refine GZ (C:=C) (nm:=nm) (q:=q) (N:=N) (bs:=bs) (bm:=bm) (hdct:=hdct) (sn:=sn) (sub:=sub) (ab:=ab) (col:=col) (dd:=dd) (k0:=k0) (k1:=k1) (k2:=k2) (k3:=k3) (k5:=k5) (newId:="ValueError.__new__") (g4.hasType FB.hasBase) (I.ok.hd hc) ?_;refine aa (lU (ko I hg M.mg ?_ hd));refine rq (h₀:=X.base) I.ok.mod.kin O.kp (thn (ha cpos Yp s σ H _ I h) fun us s1 ⟨vs,H1,I1,r,hz,q1⟩=>⟨I1.kIn,?_⟩) (bo (bB hs).1) (dI (bB hs).2);obtain⟨hh,gg,d1,tt,os⟩:=s1;have e2:((hh.push (qj us)).push (gM C hh.objs.size none)).get? (hh.objs.size+1)=some (gM C hh.objs.size none):=by heap_get
 have J1:Inv X Yp σ H1 ⟨hh.push (qj us),gg,d1,tt,os⟩:=I1.kept (t':=tt) (h':=hh.push (qj us)) fun b u z=>aD _ z;have J2:=J1.laid (a:=hh.objs.size+1) (o:=xiO (hh.objs.size+1) C none) (h':=(hh.push (qj us)).push (gM C hh.objs.size none)) (t':=tt) (fun b u z=>aD _ z) (lP (iW _ _)) (Bu e2);have fr:H1 (hh.objs.size+1)=none:=I1.hok.fresh (gk _);have hq:=q1 (hh.objs.size+1) _ fr (du fr) aE;have r2:Vals (V.ref (hh.objs.size+1)::vs) (Value.ref (hh.objs.size+1)::us):=.cons rfl r;have hl:(Value.ref (hh.objs.size+1)::us++[]).length=ps.length:=by rw[fR,←r2.length];exact F.len _ _ _ _ hq
 refine Jt FB (g4.keeps I1.bk) (I1.bk _ _ g1) (g2.keeps I1.bk) g3 (I1.bk _ _ g5) g6 (show us.length<=_ by rw[←r.length];exact hz) ?_;have hbb:=hb ⟨(hh.push (qj us)).push (gM C hh.objs.size none),gg,d1,tt,os⟩ (Value.ref (hh.objs.size+1)::us) J2.kIn hl;rw[fR] at hbb;refine i6 (gw (F.run _ X.stack _ _ ⟨Value.ref (hh.objs.size+1)::us,[]⟩ (Value.ref (hh.objs.size+1)::us) _ _ (fun _ _ _=>False) (hr.make C us []) (J2.K9.make C us []) hbb r2 hq) fun r s' hq'=>?_);cases r with
 | error e=>exact (vH hq').elim
 | ok fl =>
  cases fl with
  | ret u =>
   obtain⟨v,H',I3,rv,ev,dx,fs,q3,q4,q5⟩:=J2.after hq';subst ev;refine⟨rv,?_⟩;obtain⟨⟨t',e3⟩,_⟩:=(show bY X.prog X.w H' s'.heap _ (xiO (hh.objs.size+1) C (some dx)) from I3.hok _ _ q3);have h0:X.s₀.heap.objs.size<=hh.objs.size+1:=Nat.le_succ_of_le I1.sz;have hne:dx≠hh.objs.size+1:=fun z=>by rw[z,q3] at q4;cases q4
   refine aa (jC (ak ?_));exact⟨_,t',some dx,rfl,I3.bk _ _ g1,e3,hrx Yp σ _ s' _ C t' dx (I3.hid h0 q3) h0 e3 qp ⟨fs,by rw[fY hne];exact q4⟩ q5⟩
  | next=>exact False.elim hq'
  | brk=>exact False.elim hq'
  | cont=>exact False.elim hq'
end
noncomputable def rFS:V->Hp->VK->Prop:=fun v H Q=>match v with
 | .int n=>0<=n/\n<1000000/\∀ y,Q (.str y) H
 | _=>False
noncomputable def tFS (te:TE):TE:=fun σ H Q=>te σ H fun v H1=>rFS v H1 Q
theorem Mc {te:TE}{σ:St}{H:Hp}{Q:VK}:tFS te σ H Q=te σ H fun v H1=>rFS v H1 Q:=propext Iff.rfl
section
variable {X:Cx}
theorem M5 {lit:Str}{k:Nat}{p1 p2 pos:Pos} (he:PE X e te) (hz:lit.length<=1000:=by decide) :
  PE X (.JoinedStr [.Constant (.str lit) k p1,.FormattedValue e (-1) none p2] pos) (tFS te):=by
 intro Yp s σ H Q I h;refine PyProof.Rows.JoinedStr_many (PyProof.Rows.joinParts_cons (Calls.Constant_str ⟨?_,PyProof.Rows.joinParts_cons (PyProof.Rows.FormattedValue_plain (thn (he Yp _ σ H _ (I.tok _) h) fun u s1 ⟨x,H1,I1,rx,q⟩=>?_))⟩))
 ·show (Str.empty++lit).length<=sizeLine;rw[strLen_append];exact aV (Nat.add_le_add (ar _) hz) Zd
 replace q:rFS x H1 Q:=q
 unfold rFS at q;split at q;next n =>
  obtain⟨n0,n1,q⟩:=q;obtain⟨tk,rfl⟩:=(show ∃ t,u=Value.int n t from rx);have hl:n.natAbs.log2<1920:=by
   by_cases h0:n.natAbs=0
   ·rw[h0];decide
   ·exact (Nat.log2_lt h0).mpr (bK (by lia:n.natAbs<2^20) (jZ Zd Zd))
  have hl2:=int_text_length_le (a:=n) (k:=1920) Zd hl;have hz2:((Str.empty++lit)++Str.ofString (toString n)).length<=sizeLine:=by rw[strLen_append,strLen_append,PySem.ofString_length,i5];have:Str.empty.length=0:=rfl;lia
  exact PyProof.Rows.formatField_int_small hl ⟨hz2,PyProof.Rows.joinParts_nil ⟨.str _,H1,I1.tok _,⟨_,rfl⟩,q _⟩ hz2⟩
 next=>exact q.elim
end
structure JF (K:Zf) (B:Addr):Prop where
 ga:PySem.W.specialIn K (.ref B) "__getattribute__"=some (some (.builtin "type.__getattribute__"))
 rd:PySem.W.readsIn K B (.type "type")=true
 fc:PySem.W.findCls K (.ref B) (.type "type") "__init__"=some (.val (.builtin "ValueError.__init__"))
noncomputable def rBI (K:Zf):List V->Hp->VK->Prop:=fun vs H Q=>match vs with
 | [.ref e,_]=>∃ C,H e=some (xiO e C none)/\(∃ f,CB K C f)/\Q .non H
 | _=>False
noncomputable def tBI (K:Zf) (t:TA):TE:=fun σ H Q=>t σ H fun vs H1=>rBI K vs H1 Q
theorem LZ {K:Zf}{t:TA}{σ:St}{H:Hp}{Q:VK}:tBI K t σ H Q=t σ H fun vs H1=>rBI K vs H1 Q:=propext Iff.rfl
section
variable {X:Cx}
theorem sF {pl:Sem Bool}{B:Addr}{rest:List Expr}{t:TA}{np apos pos:Pos} (hK:X.K=K) (BI:JF K B) (hm:X.mg x=some (.ref B)) (ha:PA X (e₀::rest) t)
  (hg:X.env.kindOf x=some .globalImplicit:=by ext) (hd:(x==("__debug__":Str))=false:=by ext) (hs:eF (e₀::rest)=true:=by ext)
  (ht:eval (.Call (.Attribute (.Name x np) "__init__" apos) (e₀::rest) [] pos) X.env=(do
   let ov ←eval (.Name x np) X.env
   standAt apos.atName
   let (f,first) ←holding [ov] (getMethod ov "__init__" pl)
   callWith pos f first (backTo pos (starEach (e₀::rest) X.env)) (backToKw pos (keywordEach [] X.env))):=by rfl) :
  PE X (.Call (.Attribute (.Name x np) "__init__" apos) (e₀::rest) [] pos) (tBI K t):=by
 subst hK;intro Yp s σ H Q I h;have FB:=dA;refine PySem.W.methodCall_KW (pl:=pl) (ko I hg hm (PySem.W.method_cls I.kIn BI.ga (PySem.W.cls_value I.kIn BI.rd BI.fc (by nofun) ?_)) hd) ht;refine PyProof.Rows.callWith_builtin1 (thn (ha pos Yp _ σ H _ (I.tok _) h) fun us s1 ⟨vs,H1,I1,r,q⟩=>?_) (bo (bB hs).1) (dI (bB hs).2)
 replace q:rBI X.K vs H1 Q:=q
 unfold rBI at q;split at q;next e y =>
  obtain⟨C,he,⟨f,O⟩,hQ⟩:=q;obtain⟨u1,u2,rfl,r1,r2⟩:=vals2 r;cases (show u1=Value.ref e from r1);obtain⟨nm,qn,N,bs,bm,hdct,sn,sub,ab,col,dd,k0,k1,k2,k3,k5,mN,oI,g1,g2,g3,g4,g5,g6⟩:=O.at I1.kIn;obtain⟨⟨t',e3⟩,_⟩:=(show bY X.prog X.w H1 s1.heap _ (xiO e C none) from I1.hok _ _ he);obtain⟨hh,gg,d1,tt,os⟩:=s1;refine i6 (oj FB.init.plain FB.initEntry (wpAny_check_init_subT FB g4 g1 e3 rfl ?_))
  wp_walk
  have e4:(hh.push { cls:=.type "tuple",data:=.seq #[u2] }).get? e=some (gM C t' none):=aD _ e3;refine⟨.non,H1,?_,rfl,hQ⟩;have J:=(I1.kept (t':=tt) (h':=hh.push { cls:=.type "tuple",data:=.seq #[u2] }) fun b u z=>aD _ z);have W:=J.write (x:=e) (e:=e) (o:=xiO e C none) (t':=tt) (h':=(hh.push { cls:=.type "tuple",data:=.seq #[u2] }).update e (Obj.mapFields fun x=>x.setIfInBounds 0 (Value.ref hh.objs.size))) (by rw[he];trivial) (.inl rfl)
   (fun b u hb z=>(dv _ _ (bD hb)).trans z) ⟨_,fP _ e4 rfl⟩ (Bu (t:=hh.objs.size) (fP _ e4 rfl))
  have same:upd H1 e (xiO e C none)=H1:=by
   funext b
   by_cases z:b=e
   ·rw[z,aE,he]
   ·exact aJ z
  rw[same] at W;exact W
 next=>exact q.elim
structure HE (K:Zf) (C:Addr) (f:Str):Prop where
 sa:PySem.W.findIn K (.ref C) "__setattr__"=some (some (.builtin "object.__setattr__"))
 mr:((PySem.W.clsIn K C).any fun cd=>oZ cd.mro)=true
 tk:PySem.W.takerIn K C f=some none
 hd:PySem.W.hasDictIn K C=true
noncomputable def Ck (K:Zf) (f:Str) (x v:V) (H:Hp) (Q:Hp->Prop):Prop:=match x with
 | .ref e=>∃ C,H e=some (xiO e C none)/\HE K C f/\∀ dx H',H dx=none->dx≠e->H' e=some (xiO e C (some dx))->H' dx=some (.xd [(f,v)])->az (hid e H) (hid e H')->Q H'
 | _=>False
noncomputable def JY (K:Zf) (ta tv:TE) (f:Str):TS:=fun D σ H=>tv σ H fun y H1=>ta σ H1 fun x H2=>Ck K f x y H2 fun H3=>D.nx σ H3
theorem Ib {K:Zf}{ta tv:TE}{f:Str}{D:Ends}{σ:St}{H:Hp}:JY K ta tv f D σ H=tv σ H fun y H1=>ta σ H1 fun x H2=>Ck K f x y H2 fun H3=>D.nx σ H3:=propext Iff.rfl
theorem Cd {o value:Expr}{ta tv:TE}{pos pos':Pos} (hK:X.K=K) (ha:PE X o ta) (hv:PE X value tv) (hs:swapsWith value (some (.Attribute o f pos')) pos.line X.env=pure false:=by ext) :
  PS X (.Assign [.Attribute o f pos'] value pos) (JY K ta tv f):=by
 subst hK;intro Yp s σ H D I h;refine plainObj_wpAny_Assign_Attribute (thn (hv Yp s σ H _ I h) fun u s1 ⟨y,H1,I1,ry,q⟩=>thn (ha Yp s1 σ H1 _ I1 q) fun ov s2 ⟨x,H2,I2,rx,q2⟩=>?_) hs
 replace q2:Ck X.K f x y H2 (fun H3=>D.nx σ H3):=q2
 unfold Ck at q2;split at q2;next e =>
  obtain⟨C,he,SC,q3⟩:=q2;cases (show ov=Value.ref e from rx);obtain⟨⟨t',e3⟩,_⟩:=(show bY X.prog X.w H2 s2.heap _ (xiO e C none) from I2.hok _ _ he);refine LJ I2.kIn e3 SC.sa SC.mr SC.tk SC.hd fun h' h1 h2 h3=>?_;have hn:H2 s2.heap.objs.size=none:=I2.fresh;have ne:s2.heap.objs.size≠e:=fun z=>by rw[z,he] at hn;cases hn
  have J:=I2.write (x:=e) (e:=e) (o:=xiO e C (some s2.heap.objs.size)) (h':=h') (t':=s2.toks+2) (by rw[he];trivial) (.inl rfl) (fun b u' hb z=>h3 b u' hb z) ⟨_,h1⟩ (Bu h1);have hn':upd H2 e (xiO e C (some s2.heap.objs.size)) s2.heap.objs.size=none:=by rw[aJ ne];exact hn
  have J2:=J.Hv (a:=s2.heap.objs.size) (o:=.xd [(f,y)]) hn' (Heap.get?_none_of_le I2.sz) (fun z=>absurd I2.lt (by rw[z];exact ft _))
   (fun yy c hc z=>by obtain⟨w9,o9,e9,_⟩:=I2.cell yy c hc;rw[z] at e9;exact absurd (aG e9) (ft _))
   (fun p hp z=>by have e9:=(I2.pin p hp).1;rw[z] at e9;exact absurd (aG e9) (ft _))
   ⟨_,h2,fun g=>by
    by_cases z:g=f
    ·subst z;rw[ah rfl];simp only[List.lookup,beq_self_eq_true];exact ry
    ·rw[af z];have hb:(g==f)=false:=ka.mpr z;simp only[List.lookup,hb];exact True.intro⟩
  refine⟨σ,_,J2,q3 s2.heap.objs.size _ hn ne (by rw[aJ (bD ne),aE]) aE fun b o hb=>?_⟩
  by_cases z:b=e
  ·rw[z,qp] at hb;cases hb
  ·rw[fY z] at hb ⊢;have hb2:b≠s2.heap.objs.size:=fun y=>by rw[y,hn] at hb;cases hb
   rw[aJ hb2,aJ z];exact hb
 next=>exact q2.elim
end
noncomputable def Cf (K:Zf) (f:Str) (x:V) (H:Hp) (Q:VK):Prop:=match x with
 | .ref a=>∃ C dx fs v,H a=some (rD a (.ref C) (some dx))/\H dx=some (.xd fs)/\CA K C/\HE K C f/\PySem.W.findIn K (.ref C) f=some none/\fs.lookup f=some v/\Q v H
 | _=>False
noncomputable def Kd (K:Zf) (ta:TE) (f:Str):TE:=fun σ H Q=>ta σ H fun x H1=>Cf K f x H1 Q
theorem HP {K:Zf}{ta:TE}{f:Str}{σ:St}{H:Hp}{Q:VK}:Kd K ta f σ H Q=ta σ H fun x H1=>Cf K f x H1 Q:=propext Iff.rfl
theorem IA {prog:Zh}{w:Zi}{A:Around}{E:Zq}{s:Zg}{K:Zf}{x D:Addr}{ox:Obj}{odo:Option Obj}{name:Str}{v:Value}{ex:Bool}{Q:Zq}
  (X:K.In s.heap) (I:PySem.W.InstAt s.heap x ox D odo) (C:CA K D) (hf:PySem.W.findObj K D odo name=some (.value v)) (hv:PySem.W.handedIn v=true) (h:Q v { s with toks:=s.toks+1 }) :
  wpAny (model prog w) A (getAttr (.ref x) name ex) Q E s:=by
 obtain⟨hh,gg,dd,tt,os⟩:=s;have L0:∀ {M},PySem.W.Looks M hh (typeOf (.ref x)) (.ref D):=I.type;have L1:∀ {M},PySem.W.Looks M hh (typeLookup (.ref D) "__getattribute__") _:=rz X C.ga;have L2:∀ {M},PySem.W.Looks M hh (typeLookup (.ref D) "__getattr__") _:=rz X C.gn;have L3:∀ {M},PySem.W.Looks M hh (isSubtype (.ref D) (.type "BaseException")) _:=PySem.W.looks_subIn X C.sb;have L4:∀ {M},PySem.W.Looks M hh (Builtin.ObjectAttr.find (.ref x) (.ref D) name) _:=PySem.W.looks_find X I hf;have L5:∀ {M},PySem.W.Looks M hh (isInstance (.ref x) (.type "BaseException")) true:=by intro M;unfold isInstance;exact PySem.W.Looks.andThen (f:=fun t=>isSubtype t (.type "BaseException")) L0 L3
 have f3:=F.excAttr_ValueError.ga.bind (Value.ref x);unfold getAttr;refine aa (wpAny_mkText ?_);unfold getAttrBy;refine cW (aa (L0.at (aa (L1.at ?_))));refine wpAny_ite_false rfl ?_;unfold getAttrByItsOwn;refine aa ?_;unfold hookBefore;refine wpAny_ite_true rfl (L2.at ?_);refine aa (jj (cW ?_));unfold callGetattribute;refine wpAny_ite_false (by cases ex<;>rfl) ?_;unfold boundAndCalled;refine aa (wpAny_of_eq f3 ?_);refine i6 (oj F.excAttr_ValueError.ga.plain F.entry_bexc_ga ?_);refine F6 L5 ?_;show wpAny _ _ (Builtin.«object.__getattribute__» { pos:=[Value.ref x,Value.str name _] }) _ _ _;unfold Builtin.«object.__getattribute__»;refine aa ?_;unfold slotArgs;refine wpAny_ite_false rfl (wpAny_ite_false rfl (ak ?_));refine aa (ak ?_);refine aa (L0.at (aa (L4.at ?_)));refine ak ?_;show wpAny _ _ (handedOut v) _ _ _;rw[PySem.W.handedOut_of hv];exact ak h
theorem Ao {v:V} (r:RelV v u):PySem.W.handedIn u=true:=by cases v<;>first | (obtain⟨t,rfl⟩:=r;rfl) | (cases r;rfl)
section
variable {X:Cx}
theorem Nd {dx:Addr}{fs:List (Str×V)}{v:V} (x:HOk P w H h) (e:H dx=some (.xd fs)) (l:fs.lookup f=some v):∃ od u,h.get? dx=some od/\PySem.W.lookIn f od=some (some u)/\RelV v u:=by
 obtain⟨mA,n1,r⟩:=(show bY P w H h dx (.xd fs) from x dx _ e);have rf:=r f;rw[l] at rf;obtain⟨od,ho,hl⟩:=vR n1;cases hm:mA f with
 | none=>rw[hm] at rf;exact rf.elim
 | some u=>rw[hm] at rf;exact⟨od,u,ho,by rw[hl,hm],rf⟩
theorem Jc {ta:TE} (hK:X.K=K) (he:PE X e ta) (hb:attributeBase e f X.env (eval e X.env)=eval e X.env:=by ext):PE X (.Attribute e f pos) (Kd K ta f):=by
 subst hK;intro Yp s σ H Q I h;refine By hb (thn (he Yp s σ H _ I h) fun u s1 ⟨x,H1,I1,rx,q⟩=>?_)
 replace q:Cf X.K f x H1 Q:=q
 unfold Cf at q;split at q;next a =>
  obtain⟨C,dx,fs,v,q1,q2,q3,q3',q4,q5,q6⟩:=q;cases (show u=Value.ref a from rx);obtain⟨⟨o,e1,e2,e3,vs,e4,_⟩,_⟩:=(show bY X.prog X.w H1 s1.heap a (rD a (.ref C) (some dx)) from I1.hok a _ q1);obtain⟨od,uv,d1,d2,d3⟩:=Nd I1.hok q2 q5;have J:PySem.W.InstAt s1.heap a o C (some od):=⟨e1,e2,(by unfold PySem.W.notCls;rw[e4]),(by rw[e3];exact d1)⟩;refine IA I1.kIn J q3 ?_ (Ao d3) ⟨v,H1,I1.tok _,d3,q6⟩;obtain⟨cd,hc⟩:=rg.mp q3.cl;unfold PySem.W.findObj;rw[hc,Option.bind_some,q4,Option.bind_some];have hdd:cd.hasDict=true:=by obtain⟨cd',hc',hd'⟩:=PySem.W.any_some q3'.hd;rw[hc] at hc';cases hc';exact hd'
  show (PySem.W.ownOf cd (some od) f).bind _=_;have ow:PySem.W.ownOf cd (some od) f=some (some uv):=by unfold PySem.W.ownOf;rw[ah hdd];exact d2
  rw[ow];rfl
 next=>exact q.elim
end
theorem ze {e:Addr}{H1 H2 H3:Hp} (n:H1 e=none) (a:az H1 H2) (b:az (hid e H2) (hid e H3)):az H1 (hid e H3):=fun c o q=>by
 have hc:c≠e:=fun z=>by rw[z,n] at q;cases q
 exact b c o (by rw[fY hc];exact a c o q)
noncomputable abbrev TH:=Value->Addr->TS
structure Kl (X:Cx) (Yp:Zp) (σ:St) (H:Hp) (s:Zg) (ea C t:Addr) (B:Heap) (d:Option Addr):Prop where
 mkI:∀ h6,Heap.FlyingW B X.stack ea (.ref C) (.ref t) h6->s.heap.UpToSlots h6->(∃ o6,h6.get? ea=some o6/\XD o6 d)->Inv X Yp σ (upd H ea (rD ea (.ref C) d)) { s with heap:=h6 }
 fl:Heap.FlyingW B X.stack ea (.ref C) (.ref t) s.heap
 obj:∃ oe,s.heap.get? ea=some oe/\XD oe d
noncomputable def PH (X:Cx) (hs:List ExceptHandler) (th:TH):Prop:=∀ (Yp:Zp) (s:Zg) (σ:St) (H:Hp) (D:Ends) (ea C t:Addr) (B:Heap) (d:Option Addr),X.Ok->Kl X Yp σ H s ea C t B d->th (.ref C) ea D σ (upd H ea (rD ea (.ref C) d)) →
 wpAny (model X.prog X.w) X.A (handleBy (.ref ea) X.env hs) (SP X Yp D) X.xe s
theorem Hy (h:Heap):h.UpToSlots h:=Heap.UpToSlots.of_keeps fun _ _ e=>e
noncomputable def Kk:TH:=fun _ _ _ _ _=>False
noncomputable def MQ (K:Zf) (CE:Addr) (t1:TS) (r:TH):TH:=fun c ea D σ H=>∃ b,PySem.W.exmOne K c (.ref CE)=some b/\if b=true then t1 D σ H else r c ea D σ H
theorem ER {c:Value}{ea:Addr}{D:Ends}{σ:St}{H:Hp}:Kk c ea D σ H=False:=propext Iff.rfl
theorem Ig {K:Zf}{CE:Addr}{t1:TS}{r:TH}{c:Value}{ea:Addr}{D:Ends}{σ:St}{H:Hp}:MQ K CE t1 r c ea D σ H=(∃ b,PySem.W.exmOne K c (.ref CE)=some b/\if b=true then t1 D σ H else r c ea D σ H):=propext Iff.rfl
section
variable {X:Cx}
theorem L9:PH X [] Kk:=fun _ _ _ _ _ _ _ _ _ _ _ _ h=>h.elim
theorem M8 {CE:Addr}{np hpos:Pos}{b₀:Stmt}{suite:List Stmt}{hs:List ExceptHandler}{t1:TS}{r:TH} (hm:X.mg x=some (.ref CE))
  (hh:∀ ea:Addr,PSs { X with A:=X.A.mark (some (.ref ea)),calm:=false,xe:=fun _ _=>False } (b₀::suite) t1) (hr:PH X hs r)
  (hg:X.env.kindOf x=some .globalImplicit:=by ext) (hd:(x==("__debug__":Str))=false:=by ext) :
  PH X (.ExceptHandler (some (.Name x np)) none (b₀::suite) hpos::hs) (MQ X.K CE t1 r):=by
 intro Yp s σ H D ea C t B d ok L h;obtain⟨bb,hb,q⟩:=h;obtain⟨oe,hoe,hdo⟩:=L.obj;have I5:=L.mkI s.heap L.fl (Hy _) ⟨oe,hoe,hdo⟩;obtain⟨o5',v5,e5',c5,t5,_⟩:=L.fl.first;rw[hoe] at e5';cases e5';refine wpAny_handleBy_cons (codeAny_handlers_test ?_) (by intro q;cases q);refine ko (X:={ X with A:=X.A.mark (some (.ref ea)),calm:=false,xe:=fun _ _=>False }) I5.wW hg hm ?_ hd;have LT:PySem.W.Looks (model X.prog X.w) s.heap (typeOf (.ref ea)) (.ref C):=c5 ▸ (PySem.W.Looks.ld hoe).andThen .now;refine PySem.W.exm_one I5.kIn LT hb _ _ _ _ (fun _ _ e=>e) ?_;cases bb with
 | false=>exact hr Yp s σ H D ea C t B d ok L (by simpa using q)
 | true =>
 rw[ah rfl] at q;refine codeAny_handlers_suite ?_;refine bM (KD.any (E:=fun _ _=>False) (lr _ _) (lands_againW (s:=s) (Q:=fun _ s''=>∃ h6,s''={ s with heap:=h6 }/\Heap.FlyingW B X.stack ea (.ref C) (.ref t) h6/\s.heap.UpToSlots h6) L.fl fun h6 x1 x2=>⟨h6,rfl,x1,x2⟩)) ?_ (fun _ _ z=>False.elim z.1);rintro _ _ ⟨⟨h6,rfl,f6,sm6⟩,dk6⟩;obtain⟨o6,e6,_,d6,g6⟩:=dk6 ea oe hoe;have I6:=L.mkI h6 f6 sm6 ⟨o6,e6,hdo.dk d6 g6⟩;refine bM (hh ea Yp _ _ _ D I6.wW q) (fun f s8 hsp=>?_) (fun _ _ z=>False.elim z);cases f with
 | next =>obtain⟨σ9,H9,I9,q9⟩:=hsp;exact⟨σ9,H9,Inv.markFrom ok I9,q9⟩
 | brk =>obtain⟨σ9,H9,I9,q9⟩:=hsp;exact⟨σ9,H9,Inv.markFrom ok I9,q9⟩
 | cont =>obtain⟨σ9,H9,I9,q9⟩:=hsp;exact⟨σ9,H9,Inv.markFrom ok I9,q9⟩
 | ret u =>obtain⟨v9,σ9,H9,I9,r9,q9⟩:=hsp;exact⟨v9,σ9,H9,Inv.markFrom ok I9,r9,q9⟩
noncomputable def JZ (tb:(St->XK)->TS) (th:TH):TS:=fun D σ H=>tb (fun σ' c d H'=>∀ ea H2,H' ea=none->az H' H2->H2 ea=some (rD ea c d)->(∀ dx,d=some dx->∃ fs,H2 dx=some (.xd fs))->th c ea D σ' H2) D σ H
theorem Ih {tb:(St->XK)->TS}{th:TH}{D:Ends}{σ:St}{H:Hp}:JZ tb th D σ H=tb (fun σ' c d H'=>∀ ea H2,H' ea=none->az H' H2->H2 ea=some (rD ea c d)->(∀ dx,d=some dx->∃ fs,H2 dx=some (.xd fs))->th c ea D σ' H2) D σ H:=propext Iff.rfl
theorem Jk {body:List Stmt}{h₀:ExceptHandler}{hs:List ExceptHandler}{pos:Pos}{tb:(St->XK)->TS}{th:TH} (hst:X.stack=X.env::X.outer) (hf:X.env.frame=some X.env.locals) (hex:X.ex=[])
  (hb:∀ (pn:Zp) (xe:Zq) (E:St->XK),PassesOwn (model X.prog X.w) X.A X.env xe->Passes (CX1 X.prog X.w) { X with pn:=pn,xe:=xe } E->PSs { X with pn:=pn,xe:=xe } body (tb E))
  (hh:PH X (h₀::hs) th):PS X (.Try body (h₀::hs) [] [] pos) (JZ tb th):=by
 intro Yp s σ H D I h;refine wpAny_Try_except ?_;refine bM (hb (X.pn++Yp) _ _ PassesOwn.looking ?_ [] s σ H D I.M9 h) ?_ (fun e s1 he=>he)
 ·intro pins' σ' H1 s1 e s' I' hcx;obtain⟨ea,C,t,B,H',d,rfl,os,bare,un,hok,fl,⟨oe,hoe,hdo⟩,hdx,hkb,hE⟩:=hcx;have IX:Inv X Yp σ' H1 s1:=I'.kD;have I2:Inv X Yp σ' H' s':=IX.vD (ch:=[]) os un hok bare (fun b z=>absurd z (by simp));have hfr:∀ b∈frs X.stack,∃ o,s'.heap.get? b=some o/\∀ vs,o.data≠.fields vs:=fun b hb=>(I2.stack.mem hb).2;have hff:∀ b∈frs X.stack,H' b=none:=I2.qP;obtain⟨oe0,vs0,hoe0,_,hdat0,_⟩:=fl.first;have nfr:ea∉frs X.stack:=fun z=>by
   obtain⟨o,e1,e2⟩:=hfr ea z;rw[hoe0] at e1;cases e1;exact e2 _ hdat0
  have hea:H' ea=none:=by
   cases q:H' ea with
   | none=>rfl
   | some o=>have:=hkb ea oe hoe nfr (.inl (by rw[q];simp));rw[fl.2.1] at this;cases this
  have new1:s1.heap.get? ea=none:=by
   cases q:s1.heap.get? ea with
   | none=>rfl
   | some o=>have:=hkb ea oe hoe nfr (.inr ⟨o,q⟩);rw[fl.2.1] at this;cases this
  have new0:X.s₀.heap.get? ea=none:=by
   cases q:X.s₀.heap.get? ea with
   | none=>rfl
   | some o =>obtain⟨o2,e2⟩:=IX.base.there ea o q (by rw[hex];simp);rw[new1] at e2;cases e2
  have mk:∀ h6,Heap.FlyingW B X.stack ea (.ref C) (.ref t) h6->s'.heap.UpToSlots h6->(∃ o6,h6.get? ea=some o6/\XD o6 d)->Inv X Yp σ' (upd H' ea (rD ea (.ref C) d)) { s' with heap:=h6 }:=by
   intro h6 f6 sm6 ⟨o6,e6,d6⟩;have J:Inv X Yp σ' H' { s' with heap:=h6 }:=IX.vD (s':={ s' with heap:=h6 }) (ch:=[]) os (Cz un hkb f6.1 sm6 hfr) (yt hok hkb f6.1 hff) bare (fun b z=>absurd z (by simp));obtain⟨o7,v7,e7,c7,t7,_⟩:=f6.first;rw[e6] at e7;cases e7;refine J.Hv hea new0 (fun z=>?_) (fun y c e z=>?_) (fun p hp z=>?_) (BH e6 c7 d6)
   ·obtain⟨m,⟨ob,_,_,e9,_⟩,_⟩:=IX.loc;rw[←z,new1] at e9;cases e9
   ·obtain⟨w9,o9,e9,_⟩:=IX.cell y c e;rw[z,new1] at e9;cases e9
   ·have e9:=(IX.pin p hp).1;rw[z,new1] at e9;cases e9
  refine bM (KD.any (E:=fun _ _=>False) (wV _ _) (wpAny_looks_onW (Q:=fun _ s''=>∃ h4,s''={ s' with heap:=h4 }/\Heap.HeldW B X.stack ea (.ref C) (.ref t) X.env.locals h4/\s'.heap.UpToSlots h4) (by rw[←hst];exact I.ok.frames) hf (by rw[←hst];exact fl) fun h4 x1 x2=>⟨h4,rfl,by rw[hst];exact x1,x2⟩)) ?_ (fun _ _ z=>False.elim z.1);rintro _ _ ⟨⟨h4,rfl,l4,sm4⟩,dk4⟩;refine bM (KD.any (E:=fun _ _=>False) (lr _ _) (wpAny_landsW (s:={ s' with heap:=h4 }) (Q:=fun _ s''=>∃ h5,s''={ s' with heap:=h5 }/\Heap.FlyingW B X.stack ea (.ref C) (.ref t) h5/\h4.UpToSlots h5) l4 fun h5 x1 x2=>⟨h5,rfl,x1,x2⟩)) ?_ (fun _ _ z=>False.elim z.1);rintro _ _ ⟨⟨h5,rfl,f5,sm5⟩,dk5⟩;obtain⟨o5,e5,_,d5,g5⟩:=(dk4.trans dk5) ea oe hoe;have hne:∀ dx,d=some dx->dx≠ea:=fun dx z y=>by obtain⟨fs,q⟩:=hdx dx z;rw[y,hea] at q;cases q
  exact hh Yp { s' with heap:=h5 } σ' H' D ea C t B d I.ok ⟨fun h6 x1 x2 x3=>mk h6 x1 ((sm4.trans sm5).trans x2) x3,f5,⟨o5,e5,hdo.dk d5 g5⟩⟩ (hE ea _ hea (du hea) aE (fun dx z=>by obtain⟨fs,q⟩:=hdx dx z;exact⟨fs,by rw[aJ (hne dx z)];exact q⟩))
 ·intro f s1 hsp;cases f with
  | next =>obtain⟨σ9,H9,I9,q9⟩:=hsp;exact lX ⟨σ9,H9,I9.kD,q9⟩
  | brk =>obtain⟨σ9,H9,I9,q9⟩:=hsp;exact⟨σ9,H9,I9.kD,q9⟩
  | cont =>obtain⟨σ9,H9,I9,q9⟩:=hsp;exact⟨σ9,H9,I9.kD,q9⟩
  | ret u =>obtain⟨v9,σ9,H9,I9,r9,q9⟩:=hsp;exact⟨v9,σ9,H9,I9.kD,r9,q9⟩
end
theorem FT {xs:List V}{js:Za}{σ:St}{tc:TT}{te:TE}{Q:VK} (hx:SqL K H1 a xs) (hl:xs.length<sizeLine) (pr:Nat->Bool) (g:Nat->V)
  (hc:∀ (i:Nat) x,xs[i]?=some x->∀ H,az H1 H->∀ R:Bool->Hp->Prop,(∀ H',az H H'->R (pr i) H')->tc (some (.int (i:Int))::some x::js.map fun j=>(σ[j]?).join) H R)
  (he:∀ (i:Nat) x,xs[i]?=some x->pr i=true->∀ H,az H1 H->∀ R:VK,(∀ H',az H H'->R (g i) H')->te (some (.int (i:Int))::some x::js.map fun j=>(σ[j]?).join) H R)
  (q:∀ D H,H1 D=none->az H1 H->H D=some (.lst (((List.range xs.length).filter pr).map g))->Q (.ref D) H):gy (F5 K 2 (sv (gN 0) (sv (gN 1) F2))) tc te (jE 2 js σ) (Ite K a) H1 Q:=by
 intro D hD;refine⟨fun i m ys σ1 H=>m=xs.length-i/\i<=xs.length/\(∃ o1 o2,σ1=o1::o2::js.map fun j=>(σ[j]?).join)/\ys=((List.range i).filter pr).map g/\az H1 H/\H D=some (.lst ys),
  ⟨xs.length,by simp,bj _,⟨none,none,rfl⟩,by simp,(az.refl H1).cF hD,aE⟩,?_⟩
 rintro i m ys σ1 H ⟨rfl,hi,⟨o1,o2,rfl⟩,rfl,sH,hL⟩;have hyn:(((List.range i).filter pr).map g).length<=i:=by
  rw[ag];have:=lL pr (List.range i)
  rwa [dy] at this
 refine⟨hL,by lia,?_⟩
 by_cases hlt:i<xs.length
 ·have e:xs[i]?=some xs[i]:=aO hlt;refine .inr ⟨⟨xs,xs[i],sH.seq hx,e⟩,fun v H' hyl=>?_⟩;obtain⟨x,p,hx',rfl,hp,rfl⟩:=hyl;have ex:=hx' xs (sH.seq hx);have hpD:D≠p:=b9 hL hp;refine⟨p,[.int (i:Int),x],rfl,SqT.of aE,rfl,.int (i:Int),[x],rfl,x,[],rfl,rfl,?_⟩;have s1:az H1 (upd H p (.tup [.int (i:Int),x])):=sH.cF (sH.free hp);have hL1:upd H p (.tup [.int (i:Int),x]) D=some (.lst (((List.range i).filter pr).map g)):=by rw[aJ hpD];exact hL
  have rs:List.range (i+1)=List.range i++[i]:=lO;show tc (some (.int (i:Int))::some x::js.map fun j=>(σ[j]?).join) _ _;refine hc i x ex _ s1 _ fun H4 s4=>?_;have hL4:=s4 _ _ hL1;cases hpr:pr i with
  | false =>rw[af bS];exact⟨xs.length-(i+1),by lia,rfl,hlt,⟨_,_,rfl⟩,by rw[rs,gi];simp [hpr],s1.trans s4,hL4⟩
  | true =>rw[ah rfl];refine he i x ex hpr _ (s1.trans s4) _ fun H5 s5=>⟨s5 _ _ hL4,xs.length-(i+1),by lia,rfl,hlt,⟨_,_,rfl⟩,?_,((s1.trans s4).trans s5).cF hD,aE⟩;rw[rs,gi,bu];simp [hpr]
 ·have e:i=xs.length:=by lia
  subst e;exact .inl ⟨⟨xs,sH.seq hx,ar _⟩,q D H hD sH hL⟩
end
section
theorem IK (t:SetTable) (es:Array (Int×Value)) (h:Int) (x:Value):(layNew t es h x).2.1.led=t.led:=by
 unfold layNew;split
 ·show (SetTable.orStandIn _ _).led=_;unfold SetTable.orStandIn;split<;>rfl
 ·rfl
theorem Em (t:SetTable) (es:Array (Int×Value)) (n:Nat):(relayAll t es n).2.1.led=t.led/\(t.plain=false->(relayAll t es n).2.1.plain=false):=by
 unfold relayAll;split
 ·rename_i t' order e
  have e2:t'.led=t.led/\t'.plain=t.plain:=by
   unfold SetTable.relaid SetTable.laid at e;cases hL:SetTable.layClean (SetTable.sizeAbove n-1) (es.map (·.1)) with
   | none=>rw[hL] at e;cases e
   | some o=>rw[hL] at e;cases e;exact⟨rfl,rfl⟩
  dsimp only;split
  ·exact⟨e2.1,fun h=>e2.2.trans h⟩
  ·exact⟨rfl,fun _=>rfl⟩
 ·exact⟨rfl,fun _=>rfl⟩
noncomputable def rA (P:Zh) (w:Zi) (lb:Bool) (h:Heap) (a:Addr) (l:List Key):Prop:=∃ o es ep t,h.get? a=some o/\o.ExactSet/\o.data=.set es ep t/\ElemsOf (br P w) es.toList/\(∀ k,fW k l=true↔∃ e∈es.toList,jH k e.2=true) ∧
 es.size<scanBound/\t.fits es.size=true/\es.size=l.length/\t.led=lb/\(es.size≠0->t.plain=false)
section
variable {prog:Zh}{w:Zi}{A:Around}{E:Zq}{s:Zg}
theorem LY {l:List Key}{z:Str}{tk:Tok}{Q:Bool->Zg->Prop} (hS:rA prog w lb s.heap a l) (hroom:l.length+1<scanBound)
  (h:∀ h',Heap.SameBut a s.heap h'->rA prog w lb h' a (if fW (.inr z) l=true then l else l++[.inr z])->Q (!fW (.inr z) l) { s with heap:=h' }) :
  wpAny (model prog w) A (setAddHashed a (.str z tk) ((br prog w).hash (.inr z))) Q E s:=by
 obtain⟨o,es,ep,t,ho,hex,hd,hel,hmem,hb,hf,hn,hled,hpl⟩:=hS;have hkey:(br prog w).is (.inr z) (.str z tk)=true:=oB z tk;have hsc:(Value.str z tk).scannable=true:=rfl;have hb1:es.size+1<scanBound:=by rw[hn];exact hroom
 unfold setAddHashed setAddHashedIn;refine cW (aa (jB ho hd hf ?_));dsimp only;rw[byScan_of hsc hb hel];simp only[↓reduceIte];unfold setAddByScan;refine aa (aa (wpAny_rule (aa (wpAny_setScan_of hkey ho hd hf hel ?_))));cases hr:List.findIdx? (fun e=>(br prog w).is (.inr z) e.2) es.toList with
 | some j =>dsimp only;obtain⟨hj,hpj,_⟩:=List.findIdx?_eq_some_iff_getElem.mp hr;have hSk:fW (.inr z) l=true:=(hmem _).mpr ⟨es.toList[j],iq hj,hpj⟩;refine ak (ak ?_);have:=h s.heap (Heap.SameBut.refl a s.heap);rw[hSk,ah rfl] at this;exact this ⟨o,es,ep,t,ho,hex,hd,hel,hmem,hb,hf,hn,hled,hpl⟩
 | none =>
  dsimp only;have hSk:fW (.inr z) l=false:=by
   cases hk:fW (.inr z) l with
   | false=>rfl
   | true=>obtain⟨e,he,hp⟩:=(hmem _).mp hk;have:=List.findIdx?_eq_none_iff.mp hr e he;rw[show (br prog w).is (.inr z) e.2=jH (.inr z) e.2 from rfl,hp] at this;cases this
  rw[hSk,af (by decide)] at h;have hgw:∀ (b:Bool) {s₁:Zg}{Q':Unit->Zg->Prop},Q' () s₁->wpAny (model prog w) A (match b with | true=>rule "set.scan.the-table-gave-way" | false=>pure ()) Q' E s₁:=fun b s₁ Q' hq=>by
   cases b
   ·exact ak hq
   ·exact wpAny_rule hq
  have hperm:=layNew_perm t es ((br prog w).hash (.inr z)) (.str z tk);have hfits:=layNew_fits t es ((br prog w).hash (.inr z)) (.str z tk);have hl1:=IK t es ((br prog w).hash (.inr z)) (.str z tk);generalize layNew t es ((br prog w).hash (.inr z)) (.str z tk)=L at hperm hfits hl1 ⊢;obtain⟨es1,t1,wasDummy,gave⟩:=L;dsimp only at hperm hfits hl1 ⊢;rw[Array.toList_push] at hperm;have hel1:ElemsOf (br prog w) es1.toList:=(hel.push hkey hsc).perm hperm;have hmem1:∀ k',fW k' (l++[.inr z])=true↔∃ e∈es1.toList,jH k' e.2=true:=fun k'=>by have:=mem_push_iff (knd:=br prog w) hkey hmem hperm k';rw[vS,show decide (Sum.inr z=k')=decide (k'=Sum.inr z) from decide_eq_decide.mpr ⟨Eq.symm,Eq.symm⟩];exact this
  have hsz1:es1.size=(l++[(Sum.inr z:Key)]).length:=by rw[←di,hperm.length_eq,aB,di,hn,aB];rfl
  have hb1':es1.size<scanBound:=by rw[hsz1,aB];exact hroom
  refine aa (hgw _ ?_);have tail:∀ t2:SetTable,t2.fits es1.size=true->t2.led=lb->t2.plain=false->wpAny (model prog w) A (do
    storeSet a es1 t2
    if (!wasDummy&&t2.tooFull)=true then do
      (match (relayAll t2 es1 (SetTable.grown es1.size)).2.2 with | true=>rule "set.scan.the-table-gave-way" | false=>pure ())
      storeSet a (relayAll t2 es1 (SetTable.grown es1.size)).1 (relayAll t2 es1 (SetTable.grown es1.size)).2.1
      pure (some true)
     else pure (some true)) (fun r s'=>r=some true/\Q true s') E s:=fun t2 hf2 hl2 hp2=>by
   refine aa (wpAny_storeSet_of ho hd ?_ (fits_of_scanBound hb1'));have ho1:(s.heap.update a (Obj.putSet es1 t2)).get? a=some { o with data:=.set es1 (ep+1) t2 }:=by have:=fP (Obj.putSet es1 t2) ho (by rw[putSet_of es1 t2 hd];rfl);rw[putSet_of es1 t2 hd] at this;exact this
   have hsb1:=Heap.SameBut.update s.heap a (Obj.putSet es1 t2);split
   ·have hp:=relayAll_perm t2 es1 (SetTable.grown es1.size);have hfr:=relayAll_fits t2 es1 (SetTable.grown es1.size);have hlr:=Em t2 es1 (SetTable.grown es1.size);generalize relayAll t2 es1 (SetTable.grown es1.size)=Rl at hp hfr hlr ⊢;obtain⟨es2,t3,gave2⟩:=Rl;dsimp only at hp hfr hlr ⊢;have hsz:es2.size=es1.size:=by rw[←di,hp.length_eq,di]
    refine aa (hgw _ ?_);refine aa (wpAny_storeSet_of ho1 rfl ?_ (fits_of_scanBound (by rw[hsz];exact hb1')));have ho2:((s.heap.update a (Obj.putSet es1 t2)).update a (Obj.putSet es2 t3)).get? a=some { o with data:=.set es2 (ep+1+1) t3 }:=by have:=fP (Obj.putSet es2 t3) ho1 (by rw[putSet_of es2 t3 rfl];rfl);rw[putSet_of es2 t3 rfl] at this;exact this
    exact ak ⟨rfl,h _ (hsb1.trans (Heap.SameBut.update _ a _)) ⟨_,es2,_,t3,ho2,hex,rfl,hel1.perm hp,fun k'=>(hmem1 k').trans ⟨fun ⟨e,he,q⟩=>⟨e,hp.mem_iff.mpr he,q⟩,fun ⟨e,he,q⟩=>⟨e,hp.mem_iff.mp he,q⟩⟩,by rw[hsz];exact hb1',hfr,hsz.trans hsz1,hlr.1.trans hl2,fun _=>hlr.2 hp2⟩⟩
   ·exact ak ⟨rfl,h _ hsb1 ⟨_,es1,_,t2,ho1,hex,rfl,hel1,hmem1,hb1',hf2,hsz1,hl2,fun _=>hp2⟩⟩
  have fin:∀ {m:Sem (Option Bool)},wpAny (model prog w) A m (fun r s'=>r=some true/\Q true s') E s->wpAny (model prog w) A m (fun r s'=>wpAny (model prog w) A (match r with | some added=>pure added | none=>setAddHashedIn a (.str z tk) ((br prog w).hash (.inr z)) 99999) Q E s') E s:=fun hm=>bM hm (fun r s' ⟨e,q⟩=>by rw[e];exact ak q) fun _ _ x=>x;split
  ·refine aa ?_;rw[hashByValue_scannable 8 hsc];refine ak ?_;exact fin (tail _ (SetTable.fits_plain_off hfits) (hl1.trans hled) rfl)
  ·rename_i hnp
   refine aa (ak ?_);simp only[↓reduceIte];exact fin (tail _ hfits (hl1.trans hled) (by simpa using hnp))
theorem Dg (a:Value) {Q₁:Zq}
  (h:Q₁ (.ref s.heap.objs.size) { s with heap:=s.heap.push { cls:=.type "set",dict:=none,data:=.set #[] 0 (.fresh 0 0 (!w.params.followText "set-order")) } }) :
  codeAny (model prog w) A (.call (.builtin "set.__new__") ⟨[.type "set",a],[]⟩) (wants Q₁ E) s:=by
 refine codeAny_of_tree ?_;show wpAny _ A.in1 (do checkBuiltinCall "set.__new__" ⟨[.type "set",a],[]⟩;again (.builtin "set.__new__" ⟨[.type "set",a],[]⟩)) _ _ s;refine aa (wpAny_of_eq (F.newCall_set_1 a) (ak ⟨lT F.plain_set_new _,fV F.entry_set_new ?_⟩));rw[qa F.plain_set_new _];unfold Builtin.«set.__new__» Builtin.Frozenset.newClass;have hsub:=sub_set_self;obtain⟨hp,g,d,tk,os⟩:=s;dsimp only
 wp_walk
 refine lV (ak ?_);dsimp only;simp only[newObj];refine aa (wpAny_alloc (ak ?_));exact ak h
end
section
variable {prog:Zh}{w:Zi}{A:Around}{R:Result->Zg->Prop}{c:Addr}{fp wr:List Addr}{G:Array GenState->Array GenState->Prop}{n:Nat}{Pv:Nat->Value->Prop}{Sv:Nat->Zg->Prop}
theorem E5 (W:WalksS prog w A.in1 c fp wr G n Pv Sv) (a:Addr) (na:a∉fp) (val:Nat->Key) {lb:Bool} (hv:∀ i v,Pv i v->∃ z tk,v=Value.str z tk/\val i=Sum.inr z) (hb:n+1<scanBound) :
  ∀ (k i:Nat) (s:Zg),n-i=k->i<=n->Sv i s->rA prog w lb s.heap a (c8 val i) →
   (∀ s',Moved (a::wr) G s s'->rA prog w lb s'.heap a (c8 val n)->R (.ok (.ret .none)) s') →
   codeAny (model prog w) A (.builtin "set.update.loop" ⟨[.ref a,.ref c],[]⟩) R s:=by
 have nw':a∉wr:=fun z=>na (W.sub _ z);have sb:∀ b∈wr,b∈a::wr:=fun b h=>aU _ h;have mF:∀ {s s':Zg}{l:List Key},Moved wr G s s'->rA prog w lb s.heap a l->rA prog w lb s'.heap a l:=fun mv x=>by obtain⟨o,es,ep,t,ho,r⟩:=x;exact⟨o,es,ep,t,mv.heap a _ nw' ho,r⟩
 intro k
 induction k with
 | zero =>
  intro i s hk hi st x q;have e:i=n:=by lia
  subst e;refine fV rh ?_;rw[qa lR _];show wpAny _ A.in1 (pyNext (.ref c) >>= _) _ _ s;refine aa (W.done s _ _ st fun s' mv=>?_);exact ak (q s' (mv.mono sb) (mF mv x))
 | succ k ih =>
  intro i s hk hi st x q;have lt:i<n:=by lia
  refine fV rh ?_;rw[qa lR _];show wpAny _ A.in1 (pyNext (.ref c) >>= _) _ _ s;refine aa (W.item i s _ _ lt st fun v s' pv st' mv=>?_);obtain⟨z,tk,rfl,hvi⟩:=hv i v pv;have x':=mF mv x;show wpAny _ A.in1 (holding [.str z tk] (setAdd a (.str z tk)) >>= _) _ _ s';refine aa (cW ?_);unfold setAdd;refine cW ?_;refine aa ((br prog w).pyHash (k:=.inr z) (oB z tk) ?_);have room:(c8 val i).length+1<scanBound:=by have:=lC val i;lia
  refine LY (s:={ s' with toks:=s'.toks+1 }) x' room fun g sg xg=>?_;have x2:rA prog w lb g a (c8 val (i+1)):=by show rA prog w lb g a (if fW (val i) (c8 val i)=true then c8 val i else c8 val i++[val i]);rw[hvi];exact xg
  refine ak ⟨lT lR _,ih (i+1) _ (by lia) lt (W.frame _ s' _ _ st' (gk _) fun b hb o e=>?_) x2 fun s'' mv2 x3=>?_⟩
  ·rw[sg.2 b (fun z:b=a=>na (by rw[←z];exact hb))];exact e
  ·refine q s'' (Moved.trans W.gtrans ((mv.mono sb).then_heap (gk _) fun b o hb e=>?_) mv2) x3;rw[sg.2 b (fun z:b=a=>hb (by rw[z];exact aS))];exact e
end
set_option maxRecDepth 100000 in
set_option maxHeartbeats 4000000 in
theorem xJ {prog:Zh}{w:Zi}{E:Zq}{l:Addr}{items:Array Value}{val:Nat->Key}{Q:Zq} (hh:A.handled=none) (hl:s.heap.IsList l items)
  (hval:∀ (i:Nat) (v:Value),items[i]?=some v->∃ z tk,v=Value.str z tk/\val i=Sum.inr z) (hb:items.size+1<scanBound)
  (q:∀ (g:Heap) (tk:Nat),rA prog w (!w.params.followText "set-order") g s.heap.objs.size (c8 val items.size)->(∀ b o,b<s.heap.objs.size->s.heap.get? b=some o->g.get? b=some o) →
   Q (.ref s.heap.objs.size) { s with heap:=g,toks:=tk }):wpAny (model prog w) A (call (.type "set") [.ref l]) Q E s:=by
 obtain⟨c,tl,hmro⟩:=eJ.mro;have hmade:=eJ.made;have hsub:=eJ.sub;refine i6 (codeAny_of_tree ?_);show wpAny _ _ (callAny (.type "set") _) _ _ _;refine ak ⟨Code.quiet_builtin _ (by nofun),fV F.entry_type_call ?_⟩;rw[Around.under_plain (weight_type_call_type "set" [.ref l] []) rfl];have h1:=eJ.notType;have h2:=eJ.canCreate;have hct:=F.typeCall_set_1 (.ref l)
 repeat (any_goals (first | assumption | wp_step))
 refine gw (Dg (.ref l) (E:=E) (Q₁:=fun ob s1=>ob=.ref s.heap.objs.size/\s1={ s with heap:=s.heap.push { cls:=.type "set",dict:=none,data:=.set #[] 0 (.fresh 0 0 (!w.params.followText "set-order")) } }) ⟨rfl,rfl⟩) fun r s1 hr=>?_;cases r with
 | error e=>exact hr
 | ok fl =>
  cases fl with
  | ret ob =>
   obtain⟨rfl,rfl⟩:=hr;generalize hg1:s.heap.push { cls:=.type "set",dict:=none,data:=.set #[] 0 (.fresh 0 0 (!w.params.followText "set-order")) }=g1;have hS:g1.get? s.heap.objs.size=some { cls:=.type "set",dict:=none,data:=.set #[] 0 (.fresh 0 0 (!w.params.followText "set-order")) }:=by rw[←hg1];exact bt _ rfl
   have hsz:g1.objs.size=s.heap.objs.size+1:=by rw[←hg1,iW]
   have hkp:∀ b o,s.heap.get? b=some o->g1.get? b=some o:=fun b o e=>by rw[←hg1];exact aD _ e
   have hT:Shared.TypeIs { s with heap:=g1 } (.ref s.heap.objs.size) "set":=⟨_,hS,rfl⟩;have hli:=eJ.init.lookup;have hbi:=eJ.init.bind (.ref s.heap.objs.size)
   repeat (any_goals (first | assumption | wp_step))
   refine gw (oj (R:=wants (fun r s2=>r=.none/\∃ g tk,s2={ s with heap:=g,toks:=tk }/\rA prog w (!w.params.followText "set-order") g s.heap.objs.size (c8 val items.size) ∧
     (∀ b o,b<s.heap.objs.size->s.heap.get? b=some o->g.get? b=some o)) E) eJ.init.plain F.entry_set_init (check_set_init_1 hT ?_)) fun r2 s2 hr2=>?_
   ·obtain⟨ol,hol,hcl,nl,hdl⟩:=id hl;obtain⟨ocls,odict,odata,oslots⟩:=ol;simp only at hcl hdl;subst hcl;subst hdl;have hol':=hkp _ _ hol;have hsls:=F.sub_list_set;have hslf:=F.sub_list_frozenset;have hne:(Value.type "list"==Value.type "dict")=false:=by decide
    have hl1:g1.IsList l items:=⟨_,hol',rfl,nl,rfl⟩;have hh3:A.in1.in1.in1.handled=none:=by simp [hh]
    have hlS:l<s.heap.objs.size:=aG hol;have hneI:l≠g1.objs.size:=by rw[hsz];exact aW (fT hlS)
    have na:s.heap.objs.size∉[g1.objs.size,l]:=by simp only[aP,dZ,ef,not_or];exact⟨by lia,gm hlS⟩
    unfold Builtin.«set.__init__» noKeywords Builtin.Frozenset.updateFrom;generalize hPI:pyIter=PI
    wp_walk
    subst hPI;refine wpAny_pyIter_list hl1 ?_;refine aa (wpAny_runValue ?_);refine E5 (lb:=!w.params.followText "set-order") ((Walks.list hh3 _ l hneI items).toS) s.heap.objs.size na val hval hb (items.size-0) 0 _ (by lia) (bj _) ⟨⟨_,bt _ rfl,rfl,rfl⟩,(hl1.push _)⟩ ?_ fun s' mv x=>?_
    ·exact⟨_,#[],0,_,aD _ hS,⟨rfl,rfl,rfl⟩,rfl,(fun e he=>by simp at he),(fun k=>by show (false=true)↔_;simp),Zd,by rfl,rfl,rfl,fun z=>absurd rfl z⟩
    ·obtain⟨g,ge,d,tk,os⟩:=s';have eg:ge=s.gens:=mv.gens;have ed:d=s.drawn:=mv.drawn;have eo:os=s.os:=mv.os;subst eg;subst ed;subst eo;refine ak ?_;show wpAny _ _ (ret Value.none) _ _ _;refine ak ⟨rfl,g,tk,rfl,x,fun b o hb e=>mv.heap b o ?_ (aD _ (hkp b o e))⟩;simp only[aP,dZ,ef,not_or];rw[hsz];exact⟨aW hb,aW (fT hb)⟩
   ·cases r2 with
    | error e=>exact hr2
    | ok fl2 =>
     cases fl2 with
     | ret v =>
      obtain⟨rfl,g,tk,rfl,x1,x2⟩:=hr2
      repeat (any_goals (first | assumption | wp_step))
      exact q _ _ x1 x2
     | _=>exact hr2.elim
  | _=>exact hr.elim
end
section
theorem fM:Slot "set_iterator" "__next__" "set_iterator.__next__" :=
 .of (owner:="set_iterator") (n:="__next__") (by rw[typeLookup_type,builtinLookup_eq_fast];ext) (by nofun) (by nofun) (by nofun)
  (by first | exact .inl (by nofun) | exact .inr (by nofun)) (by rw[isSubtype_type];ext)
theorem oy:entryFor table "set_iterator.__next__"=some Builtin.«set_iterator.__next__»:=entryFor_of_tree (by ext)
theorem BX:Manifest.owners.lookup (String.ofList ['r','o','t','a','r','e','t','i','_','t','e','s'].reverse)=some Manifest.sig_set_iterator:=by ext
theorem qk (a:Value):argsOk "set_iterator.__next__" ⟨[a],[]⟩:=by unfold argsOk;rw[signature?_of (id:="set_iterator.__next__") (n:=['_','_','t','x','e','n','_','_']) (o:=['r','o','t','a','r','e','t','i','_','t','e','s']) (by ext) BX];ext
theorem yg:entryFor table "set.__iter__"=some Builtin.«frozenset.__iter__»:=entryFor_alias (id':="frozenset.__iter__") (by ext) rfl (by nofun) (by ext)
noncomputable def m5 (f:Value) (i:Nat) (a:Addr) (n ep:Nat):Obj:={ cls:=.type "set_iterator",data:=.fields #[f,.int i 0,.ref a,.int n 0,.int ep 0] }
theorem pB {α:Type}:∀ {l:List α}{j:Nat} (h:j<l.length),(l[j]::l.eraseIdx j).Perm l
 | a::l,0,_=>List.Perm.refl _
 | a::l,j+1,h=>(List.Perm.swap a _ _).trans ((pB (l:=l) (j:=j) (by simpa using h)).cons a)
section
variable {prog:Zh}{w:Zi}{A:Around}{E:Zq}{s:Zg}
theorem FE {r:Addr}{Q:Bool->Zg->Prop} (hT:s.TypeIs (.ref r) "set") (h:Q false s):wpAny (model prog w) A (Builtin.List.listLengthHint (.ref r)) Q E s:=by
 unfold Builtin.List.listLengthHint;refine aa (wpAny_specialOf hT F.slot_set_len.lookup ?_);generalize hid:("set.__len__":String)=id0
 wp_delta
 rw[show splitId id0=some ("set","__len__") from by subst hid;nofun];subst hid;refine aa (wpAny_isInstance (T:="set") (b:=true) hT (by rw[isSubtype_type];ext) ?_);refine wpAny_ite_split (fun hab=>absurd hab (by decide)) (fun _=>?_);refine wpAny_ite_split (fun _=>?_) (fun hab=>absurd (by nofun) hab);refine aa (wpAny_typeOf hT ?_);exact ak h
theorem Cq {it a:Addr}{ep i slot nx:Nat}{t:SetTable}{x:Value}{Q:Option Value->Zg->Prop} (hi:s.heap.get? it=some (m5 (.int slot 0) i a es.size ep)) (ho:s.heap.get? a=some o) (hd:o.data=.set es ep t) (hf:t.fits es.size=true)
  (hN:∀ {A':Around}{E':Zq}{Q':Option (Value×Nat)->Zg->Prop},Q' (some (x,nx)) s->wpAny (model prog w) A' (setNext a slot i ep) Q' E' s)
  (k:∀ h',h'.get? it=some (m5 (.int nx 0) (i+1) a es.size ep)->Heap.SameBut it s.heap h'->Q (some x) { s with heap:=h' }):wpAny (model prog w) A (pyNext (.ref it)) Q E s:=by
 have ty:s.TypeIs (.ref it) "set_iterator":=⟨_,hi,rfl⟩;unfold pyNext;refine aa (jj (lW (name:=Str.ofString "__next__") ty fM (fw fM ty oy ?_ (qk _))));unfold Builtin.«set_iterator.__next__» slotArgs;refine show wpAny _ _ (fieldsOf (.ref it) >>= _) _ _ s from aa (jk hi rfl ?_)
 refine show wpAny _ _ (setEntries a >>= _) _ _ s from aa (ou ho hd hf ?_)
 rw[af (by simp)];refine show wpAny _ _ (setNext a ((slot:Nat):Int).toNat ((i:Nat):Int).toNat ((ep:Nat):Int).toNat >>= _) _ _ s from ?_
 rw[dw,dw,dw];refine aa (hN ?_);refine show wpAny _ _ (setField (.ref it) 0 (rawInt (nx:Int)) >>= _) _ _ s from aa (wpAny_setField_rec hi (by simp) fun h1 g1 b1=>?_)
 refine show wpAny _ _ (setField (.ref it) 1 (rawInt ((i:Int)+1)) >>= _) _ _ { s with heap:=h1 } from aa (wpAny_setField_rec g1 (by simp) fun h2 g2 b2=>?_)
 exact ak ⟨_,rfl,ak (k h2 (by rw[g2];rfl) (b1.trans b2))⟩
theorem zq {f v1 v2 v3 v4:Value} (hh:A.handled=none) (hi:s.heap.get? it=some { cls:=.type "set_iterator",data:=.fields #[f,v1,v2,v3,v4] }) (k:∀ h',Heap.ExtBut it s.heap h'->Q none { s with heap:=h' }) :
  wpAny (model prog w) A.in1 (do
    setField (.ref it) 2 .none
    let e ←newExc (.type "StopIteration") []
    raiseNew e) (fun (fin:PySem.Fin) s'=>∃ v,fin=.done (.ret v)/\wpAny (model prog w) A (pure (some v)) Q E s')
   (fun e s'=>wpAny (model prog w) A (do if (←isInstance e (.type "StopIteration"))=true then pure none else throw e) Q E s') s:=by
 refine aa (wpAny_setField_rec hi (by simp) fun h1 g1 b1=>?_);refine show wpAny _ _ (newExc (.type "StopIteration") [] >>= _) _ _ _ from aa ?_
 simp only[newExc,newTuple];refine aa (gx (aa (m:=firstArgMember _ _) (wpAny_of_eq (a:=Value.none) (by first | rfl | (simp only[firstArgMember];rfl)) ?_)) (by size_fits));refine gx ?_ (by size_fits);simp only[raiseNew];refine aa (wpAny_handled ?_);rw[show A.in1.handled=none from hh];refine aa (ak (wpAny_throw ?_));refine aa (wpAny_isInstance (T:="StopIteration") (b:=true) ⟨_,bt _ rfl,rfl⟩ isSubtype_stop (ak ?_));exact (k _ ((b1.extBut.push _).push _))
theorem sP {it a:Addr}{ep i slot:Nat}{t:SetTable}{Q:Option Value->Zg->Prop} (hh:A.handled=none) (hi:s.heap.get? it=some (m5 (.int slot 0) i a es.size ep)) (ho:s.heap.get? a=some o) (hd:o.data=.set es ep t) (hf:t.fits es.size=true)
  (hN:∀ {A':Around}{E':Zq}{Q':Option (Value×Nat)->Zg->Prop},Q' none s->wpAny (model prog w) A' (setNext a slot i ep) Q' E' s)
  (k:∀ h',Heap.ExtBut it s.heap h'->Q none { s with heap:=h' }):wpAny (model prog w) A (pyNext (.ref it)) Q E s:=by
 have ty:s.TypeIs (.ref it) "set_iterator":=⟨_,hi,rfl⟩;unfold pyNext;refine aa (jj (lW (name:=Str.ofString "__next__") ty fM (fw fM ty oy ?_ (qk _))));unfold Builtin.«set_iterator.__next__» slotArgs;refine show wpAny _ _ (fieldsOf (.ref it) >>= _) _ _ s from aa (jk hi rfl ?_)
 refine show wpAny _ _ (setEntries a >>= _) _ _ s from aa (ou ho hd hf ?_)
 rw[af (by simp)];refine show wpAny _ _ (setNext a ((slot:Nat):Int).toNat ((i:Nat):Int).toNat ((ep:Nat):Int).toNat >>= _) _ _ s from ?_
 rw[dw,dw,dw];exact aa (hN (zq hh hi k))
theorem J3 {it a pt:Addr}{o ot:Obj}{ps:Array Value}{ep i pl e1:Nat}{tk:Tok}{t:SetTable}{h0:Int}{x:Value}{Q:Option Value->Zg->Prop} (hi:s.heap.get? it=some (m5 (.ref pt) i a es.size ep)) (ho:s.heap.get? a=some o) (hd:o.data=.set es ep t) (hf:t.fits es.size=true)
  (hp:s.heap.get? pt=some ot) (hpd:ot.data=.seq ps e1) (hpi:ps[i]?=some (.int pl tk)) (hx:es[pl]?=some (h0,x))
  (k:∀ h',h'.get? it=some (m5 (.ref pt) (i+1) a es.size ep)->Heap.SameBut it s.heap h'->Q (some x) { s with heap:=h' }):wpAny (model prog w) A (pyNext (.ref it)) Q E s:=by
 have ty:s.TypeIs (.ref it) "set_iterator":=⟨_,hi,rfl⟩;unfold pyNext;refine aa (jj (lW (name:=Str.ofString "__next__") ty fM (fw fM ty oy ?_ (qk _))));unfold Builtin.«set_iterator.__next__» slotArgs;refine show wpAny _ _ (fieldsOf (.ref it) >>= _) _ _ s from aa (jk hi rfl ?_)
 refine show wpAny _ _ (setEntries a >>= _) _ _ s from aa (ou ho hd hf ?_)
 rw[af (by simp)];refine show wpAny _ _ (seqItems? (.ref pt) >>= _) _ _ s from aa (wpAny_seqItems hp hpd ?_)
 simp only[dw,hpi];refine aa ?_;unfold setNextDrawn;refine aa (jB ho hd hf ?_);dsimp only;rw[af (by simp),hx];refine ak ?_;refine show wpAny _ _ (setField (.ref it) 1 (rawInt ((i:Int)+1)) >>= _) _ _ s from aa (wpAny_setField_rec hi (by simp) fun h2 g2 b2=>?_)
 exact ak ⟨_,rfl,ak (k h2 (by rw[g2];rfl) b2)⟩
theorem zo {it a pt:Addr}{o ot:Obj}{ps:Array Value}{ep i e1:Nat}{t:SetTable}{Q:Option Value->Zg->Prop} (hh:A.handled=none) (hi:s.heap.get? it=some (m5 (.ref pt) i a es.size ep)) (ho:s.heap.get? a=some o) (hd:o.data=.set es ep t) (hf:t.fits es.size=true)
  (hp:s.heap.get? pt=some ot) (hpd:ot.data=.seq ps e1) (hpi:ps[i]?=none) (k:∀ h',Heap.ExtBut it s.heap h'->Q none { s with heap:=h' }):wpAny (model prog w) A (pyNext (.ref it)) Q E s:=by
 have ty:s.TypeIs (.ref it) "set_iterator":=⟨_,hi,rfl⟩;unfold pyNext;refine aa (jj (lW (name:=Str.ofString "__next__") ty fM (fw fM ty oy ?_ (qk _))));unfold Builtin.«set_iterator.__next__» slotArgs;refine show wpAny _ _ (fieldsOf (.ref it) >>= _) _ _ s from aa (jk hi rfl ?_)
 refine show wpAny _ _ (setEntries a >>= _) _ _ s from aa (ou ho hd hf ?_)
 rw[af (by simp)];refine show wpAny _ _ (seqItems? (.ref pt) >>= _) _ _ s from aa (wpAny_seqItems hp hpd ?_)
 simp only[dw,hpi];refine aa (wpAny_setField_rec hi (by simp) fun h1 g1 b1=>?_);exact zq (s:={ s with heap:=h1 }) hh (g1.trans rfl) fun h' x=>k h' (b1.extBut.trans x)
theorem zN {src:Source}{n:Nat}{Q:Nat->Zg->Prop} (hn:n≠0) (k:∀ j d,j<n->Q j { s with drawn:=d }):wpAny M A (choose src n) Q E s:=fun _ _ _=>⟨hn,k _ _ (Nat.mod_lt _ (Nat.pos_of_ne_zero hn))⟩
theorem yf {M:Model}{α:Type}:∀ (n:Nat) (xs:List α) (s:Zg) {Q:List α->Zg->Prop},n=xs.length->(∀ ys d,ys.Perm xs->Q ys { s with drawn:=d })->wpAny M A (drawOrder n xs) Q E s
 | 0,xs,s,Q,e,k=>by have:=k [] s.drawn (by rw[nV.mp e.symm]);unfold drawOrder;exact ak this
 | n+1,[],s,Q,e,k=>by cases e
 | n+1,x::xs,s,Q,e,k=>by unfold drawOrder;refine aa (zN (by simp) fun j d hj=>?_);rw[aO hj];dsimp only;refine aa (yf n _ _ (by rw[List.length_eraseIdx_of_lt hj];simp at e ⊢;lia) fun ys d2 hp=>ak (k _ _ ?_));exact (hp.cons _).trans (pB hj)
theorem Ca {α:Type} (nx:Nat->Nat):∀ (f k:Nat) (l:List α) (out:Array α),f=l.length->(pickOrder.go nx f k l out).toList.Perm (out.toList++l)
 | 0,k,l,out,e=>by rw[nV.mp e.symm,fR];unfold pickOrder.go;exact List.Perm.refl _
 | f+1,k,l,out,e=>by
  have hl:0<l.length:=by lia
  have hj:nx k%l.length<l.length:=Nat.mod_lt _ hl;unfold pickOrder.go;rw[aO hj];dsimp only;refine (Ca nx f (k+1) _ _ (by rw[List.length_eraseIdx_of_lt hj];lia)).trans ?_;rw[Array.toList_push,dN];exact (pB hj).append_left _
theorem rT {α:Type} (nx:Nat->Nat) (xs:Array α):(pickOrder nx xs).toList.Perm xs.toList:=by
 have:=Ca nx xs.size 0 xs.toList #[] (by simp);show (pickOrder.go nx xs.size 0 xs.toList #[]).toList.Perm xs.toList
 simpa using this
theorem Ge {ep i slot:Nat}{t:SetTable}{Q:Option (Value×Nat)->Zg->Prop} (hT:w.params.followText "set-order"=true) (ho:s.heap.get? a=some o) (hd:o.data=.set es ep t) (hf:t.fits es.size=true)
  (k:Q (((pickOrder (w.params.setOrder a ep) es)[i]?).map fun e=>(e.2,slot)) s):wpAny (model prog w) A (setNext a slot i ep) Q E s:=by
 unfold setNext;refine aa (jB ho hd hf ?_);dsimp only;refine aa (show wpAny (model prog w) A (do return (←ask).params.followText "set-order") _ _ s from aa (lV (ak ?_)));rw[ah (show (Setting.params ⟨(model prog w).prog,(model prog w).w.params⟩).followText "set-order"=true from hT),af (by simp)];refine aa ?_;unfold setWalk;refine aa (jB ho hd hf ?_);dsimp only;refine aa (show wpAny (model prog w) A (do return (←ask).params.followText "set-order") _ _ s from aa (lV (ak ?_)));rw[ah (show (Setting.params ⟨(model prog w).prog,(model prog w).w.params⟩).followText "set-order"=true from hT)];refine aa (lV (ak ?_));exact ak k
theorem Gd {ep i slot:Nat}{t:SetTable}{Q:Option (Value×Nat)->Zg->Prop} (hT:w.params.followText "set-order"=false) (ho:s.heap.get? a=some o) (hd:o.data=.set es ep t) (hf:t.fits es.size=true) (h1:es.size<=1) (hl:t.led=true)
  (k:Q (match es[SetTable.below t.place slot]?,t.place[SetTable.below t.place slot]? with | some (_,x),some j=>some (x,j+1) | _,_=>none) s):wpAny (model prog w) A (setNext a slot i ep) Q E s:=by
 unfold setNext;refine aa (jB ho hd hf ?_);dsimp only;refine aa (show wpAny (model prog w) A (do return (←ask).params.followText "set-order") _ _ s from aa (lV (ak ?_)));rw[af (by rw[show (Setting.params ⟨(model prog w).prog,(model prog w).w.params⟩).followText "set-order"=w.params.followText "set-order" from rfl,hT];decide)];split
 ·rename_i hdr
  exact absurd hdr (by show ¬ (!t.plain&&decide (es.size>1))=true;rw[av (by lia),Bool.and_false];decide)
 ·refine aa (show wpAny (model prog w) A (if (!t.led&&!es.isEmpty)=true then unsupported "set:maker-not-led" else pure ()) _ _ s from ?_);rw[hl,af (by simp)];exact ak (ak k)
theorem KN {t:SetTable}{Q:Zq} (ho:s.heap.get? a=some o) (hex:o.ExactSet) (hd:o.data=.set es ep t) (hf:t.fits es.size=true) (hb:es.size<scanBound) (hpl:es.size≠0->t.plain=false)
  (k1:(w.params.followText "set-order"=true∨es.size<=1)->Q (.ref s.heap.objs.size) { s with heap:=s.heap.push (m5 (.int ((0:Nat):Int) 0) 0 a es.size ep) })
  (k2:w.params.followText "set-order"=false->∀ (ps:Za) d,ps.Perm (List.range es.size)->Q (.ref (s.heap.objs.size+1)) { s with heap:=(s.heap.push { cls:=.type "tuple",data:=.seq (ps.map fun i:Nat=>Value.int (i:Int) 0).toArray }).push (m5 (.ref s.heap.objs.size) 0 a es.size ep),drawn:=d }) :
  wpAny (model prog w) A (pyIter (.ref a)) Q E s:=by
 have ty:s.TypeIs (.ref a) "set":=⟨o,ho,hex.1⟩;refine wpAny_pyIter_slot ty F.slot_set_iter (fw F.slot_set_iter ty yg ?_ (F.args_set_iter_1 _));unfold Builtin.«frozenset.__iter__» Builtin.Frozenset.slot0 slotArgs;simp only[List.isEmpty_nil,Bool.not_true,iK,↓reduceIte,bind_assoc,ir,bne_self_eq_false];unfold Builtin.Frozenset.addrOf Builtin.Frozenset.sizeOf;refine aa (ak ?_)
 try dsimp only
 refine aa (ak ?_);refine aa (aa (ou ho hd hf (ak ?_)));unfold setDrawn;refine aa (aa (jB ho hd hf ?_));dsimp only;refine aa (show wpAny (model prog w) A.in1 (do return (←ask).params.followText "set-order") _ _ s from aa (lV (ak ?_)));refine ak ?_;have done:(w.params.followText "set-order"=true∨es.size<=1)->wpAny (model prog w) A.in1 (do
   let first ←pure (rawInt 0);let e ←setEpoch a;let f ←newFields "set_iterator" [first,rawInt 0,Value.ref a,rawInt (es.size:Int),rawInt (e:Int)]
   ret f) (fun fin s'=>∃ v,fin=PySem.Fin.done (Flow.ret v)/\∃ T' r,s'.TypeIs v T'/\typeLookup (Value.type T') (Str.ofString "__next__")=pure (some r)/\Q v s') E s:=fun hc=>by
  refine aa (ak (aa (wpAny_setEpoch_of ho hd hf ?_)));refine aa (gx (ak ⟨_,rfl,"set_iterator",_,⟨_,bt _ rfl,rfl⟩,fM.lookup,?_⟩));exact k1 hc
 split
 ·rename_i hc
  have hc':(!w.params.followText "set-order"&&(!t.plain&&decide (es.size>1)))=true:=hc;rw[bP,bP,bR] at hc';have hT:w.params.followText "set-order"=false:=by simpa using hc'.1
  refine aa (yf es.size (List.range es.size) _ (by simp) fun ps d hp=>?_);have hz:(ps.map fun i:Nat=>rawInt (i:Int)).length<=sizeLine:=by rw[ag,hp.length_eq,dy];exact fits_of_scanBound hb
  refine aa (wpAny_newTuple ?_ hz);have ho1:=aD (seqObj "tuple" (ps.map fun i:Nat=>rawInt (i:Int)).toArray 0) ho;refine aa (wpAny_setEpoch_of ho1 hd hf ?_);refine aa (gx (ak ⟨_,rfl,"set_iterator",_,⟨_,bt _ rfl,rfl⟩,fM.lookup,?_⟩));have:=k2 hT ps d hp;rw[←size_push' s.heap (seqObj "tuple" (ps.map fun i:Nat=>rawInt (i:Int)).toArray 0)] at this;exact this
 ·rename_i hc
  have hc':¬ (!w.params.followText "set-order"&&(!t.plain&&decide (es.size>1)))=true:=hc;refine done ?_
  by_cases h1:es.size<=1
  ·exact .inr h1
  ·left;rw[hpl (by lia),aw (show es.size>1 by lia)] at hc'
   simpa using hc'
end
end
section
theorem zr:Slot "set_iterator" "__iter__" "set_iterator.__iter__" :=
 .of (owner:="set_iterator") (n:="__iter__") (by rw[typeLookup_type,builtinLookup_eq_fast];ext) (by nofun) (by nofun) (by nofun)
  (by first | exact .inl (by nofun) | exact .inr (by nofun)) (by rw[isSubtype_type];ext)
theorem Dp:entryFor table "set_iterator.__iter__"=some Builtin.«dict_keyiterator.__iter__»:=entryFor_alias (id':="dict_keyiterator.__iter__") (by ext) rfl (by nofun) (by ext)
theorem ET (a:Value):argsOk "set_iterator.__iter__" ⟨[a],[]⟩:=by unfold argsOk;rw[signature?_of (id:="set_iterator.__iter__") (n:=['_','_','r','e','t','i','_','_']) (o:=['r','o','t','a','r','e','t','i','_','t','e','s']) (by ext) BX];ext
section
variable {prog:Zh}{w:Zi}{A:Around}{E:Zq}{s:Zg}
theorem Bc {f:Value}{i n ep:Nat}{Q:Zq} (hi:s.heap.get? it=some (m5 f i a n ep)) (h:Q (.ref it) s):wpAny (model prog w) A (pyIter (.ref it)) Q E s:=by have ty:s.TypeIs (.ref it) "set_iterator":=⟨_,hi,rfl⟩;refine wpAny_pyIter_slot ty zr (fw zr ty Dp ?_ (ET _));show wpAny _ _ (ret (.ref it)) _ _ s;exact ak ⟨_,rfl,"set_iterator",_,ty,fM.lookup,h⟩
theorem JC {I a:Addr}{t:SetTable} (hh:A.handled=none) (hne:a≠I) (hT:w.params.followText "set-order"=true) (hd:o.data=.set es ep t) (hf:t.fits es.size=true) :
  Walks prog w A I [I,a] [I] es.size (fun i v=>((pickOrder (w.params.setOrder a ep) es).toList.map (·.2))[i]?=some v) (fun i h=>h.get? I=some (m5 (.int ((0:Nat):Int) 0) i a es.size ep)/\h.get? a=some o) where
 sub:=fun b hb=>by simp at hb;simp [hb]
 frame:=fun _ _ _ st hk=>⟨hk I (by simp) _ st.1,hk a (by simp) _ st.2⟩
 item:=fun i s Q E hi st hQ=>by
  have hl:i<(pickOrder (w.params.setOrder a ep) es).size:=by rw[←di,(rT _ es).length_eq,di];exact hi
  refine Cq st.1 st.2 hd hf (x:=(pickOrder (w.params.setOrder a ep) es)[i].2) (nx:=0) (fun q=>Ge hT st.2 hd hf (by rw[jv hl];exact q)) fun h' g b=>?_;refine hQ _ h' s.toks ?_ ⟨g,(b.2 a hne).trans st.2⟩ fun c u hc e=>(b.2 c (by simpa using hc)).trans e;rw[aT,iJ,jv hl];rfl
 done:=fun s Q E st hQ=>by
  have hl:(pickOrder (w.params.setOrder a ep) es).size=es.size:=by rw[←di,(rT _ es).length_eq,di]
  exact sP hh st.1 st.2 hd hf (fun q=>Ge hT st.2 hd hf (by rw[om (by lia)];exact q)) fun h' x=>hQ h' s.toks fun b u hb e=>x b u (by simpa using hb) e
 self:=fun _ _ _ _ st hQ=>Bc st.1 hQ
theorem JA {I a pt:Addr}{o ot:Obj}{ep e1:Nat}{t:SetTable}{ps:Za} (hh:A.handled=none) (hne:a≠I) (hnp:pt≠I) (hd:o.data=.set es ep t) (hf:t.fits es.size=true) (hpd:ot.data=.seq (ps.map fun i:Nat=>Value.int (i:Int) 0).toArray e1) (hp:ps.Perm (List.range es.size)) :
  Walks prog w A I [I,a,pt] [I] es.size (fun i v=>(ps.map fun j=>(es.getD j (0,.none)).2)[i]?=some v) (fun i h=>h.get? I=some (m5 (.ref pt) i a es.size ep)/\h.get? a=some o/\h.get? pt=some ot) where
 sub:=fun b hb=>by simp at hb;simp [hb]
 frame:=fun _ _ _ st hk=>⟨hk I (by simp) _ st.1,hk a (by simp) _ st.2.1,hk pt (by simp) _ st.2.2⟩
 item:=fun i s Q E hi st hQ=>by
  have hl:i<ps.length:=by rw[hp.length_eq,dy];exact hi
  have hm:ps[i]<es.size:=cg.mp (hp.mem_iff.mp (iq hl));refine J3 (pl:=ps[i]) (tk:=0) (h0:=es[ps[i]].1) (x:=es[ps[i]].2) st.1 st.2.1 hd hf st.2.2 hpd (by rw[List.getElem?_toArray,aT,aO hl];rfl) (by rw[jv hm]) fun h' g b=>?_;refine hQ _ h' s.toks ?_ ⟨g,(b.2 a hne).trans st.2.1,(b.2 pt hnp).trans st.2.2⟩ fun c u hc e=>(b.2 c (by simpa using hc)).trans e;rw[aT,aO hl];simp [Array.getD,hm]
 done:=fun s Q E st hQ=>by
  have hl:ps.length=es.size:=by rw[hp.length_eq,dy]
  exact zo hh st.1 st.2.1 hd hf st.2.2 hpd (by rw[List.getElem?_toArray,aT,ip (by lia)];rfl) fun h' x=>hQ h' s.toks fun b u hb e=>x b u (by simpa using hb) e
 self:=fun _ _ _ _ st hQ=>Bc st.1 hQ
theorem Bx {xs:Array Nat} (h:xs.size=1):∃ p,xs=#[p]:=⟨xs[0],Array.ext (by simp [h]) fun j h1 h2=>by
 have:j=0:=by lia
 subst this;rfl⟩
theorem vw (p:Nat):SetTable.below #[p] 0=0/\SetTable.below #[p] (p+1)=1:=by
 constructor
 ·simp [SetTable.below,SetTable.below.go]
 ·simp [SetTable.below,SetTable.below.go]
theorem JB {I a:Addr}{t:SetTable} (hh:A.handled=none) (hne:a≠I) (hT:w.params.followText "set-order"=false) (hd:o.data=.set es ep t) (hf:t.fits es.size=true) (h1:es.size<=1) (hled:t.led=true) :
  Walks prog w A I [I,a] [I] es.size (fun i v=>(es.toList.map (·.2))[i]?=some v) (fun i h=>h.get? I=some (m5 (.int (((if i=0 then 0 else t.place.getD 0 0+1):Nat):Int) 0) i a es.size ep)/\h.get? a=some o) where
 sub:=fun b hb=>by simp at hb;simp [hb]
 frame:=fun _ _ _ st hk=>⟨hk I (by simp) _ st.1,hk a (by simp) _ st.2⟩
 item:=fun i s Q E hi st hQ=>by
  obtain rfl:i=0:=by lia
  have hz:t.place.size=1:=by simp only[SetTable.fits,bP,eT] at hf;lia
  obtain⟨p,hp⟩:=Bx hz;have h0:0<es.size:=hi;refine Cq (slot:=0) st.1 st.2 hd hf (x:=es[0].2) (nx:=p+1) (fun q=>Gd hT st.2 hd hf h1 hled (by rw[hp,(vw p).1,jv h0];exact q)) fun h' g b=>?_;refine hQ _ h' s.toks ?_ ⟨by rw[g,hp];rfl,(b.2 a hne).trans st.2⟩ fun c u hc e=>(b.2 c (by simpa using hc)).trans e;rw[aT,iJ,jv h0];rfl
 done:=fun s Q E st hQ=>by
  have hz:t.place.size=es.size:=by simp only[SetTable.fits,bP,eT] at hf;exact hf.1
  refine sP hh st.1 st.2 hd hf (fun q=>Gd hT st.2 hd hf h1 hled ?_) fun h' x=>hQ h' s.toks fun b u hb e=>x b u (by simpa using hb) e
  by_cases h0:es.size=0
  ·rw[om (by lia)];exact q
  ·obtain⟨p,hp⟩:=Bx (xs:=t.place) (by lia);rw[af h0,hp];rw[show (#[p]:Array Nat).getD 0 0=p from rfl,(vw p).2,om (by lia)];exact q
 self:=fun _ _ _ _ st hQ=>Bc st.1 hQ
theorem DN {t:SetTable}{Q:Zq} (hh:A.handled=none) (ho:s.heap.get? a=some o) (hex:o.ExactSet) (hd:o.data=.set es ep t) (hf:t.fits es.size=true) (hb:es.size<scanBound) (hled:t.led=!w.params.followText "set-order") (hpl:es.size≠0->t.plain=false)
  (k:∀ (I:Addr) (fp:List Addr) (St:Nat->Heap->Prop) (vs:Zc) (h':Heap) (d:Drawn),vs.Perm (es.toList.map (·.2))->Walks prog w A I fp [I] es.size (fun i v=>vs[i]?=some v) St->St 0 h'->(∀ b u,s.heap.get? b=some u->h'.get? b=some u)->(∀ b∈fp,b=a∨s.heap.objs.size<=b)->s.heap.objs.size<=I->Q (.ref I) { s with heap:=h',drawn:=d }) :
  wpAny (model prog w) A (pyIter (.ref a)) Q E s:=by
 have la:a<s.heap.objs.size:=aG ho;refine KN ho hex hd hf hb hpl (fun hc=>?_) fun hT ps d hp=>?_
 ·have gI:(s.heap.push (m5 (.int ((0:Nat):Int) 0) 0 a es.size ep)).get? s.heap.objs.size=some (m5 (.int ((0:Nat):Int) 0) 0 a es.size ep):=bt _ rfl;have ga:=aD (m5 (.int ((0:Nat):Int) 0) 0 a es.size ep) ho;have fpo:∀ b∈[s.heap.objs.size,a],b=a∨s.heap.objs.size<=b:=fun b hb=>by
   rcases aP.mp hb with rfl | hb
   ·exact .inr (ar _)
   ·exact .inl (bg.mp hb)
  cases hT:w.params.followText "set-order" with
  | true=>exact k _ _ _ _ _ s.drawn ((rT _ es).map _) (JC hh (aW la) hT hd hf) ⟨gI,ga⟩ (fun b u e=>aD _ e) fpo (ar _)
  | false =>
   have h1:es.size<=1:=hc.resolve_left fun z=>by rw[hT] at z;cases z
   rw[hT] at hled;exact k _ _ _ _ _ s.drawn (List.Perm.refl _) (JB hh (aW la) hT hd hf h1 hled) ⟨gI,ga⟩ (fun b u e=>aD _ e) fpo (ar _)
 ·have sz:(s.heap.push { cls:=.type "tuple",data:=.seq (ps.map fun i:Nat=>Value.int (i:Int) 0).toArray }).objs.size=s.heap.objs.size+1:=iW ..;have gI:((s.heap.push { cls:=.type "tuple",data:=.seq (ps.map fun i:Nat=>Value.int (i:Int) 0).toArray }).push (m5 (.ref s.heap.objs.size) 0 a es.size ep)).get? (s.heap.objs.size+1)=some (m5 (.ref s.heap.objs.size) 0 a es.size ep):=by
   rw[←sz];exact bt _ rfl
  have gp:((s.heap.push { cls:=.type "tuple",data:=.seq (ps.map fun i:Nat=>Value.int (i:Int) 0).toArray }).push (m5 (.ref s.heap.objs.size) 0 a es.size ep)).get? s.heap.objs.size=some { cls:=.type "tuple",data:=.seq (ps.map fun i:Nat=>Value.int (i:Int) 0).toArray }:=aD _ (bt _ rfl);have ga:=aD (m5 (.ref s.heap.objs.size) 0 a es.size ep) (aD { cls:=.type "tuple",data:=.seq (ps.map fun i:Nat=>Value.int (i:Int) 0).toArray } ho);refine k _ _ _ (ps.map fun j=>(es.getD j (0,.none)).2) _ d ?_ (JA hh (aW (fT la)) (aW (lQ _)) hd hf rfl hp) ⟨gI,ga,gp⟩ (fun b u e=>aD _ (aD _ e)) (fun b hb=>?_) (gk _)
  ·refine (hp.map _).trans (List.Perm.of_eq ?_);apply ij;intro i;rw[aT,aT]
   by_cases hi:i<es.size
   ·rw[List.getElem?_range hi,iJ,jv hi];simp [Array.getD,hi]
   ·rw[ip (by rw[dy];exact Nat.le_of_not_lt hi),ip (by rw[di];exact Nat.le_of_not_lt hi)];rfl
  ·rcases aP.mp hb with rfl | hb
   ·exact .inr (gk _)
   ·rcases aP.mp hb with rfl | hb
    ·exact .inl rfl
    ·rw[bg.mp hb];exact .inr (ar _)
theorem Dh {t:SetTable}{R:Zc->Zg->Prop} (hh:A.handled=none) (ho:s.heap.get? a=some o) (hex:o.ExactSet) (hd:o.data=.set es ep t) (hf:t.fits es.size=true) (hb:es.size<scanBound) (hled:t.led=!w.params.followText "set-order") (hpl:es.size≠0->t.plain=false)
  (h:∀ (h':Heap) (tk:Nat) (d:Drawn) (vs:Zc),(∀ b u,s.heap.get? b=some u->h'.get? b=some u)->vs.Perm (es.toList.map (·.2))->R vs { s with heap:=h',toks:=tk,drawn:=d }) :
  wpAny (model prog w) A (collect (.ref a)) R E s:=by
 have la:a<s.heap.objs.size:=aG ho;unfold collect;refine aa (wpAny_runValue (fV entry_proto_collect' ?_));rw[qa PySem.F.plain_proto_collect _];show wpAny _ A.in1 (newList [] >>= fun l=>again (.builtin "list.__iadd__" ⟨[l,.ref a],[]⟩)) _ _ s;refine aa (gx ?_);refine ak ⟨lT PySem.F.plain_list_iadd _,fV entry_list_iadd' ?_⟩;rw[qa PySem.F.plain_list_iadd _];have hS:(s.heap.push { cls:=.type "list",data:=.seq ([]:Zc).toArray }).get? s.heap.objs.size=some { cls:=.type "list",data:=.seq #[] }:=bt _ rfl;have szS:(s.heap.push { cls:=.type "list",data:=.seq ([]:Zc).toArray }).objs.size=s.heap.objs.size+1:=iW ..;have ho1:=aD { cls:=.type "list",data:=.seq ([]:Zc).toArray } ho;have kp1:∀ b u,s.heap.get? b=some u->(s.heap.push { cls:=.type "list",data:=.seq ([]:Zc).toArray }).get? b=some u:=fun b u e=>aD _ e;generalize s.heap.push { cls:=.type "list",data:=.seq ([]:Zc).toArray }=h1 at hS szS ho1 kp1;show wpAny _ A.in1 (Builtin.List.listExtendWith (.ref s.heap.objs.size) (.ref a) (.ref s.heap.objs.size)) _ _ _;unfold Builtin.List.listExtendWith;refine aa (wpAny_typeOf (T:="set") ⟨o,ho1,hex.1⟩ ?_);have e1:Builtin.List.listSameRef (.ref s.heap.objs.size) (.ref a)=false:=by simp [Builtin.List.listSameRef,gm la]
 have e2:(Value.type "set"==Value.type "list")=false:=by decide
 have e3:(Value.type "set"==Value.type "tuple")=false:=by decide
 simp only[e1,e2,e3,Bool.or_false,iK,eU];refine aa (DN (A:=A.in1) (s:={ s with heap:=h1 }) hh ho1 hex hd hf hb hled hpl fun I fp St vs h2 d hperm W st kp2 fpo lI=>?_);have hsf:s.heap.objs.size∉fp:=fun hm=>by
  rcases fpo _ hm with e | e
  ·exact absurd e (gm la)
  ·exact absurd (aV (lP szS.symm) e) (Nat.not_succ_le_self _)
 have lI':h1.objs.size<=I:=lI;have lv:vs.length=es.size:=by rw[hperm.length_eq,ag,di]
 have key:∀ (h3:Heap) (c₁ tk:Nat),St 0 h3->(∀ b u,s.heap.get? b=some u->h3.get? b=some u)->h3.get? s.heap.objs.size=some { cls:=.type "list",data:=.seq #[] c₁ } →
   codeAny (model prog w) A (.builtin "list.extend.loop" ⟨[.ref s.heap.objs.size,.ref I,.ref s.heap.objs.size],[]⟩) (fun (q:Result) (s':Zg)=>∃ (h':Heap) (tk:Nat) (c':Nat),q=.ok (.ret (.ref s.heap.objs.size))/\s'={ s with heap:=h',toks:=tk,drawn:=d } ∧
    (∀ b u,s.heap.get? b=some u->h'.get? b=some u)/\h'.get? s.heap.objs.size=some { cls:=.type "list",dict:=none,data:=.seq vs.toArray c',slots:=#[] }) { s with heap:=h3,toks:=tk,drawn:=d }:=fun h3 c₁ tk hst hk hS1=>by
  refine codeAny_extend_loopS W.toS (fits_of_scanBound hb) s.heap.objs.size hsf (.ref s.heap.objs.size) es.size 0 _ #[] c₁ rfl (bj _) hst hS1 (ItemsOf.nil _) fun s' acc' c' hm hS' hacc=>?_;have ea:acc'=vs.toArray:=by
   apply Array.toList_inj.mp;apply ij;intro i
   by_cases hi:i<es.size
   ·have hi2:i<acc'.size:=by rw[hacc.1];exact hi
    rw[iJ,jv hi2];exact (hacc.2 i _ (jv hi2)).symm
   ·rw[iJ,om (by rw[hacc.1];lia)];exact (ip (show vs.length<=i by rw[lv];exact Nat.le_of_not_lt hi)).symm
  subst ea;rw[Moved.eq_with hm];refine⟨s'.heap,s'.toks,c',rfl,rfl,fun b u e=>hm.heap b u (fun hmem=>?_) (hk b u e),hS'⟩;have lb:=aG e;rcases aP.mp hmem with e' | hmem
  ·exact absurd e' (aW lb)
  ·rw[bg.mp hmem] at lb;exact absurd (bK lb (aV (gk _) (aV (lP szS.symm) lI'))) (ft _)
 have hS2:=kp2 _ _ hS;have k02:∀ b u,s.heap.get? b=some u->h2.get? b=some u:=fun b u e=>kp2 b u (kp1 b u e);refine aa (cW (FE (s:={ s with heap:=h2,drawn:=d }) ⟨o,kp2 _ _ ho1,hex.1⟩ ?_));have fin:∀ {h3:Heap}{c₁ tk:Nat},St 0 h3->(∀ b u,s.heap.get? b=some u->h3.get? b=some u)->h3.get? s.heap.objs.size=some { cls:=.type "list",data:=.seq #[] c₁ }->_:=fun {h3 c₁ tk} a1 a2 a3=>gw (key h3 c₁ tk a1 a2 a3) (R':=fun r s'=>match r with
   | Except.ok (Flow.ret v)=>wpAny (model prog w) A (match v with
      | Value.ref a=>do
       let o ←load a
       match o.data with
        | Data.seq xs epoch=>pure xs.toList
        | x=>unsupported "internal:collect"
      | x=>unsupported "internal:collect") R E s'
   | Except.ok a=>False
   | Except.error e=>E e s') fun q s' ⟨h',tk',c',e1,e2,hk,hS'⟩=>by
  subst e1 e2;show wpAny _ A (load s.heap.objs.size >>= _) _ _ _;refine aa (wpAny_load hS' ?_);exact ak (h h' tk' d vs hk hperm)
 refine wpAny_ite_split (fun _=>?_) (fun _=>ak ⟨lT PySem.F.plain_extend_loop _,fin st k02 hS2⟩);refine aa (wpAny_rule ?_);refine aa ?_;show wpAny _ _ (updateSeq s.heap.objs.size (·.push .none) >>= fun _=>updateSeq s.heap.objs.size (·.pop)) _ _ _;refine aa (wpAny_updateSeq hS2 rfl ?_);have hS3:=fP (Obj.mapSeq (·.push Value.none)) hS2 rfl;refine wpAny_updateSeq (hz:=by seq_fits) hS3 rfl ?_;have hS4:=fP (Obj.mapSeq (·.pop)) hS3 rfl;refine ak ⟨lT PySem.F.plain_extend_loop _,fin ?_ (fun b u e=>?_) hS4⟩
 ·refine W.frame 0 _ _ st fun b hb o e=>?_;have hbS:b≠s.heap.objs.size:=fun h=>hsf (h ▸ hb);exact (dv _ _ (bD hbS)).trans ((dv _ _ (bD hbS)).trans e)
 ·have hbS:b≠s.heap.objs.size:=aW (aG e);exact (dv _ _ (bD hbS)).trans ((dv _ _ (bD hbS)).trans (k02 b u e))
end
end
section
theorem um {val:Nat->Key}{x:Key}:∀ {n:Nat},x∈c8 val n↔∃ i,i<n/\val i=x
 | 0=>⟨(fun h=>by cases h),fun ⟨i,h,_⟩=>absurd h (Nat.not_lt_zero i)⟩
 | n+1=>by
  have ih:=um (val:=val) (x:=x) (n:=n);unfold c8;split
  ·rename_i hm
   rw[jI] at hm;refine ih.trans ⟨fun ⟨i,h,e⟩=>⟨i,by lia,e⟩,fun ⟨i,h,e⟩=>?_⟩
   by_cases hi:i=n
   ·subst hi;rw[←e];exact um.mp hm
   ·exact⟨i,by lia,e⟩
  ·rw[bE,bg,ih];refine⟨fun h=>h.elim (fun ⟨i,h,e⟩=>⟨i,by lia,e⟩) fun e=>⟨n,by lia,e.symm⟩,fun ⟨i,h,e⟩=>?_⟩
   by_cases hi:i=n
   ·subst hi;exact .inr e.symm
   ·exact .inl ⟨i,by lia,e⟩
theorem wX (val:Nat->Key):∀ n,(c8 val n).Nodup
 | 0=>List.nodup_nil
 | n+1=>by
  have ih:=wX val n;unfold c8;split
  ·exact ih
  ·rename_i hm
   rw[jI] at hm;rw[List.nodup_append];exact⟨ih,by simp,fun a ha b hb e=>hm (by rw[bg.mp hb] at e;rw[←e];exact ha)⟩
theorem zu {α:Type} [DecidableEq α]:∀ {l us:List α},l.Nodup->(∀ x∈l,x∈us)->us.length=l.length->l.Perm us
 | [],us,_,_,e=>by rw[nV.mp e]
 | a::l,us,nd,h,e=>by
  rw[eS] at nd;have hm:=h a aS;have hp:=List.perm_cons_erase hm;refine ((zu (us:=us.erase a) nd.2 (fun x hx=>?_) ?_).cons a).trans hp.symm
  ·exact (List.mem_erase_of_ne (fun z=>nd.1 (by rw[←z];exact hx))).mpr (h x (aU _ hx))
  ·rw[List.length_erase_of_mem hm,e];rfl
noncomputable def setM (P:Zh) (w:Zi) (a:Addr) (l:List Key):HO:=.ext fun h=>rA P w (!w.params.followText "set-order") h a l
theorem Jy {l:List Key} (x:rA P w (!w.params.followText "set-order") h a l):bY P w H h a (setM P w a l):=by
 refine⟨x,?_,fun h1 h2 y k=>?_⟩
 ·obtain⟨o,_,_,_,e,_⟩:=x;exact⟨o,e⟩
 ·obtain⟨o,es,ep,t,e,r⟩:=y;exact⟨o,es,ep,t,k o e,r⟩
noncomputable def JU (K:Zf) (P:Zh) (w:Zi):List V->Hp->VK->Prop:=fun vs H Q=>match vs with
 | [.ref a]=>∃ zs:Ze,SqL K H a (zs.map V.str)/\zs.length<=4000/\∀ p H',H p=none->az H H'->H' p=some (setM P w p (c8 (mM zs) zs.length))->Q (.ref p) H'
 | _=>False
theorem Fq {K:Zf}{P:Zh}{w:Zi}{a:Addr}{H:Hp}{Q:VK}:JU K P w [.ref a] H Q=(∃ zs:Ze,SqL K H a (zs.map V.str)/\zs.length<=4000/\∀ p H',H p=none->az H H'->H' p=some (setM P w p (c8 (mM zs) zs.length))->Q (.ref p) H'):=propext Iff.rfl
theorem tS (hK:X.K=K) (hP:X.prog=P) (hw:X.w=w) (hc:X.calm=true):dr X (.type "set") (JU K P w):=by
 subst hK hP hw;intro Yp s σ H xs us Q I r h;rcases xs with _ | ⟨x0,t⟩
 ·exact h.elim
 cases x0<;>try exact h.elim
 cases t<;>try exact h.elim
 next a =>
  obtain⟨zs,h1,h2,h3⟩:=h;obtain⟨u,rfl,ru⟩:=vals1 r;cases ru;obtain⟨vs,r1,p1,_⟩:=I.list h1;have l1:=r1.length;rw[ag] at l1;have hf:H s.heap.objs.size=none:=I.hok.fresh (ar _);have hs:vs.toArray.size=zs.length:=by rw[bF];lia
  refine xJ (val:=mM zs) (I.ok.hd hc) p1.isList (fun i v e=>?_) (by rw[hs];unfold scanBound;lia) fun g tk x k=>?_
  ·have e':vs[i]?=some v:=by simpa using e
   have hi:i<zs.length:=by have:=(b7.mp e').1;lia
   have ez:zs[i]?=some zs[i]:=aO hi;obtain⟨u,hu,ru⟩:=r1.get (i:=i) (x:=V.str zs[i]) (by rw[aT,ez];rfl);rw[e'] at hu;cases hu;obtain⟨t,rfl⟩:=ru;refine⟨zs[i],t,rfl,?_⟩;unfold mM;rw[bz,ez];rfl
  ·rw[hs] at x;have kk:∀ b o,s.heap.get? b=some o->g.get? b=some o:=fun b o e=>k b o (aG e) e;exact⟨.ref s.heap.objs.size,upd H s.heap.objs.size (setM X.prog X.w s.heap.objs.size (c8 (mM zs) zs.length)),I.laid (t':=tk) kk (ar _) (Jy x),rfl,h3 _ _ hf (du hf) aE⟩
theorem va {k:Key}:k∈c8 (mM zs) zs.length↔∃ z∈zs,k=.inr z:=by
 rw[um];constructor
 ·rintro⟨i,hi,rfl⟩;refine⟨zs[i],iq hi,?_⟩;unfold mM;rw[bz,aO hi];rfl
 ·rintro⟨z,hz,rfl⟩;obtain⟨i,hi,rfl⟩:=List.getElem_of_mem hz;refine⟨i,hi,?_⟩;unfold mM;rw[bz,aO hi];rfl
theorem Es (hel:ElemsOf (br P w) es.toList) (hmem:∀ k,fW k (c8 (mM zs) zs.length)=true↔∃ e∈es.toList,jH k e.2=true) (hn:es.size=(c8 (mM zs) zs.length).length)  (hp:vs.Perm (es.toList.map (·.2))) :
  ∃ us:Ze,StrsAre vs us/\us.Nodup/\∀ z,z∈us↔z∈zs:=by
 have hst:∀ v∈vs,∃ z t,v=Value.str z t/\z∈zs:=fun v hv=>by
  obtain⟨e,he,rfl⟩:=aM.mp (hp.mem_iff.mp hv);obtain⟨⟨k,hk,_⟩,_⟩:=hel e he;have hk':jH k e.2=true:=hk;obtain⟨z,hz,rfl⟩:=va.mp (jI.mp ((hmem k).mpr ⟨e,he,hk'⟩));rcases cO hk' with ⟨n,t,e3,e4⟩ | ⟨y,t,e3,e4⟩
  ·cases e3
  ·cases e3;exact⟨z,t,e4,hz⟩
 have mk:∀ {vs:Zc},(∀ v∈vs,∃ z t,v=Value.str z t/\z∈zs)->∃ us:Ze,StrsAre vs us/\(∀ z∈us,z∈zs)/\∀ z,(∃ t,Value.str z t∈vs)->z∈us:=by
  intro vs
  induction vs with
  | nil=>intro _;exact⟨[],.nil,(fun z h=>by cases h),fun z ⟨t,h⟩=>by cases h⟩
  | cons v vs ih =>
   intro h;obtain⟨us,a1,a2,a3⟩:=ih fun u hu=>h u (aU _ hu);obtain⟨z,t,rfl,hz⟩:=h v aS;refine⟨z::us,.cons z t a1,fun y hy=>?_,fun y ⟨t',hy⟩=>?_⟩
   ·rcases aP.mp hy with rfl | hy
    ·exact hz
    ·exact a2 y hy
   ·rcases aP.mp hy with e | hy
    ·injection e with e _;rw[e];exact aS
    ·exact aU _ (a3 y ⟨t',hy⟩)
 obtain⟨us,a1,a2,a3⟩:=mk hst;have lu:∀ {vs:Zc}{us:Ze},StrsAre vs us->us.length=vs.length:=fun h=>by
  induction h with
  | nil=>rfl
  | cons z t _ ih=>rw[aZ,aZ,ih]
 have hin:∀ z∈zs,z∈us:=fun z hz=>by
  obtain⟨e,he,hk⟩:=(hmem (.inr z)).mp (jI.mpr (va.mpr ⟨z,hz,rfl⟩));rcases cO hk with ⟨n,t,e3,e4⟩ | ⟨y,t,e3,e4⟩
  ·cases e3
  ·cases e3
   exact a3 z ⟨t,by rw[←e4];exact hp.mem_iff.mpr (aM.mpr ⟨e,he,rfl⟩)⟩
 have hperm:(c8 (mM zs) zs.length).Perm (us.map (Sum.inr:Str->Key)):=zu (wX _ _) (fun k hk=>by obtain⟨z,hz,rfl⟩:=va.mp hk;exact aM.mpr ⟨z,hin z hz,rfl⟩) (by rw[ag,lu a1,hp.length_eq,ag,di,hn]);have hnd:=hperm.nodup_iff.mp (wX _ _);refine⟨us,a1,?_,fun z=>⟨a2 z,hin z⟩⟩;exact (fk.mp hnd).imp fun h e=>h (by rw[e])
noncomputable def GU (P:Zh) (w:Zi):List V->Hp->VK->Prop:=fun vs H Q=>match vs with
 | [.ref a]=>∃ zs:Ze,H a=some (setM P w a (c8 (mM zs) zs.length))/\(c8 (mM zs) zs.length).length<64/\∀ ws:Ze,ws.Nodup->(∀ z,z∈ws↔z∈zs)->sortedS ws=true->nw H (.lst (ws.map V.str)) Q
 | _=>False
theorem D7 {P:Zh}{w:Zi}{a:Addr}{H:Hp}{Q:VK}:GU P w [.ref a] H Q=(∃ zs:Ze,H a=some (setM P w a (c8 (mM zs) zs.length))/\(c8 (mM zs) zs.length).length<64/\∀ ws:Ze,ws.Nodup->(∀ z,z∈ws↔z∈zs)->sortedS ws=true->nw H (.lst (ws.map V.str)) Q):=propext Iff.rfl
theorem tT (hP:X.prog=P) (hw:X.w=w) (hc:X.calm=true):dr X (.builtin "sorted") (GU P w):=by
 subst hP hw;intro Yp s σ H xs us Q I r h;rcases xs with _ | ⟨x0,t⟩
 ·exact h.elim
 cases x0<;>try exact h.elim
 cases t<;>try exact h.elim
 next a =>
  obtain⟨zs,ha,h64,k⟩:=h;obtain⟨u,rfl,r2⟩:=vals1 r;cases r2;obtain⟨o,es,ep,t,ho,hex,hd,hel,hmem,hb,hf,hn,hled,hpl⟩:rA X.prog X.w (!X.w.params.followText "set-order") s.heap a (c8 (mM zs) zs.length):=(show bY X.prog X.w H s.heap a (setM X.prog X.w a _) from I.hok a _ ha).1;refine Calls.call_function_entry kind_sorted plain_sorted entry_sorted (args_sorted1 _) ?_;unfold Builtin.«sorted»;refine aa (m:=checkCount "sorted" 1 1 _) (ak (aa (Dh (A:=X.A.in1) (I.ok.hd hc) ho hex hd hf hb hled hpl fun h1 tk d vs k1 hp=>?_)));obtain⟨us,hS,hnd,hmz⟩:=Es hel hmem hn hp;have lv:vs.length<64:=by rw[hp.length_eq,ag,di,hn];exact h64
  have hz:vs.length<=sizeLine:=aQ (bK lv (by rw[i5];lia));refine aa (wpAny_newList ?_ hz);have gL:(h1.push (seqObj "list" vs.toArray 0)).get? h1.objs.size=some (seqObj "list" vs.toArray 0):=bt _ rfl;refine aa (cW (fw slot_list_sort ⟨_,gL,rfl⟩ entry_list_sort (list_sort_treeK strKind_oneLt gL hS.keysOf (fun v₁ v₂ rest e=>keyKind_strs (by rw[←e];exact hS)) lv fun st' a1 a2=>⟨_,rfl,ak ⟨_,rfl,?_⟩⟩) (args_list_sort _)));obtain⟨ws,b1,b2,b3⟩:=sorted_out_str hS a1 a2;obtain⟨e1,g1⟩:∃ e1,((h1.push (seqObj "list" vs.toArray 0)).update h1.objs.size (Obj.mapSeq fun _=>#[])).get? h1.objs.size=some (seqObj "list" #[] e1):=⟨_,kb gL fun _=>#[]⟩;have g2:((((h1.push (seqObj "list" vs.toArray 0)).update h1.objs.size (Obj.mapSeq fun _=>#[])).push (seqObj "tuple" vs.toArray 0)).push (seqObj "list" #[] 0)).get? h1.objs.size=some (seqObj "list" #[] e1):=aD _ (aD _ g1);refine show EP X Yp σ Q (.ref h1.objs.size) { s with heap:=sortedHeap (h1.push (seqObj "list" vs.toArray 0)) h1.objs.size vs ((arrOf st').map fun x=>x.2),toks:=tk,drawn:=d } from ?_
  generalize (arrOf st').map (fun x=>x.2)=out at b1 ⊢;obtain⟨c3,g3⟩:∃ c3,(sortedHeap (h1.push (seqObj "list" vs.toArray 0)) h1.objs.size vs out).get? h1.objs.size=some (seqObj "list" out c3):=⟨_,kb g2 fun _=>out⟩;have kp:∀ b o,h1.get? b=some o->(sortedHeap (h1.push (seqObj "list" vs.toArray 0)) h1.objs.size vs out).get? b=some o:=fun b o z=>by have hb:h1.objs.size≠b:=gm (aG z);exact (dv _ _ hb).trans (aD _ (aD _ ((dv _ _ hb).trans (aD _ z))))
  have I1:Inv X Yp σ H { s with heap:=h1,toks:=tk,drawn:=d }:=by have I0:Inv X Yp σ H { s with heap:=h1,toks:=tk }:=I.kept (t':=tk) k1;exact⟨I0.ok,I0.os,I0.bare,I0.base,I0.loc,I0.cell,I0.free,I0.freeC,I0.pin,I0.hok,I0.len⟩
  have hn1:=I1.hok.fresh (ar h1.objs.size);have lw:=b2.length_eq;refine⟨.ref h1.objs.size,upd H h1.objs.size (.lst (ws.map V.str)),I1.laid (t':=tk) (o:=.lst (ws.map V.str)) kp (ar _) ⟨?_,out.toList,c3,j8 b1,by rw[Array.toArray_toList];exact g3⟩,rfl,k ws (b2.nodup_iff.mpr hnd) (fun z=>(b2.mem_iff).trans (hmz z)) b3 _ _ hn1 (du hn1) aE⟩;have lu:ws.length=out.toList.length:=by have:=(j8 b1).length;rwa [ag] at this
  rw[ag,lw];have:us.length=vs.length:=by have:=(j8 hS).length;rwa [ag] at this
  lia
end
section
section
variable {prog:Zh}{w:Zi}{A:Around}{E:Zq}{s:Zg}
end
section
variable {X:Cx}{tg:Expr}
end
section
variable {X:Cx}{Yp:Zp}{σ:St}{H1:Hp}{s₂:Zg}{E:Zq}
end
section
variable {X:Cx}{Yp:Zp}{σ:St}{H:Hp}{s:Zg}
end
section
variable {X:Cx}{tg:Expr}
end
end
section
noncomputable def Itk (ob:Obj) (a:Addr) (kvs:List (Key×V)):It :=
 ⟨fun i H=>i<kvs.length/\H a=some (.frz ob (.dK kvs)),fun i H v H'=>(∃ k x,kvs[i]?=some (k,x)/\v=kV k)/\H'=H,fun i H=>kvs.length<=i/\H a=some (.frz ob (.dK kvs))⟩
theorem Ep (h:H1 a=some (.frz ob (.dK kvs))):(Itk ob a kvs).Seq H1 (kvs.map fun kv=>kV kv.1):=fun H s =>⟨fun i x e=>by rw[aT] at e;obtain⟨⟨k,v⟩,hk,e2⟩:=dO.mp e;have e2':kV k=x:=e2;refine⟨⟨(b7.mp hk).1,s _ _ h⟩,fun y H' z=>?_⟩;obtain⟨⟨k',v',h1,h2⟩,h3⟩:=z;rw[hk] at h1;cases h1;exact⟨h3,h2.trans e2'⟩,fun i hi=>⟨by rw[ag] at hi;exact hi,s _ _ h⟩⟩
theorem Bm {P:Zh}{w:Zi}{K:Zf}{tg:Expr} (ob:Obj) (a it:Addr) (kvs:List (Key×V)) (es:Array DictEntry) (ep:Nat) (hd:ob.data=.dict es ep) (hz:es.size=kvs.length) :
  Turn P w K tg (Itk ob a kvs) [it] it (fun i h=>h.IsKeyIter it a i es.size ep) where
 mem:=by simp
 obj:=fun i h st b hb=>by
  obtain rfl:b=it:=by simpa using hb
  obtain⟨o,e1,e2,e3⟩:=st;exact⟨o,e1,fun v z=>by rw[e3] at z;cases z⟩
 keep:=fun i h h' st k=>by obtain⟨o,e1,e2,e3⟩:=st;exact⟨o,k it (by simp) o e1,e2,e3⟩
 item:=by
  intro X hP hw hK hc i Yp s σ H E I hf st hg;subst hP hw hK;obtain⟨hi,hH⟩:=hg;have g1:s.heap.get? a=some ob:=(show bY X.prog X.w H s.heap a (.frz ob (.dK kvs)) from I.hok a _ hH).1;obtain⟨vs,r,o',es',f1,f2,f3,f4,f5,f6⟩:=Fz I.hok hH hd;have:o'=ob:=Option.some.inj (f1.symm.trans g1);subst this;rw[hd] at f3
  injection f3 with e1 e2
  subst e1;obtain⟨⟨k1,x⟩,hk⟩:∃ p,kvs[i]?=some p:=⟨_,aO hi⟩;obtain⟨⟨k2,u⟩,hu,hke,ru⟩:∃ q:Key×Value,vs[i]?=some q/\k1=q.1/\RelV x q.2:=by obtain⟨q,h1,h2⟩:=KZ r hk;exact⟨q,h1,h2.1,h2.2⟩
  have hke:k1=k2:=hke;subst hke;have hi':i<es.size:=by lia
  have ek:jH k1 (es[i]'hi').key=true:=(f5.get? (e:=es[i]'hi') (by simp [hi']) hu).1;refine GY (es:=es) st g1 hd hi' fun h' st' sb=>⟨_,rfl,?_⟩;obtain⟨o',q1,q2,q3⟩:=id st';refine yq (s:={ s with heap:=h' }) q1 q2 q3 Zd ?_;exact⟨kV k1,H,I.Cw (t':=s.toks) (ch:=[it]) hf (fun c o hc e=>(sb.2 c (by simpa using hc)).trans e),Js ek,⟨⟨k1,x,hk,rfl⟩,rfl⟩,st',fun b hb=>(hf b hb).1⟩
 done:=by intro X hP hw hK hc i Yp s σ H E I hf st hg;subst hP hw hK;obtain⟨hi,hH⟩:=hg;have g1:s.heap.get? a=some ob:=(show bY X.prog X.w H s.heap a (.frz ob (.dK kvs)) from I.hok a _ hH).1;refine Jp (I.ok.hd hc) st (by lia) g1 hd fun h' kk=>⟨rfl,I.Cw (t':=s.toks) (ch:=[it]) hf fun c o hc e=>?_⟩;exact kk c o (by simpa using hc) e
 self:=fun _ _ _ _ _ st h=>wpAny_pyIter_keyiter st h
noncomputable def FG (te:TE):TI:=fun σ H R=>te σ H fun x H1=>∃ a kvs,x=.ref a ∧
 ((H1 a=some (.dK kvs)/\∀ ob H2,(∀ b o,b≠a->H1 b=some o->H2 b=some o)->H2 a=some (.frz ob (.dK kvs))->R (Itk ob a kvs) H2)∨∃ ob,H1 a=some (.frz ob (.dK kvs))/\R (Itk ob a kvs) H1)
theorem CC {te:TE}{σ:St}{H:Hp}{R:It->Hp->Prop}:FG te σ H R=te σ H fun x H1=>∃ a kvs,x=.ref a ∧
 ((H1 a=some (.dK kvs)/\∀ ob H2,(∀ b o,b≠a->H1 b=some o->H2 b=some o)->H2 a=some (.frz ob (.dK kvs))->R (Itk ob a kvs) H2)∨∃ ob,H1 a=some (.frz ob (.dK kvs))/\R (Itk ob a kvs) H1):=propext Iff.rfl
theorem yT {tg l:Expr}{tl:TE} (hl:PE X l tl):PI X tg l (FG tl):=by
 intro Yp s σ H R I h;refine thn (hl Yp s σ H _ I h) fun v s1 ⟨x,H1,I1,r1,q1⟩=>?_;obtain⟨a,kvs,rfl,q⟩:=q1;cases r1;have go:∀ (ob:Obj) (H2:Hp),Inv X Yp σ H2 s1->H2 a=some (.frz ob (.dK kvs))->R (Itk ob a kvs) H2->wpAny (model X.prog X.w) X.A (pyIter (.ref a)) (PIE X Yp σ tg R) X.xe s1:=by
  intro ob H2 I2 hH q;obtain⟨g1,z,hs,vs,rel,o',es,ep,e1,e2,e3,e4,e5,e6⟩:=(show bY X.prog X.w H2 s1.heap a (.frz ob (.dK kvs)) from I2.hok a _ hH);have:o'=ob:=Option.some.inj (e1.symm.trans g1);subst this;have hz:es.size=kvs.length:=by have h1:kvs.length=vs.length:=Paired.length rel;have h2:=e5.length;simp at h2;lia
  refine GX hs e1 e2 e3 ?_;refine⟨s1.heap.objs.size,[s1.heap.objs.size],_,_,H2,rfl,I2.kept (t':=s1.toks) (fun b o e=>aD _ e),Bm o' a _ kvs es ep e3 hz,⟨_,bt _ rfl,rfl,rfl⟩,fun b hb=>?_,q⟩;obtain rfl:b=s1.heap.objs.size:=by simpa using hb
  exact I2.wL (ar _) (I2.hok.fresh (ar _))
 rcases q with ⟨ha,q⟩ | ⟨ob,ha,q⟩
 ·obtain⟨z,hs,vs,rel,ob,es,ep,e1,e2,e3,e4⟩:=JG I1.hok ha;have I2:Inv X Yp σ (upd H1 a (.frz ob (.dK kvs))) s1:=I1.write (x:=a) (e:=a) (h':=s1.heap) (t':=s1.toks) (o:=.frz ob (.dK kvs)) (by rw[ha];exact True.intro) (.inl rfl) (fun _ _ _ e=>e) ⟨ob,e1⟩ ⟨e1,z,hs,vs,rel,ob,es,ep,e1,e2,e3,e4⟩;exact go ob _ I2 aE (q ob _ (fun b o hb e=>by rw[aJ hb];exact e) aE)
 ·exact go ob H1 I1 ha q
theorem Fx {g:TG}{tb:TS}{D:Ends} (Pv:Nat->St->Hp->Prop) (h0:Pv 0 σ H) (hl:∀ i σ H,Pv i σ H->H a=some (.frz ob (.dK kvs)))
  (hs:∀ i k x σ H,kvs[i]?=some (k,x)->Pv i σ H->∀ N:St->Hp->Prop,(∀ σ' H',Pv (i+1) σ' H'->N σ' H')->g (kV k) σ H fun σ2 H2=>tb { D with nx:=N,ct:=N,bk:=D.nx } σ2 H2) (hd:∀ σ H,Pv kvs.length σ H->D.nx σ H):jD g tb D (Itk ob a kvs) σ H:=by
 refine⟨fun i m σ H=>m=kvs.length-i/\i<=kvs.length/\Pv i σ H,⟨_,rfl,bj _,h0⟩,?_⟩;rintro i m σ H ⟨rfl,hi,hp⟩
 by_cases hlt:i<kvs.length
 ·refine .inr ⟨⟨hlt,hl i σ H hp⟩,fun σ' H'=>Pv (i+1) σ' H',fun σ' H' h=>⟨kvs.length-(i+1),by lia,rfl,hlt,h⟩,?_⟩;rintro x H' ⟨⟨k,v,hk,rfl⟩,rfl⟩;exact hs i k v σ _ hk hp _ fun _ _ h=>h
 ·have e:i=kvs.length:=by lia
  subst e;exact .inl ⟨⟨ar _,hl _ σ H hp⟩,hd σ H hp⟩
theorem mJ.kf {k:Key} (e:H a=some (.frz ob (.dK kvs))):mJ H a (kV k) (kW kvs k):=.inl ⟨kvs,k,.inr ⟨ob,e⟩,rfl,rfl⟩
theorem mJ.kr {k:Key} (e:Rd H a (.dK kvs)):mJ H a (kV k) (kW kvs k):=.inl ⟨kvs,k,e,rfl,rfl⟩
end
end L2
namespace Tim2
open PySem PyProof.Rows
variable {Q:Option Nat->SortSt->Prop}{st:SortSt}
structure Cmp (prog:Zh) (w:Zi) (A:Around) (E:Zq) (s:Zg) (S:List Keyed):Prop where
 run:∀ x∈S,∀ y∈S,∀ (st:SortSt) (Q:Option Bool->SortSt->Prop),kindOf st=oneType'->(∀ b,Q (some b) st)->wpS (model prog w) A E s (lt' x y) Q st
section
variable {prog:Zh}{w:Zi}{A:Around}{E:Zq}{s:Zg}{a₀:Array Keyed}
theorem z6 {arr:Array Keyed}{i:Nat}{x:Keyed}{Q:Keyed->SortSt->Prop} (h:arr[i]?=some x) (q:Q x st):wpS (model prog w) A E s (elem' arr i) Q st:=by rw[elem'_eq,h];exact ck q
theorem qT (C:Cmp prog w A E s a₀.toList) {i j:Nat}{Q:Option Bool->SortSt->Prop} (hB:SBase a₀ st) (hi:i<a₀.size) (hj:j<a₀.size) (h:∀ b,Q (some b) st):wpS (model prog w) A E s (ltAt' i j) Q st:=by
 have g:∀ k,k<a₀.size->∃ x,(arrOf st)[k]?=some x/\x∈a₀.toList:=fun k hk=>by
  have hk':k<(arrOf st).size:=by rw[hB.size];exact hk
  exact⟨_,jv hk',hB.perm.toList.mem_iff.mp (Array.getElem_mem_toList hk')⟩
 obtain⟨x,e1,m1⟩:=g i hi;obtain⟨y,e2,m2⟩:=g j hj;rw[ltAt'_eq];exact b8 (wpS_get (b8 (z6 e1 (b8 (z6 e2 (C.run x m1 y m2 st Q hB.kind h))))))
theorem wpS_binarySort (C:Cmp prog w A E s a₀.toList) {n ok:Nat}{Q:Bool->SortSt->Prop} (hn:n<=a₀.size) (hB:SBase a₀ st) (h:∀ st',SBase a₀ st'->Q true st'):wpS (model prog w) A E s (binarySort' 0 n ok) Q st:=by
 rw[binarySort'_eq];simp only[Nat.zero_add];refine b8 (wpS_mono (wpS_forRange (I:=fun _ c st'=>c=(none,())/\SBase a₀ st') (Q:=fun c st'=>c=(none,())/\SBase a₀ st') ?step (fun _ _ h=>h) ⟨rfl,hB⟩) ?post)
 case post =>rintro c st' ⟨rfl,hB'⟩;exact ck (h st' hB')
 case step =>
  rintro k c st' hak hkn ⟨rfl,hB'⟩;refine b8 (wpS_mono (wpS_forRange (I:=fun x c st''=>st''=st'/\∃ l r,c=(none,l,r)/\l<=r/\r<=k) (Q:=fun c st''=>st''=st'/\∃ l r,c=(none,l,r)) ?istep ?ifin ⟨rfl,0,k,rfl,by lia,by lia⟩) ?ipost)
  case ifin =>rintro c st'' ⟨rfl,l,r,rfl,_⟩;exact⟨rfl,l,r,rfl⟩
  case istep =>
   rintro x c st'' _ hxk ⟨rfl,l,r,rfl,hlr,hrk⟩;dsimp only
   by_cases hge:l≥r
   ·rw[ah hge];exact ck ⟨rfl,l,r,rfl⟩
   ·rw[af hge];refine b8 (qT C hB' (by lia) (by lia) fun b=>?_);cases b with
    | true=>exact ck ⟨rfl,l,(l+r)/2,rfl,by lia,by lia⟩
    | false=>exact ck ⟨rfl,(l+r)/2+1,r,rfl,by lia,by lia⟩
  case ipost =>rintro c st'' ⟨rfl,l,r,rfl⟩;show wpS _ _ _ _ (do moveDown' k l;pure (ForInStep.yield (none,()))) _ _;rw[moveDown'_eq];exact b8 (wpS_modify (ck ⟨rfl,hB'.setArr (bubble_perm _ _ _)⟩))
theorem wpS_ascLoop (C:Cmp prog w A E s a₀.toList) {a nrem:Nat}{Q:AscSt->SortSt->Prop} (hn:nrem<=a₀.size) (ha:1<=a) (han:a<=nrem) (hB:SBase a₀ st) (h:∀ n,a<=n->n<=nrem->Q (none,n) st):wpS (model prog w) A E s (ascLoop a nrem) Q st:=by
 unfold ascLoop;refine wpS_forRange (I:=fun x c st'=>st'=st/\c=(none,x)) ?step ?fin ⟨rfl,rfl⟩
 case fin =>rintro c st' ⟨rfl,rfl⟩;rw[show max a nrem=nrem by lia];exact h nrem han (ar _)
 case step =>
  rintro x c st' hax hxn ⟨rfl,rfl⟩;dsimp only;refine b8 (qT C hB (by lia) (by lia) fun b=>?_);cases b with
  | true=>exact ck (h x hax (by lia))
  | false=>exact ck ⟨rfl,rfl⟩
theorem wpS_tail3 (C:Cmp prog w A E s a₀.toList) {n nrem:Nat} (hn:nrem<=a₀.size) (h1:1<=n) (hnn:n<=nrem) (hB:SBase a₀ st) (h:∀ m st',SBase a₀ st'->1<=m->m<=nrem->Q (some m) st'):wpS (model prog w) A E s (tail3 n nrem) Q st:=by unfold tail3;refine b8 (wpS_reverse ?_);have hB':SBase a₀ (setArr st (mirror (arrOf st) 0 n ((n-0)/2))):=hB.setArr (mirror_perm _ _ _ _);exact b8 (wpS_ascLoop C hn h1 hnn hB' fun m hm1 hm2=>ck (h m _ hB' (by lia) hm2))
theorem wpS_descLoop (C:Cmp prog w A E s a₀.toList) {n nrem:Nat}{Q:DescSt->SortSt->Prop} (hn:nrem<=a₀.size) (h1:1<=n) (hnn:n<=nrem) (hB:SBase a₀ st) (h:∀ m neq st',SBase a₀ st'->n<=m->m<=nrem->Q (none,m,neq) st'):wpS (model prog w) A E s (descLoop n nrem) Q st:=by
 unfold descLoop;refine wpS_forRange (I:=fun x c st'=>∃ neq,c=(none,x,neq)/\SBase a₀ st') ?step ?fin ⟨0,rfl,hB⟩
 case fin =>rintro c st' ⟨neq,rfl,hB'⟩;rw[show max n nrem=nrem by lia];exact h nrem neq st' hB' hnn (ar _)
 case step =>
  rintro x c st' hax hxn ⟨neq,rfl,hB'⟩;dsimp only;refine b8 (qT C hB' (by lia) (by lia) fun b=>?_);cases b with
  | true =>
   dsimp only;rw[ah rfl]
   by_cases hneq:neq>0
   ·rw[ah hneq];exact b8 (wpS_reverse (ck ⟨0,rfl,hB'.setArr (mirror_perm _ _ _ _)⟩))
   ·rw[af hneq];exact ck ⟨0,rfl,hB'⟩
  | false =>
   dsimp only;rw[af (by decide)];refine b8 (qT C hB' (by lia) (by lia) fun b=>?_);cases b with
   | true=>exact ck (h x neq st' hB' hax (by lia))
   | false=>exact ck ⟨neq+1,rfl,hB'⟩
theorem wpS_descPart (C:Cmp prog w A E s a₀.toList) {n nrem:Nat} (hn:nrem<=a₀.size) (hnn:n+1<=nrem) (hB:SBase a₀ st) (h:∀ m st',SBase a₀ st'->1<=m->m<=nrem->Q (some m) st'):wpS (model prog w) A E s (descPart n nrem) Q st:=by
 unfold descPart;refine b8 (wpS_lift (wpAny_rule ⟨rfl,?_⟩));refine b8 (wpS_descLoop C hn (by lia) hnn hB fun m neq st' hB' hm1 hm2=>?_);dsimp only
 by_cases hneq:neq>0
 ·rw[ah hneq];exact b8 (wpS_reverse (wpS_tail3 C hn (by lia) hm2 (hB'.setArr (mirror_perm _ _ _ _)) h))
 ·rw[af hneq];exact wpS_tail3 C hn (by lia) hm2 hB' h
theorem wpS_countRun (C:Cmp prog w A E s a₀.toList) {nrem:Nat} (hn:nrem<=a₀.size) (h1:1<=nrem) (hB:SBase a₀ st) (h:∀ m st',SBase a₀ st'->1<=m->m<=nrem->Q (some m) st'):wpS (model prog w) A E s (countRun' 0 nrem) Q st:=by
 rw[countRun0_eq];refine b8 (wpS_ascLoop C hn (ar _) h1 hB fun n hn1 hn2=>?_);dsimp only
 by_cases hnn:n=nrem
 ·rw[ah (by simpa using hnn)];exact ck (h n st hB hn1 hn2)
 rw[af (by simpa using hnn)]
 by_cases hn1':n>1
 ·rw[ah hn1'];refine b8 (qT C hB (by lia) (by lia) fun b=>?_);cases b with
  | true=>exact ck (h n st hB hn1 hn2)
  | false=>exact b8 (wpS_reverse (wpS_descPart C hn (by lia) (hB.setArr (mirror_perm _ _ _ _)) h))
 ·rw[af hn1'];exact wpS_descPart C hn (by lia) hB h
noncomputable def zE (a₀:Array Keyed) (st:SortSt):Prop:=(arrOf st).Perm a₀/\failedOf st=none/\pendingOf st=#[(0,a₀.size,0)]
theorem JH (hB:SBase a₀ st):zE a₀ (setPending st ((pendingOf st).push (0,a₀.size,0))):=⟨hB.perm,hB.failed,by show (pendingOf st).push _=_;rw[hB.pend];rfl⟩
theorem wpS_sortRuns (C:Cmp prog w A E s a₀.toList) {Q:Unit->SortSt->Prop} (hB:SBase a₀ st) (h2:2<=a₀.size) (h64:a₀.size<64) (h:∀ st',(arrOf st').Perm a₀->failedOf st'=none->Q () st'):wpS (model prog w) A E s sortRuns' Q st:=by
 rw[sortRuns'_eq];refine b8 (wpS_get ?_);dsimp only;have hmr:minRun' a₀.size a₀.size 0=a₀.size:=by
  obtain⟨f,hf⟩:∃ f,a₀.size=f+1:=⟨a₀.size-1,by lia⟩;have:minRun' (f+1) a₀.size 0=a₀.size:=by rw[minRun'_succ,ah h64];rfl
  rwa [←hf] at this
 simp only[hB.size,hmr];refine b8 (wpS_mono (wpS_forRange (I:=fun x c st'=>(x=0/\c=(none,0)/\SBase a₀ st')∨(1<=x/\c=(none,a₀.size)/\zE a₀ st'))
  (Q:=fun c st'=>c=(none,a₀.size)/\zE a₀ st') ?step ?fin (.inl ⟨rfl,rfl,hB⟩)) ?post)
 case fin =>
  rintro c st' (⟨hx,_,_⟩ | ⟨_,hc,hD⟩)
  ·lia
  ·exact⟨hc,hD⟩
 case step =>
  rintro x c st' _ hx (⟨rfl,rfl,hB'⟩ | ⟨hx1,rfl,hD⟩)
  ·dsimp only;rw[af (by lia)];simp only[Nat.sub_zero,Nat.min_self,Nat.zero_add];refine b8 (wpS_countRun C (ar _) (by lia) hB' fun m st2 hB2 hm1 hm2=>?_);dsimp only
   by_cases hlt:m<a₀.size
   ·rw[ah hlt];refine b8 (wpS_lift (wpAny_rule ⟨rfl,?_⟩));refine b8 (wpS_binarySort C (ar _) hB2 fun st3 hB3=>?_);simp only[Bool.not_true,iK,eU];refine b8 (wpS_get ?_);rw[show (pendingOf st3).back?=none by rw[hB3.pend];rfl];exact b8 (wpS_modify (ck (.inr ⟨by lia,rfl,JH hB3⟩)))
   ·rw[af hlt];have hm:m=a₀.size:=by lia
    subst hm;refine b8 (wpS_get ?_);rw[show (pendingOf st2).back?=none by rw[hB2.pend];rfl];exact b8 (wpS_modify (ck (.inr ⟨by lia,rfl,JH hB2⟩)))
  ·dsimp only;rw[ah (ar _)];exact ck ⟨rfl,hD⟩
 case post =>
  rintro c st' ⟨rfl,hD⟩;dsimp only;refine b8 (wpS_mono (wpS_forRange (I:=fun _ c st''=>st''=st'/\c=(none,())) (Q:=fun c st''=>st''=st'/\c=(none,())) ?_ (fun _ _ hh=>hh) ⟨rfl,rfl⟩) ?_)
  ·rintro x c st'' _ _ ⟨rfl,rfl⟩;refine b8 (wpS_get ?_);rw[ah (by rw[hD.2.2];exact ar 1)];exact ck ⟨rfl,rfl⟩
  ·rintro c st'' ⟨rfl,rfl⟩;exact ck (h _ hD.1 hD.2.1)
end
end Tim2
namespace Tim2
open PySem PyProof.Rows
section
variable {prog:Zh}{w:Zi}{A:Around}{E:Zq}{s:Zg}{blt:Keyed->Keyed->Bool}
noncomputable abbrev pV (h:Heap) (a:Addr) (vs:Zc):Heap:=((h.update a (Obj.mapSeq fun _=>#[])).push (seqObj "tuple" vs.toArray 0)).push (seqObj "list" #[] 0)
theorem sW {a:Addr}{vs:Zc}{n:Nat}{P:Fin->Zg->Prop} (ho:s.heap.get? a=some (seqObj "list" vs.toArray n))
  (C:Cmp prog w A E { s with heap:=pV s.heap a vs } (pairsOf vs).toList)
  (hkk:2<=vs.length->∀ {Q:SortKind->Zg->Prop},Q oneType' { s with heap:=pV s.heap a vs }->wpAny (model prog w) A (keyKind' vs.toArray) Q E { s with heap:=pV s.heap a vs }) (hlen:vs.length<=sizeLine) (h64:vs.length<64)
  (h:∀ arr:Array Keyed,arr.Perm (pairsOf vs)->P (.done (.ret .none)) { s with heap:=sortedHeap s.heap a vs (arr.map (·.2)) }) :
  wpAny (model prog w) A (Builtin.«list.sort» ⟨[.ref a],[]⟩) P E s:=by
 rw[list_sort_plain];have ha:a<s.heap.objs.size:=aG ho;have hsz:vs.toArray.size=vs.length:=by simp
 refine aa (listItems_at ho rfl ?_);refine aa (listUpdate_at ho rfl ?_ (hsz:=by lia));obtain⟨e1,ho1⟩:∃ e1,(s.heap.update a (Obj.mapSeq fun _=>#[])).get? a=some (seqObj "list" #[] e1):=⟨_,kb ho (fun _=>#[])⟩;refine aa (seqEpoch_at ho1 rfl ?_);refine aa (wpAny_newTuple ?_);refine aa (wpAny_newList ?_);refine cW ?_;have ho6:(pV s.heap a vs).get? a=some (seqObj "list" #[] e1):=by rw[Heap.get?_push_ne _ _ _ (by rw[size_push',Heap.size_update];exact aW (fT ha)),Heap.get?_push_ne _ _ _ (by rw[Heap.size_update];exact aW ha)];exact ho1
 show wpAny (model prog w) A _ P E { s with heap:=pV s.heap a vs };dsimp only
 by_cases h2:vs.toArray.size<2
 ·rw[ah h2,ah h2];refine aa (ak ?_);rw[StateT.run_pure];refine aa (ak ?_);dsimp only;refine aa (seqEpoch_at ho6 rfl ?_);refine aa (listUpdate_at ho6 rfl ?_ (hsz2:=by rw[Array.size_map];show (pairsOf vs).size<=_;rw[pairsOf_size,i5];lia));simp only[bne_self_eq_false,iK,eU];exact ak (h (pairsOf vs) (Array.Perm.refl _))
 ·rw[af h2,af h2];refine aa (hkk (by lia) ?_);refine aa (bM (wpS_sortRuns C (st:=SortSt.mk' oneType' (vs.toArray.zip vs.toArray) #[] 7 none) (Q:=fun _ st'=>(arrOf st').Perm (pairsOf vs)/\failedOf st'=none)
   ⟨.refl _,rfl,rfl,rfl⟩ (by rw[pairsOf_size];lia) (by rw[pairsOf_size];exact h64) fun st' a1 a2=>⟨a1,a2⟩) ?_ fun _ _ e=>e)
  rintro⟨⟨⟩,st'⟩ s' ⟨rfl,hp,hf⟩;dsimp only;refine aa (seqEpoch_at ho6 rfl ?_);refine aa (listUpdate_at ho6 rfl ?_ (hsz2:=by refine aV (lP ((Array.size_map ..).trans (hp.size_eq.trans (pairsOf_size _)))) ?_;lia));rw[hf];simp only[bne_self_eq_false,iK,eU];exact ak (h (arrOf st') hp)
end
end Tim2
namespace Tim2
open PySem PyProof.Rows L2
section
variable {prog:Zh}{w:Zi}{A:Around}{E:Zq}{s:Zg}
theorem Fc {l b:Addr}{items items2:Array Value}{ns ms:Zb}{Q:Zq} (hl:s.heap.IsList l items) (hb:s.heap.IsList b items2) (hi:IntsAre items.toList ns) (hj:IntsAre items2.toList ms)
  (h:Q (.bool (yv ns ms)) s):wpAny (model prog w) A (call (.builtin "list.__lt__") [.ref l,.ref b]) Q E s:=by
 obtain⟨⟨c1,dd,d1,sl⟩,ho,g1,n,g2⟩:=id hl;obtain⟨⟨c2,dd2,d2,sl2⟩,ho2,g3,n2,g4⟩:=id hb;simp only at g1 g2 g3 g4;subst g1 g2 g3 g4;have m:Meets (Builtin.«list.__lt__» ⟨[.ref l,.ref b],[]⟩) (fun _ R s=>s.heap.get? l=some { cls:=.type "list",dict:=dd,data:=.seq items n,slots:=sl }/\s.heap.get? b=some { cls:=.type "list",dict:=dd2,data:=.seq items2 n2,slots:=sl2 } ∧
    R (.ok (.ret (.bool (yv ns ms)))) s):=by
  intro prog w A R s h;obtain⟨hp,g,d,tk,os⟩:=s;obtain⟨hl,hb,h⟩:=h;simp only at hl hb;have f2:=AutoSeq1.sub_list_list;unfold Builtin.«list.__lt__»
  wp_walk using AutoSeq1.wpAny_loadPart' hl,AutoSeq1.wpAny_loadPart' hb
  exact⟨by with_unfolding_all rfl,IM l b items items2 n n2 dd dd2 sl sl2 hl hb _ 0 ns ms rfl hi hj (bj _) (bj _) h⟩
 exact i3 PySem.F.slot_list_lt ⟨_,ho,rfl⟩ PySem.F.entry_list_lt (PySem.F.args_list_lt_2 _ _) m ⟨ho,ho2,h⟩
theorem IT {l b:Addr}{items items2:Array Value}{ns ms:Zb}{Q:Bool->Zg->Prop} (hl:s.heap.IsList l items) (hb:s.heap.IsList b items2) (hi:IntsAre items.toList ns) (hj:IntsAre items2.toList ms) (hu:A.units<cLine)
  (h:Q (yv ns ms) s):wpAny (model prog w) A (oneLt' true (.ref l) (.ref b)) Q E s:=by
 rw[oneLt'_eq];simp only[i4];refine aa (wpAny_cRoomFor hu ?_);obtain⟨o,ho,g1,_⟩:=id hl;refine aa (wpAny_callSpecialIfBound?_slot ⟨o,ho,g1⟩ PySem.F.slot_list_lt (Fc hl hb hi hj ?_));exact fB h
theorem Mm {vs:List Keyed} (hv:∀ x∈vs,∃ (a:Addr) (items:Array Value) (ns:Zb),x.1=.ref a/\s.heap.IsList a items/\IntsAre items.toList ns) (hu:A.units<cLine):Cmp prog w A E s vs where
 run x hx y hy st Q hk h:=by obtain⟨x1,x2⟩:=x;obtain⟨y1,y2⟩:=y;obtain⟨a,items,ns,ex,ha,hn⟩:=hv _ hx;obtain⟨b,items2,ms,ey,hb,hm⟩:=hv _ hy;simp only at ex ey;subst ex ey;rw[lt'_eq];refine b8 (wpS_get ?_);rw[hk,keyLt'_oneType];exact b8 (wpS_lift (jj (IT ha hb hn hm hu ⟨rfl,ck (h _)⟩)))
theorem pk {β:Type}{f:Value->Sem β}{c:β}:∀ (vs:Zc),(∀ v∈vs,∀ {Q:β->Zg->Prop},Q c s->wpAny (model prog w) A (f v) Q E s)->∀ {Q:List β->Zg->Prop},Q (vs.map fun _=>c) s->wpAny (model prog w) A (vs.mapM f) Q E s
 | [],_,Q,h=>by rw[List.mapM_nil];exact ak h
 | v::vs,hf,Q,h=>by rw[List.mapM_cons];refine aa (hf v (aS ..) (aa (pk vs (fun u hu=>hf u (aU _ hu)) (ak h))))
theorem DR {vs:Zc} (hv:∀ v∈vs,s.TypeIs v "list") (h2:2<=vs.length) {Q:SortKind->Zg->Prop} (h:Q oneType' s):wpAny (model prog w) A (keyKind' vs.toArray) Q E s:=by
 rw[keyKind'_eq,List.mapM_toArray];refine aa (wpAny_map (pk (c:=none) vs (fun v hm Q hQ=>?_) ?_))
 ·exact aa (wpAny_typeOf (hv v hm) (ak hQ))
 match vs,h2,hv with
 | v::u::vs,_,hv =>
  rw[af (by simp),af (by simp)];rw[oneTypeOnly'_eq,List.mapM_toArray];refine aa (aa (wpAny_map (pk (c:=.type "list") (v::u::vs) (fun v hm Q hQ=>wpAny_typeOf (hv v hm) hQ) ?_)));have hall:((List.map (fun _=>Value.type "list") (v::u::vs)).toArray.all fun x=>x==Value.type "list")=true:=by simp only[List.all_toArray,fQ,cj];intro _ _;rfl
  have h0:(List.map (fun _=>Value.type "list") (v::u::vs)).toArray[0]?=some (Value.type "list"):=by simp
  rw[h0];dsimp only;rw[hall];exact ak (ak h)
end
end Tim2
namespace Tim2
open PySem PyProof.Rows L2
section
variable {prog:Zh}{w:Zi}{A:Around}{E:Zq}{s:Zg}
theorem uD (vs:Zc):(pairsOf vs).toList=vs.map fun v=>(v,v):=by unfold pairsOf;simp [List.zip_eq_zipWith,List.zipWith_self]
theorem Et {a:Addr}{T:String}{o:Obj}{vs:Zc}{n:Nat}{Q:Zq} (hT:T="list"∨T="tuple") (ho:s.heap.get? a=some o) (hc:o.cls=.type T) (hd:o.data=.seq vs.toArray n)
  (hv:∀ v∈vs,∃ (b:Addr) (items:Array Value) (ns:Zb),v=.ref b/\s.heap.IsList b items/\IntsAre items.toList ns) (hz:vs.length<=sizeLine) (h64:vs.length<64) (hu:A.in1.in1.units<cLine)
  (k:∀ (h1 h':Heap) (out:Array Value) (c:Nat),(∀ b o,s.heap.get? b=some o->h1.get? b=some o)->(∀ b o,h1.get? b=some o->h'.get? b=some o)->h'.get? h1.objs.size=some (seqObj "list" out c)->out.toList.Perm vs->Q (.ref h1.objs.size) { s with heap:=h' }) :
  wpAny (model prog w) A (call (.builtin "sorted") [.ref a]) Q E s:=by
 refine Calls.call_function_entry kind_sorted plain_sorted entry_sorted (args_sorted1 _) ?_;unfold Builtin.«sorted»;refine aa (m:=checkCount "sorted" 1 1 _) (ak (aa (wpAny_collect_seq a hT ho hc hd (fun h1 k1=>?_) (by rw[bF];exact hz))));rw[show vs.toArray.toList=vs from by simp];refine aa (wpAny_newList ?_ hz);have gL:(h1.push (seqObj "list" vs.toArray 0)).get? h1.objs.size=some (seqObj "list" vs.toArray 0):=bt _ rfl;have kp:∀ b o,h1.get? b=some o->(pV (h1.push (seqObj "list" vs.toArray 0)) h1.objs.size vs).get? b=some o:=fun b o z=>by have hb:h1.objs.size≠b:=gm (aG z);exact aD _ (aD _ ((dv _ _ hb).trans (aD _ z)))
 have hv2:∀ v∈vs,∃ (b:Addr) (items:Array Value) (ns:Zb),v=.ref b/\(pV (h1.push (seqObj "list" vs.toArray 0)) h1.objs.size vs).IsList b items/\IntsAre items.toList ns:=fun v hm=>by obtain⟨b,items,ns,rfl,⟨o,e1,e2⟩,hi⟩:=hv v hm;exact⟨b,items,ns,rfl,⟨o,kp _ _ (k1 _ _ e1),e2⟩,hi⟩
 refine aa (cW (fw slot_list_sort ⟨_,gL,rfl⟩ entry_list_sort (sW gL (Mm (fun x hx=>?_) (by exact hu)) (fun h2 Q hQ=>DR (fun v hm=>?_) h2 hQ) hz h64 fun arr a1=>⟨_,rfl,ak ⟨_,rfl,?_⟩⟩) (args_list_sort _)))
 ·rw[uD] at hx;obtain⟨v,hm,rfl⟩:=aM.mp hx;obtain⟨b,items,ns,e,f1,f2⟩:=hv2 v hm;exact⟨b,items,ns,e,f1,f2⟩
 ·obtain⟨b,items,ns,rfl,⟨o,e1,e2,_⟩,_⟩:=hv2 v hm;exact⟨o,e1,e2⟩
 obtain⟨e1,g1⟩:∃ e1,((h1.push (seqObj "list" vs.toArray 0)).update h1.objs.size (Obj.mapSeq fun _=>#[])).get? h1.objs.size=some (seqObj "list" #[] e1):=⟨_,kb gL fun _=>#[]⟩;have g2:((((h1.push (seqObj "list" vs.toArray 0)).update h1.objs.size (Obj.mapSeq fun _=>#[])).push (seqObj "tuple" vs.toArray 0)).push (seqObj "list" #[] 0)).get? h1.objs.size=some (seqObj "list" #[] e1):=aD _ (aD _ g1);have hp:=a1.toList;rw[uD] at hp;have b1:(arr.map (·.2)).toList.Perm vs:=by rw[Array.toList_map];have:=hp.map (·.2);rw[aI,show ((fun x:Keyed=>x.2) ∘ fun v:Value=>(v,v))=id from rfl,List.map_id] at this;exact this
 refine show Q (.ref h1.objs.size) { s with heap:=sortedHeap (h1.push (seqObj "list" vs.toArray 0)) h1.objs.size vs (arr.map fun x=>x.2) } from ?_
 generalize arr.map (fun x=>x.2)=out at b1 ⊢;obtain⟨c3,g3⟩:∃ c3,(sortedHeap (h1.push (seqObj "list" vs.toArray 0)) h1.objs.size vs out).get? h1.objs.size=some (seqObj "list" out c3):=⟨_,kb g2 fun _=>out⟩;refine k h1 _ out c3 k1 (fun b o z=>?_) g3 b1;have hb:h1.objs.size≠b:=gm (aG z);exact (dv _ _ hb).trans (kp b o z)
end
theorem Cm:∀ {l:List Addr}{its:Zc},Vals (l.map V.ref) its->its=l.map Value.ref
 | [],_,r=>by rw[jf] at r;cases r;rfl
 | a::l,_,r=>by
  rw[bf] at r;cases r with
  | cons r1 r2=>cases r1;rw[Cm r2];rfl
theorem of_refs:∀ (l:List Addr),Vals (l.map V.ref) (l.map Value.ref)
 | []=>.nil
 | a::l=>.cons rfl (of_refs l)
theorem GD {α β:Type}{f:α->β}{m m':List β} (h:m.Perm m'):∀ {l:List α},m'=l.map f->∃ ws:List α,ws.Perm l/\m=ws.map f:=by
 induction h with
 | nil=>intro l e;exact⟨[],by rw[List.map_eq_nil_iff.mp e.symm],rfl⟩
 | cons x _ ih =>
  intro l e
  match l,e with
  | a::l,e =>
   rw[bf] at e
   injection e with e1 e2
   obtain⟨ws,q1,q2⟩:=ih e2;exact⟨a::ws,q1.cons _,by rw[q2,e1];rfl⟩
 | swap x y l' =>
  intro l e
  match l,e with
  | a::b::l,e =>
   rw[bf,bf] at e
   injection e with e1 e2
   injection e2 with e2 e3
   exact⟨b::a::l,.swap ..,by rw[e1,e2,e3];rfl⟩
 | trans _ _ ih1 ih2 =>intro l e;obtain⟨ws,q1,q2⟩:=ih2 e;obtain⟨us,q3,q4⟩:=ih1 q2;exact⟨us,q3.trans q1,q4⟩
end Tim2
namespace L2
open PySem PySem.Spec PyProof.Rows Tim2
noncomputable def LH (K:Zf):List V->Hp->VK->Prop:=fun vs H Q=>match vs with
 | [.ref a]=>∃ zs:List (Addr×Zb),SqL K H a (zs.map fun z=>V.ref z.1)/\zs.length<64/\(∀ z∈zs,SqL K H z.1 (z.2.map V.int))/\∀ ws:List (Addr×Zb),ws.Perm zs->nw H (.lst (ws.map fun z=>V.ref z.1)) Q
 | _=>False
theorem zL {X:Cx}{K:Zf} (hK:X.K=K) (hu:X.A.units+2<cLine):dr X (.builtin "sorted") (LH K):=by
 subst hK;intro Yp s σ H xs us Q I r h;rcases xs with _ | ⟨x0,t⟩
 ·exact h.elim
 cases x0<;>try exact h.elim
 cases t<;>try exact h.elim
 next a =>
  obtain⟨zs,h1,h64,h2,h3⟩:=h;obtain⟨u,rfl,r2⟩:=vals1 r;cases r2;obtain⟨its,rv,pl,hz⟩:=I.list h1;obtain⟨o,e1,e2,n,e3⟩:=pl.isList;have ez:(zs.map fun z=>V.ref z.1)=(zs.map (·.1)).map V.ref:=by rw[aI];rfl
  rw[ez] at rv;have hi:its=zs.map fun z=>Value.ref z.1:=by rw[Cm rv,aI];rfl
  subst hi;have hl:∀ z∈zs,∃ items,s.heap.IsList z.1 items/\IntsAre items.toList z.2:=fun z hm=>by obtain⟨jts,rj,pj,_⟩:=I.list (h2 z hm);exact⟨jts.toArray,pj.isList,by rw[show jts.toArray.toList=jts by simp];exact me rj⟩
  rw[ag] at hz;refine Et (.inl rfl) e1 e2 e3 (fun v hm=>?_) (by rw[ag];exact hz) (by rw[ag];exact h64) (by exact hu) fun g1 h' out c k1 k2 hg hp=>?_
  ·obtain⟨z,hzm,rfl⟩:=aM.mp hm;obtain⟨items,q1,q2⟩:=hl z hzm;exact⟨z.1,items,z.2,rfl,q1,q2⟩
  have I1:Inv X Yp σ H { s with heap:=g1 }:=I.kept (t':=s.toks) k1;have hn:=I1.hok.fresh (ar g1.objs.size);obtain⟨ws,p1,p2⟩:=GD hp rfl;have ew:(ws.map fun z=>V.ref z.1)=(ws.map (·.1)).map V.ref:=by rw[aI];rfl
  have eo:out.toList=(ws.map (·.1)).map Value.ref:=by rw[p2,aI];rfl
  refine⟨.ref g1.objs.size,upd H g1.objs.size (.lst (ws.map fun z=>V.ref z.1)),I1.laid (t':=s.toks) (o:=.lst (ws.map fun z=>V.ref z.1)) k2 (ar _) ⟨by rw[ag,p1.length_eq];exact hz,out.toList,c,by rw[ew,eo];exact of_refs _,by rw[Array.toArray_toList];exact hg⟩,rfl,h3 ws p1 _ _ hn (du hn) aE⟩
end L2
namespace L2
open PySem PySem.Spec PyProof.Rows
section
noncomputable def dD (K:Zf) (x:Str) (st:Stmt):Prop:=∃ f fd,Fun K x x st f fd/\PySem.W.nsIn K mainGlobals x=some (some (.ref f))
noncomputable def qf (K:Zf) (C:Addr) (m q:Str) (st:Stmt):Prop:=∃ f fd,Fun K m q st f fd/\PySem.W.findIn K (.ref C) m=some (some (.ref f))/\PySem.W.isFn K (.ref f)=true
section
variable {K:Zf}{x m q:Str}{st:Stmt}{f C:Addr}{oc:Value}{od an:Option Addr}{osl:Array (Option Value)}{kV doc pm cdv ct:Value}
theorem Im (a:PySem.W.nsIn K mainGlobals x=some (some (.ref f))) (l:K.lookup f=some ⟨oc,od,.func (PySem.W.fnOf x x (cY st) (cP st) (ay st) .none kV doc pm an cdv ct),osl⟩) (c:PySem.W.codeIn K cdv x=true) (k:PySem.W.keepIn K (.ref f)=true):dD K x st:=⟨f,_,pb l c k,a⟩
theorem Io (a:PySem.W.findIn K (.ref C) m=some (some (.ref f))) (i:PySem.W.isFn K (.ref f)=true) (l:K.lookup f=some ⟨oc,od,.func (PySem.W.fnOf m q (cY st) (cP st) (ay st) .none kV doc pm an cdv ct),osl⟩) (c:PySem.W.codeIn K cdv q=true) (k:PySem.W.keepIn K (.ref f)=true):qf K C m q st:=⟨f,_,pb l c k,a,i⟩
end
section
variable {P:Zh}{w:Zi}{K:Zf}{h base:Heap}{mg:Zk}{k:Nat}{x m q:Str}{st:Stmt}{C:Addr}{ps:Ze}{sp:Sp}
theorem dD.fnc (X:K.In h) (G:h.Ns mainGlobals mg) (d:dD K x st) (o:∀ f fd,Fun K x x st f fd->bU P w K mg base (CX1 P w) k f fd ps sp)
  (b:∀ (kV doc pm:Value) (an:Option Addr) (cdv ct:Value) (us:Zc),us.length=ps.length->bindArgs (PySem.W.fnOf x x (cY st) (cP st) (ay st) .none kV doc pm an cdv ct) ⟨us,[]⟩=pure (ps.zip us)):Fnc P w K mg base (CX1 P w) k x ps sp:=by
 obtain⟨f,fd,F,a⟩:=d;exact⟨f,fd,o f fd F,cC X G a,F.kp,F.binds b⟩
theorem qf.mtd (c:Cls K C) (d:qf K C m q st) (o:∀ f fd,Fun K m q st f fd->bU P w K mg base (CX1 P w) k f fd ps sp)
  (b:∀ (kV doc pm:Value) (an:Option Addr) (cdv ct:Value) (us:Zc),us.length=ps.length->bindArgs (PySem.W.fnOf m q (cY st) (cP st) (ay st) .none kV doc pm an cdv ct) ⟨us,[]⟩=pure (ps.zip us)):Mtd P w K mg base (CX1 P w) C m k ps sp:=by
 obtain⟨f,fd,F,a,i⟩:=d;exact⟨⟨f,fd,o f fd F,⟨a,i,F.kp⟩,F.binds b⟩,c⟩
end
end
section
noncomputable def GV (K:Zf):List V->Hp->VK->Prop:=fun vs H Q=>match vs with
 | [.ref a]=>∃ zs:Zb,SqL K H a (zs.map V.int)/\zs.length<64/\∀ ws:Zb,ws.Perm zs->ws.Pairwise (·<=·)->nw H (.lst (ws.map V.int)) Q
 | _=>False
theorem D9 {K:Zf}{a:Addr}{H:Hp}{Q:VK}:GV K [.ref a] H Q=(∃ zs:Zb,SqL K H a (zs.map V.int)/\zs.length<64/\∀ ws:Zb,ws.Perm zs->ws.Pairwise (·<=·)->nw H (.lst (ws.map V.int)) Q):=propext Iff.rfl
section
variable {prog:Zh}{w:Zi}{A:Around}{E:Zq}{s:Zg}
theorem Eu {a:Addr}{o:Obj}{vs:Zc}{n:Nat}{zs:Zb}{Q:Zq} (ho:s.heap.get? a=some o) (hc:o.cls=.type "list") (hd:o.data=.seq vs.toArray n) (hS:IntsAre vs zs) (h64:vs.length<64)
  (k:∀ (h1 h':Heap) (out:Array Value) (ws:Zb) (c:Nat),(∀ b o,s.heap.get? b=some o->h1.get? b=some o)->(∀ b o,h1.get? b=some o->h'.get? b=some o)->h'.get? h1.objs.size=some (seqObj "list" out c)->IntsAre out.toList ws->ws.Perm zs->ws.Pairwise (·<=·)->Q (.ref h1.objs.size) { s with heap:=h' }) :
  wpAny (model prog w) A (call (.builtin "sorted") [.ref a]) Q E s:=by
 refine Calls.call_function_entry kind_sorted plain_sorted entry_sorted (args_sorted1 _) ?_;unfold Builtin.«sorted»;have hz:vs.length<=sizeLine:=aQ (bK h64 (by rw[i5];lia));refine aa (m:=checkCount "sorted" 1 1 _) (ak (aa (wpAny_collect_seq a (.inl rfl) ho hc hd (fun h1 k1=>?_) (by rw[bF];exact hz))));rw[show vs.toArray.toList=vs from by simp];refine aa (wpAny_newList ?_ hz);have gL:(h1.push (seqObj "list" vs.toArray 0)).get? h1.objs.size=some (seqObj "list" vs.toArray 0):=bt _ rfl;refine aa (cW (fw slot_list_sort ⟨_,gL,rfl⟩ entry_list_sort (list_sort_tree gL hS h64 fun out ws b1 b2 b3=>⟨_,rfl,ak ⟨_,rfl,?_⟩⟩) (args_list_sort _)));obtain⟨e1,g1⟩:∃ e1,((h1.push (seqObj "list" vs.toArray 0)).update h1.objs.size (Obj.mapSeq fun _=>#[])).get? h1.objs.size=some (seqObj "list" #[] e1):=⟨_,kb gL fun _=>#[]⟩;have g2:((((h1.push (seqObj "list" vs.toArray 0)).update h1.objs.size (Obj.mapSeq fun _=>#[])).push (seqObj "tuple" vs.toArray 0)).push (seqObj "list" #[] 0)).get? h1.objs.size=some (seqObj "list" #[] e1):=aD _ (aD _ g1);refine show Q (.ref h1.objs.size) { s with heap:=sortedHeap (h1.push (seqObj "list" vs.toArray 0)) h1.objs.size vs out } from ?_
 obtain⟨c3,g3⟩:∃ c3,(sortedHeap (h1.push (seqObj "list" vs.toArray 0)) h1.objs.size vs out).get? h1.objs.size=some (seqObj "list" out c3):=⟨_,kb g2 fun _=>out⟩;refine k h1 _ out ws c3 k1 (fun b o z=>?_) g3 b1 b2 b3;have hb:h1.objs.size≠b:=gm (aG z);exact (dv _ _ hb).trans (aD _ (aD _ ((dv _ _ hb).trans (aD _ z))))
end
theorem tU {X:Cx}{K:Zf} (hK:X.K=K):dr X (.builtin "sorted") (GV K):=by
 subst hK;intro Yp s σ H xs us Q I r h;rcases xs with _ | ⟨x0,t⟩
 ·exact h.elim
 cases x0<;>try exact h.elim
 cases t<;>try exact h.elim
 next a =>obtain⟨zs,h1,h2,h3⟩:=h;obtain⟨u,rfl,r2⟩:=vals1 r;cases r2;obtain⟨its,rv,pl,hz⟩:=I.list h1;obtain⟨o,e1,e2,n,e3⟩:=pl.isList;have ln:=rv.length;rw[ag] at ln;refine Eu e1 e2 e3 (me rv) (by lia) fun g1 h' out ws c k1 k2 hg hS hp hs=>?_;have I1:Inv X Yp σ H { s with heap:=g1 }:=I.kept (t':=s.toks) k1;have hn:=I1.hok.fresh (ar g1.objs.size);have lw:=hp.length_eq;refine⟨.ref g1.objs.size,upd H g1.objs.size (.lst (ws.map V.int)),I1.laid (t':=s.toks) (o:=.lst (ws.map V.int)) k2 (ar _) ⟨by rw[ag,lw];exact aQ (bK h2 (by rw[i5];lia)),out.toList,c,sq hS,by rw[Array.toArray_toList];exact hg⟩,rfl,h3 ws hp hs _ _ hn (du hn) aE⟩
end
end L2
namespace Kb
open PySem L2
variable {E:XK}{E':XK}{H:Hp}{H1:Hp}{J:It}{M:Int}{Q:VK}{a:Addr}{al:Za}{b:Int}{c:V}{d:Int}{f:Addr}{fd:FuncData}{i:Nat}{j:Nat}{js:Za}{key:List Key}{ks:List (List Key)}{m:Nat}{ns:Zb}{o:Int}{pcs:List (Nat×Zb)}{ps:Zb}{q:Nat×Za}{r:Int}{te:TE}{vs:List V}{ws:Zb}{x:V}{xs:List V}{zs:List (Za)}{α:Type}{σ:St}
seal L2.PE L2.PA L2.PS L2.PSs L2.PT L2.PW L2.PG L2.PGs L2.PI L2.PO L2.Kn L2.PIf
noncomputable def top (i:Nat):Stmt:=PySem.Challenge.pw_cablehouse_k25_whole_two_faults.main.body.getD i (.Pass ⟨0,0,0,0⟩)
noncomputable abbrev dF:Stmt:=inClass (top 9) 0
noncomputable abbrev df:Stmt:=inClass (top 10) 0
noncomputable abbrev pL:Stmt:=top 12
noncomputable abbrev iC:Stmt:=top 13
noncomputable abbrev pE:Stmt:=top 14
noncomputable abbrev kL:Stmt:=top 17
noncomputable abbrev pH:Stmt:=top 18
noncomputable abbrev kJ:Stmt:=top 19
noncomputable abbrev rZ:Stmt:=top 20
noncomputable abbrev nr:Stmt:=top 21
noncomputable abbrev se:Stmt:=top 22
noncomputable abbrev pD:Stmt:=top 23
noncomputable abbrev rX:Stmt:=top 24
noncomputable abbrev gQ:Stmt:=inClass (top 25) 0
noncomputable abbrev jq:Stmt:=inClass (top 25) 1
noncomputable abbrev jK:Stmt:=inClass (top 25) 2
noncomputable abbrev mY:Stmt:=inClass (top 25) 4
noncomputable abbrev mZ:Stmt:=inClass (top 25) 5
noncomputable abbrev kH:Stmt:=inClass (top 25) 6
noncomputable abbrev jr:Stmt:=inClass (top 25) 7
noncomputable abbrev kK:Stmt:=top 27
noncomputable abbrev rW:Stmt:=top 28
noncomputable abbrev uL:Stmt:=top 29
noncomputable abbrev sd:Stmt:=top 30
noncomputable abbrev nt:Stmt:=top 31
noncomputable abbrev kI:Stmt:=top 34
noncomputable abbrev nc:Stmt:=top 35
noncomputable abbrev rY:Stmt:=top 38
noncomputable abbrev ng:Stmt:=top 39
noncomputable abbrev AW:Stmt:=top 40
noncomputable abbrev jM:Stmt:=top 45
noncomputable abbrev pF:Stmt:=top 46
noncomputable abbrev pR:Stmt:=top 47
noncomputable abbrev pK:Stmt:=top 48
noncomputable abbrev jL:Stmt:=top 49
noncomputable abbrev pG:Stmt:=top 50
noncomputable abbrev nq:Stmt:=top 51
noncomputable abbrev sf:Stmt:=top 52
noncomputable abbrev pQ:Stmt:=top 53
noncomputable abbrev pJ:Stmt:=top 58
noncomputable abbrev gP:Stmt:=inClass (top 59) 0
noncomputable abbrev mX:Stmt:=inClass (top 59) 1
noncomputable abbrev dq:Stmt:=inClass (top 59) 2
noncomputable abbrev kF:Stmt:=inClass (top 59) 3
noncomputable abbrev gY:Stmt:=inClass (top 59) 4
noncomputable abbrev my:Stmt:=inClass (top 59) 6
noncomputable abbrev kM:Stmt:=top 61
noncomputable abbrev nj:Stmt:=top 62
noncomputable abbrev nh:Stmt:=top 63
noncomputable abbrev kS:Stmt:=top 64
noncomputable abbrev iD:Stmt:=top 66
noncomputable abbrev pN:Stmt:=top 67
noncomputable abbrev kN:Stmt:=top 69
noncomputable abbrev pM:Stmt:=top 70
noncomputable abbrev pP:Stmt:=top 71
noncomputable abbrev ni:Stmt:=top 72
noncomputable abbrev m4:Stmt:=top 73
noncomputable abbrev mz:Stmt:=top 74
noncomputable abbrev kO:Stmt:=top 75
noncomputable abbrev kP:Stmt:=top 76
noncomputable abbrev qF:Stmt:=top 77
structure Bl (mg:Zk):Prop where
 list:mg "list"=none
 isinstance:mg "isinstance"=none
 bool:mg "bool"=none
 int:mg "int"=none
 abs:mg "abs"=none
 all:mg "all"=none
 zip:mg "zip"=none
 len:mg "len"=none
 set:mg "set"=none
 str:mg "str"=none
 sum:mg "sum"=none
 range:mg "range"=none
 enumerate:mg "enumerate"=none
 sorted:mg "sorted"=none
 tuple:mg "tuple"=none
 min:mg "min"=none
structure Ads where
 Code:Addr
 Book:Addr
 CableError:Addr
 NoCode:Addr
 NoNumber:Addr
 NoWord:Addr
 NoEntry:Addr
 Twice:Addr
 TooMany:Addr
 NoReading:Addr
 TooGarbled:Addr
 cd:Addr
 tb:Addr
 none:Unit:=()
noncomputable def Ads.Mp (Ad:Ads):List Addr:=[Ad.NoCode,Ad.NoNumber,Ad.NoWord,Ad.NoEntry,Ad.Twice,Ad.TooMany,Ad.NoReading,Ad.TooGarbled]
structure AdF (K:Zf) (mg:Zk) (Ad:Ads):Prop where
 g_Code:mg "Code"=some (.ref Ad.Code)
 g_Book:mg "Book"=some (.ref Ad.Book)
 g_CableError:mg "CableError"=some (.ref Ad.CableError)
 g_NoCode:mg "NoCode"=some (.ref Ad.NoCode)
 g_NoNumber:mg "NoNumber"=some (.ref Ad.NoNumber)
 g_NoWord:mg "NoWord"=some (.ref Ad.NoWord)
 g_NoEntry:mg "NoEntry"=some (.ref Ad.NoEntry)
 g_Twice:mg "Twice"=some (.ref Ad.Twice)
 g_TooMany:mg "TooMany"=some (.ref Ad.TooMany)
 g_NoReading:mg "NoReading"=some (.ref Ad.NoReading)
 g_TooGarbled:mg "TooGarbled"=some (.ref Ad.TooGarbled)
 c_Code:Cls K Ad.Code
 n_Code_letters:gU K Ad.Code "letters"
 n_Code_factors:gU K Ad.Code "factors"
 n_Code_remainder:gU K Ad.Code "remainder"
 c_Book:Cls K Ad.Book
 n_Book_basis:gU K Ad.Book "basis"
 n_Book_by_number:gU K Ad.Book "by_number"
 n_Book_by_entry:gU K Ad.Book "by_entry"
 q_NoCode:PySem.W.excIn K Ad.NoCode [.type "ValueError",.type "Exception",.type "BaseException",.type "object"] "ValueError.__new__"=true
 q_NoNumber:PySem.W.excIn K Ad.NoNumber [.type "ValueError",.type "Exception",.type "BaseException",.type "object"] "ValueError.__new__"=true
 q_NoWord:PySem.W.excIn K Ad.NoWord [.type "ValueError",.type "Exception",.type "BaseException",.type "object"] "ValueError.__new__"=true
 q_NoEntry:PySem.W.excIn K Ad.NoEntry [.type "ValueError",.type "Exception",.type "BaseException",.type "object"] "ValueError.__new__"=true
 q_Twice:PySem.W.excIn K Ad.Twice [.type "ValueError",.type "Exception",.type "BaseException",.type "object"] "ValueError.__new__"=true
 q_TooMany:PySem.W.excIn K Ad.TooMany [.type "ValueError",.type "Exception",.type "BaseException",.type "object"] "ValueError.__new__"=true
 bi:JF K Ad.CableError
 o_NoReading:∃ f,CB K Ad.NoReading f
 s_NoReading:HE K Ad.NoReading "at"
 f_NoReading:PySem.W.findIn K (.ref Ad.NoReading) "at"=some none
 o_TooGarbled:∃ f,CB K Ad.TooGarbled f
 s_TooGarbled:HE K Ad.TooGarbled "places"
 f_TooGarbled:PySem.W.findIn K (.ref Ad.TooGarbled) "places"=some none
 x_NoReading:PySem.W.exmOne K (.ref Ad.NoReading) (.ref Ad.NoReading)=some true
 x_TooGarbled:PySem.W.exmOne K (.ref Ad.TooGarbled) (.ref Ad.TooGarbled)=some true
 t_tab:PySem.W.codeHdIn K Ad.cd Ad.tb=true
 err:wI K Ad.CableError Ad.Mp=true
 nd:ndB Ad.Mp=true
 v_SMALL_LETTERS:∃ u,mg "SMALL_LETTERS"=some u/\RelV (.str "abcdefghijklmnopqrstuvwxyz") u
 v_LONGEST_WORD:∃ u,mg "LONGEST_WORD"=some u/\RelV (.int 20) u
 v_MOST_WORDS:∃ u,mg "MOST_WORDS"=some u/\RelV (.int 60) u
 v_FEWEST_CAME:∃ u,mg "FEWEST_CAME"=some u/\RelV (.int 2) u
 v_MOST_CAME:∃ u,mg "MOST_CAME"=some u/\RelV (.int 1400) u
 v_MOST_DOUBTFUL:∃ u,mg "MOST_DOUBTFUL"=some u/\RelV (.int 2) u
 v_MOST_ENTRIES:∃ u,mg "MOST_ENTRIES"=some u/\RelV (.int 300) u
 v_MOST_PHRASE_WORDS:∃ u,mg "MOST_PHRASE_WORDS"=some u/\RelV (.int 6) u
 v_MOST_PART_LETTERS:∃ u,mg "MOST_PART_LETTERS"=some u/\RelV (.int 6) u
section
variable {P:Zh}{w:Zi}{K:Zf}{mg:Zk}{base:Heap}{Ad:Ads}
theorem bA {p q:Prop} (a:p) (b:q):p/\q:=⟨a,b⟩
noncomputable def zzV:=bA @Kr<|bA @Ic<|bA @HX<|bA @HW<|bA @EO<|bA @K0<|bA @EJ<|bA @HQ<|bA @Kq<|bA @EK<|bA @K2<|bA @Nm<|bA @Mf<|bA @Mi<|bA @Mb<|bA @HJ<|bA @Kv<|bA @HI<|bA @Kz<|bA @Md<|bA @HY<|bA @HN<|bA @Ie<|bA @Nl<|bA @Kw<|bA @Kp<|bA @Mg<|bA @HH<|bA @Kx<|bA @HZ<|bA @Kt<|bA @Ku<|bA @K1<|bA @HL<|bA @Me<|bA @Mh<|bA @CF<|bA @Ia<|bA @HS<|bA @EM<|bA @EN<|bA @HU<|bA @Ks<|bA @Ky<|bA @HR<|bA @Ma<|bA @EG<|bA @JI<|bA @Fs<|bA @Ft<|bA @Iv<|bA @Iw<|bA @Iy<|bA @KC<|bA @Iz<|bA @EL<|bA @HK<|bA @EH<|bA @EI<|bA @HM<|bA @Hj<|bA @zS<|bA @zT<|bA @zU<|bA @Ai<|bA @Ae<|bA @yi<|bA @Ab<|bA @Af<|bA @zV<|bA @Dt<|bA @Dq<|bA @Dr<|bA @Ds<|bA @Dw<|bA @Dx<|bA @Dy<|bA @Du<|bA @Dv<|bA @zY<|bA @zZ<|bA @zR<|bA @Aa<|bA @yk<|bA @Ag<|bA @zW<|bA @Dz<|bA @D3<|bA @wK<|bA @wJ<|bA @yj<|bA @ym<|bA @Ac<|bA @Ah<|bA @zX<|bA @zP<|bA @zQ<|bA @HV<|bA @EF<|bA @Fp<|bA @CH<|bA @Mc<|bA @LZ<|bA @Ib<|bA @HP<|bA @Ih<|bA @Ig<|bA @ER<|bA @CC<|bA @Fq<|bA @D7<|@D9
local macro_rules | `(tactic| symm) => `(tactic| try simp only [zzV, GK, GS, AR, MD, Ends.un, mL, nw, El, isV, fj, lG, Tg.sub, Tg.name, rU, GL, Option.join_some, Int.toNat_natCast, List.getElem?_cons_zero, List.getElem?_cons_succ, List.set_cons_zero, List.set_cons_succ, List.map_cons, List.map_nil, List.cons_append, List.nil_append, List.length_cons, List.length_nil, List.replicate_succ, List.replicate_zero, Nat.reduceAdd, Nat.reduceSub, Nat.zero_add, bne_self_eq_false, Bool.true_bne, Bool.false_bne, Bool.not_true, Bool.not_false, if_true, if_false, Bool.false_eq_true, Bool.true_eq_false, reduceIte])
local macro_rules | `(tactic| ac_nf) => `(tactic| (symm; repeat (simp only [dR]; symm)))
local macro_rules | `(tactic| bv_omega) => `(tactic| try simp only [JI, Fs, Ft, Bool.not_false, Bool.not_true, if_true, if_false, Bool.false_eq_true, Bool.true_eq_false, true_and, and_true])
set_option hygiene false in
local macro_rules | `(tactic| bv_decide) => `(tactic| (intro vs H Q E h; first | (cases h; subst_vars; rfl) | repeat (first | (obtain ⟨rfl, _⟩ := h; rfl) | obtain ⟨_, h⟩ := h)))
set_option hygiene false in
local macro_rules | `(tactic| cbv) => `(tactic| (rw [hN]; clear hN nn))
set_option hygiene false in
local macro_rules | `(tactic| grind) => `(tactic| (refine gH fun nn hN => ?_; symm))
set_option hygiene false in
local macro_rules | `(tactic| right) => `(tactic| (intro cdv A outer s H vs Q E hr h; have hu := hr.nH; have hu1 := ug hr))
local macro_rules | `(tactic| subst_eqs) => `(tactic| exact ⟨rfl, rfl, rfl, by nofun, rfl, by nofun, by nofun⟩)
structure CoB (al:Za) (ws:Zb) (r:Int):Prop where
 a3:3<=al.length
 a26:al.length<=26
 nd:al.Nodup
 abc:∀ c∈al,97<=c/\c<123
 w3:3<=ws.length
 w8:ws.length<=8
 wm:∀ x∈ws,0<=x/\x<(al.length:Int)
 safe:Mk.safe al.length ws=true
 rm:0<=r/\r<(al.length:Int)
structure bN (al:Za) (ws:Zb) (r:Int):Prop extends CoB al ws r where
 sm:al.length<=9/\ws.length<=6
theorem bN.sml {al:Za}{ws:Zb}{r:Int} (h:bN al ws r):Mk.sml ws:=by intro x hx;have:=h.wm x hx;have:=h.a26;lia
noncomputable def sr (al:Za) (q:Addr) (r:Int):List (Str×V):=[("letters",.str (tx al)),("factors",.ref q),("remainder",.int r)]
theorem eh (al:Za) (q:Addr) (r:Int):(sr al q r).lookup ("letters":Str)=some (V.str (tx al)):=rfl
theorem gb (al:Za) (q:Addr) (r:Int):(sr al q r).lookup ("factors":Str)=some (V.ref q):=rfl
theorem mG (al:Za) (q:Addr) (r:Int):(sr al q r).lookup ("remainder":Str)=some (V.int r):=rfl
theorem cq {m:Str} (h1:m≠("letters":Str)) (h2:m≠("factors":Str)) (h3:m≠("remainder":Str)) (al:Za) (q:Addr) (r:Int):(sr al q r).lookup m=none:=by unfold sr;rw[fS,fS,fS,lS h1,lS h2,lS h3];rfl
noncomputable def cI (Ad:Ads) (H:Hp) (a:Addr) (al:Za) (ws:Zb) (r:Int):Prop:=∃ dx q,H a=some (.ins Ad.Code dx (sr al q r))/\H q=some (.lst (ws.map V.int))
theorem cI.same {Ad:Ads}{H H':Hp} (h:cI Ad H a al ws r) (s:az H H'):cI Ad H' a al ws r:=by obtain⟨dx,q,h1,h2⟩:=h;exact⟨dx,q,s _ _ h1,s _ _ h2⟩
noncomputable def Parts (H:Hp) (p:Addr) (q:Addr) (al:Za) (ws:Zb) (r:Int):Prop:=H p=some (.lst [.str (tx al),.ref q,.int r])/\H q=some (.lst (ws.map V.int))
noncomputable def tX (H:Hp) (xa xw xr:V) (al:Za) (p:Addr) (ws:Zb) (r:Int):Prop:=xa=.str (tx al)/\xw=.ref p/\H p=some (.lst (ws.map V.int))/\xr=.int r/\CoB al ws r
noncomputable def Ik (H:Hp) (xa xw xr:V):Prop:=∀ al p ws r,¬ tX H xa xw xr al p ws r
theorem iP {α β:Type}{F:α->β->Prop}:∀ {a:List α}{b:List β}{c:List α}{d:List β},Paired F a b->Paired F c d->Paired F (a++c) (b++d)
 | _,_,_,_,.nil,h=>h
 | _,_,_,_,.cons r t,h=>.cons r (iP t h)
theorem ku {α β:Type}{F G:α->β->Prop} (f:∀ x y,F x y->G x y):∀ {a:List α}{b:List β},Paired F a b->Paired G a b
 | _,_,.nil=>.nil
 | _,_,.cons r t=>.cons (f _ _ r) (ku f t)
noncomputable def dH (n:Nat) (l:Za):Bool:=decide (1<=l.length)&&decide (l.length<=n)&&l.all fun c=>decide (97<=c/\c<123)
noncomputable def iF (n:Nat):V->Bool
 | .str z=>dH n z.cps.toList
 | _=>false
noncomputable def fE (n:Nat) (l:Za):Bool:=decide ((Mk.bw 32 l).length<=n)&&(Mk.bw 32 l).all (dH 20)
noncomputable def jx (n:Nat):V->Bool
 | .str z=>fE n z.cps.toList
 | _=>false
noncomputable def mf:List V->Bool
 | [.str z]=>decide (z=("end":Str))
 | [.str z,y]=>if z=("phrase":Str) then jx 6 y else if z=("part":Str) then iF 6 y else false
 | _=>false
noncomputable def wQ (H:Hp):V->Bool
 | .ref p=>match H p with
  | some (.tup xs)=>mf xs
  | _=>false
 | _=>false
theorem CI {n:Nat}{l:Za} (h1:1<=l.length) (h2:l.length<=n) (h3:∀ c∈l,97<=c/\c<123):dH n l=true:=by unfold dH;rw[aw h1,aw h2,dj,dj,cj];exact fun c hc=>aw (h3 c hc)
theorem CJ {n:Nat}{ws:List (Za)} (h1:1<=ws.length) (h2:ws.length<=n) (h3:∀ w∈ws,1<=w.length/\w.length<=20/\∀ c∈w,97<=c/\c<123):fE n (Mk.dM 32 ws)=true:=by unfold fE;rw[Mk.nE ws (fun e=>by rw[e] at h1;simp at h1) fun w hw hc=>by have:=(h3 w hw).2.2 32 hc;lia,aw h2,dj,cj];exact fun w hw=>CI (h3 w hw).1 (h3 w hw).2.1 (h3 w hw).2.2
theorem FL {n:Nat}{ws:List (Za)} (h2:ws.length<=n) (h3:∀ w∈ws,w.length<=20):(Mk.dM 32 ws).length<=21*n/\(ws.map fun w=>w.length+1).sum<=21*n:=by
 have h:=Mk.rG (c:=32) ws;have:(ws.map fun w=>w.length+1).sum<=21*ws.length:=by
  clear h2 h
  induction ws with
  | nil=>simp
  | cons w r ih =>have h1:=ih fun x hx=>h3 x (aU _ hx);have h2:=h3 w aS;simp only[bf,jh,aZ];lia
 lia
theorem wR {l:Za} (h:fE 6 l=true):mf [.str ("phrase":Str),.str (tx l)]=true:=by show (if ("phrase":Str)=("phrase":Str) then fE 6 (tx l).cps.toList else if ("phrase":Str)=("part":Str) then dH 6 (tx l).cps.toList else false)=true;rw[ah rfl,bG];exact h
noncomputable def vk:Str:="Book.put.<locals>.<lambda>"
structure Ben where
 num:Int
 key:List Key
 adr:Addr
noncomputable def tQ (ca dn de:Addr):List (Str×V):=[("basis",.ref ca),("by_number",.ref dn),("by_entry",.ref de)]
theorem kj (p q r:Addr):(tQ p q r).lookup ("basis":Str)=some (V.ref p):=rfl
theorem kZ (p q r:Addr):(tQ p q r).lookup ("by_number":Str)=some (V.ref q):=rfl
theorem vC (p q r:Addr):(tQ p q r).lookup ("by_entry":Str)=some (V.ref r):=rfl
theorem dJ {m:Str} (h1:m≠("basis":Str)) (h2:m≠("by_number":Str)) (h3:m≠("by_entry":Str)) (p q r:Addr):(tQ p q r).lookup m=none:=by unfold tQ;rw[fS,fS,fS,lS h1,lS h2,lS h3];rfl
noncomputable def i7 (es:List Ben):List (Key×V):=(es.map fun e=>(e.num,V.ref e.adr)).map fun q=>(.inl q.1,q.2)
noncomputable def rC (es:List Ben):List (List Key×V):=es.map fun e=>(e.key,V.int e.num)
structure eK (Ad:Ads) (H:Hp) (b ca dn de:Addr) (es:List Ben):Prop where
 bk:∃ dx,H b=some (.ins Ad.Book dx (tQ ca dn de))
 hn:H dn=some (.dK (i7 es))
 he:H de=some (.dT (rC es))
 en:∀ e∈es,H e.adr=some (.tup (e.key.map kV))
 nn:(es.map (·.num)).Nodup
 nk:(es.map (·.key)).Nodup
theorem eK.same {Ad:Ads}{H H':Hp}{b ca dn de:Addr}{es:List Ben} (h:eK Ad H b ca dn de es) (s:az H H'):eK Ad H' b ca dn de es:=by obtain⟨⟨dx,h1⟩,h2,h3,h4,h5,h6⟩:=h;exact⟨⟨dx,s _ _ h1⟩,s _ _ h2,s _ _ h3,fun e he=>s _ _ (h4 e he),h5,h6⟩
theorem C6 {α κ:Type} [DecidableEq κ] {f:α->κ}{g:α->V}:∀ {es:List α}{e:α},(es.map f).Nodup->e∈es->kW (es.map fun x=>(f x,g x)) (f e)=some (g e)
 | x::r,e,hn,he=>by
  obtain⟨h1,h2⟩:=eS.mp hn;unfold kW;rw[bf,iZ]
  by_cases h:f x=f e
  ·rw[aw h];rcases aP.mp he with rfl | he
   ·rfl
   ·exact absurd (iw (f:=f) he) (by rw[←h];exact h1)
  ·rw[av h];rcases aP.mp he with rfl | he
   ·exact absurd rfl h
   ·exact C6 h2 he
theorem Bq {α κ:Type} [DecidableEq κ] {f:α->κ}{g:α->V}{k:κ}:∀ {es:List α},k∉es.map f->kW (es.map fun x=>(f x,g x)) k=none
 | [],_=>rfl
 | x::r,h=>by rw[bf,aP,not_or] at h;unfold kW;rw[bf,iZ,av (show ¬ f x=k from fun e=>h.1 e.symm)];exact Bq h.2
theorem tJ (es:List Ben):i7 es=es.map fun e=>(.inl e.num,V.ref e.adr):=by unfold i7;rw[aI];rfl
theorem KI {es:List Ben} (h:(es.map (·.num)).Nodup):(es.map fun e=>(.inl e.num:Key)).Nodup:=by
 have e:(es.map fun e=>(.inl e.num:Key))=(es.map (·.num)).map Sum.inl:=by rw[aI];rfl
 rw[e];exact List.Pairwise.map _ (fun a b (h:a≠b) z=>h (Sum.inl.inj z)) h
theorem qw {es:List Ben}{e:Ben} (hn:(es.map (·.num)).Nodup) (he:e∈es):kW (i7 es) (.inl e.num)=some (.ref e.adr):=by rw[tJ];exact C6 (f:=fun e:Ben=>(.inl e.num:Key)) (KI hn) he
theorem uu {es:List Ben}{k:Int} (h:k∉es.map (·.num)):kW (i7 es) (.inl k)=none:=by rw[tJ];refine Bq (f:=fun e:Ben=>(.inl e.num:Key)) fun m=>h ?_;obtain⟨e,he,ee⟩:=aM.mp m;exact aM.mpr ⟨e,he,Sum.inl.inj ee⟩
theorem Gg {es:List Ben}{k:Int} (hn:(es.map (·.num)).Nodup):(kW (i7 es) (.inl k)).isSome=decide (k∈es.map (·.num)):=by
 by_cases h:k∈es.map (·.num)
 ·obtain⟨e,he,rfl⟩:=aM.mp h;rw[qw hn he,aw h];rfl
 ·rw[uu h,av h];rfl
theorem Fj {es:List Ben}{k:List Key} (h:k∉es.map (·.key)):kW (rC es) k=none:=Bq (f:=fun e:Ben=>e.key) h
theorem xy {κ:Type} [DecidableEq κ] {kvs:List (κ×V)}{k:κ}{v:V} (h:kW kvs k=none):putK kvs k v=kvs++[(k,v)]:=by unfold putK;rw[vb,h];rfl
theorem vY (es:List Ben) (e:Ben):i7 (es++[e])=i7 es++[(.inl e.num,.ref e.adr)]:=by unfold i7;simp
theorem Dn (es:List Ben) (e:Ben):rC (es++[e])=rC es++[(e.key,.int e.num)]:=by unfold rC;simp
theorem lD (es:List Ben):(i7 es).length=es.length:=by unfold i7;simp
noncomputable def zC (ns:Zb) (n:Int):Prop:=0<=n/\n∉ns/\∀ m,0<=m->m<n->m∈ns
structure jm (key:List Key):Prop where
 is:mf (key.map kV)=true
 few:key.length<=2
 short:∀ z,V.str z∈key.map kV->z.length<=10000
noncomputable def bX (al:Za) (ws:Zb):Int:=(al.length:Int)^(ws.length-1)
theorem Iq {t:Addr} (ht:H t=some (.tup (key.map kV))) (ok:jm key):wQ H (.ref t)=true:=by show (match H t with | some (.tup xs)=>mf xs | _=>false)=true;rw[ht];exact ok.is
theorem KQ (H:Hp) (z:Key):∃ t,fj H (kV z)=some t:=by
 cases z with
 | inl i=>exact⟨.int,rfl⟩
 | inr s=>exact⟨.str,rfl⟩
noncomputable def Nh (H:Hp) (v:V) (ns:Zb):Prop:=∃ b,v=.ref b/\H b=some (.lst (ns.map V.int))
noncomputable def iL (H:Hp) (vs:List V) (nss:List (Zb)):Prop:=Paired (Nh H) vs nss
theorem iL.keep {H H':Hp}{nss:List (Zb)} (h:iL H vs nss) (s:∀ b (ns:Zb),H b=some (.lst (ns.map V.int))->H' b=some (.lst (ns.map V.int))):iL H' vs nss:=ku (fun _ _ ⟨b,e,hb⟩=>⟨b,e,s _ _ hb⟩) h
theorem iL.vQ {H H':Hp}{D:Addr}:∀ {vs:List V}{nss:List (Zb)},iL H vs nss->(∀ v∈vs,v≠V.ref D)->(∀ b o,b≠D->H b=some o->H' b=some o)->iL H' vs nss
 | _,_,.nil,_,_=>.nil
 | _,_,.cons ⟨b,e,hb⟩ t,h,s=>.cons ⟨b,e,s b _ (fun z=>h _ aS (by rw[e,z])) hb⟩ (iL.vQ t (fun v hv=>h v (aU _ hv)) s)
theorem yp {α β:Type}{f:α->List β}{m:Nat}:∀ {l:List α},(∀ x∈l,(f x).length<=m)->(l.flatMap f).length<=l.length*m
 | [],_=>bj _
 | x::r,h=>by rw[nS,aB,aZ,Nat.add_mul,Nat.one_mul];have:=h x aS;have:=yp (f:=f) (m:=m) (l:=r) fun y hy=>h y (aU _ hy);lia
theorem lZ {k:Nat}:mQ xs none (some (k:Int))=xs.take k:=by
 unfold mQ;rw[HT.oM];show (xs.drop 0).take (min k xs.length-0)=xs.take k;rw[List.drop_zero,Nat.sub_zero]
 by_cases h:k<=xs.length
 ·rw[iz h]
 ·rw[Nat.min_eq_right (by lia),oa,fq (by lia)]
noncomputable def putN (ns:Zb) (at_:Nat) (c:Int):Zb:=ns.take at_++[c]++ns.drop (at_+1)
theorem iQ {g:Nat}{c:Int} (h:g<ns.length):putN ns g c=ns.set g c:=by unfold putN;rw[List.set_eq_take_append_cons_drop,ah h,dN];rfl
theorem mm {α β:Type}{F:α->β->Prop}:∀ {l₁:List α}{l₂:List β},Paired F l₁ l₂->l₁.length=l₂.length
 | _,_,.nil=>rfl
 | _,_,.cons _ r=>by rw[aZ,aZ,mm r]
theorem Dk (xs:List V):mQ xs none (some (-1))=xs.dropLast:=by rw[zO,List.dropLast_eq_take]
theorem Nc (z:Str):∃ l,z=tx l:=⟨z.cps.toList,by cases z;simp [tx]⟩
noncomputable def exI (m:Nat) (ps:Zb) (i:Nat):List (Zb):=((Mk.ofN m).filter fun o=>!decide (o=ps.getD i 0)).map fun o=>putN ps i o
noncomputable def vj (m:Nat) (ps:Zb):List (Zb):=(List.range ps.length).flatMap (exI m ps)
noncomputable def J8 (ps:Zb) (i:Nat):Zb:=ps.take i++[ps.getD (i+1) 0,ps.getD i 0]++ps.drop (i+2)
noncomputable def zv (ps:Zb):List (Zb):=((List.range (ps.length-1)).filter fun i=>!decide (ps.getD i 0=ps.getD (i+1) 0)).map (J8 ps)
noncomputable def kg (m:Nat) (ps:Zb):List (Zb):=vj m ps++zv ps
theorem Gi (j:Nat):Mk.ofN (j+1)=Mk.ofN j++[(j:Int)]:=by unfold Mk.ofN;rw[lO,bu];rfl
theorem getD_some (h:i<ps.length):ps[i]?=some (ps.getD i 0):=by rw[bz,aO h];rfl
theorem getD_in (h:i<ps.length):ps.getD i 0∈ps:=bQ (getD_some h)
theorem qR (h:i+1<ps.length):J8 ps i=(ps.set i (ps.getD (i+1) 0)).set (i+1) (ps.getD i 0):=by
 unfold J8;refine ij fun k=>?_;rw[List.getElem?_set,List.getElem?_set,eQ];rcases Nat.lt_trichotomy k i with hk | hk | hk
 ·rw[dN,ja (by rw[bI];lia),lK,ah hk,af (by lia),af (by lia)]
 ·subst hk;rw[dN,ik (by rw[bI];lia),bI,iz (by lia),Nat.sub_self,af (by lia),ah rfl,ah (by lia)];rfl
 ·rcases Nat.lt_or_ge (i+1) k with hk2 | hk2
  ·rw[ik (by rw[aB,bI];show min i _+2<=k;lia),aB,bI,iz (by lia),jb,af (by lia),af (by lia)]
   congr 1
   show i+2+(k-(i+2))=k;lia
  ·have e:k=i+1:=by lia
   subst e;rw[dN,ik (by rw[bI];lia),bI,iz (by lia),ah rfl,ah h,show i+1-i=1 by lia];rfl
theorem oE {ps q:Zb}:q∈exI m ps i↔∃ o:Int,0<=o/\o<m/\o≠ps.getD i 0/\q=putN ps i o:=by
 unfold exI;rw[aM];constructor
 ·rintro⟨o,ho,rfl⟩;obtain⟨h1,h2⟩:=cA.mp ho;have:=Mk.fG.mp h1;exact⟨o,this.1,this.2,by simpa using h2,rfl⟩
 ·rintro⟨o,h0,h1,h2,rfl⟩;exact⟨o,cA.mpr ⟨Mk.fG.mpr ⟨h0,h1⟩,by simpa using h2⟩,rfl⟩
theorem lx {ps q:Zb}:q∈vj m ps↔∃ i o,i<ps.length/\0<=o/\o<(m:Int)/\o≠ps.getD i 0/\q=ps.set i o:=by
 unfold vj;rw[List.mem_flatMap];constructor
 ·rintro⟨i,hi,hq⟩;obtain⟨o,h0,h1,h2,rfl⟩:=oE.mp hq;exact⟨i,o,cg.mp hi,h0,h1,h2,iQ (cg.mp hi)⟩
 ·rintro⟨i,o,hi,h0,h1,h2,rfl⟩;exact⟨i,cg.mpr hi,oE.mpr ⟨o,h0,h1,h2,(iQ hi).symm⟩⟩
theorem ly {ps q:Zb}:q∈zv ps↔∃ i,i+1<ps.length/\ps.getD i 0≠ps.getD (i+1) 0/\q=(ps.set i (ps.getD (i+1) 0)).set (i+1) (ps.getD i 0):=by
 unfold zv;rw[aM];constructor
 ·rintro⟨i,hi,rfl⟩;obtain⟨h1,h2⟩:=cA.mp hi;have:=cg.mp h1;exact⟨i,by lia,by simpa using h2,qR (by lia)⟩
 ·rintro⟨i,hi,h2,rfl⟩;exact⟨i,cA.mpr ⟨cg.mpr (by lia),by simpa using h2⟩,qR hi⟩
theorem uS (h:i<ps.length):(ps.set i o).getD i 0=o:=by rw[bz,jX h];rfl
theorem oN {i j:Nat} (h:i≠j):(ps.set i o).getD j 0=ps.getD j 0:=by rw[bz,jc h,←bz]
theorem nF (h:i+1<ps.length) (j:Nat):((ps.set i (ps.getD (i+1) 0)).set (i+1) (ps.getD i 0)).getD j 0=if j=i then ps.getD (i+1) 0 else if j=i+1 then ps.getD i 0 else ps.getD j 0:=by
 by_cases h1:j=i
 ·subst h1;rw[ah rfl,oN (by lia),uS (by lia)]
 ·rw[af h1]
  by_cases h2:j=i+1
  ·subst h2;rw[ah rfl,uS (by rw[eQ];exact h)]
  ·rw[af h2,oN (bD h2),oN (bD h1)]
theorem vL :(kg m ps).Nodup:=by
 unfold kg;refine List.nodup_append.mpr ⟨?_,?_,?_⟩
 ·unfold vj List.Nodup;rw[List.pairwise_flatMap];refine⟨fun i hi=>?_,jW (fun {i j} hi hj hij x hx y hy e=>?_) (nY (n:=ps.length))⟩
  ·have hi':=cg.mp hi;unfold exI;refine fk.mpr (nJ (R:=(·≠·)) (S:=fun a b=>putN ps i a≠putN ps i b) (fun {a b} hab e=>hab ?_) (jV _ (Mk.rN m)));rw[iQ hi',iQ hi'] at e;have:=bJ (fun l:Zb=>l.getD i 0) e;simp only[uS hi'] at this;exact this
  ·have hi':=cg.mp hi;have hj':=cg.mp hj;obtain⟨o,_,_,h2,rfl⟩:=oE.mp hx;obtain⟨o',_,_,h3,rfl⟩:=oE.mp hy;rw[iQ hi',iQ hj'] at e;have:=bJ (fun l:Zb=>l.getD i 0) e;simp only[uS hi'] at this;rw[oN (by lia)] at this;exact h2 this
 ·unfold zv;refine fk.mpr (jW (R:=(·<·)) (fun {i j} hi hj hij e=>?_) (jV _ nY));obtain⟨h1,h2⟩:=cA.mp hi;obtain⟨h3,h4⟩:=cA.mp hj;have h1':=cg.mp h1;have h3':=cg.mp h3;rw[qR (by lia),qR (by lia)] at e;have:=bJ (fun l:Zb=>l.getD i 0) e;simp only[nF (show i+1<ps.length by lia),nF (show j+1<ps.length by lia)] at this;rw[ah trivial,af (by lia),af (by lia)] at this;rw[this] at h2;simp at h2
 ·intro a ha b hb e;subst e;obtain⟨i,o,hi,_,_,h2,rfl⟩:=lx.mp ha;obtain⟨j,hj,h3,e⟩:=ly.mp hb
  by_cases hij:i=j
  ·have:=bJ (fun l:Zb=>l.getD (j+1) 0) e;simp only[nF hj] at this;rw[af (by lia),ah trivial,oN (by lia)] at this;exact h3 this.symm
  ·have:=bJ (fun l:Zb=>l.getD j 0) e;simp only[nF hj] at this;rw[ah trivial,oN hij] at this;exact h3 this
theorem mS (hm:∀ x∈ps,0<=x/\x<(m:Int)):∀ q∈kg m ps,q.length=ps.length/\∀ x∈q,0<=x/\x<(m:Int):=by
 intro q hq;rcases bE.mp hq with hq | hq
 ·obtain⟨i,o,hi,h0,h1,_,rfl⟩:=lx.mp hq;exact⟨eQ,Mk.uT hm ⟨h0,h1⟩⟩
 ·obtain⟨i,hi,_,rfl⟩:=ly.mp hq;exact⟨by rw[eQ,eQ],Mk.uT (Mk.uT hm (hm _ (getD_in hi))) (hm _ (getD_in (by lia)))⟩
theorem Lh:∀ {l:Zb}{x:Int},l.Nodup->x∈l->(l.filter fun o=>!decide (o=x)).length=l.length-1:=by
 intro l x hn hx;have h1:=List.length_eq_countP_add_countP (fun o:Int=>decide (o=x)) (l:=l);have h2:l.countP (fun o:Int=>decide (o=x))=1:=by
  have:=hn.count (a:=x);rw[ah hx] at this;rw[←this];show _=List.countP (·==x) l
  congr 1
 rw[h2] at h1;rw[←List.countP_eq_length_filter];have e:l.countP (fun o=>decide ¬ decide (o=x)=true)=l.countP (fun o=>!decide (o=x)):=by congr 1;funext o;simp
 rw[e] at h1;lia
theorem BJ {α β:Type}{f:α->List β}{m:Nat}:∀ {l:List α},(∀ x∈l,(f x).length=m)->(l.flatMap f).length=l.length*m
 | [],_=>by simp
 | x::r,h=>by rw[nS,aB,aZ,Nat.add_mul,Nat.one_mul,h x aS,BJ (f:=f) (m:=m) (l:=r) fun y hy=>h y (aU _ hy)];lia
theorem Iu (hm:∀ x∈ps,0<=x/\x<(m:Int)) (hi:i<ps.length):(exI m ps i).length=m-1:=by unfold exI;rw[ag,Lh (Mk.rN m) (Mk.fG.mpr (hm _ (getD_in hi))),Mk.oF]
theorem uc (hm:∀ x∈ps,0<=x/\x<(m:Int)):(vj m ps).length=ps.length*(m-1):=by unfold vj;rw[BJ (m:=m-1) fun i hi=>Iu hm (cg.mp hi),dy]
theorem tN :(zv ps).length<=ps.length:=by unfold zv;rw[ag];refine aV (lL _ _) ?_;rw[dy];lia
theorem IB (ok:bN al ws r)  (pl:ps.length=ws.length) (hm:∀ x∈ps,0<=x/\x<(al.length:Int)) (hg:Mk.good al.length ws r ps=true):∀ q∈kg al.length ps,Mk.good al.length ws r q=false:=by
 obtain⟨s1,s2⟩:=Mk.iS.mp ok.safe;intro q hq;rcases bE.mp hq with hq | hq
 ·obtain⟨i,o,hi,h0,h1,h2,rfl⟩:=lx.mp hq;have hw:=getD_some (ps:=ws) (i:=i) (by lia);exact Mk.yr hw (getD_some hi) (s1 _ (bQ hw)) (hm _ (getD_in hi)) ⟨h0,h1⟩ h2 hg
 ·obtain⟨i,hi,h2,rfl⟩:=ly.mp hq;have hw:=getD_some (ps:=ws) (i:=i) (by lia);have hv:=getD_some (ps:=ws) (i:=i+1) (by lia);exact Mk.DE hw hv (getD_some (by lia)) (getD_some hi) (s2 i _ _ hw hv) (hm _ (getD_in (by lia))) (hm _ (getD_in hi)) (bD h2) hg
theorem vX {H:Hp}:∀ {vs:List V}{nss:List (Zb)},iL H vs nss->∃ zs:List (Addr×Zb),vs=zs.map (fun z=>V.ref z.1)/\nss=zs.map (fun z=>z.2)/\∀ z∈zs,H z.1=some (.lst (z.2.map V.int))
 | _,_,.nil=>⟨[],rfl,rfl,fun _ h=>by cases h⟩
 | _,_,.cons ⟨b,e,hb⟩ t=>by
  obtain⟨zs,e1,e2,h⟩:=vX t;refine⟨(b,_)::zs,by rw[e,e1];rfl,by rw[e2];rfl,fun z hz=>?_⟩;rcases aP.mp hz with rfl | hz
  ·exact hb
  ·exact h z hz
theorem JK {js:Za}{σ:St}{te:TE}{Q:VK} (hJ:J.Seq H1 xs) (hl:xs.length<sizeLine) (us:List V) (hn:us.length=xs.length)
  (he:∀ (i:Nat) x u,xs[i]?=some x->us[i]?=some u->∀ H,az H1 H->∀ R:VK,(∀ H',az H H'->R u H')->te (some x::js.map fun j=>(σ[j]?).join) H R)
  (q:∀ D H,H1 D=none->az H1 H->H D=some (.lst us)->Q (.ref D) H):gy (gN 0) Ez te (jE 1 js σ) J H1 Q:=by
 intro D hD;refine⟨fun i m ys σ1 H=>m=xs.length-i/\i<=xs.length/\(∃ o,σ1=o::js.map fun j=>(σ[j]?).join)/\ys=us.take i/\az H1 H/\H D=some (.lst ys),
  ⟨xs.length,by simp,bj _,⟨none,rfl⟩,by simp,(az.refl H1).cF hD,aE⟩,?_⟩
 rintro i m ys σ1 H ⟨rfl,hi,⟨o,rfl⟩,rfl,sH,hL⟩;refine⟨hL,by rw[bI];lia,?_⟩
 by_cases hlt:i<xs.length
 ·have e:xs[i]?=some xs[i]:=aO hlt;have e2:us[i]?=some (us[i]'(by lia)):=aO _;obtain⟨go,yl⟩:=(hJ H sH).1 i xs[i] e;refine .inr ⟨go,fun x H' y=>?_⟩;obtain⟨q1,q2⟩:=yl x H' y;subst q1 q2;show te (some xs[i]::js.map fun j=>(σ[j]?).join) H' _;refine he i _ _ e e2 H' sH _ fun H4 s4=>?_;refine⟨s4 _ _ hL,xs.length-(i+1),by lia,rfl,hlt,⟨_,rfl⟩,?_,(sH.trans s4).cF hD,aE⟩;rw[iy,e2];rfl
 ·have e:i=xs.length:=by lia
  subst e;rw[fq (by lia)] at hL;exact .inl ⟨(hJ H sH).2 _ (ar _),q D H hD sH hL⟩
theorem yx {β γ:Type}{f:β->γ}{xs:List β}{v:γ} (h:(xs.map f)[i]?=some v):∃ x,xs[i]?=some x/\f x=v:=by rw[aT] at h;exact dO.mp h
theorem Hg (c:Nat):∀ l:Za,1<=(Mk.bw c l).length
 | []=>by simp [Mk.bw]
 | a::l=>by
  unfold Mk.bw;split
  ·simp
  ·split<;>simp
noncomputable abbrev SSt:=List (Za)×Za
noncomputable def Mt:Key->Za
 | .inr z=>z.cps.toList
 | .inl _=>[]
noncomputable def xM (w:Za) (s:SSt):Option SSt:=if s.2=[]/\s.1.length+(Mk.bw 32 w).length<=60 then some (s.1++Mk.bw 32 w,[]) else none
noncomputable def xN (w:Za) (s:SSt):Option SSt:=if s.1.length<60/\s.2.length+w.length<=20 then some (s.1,s.2++w) else none
noncomputable def LN (s:SSt):Option SSt:=if s.2=[] then none else some (s.1++[s.2],[])
noncomputable def stepK (key:List Key) (s:SSt):Option SSt :=
 match key with
 | [.inr z,y]=>if z=("phrase":Str) then xM (Mt y) s else xN (Mt y) s
 | _=>LN s
noncomputable def runK:List (List Key)->SSt->Option SSt
 | [],s=>some s
 | k::r,s=>match stepK k s with
  | none=>none
  | some s'=>runK r s'
theorem za:∀ (a b:List (List Key)) (s:SSt),runK (a++b) s=match runK a s with | none=>none | some s'=>runK b s'
 | [],b,s=>rfl
 | k::a,b,s=>by
  show (match stepK k s with | none=>none | some s'=>runK (a++b) s')=match (match stepK k s with | none=>none | some s'=>runK a s') with | none=>none | some s'=>runK b s'
  cases stepK k s with
  | none=>rfl
  | some s'=>exact za a b s'
theorem iM (ok:jm key):(∃ l,key=[.inr ("phrase":Str),.inr (tx l)]/\fE 6 l=true)∨(∃ l,key=[.inr ("part":Str),.inr (tx l)]/\dH 6 l=true)∨key=[.inr ("end":Str)]:=by
 have h:=ok.is;cases key with
 | nil=>cases h
 | cons a r =>
  cases a with
  | inl i=>cases h
  | inr z =>
   cases r with
   | nil =>have h':decide (z=("end":Str))=true:=h;exact .inr (.inr (by rw[ji h']))
   | cons y r2 =>
    cases r2 with
    | cons _ _=>cases h
    | nil =>
     have h':(if z=("phrase":Str) then jx 6 (kV y) else if z=("part":Str) then iF 6 (kV y) else false)=true:=h;cases y with
     | inl i =>
      exfalso;split at h'
      ·cases h'
      ·split at h'<;>cases h'
     | inr y =>
      have ey:y=tx y.cps.toList:=by cases y;simp [tx]
      split at h'
      ·rename_i hz
       exact .inl ⟨y.cps.toList,by rw[hz,←ey],h'⟩
      ·split at h'
       ·rename_i hz
        exact .inr (.inl ⟨y.cps.toList,by rw[hz,←ey],h'⟩)
       ·cases h'
theorem fO (l:Za) (s:SSt):stepK [.inr ("phrase":Str),.inr (tx l)] s=if s.2=[]/\s.1.length+(Mk.bw 32 l).length<=60 then some (s.1++Mk.bw 32 l,[]) else none:=by show (if ("phrase":Str)=("phrase":Str) then xM (tx l).cps.toList s else xN (tx l).cps.toList s)=xM l s;rw[ah rfl,bG]
theorem jA (l:Za) (s:SSt):stepK [.inr ("part":Str),.inr (tx l)] s=if s.1.length<60/\s.2.length+l.length<=20 then some (s.1,s.2++l) else none:=by show (if ("part":Str)=("phrase":Str) then xM (tx l).cps.toList s else xN (tx l).cps.toList s)=xN l s;rw[af (by decide),bG]
theorem lE (s:SSt):stepK [.inr ("end":Str)] s=if s.2=[] then none else some (s.1++[s.2],[]):=rfl
noncomputable def E9 (w:Za):Prop:=1<=w.length/\w.length<=20/\∀ c∈w,97<=c/\c<123
structure qh (s:SSt):Prop where
 few:s.1.length<=60
 wds:∀ w∈s.1,E9 w
 len:s.2.length<=20
 let_:∀ c∈s.2,97<=c/\c<123
 sp:s.2≠[]->s.1.length<60
theorem LK:qh ([],[]):=⟨Zd,(fun w h=>by cases h),Zd,(fun c h=>by cases h),fun h=>absurd rfl h⟩
theorem rK {n:Nat}{l:Za} (h:dH n l=true):1<=l.length/\l.length<=n/\∀ c∈l,97<=c/\c<123:=by unfold dH at h;rw[bP,bP,bR,bR,cj] at h;exact⟨h.1.1,h.1.2,fun c hc=>ji (h.2 c hc)⟩
theorem Bs {n:Nat}{l:Za} (h:fE n l=true):(Mk.bw 32 l).length<=n/\∀ w∈Mk.bw 32 l,E9 w:=by unfold fE at h;rw[bP,bR,cj] at h;exact⟨h.1,fun w hw=>rK (h.2 w hw)⟩
theorem qh.step {s s':SSt} (ok:jm key) (h:qh s) (e:stepK key s=some s'):qh s':=by
 rcases iM ok with ⟨l,rfl,hl⟩ | ⟨l,rfl,hl⟩ | rfl
 ·rw[fO] at e;split at e
  ·rename_i hc
   cases e
   obtain⟨_,hw⟩:=Bs hl;exact⟨by rw[aB];exact hc.2,fun w hw'=>(bE.mp hw').elim (h.wds w) (hw w),by simp,(fun c hc=>by cases hc),fun hh=>absurd rfl hh⟩
  ·cases e
 ·rw[jA] at e;split at e
  ·rename_i hc
   cases e
   obtain⟨_,_,hw⟩:=rK hl;exact⟨h.few,h.wds,by rw[aB];exact hc.2,fun c hc'=>(bE.mp hc').elim (h.let_ c) (hw c),fun _=>hc.1⟩
  ·cases e
 ·rw[lE] at e;split at e
  ·cases e
  ·rename_i hc
   cases e
   have:=h.sp hc;have l1:1<=s.2.length:=by
    cases hs:s.2 with
    | nil=>exact absurd hs hc
    | cons _ _=>simp
   exact⟨by rw[aB];exact this,fun w hw=>(bE.mp hw).elim (h.wds w) fun hw=>by rw[bg.mp hw];exact⟨l1,h.len,h.let_⟩,by simp,(fun c hc=>by cases hc),fun hh=>absurd rfl hh⟩
theorem K8:jm [.inr ("end":Str)]:=⟨rfl,Zd,fun z hz=>by have:V.str z=V.str ("end":Str):=bg.mp hz;cases this;decide⟩
theorem Ip {l:Za} (h:dH 6 l=true):jm [.inr ("part":Str),.inr (tx l)]:=⟨by
 show dH 6 (tx l).cps.toList=true;rw[bG];exact h,ar 2,fun z hz=>by
 have hz':V.str z∈[V.str ("part":Str),V.str (tx l)]:=hz;have:=(rK h).2.1;rcases aP.mp hz' with e | e
 ·cases e;decide
 ·have e2:V.str z=V.str (tx l):=bg.mp e;cases e2;rw[bC];lia⟩
theorem BR {ws:List (Za)} (h60:ws.length<=60) (hw:∀ w∈ws,E9 w):(Mk.dM 32 ws).length<=1260/\(ws.map fun w=>w.length+1).sum<=1260:=by obtain⟨a,b⟩:=FL (n:=60) h60 fun w h=>(hw w h).2.1;exact⟨by lia,by lia⟩
theorem uK {k:List Key}{s s':SSt}{s0:SSt} (h:runK ks s0=some s) (e:stepK k s=some s'):runK (ks++[k]) s0=some s':=by rw[za,h];show (match stepK k s with | none=>none | some t=>runK [] t)=some s';rw[e];rfl
theorem Fe (ns:Zb) (a b:Nat):∃ l:Zb,mQ (ns.map V.int) (some (a:Int)) (some (b:Int))=l.map V.int/\l.length<=b-a:=by
 refine⟨(ns.drop (min a ns.length)).take (min b ns.length-min a ns.length),?_,?_⟩
 ·unfold mQ;rw[HT.oM,HT.oM,ag,jg,gj]
 ·rw[bI,cf];lia
theorem KH {f:Ben->α}{es:List Ben}{x e:Ben} (hn:(es.map f).Nodup) (hx:x∈es) (he:e∈es) (h:f x=f e):x=e:=by
 obtain⟨i,hi,rfl⟩:=List.getElem_of_mem hx;obtain⟨j,hj,rfl⟩:=List.getElem_of_mem he;have:=List.pairwise_iff_getElem.mp hn;rcases Nat.lt_trichotomy i j with l | l | l
 ·exact absurd (by rw[List.getElem_map,List.getElem_map];exact h) (this i j (by rw[ag];exact hi) (by rw[ag];exact hj) l)
 ·subst l;rfl
 ·exact absurd (by rw[List.getElem_map,List.getElem_map];exact h.symm) (this j i (by rw[ag];exact hj) (by rw[ag];exact hi) l)
noncomputable def kOf (es:List Ben) (x:V):Option (List Key):=match x with
 | .int n=>(es.find? fun e=>decide (e.num=n)).map (·.key)
 | _=>none
noncomputable def iB:List (Option (List Key))->SSt->Nat->Nat ⊕ SSt
 | [],s,_=>.inr s
 | none::_,_,i=>.inl i
 | some k::r,s,i=>match stepK k s with
  | none=>.inl i
  | some s'=>iB r s' (i+1)
noncomputable def kh (ks:List (Option (List Key))):Nat ⊕ List (Za):=match iB ks ([],[]) 0 with
 | .inl i=>.inl i
 | .inr s=>if s.2=[]/\s.1≠[] then .inr s.1 else .inl ks.length
theorem Ar {es:List Ben} (nn:(es.map (·.num)).Nodup) {e:Ben} (h:e∈es):kOf es (.int e.num)=some e.key:=by
 unfold kOf;have:∃ u,es.find? (fun u=>decide (u.num=e.num))=some u:=by
  cases q:es.find? (fun u=>decide (u.num=e.num)) with
  | some u=>exact⟨u,rfl⟩
  | none=>exact absurd (aw rfl) (List.find?_eq_none.mp q e h)
 obtain⟨u,q⟩:=this;have hu:=List.mem_of_find?_eq_some q;have en:u.num=e.num:=by
  have z:=List.find?_some q
  simpa using z
 show Option.map _ (es.find? fun u=>decide (u.num=e.num))=_;rw[q,KH nn hu h en];rfl
theorem wU {es:List Ben}{n:Int} (h:n∉es.map (·.num)):kOf es (.int n)=none:=by show Option.map _ (es.find? fun u=>decide (u.num=n))=_;rw[List.find?_eq_none.mpr fun u hu=>by rw[bR];exact fun z=>h (aM.mpr ⟨u,hu,z⟩)];rfl
theorem zc {es:List Ben} (nn:(es.map (·.num)).Nodup):∀ {grp:List Ben}{s s':SSt}{i:Nat},(∀ e∈grp,e∈es)->runK (grp.map (·.key)) s=some s'->iB (grp.map fun e:Ben=>kOf es (.int e.num)) s i=.inr s'
 | [],s,s',i,_,h=>by have h':some s=some s':=h;cases h';rfl
 | e::r,s,s',i,hm,h=>by
  rw[bf,Ar nn (hm e aS)];have h':(match stepK e.key s with | none=>none | some t=>runK (r.map (·.key)) t)=some s':=h;show (match stepK e.key s with | none=>Sum.inl i | some t=>iB (r.map fun e:Ben=>kOf es (.int e.num)) t (i+1))=_;cases hs:stepK e.key s with
  | none=>rw[hs] at h';cases h'
  | some t=>rw[hs] at h';exact zc nn (fun e he=>hm e (aU _ he)) h'
theorem Jw {es:List Ben} (nn:(es.map (·.num)).Nodup) {grp:List Ben}{l:Zb}{ws:List (Za)} (hm:∀ e∈grp,e∈es) (hl:grp.map (·.num)=l) (h:runK (grp.map (·.key)) ([],[])=some (ws,[])) (hw:ws≠[]):kh ((l.map V.int).map (kOf es))=.inr ws:=by subst hl;unfold kh;rw[aI,aI,show ((kOf es ∘ V.int) ∘ fun e:Ben=>e.num)=fun e:Ben=>kOf es (.int e.num) from rfl,zc nn hm h];exact ah ⟨rfl,hw⟩
theorem CK {l:List α}{v:α} (h:l.getLast?=some v):atI l (-1)=some v:=by
 have hne:l≠[]:=fun e=>by subst e;cases h
 have hl:=List.length_pos_iff.mpr hne;unfold atI ixN;rw[af (by decide),ah (by lia)];show l[_]?=some v;rw[List.getLast?_eq_getElem?] at h;rw[←h]
 congr 1
 lia
structure Ko (al z:Za):Prop where
 z3:3<=z.length
 z8:z.length<=8
 mem:∀ c∈z,c∈al
 a3:3<=al.length
 a26:al.length<=26
noncomputable def wdV (z:Za):V:=.str (tx z)
noncomputable def GoodW (al:Za) (ws:Zb) (r:Int) (z:Za):Prop:=∃ ps:Zb,z=Mk.bO al ps/\ps.length=ws.length/\(∀ x∈ps,0<=x/\x<(al.length:Int))/\Mk.good al.length ws r ps=true
theorem GoodW.wd {z:Za} (h:GoodW al ws r z) (ok:bN al ws r):Ko al z:=by obtain⟨ps,rfl,hl,hm,_⟩:=h;have sl:=Mk.gT al ps;have w3:=ok.w3;have w8:=ok.w8;refine⟨by lia,by lia,fun c hc=>?_,ok.a3,ok.a26⟩;unfold Mk.bO at hc;obtain⟨p,hp,rfl⟩:=aM.mp hc;exact Mk.getD_mem (hm p hp)
theorem GoodW.good {z:Za} (h:GoodW al ws r z) (ok:bN al ws r):Mk.c9 al ws r z=true:=by obtain⟨ps,rfl,hl,hm,hg⟩:=h;rw[Mk.md ok.nd hl hm];exact hg
theorem oz (xs:List V) (h:xs.all eL=true):mR xs xs=true:=by rw[←ma rfl,cj];intro j hj;have hj':=cg.mp hj;rw[bz,aO hj'];exact Fo (cj.mp h _ (iq hj'))
theorem qo (zs:List (Za)):(zs.map wdV).all eL=true:=by rw[cj];intro v hv;obtain⟨z,_,rfl⟩:=aM.mp hv;rfl
theorem BP:∀ {vs:List V}{G:Int->Prop},(∀ v∈vs,∃ n,v=V.int n/\G n)->∃ ns:Zb,vs=ns.map V.int/\∀ n∈ns,G n
 | [],_,_=>⟨[],rfl,fun n h=>by cases h⟩
 | v::vs,G,h=>by obtain⟨n,rfl,hn⟩:=h v aS;obtain⟨ns,rfl,hns⟩:=BP fun v hv=>h v (aU _ hv);exact⟨n::ns,rfl,fun m hm=>(aP.mp hm).elim (fun e=>by rw[e];exact hn) (hns m)⟩
theorem vW (ok:bN al ws r) {z:Za} (h:Mk.c9 al ws r z=true):0<=Mk.numOf al.length (Mk.plc al z.dropLast)/\Mk.numOf al.length (Mk.plc al z.dropLast)<(al.length:Int)^(ws.length-1):=by
 have a3:=ok.a3;unfold Mk.c9 at h;rw[bP] at h;obtain⟨hl,hm⟩:=Mk.dm.mp h.1;have hb:=Mk.jy (m:=(al.length:Int)) (by lia) (Mk.plc al z.dropLast) fun p hp=>by unfold Mk.plc at hp;obtain⟨c,hc,rfl⟩:=aM.mp hp;have:=nU (hm c (ig _ hc));lia
 have e:(Mk.plc al z.dropLast).length=ws.length-1:=by unfold Mk.plc;rw[ag,jd];lia
 rw[e] at hb;exact hb
noncomputable def mi (i:Nat):V:=.int (i:Int)
theorem jG (as:Za):(as.map mi).all eL=true:=by rw[cj];intro v hv;obtain⟨z,_,rfl⟩:=aM.mp hv;rfl
noncomputable def iO (al z:Za):Int:=Mk.numOf al.length (Mk.plc al z.dropLast)
noncomputable def z5 (al:Za) (ws:Zb) (r g:Int):Za:=Mk.bO al (Mk.kB al.length ws r g)
noncomputable def bW (al:Za) (ws:Zb) (r:Int) (gs:Zb):List (Za):=gs.map (z5 al ws r)++[z5 al ws r ((gs.sum+gs.length)%bX al ws)]
theorem Mw {r g:Int} (ok:bN al ws r) (h0:0<=g) (h1:g<bX al ws):iO al (z5 al ws r g)=g:=by
 have a3:=ok.a3;have w3:=ok.w3;have hm:=Mk.wu (m:=(al.length:Int)) (r:=r) (k:=g) (ws:=ws) (by lia) (by have:=ok.a26;lia) ok.wm ok.safe (by lia);have hn:=Mk.E7 (m:=(al.length:Int)) (r:=r) (k:=g) (ws:=ws) (by lia) h0 h1;unfold iO z5;have e:(Mk.bO al (Mk.kB al.length ws r g)).dropLast=Mk.bO al (Mk.kB al.length ws r g).dropLast:=by unfold Mk.bO;rw[List.map_dropLast]
 rw[e,Mk.j9 ok.nd (fun p hp=>hm p (ig _ hp))];exact hn
theorem Mr {r g:Int} (ok:bN al ws r):GoodW al ws r (z5 al ws r g):=by have a3:=ok.a3;have a26:=ok.a26;have w3:=ok.w3;exact⟨_,rfl,Mk.E6 (by lia),Mk.wu (by lia) (by lia) ok.wm ok.safe (by lia),Mk.Bt (by lia) (by lia) ok.wm ok.safe (by lia)⟩
theorem Nr {js:Za}{σ:St}{tc:TT}{te:TE}{Q:VK} (hJ:J.Seq H1 xs) (hl:xs.length<sizeLine) (pr:Nat->Bool) (g:Nat->V)
  (hc:∀ (i:Nat) x,xs[i]?=some x->∀ H,az H1 H->∀ R:Bool->Hp->Prop,(∀ H',az H H'->R (pr i) H')->tc (some x::js.map fun j=>(σ[j]?).join) H R)
  (he:∀ (i:Nat) x,xs[i]?=some x->pr i=true->∀ H,az H1 H->∀ R:VK,(∀ H',az H H'->R (g i) H')->te (some x::js.map fun j=>(σ[j]?).join) H R)
  (q:∀ D H,H1 D=none->az H1 H->H D=some (.lst (((List.range xs.length).filter pr).map g))->Q (.ref D) H):gy (gN 0) tc te (jE 1 js σ) J H1 Q:=by
 intro D hD;refine⟨fun i m ys σ1 H=>m=xs.length-i/\i<=xs.length/\(∃ o,σ1=o::js.map fun j=>(σ[j]?).join)/\ys=((List.range i).filter pr).map g/\az H1 H/\H D=some (.lst ys),
  ⟨xs.length,by simp,bj _,⟨none,rfl⟩,by simp,(az.refl H1).cF hD,aE⟩,?_⟩
 rintro i m ys σ1 H ⟨rfl,hi,⟨o,rfl⟩,rfl,sH,hL⟩;have hyn:(((List.range i).filter pr).map g).length<=i:=by
  rw[ag];have:=lL pr (List.range i)
  rwa [dy] at this
 refine⟨hL,by lia,?_⟩
 by_cases hlt:i<xs.length
 ·have e:xs[i]?=some xs[i]:=aO hlt;obtain⟨go,yl⟩:=(hJ H sH).1 i xs[i] e;refine .inr ⟨go,fun x H' y=>?_⟩;obtain⟨q1,q2⟩:=yl x H' y;subst q1 q2;have rs:List.range (i+1)=List.range i++[i]:=lO;show tc (some xs[i]::js.map fun j=>(σ[j]?).join) H' _;refine hc i _ e H' sH _ fun H4 s4=>?_;have hL4:=s4 _ _ hL;cases hpr:pr i with
  | false =>rw[af bS];exact⟨xs.length-(i+1),by lia,rfl,hlt,⟨_,rfl⟩,by rw[rs,gi];simp [hpr],sH.trans s4,hL4⟩
  | true =>rw[ah rfl];refine he i _ e hpr _ (sH.trans s4) _ fun H5 s5=>⟨s5 _ _ hL4,xs.length-(i+1),by lia,rfl,hlt,⟨_,rfl⟩,?_,((sH.trans s4).trans s5).cF hD,aE⟩;rw[rs,gi,bu];simp [hpr]
 ·have e:i=xs.length:=by lia
  subst e;exact .inl ⟨(hJ H sH).2 _ (ar _),q D H hD sH hL⟩
theorem yX {α β:Type} (p:α->Bool) (f:α->β) (d:β):∀ es:List α,((List.range es.length).filter fun i=>(es[i]?).any p).map (fun i=>((es[i]?).map f).getD d)=(es.filter p).map f
 | []=>rfl
 | x::r=>by
  have e:(((List.range r.length).map Nat.succ).filter fun i=>((x::r)[i]?).any p).map (fun i=>(((x::r)[i]?).map f).getD d)=(r.filter p).map f:=by rw[nR,aI];exact yX p f d r
  rw[aZ,List.range_succ_eq_map];cases hp:p x with
  | true=>rw[nO (by show (some x).any p=true;exact hp),bf,e,nO hp];rfl
  | false=>rw[nN (by show ¬ (some x).any p=true;rw[show (some x).any p=p x from rfl,hp];decide),e,nN (by rw[hp];decide)]
noncomputable def DU (c:Int):Int:=(c%10^60*314159265358979323846264338327950288419716939937510582097494+27182818284590452353602874713527)%(10^60+7)
theorem tI (c:Int):0<=DU c:=cK _ Zd
theorem EE:∀ i:Nat,i<26->(Str.ofString "abcdefghijklmnopqrstuvwxyz").cps.toList[i]?=some (97+i):=by nofun
structure zA (H:Hp) (D:Addr) (es:List Ben):Prop where
 d:Rd H D (.dK (i7 es))
 en:∀ e∈es,H e.adr=some (.tup (e.key.map kV))
 nn:(es.map (·.num)).Nodup
theorem zA.same {H H':Hp}{D:Addr}{es:List Ben} (h:zA H D es) (s:az H H'):zA H' D es:=⟨h.d.imp (s _ _) fun ⟨o,e⟩=>⟨o,s _ _ e⟩,fun e he=>s _ _ (h.en e he),h.nn⟩
theorem Hf (c:Nat):(⟨#[c]⟩:Str)=tx [c]:=rfl
noncomputable def lY (al z z':Za):Prop:=(∃ i c,i<z.length/\c∈al/\c≠z.getD i 0/\z'=z.take i++[c]++z.drop (i+1))∨∃ i,i+1<z.length/\z.getD i 0≠z.getD (i+1) 0/\z'=z.take i++[z.getD (i+1) 0,z.getD i 0]++z.drop (i+2)
theorem lY.len {al z z':Za} (h:lY al z z'):z'.length=z.length:=by
 rcases h with ⟨i,c,hi,_,_,rfl⟩ | ⟨i,hi,_,rfl⟩
 ·rw[aB,aB,bI,cf];show min i z.length+1+_=_;lia
 ·rw[aB,aB,bI,cf];show min i z.length+2+_=_;lia
noncomputable def ki (al:Za) (ws:Zb) (r:Int) (es:List Ben) (n i:Nat) (z:Za):Bool:=Mk.c9 al ws r z&&(decide (i+1=n)||decide (iO al z∈es.map (·.num)))
noncomputable def dbL (al:Za) (ws:Zb) (r:Int) (es:List Ben) (zs:List (Za)):Za:=(List.range zs.length).filter fun i=>!ki al ws r es zs.length i (zs.getD i [])
theorem words_of {al:Za}{n:Int}{f:V->Bool} (hf:∀ x,f x=true->∃ z,x=.str z/\Mk.bL al n z.cps.toList=true):∀ {xs:List V},xs.all f=true->∃ zs:List (Za),xs=zs.map wdV/\∀ z∈zs,Mk.bL al n z=true
 | [],_=>⟨[],rfl,fun z h=>by cases h⟩
 | x::xs,h=>by
  rw[iY,bP] at h;obtain⟨zs,e,hz⟩:=words_of hf h.2;obtain⟨z,rfl,h1⟩:=hf x h.1;refine⟨z.cps.toList::zs,by rw[bf,←e];show V.str z::xs=V.str (tx z.cps.toList)::xs;rw[nG],fun y hy=>?_⟩;rcases aP.mp hy with rfl | hy
  ·exact h1
  ·exact hz y hy
noncomputable def Ni (H:Hp) (v:V) (xs:List V):Prop:=∃ b,v=.ref b/\H b=some (.lst xs)
noncomputable def kX (H:Hp) (vs:List V) (xss:List (List V)):Prop:=Paired (Ni H) vs xss
theorem kX.keep {H H':Hp}{xss:List (List V)} (h:kX H vs xss) (s:∀ b (xs:List V),H b=some (.lst xs)->H' b=some (.lst xs)):kX H' vs xss:=ku (fun _ _ ⟨b,e,hb⟩=>⟨b,e,s _ _ hb⟩) h
theorem kX.vQ {H H':Hp}{D:Addr}:∀ {vs:List V}{xss:List (List V)},kX H vs xss->(∀ v∈vs,v≠V.ref D)->(∀ b o,b≠D->H b=some o->H' b=some o)->kX H' vs xss
 | _,_,.nil,_,_=>.nil
 | _,_,.cons ⟨b,e,hb⟩ t,h,s=>.cons ⟨b,e,s b _ (fun z=>h _ aS (by rw[e,z])) hb⟩ (kX.vQ t (fun v hv=>h v (aU _ hv)) s)
noncomputable def oR (xs:List V) (i:Nat) (c:V):List V:=xs.take i++[c]++xs.drop (i+1)
noncomputable def lH (es:List Ben) (M:Int) (ns:Zb):Option (Za) :=
 if ns.getLastD 0=(ns.dropLast.sum+(ns.dropLast.length:Int))%M then
  match kh ((ns.dropLast.map V.int).map (kOf es)) with
  | .inr wd=>some (Mk.dM 32 wd)
  | .inl _=>none
 else none
theorem ID {ps q:Zb} (hm:∀ x∈ps,0<=x/\x<(m:Int)) (h:q∈kg m ps):ps∈kg m q:=by
 rcases bE.mp h with h | h
 ·obtain⟨i,o,hi,h0,h1,h2,rfl⟩:=lx.mp h;refine bE.mpr (.inl (lx.mpr ⟨i,ps.getD i 0,by rw[eQ];exact hi,(hm _ (getD_in hi)).1,(hm _ (getD_in hi)).2,by rw[uS hi];exact bD h2,?_⟩));refine ij fun k=>?_;rw[List.getElem?_set,eQ]
  by_cases e:i=k
  ·subst e;rw[ah rfl,ah hi,getD_some hi]
  ·rw[af e,jc e]
 ·obtain⟨i,hi,h2,rfl⟩:=ly.mp h;refine bE.mpr (.inr (ly.mpr ⟨i,by rw[eQ,eQ];exact hi,?_,?_⟩))
  ·rw[nF hi,nF hi,ah rfl,af (by lia),ah rfl];exact bD h2
  ·rw[nF hi,nF hi,af (by lia),ah rfl,ah rfl];refine ij fun k=>?_;simp only[List.getElem?_set,eQ]
   by_cases e:i+1=k
   ·subst e;rw[ah rfl,ah hi,getD_some hi]
   ·rw[af e]
    by_cases e2:i=k
    ·subst e2;rw[ah rfl,ah (by lia),getD_some (by lia)]
    ·rw[af e2,af e,af e2]
theorem FC (ok:bN al ws r) {ps qs:Zb} (pl:ps.length=ws.length) (ql:qs.length=ws.length) (pm:∀ x∈ps,0<=x/\x<(al.length:Int)) (qm:∀ x∈qs,0<=x/\x<(al.length:Int)) (pg:Mk.good al.length ws r ps=true) (qg:Mk.good al.length ws r qs=true) (h:Mk.numOf al.length ps.dropLast=Mk.numOf al.length qs.dropLast):ps=qs:=by
 have a3:=ok.a3;have a26:=ok.a26;have w3:=ok.w3;have e:ps.dropLast=qs.dropLast:=by have h1:=Mk.ue (m:=(al.length:Int)) (by lia) ps.dropLast fun x hx=>pm x (ig _ hx);have h2:=Mk.ue (m:=(al.length:Int)) (by lia) qs.dropLast fun x hx=>qm x (ig _ hx);rw[←h1,←h2,h,jd,jd,pl,ql]
 obtain⟨_,l1,l2,l3⟩:=Mk.oC (m:=(al.length:Int)) (r:=r) (ws:=ws) (ps:=ps.dropLast) (by lia) (by lia) ok.wm (fun x hx=>(Mk.iS.mp ok.safe).1 x hx) (by rw[jd];lia);have p0:ps≠[]:=fun z=>by rw[z] at pl;simp at pl;lia
 have q0:qs≠[]:=fun z=>by rw[z] at ql;simp at ql;lia
 have pe:=qY p0;have qe:=qY q0;rw[←pe] at pg;rw[←qe,←e] at qg;have b1:=pm _ (List.getLast_mem p0);have b2:=qm _ (List.getLast_mem q0);have:=(l3 _ b1.1 b1.2).mp pg;have:=(l3 _ b2.1 b2.2).mp qg;rw[←pe,←qe,←e]
 congr 2
 lia
theorem Hh (pm:∀ x∈ps,0<=x/\x<(al.length:Int)):∀ x∈Mk.bO al ps,x∈al:=fun x hx=>by obtain⟨y,hy,rfl⟩:=aM.mp hx;exact Mk.getD_mem (pm y hy)
theorem mE {n:Nat} (pl:ps.length=n) (pm:∀ x∈ps,0<=x/\x<(al.length:Int)):Mk.bL al n (Mk.bO al ps)=true:=Mk.dm.mpr ⟨by rw[Mk.gT,pl],Hh pm⟩
theorem Al (a26:al.length<=26) (p8:ps.length<=8) (pm:∀ x∈ps,0<=x/\x<(al.length:Int)):(kg al.length ps).length<=208:=by unfold kg;rw[aB,uc pm];have:=tN (ps:=ps);have:ps.length*(al.length-1)<=200:=aV (Nat.mul_le_mul p8 (show al.length-1<=25 by lia)) Zd;lia
structure EC (al:Za) (ws:Zb) (r:Int) (es:List Ben) (c:Bool) (z:Za) (cs:Zb):Prop where
 nd:cs.Nodup
 few:cs.length<=16
 mem:∀ n,n∈cs↔∃ ps∈kg al.length (Mk.plc al z),Mk.good al.length ws r ps=true/\(c=true∨n∈es.map (·.num))/\n=Mk.numOf al.length ps.dropLast
theorem yo {α β:Type}{f:α->List β}{p:β->Bool}{m:Nat}:∀ {l:List α},(∀ x∈l,((f x).filter p).length<=m)->((l.flatMap f).filter p).length<=l.length*m
 | [],_=>bj _
 | x::r,h=>by rw[nS,gi,aB,aZ,Nat.add_mul,Nat.one_mul];have:=h x aS;have:=yo (f:=f) (p:=p) (m:=m) (l:=r) fun y hy=>h y (aU _ hy);lia
theorem BW {l:List α} (hn:l.Nodup) (h:∀ x∈l,∀ y∈l,x=y):l.length<=1:=by
 cases l with
 | nil=>exact bj _
 | cons x r =>
  cases r with
  | nil=>exact ar _
  | cons y r =>have e:=h x aS y (aU _ aS);rw[eS] at hn;exact absurd (by rw[e];exact aS) hn.1
theorem IC (ok:bN al ws r)  (pl:ps.length=ws.length) (pm:∀ x∈ps,0<=x/\x<(al.length:Int)):((kg al.length ps).filter fun q=>Mk.good al.length ws r q).length<=16:=by
 have w8:=ok.w8;have hnd:=vL (m:=al.length) (ps:=ps);unfold kg at hnd;have h1:((vj al.length ps).filter fun q=>Mk.good al.length ws r q).length<=ps.length*1:=by
  unfold vj;have:=yo (f:=exI al.length ps) (p:=fun q=>Mk.good al.length ws r q) (m:=1) (l:=List.range ps.length) fun i hi=>?_
  ·rwa [dy] at this
  ·have hi':=cg.mp hi;refine BW ?_ fun x hx y hy=>?_
   ·have h2:=(List.nodup_append.mp hnd).1;unfold vj List.Nodup at h2;rw[List.pairwise_flatMap] at h2;exact jV _ (h2.1 i hi)
   ·obtain⟨hx1,hx2⟩:=cA.mp hx;obtain⟨hy1,hy2⟩:=cA.mp hy;obtain⟨o,o0,o1,o2,rfl⟩:=oE.mp hx1;obtain⟨u,u0,u1,u2,rfl⟩:=oE.mp hy1;rw[iQ hi'] at hx2 ⊢;rw[iQ hi'] at hy2 ⊢
    by_cases e:o=u
    ·rw[e]
    ·exfalso;have hw:=getD_some (ps:=ws) (i:=i) (by lia);have hs:(ps.set i o)[i]?=some o:=jX hi';have:=Mk.yr hw hs ((Mk.iS.mp ok.safe).1 _ (bQ hw)) ⟨o0,o1⟩ ⟨u0,u1⟩ (bD e) hx2;rw[List.set_set,hy2] at this;cases this
 have h2:=lL (fun q=>Mk.good al.length ws r q) (zv ps);have h3:=tN (ps:=ps);unfold kg;rw[gi,aB];lia
noncomputable def fK (Ad:Ads):Sp:=fun vs H Q _=>∃ (e:Addr) (n:Int),vs=[.ref e,.int n]/\H e=some (xiO e Ad.NoReading none)/\0<=n/\n<1000000/\∀ dx H',H dx=none->dx≠e->H' e=some (xiO e Ad.NoReading (some dx))->H' dx=some (.xd [("at",.int n)])->az (hid e H) (hid e H')->Q .non H'
theorem mq {Ad:Ads}{n:Int} (n0:0<=n) (n1:n<1000000) (k:∀ dx H',az H1 H'->H' dx=some (.xd [("at",.int n)])->E' (.ref Ad.NoReading) (some dx) H') (e:Addr) (H2:Hp) (z:H1 e=none) (s:az H1 H2) (he:H2 e=some (xiO e Ad.NoReading none)) :
  fK Ad [.ref e,.int n] H2 (fun v H3=>v=.non/\∃ dx fs,H3 e=some (xiO e Ad.NoReading (some dx))/\H3 dx=some (.xd fs)/\E' (.ref Ad.NoReading) (some dx) (hid e H3)) (fun _ _ _=>False) :=
 ⟨e,n,rfl,he,n0,n1,fun dx H' _ q1 q2 q3 q4=>⟨rfl,dx,_,q2,q3,k dx _ (ze z s q4) (by rw[fY q1];exact q3)⟩⟩
theorem qH:aN ["self","at"] ["self","at"] (ay dF):=by subst_eqs
theorem qx (F:Fun K "__init__" "NoReading.__init__" dF f fd) (T:Bl mg) (AF:AdF K mg Ad) :bU P w K mg base (CX1 P w) 1 f fd ["self","at"] (fK Ad):=by
 refine F.okX (k:=0) qH ?_ ?_
 ·bv_decide
 ·right;obtain⟨e,n,rfl,he,n0,n1,k⟩:=h;refine⟨_,ai (dW (sF (K:=K) rfl AF.bi AF.g_CableError (aj (pvL 0) (aj (M5 (pvL 1)) (ae))))) (ao (Cd (K:=K) rfl (pvL 0) (pvL 1))),?_⟩;ac_nf;exact⟨n0,n1,fun y=>⟨_,he,AF.o_NoReading,_,he,AF.s_NoReading,fun dx H' q1 q2 q3 q4 q5=>k dx H' q1 q2 q3 q4 q5⟩⟩
noncomputable def fh (Ad:Ads):Sp:=fun vs H Q _=>∃ (e a:Addr) (xs:List V),vs=[.ref e,.ref a]/\H e=some (xiO e Ad.TooGarbled none)/\H a=some (.lst xs)/\∀ dx p H',H dx=none->H p=none->dx≠e->p≠e->p≠dx->H' e=some (xiO e Ad.TooGarbled (some dx))->H' dx=some (.xd [("places",.ref p)])->H' p=some (.lst xs)->az (hid e H) (hid e H')->Q .non H'
theorem AS {Ad:Ads} (ha:H1 a=some (.lst xs)) (k:∀ dx p H',az H1 H'->H' dx=some (.xd [("places",.ref p)])->H' p=some (.lst xs)->E' (.ref Ad.TooGarbled) (some dx) H') (e:Addr) (H2:Hp) (z:H1 e=none) (s:az H1 H2) (he:H2 e=some (xiO e Ad.TooGarbled none)) :
  fh Ad [.ref e,.ref a] H2 (fun v H3=>v=.non/\∃ dx fs,H3 e=some (xiO e Ad.TooGarbled (some dx))/\H3 dx=some (.xd fs)/\E' (.ref Ad.TooGarbled) (some dx) (hid e H3)) (fun _ _ _=>False) :=
 ⟨e,a,xs,rfl,he,s _ _ ha,fun dx p H' _ _ q2 q3 _ q5 q6 q7 q8=>⟨rfl,dx,_,q5,q6,k dx p _ (ze z s q8) (by rw[fY q2];exact q6) (by rw[fY q3];exact q7)⟩⟩
theorem pT:aN ["self","places"] ["self","places"] (ay df):=by subst_eqs
theorem pz (F:Fun K "__init__" "TooGarbled.__init__" df f fd) (T:Bl mg) (AF:AdF K mg Ad) :bU P w K mg base (CX1 P w) 1 f fd ["self","places"] (fh Ad):=by
 refine F.okX (k:=0) pT ?_ ?_
 ·bv_decide
 ·right;obtain⟨e,a,xs,rfl,he,ha,k⟩:=h;refine⟨_,ai (dW (sF (K:=K) rfl AF.bi AF.g_CableError (aj (pvL 0) (aj (aY) (ae))))) (ao (Cd (K:=K) rfl (pvL 0) (ei (i9 (K:=K) rfl rfl) T.list km (aj (pvL 1) (ae))))),?_⟩;ac_nf;refine⟨_,he,AF.o_TooGarbled,_,.inl (.l ha),fun p H1 hp s1 h1=>⟨_,s1 _ _ he,AF.s_TooGarbled,fun dx H' q1 q2 q3 q4 q5=>?_⟩⟩;have pe:p≠e:=(b9 he hp).symm;refine k dx p H' (s1.free q1) hp q2 pe (b9 h1 q1) q3 q4 ?_ fun c o hc=>q5 c o ?_
  ·have:=q5 p _ (by rw[fY pe];exact h1)
   rwa [fY pe] at this
  ·by_cases ec:c=e
   ·subst ec;rw[qp] at hc;cases hc
   ·rw[fY ec] at hc ⊢;exact s1 _ _ hc
noncomputable def sS:Sp:=fun vs H Q _=>∃ x t,vs=[x]/\fj H x=some t/\Q (.bl (decide (t=Tg.int))) H
theorem zi:aN ["thing"] ["thing"] (ay pL):=by subst_eqs
theorem yJ (F:Fun K "is_whole" "is_whole" pL f fd) (T:Bl mg) (AF:AdF K mg Ad) :bU P w K mg base (CX1 P w) 1 f fd ["thing"] sS:=by
 refine F.okX (k:=0) zi ?_ ?_
 ·bv_decide
 ·right;obtain⟨x,t,rfl,ht,k⟩:=h;refine⟨_,ao (aK (pA (ax (fz .int) T.isinstance bt_isinstance (aj (pvL 0) (aj (kC T.int K4) (ae)))) (mU (L6 (ax (fz .bl) T.isinstance bt_isinstance (aj (pvL 0) (aj (kC T.bool Ij) (ae)))))))),?_⟩;ac_nf;refine⟨trivial,t,ht,?_⟩;cases t<;>(simp only[Tg.sub,i4,eU,iK,reduceCtorEq];first | exact k | exact⟨trivial,_,ht,k⟩)
noncomputable def k8:Sp:=fun vs H Q _=>∃ a b:Int,vs=[.int a,.int b]/\Q (.int ((Int.gcd a b:Nat):Int)) H
theorem dg:aN ["one","other","left","right","over"] ["one","other"] (ay iC):=by subst_eqs
theorem qy (F:Fun K "common_divisor" "common_divisor" iC f fd) (T:Bl mg) (AF:AdF K mg Ad) :bU P w K mg base (CX1 P w) 1 f fd ["one","other"] k8:=by
 refine F.okX (k:=0) dg ?_ ?_
 ·bv_decide
 ·right;obtain⟨a,b,rfl,k⟩:=h;refine⟨_,ai (aF (i:=2) dg.nd (ax rB T.abs zH (aj (pvL 0) (ae)))) (ai (aF (i:=3) dg.nd (ax rB T.abs zH (aj (pvL 1) (ae)))) (ai (uJ cB (aX (gC (K:=K) rfl hu) (pvL 3) (au) (bc _)) (ai (aF (i:=4) dg.nd (aA cx (pvL 2) (pvL 3))) (ai (aF (i:=2) dg.nd (pvL 3)) (ao (aF (i:=3) dg.nd (pvL 4)))))) (ao (aK (pvL 2))))),?_⟩;ac_nf;refine xS (fun σ H'=>H'=H/\∃ (l r:Nat) (o:Option V),σ=[some (.int a),some (.int b),some (.int l),some (.int r),o]/\Nat.gcd l r=Int.gcd a b)
   (fun σ _=>match σ with | [_,_,_,some (.int r),_]=>r.toNat | _=>0) ⟨rfl,a.natAbs,b.natAbs,none,rfl,rfl⟩ ?_
  rintro σ H' ⟨rfl,l,r,o,rfl,hg⟩;ac_nf
  by_cases hr0:r=0
  ·subst hr0;rw[Nat.gcd_zero_right] at hg;subst hg;exact k
  ·have e:(!decide ((r:Int)=0))=true:=by simp [hr0]
   rw[ah e];refine⟨_,fun _ _ h=>h,by lia,⟨rfl,r,l%r,some (.int ((l%r:Nat):Int)),?_,?_⟩,?_⟩
   ·rw[Int.natCast_emod]
   ·rw[←hg,Nat.gcd_comm l r,Nat.gcd_rec r l,Nat.gcd_comm]
   ·show ((l:Int)%(r:Int)).toNat<((r:Int)).toNat
    have h1:(l:Int)%(r:Int)<r:=cQ _ (by lia);have h2:0<=(l:Int)%(r:Int):=cK _ (by lia);lia
noncomputable def gW (z:Za):Bool:=decide (3<=z.length)&&decide (z.length<=26)&&decide z.Nodup&&z.all fun c=>decide (97<=c/\c<123)
noncomputable def iN:V->Bool
 | .str z=>gW z.cps.toList
 | _=>false
noncomputable def n9:Sp:=fun vs H Q _=>∃ (x:V) (t:Tg),vs=[x]/\fj H x=some t/\(∀ z,x=.str z->z.length<=4000)/\∀ H',az H H'->Q (.bl (iN x)) H'
theorem uP:aN ["thing"] ["thing"] (ay kL):=by subst_eqs
theorem u5 (F:Fun K "is_alphabet" "is_alphabet" kL f fd) (T:Bl mg) (AF:AdF K mg Ad) :bU P w K mg base (CX1 P w) 1 f fd ["thing"] n9:=by
 refine F.okX (k:=0) uP ?_ ?_
 ·bv_decide
 ·right;obtain⟨x,t,rfl,ht,hz,k⟩:=h;refine⟨_,ai (bT ((iR (cM (cD (ax (fz .str) T.isinstance bt_isinstance (aj (pvL 0) (aj (kC T.str tR) (ae)))))) (gE (cM (qD jo jo (au) (ax (aL (K:=K) rfl) T.len bH (aj (pvL 0) (ae))) (au))))).pt) (ao (aK (kx))) (bh)) (ao (aK (pA (cZ (cL (K:=K) rfl hu) (ax (zJ (P:=P) (w:=w) rfl rfl) T.len bH (aj (ei (CY (P:=P) (w:=w) rfl rfl rfl) T.set zI (aj (pvL 0) (ae))) (ae))) (ax (aL (K:=K) rfl) T.len bH (aj (pvL 0) (ae))) (bc _)) (mU (ax (i8 (K:=K) rfl rfl) T.all oY (aj (gO ["sign"] rfl ⟨rfl,by nofun,rfl,by nofun⟩ (.nil) (by nofun) (cE (K:=K) rfl (pvL 0)) (fun _ _ _ _=>aR (i:=0) (show (["sign"]:Ze).Nodup from by nofun)) (fun _ _ _ _=>eG) (fun _ _ _ _=>cZ (rQ (K:=K) rfl hu1) (pvL 0) (eN AF.v_SMALL_LETTERS) (by ext))) (ae))))))),?_⟩
  by_cases hs:∃ z,x=.str z
  ·obtain⟨z,rfl⟩:=hs;cases ht;have hl:=hz z rfl;have hc:=dP z;have ek:iN (.str z)=gW z.cps.toList:=rfl;ac_nf;refine⟨trivial,Tg.str,rfl,?_⟩;ac_nf;refine⟨aQ (aq (by lia)),?_⟩
   by_cases h3:3<=z.length/\z.length<=26
   ·have d1:decide ((3:Int)<=(z.length:Int))=true:=aw (by lia);have d2:decide ((z.length:Int)<=26)=true:=aw (by lia);rw[d1];bv_omega;rw[d2];bv_omega;refine⟨by lia,fun p H1 hp s1 h1=>?_⟩;refine⟨_,h1,aQ (aq (by lia)),?_⟩
    by_cases hn:z.cps.toList.Nodup
    ·have e1:=(vU z).mpr hn;rw[e1,aw rfl];bv_omega;refine vm (fun c:Nat=>V.str ⟨#[c]⟩) wO (xI z) (aq (by lia)) (fun c=>.bl (decide (97<=c/\c<123))) ?_ ?_
     ·intro c hc H2 s2 R hR;ac_nf;rw[Ap,vv];have e2:decide (c∈List.range' 97 26)=decide (97<=c/\c<123):=decide_eq_decide.mpr (by rw[List.mem_range'_1]);rw[e2];exact hR H2 (az.refl _)
     ·intro D H2 hD s2 h2;refine⟨D,z.cps.toList.map fun c=>decide (97<=c/\c<123),rfl,.of (by rw[h2,aI];rfl),?_⟩;have e:(z.cps.toList.map fun c=>decide (97<=c/\c<123)).all id=iN (.str z):=by
       rw[ek];unfold gW;rw[aw (show 3<=z.cps.toList.length by lia),aw (show z.cps.toList.length<=26 by lia),aw hn,fQ];rfl
      rw[e];exact k H2 (s1.trans s2)
    ·have e1:decide (((c8 (kU z) z.length).length:Int)=(z.length:Int))=false:=av fun e=>hn ((vU z).mp (by lia));rw[e1];bv_omega;have e:iN (.str z)=false:=by rw[ek];unfold gW;rw[av hn];simp
     rw[e] at k;exact k H1 s1
   ·have e:iN (.str z)=false:=by
     rw[ek];unfold gW
     by_cases h4:3<=z.length
     ·rw[av (show ¬ z.cps.toList.length<=26 by lia)];simp
     ·rw[av (show ¬ 3<=z.cps.toList.length by lia)];simp
    rw[e] at k
    by_cases h4:3<=z.length
    ·have d1:decide ((3:Int)<=(z.length:Int))=true:=aw (by lia);have d2:decide ((z.length:Int)<=26)=false:=av (by lia);rw[d1];bv_omega;rw[d2];bv_omega;exact k H (az.refl _)
    ·have d1:decide ((3:Int)<=(z.length:Int))=false:=av (by lia);rw[d1];bv_omega;exact k H (az.refl _)
  ·have hv:iN x=false:=by
    cases x with
    | str z=>exact absurd ⟨z,rfl⟩ hs
    | _=>rfl
   have hne:=qQ ht fun z e=>hs ⟨z,e⟩;rw[hv] at k;ac_nf;refine⟨trivial,t,ht,?_⟩;cases t<;>first
    | exact absurd rfl hne
    | exact k H (az.refl _)
noncomputable def dE (al:Str) (n:Int):V->Bool
 | .str z=>Mk.bL al.cps.toList n z.cps.toList
 | _=>false
noncomputable def m8:Sp:=fun vs H Q _=>∃ (al:Str) (n:Int) (x:V) (t:Tg),vs=[.str al,.int n,x]/\fj H x=some t/\(∀ z,x=.str z->z.length<=100000)/\∀ H',az H H'->Q (.bl (dE al n x)) H'
theorem AZ:aN ["alphabet","length","thing"] ["alphabet","length","thing"] (ay rZ):=by subst_eqs
theorem AB (F:Fun K "is_word" "is_word" rZ f fd) (T:Bl mg) (AF:AdF K mg Ad) :bU P w K mg base (CX1 P w) 1 f fd ["alphabet","length","thing"] m8:=by
 refine F.okX (k:=0) AZ ?_ ?_
 ·bv_decide
 ·right;obtain⟨al,n,x,t,rfl,ht,hz,k⟩:=h;refine⟨_,ai (bT ((iR (cM (cD (ax (fz .str) T.isinstance bt_isinstance (aj (pvL 2) (aj (kC T.str tR) (ae)))))) (gE (aX (gC (K:=K) rfl hu) (ax (aL (K:=K) rfl) T.len bH (aj (pvL 2) (ae))) (pvL 1) (bc _)))).pt) (ao (aK (kx))) (bh)) (ao (aK (ax (i8 (K:=K) rfl rfl) T.all oY (aj (gO ["sign"] rfl ⟨rfl,by nofun,rfl,by nofun⟩ (.cons (j:=0) rfl (.inl (by ext)) (.nil)) (by nofun) (cE (K:=K) rfl (pvL 2)) (fun _ _ _ _=>aR (i:=0) (show (["sign","alphabet"]:Ze).Nodup from by nofun)) (fun _ _ _ _=>eG) (fun _ _ _ _=>cZ (rQ (K:=K) rfl hu1) (pvL 0) (pvC 1) (by ext))) (ae))))),?_⟩
  by_cases hs:∃ z,x=.str z
  ·obtain⟨z,rfl⟩:=hs;cases ht;have hl:=hz z rfl;ac_nf;refine⟨trivial,Tg.str,rfl,?_⟩;ac_nf;refine⟨aQ (aq hl),?_⟩;have hl2:z.cps.toList.length<=100000:=by rw[←dP];exact hl
   by_cases hn:(z.length:Int)=n
   ·rw[af (by simp [hn])];refine vm (fun c:Nat=>V.str ⟨#[c]⟩) wO (xI z) (aq hl2) (fun c=>.bl (decide (c∈al.cps.toList))) ?_ ?_
    ·intro c hc H2 s2 R hR;ac_nf;rw[Ap];exact hR H2 (az.refl _)
    ·intro D H2 hD s2 h2;refine⟨D,z.cps.toList.map fun c=>decide (c∈al.cps.toList),rfl,.of (by rw[h2,aI];rfl),?_⟩;have e:(z.cps.toList.map fun c=>decide (c∈al.cps.toList)).all id=dE al n (.str z):=by
      show _=Mk.bL al.cps.toList n z.cps.toList;unfold Mk.bL;rw[aw (by rw[←dP];exact hn),dj,fQ];rfl
     rw[e];exact k H2 s2
   ·rw[ah (by simp [hn])];have e:dE al n (.str z)=false:=by
     show Mk.bL al.cps.toList n z.cps.toList=false;unfold Mk.bL;rw[av (by rw[←dP];exact hn),gB]
    rw[e] at k;exact k H (az.refl _)
  ·have hv:dE al n x=false:=by
    cases x with
    | str z=>exact absurd ⟨z,rfl⟩ hs
    | _=>rfl
   have hne:=qQ ht fun z e=>hs ⟨z,e⟩;rw[hv] at k;ac_nf;refine⟨trivial,t,ht,?_⟩;cases t<;>first
    | exact absurd rfl hne
    | exact k H (az.refl _)
noncomputable def j7:Sp:=fun vs H Q _=>∃ al w:Str,vs=[.str al,.str w]/\w.length<=100000/\(∀ c∈w.cps.toList,c∈al.cps.toList)/\∀ p H',H p=none->az H H'->H' p=some (.lst ((Mk.plc al.cps.toList w.cps.toList).map V.int))->Q (.ref p) H'
theorem xH:aN ["alphabet","word"] ["alphabet","word"] (ay nr):=by subst_eqs
theorem xo (F:Fun K "places_of" "places_of" nr f fd) (T:Bl mg) (AF:AdF K mg Ad) :bU P w K mg base (CX1 P w) 1 f fd ["alphabet","word"] j7:=by
 refine F.okX (k:=0) xH ?_ ?_
 ·bv_decide
 ·right;obtain⟨al,z,rfl,hl,hm,k⟩:=h;refine⟨_,ao (aK (gO ["letter"] rfl ⟨rfl,by nofun,rfl,by nofun⟩ (.cons (j:=0) rfl (.inl (by ext)) (.nil)) (by nofun) (cE (K:=K) rfl (pvL 1)) (fun _ _ _ _=>aR (i:=0) (show (["letter","alphabet"]:Ze).Nodup from by nofun)) (fun _ _ _ _=>eG) (fun _ _ _ _=>dS (K:=K) rfl gq PySem.F.slot_str_index PySem.F.type_str_index vV (pvC 1) (aj (pvL 0) (ae))))),?_⟩;ac_nf;have hl2:z.cps.toList.length<=100000:=by rw[←dP];exact hl
  refine vm (fun c:Nat=>V.str ⟨#[c]⟩) wO (xI z) (aq hl2) (fun c=>.int ((al.cps.toList.idxOf c:Nat):Int)) ?_ ?_
  ·intro c hc H2 s2 R hR;ac_nf;rw[yn (hm c hc)];exact⟨rfl,Int.natCast_nonneg _,hR H2 (az.refl _)⟩
  ·intro D H2 hD s2 h2;refine k D H2 hD s2 ?_;rw[h2];unfold Mk.plc;rw[aI];rfl
noncomputable def pY:Sp:=fun vs H Q _=>∃ (al:Str) (q:Addr) (ps:Zb),vs=[.str al,.ref q]/\al.length<=1000/\H q=some (.lst (ps.map V.int))/\ps.length<=1000/\(∀ p∈ps,0<=p/\p<al.cps.toList.length)/\∀ H',az H H'->Q (.str (tx (Mk.bO al.cps.toList ps))) H'
theorem Bb:aN ["alphabet","places"] ["alphabet","places"] (ay se):=by subst_eqs
theorem AE (F:Fun K "spelled" "spelled" se f fd) (T:Bl mg) (AF:AdF K mg Ad) :bU P w K mg base (CX1 P w) 1 f fd ["alphabet","places"] pY:=by
 refine F.okX (k:=0) Bb ?_ ?_
 ·bv_decide
 ·right;obtain⟨al,q,ps,rfl,hal,hq,hl,hm,k⟩:=h;refine⟨_,ao (aK (dS (K:=K) rfl gq rk rn (qt (K:=K) rfl) (aY) (aj (gO ["place"] rfl ⟨rfl,by nofun,rfl,by nofun⟩ (.cons (j:=0) rfl (.inl (by ext)) (.nil)) (by nofun) (cE (K:=K) rfl (pvL 1)) (fun _ _ _ _=>aR (i:=0) (show (["place","alphabet"]:Ze).Nodup from by nofun)) (fun _ _ _ _=>eG) (fun _ _ _ _=>bZ (cT (K:=K) rfl) (pvC 1) (pvL 0) (fun _ _=>rfl))) (ae)))),?_⟩;ac_nf;refine⟨by rfl,.inl ⟨⟨_,.of hq⟩,vm V.int iG (eP (.of hq)) (aq (by lia)) (fun x=>.str (tx [al.cps.toList.getD x.toNat 0])) ?_ ?_⟩⟩
  ·intro x hx H5 t5 R hR;ac_nf;refine⟨aQ (aq (by lia)),_,cR (hm x hx).1 (Mk.getD_at (hm x hx)),?_⟩;exact hR H5 (az.refl _)
  ·intro D H5 hD t5 h5;ac_nf;refine⟨(Mk.bO al.cps.toList ps).map fun c=>tx [c],FO (by rw[h5];unfold Mk.bO;rw[aI];rfl),FN (by rw[Mk.gT];lia),?_⟩;rw[BS];exact k H5 t5
inductive k7 (vs:List V) (H:Hp) (Q:VK) (E:XK):Prop
 | mk (m:Int) (p:Addr) (ws:Zb) (r:Int) (q:Addr) (ps:Zb) (q0:vs=[.int m,.ref p,.int r,.ref q]) (q1:0<m) (q2:H p=some (.lst (ws.map V.int))) (q3:H q=some (.lst (ps.map V.int))) (q4:ws.length<=100000) (q5:Mk.sml ws) (q6:Mk.sml ps) (q7:∀ H',az H H'->Q (.bl (Mk.good m ws r ps)) H'):k7 vs H Q E
theorem sJ:aN ["m","weights","rest","places","total"] ["m","weights","rest","places"] (ay pD):=by subst_eqs
theorem yC (F:Fun K "are_good" "are_good" pD f fd) (T:Bl mg) (AF:AdF K mg Ad) :bU P w K mg base (CX1 P w) 1 f fd ["m","weights","rest","places"] k7:=by
 refine F.okX (k:=0) sJ ?_ ?_
 ·bv_decide
 ·right;obtain⟨m,p,ws,r,q,ps,rfl,hm,hp,hq,hl,hb,hb2,k⟩:=h;refine⟨_,ai (aF (i:=4) sJ.nd (ax (vE (K:=K) rfl rfl) T.sum EW (aj (gO ["weight","place"] rfl ⟨rfl,by nofun,rfl,by nofun⟩ (.nil) (by nofun) (BZ (K:=K) rfl T.zip (aj (pvL 1) (aj (pvL 3) (ae)))) (fun _ _ _ _=>qA (K:=K) (n:=2) rfl rfl (gd (aR (i:=0) (show (["weight","place"]:Ze).Nodup from by nofun)) (gd (aR (i:=1) (show (["weight","place"]:Ze).Nodup from by nofun)) (qB)))) (fun _ _ _ _=>eG) (fun _ _ _ _=>aA ml (pvL 0) (pvL 1))) (ae)))) (ao (aK (cZ (cL (K:=K) rfl hu) (aA cx (aA gz (pvL 4) (pvL 2)) (pvL 0)) (au) (bc _)))),?_⟩;ac_nf;refine⟨⟨_,.of hp⟩,⟨_,.of hq⟩,Mu V.int V.int iG iG (.of hp) (.of hq) (aq hl) (fun a b=>.int (a*b)) ?_ ?_⟩
  ·intro a b hab H2 s2 R hR;ac_nf;exact⟨zM (hb a (nX hab).1) (hb2 b (nX hab).2),hR H2 (az.refl _)⟩
  ·intro D H2 hD s2 h2;ac_nf;refine⟨D,(ws.zip ps).map fun x=>x.1*x.2,rfl,.of (by rw[h2,aI];rfl),?_⟩;rw[Mk.BF];ac_nf;exact⟨hm,k H2 s2⟩
noncomputable def iE (Ad:Ads):Sp:=fun vs H Q _=>∃ (a:Addr) (al:Za) (ws:Zb) (r:Int),vs=[.ref a]/\cI Ad H a al ws r/\Q (.str (tx al)) H
theorem sh:aN ["self"] ["self"] (ay jq):=by subst_eqs
theorem rO (F:Fun K "alphabet" "Code.alphabet" jq f fd) (T:Bl mg) (AF:AdF K mg Ad) :bU P w K mg base (CX1 P w) 1 f fd ["self"] (iE Ad):=by
 refine F.okX (k:=0) sh ?_ ?_
 ·bv_decide
 ·right;obtain⟨a,al,ws,r,rfl,⟨dx,q,h1,h2⟩,k⟩:=h;refine⟨_,ao (aK (cH (K:=K) rfl (pvL 0))),?_⟩;ac_nf;exact⟨_,dx,_,_,h1,AF.c_Code,AF.n_Code_letters,eh al q r,k⟩
noncomputable def jt (Ad:Ads):Sp:=fun vs H Q _=>∃ (a:Addr) (al:Za) (ws:Zb) (r:Int),vs=[.ref a]/\cI Ad H a al ws r/\nw H (.lst (ws.map V.int)) Q
theorem tf:aN ["self"] ["self"] (ay jK):=by subst_eqs
theorem sX (F:Fun K "weights" "Code.weights" jK f fd) (T:Bl mg) (AF:AdF K mg Ad) :bU P w K mg base (CX1 P w) 1 f fd ["self"] (jt Ad):=by
 refine F.okX (k:=0) tf ?_ ?_
 ·bv_decide
 ·right;obtain⟨a,al,ws,r,rfl,⟨dx,q,h1,h2⟩,k⟩:=h;refine⟨_,ao (aK (ei (i9 (K:=K) rfl rfl) T.list km (aj (cH (K:=K) rfl (pvL 0)) (ae)))),?_⟩;ac_nf;exact⟨_,dx,_,_,h1,AF.c_Code,AF.n_Code_factors,gb al q r,_,.inl (.l h2),k⟩
noncomputable def fX (Ad:Ads):Sp:=fun vs H Q _=>∃ (a:Addr) (al:Za) (ws:Zb) (r:Int),vs=[.ref a]/\cI Ad H a al ws r/\al.length<=26/\1<=ws.length/\ws.length<=8/\∀ H',az H H'->Q (.int ((al.length:Int)^(ws.length-1))) H'
theorem j4:aN ["self","product","weight"] ["self"] (ay mY):=by subst_eqs
theorem xf (F:Fun K "many" "Code.many" mY f fd) (T:Bl mg) (AF:AdF K mg Ad) :bU P w K mg base (CX1 P w) 1 f fd ["self"] (fX Ad):=by
 refine F.okX (k:=0) j4 ?_ ?_
 ·bv_decide
 ·right;obtain⟨a,al,ws,r,rfl,⟨dx,q,h1,h2⟩,h26,hw1,hw8,k⟩:=h;refine⟨_,ai (aF (i:=1) j4.nd (au)) (ai (eZ cB rfl (cE (K:=K) rfl (cU (iT (K:=K) rfl) (cH (K:=K) rfl (pvL 0)) (dQ (au)) (eI))) (aR (i:=2) j4.nd) (ao (aF (i:=1) j4.nd (aA ml (pvL 1) (ax (aL (K:=K) rfl) T.len bH (aj (cH (K:=K) rfl (pvL 0)) (ae))))))) (ao (aK (pvL 1)))),?_⟩;symm;rw[dR];symm;rw[dR];symm;refine⟨_,dx,_,_,h1,AF.c_Code,AF.n_Code_factors,gb al q r,?_⟩;symm;refine⟨_,.of h2,fun p H1 hp s1 h3=>.inl ⟨⟨_,.of h3⟩,?_⟩⟩;rw[show (1:Int)=((1:Nat):Int) from rfl,fA,←gj] at h3;refine tF (xs:=(ws.drop 1).map V.int) (fun i σ H'=>H'=H1/\∃ o,σ=[some (.ref a),some (.int ((al.length:Int)^i)),o]) ?_ ?_ ?_ ?_
  ·exact⟨rfl,none,by simp⟩
  ·rintro i σ H' _ ⟨rfl,_⟩;exact .of h3
  ·rintro i x σ H' hx ⟨rfl,o,rfl⟩;have hi:i<ws.length-1:=by
    have:=(b7.mp hx).1;rw[ag,cf] at this;exact this
   ac_nf;refine⟨_,dx,_,_,s1 _ _ h1,AF.c_Code,AF.n_Code_letters,eh al q r,?_⟩;ac_nf;rw[bC];refine⟨aQ (aq (by lia)),⟨?_,bK (show ((al.length:Int)).natAbs<1000 by lia) Zd⟩,trivial,some x,?_⟩
   ·have e:(((al.length:Int))^i).natAbs=al.length^i:=by rw[Int.natAbs_pow];rfl
    rw[e];refine cV (rb h26 i) (cV (jZ Zd (show i<=8 by lia)) Zd)
   ·rw[←Int.pow_succ]
  ·rintro σ H' ⟨rfl,o,rfl⟩;rw[ag,cf];ac_nf;exact k _ s1
noncomputable def ny:Sp:=fun vs H Q _=>∃ (m:Nat) (q:Addr) (ps:Zb),vs=[.int m,.ref q]/\H q=some (.lst (ps.map V.int))/\m<=26/\ps.length<=8/\∀ D vs' H',H D=none->az H H'->H' D=some (.lst vs')->iL H' vs' (vj m ps)->Q (.ref D) H'
theorem fL:aN ["m","places","made","at","place","other"] ["m","places"] (ay kK):=by subst_eqs
theorem u4 (F:Fun K "by_exchange" "by_exchange" kK f fd) (T:Bl mg) (AF:AdF K mg Ad) :bU P w K mg base (CX1 P w) 1 f fd ["m","places"] ny:=by
 refine F.okX (k:=0) fL ?_ ?_
 ·bv_decide
 ·right;obtain⟨m,q,ps,rfl,hq,m26,p8,k⟩:=h;refine⟨_,ai (aF (i:=2) fL.nd (cy (ae))) (ai (eZ cB rfl (uG (K:=K) rfl T.enumerate (aj (pvL 1) (ae))) (qA (K:=K) (n:=2) rfl rfl (gd (aR (i:=3) fL.nd) (gd (aR (i:=4) fL.nd) (qB)))) (ao (eZ cB rfl (eE T.range (aj (pvL 0) (ae))) (aR (i:=5) fL.nd) (ao (bT (aX (gC (K:=K) rfl hu) (pvL 5) (pvL 4) (bc _)) (ao (dW (dS (K:=K) rfl fv gu gv eM (pvL 2) (aj (aA aH (aA aH (cU (iT (K:=K) rfl) (pvL 1) (eI) (dQ (pvL 3))) (cy (aj (pvL 5) (ae)))) (cU (iT (K:=K) rfl) (pvL 1) (dQ (aA aH (pvL 3) (au))) (eI))) (ae))))) (bh)))))) (ao (aK (pvL 2)))),?_⟩;grind;refine⟨bj _,fun D H1 hD s1 h1=>?_⟩;cbv;have hD0:H D=none:=hD;grind;refine⟨q,rfl,⟨_,.of (s1 _ _ hq)⟩,?_⟩;refine vM (xs:=ps.map V.int) (fun i σ H'=>(∃ o3 o4 o5,σ=[some (V.int m),some (V.ref q),some (V.ref D),o3,o4,o5])/\az H H'/\∃ vs',H' D=some (.lst vs')/\vs'.length<=26*i/\(∀ v∈vs',v≠V.ref D)/\iL H' vs' ((List.range i).flatMap (exI m ps))) ?_ ?_ ?_ ?_
  ·exact⟨⟨_,_,_,rfl⟩,s1,[],h1,bj _,(fun v hv=>by cases hv),.nil⟩
  ·rintro i σ H' _ ⟨_,s,_⟩;exact .of (s _ _ hq)
  ·rintro i x σ A1 hx ⟨⟨o3,o4,o5,rfl⟩,sA,vs2,h2,l2,hd2,hv2⟩ N hNx p A2 zp t0 g0;clear hN;obtain⟨w,hwi,rfl⟩:=yx hx;have hi1:i<ps.length:=(b7.mp hwi).1;refine⟨p,_,rfl,.of g0,rfl,?_⟩;have h2':=t0 _ _ h2;have hv2':=hv2.keep fun b ns e=>t0 _ _ e;have sA':=sA.trans t0;clear h2 hv2 g0 zp t0 sA;rw[lO,List.flatMap_append,List.flatMap_singleton] at hNx;have ew:ps.getD i 0=w:=by rw[bz,hwi];rfl
   generalize (List.range i).flatMap (exI m ps)=base at hv2' hNx;symm;refine⟨by lia,by lia,lp (fun j σ H'=>(∃ o5,σ=[some (V.int m),some (V.ref q),some (V.ref D),some (V.int (i:Int)),some (V.int w),o5])/\az H H'/\∃ vs',H' D=some (.lst vs')/\vs'.length<=26*i+j/\(∀ v∈vs',v≠V.ref D)/\iL H' vs' (base++((Mk.ofN j).filter fun o=>!decide (o=ps.getD i 0)).map fun o=>putN ps i o)) ?_ ?_ ?_⟩
   ·exact⟨⟨_,rfl⟩,sA',vs2,h2',l2,hd2,by show iL _ _ (base++[]);rw[fR];exact hv2'⟩
   ·rintro j σ H3 hj ⟨⟨o5,rfl⟩,s3,vs3,h3,l3,hd3,hv3⟩ N2 hN2;clear hNx;have hj':j<m:=by lia
    rw[Gi,gi,bu,←dN] at hN2;have hq3:=s3 _ _ hq;have tl:(ps.take i).length<=8:=aV (by rw[bI];exact og _ _) p8;have dl:(ps.drop (i+1)).length<=8:=by rw[cf];lia
    symm;rw[show 0+(j:Int)=(j:Int) from jU _]
    by_cases he:(j:Int)=w
    ·rw[aw he];bv_omega;refine hN2 _ _ ⟨⟨_,rfl⟩,s3,vs3,h3,by lia,hd3,?_⟩;rw[nN (by rw[ew,aw he];decide),List.filter_nil,jf,fR];exact hv3
    ·rw[av he];bv_omega;refine⟨.inl ⟨rfl,_,.of h3⟩,_,.of hq3,fun p1 G1 w1 t1 g1=>⟨aQ (aq Zd),fun p2 G2 w2 t2 g2=>⟨_,_,t2 _ _ g1,g2,?_,fun p3 G3 w3 t3 g3=>⟨_,.of ((t1.trans (t2.trans t3)) _ _ hq3),fun p4 G4 w4 t4 g4=>⟨_,_,t4 _ _ g3,g4,?_,fun p5 G5 w5 t5 g5=>?_⟩⟩⟩⟩⟩
     ·rw[lZ,←jg,ag];exact aQ (aq (by simp;lia))
     ·rw[lZ,show (i:Int)+1=((i+1:Nat):Int) from rfl,fA,←jg,←gj,aB,ag,ag];exact aQ (aq (by simp;lia))
     have t35:=t1.trans (t2.trans (t3.trans (t4.trans t5)));have h35:=t35 _ _ h3;rw[lZ,show (i:Int)+1=((i+1:Nat):Int) from rfl,fA,←jg,←gj,show [V.int (j:Int)]=[(j:Int)].map V.int from rfl,←bu,←bu] at g5;have n5:p5≠D:=b9 (t4 _ _ (t3 _ _ (t2 _ _ (t1 _ _ h3)))) w5 |>.symm
     rw[nO (by rw[ew,av he];rfl),List.filter_nil,lM] at hN2;refine⟨D,_,_,rfl,rfl,h35,aq (by lia),hN2 _ _ ⟨⟨_,rfl⟩,(s3.trans t35).cF hD0,_,aE,by rw[aB,cN];lia,fun v hv=>?_,iP (iL.vQ hv3 hd3 fun b o hb e=>by rw[aJ hb];exact t35 _ _ e) (.cons ⟨p5,rfl,by rw[aJ n5];exact g5⟩ .nil)⟩⟩;rcases bE.mp hv with hv | hv
     ·exact hd3 v hv
     ·rw[bg.mp hv];exact fun z=>n5 (by cases z;rfl)
   ·rintro σ H3 ⟨⟨o5,rfl⟩,s3,vs3,h3,l3,hd3,hv3⟩;exact hNx _ _ ⟨⟨_,_,_,rfl⟩,s3,vs3,h3,by lia,hd3,hv3⟩
  ·rintro σ H2 ⟨⟨o3,o4,o5,rfl⟩,s2,vs2,h2,l2,hd2,hv2⟩;show nn _ _ _;cbv;symm;rw[ag] at hv2;exact k D vs2 H2 hD0 s2 h2 hv2
noncomputable def uU:Sp:=fun vs H Q _=>∃ (q:Addr) (ps:Zb),vs=[.ref q]/\H q=some (.lst (ps.map V.int))/\ps.length<=8/\1<=ps.length/\∀ D vs' H',H D=none->az H H'->H' D=some (.lst vs')->iL H' vs' (zv ps)->Q (.ref D) H'
theorem pU:aN ["places","made","at"] ["places"] (ay rW):=by subst_eqs
theorem A8 (F:Fun K "by_swap" "by_swap" rW f fd) (T:Bl mg) (AF:AdF K mg Ad) :bU P w K mg base (CX1 P w) 1 f fd ["places"] uU:=by
 refine F.okX (k:=0) pU ?_ ?_
 ·bv_decide
 ·right;obtain⟨q,ps,rfl,hq,p8,p1,k⟩:=h;refine⟨_,ai (aF (i:=1) pU.nd (cy (ae))) (ai (eZ cB rfl (eE T.range (aj (aA gz (ax (aL (K:=K) rfl) T.len bH (aj (pvL 0) (ae))) (au)) (ae))) (aR (i:=2) pU.nd) (ao (bT (aX (gC (K:=K) rfl hu) (bZ (cT (K:=K) rfl) (pvL 0) (pvL 2) (fun _ _=>rfl)) (bZ (cT (K:=K) rfl) (pvL 0) (aA aH (pvL 2) (au)) (fun _ _=>rfl)) (bc _)) (ao (dW (dS (K:=K) rfl fv gu gv eM (pvL 1) (aj (aA aH (aA aH (cU (iT (K:=K) rfl) (pvL 0) (eI) (dQ (pvL 2))) (cy (aj (bZ (cT (K:=K) rfl) (pvL 0) (aA aH (pvL 2) (au)) (fun _ _=>rfl)) (aj (bZ (cT (K:=K) rfl) (pvL 0) (pvL 2) (fun _ _=>rfl)) (ae))))) (cU (iT (K:=K) rfl) (pvL 0) (dQ (aA aH (pvL 2) (au))) (eI))) (ae))))) (bh)))) (ao (aK (pvL 1)))),?_⟩;grind;refine⟨bj _,fun D H1 hD s1 h1=>?_⟩;cbv;have hD0:H D=none:=hD;grind;refine⟨_,.inl (.of (s1 _ _ hq)),?_⟩;rw[ag];refine⟨by lia,by lia,lp (fun i σ H'=>(∃ o2,σ=[some (V.ref q),some (V.ref D),o2])/\az H H'/\∃ vs',H' D=some (.lst vs')/\vs'.length<=i/\(∀ v∈vs',v≠V.ref D)/\iL H' vs' (((List.range i).filter fun i=>!decide (ps.getD i 0=ps.getD (i+1) 0)).map (J8 ps))) ?_ ?_ ?_⟩
  ·exact⟨⟨_,rfl⟩,s1,[],h1,bj _,(fun v hv=>by cases hv),.nil⟩
  ·rintro i σ H3 hi ⟨⟨o2,rfl⟩,s3,vs3,h3,l3,hd3,hv3⟩ N hNx;clear hN;have hi':i+1<ps.length:=by lia
   have hq3:=s3 _ _ hq;rw[lO,gi,bu] at hNx;have x0:(ps.map V.int)[i]?=some (V.int (ps.getD i 0)):=by rw[aT,getD_some (by lia)];rfl
   have x1:(ps.map V.int)[i+1]?=some (V.int (ps.getD (i+1) 0)):=by rw[aT,getD_some (by lia)];rfl
   symm;rw[show 0+(i:Int)=(i:Int) from jU _];have a0:atI (ps.map V.int) (i:Int)=some (V.int (ps.getD i 0)):=cR (by lia) (by rw[dw];exact x0);have a1:atI (ps.map V.int) ((i:Int)+1)=some (V.int (ps.getD (i+1) 0)):=cR (by lia) (by rw[show ((i:Int)+1).toNat=i+1 by lia];exact x1);refine⟨_,_,.inl (.of hq3),a0,_,_,.inl (.of hq3),a1,?_⟩;symm
   by_cases he:ps.getD i 0=ps.getD (i+1) 0
   ·rw[aw he];bv_omega;refine hNx _ _ ⟨⟨_,rfl⟩,s3,vs3,h3,by lia,hd3,?_⟩;rw[nN (by rw[aw he];decide),List.filter_nil,jf,fR];exact hv3
   ·rw[av he];bv_omega;have tl:(ps.take i).length<=8:=aV (by rw[bI];exact og _ _) p8;have dl:(ps.drop (i+2)).length<=8:=by rw[cf];lia
    refine⟨.inl ⟨rfl,_,.of h3⟩,_,.of hq3,fun p1 G1 w1 t1 g1=>⟨_,_,.inl (.of (t1 _ _ hq3)),a1,_,_,.inl (.of (t1 _ _ hq3)),a0,aQ (aq Zd),fun p2 G2 w2 t2 g2=>⟨_,_,t2 _ _ g1,g2,?_,fun p3 G3 w3 t3 g3=>⟨_,.of ((t1.trans (t2.trans t3)) _ _ hq3),fun p4 G4 w4 t4 g4=>⟨_,_,t4 _ _ g3,g4,?_,fun p5 G5 w5 t5 g5=>?_⟩⟩⟩⟩⟩
    ·rw[lZ,←jg,ag];exact aQ (aq (by simp;lia))
    ·rw[lZ,show (i:Int)+2=((i+2:Nat):Int) from rfl,fA,←jg,←gj,aB,ag,ag];exact aQ (aq (by simp;lia))
    have t35:=t1.trans (t2.trans (t3.trans (t4.trans t5)));have h35:=t35 _ _ h3;rw[lZ,show (i:Int)+2=((i+2:Nat):Int) from rfl,fA,←jg,←gj,show [V.int (ps.getD (i+1) 0),V.int (ps.getD i 0)]=[ps.getD (i+1) 0,ps.getD i 0].map V.int from rfl,←bu,←bu] at g5;have n5:p5≠D:=b9 (t4 _ _ (t3 _ _ (t2 _ _ (t1 _ _ h3)))) w5 |>.symm
    rw[nO (by rw[av he];rfl),List.filter_nil,lM] at hNx;refine⟨D,_,_,rfl,rfl,h35,aq (by lia),hNx _ _ ⟨⟨_,rfl⟩,(s3.trans t35).cF hD0,_,aE,by rw[aB,cN];lia,fun v hv=>?_,iP (iL.vQ hv3 hd3 fun b o hb e=>by rw[aJ hb];exact t35 _ _ e) (.cons ⟨p5,rfl,by rw[aJ n5];exact g5⟩ .nil)⟩⟩;rcases bE.mp hv with hv | hv
    ·exact hd3 v hv
    ·rw[bg.mp hv];exact fun z=>n5 (by cases z;rfl)
  ·rintro σ H3 ⟨⟨o2,rfl⟩,s3,vs3,h3,l3,hd3,hv3⟩;show nn _ _ _;cbv;symm;rw[show (((ps.length:Nat):Int)-1).toNat=ps.length-1 by lia] at hv3;exact k D vs3 H3 hD0 s3 h3 hv3
inductive mD (vs:List V) (H:Hp) (Q:VK) (E:XK):Prop
 | mk (a b:Addr) (ws:List V) (xss:List (List V)) (at_:Nat) (cs:Zb) (q0:vs=[.ref a,.int at_,.ref b]) (q1:H a=some (.lst ws)) (q2:kX H ws xss) (q3:H b=some (.lst (cs.map V.int))) (q4:cs.length<=26) (q5:xss.length<=1000) (q6:(∀ ns∈xss,ns.length<=1400)) (q7:at_<=1400) (q8:∀ D vs' H',H D=none->az H H'->H' D=some (.lst vs')->kX H' vs' (xss.flatMap fun ns=>cs.map fun c=>oR ns at_ (V.int c))->Q (.ref D) H'):mD vs H Q E
theorem j5:aN ["lists","at","choices","made","numbers","choice"] ["lists","at","choices"] (ay nt):=by subst_eqs
theorem xp (F:Fun K "with_each" "with_each" nt f fd) (T:Bl mg) (AF:AdF K mg Ad) :bU P w K mg base (CX1 P w) 1 f fd ["lists","at","choices"] mD:=by
 refine F.okX (k:=0) j5 ?_ ?_
 ·bv_decide
 ·right;obtain⟨a,b,ws,xss,at_,cs,rfl,ha,hn,hb,c26,n1,n8,t8,k⟩:=h;refine⟨_,ai (aF (i:=3) j5.nd (cy (ae))) (ai (eZ cB rfl (cE (K:=K) rfl (pvL 0)) (aR (i:=4) j5.nd) (ao (eZ cB rfl (cE (K:=K) rfl (pvL 2)) (aR (i:=5) j5.nd) (ao (dW (dS (K:=K) rfl fv gu gv eM (pvL 3) (aj (aA aH (aA aH (cU (iT (K:=K) rfl) (pvL 4) (eI) (dQ (pvL 1))) (cy (aj (pvL 5) (ae)))) (cU (iT (K:=K) rfl) (pvL 4) (dQ (aA aH (pvL 1) (au))) (eI))) (ae)))))))) (ao (aK (pvL 3)))),?_⟩;have lw:ws.length=xss.length:=Paired.length hn;grind;refine⟨bj _,fun D H1 hD s1 h1=>?_⟩;cbv;have hD0:H D=none:=hD;grind;refine .inl ⟨⟨_,.of (s1 _ _ ha)⟩,lj (xs:=ws) (fun i σ H'=>(∃ o4 o5,σ=[some (V.ref a),some (V.int at_),some (V.ref b),some (V.ref D),o4,o5])/\az H H'/\∃ vs',H' D=some (.lst vs')/\(∀ v∈vs',v≠V.ref D)/\kX H' vs' ((xss.take i).flatMap fun ns=>cs.map fun c=>oR ns at_ (V.int c))) ?_ ?_ ?_ ?_⟩
  ·exact⟨⟨_,_,rfl⟩,s1,[],h1,(fun v hv=>by cases hv),.nil⟩
  ·rintro i σ H' hi ⟨_,h,_⟩;exact .of (h _ _ ha)
  ·rintro i v σ H2 hi ⟨⟨o4,o5,rfl⟩,s2,vs2,h2,hd2,hv2⟩ N hNx;clear hN;obtain⟨ns,hns,q,rfl,hq⟩:=oH hn hi;have hq2:=s2 _ _ hq;have nsl:=n8 ns (bQ hns);have hi1:i<ws.length:=(b7.mp hi).1;have htk:xss.take (i+1)=xss.take i++[ns]:=by rw[iy,hns];rfl
   rw[htk,List.flatMap_append,List.flatMap_singleton] at hNx;have lv2:vs2.length<=26000:=by rw[Paired.length hv2];refine aV (yp (m:=26) fun x _=>by rw[ag];exact c26) ?_;have:(xss.take i).length<=1000:=aV (by rw[bI];exact og _ _) n1;lia
   generalize ((xss.take i).flatMap fun ns=>cs.map fun c=>oR ns at_ (V.int c))=base at hv2 hNx;symm;refine .inl ⟨⟨_,.of (s2 _ _ hb)⟩,lj (xs:=cs.map V.int) (fun j σ H'=>(∃ o5,σ=[some (V.ref a),some (V.int at_),some (V.ref b),some (V.ref D),some (V.ref q),o5])/\az H H'/\∃ vs',H' D=some (.lst vs')/\vs'.length=vs2.length+j/\(∀ v∈vs',v≠V.ref D)/\kX H' vs' (base++(cs.take j).map fun c=>oR ns at_ (V.int c))) ?_ ?_ ?_ ?_⟩
   ·exact⟨⟨_,rfl⟩,s2,vs2,h2,rfl,hd2,by simpa using hv2⟩
   ·rintro j σ H' hj ⟨_,h,_⟩;exact .of (h _ _ hb)
   ·rintro j v σ H3 hj ⟨⟨o5,rfl⟩,s3,vs3,h3,l3,hd3,hv3⟩ N2 hN2;clear hNx;rw[aT] at hj;obtain⟨c,hc,rfl⟩:=dO.mp hj;have hjl:j<cs.length:=(b7.mp hc).1;have htk2:cs.take (j+1)=cs.take j++[c]:=by rw[iy,hc];rfl
    rw[htk2,bu,←dN] at hN2;have hq3:=s3 _ _ hq;have hvl:vs3.length<=30000:=by lia
    have tl:(ns.take at_).length<=1400:=aV (by rw[bI];exact og _ _) nsl;have dl:(ns.drop (at_+1)).length<=1400:=by rw[cf];lia
    symm;refine⟨.inl ⟨rfl,_,.of h3⟩,_,.of hq3,fun p1 G1 w1 t1 g1=>⟨aQ (aq Zd),fun p2 G2 w2 t2 g2=>⟨_,_,t2 _ _ g1,g2,?_,fun p3 G3 w3 t3 g3=>⟨_,.of ((t1.trans (t2.trans t3)) _ _ hq3),fun p4 G4 w4 t4 g4=>⟨_,_,t4 _ _ g3,g4,?_,fun p5 G5 w5 t5 g5=>?_⟩⟩⟩⟩⟩
    ·rw[lZ];exact aQ (aq (by simp;lia))
    ·rw[lZ,show (at_:Int)+1=((at_+1:Nat):Int) from rfl,fA,aB];exact aQ (aq (by simp;lia))
    have t35:=t1.trans (t2.trans (t3.trans (t4.trans t5)));have h35:=t35 _ _ h3;rw[lZ,show (at_:Int)+1=((at_+1:Nat):Int) from rfl,fA] at g5;have n5:p5≠D:=b9 (t4 _ _ (t3 _ _ (t2 _ _ (t1 _ _ h3)))) w5 |>.symm
    refine⟨D,_,_,rfl,rfl,h35,aq (by lia),hN2 _ _ ⟨⟨_,rfl⟩,(s3.trans t35).cF hD0,_,aE,by rw[aB,cN];lia,fun v hv=>?_,iP (kX.vQ hv3 hd3 fun b o hb e=>by rw[aJ hb];exact t35 _ _ e) (.cons ⟨p5,rfl,by rw[aJ n5];exact g5⟩ .nil)⟩⟩;rcases bE.mp hv with hv | hv
    ·exact hd3 v hv
    ·rw[bg.mp hv];exact fun z=>n5 (by cases z;rfl)
   ·rintro σ H3 ⟨⟨o5,rfl⟩,s3,vs3,h3,l3,hd3,hv3⟩;rw[ag,oa] at hv3;exact hNx _ _ ⟨⟨_,_,rfl⟩,s3,vs3,h3,hd3,hv3⟩
  ·rintro σ H2 ⟨⟨o4,o5,rfl⟩,s2,vs2,h2,hd2,hv2⟩;show nn _ _ _;cbv;symm;rw[fq (by lia)] at hv2;exact k D vs2 H2 hD0 s2 h2 hv2
noncomputable def jP:Sp:=fun vs H Q _=>∃ (x:V) (t:Tg) (n:Nat),vs=[x,.int n]/\fj H x=some t/\(∀ z,x=.str z->z.length<=100000)/\n<=1000/\∀ H',az H H'->Q (.bl (iF n x)) H'
theorem uN:aN ["thing","most"] ["thing","most"] (ay kI):=by subst_eqs
theorem uy (F:Fun K "are_letters" "are_letters" kI f fd) (T:Bl mg) (AF:AdF K mg Ad) :bU P w K mg base (CX1 P w) 1 f fd ["thing","most"] jP:=by
 refine F.okX (k:=0) uN ?_ ?_
 ·bv_decide
 ·right;obtain⟨x,t,n,rfl,ht,hz,hn,k⟩:=h;refine⟨_,ai (bT ((iR (cM (cD (ax (fz .str) T.isinstance bt_isinstance (aj (pvL 0) (aj (kC T.str tR) (ae)))))) (gE (cM (qD jo jo (au) (ax (aL (K:=K) rfl) T.len bH (aj (pvL 0) (ae))) (pvL 1))))).pt) (ao (aK (kx))) (bh)) (ao (aK (ax (i8 (K:=K) rfl rfl) T.all oY (aj (gO ["sign"] rfl ⟨rfl,by nofun,rfl,by nofun⟩ (.nil) (by nofun) (cE (K:=K) rfl (pvL 0)) (fun _ _ _ _=>aR (i:=0) (show (["sign"]:Ze).Nodup from by nofun)) (fun _ _ _ _=>eG) (fun _ _ _ _=>cZ (rQ (K:=K) rfl hu1) (pvL 0) (eN AF.v_SMALL_LETTERS) (by ext))) (ae))))),?_⟩
  by_cases hs:∃ z,x=.str z
  ·obtain⟨z,rfl⟩:=hs;cases ht;have hl:=hz z rfl;have hc:=dP z;have ek:iF n (.str z)=dH n z.cps.toList:=rfl;ac_nf;refine⟨trivial,Tg.str,rfl,?_⟩;ac_nf;refine⟨aQ (aq (by lia)),?_⟩
   by_cases h1:1<=z.length
   ·rw[aw (show (1:Int)<=(z.length:Int) by lia)];bv_omega
    by_cases h2:z.length<=n
    ·rw[aw (show (z.length:Int)<=(n:Int) by lia)];bv_omega;refine vm (fun c:Nat=>V.str ⟨#[c]⟩) wO (xI z) (aq (by lia)) (fun c=>.bl (decide (97<=c/\c<123))) ?_ ?_
     ·intro c hc H2 s2 R hR;ac_nf;rw[Ap,vv];have e2:decide (c∈List.range' 97 26)=decide (97<=c/\c<123):=decide_eq_decide.mpr (by rw[List.mem_range'_1]);rw[e2];exact hR H2 (az.refl _)
     ·intro D H2 hD s2 h2';refine⟨D,z.cps.toList.map fun c=>decide (97<=c/\c<123),rfl,.of (by rw[h2',aI];rfl),?_⟩;have e:(z.cps.toList.map fun c=>decide (97<=c/\c<123)).all id=iF n (.str z):=by
       rw[ek];unfold dH;rw[aw (show 1<=z.cps.toList.length by lia),aw (show z.cps.toList.length<=n by lia),fQ];rfl
      rw[e];exact k H2 s2
    ·have e:iF n (.str z)=false:=by rw[ek];unfold dH;rw[av (show ¬ z.cps.toList.length<=n by lia)];simp
     rw[e] at k;rw[av (show ¬ (z.length:Int)<=(n:Int) by lia)];bv_omega;exact k H (az.refl _)
   ·have e:iF n (.str z)=false:=by rw[ek];unfold dH;rw[av (show ¬ 1<=z.cps.toList.length by lia)];simp
    rw[e] at k;rw[av (show ¬ (1:Int)<=(z.length:Int) by lia)];bv_omega;exact k H (az.refl _)
  ·have hv:iF n x=false:=by
    cases x with
    | str z=>exact absurd ⟨z,rfl⟩ hs
    | _=>rfl
   have hne:=qQ ht fun z e=>hs ⟨z,e⟩;rw[hv] at k;ac_nf;refine⟨trivial,t,ht,?_⟩;cases t<;>first
    | exact absurd rfl hne
    | exact k H (az.refl _)
noncomputable def qN:Sp:=fun vs H Q _=>∃ (t:Addr) (key:List Key) (s:SSt),vs=[.ref t,.int s.1.length,.str (tx s.2)]/\H t=some (.tup (key.map kV))/\jm key/\qh s/\∀ H',az H H'->Q (.bl (stepK key s).isSome) H'
theorem xG:aN ["entry","many","spelling"] ["entry","many","spelling"] (ay ng):=by subst_eqs
theorem xj (F:Fun K "can_stand" "can_stand" ng f fd) (T:Bl mg) (AF:AdF K mg Ad) :bU P w K mg base (CX1 P w) 1 f fd ["entry","many","spelling"] qN:=by
 refine F.okX (k:=0) xG ?_ ?_
 ·bv_decide
 ·right;obtain⟨t,key,s,rfl,ht,ok,say,k⟩:=h;refine⟨_,ai (bT (aX (cL (K:=K) rfl hu) (bZ (cT (K:=K) rfl) (pvL 0) (au) (fun _ _=>rfl)) (aY) (bc _)) (ao (aK (pA (cZ (cL (K:=K) rfl hu) (pvL 2) (aY) (bc _)) (mU (cZ jo (aA aH (pvL 1) (ax (aL (K:=K) rfl) T.len bH (aj (dS (K:=K) rfl gq rl rp qu (bZ (cT (K:=K) rfl) (pvL 0) (au) (fun _ _=>rfl)) (aj (aY) (ae))) (ae)))) (eN AF.v_MOST_WORDS) (bc _)))))) (bh)) (ai (bT (aX (cL (K:=K) rfl hu) (bZ (cT (K:=K) rfl) (pvL 0) (au) (fun _ _=>rfl)) (aY) (bc _)) (ao (aK (pA (cZ xq (pvL 1) (eN AF.v_MOST_WORDS) (bc _)) (mU (cZ jo (aA aH (ax (aL (K:=K) rfl) T.len bH (aj (pvL 2) (ae))) (ax (aL (K:=K) rfl) T.len bH (aj (bZ (cT (K:=K) rfl) (pvL 0) (au) (fun _ _=>rfl)) (ae)))) (eN AF.v_LONGEST_WORD) (bc _)))))) (bh)) (ao (aK (cZ (gC (K:=K) rfl hu) (pvL 2) (aY) (bc _))))),?_⟩;have big:∀ {u:Nat},u<=10000->u<=sizeLine:=fun hu=>aQ (aq (by lia));have l2:=say.len;have few:=say.few;have e0:Str.ofString ""=tx []:=rfl;have de:decide (tx s.2=Str.ofString "")=decide (s.2=[]):=by rw[e0,uZ]
  rcases iM ok with ⟨l,rfl,hl⟩ | ⟨l,rfl,hl⟩ | rfl
  ·have ht':H t=some (.tup [.str ("phrase":Str),.str (tx l)]):=ht;have hs:l.length<=10000:=by
    have:=ok.short (tx l) (by simp [kV])
    rwa [bC] at this
   obtain⟨w6,_⟩:=Bs hl;grind;refine⟨_,_,.inr (.of ht'),cR Zd rfl,?_⟩;symm;rw[ah (by rfl),de];rw[fO] at k
   by_cases h2:s.2=[]
   ·rw[ah (aw h2)];refine⟨_,_,.inr (.of ht'),cR Zd rfl,rfl,?_⟩;symm;refine⟨by rw[bC];lia,32,rfl,fun p H1 hp s1 h1=>?_⟩;rw[bG] at h1;symm;refine⟨_,.inl (.of h1),?_⟩;rw[ag];symm;have e:(some (s.1++Mk.bw 32 l,([]:Za))).isSome=true:=rfl
    by_cases hc:s.1.length+(Mk.bw 32 l).length<=60
    ·rw[ah ⟨h2,hc⟩] at k;rw[aw (show (s.1.length:Int)+((Mk.bw 32 l).length:Int)<=60 by lia)];exact k H1 s1
    ·rw[af (fun z=>hc z.2)] at k;rw[av (show ¬ (s.1.length:Int)+((Mk.bw 32 l).length:Int)<=60 by lia)];exact k H1 s1
   ·rw[af (by rw[av h2];decide)];rw[af (fun z=>h2 z.1)] at k;exact k H (az.refl _)
  ·have ht':H t=some (.tup [.str ("part":Str),.str (tx l)]):=ht;obtain⟨w1,w6,_⟩:=rK hl;grind;refine⟨_,_,.inr (.of ht'),cR Zd rfl,?_⟩;symm;rw[af (by decide)];show nn _ _ _;cbv;grind;refine⟨_,_,.inr (.of ht'),cR Zd rfl,?_⟩;symm;rw[ah (by rfl)];rw[jA] at k
   by_cases h1:s.1.length<60
   ·rw[ah (aw (by lia))];rw[bC];refine⟨big (by lia),_,_,.inr (.of ht'),cR Zd rfl,?_⟩;symm;rw[bC];refine⟨big (by lia),?_⟩
    by_cases hc:s.2.length+l.length<=20
    ·rw[ah ⟨h1,hc⟩] at k;rw[aw (show (s.2.length:Int)+(l.length:Int)<=20 by lia)];exact k H (az.refl _)
    ·rw[af (fun z=>hc z.2)] at k;rw[av (show ¬ (s.2.length:Int)+(l.length:Int)<=20 by lia)];exact k H (az.refl _)
   ·rw[af (by rw[av (by lia)];decide)];rw[af (fun z=>h1 z.1)] at k;exact k H (az.refl _)
  ·have ht':H t=some (.tup [.str ("end":Str)]):=ht;grind;refine⟨_,_,.inr (.of ht'),cR Zd rfl,?_⟩;symm;rw[af (by decide)];show nn _ _ _;cbv;grind;refine⟨_,_,.inr (.of ht'),cR Zd rfl,?_⟩;symm;rw[af (by decide)];show nn _ _ _;cbv;symm;rw[de];rw[lE] at k
   by_cases h2:s.2=[]
   ·rw[ah h2] at k;rw[aw h2];exact k H (az.refl _)
   ·rw[af h2] at k;rw[av h2];exact k H (az.refl _)
noncomputable def m6 (Ad:Ads):Sp:=fun vs H Q _=>∃ (b dx ca:Addr),vs=[.ref b,.ref ca]/\H b=some (.ins Ad.Book dx [])/\∀ dn de H',H dn=none->H de=none->dn≠de->dn≠b->de≠b->(∀ c u,c≠b->H c=some u->H' c=some u)->H' b=some (.ins Ad.Book dx (tQ ca dn de))->H' dn=some (.dK [])->H' de=some (.dT [])->Q .non H'
theorem xF:aN ["self","code"] ["self","code"] (ay gP):=by subst_eqs
theorem xb (F:Fun K "__init__" "Book.__init__" gP f fd) (T:Bl mg) (AF:AdF K mg Ad) :bU P w K mg base (CX1 P w) 1 f fd ["self","code"] (m6 Ad):=by
 refine F.okX (k:=0) xF ?_ ?_
 ·bv_decide
 ·right;obtain⟨b,dx,ca,rfl,hb,k⟩:=h;refine⟨_,ai (oK (K:=K) rfl (pvL 0) (pvL 1)) (ai (oK (K:=K) rfl (pvL 0) (yQ)) (ao (oK (K:=K) rfl (pvL 0) (Eg)))),?_⟩;ac_nf;refine⟨_,_,_,hb,AF.c_Book,AF.n_Book_basis,Zd,fun p G1 z1 t1 g1=>?_⟩;have np1:p≠b:=fun e=>by rw[e,aE] at z1;cases z1
  have hb1:=t1 b _ aE;refine⟨_,_,_,hb1,AF.c_Book,AF.n_Book_by_number,cV (ar 1) Zd,fun p2 G2 z2 t2 g2=>?_⟩;have np2:p2≠b:=fun e=>by rw[e,aE] at z2;cases z2
  have hb2:=t2 b _ aE;have k1:∀ c u,c≠b->H c=some u->G1 c=some u:=fun c u hc h=>t1 c u (by rw[aJ hc];exact h);have k2:∀ c u,c≠b->G1 c=some u->G2 c=some u:=fun c u hc h=>t2 c u (by rw[aJ hc];exact h);have ne:p≠p2:=fun e=>by rw[←e,aJ np1,g1] at z2;cases z2
  refine⟨_,_,_,hb2,AF.c_Book,AF.n_Book_by_entry,cV (ar 2) Zd,k p p2 _ ?_ ?_ ne np1 np2 (fun c u hc h=>by rw[aJ hc];exact k2 c u hc (k1 c u hc h)) (by rw[aE];rfl) (by rw[aJ np1];exact k2 _ _ np1 g1) (by rw[aJ np2];exact g2)⟩
  ·cases e:H p with
   | none=>rfl
   | some o=>rw[aJ np1,e] at z1;cases z1
  ·cases e:H p2 with
   | none=>rfl
   | some o=>rw[aJ np2,k1 p2 o np2 e] at z2;cases z2
inductive dY (Ad:Ads) (vs:List V) (H:Hp) (Q:VK) (E:XK):Prop
 | mk (b ca dn de:Addr) (es:List Ben) (q0:vs=[.ref b]) (q1:eK Ad H b ca dn de es) (q2:Q (.ref ca) H):dY Ad vs H Q E
theorem xE:aN ["self"] ["self"] (ay mX):=by subst_eqs
theorem wZ (F:Fun K "code" "Book.code" mX f fd) (T:Bl mg) (AF:AdF K mg Ad) :bU P w K mg base (CX1 P w) 1 f fd ["self"] (dY Ad):=by
 refine F.okX (k:=0) xE ?_ (fun cdv A outer s H vs Q E hr h=>?_)
 ·bv_decide
 ·obtain⟨b,ca,dn,de,es,rfl,B,k⟩:=h;obtain⟨dx,h1⟩:=B.bk;have hu:=hr.nH;have hu1:=ug hr;refine⟨_,ao (aK (cH (K:=K) rfl (pvL 0))),?_⟩;ac_nf;exact⟨_,dx,_,_,h1,AF.c_Book,AF.n_Book_basis,kj ca dn de,k⟩
noncomputable def hV (K:Zf):Sp:=fun vs H Q _=>∃ (a:Addr) (ns:Zb) (k:Int),vs=[.ref a,.int k]/\SqL K H a (ns.map V.int)/\0<=k/\Q (.int (ns.getD k.toNat 0)) H
theorem uQ:aN ["_law_script","_law_k"] ["_law_script","_law_k"] (ay kM):=by subst_eqs
theorem u6 (F:Fun K "_law_cell_at" "_law_cell_at" kM f fd) (T:Bl mg) (AF:AdF K mg Ad) :bU P w K mg base (CX1 P w) 1 f fd ["_law_script","_law_k"] (hV K):=by
 refine F.okX (k:=0) uQ ?_ ?_
 ·bv_decide
 ·right;obtain⟨a,ns,i,rfl,hS,hi,k⟩:=h;refine⟨_,ai (bT (aX xq (pvL 1) (ax (aL (K:=K) rfl) T.len bH (aj (pvL 0) (ae))) (bc _)) (ao (aK (bZ (cT (K:=K) rfl) (pvL 0) (pvL 1) (fun _ _=>rfl)))) (bh)) (ao (aK (au))),?_⟩;ac_nf;refine⟨_,.inl hS,?_⟩;rw[ag]
  by_cases hlt:i<(ns.length:Int)
  ·rw[ah (aw hlt)];refine⟨_,.int (ns.getD i.toNat 0),.inl hS,?_,k⟩;have e:(ns.map V.int)[i.toNat]?=some (.int (ns.getD i.toNat 0)):=by
    rw[aT,bz,aO (by lia)];rfl
   have:=cu e
   rwa [nI hi] at this
  ·rw[af (by rw[bR];exact hlt)];have e:ns.getD i.toNat 0=0:=by rw[bz,ip (by lia)];rfl
   rw[e] at k;exact k
noncomputable def hZ:Sp:=fun vs H Q _=>∃ c:Int,vs=[.int c]/\Q (.int (DU c)) H
theorem qL:aN ["_law_cell","_law_many_here"] ["_law_cell"] (ay nj):=by subst_eqs
theorem xm (F:Fun K "_law_mixed" "_law_mixed" nj f fd) (T:Bl mg) (AF:AdF K mg Ad) :bU P w K mg base (CX1 P w) 1 f fd ["_law_cell"] hZ:=by
 refine F.okX (k:=0) qL ?_ ?_
 ·bv_decide
 ·right;obtain⟨c,rfl,k⟩:=h;refine⟨_,ai (aF (i:=1) qL.nd (au)) (ao (aK (aA cx (aA aH (aA ml (aA cx (pvL 0) (aA oG (au) (au))) (pvL 1)) (au)) (aA aH (aA oG (au) (au)) (au))))),?_⟩;ac_nf;have h1:0<=c%10^60:=cK _ Zd;have h2:c%10^60<10^60:=cQ _ Zd;refine⟨⟨Zd,Zd,Zd⟩,Zd,⟨?_,Zd⟩,⟨Zd,Zd,Zd⟩,Zd,k⟩;have e:(c%10^Int.toNat 60)=c%10^60:=rfl;rw[e];have h3:(10:Int)^60<=((2^1000:Nat):Int):=by decide
  lia
noncomputable def qO:Sp:=fun vs H Q _=>∃ n m:Int,vs=[.int n,.int m]/\0<=m/\Q (.bl (Mk.cop m n)) H
theorem qJ:aN ["_law_number","_law_m"] ["_law_number","_law_m"] (ay nh):=by subst_eqs
theorem xk (F:Fun K "_law_apart" "_law_apart" nh f fd) (T:Bl mg) (AF:AdF K mg Ad) :bU P w K mg base (CX1 P w) 1 f fd ["_law_number","_law_m"] qO:=by
 refine F.okX (k:=0) qJ ?_ ?_
 ·bv_decide
 ·right;obtain⟨n,m,rfl,hm,k⟩:=h;refine⟨_,ai (uJ cB (aX (gC (K:=K) rfl hu) (pvL 1) (au) (bc _)) (ao (LF (i:=0) (j:=1) rfl qJ.nd rfl rfl Zd rfl rfl (aj (pvL 1) (aj (aA cx (pvL 0) (pvL 1)) (ae))) rfl))) (ao (aK (cZ (cL (K:=K) rfl hu) (ax rB T.abs zH (aj (pvL 0) (ae))) (au) (bc _)))),?_⟩;ac_nf;refine xS (fun σ H'=>H'=H/\∃ (a b:Int),σ=[some (.int a),some (.int b)]/\0<=b/\Int.gcd a b=Int.gcd n m)
   (fun σ _=>match σ with | [_,some (.int b)]=>b.toNat | _=>0) ⟨rfl,n,m,rfl,hm,rfl⟩ ?_
  rintro σ H' ⟨rfl,a,b,rfl,hb,hg⟩;ac_nf
  by_cases hb0:b=0
  ·subst hb0;have e:decide ((a.natAbs:Int)=1)=Mk.cop m n:=by
    unfold Mk.cop;rw[←hg,Int.gcd_zero]
    by_cases h:a.natAbs=1
    ·rw[aw h];exact aw (by lia)
    ·rw[av h];exact av (by lia)
   rw[←e] at k;exact k
  ·have e:(!decide (b=0))=true:=by simp [hb0]
   rw[ah e];refine⟨_,fun _ _ h=>h,by lia,⟨rfl,b,a%b,rfl,cK _ hb0,?_⟩,?_⟩
   ·rw[Mk.F8,hg]
   ·show (a%b).toNat<b.toNat
    have h1:a%b<b:=cQ _ (by lia);have h2:0<=a%b:=cK _ hb0;lia
inductive nB (vs:List V) (H:Hp) (Q:VK) (E:XK):Prop
 | mk (p q:Addr) (al:Za) (ws:Zb) (r:Int) (q0:vs=[.ref p]) (q1:Parts H p q al ws r) (q2:1<=ws.length) (q3:ws.length<=8) (q4:al.length<=26) (q5:∀ H',az H H'->Q (.int (bX al ws)) H'):nB vs H Q E
theorem kz:aN ["_law_parts","_law_many_here","_law_weight"] ["_law_parts"] (ay pN):=by subst_eqs
theorem yL (F:Fun K "_law_many" "_law_many" pN f fd) (T:Bl mg) (AF:AdF K mg Ad) :bU P w K mg base (CX1 P w) 1 f fd ["_law_parts"] nB:=by
 refine F.okX (k:=0) kz ?_ ?_
 ·bv_decide
 ·right;obtain⟨p,q,al,ws,r,rfl,⟨h1,h2⟩,w1,w8,a26,k⟩:=h;refine⟨_,ai (aF (i:=1) kz.nd (au)) (ai (eZ cB rfl (cE (K:=K) rfl (cU (iT (K:=K) rfl) (bZ (cT (K:=K) rfl) (pvL 0) (au) (fun _ _=>rfl)) (dQ (au)) (eI))) (aR (i:=2) kz.nd) (ao (aF (i:=1) kz.nd (aA ml (pvL 1) (ax (aL (K:=K) rfl) T.len bH (aj (bZ (cT (K:=K) rfl) (pvL 0) (au) (fun _ _=>rfl)) (ae))))))) (ao (aK (pvL 1)))),?_⟩;grind;cbv;grind;refine⟨_,_,.l h1,cu (j:=1) rfl,_,.of h2,fun p1 H1 hp1 s1 g1=>?_⟩;rw[show (1:Int)=((1:Nat):Int) from rfl,fA,←gj] at g1;refine .inl ⟨⟨_,.of g1⟩,lj (xs:=(ws.drop 1).map V.int) (fun i σ G=>(∃ o2,σ=[some (V.ref p),some (V.int ((al.length:Int)^i)),o2])/\G=H1) ⟨⟨_,rfl⟩,rfl⟩ ?_ ?_ ?_⟩
  ·rintro i σ G _ ⟨_,rfl⟩;exact .of g1
  ·rintro i v σ G hi ⟨⟨o2,rfl⟩,rfl⟩ N hNx;clear hN;have hil:=(b7.mp hi).1;rw[ag,cf] at hil;symm;refine⟨_,_,.l (s1 _ _ h1),cu (j:=0) rfl,?_⟩;symm;rw[bC];have hb:((al.length:Int)^i).natAbs<=26^8:=by
    have e1:((al.length:Int))^i=((al.length^i:Nat):Int):=by simp
    rw[e1,Int.natAbs_natCast];exact aV (rb a26 _) (jZ Zd (by lia))
   refine⟨aQ (aq (by lia)),⟨cV hb Zd,bK (show ((al.length:Int)).natAbs<1000 by lia) Zd⟩,hNx _ _ ⟨⟨some v,by rw[Int.pow_succ]⟩,rfl⟩⟩
  ·rintro σ G ⟨⟨o2,rfl⟩,rfl⟩;show nn _ _ _;cbv;symm;rw[ag,cf];exact k _ s1
noncomputable def sT (K:Zf):Sp:=fun vs H Q _=>∃ (D g:Addr) (es:List Ben) (gs:Zb),vs=[.ref D,.ref g]/\zA H D es/\(∀ e∈es,jm e.key)/\H g=some (.lst (gs.map V.int))/\gs.length<=1000 ∧
 (∀ wd,kh ((gs.map V.int).map (kOf es))=.inr wd->∀ H',az H H'->Q (.str (tx (Mk.dM 32 wd))) H')/\∀ n,kh ((gs.map V.int).map (kOf es))=.inl n->∀ H',az H H'->Q .non H'
theorem eX:aN ["_law_entries_here","_law_groups_here","_law_words","_law_spelled","_law_group_here","_law_entry"] ["_law_entries_here","_law_groups_here"] (ay pP):=by subst_eqs
theorem yM (F:Fun K "_law_said" "_law_said" pP f fd) (T:Bl mg) (AF:AdF K mg Ad) :bU P w K mg base (CX1 P w) 1 f fd ["_law_entries_here","_law_groups_here"] (sT K):=by
 refine F.okX (k:=0) eX ?_ ?_
 ·bv_decide
 ·right;obtain⟨D,g,es,gs,rfl,hE,hok,hg,gl,k1,k2⟩:=h;refine⟨_,ai (aF (i:=2) eX.nd (cy (ae))) (ai (aF (i:=3) eX.nd (aY)) (ai (eZ cB rfl (cE (K:=K) rfl (pvL 1)) (aR (i:=4) eX.nd) (ai (bT (aX (rS (K:=K) rfl hu1) (pvL 4) (pvL 0) (by ext)) (ao (aK (gD))) (bh)) (ai (aF (i:=5) eX.nd (uF hu1 (pvL 0) (pvL 4))) (ao (bT (aX (cL (K:=K) rfl hu) (bZ (cT (K:=K) rfl) (pvL 5) (au) (fun _ _=>rfl)) (aY) (bc _)) (ai (aF (i:=3) eX.nd (aA aH (pvL 3) (bZ (cT (K:=K) rfl) (pvL 5) (au) (fun _ _=>rfl)))) (ao (bT ((iR (aX p9 (ax (aL (K:=K) rfl) T.len bH (aj (pvL 3) (ae))) (au) (bc _)) (gE (aX p9 (ax (aL (K:=K) rfl) T.len bH (aj (pvL 2) (ae))) (au) (bc _)))).pt) (ao (aK (gD))) (bh)))) (ao (bT (aX (cL (K:=K) rfl hu) (bZ (cT (K:=K) rfl) (pvL 5) (au) (fun _ _=>rfl)) (aY) (bc _)) (ai (bT (aX (cL (K:=K) rfl hu) (pvL 3) (aY) (bc _)) (ao (aK (gD))) (bh)) (ai (dW (dS (K:=K) rfl fv gu gv eM (pvL 2) (aj (pvL 3) (ae)))) (ao (aF (i:=3) eX.nd (aY))))) (ai (bT (aX (gC (K:=K) rfl hu) (pvL 3) (aY) (bc _)) (ao (aK (gD))) (bh)) (ai (aF (i:=2) eX.nd (aA aH (pvL 2) (dS (K:=K) rfl gq rl rp qu (bZ (cT (K:=K) rfl) (pvL 5) (au) (fun _ _=>rfl)) (aj (aY) (ae))))) (ao (bT (aX p9 (ax (aL (K:=K) rfl) T.len bH (aj (pvL 2) (ae))) (au) (bc _)) (ao (aK (gD))) (bh)))))))))))) (ai (bT ((iR (aX (gC (K:=K) rfl hu) (pvL 3) (aY) (bc _)) (gE (aX (cL (K:=K) rfl hu) (pvL 2) (cy (ae)) (bc _)))).pt) (ao (aK (gD))) (bh)) (ao (aK (dS (K:=K) rfl gq rk rn (qt (K:=K) rfl) (aY) (aj (pvL 2) (ae)))))))),?_⟩;have big:∀ {u:Nat},u<=10000->u<=sizeLine:=fun hu=>aQ (aq (by lia));generalize hks:(gs.map V.int).map (kOf es)=ks at k1 k2;have kl:ks.length=gs.length:=by rw[←hks,ag,ag]
  grind;refine⟨bj _,fun L0 H1 hL0 s1 h1=>?_⟩;cbv;grind;cbv;grind;have hg1:=s1 _ _ hg;refine .inl ⟨⟨_,.of hg1⟩,lj (xs:=gs.map V.int) (fun i σ G=>∃ (s:SSt) (L:Addr) (o4 o5:Option V),σ=[some (V.ref D),some (V.ref g),some (V.ref L),some (V.str (tx s.2)),o4,o5]/\az H G/\H L=none/\G L=some (.lst (s.1.map fun w=>V.str (tx w)))/\qh s/\iB ks ([],[]) 0=iB (ks.drop i) s i) ?_ ?_ ?_ ?_⟩
  ·exact⟨([],[]),L0,_,_,rfl,s1,hL0,h1,LK,rfl⟩
  ·rintro i σ G _ ⟨_,_,_,_,_,sG,_⟩;exact .of (sG _ _ hg)
  ·rintro i v σ A1 hx ⟨s,L,o4,o5,rfl,sA,hL,hLA,say,hrs⟩ N hNx;clear hN;rw[aT] at hx;obtain⟨n,hn,rfl⟩:=dO.mp hx;have hi':i<gs.length:=(b7.mp hn).1;have hk:ks[i]?=some (kOf es (.int n)):=by rw[←hks,aT,aT,hn];rfl
   have hcut:iB ks ([],[]) 0=iB (kOf es (.int n)::ks.drop (i+1)) s i:=by rw[hrs,List.drop_eq_getElem_cons (by rw[kl];exact hi'),(b7.mp hk).2]
   have back:∀ G,az H G->iB ks ([],[]) 0=.inl i->Q .non G:=fun G sG hr=>k2 i (by unfold kh;rw[hr]) G sG;have few:=say.few;have len:=say.len;have EA:=hE.same sA;refine gH fun n2 hM=>?_;symm;refine .inr ⟨_,mJ.kr (k:=.inl n) EA.d,?_⟩;rw[Gg EA.nn]
   by_cases hm:n∈es.map (·.num)
   ·obtain⟨u,hu,rfl⟩:=aM.mp hm;rw[aw hm];bv_omega;show n2 _ _ _;rw[hM];clear hM n2;rw[Ar hE.nn hu] at hcut;have eo:=hok u hu;have hstep:∀ s',stepK u.key s=some s'->iB ks ([],[]) 0=iB (ks.drop (i+1)) s' (i+1):=fun s' hs=>by
     rw[hcut];show (match stepK u.key s with | none=>_ | some s'=>_)=_;rw[hs]
    have hstop:stepK u.key s=none->iB ks ([],[]) 0=.inl i:=fun hs=>by rw[hcut];show (match stepK u.key s with | none=>_ | some s'=>_)=_;rw[hs]
    have htA:=EA.en u hu;refine gH fun n2 hM=>?_;symm;refine⟨D,.ref u.adr,rfl,?_,?_⟩
    ·have:=mJ.kr (k:=.inl u.num) EA.d;rw[qw EA.nn hu] at this;exact this
    rw[hM];clear hM n2;rcases iM eo with ⟨l,ek,hl⟩ | ⟨l,ek,hl⟩ | ek
    ·rw[ek] at htA hstep hstop eo;have ht':A1 u.adr=some (.tup [.str ("phrase":Str),.str (tx l)]):=htA;rw[fO] at hstep hstop;have hs:l.length<=10000:=by
      have:=eo.short (tx l) (by simp [kV])
      rwa [bC] at this
     symm;refine⟨_,_,.inr (.of ht'),cR Zd rfl,?_⟩;symm;rw[af (by decide)];refine⟨_,_,.inr (.of ht'),cR Zd rfl,?_⟩;symm;rw[af (by decide)];refine gH fun n2 hM=>?_;symm;rw[show Str.ofString ""=tx [] from rfl,uZ]
     by_cases hsp:s.2=[]
     ·rw[af (by rw[aw hsp];decide)];show n2 _ _ _;rw[hM];clear hM n2;refine gH fun n2 hM=>?_;symm;refine⟨_,_,.inr (.of ht'),cR Zd rfl,rfl,?_⟩;symm;have wl:=Bs hl;refine⟨by rw[bC];lia,32,rfl,fun p4 G4 hp4 t4 g4=>?_⟩;rw[bG] at g4;refine⟨_,_,t4 _ _ hLA,g4,by rw[ag,ag];exact big (by lia),fun p5 G5 hp5 t5 g5=>?_⟩;rw[←bu] at g5;have s5:=sA.trans (t4.trans t5);rw[hM];clear hM n2;symm;refine⟨_,.inl (.of g5),?_⟩;rw[ag,aB]
      by_cases hc:s.1.length+(Mk.bw 32 l).length<=60
      ·rw[af (by rw[av (show ¬ (60:Int)<((s.1.length+(Mk.bw 32 l).length:Nat):Int) by lia)];decide)];have hs2:(if s.2=[]/\s.1.length+(Mk.bw 32 l).length<=60 then some (s.1++Mk.bw 32 l,([]:Za)) else none)=some (s.1++Mk.bw 32 l,[]):=ah ⟨hsp,hc⟩;have:=hstep _ hs2;refine hNx _ _ ⟨(s.1++Mk.bw 32 l,[]),p5,_,_,by rw[hsp],s5,(sA.trans t4).free hp5,g5,say.step eo (by rw[fO];exact hs2),this⟩
      ·rw[ah (by rw[aw (show (60:Int)<((s.1.length+(Mk.bw 32 l).length:Nat):Int) by lia)])];symm;exact back G5 s5 (hstop (af fun z=>hc z.2))
     ·rw[ah (by rw[av hsp];rfl)];symm;exact back A1 sA (hstop (af fun z=>hsp z.1))
    ·rw[ek] at htA hstep hstop eo;have ht':A1 u.adr=some (.tup [.str ("part":Str),.str (tx l)]):=htA;rw[jA] at hstep hstop;obtain⟨l1,l6,_⟩:=rK hl;symm;refine⟨_,_,.inr (.of ht'),cR Zd rfl,?_⟩;symm;rw[ah (by rfl)];refine gH fun n2 hM=>?_;symm;refine⟨_,_,.inr (.of ht'),cR Zd rfl,?_⟩;symm;rw[bC,bC,so];refine⟨big (by lia),?_⟩;rw[hM];clear hM n2;symm;rw[bC,aB];refine⟨big (by lia),?_⟩
     by_cases h20:s.2.length+l.length<=20
     ·rw[af (by rw[av (show ¬ (20:Int)<((s.2.length+l.length:Nat):Int) by lia)];decide)];refine⟨_,.inl (.of hLA),?_⟩;rw[ag]
      by_cases h60:s.1.length<60
      ·rw[af (by rw[av (show ¬ (59:Int)<(s.1.length:Int) by lia)];decide)];have hs2:(if s.1.length<60/\s.2.length+l.length<=20 then some (s.1,s.2++l) else none)=some (s.1,s.2++l):=ah ⟨h60,h20⟩;have:=hstep _ hs2;exact hNx _ _ ⟨(s.1,s.2++l),L,_,_,rfl,sA,hL,hLA,say.step eo (by rw[jA];exact hs2),this⟩
      ·rw[ah (by rw[aw (show (59:Int)<(s.1.length:Int) by lia)])];symm;exact back A1 sA (hstop (af fun z=>h60 z.1))
     ·rw[ah (by rw[aw (show (20:Int)<((s.2.length+l.length:Nat):Int) by lia)])];symm;exact back A1 sA (hstop (af fun z=>h20 z.2))
    ·rw[ek] at htA hstep hstop eo;have ht':A1 u.adr=some (.tup [.str ("end":Str)]):=htA;rw[lE] at hstep hstop;symm;refine⟨_,_,.inr (.of ht'),cR Zd rfl,?_⟩;symm;rw[af (by decide)];refine⟨_,_,.inr (.of ht'),cR Zd rfl,?_⟩;symm;rw[ah (by rfl)];refine gH fun n2 hM=>?_;symm;rw[show Str.ofString ""=tx [] from rfl,uZ]
     by_cases hsp:s.2=[]
     ·rw[ah (by rw[aw hsp])];symm;exact back A1 sA (hstop (ah hsp))
     ·rw[af (by rw[av hsp];decide)];show n2 _ _ _;rw[hM];clear hM n2;refine gH fun n2 hM=>?_;symm;refine⟨.inl ⟨rfl,_,.of hLA⟩,L,_,_,rfl,rfl,hLA,by rw[ag];exact aq (by lia),?_⟩;rw[hM];clear hM n2;symm;have hs2:(if s.2=[] then none else some (s.1++[s.2],([]:Za)))=some (s.1++[s.2],[]):=af hsp;have:=hstep _ hs2;refine hNx _ _ ⟨(s.1++[s.2],[]),L,_,_,rfl,sA.cF hL,hL,?_,say.step eo (by rw[lE];exact hs2),this⟩;rw[aE,bu];rfl
   ·rw[av hm];symm;exact back A1 sA (by rw[hcut,wU hm];rfl)
  rintro σ H2 ⟨s,L,o4,o5,rfl,s2,hL,h2,say,hrs⟩;show nn _ _ _;cbv;have hfin:iB ks ([],[]) 0=.inr s:=by rw[hrs,List.drop_eq_nil_of_le (by rw[ag];lia)];rfl
  clear hrs;obtain⟨wd,sp⟩:=s;have few:wd.length<=60:=say.few;have ended:¬ (sp=[]/\wd≠[])->∀ H',az H2 H'->Q .non H':=fun hno H' sH=>k2 gs.length (by unfold kh;rw[hfin];show (if _ then _ else _)=_;rw[af hno,kl]) H' (s2.trans sH);grind;have e0:Str.ofString ""=tx []:=rfl;rw[e0,uZ]
  by_cases hsp:sp=[]
  ·subst hsp;rw[af (by decide)];refine⟨bj _,fun p3 H3 hp3 s3 h3=>⟨_,_,.of (s3 _ _ h2),.of h3,?_,rfl,?_⟩⟩
   ·rw[cj];intro x hx;obtain⟨w,_,rfl⟩:=aM.mp hx;rfl
   by_cases hwne:wd=[]
   ·subst hwne;rw[ah (by rfl)];symm;exact ended (fun z=>z.2 rfl) H3 s3
   obtain⟨j1,j2⟩:=BR (ws:=wd) few say.wds;rw[af (by
    cases wd with
    | nil=>exact absurd rfl hwne
    | cons _ _=>exact bS)]
   show nn _ _ _;cbv;symm;have ejs:(wd.map fun w=>V.str (tx w))=(wd.map tx).map V.str:=by rw[aI];rfl
   refine⟨rfl,wd.map tx,.of (by rw[s3 _ _ h2,ejs]),?_,?_⟩
   ·rw[aI,ag];have:(wd.map ((fun z:Str=>z.length) ∘ tx)).sum<=(wd.map fun w=>w.length+1).sum:=by
     have e:wd.map ((fun z:Str=>z.length) ∘ tx)=wd.map fun w=>w.length:=iu fun w _=>bC w;rw[e];clear e j1 j2 ejs h2 say hfin hwne few ended
     induction wd with
     | nil=>simp
     | cons w r ih=>simp only[bf,jh];lia
    have e1:(Str.ofString " ").length=1:=rfl;rw[e1];lia
   ·rw[show (Str.ofString " ")=tx [32] from rfl,wq];exact k1 wd (by unfold kh;rw[hfin];exact ah ⟨rfl,hwne⟩) H3 (s2.trans s3)
  ·rw[ah (by rw[av hsp];rfl)];symm;exact ended (fun z=>hsp z.1) H2 (az.refl _)
noncomputable def kdB (z:Str):List Key->Bool
 | .inr y::_=>decide (y=z)
 | _=>false
inductive mB (K:Zf) (vs:List V) (H:Hp) (Q:VK) (E:XK):Prop
 | mk (D:Addr) (es:List Ben) (ob:Obj) (z:Str) (n:Int) (q0:vs=[.ref D,.str z,.int n]) (q1:H D=some (.frz ob (.dK (i7 es)))) (q2:zA H D es) (q3:(∀ e∈es,jm e.key)) (q4:es.length<=14) (q5:(∃ e∈es,kdB z e.key=true)) (q6:∀ e∈es,kdB z e.key=true->∀ H',az H H'->Q (.int e.num) H'):mB K vs H Q E
theorem qK:aN ["_law_entries_here","_law_sort","_law_number","_law_some"] ["_law_entries_here","_law_sort","_law_number"] (ay ni):=by subst_eqs
theorem xl (F:Fun K "_law_group" "_law_group" ni f fd) (T:Bl mg) (AF:AdF K mg Ad) :bU P w K mg base (CX1 P w) 1 f fd ["_law_entries_here","_law_sort","_law_number"] (mB K):=by
 refine F.okX (k:=0) qK ?_ ?_
 ·bv_decide
 ·right;obtain⟨D,es,ob,z,n,rfl,hD,hE,hok,el,hex,k⟩:=h;refine⟨_,ai (mW (i:=3) ["_law_one"] qK.nd rfl (Or.inl rfl) rfl ⟨rfl,by nofun,rfl,by nofun⟩ (.cons (j:=1) rfl (.inl (by ext)) (.cons (j:=0) rfl (.inl (by ext)) (.nil))) (by nofun) (yT (pvC 0)) (fun _ _ _ _=>aR (i:=0) (show (["_law_one","_law_sort","_law_entries_here"]:Ze).Nodup from by nofun)) (fun _ _ _ _=>jz (aX (cL (K:=K) rfl hu) (bZ (cT (K:=K) rfl) (uF hu1 (pvC 2) (pvL 0)) (au) (fun _ _=>rfl)) (pvC 1) (bc _))) (fun _ _ _ _=>pvL 0)) (ao (aK (bZ (cT (K:=K) rfl) (pvL 3) (aA cx (pvL 2) (ax (aL (K:=K) rfl) T.len bH (aj (pvL 3) (ae)))) (fun _ _=>rfl)))),?_⟩;grind;refine⟨D,_,rfl,.inr ⟨ob,hD,?_⟩⟩;have eks:(i7 es).map (fun kv=>kV kv.1)=es.map fun e=>V.int e.num:=by rw[tJ,aI];rfl
  have hsq:(Itk ob D (i7 es)).Seq H (es.map fun e=>V.int e.num):=by rw[←eks];exact Ep hD
  have hlx:(es.map fun e=>V.int e.num).length=es.length:=ag _;have at0:∀ (i:Nat) v,(es.map fun e=>V.int e.num)[i]?=some v->∃ e,es[i]?=some e/\v=.int e.num:=fun i v hv=>by rw[aT] at hv;obtain⟨e,he,rfl⟩:=dO.mp hv;exact⟨e,he,rfl⟩
  have kin:∀ e∈es,∃ y xs,e.key=.inr y::xs:=fun e he=>by rcases iM (hok e he) with ⟨l,ek,_⟩ | ⟨l,ek,_⟩ | ek<;>exact⟨_,_,ek⟩
  refine Nr hsq (by rw[hlx];exact aq (by lia)) (fun i=>(es[i]?).any fun e=>kdB z e.key) (fun i=>((es[i]?).map fun e=>V.int e.num).getD .non) ?_ ?_ ?_
  ·intro i v hv G t R hR;obtain⟨e,he,rfl⟩:=at0 i v hv;obtain⟨y,xs,ek⟩:=kin e (bQ he);have hg:=mJ.kr (k:=.inl e.num) (hE.same t).d;rw[qw hE.nn (bQ he)] at hg;have hk:=(hE.same t).en e (bQ he);rw[ek] at hk;have er:((es[i]?).any fun e=>kdB z e.key)=decide (y=z):=by
    rw[he];show kdB z e.key=_;rw[ek];rfl
   rw[er] at hR;symm;refine⟨D,_,rfl,hg,?_⟩;symm;refine⟨_,_,.inr (.of hk),cR Zd rfl,?_⟩;show Ek K (.str y) (.str z) G _;symm;exact hR G (az.refl _)
  ·intro i v hv _ G t R hR;obtain⟨e,he,rfl⟩:=at0 i v hv;rw[he] at hR;symm;exact hR G (az.refl _)
  intro D1 G1 hD1 t1 g1;cbv;rw[hlx,yX] at g1;obtain⟨fl,hfl⟩:∃ fl:List Ben,es.filter (fun e=>kdB z e.key)=fl:=⟨_,rfl⟩;rw[hfl] at g1;have gfl:=g1;have fl0:0<fl.length:=by
   obtain⟨e,he,hz⟩:=hex;have:e∈fl:=by rw[←hfl];exact cA.mpr ⟨he,hz⟩
   exact List.length_pos_of_mem this
  have flm:∀ e∈fl,e∈es/\kdB z e.key=true:=fun e he=>by rw[←hfl] at he;exact cA.mp he
  symm;refine⟨_,.l gfl,?_⟩;rw[ag];obtain⟨j,hj⟩:=ie (cK n (show (fl.length:Int)≠0 by lia));have hjl:j<fl.length:=by have:=cQ n (show 0<(fl.length:Int) by lia);lia
  have hje:fl[j]?=some fl[j]:=aO hjl;refine⟨by lia,_,_,.l gfl,by rw[hj];exact cu (by rw[aT,hje];rfl),?_⟩;obtain⟨h1,h2⟩:=flm _ (bQ hje);exact k _ h1 h2 G1 t1
noncomputable def oU:Sp:=fun vs H Q _=>∃ (al z:Za) (n:Int),vs=[.str (tx al),.str (tx z),.int n]/\3<=al.length/\al.length<=26/\al.Nodup/\(∀ c∈z,c∈al)/\3<=z.length/\z.length<=8/\∀ z' H',az H H'->lY al z z'->Q (.str (tx z')) H'
theorem gf:aN ["_law_alphabet","_law_word_here","_law_number","_law_at","_law_turned","_law_step","_law_letter"] ["_law_alphabet","_law_word_here","_law_number"] (ay mz):=by subst_eqs
theorem vo (F:Fun K "_law_faulty" "_law_faulty" mz f fd) (T:Bl mg) (AF:AdF K mg Ad) :bU P w K mg base (CX1 P w) 1 f fd ["_law_alphabet","_law_word_here","_law_number"] oU:=by
 refine F.okX (k:=0) gf ?_ ?_
 ·bv_decide
 ·right;obtain⟨al,z,n,rfl,a3,a26,nd,hm,z3,z8,k⟩:=h;refine⟨_,ai (aF (i:=3) gf.nd (aA cx (aA cG (pvL 2) (au)) (ax (aL (K:=K) rfl) T.len bH (aj (pvL 1) (ae))))) (ai (bT ((xA (aX (cL (K:=K) rfl hu) (aA cx (pvL 2) (au)) (au) (bc _)) (xA (aX p9 (pvL 3) (au) (bc _)) (xB (aX (gC (K:=K) rfl hu) (bZ (cT (K:=K) rfl) (pvL 1) (aA gz (pvL 3) (au)) (fun _ _=>rfl)) (bZ (cT (K:=K) rfl) (pvL 1) (pvL 3) (fun _ _=>rfl)) (bc _))))).pt) (ai (aF (i:=4) gf.nd (aA aH (bZ (cT (K:=K) rfl) (pvL 1) (pvL 3) (fun _ _=>rfl)) (bZ (cT (K:=K) rfl) (pvL 1) (aA gz (pvL 3) (au)) (fun _ _=>rfl)))) (ao (aK (aA aH (aA aH (cU (iT (K:=K) rfl) (pvL 1) (eI) (dQ (aA gz (pvL 3) (au)))) (pvL 4)) (cU (iT (K:=K) rfl) (pvL 1) (dQ (aA aH (pvL 3) (au))) (eI)))))) (bh)) (ai (aF (i:=5) gf.nd (aA aH (au) (aA cx (aA cG (pvL 2) (au)) (aA gz (ax (aL (K:=K) rfl) T.len bH (aj (pvL 0) (ae))) (au))))) (ai (aF (i:=6) gf.nd (bZ (cT (K:=K) rfl) (pvL 0) (aA cx (aA aH (dS (K:=K) rfl gq PySem.F.slot_str_index PySem.F.type_str_index vV (pvL 0) (aj (bZ (cT (K:=K) rfl) (pvL 1) (pvL 3) (fun _ _=>rfl)) (ae))) (pvL 5)) (ax (aL (K:=K) rfl) T.len bH (aj (pvL 0) (ae)))) (fun _ _=>rfl))) (ao (aK (aA aH (aA aH (cU (iT (K:=K) rfl) (pvL 1) (eI) (dQ (pvL 3))) (pvL 6)) (cU (iT (K:=K) rfl) (pvL 1) (dQ (aA aH (pvL 3) (au))) (eI)))))))),?_⟩;have big:∀ {u:Nat},u<=1000->u<=sizeLine:=fun hu=>aQ (aq (by lia));grind;rw[bC];refine⟨⟨Zd,Zd⟩,big (by lia),by lia,?_⟩;obtain⟨i,hi⟩:=ie (cK (n/2) (show (z.length:Int)≠0 by lia));have hil:i<z.length:=by have:=cQ (n/2) (show 0<(z.length:Int) by lia);lia
  rw[hi,hN];clear hN nn hi;have c0:z[i]?=some (z.getD i 0):=by rw[bz,aO hil];rfl
  have cm:z.getD i 0∈al:=hm _ (bQ c0);have l1:∀ c:Nat,([c]:Za).length=1:=fun _=>rfl;have e1:(i:Int)+1=((i+1:Nat):Int):=rfl;have lA:(z.take i).length=i:=by rw[bI];lia
  refine B9 (fun σ G=>σ=[some (V.str (tx al)),some (V.str (tx z)),some (V.int n),some (V.int i),none,none,none]/\G=H) ?_ ?_
  ·rintro σ G ⟨rfl,rfl⟩;grind;rw[bC];refine⟨⟨Zd,Zd⟩,big (by lia),by lia,?_⟩;have f0:=cK (n/100) (show (al.length:Int)-1≠0 by lia);have f1:=cQ (n/100) (show 0<(al.length:Int)-1 by lia);generalize n/100%((al.length:Int)-1)=fu at f0 f1;cbv;grind;have fo:Txt.find (tx al) ⟨#[z.getD i 0]⟩=((al.idxOf (z.getD i 0):Nat):Int):=by
    have:=yn (x:=tx al) (c:=z.getD i 0) (by rw[bG];exact cm)
    rwa [bG] at this
   have hb:∀ x:Int,0<=x%(al.length:Int)/\x%(al.length:Int)<al.length:=fun x=>⟨cK _ (by lia),cQ _ (by lia)⟩;simp only[bC,bG];refine⟨by rfl,big (by lia),_,cu c0,?_⟩;rw[fo];have ix:al.idxOf (z.getD i 0)<al.length:=nU cm;have hb':=hb ((al.idxOf (z.getD i 0):Int)+(1+fu));have cne:al.getD (((al.idxOf (z.getD i 0):Int)+(1+fu))%(al.length:Int)).toNat 0≠z.getD i 0:=fun e=>by
    have hj:(((al.idxOf (z.getD i 0):Int)+(1+fu))%(al.length:Int)).toNat<al.length:=by lia
    have e1:al[(((al.idxOf (z.getD i 0):Int)+(1+fu))%(al.length:Int)).toNat]?=some (al.getD (((al.idxOf (z.getD i 0):Int)+(1+fu))%(al.length:Int)).toNat 0):=by rw[bz (i:=(((al.idxOf (z.getD i 0):Int)+(1+fu))%(al.length:Int)).toNat),aO hj];rfl
    rw[e] at e1;have e2:al[al.idxOf (z.getD i 0)]?=some (z.getD i 0):=by rw[aO ix];exact bJ some (List.getElem_idxOf ix)
    have e3:=(List.getElem?_inj hj nd).mp (e1.trans e2.symm)
    by_cases h:(al.idxOf (z.getD i 0):Int)+(1+fu)<al.length
    ·rw[jT (by lia) h] at e3;lia
    ·have e4:((al.idxOf (z.getD i 0):Int)+(1+fu))%(al.length:Int)=(al.idxOf (z.getD i 0):Int)+(1+fu)-al.length:=by
      rw[←Int.sub_emod_right,jT (by lia) (by lia)]
     rw[e4] at e3;lia
   refine⟨by lia,big (by lia),by lia,big (by lia),_,cR hb'.1 (Mk.getD_at hb'),?_⟩;have cal:al.getD (((al.idxOf (z.getD i 0):Int)+(1+fu))%(al.length:Int)).toNat 0∈al:=Mk.getD_mem hb';generalize al.getD (((al.idxOf (z.getD i 0):Int)+(1+fu))%(al.length:Int)).toNat 0=c at cne cal;cbv;symm;simp only[bC,bG,e1,vG,vF];refine⟨big (by lia),?_⟩;simp only[Hf,so,bC,aB,l1,lA,cf];exact⟨big (by lia),big (by lia),big (by lia),k _ _ (az.refl _) (.inl ⟨i,c,hil,cal,cne,rfl⟩)⟩
  ·intro U hU;symm;refine⟨Zd,?_⟩;have hU0:=hU _ _ ⟨rfl,rfl⟩;cases decide (n%2=1) with
   | false=>rw[af (by decide)];exact hU0
   | true =>
    rw[ah rfl]
    by_cases i0:0<i
    ·rw[aw (show (0:Int)<(i:Int) by lia),ah rfl];obtain⟨m,rfl⟩:∃ m,i=m+1:=⟨i-1,by lia⟩;have em:((m+1:Nat):Int)-1=(m:Int):=by lia
     have cp:z[m]?=some (z.getD m 0):=by rw[bz,aO (by lia)];rfl
     rw[em,bC,bG];refine⟨big (by lia),_,cu cp,big (by lia),_,cu c0,?_⟩
     by_cases hne:z.getD m 0=z.getD (m+1) 0
     ·rw[af (by rw[hne];simp)];exact hU0
     ·rw[ah (by
       have:¬ ({ cps:=#[z.getD m 0] }:Str)={ cps:=#[z.getD (m+1) 0] }:=fun e=>hne (by
        have:=bJ (fun x:Str=>x.cps.toList) e
        simpa using this)
       rw[av this];rfl)]
      grind;rw[em,bC,bG];have l1':({ cps:=#[z.getD (m+1) 0] }:Str).length+({ cps:=#[z.getD m 0] }:Str).length<=sizeLine:=(show (2:Nat)<=sizeLine from big Zd);refine⟨big (by lia),_,cu c0,big (by lia),_,cu cp,l1',?_⟩;cbv;symm;rw[em];have e2:((m+1:Nat):Int)+1=((m+2:Nat):Int):=by lia
      have lB:(z.take m).length=m:=by rw[bI];lia
      simp only[bC,bG,e2,vG,vF];simp only[Hf,so,bC,aB,l1,lB,cf];exact⟨big (by lia),big (by lia),big (by lia),big (by lia),k _ _ (az.refl _) (.inr ⟨m,hil,hne,rfl⟩)⟩
    ·rw[av (show ¬ (0:Int)<(i:Int) by lia),af (by decide)];exact hU0
noncomputable def sQ:Sp:=fun vs H Q _=>∃ (p:Addr) (ws:Zb) (m:Int),vs=[.ref p,.int m]/\H p=some (.lst (ws.map V.int))/\ws.length<=1000/\∀ H',az H H'->Q (.bl (Mk.safe m ws)) H'
theorem sL:aN ["weights","m","differences"] ["weights","m"] (ay pE):=by subst_eqs
theorem yD (F:Fun K "are_safe" "are_safe" pE f fd) (T:Bl mg) (AF:AdF K mg Ad) (C_common_divisor:Fnc P w K mg base (CX1 P w) 1 "common_divisor" ["one","other"] k8):bU P w K mg base (CX1 P w) 2 f fd ["weights","m"] sQ:=by
 refine F.okX (k:=1) sL ?_ ?_
 ·bv_decide
 ·right;obtain⟨p,ws,m,rfl,hp,hl,k⟩:=h;refine⟨_,ai (mW (i:=2) ["ahead","behind"] sL.nd rfl (Or.inl rfl) rfl ⟨rfl,by nofun,rfl,by nofun⟩ (.nil) (by nofun) (BZ (K:=K) rfl T.zip (aj (pvL 0) (aj (cU (iT (K:=K) rfl) (pvL 0) (dQ (au)) (eI)) (ae)))) (fun _ _ _ _=>qA (K:=K) (n:=2) rfl rfl (gd (aR (i:=0) (show (["ahead","behind"]:Ze).Nodup from by nofun)) (gd (aR (i:=1) (show (["ahead","behind"]:Ze).Nodup from by nofun)) (qB)))) (fun _ _ _ _=>eG) (fun _ _ _ _=>aA gz (pvL 1) (pvL 0))) (ao (aK (ax (i8 (K:=K) rfl rfl) T.all oY (aj (gO ["number"] rfl ⟨rfl,by nofun,rfl,by nofun⟩ (.cons (j:=1) rfl (.inl (by ext)) (.nil)) (by nofun) (cE (K:=K) rfl (aA aH (pvL 0) (pvL 2))) (fun _ _ _ _=>aR (i:=0) (show (["number","m"]:Ze).Nodup from by nofun)) (fun _ _ _ _=>eG) (fun _ _ _ _=>cZ (cL (K:=K) rfl hu) (aC C_common_divisor fF (hr.mono Zd) (aj (pvL 0) (aj (pvC 1) (ae)))) (au) (bc _))) (ae))))),?_⟩;ac_nf;refine⟨_,.of hp,fun q H1 hq s1 h1=>?_⟩;have hp1:H1 p=some (.lst (ws.map V.int)):=s1 _ _ hp;have ec:mQ (ws.map V.int) (some 1) none=(ws.drop 1).map V.int:=by rw[show (1:Int)=((1:Nat):Int) from rfl,fA,gj]
  rw[ec] at h1;refine⟨⟨_,.of hp1⟩,⟨_,.of h1⟩,Mu V.int V.int iG iG (.of hp1) (.of h1) (aq (by lia)) (fun a b=>.int (b-a)) ?_ ?_⟩
  ·intro a b hab H' s' R hR;ac_nf;exact hR H' (az.refl _)
  ·intro D H2 hD s2 h2;have e2:H2 D=some (.lst ((Mk.dif ws).map V.int)):=by rw[h2];unfold Mk.dif;rw[aI];rfl
   have hp2:H2 p=some (.lst (ws.map V.int)):=s2 _ _ hp1;have ldif:(Mk.dif ws).length<=1000:=by unfold Mk.dif;rw[ag,List.length_zip];lia
   ac_nf;refine⟨_,_,hp2,e2,?_,fun r H3 hr s3 h3=>.inl ⟨⟨_,.of h3⟩,?_⟩⟩
   ·rw[ag,ag];exact aQ (aq (by lia))
   ·rw[←bu] at h3;refine vm (xs:=ws++Mk.dif ws) V.int iG (eP (.of h3)) (by rw[aB];exact aq (by lia)) (fun n=>.bl (Mk.cop m n)) ?_ ?_
    ·intro n hn H' s' R hR;ac_nf;refine⟨n,m,rfl,?_⟩;have e:decide (((Int.gcd n m:Nat):Int)=1)=Mk.cop m n:=by
      unfold Mk.cop
      by_cases h:Int.gcd n m=1
      ·rw[aw h];exact aw (by lia)
      ·rw[av h];exact av (by lia)
     show R (V.bl (decide (((Int.gcd n m:Nat):Int)=1))) H';rw[e];exact hR H' (az.refl _)
    ·intro D' H4 hD' s4 h4;refine⟨D',(ws++Mk.dif ws).map (Mk.cop m),rfl,.of (by rw[h4,aI];rfl),?_⟩;have ea:(((ws++Mk.dif ws).map (Mk.cop m)).all id)=Mk.safe m ws:=by unfold Mk.safe;rw[fQ];rfl
     rw[ea];exact k H4 (s1.trans (s2.trans (s3.trans s4)))
noncomputable def cJ (b:Int):V->Bool
 | .int i=>decide (0<=i)&&decide (i<b)
 | _=>false
noncomputable def gR:Sp:=fun vs H Q _=>∃ (x:V) (t:Tg) (b:Int),vs=[x,.int b]/\fj H x=some t/\Q (.bl (cJ b x)) H
theorem zg:aN ["thing","bound"] ["thing","bound"] (ay pH):=by subst_eqs
theorem yG (F:Fun K "is_below" "is_below" pH f fd) (T:Bl mg) (AF:AdF K mg Ad) (C_is_whole:Fnc P w K mg base (CX1 P w) 1 "is_whole" ["thing"] sS):bU P w K mg base (CX1 P w) 2 f fd ["thing","bound"] gR:=by
 refine F.okX (k:=1) zg ?_ ?_
 ·bv_decide
 ·right;obtain⟨x,t,b,rfl,ht,k⟩:=h;refine⟨_,ao (aK (pA (aC C_is_whole a8 (hr.mono Zd) (aj (pvL 0) (ae))) (mU (Gw jo xq (au) (pvL 0) (pvL 1))))),?_⟩
  by_cases hs:∃ i,x=.int i
  ·obtain⟨i,rfl⟩:=hs;cases ht;ac_nf;refine⟨_,Tg.int,rfl,rfl,?_⟩;ac_nf;have ek:cJ b (.int i)=(decide (0<=i)&&decide (i<b)):=rfl;rw[ek] at k;rw[ah (by simp)];cases h0:decide (0<=i) with
   | false=>rw[h0,gB] at k;bv_omega;exact k
   | true=>rw[h0,dj] at k;bv_omega;exact k
  ·have hv:cJ b x=false:=by
    cases x with
    | int i=>exact absurd ⟨i,rfl⟩ hs
    | _=>rfl
   have hne:t≠Tg.int:=fun e=>by
    subst e;cases x with
    | int i=>exact hs ⟨i,rfl⟩
    | ref a =>
     have h':lG (H a)=some .int:=ht;cases e:H a with
     | none=>rw[e] at h';cases h'
     | some o=>rw[e] at h';cases o with
      | frz ob u=>cases u<;>cases h'
      | _=>cases h'
    | _=>cases ht
   rw[hv] at k;ac_nf;refine⟨x,t,rfl,ht,?_⟩;ac_nf;rw[av hne];bv_omega;exact k
noncomputable def iH (al:Str) (ws:Zb) (r:Int):V->Bool
 | .str z=>Mk.c9 al.cps.toList ws r z.cps.toList
 | _=>false
inductive pW (vs:List V) (H:Hp) (Q:VK) (E:XK):Prop
 | mk (al:Str) (p:Addr) (ws:Zb) (r:Int) (x:V) (t:Tg) (q0:vs=[.str al,.ref p,.int r,x]) (q1:H p=some (.lst (ws.map V.int))) (q2:ws.length<=1000) (q3:0<al.length) (q4:al.length<=1000) (q5:Mk.sml ws) (q6:fj H x=some t) (q7:(∀ z,x=.str z->z.length<=100000)) (q8:∀ H',az H H'->Q (.bl (iH al ws r x)) H'):pW vs H Q E
theorem AX:aN ["alphabet","weights","rest","word"] ["alphabet","weights","rest","word"] (ay rX):=by subst_eqs
theorem A9 (F:Fun K "is_good" "is_good" rX f fd) (T:Bl mg) (AF:AdF K mg Ad) (C_are_good:Fnc P w K mg base (CX1 P w) 1 "are_good" ["m","weights","rest","places"] k7) (C_places_of:Fnc P w K mg base (CX1 P w) 1 "places_of" ["alphabet","word"] j7) (C_is_word:Fnc P w K mg base (CX1 P w) 1 "is_word" ["alphabet","length","thing"] m8):bU P w K mg base (CX1 P w) 2 f fd ["alphabet","weights","rest","word"] pW:=by
 refine F.okX (k:=1) AX ?_ ?_
 ·bv_decide
 ·right;obtain⟨al,p,ws,r,x,t,rfl,hp,hwl,ha0,ha,hsm,ht,hz,k⟩:=h;refine⟨_,ai (bT (cM (cD (aC C_is_word a8 (hr.mono Zd) (aj (pvL 0) (aj (ax (aL (K:=K) rfl) T.len bH (aj (pvL 1) (ae))) (aj (pvL 3) (ae))))))) (ao (aK (kx))) (bh)) (ao (aK (aC C_are_good a8 (hr.mono Zd) (aj (ax (aL (K:=K) rfl) T.len bH (aj (pvL 0) (ae))) (aj (pvL 1) (aj (pvL 2) (aj (aC C_places_of a8 (hr.mono Zd) (aj (pvL 0) (aj (pvL 3) (ae)))) (ae)))))))),?_⟩;ac_nf;refine⟨_,.l hp,?_⟩;rw[ag];refine⟨al,_,x,t,rfl,ht,hz,fun H1 s1=>?_⟩;have h1p:H1 p=some (.lst (ws.map V.int)):=s1 _ _ hp;ac_nf;cases hw:dE al ws.length x with
  | false =>
   have e:iH al ws r x=false:=by
    cases x with
    | str z =>show (Mk.bL al.cps.toList ws.length z.cps.toList&&_)=false;rw[show Mk.bL al.cps.toList ws.length z.cps.toList=false from hw,gB]
    | _=>rfl
   rw[e] at k;exact k H1 s1
  | true =>
   cases x with
   | str z =>
    have hw':Mk.bL al.cps.toList ws.length z.cps.toList=true:=hw;obtain⟨hw1,hw2⟩:=Mk.dm.mp hw';have hzl:z.cps.toList.length<=1000:=by lia
    bv_omega;refine⟨aQ (aq (by lia)),al,z,rfl,by rw[dP];lia,hw2,fun q H2 hq s2 h2=>?_⟩;have h2p:H2 p=some (.lst (ws.map V.int)):=s2 _ _ h1p;ac_nf;refine⟨_,p,ws,r,q,_,rfl,by lia,h2p,h2,by lia,hsm,Mk.LM (Mk.mn hw2) (by rw[dP] at ha;lia),fun H3 s3=>?_⟩;have e:iH al ws r (.str z)=Mk.good al.length ws r (Mk.plc al.cps.toList z.cps.toList):=by show (Mk.bL al.cps.toList ws.length z.cps.toList&&Mk.good al.cps.toList.length ws r _)=_;rw[hw',dj,←dP]
    rw[e] at k;exact k H3 (s1.trans (s2.trans s3))
   | _=>cases hw
inductive sk (Ad:Ads) (vs:List V) (H:Hp) (Q:VK) (E:XK):Prop
 | mk (a:Addr) (al:Za) (ws:Zb) (r:Int) (x:V) (t:Tg) (q0:vs=[.ref a,x]) (q1:cI Ad H a al ws r) (q2:bN al ws r) (q3:fj H x=some t) (q4:(∀ z,x=.str z->z.length<=100000)) (q5:(dE (tx al) ws.length x=false->∀ H',az H H'->E (.ref Ad.NoWord) none H')) (q6:∀ z,x=.str (tx z)->Mk.bL al ws.length z=true->∀ fs:List (Zb),fs.Perm (kg al.length (Mk.plc al z))->∀ D H',H D=none->az H H'->H' D=some (.lst (fs.map fun ps=>V.str (tx (Mk.bO al ps))))->Q (.ref D) H'):sk Ad vs H Q E
theorem sj:aN ["code","word","alphabet","places"] ["code","word"] (ay uL):=by subst_eqs
theorem DZ (F:Fun K "faulty" "faulty" uL f fd) (T:Bl mg) (AF:AdF K mg Ad) (C_by_exchange:Fnc P w K mg base (CX1 P w) 1 "by_exchange" ["m","places"] ny) (C_by_swap:Fnc P w K mg base (CX1 P w) 1 "by_swap" ["places"] uU) (C_spelled:Fnc P w K mg base (CX1 P w) 1 "spelled" ["alphabet","places"] pY) (C_places_of:Fnc P w K mg base (CX1 P w) 1 "places_of" ["alphabet","word"] j7) (C_is_word:Fnc P w K mg base (CX1 P w) 1 "is_word" ["alphabet","length","thing"] m8) (M_Code_weights:Mtd P w K mg base (CX1 P w) Ad.Code "weights" 1 ["self"] (jt Ad)) (M_Code_alphabet:Mtd P w K mg base (CX1 P w) Ad.Code "alphabet" 1 ["self"] (iE Ad)):bU P w K mg base (CX1 P w) 2 f fd ["code","word"] (sk Ad):=by
 refine F.okX (k:=1) sj ?_ ?_
 ·bv_decide
 ·right;obtain⟨a,al,ws,r,x,t,rfl,hat,ok,ht,hz,hE,k⟩:=h;have hu2:_+2<cLine:=cV (Nat.add_le_add (Nat.le_add_right _ _) Zd) hr.un;refine⟨_,ai (fJ (i:=2) sj.nd (cS M_Code_alphabet a8 (hr.mono Zd) (pvL 0))) (ai (bT (cM (cD (aC C_is_word a8 (hr.mono Zd) (aj (pvC 2) (aj (ax (aL (K:=K) rfl) T.len bH (aj (cS M_Code_weights a8 (hr.mono Zd) (pvL 0)) (ae))) (aj (pvL 1) (ae))))))) (ao (dX dA AF.q_NoWord AF.g_NoWord da rfl (aj (aY) (ae)))) (bh)) (ai (aF (i:=3) sj.nd (aC C_places_of a8 (hr.mono Zd) (aj (pvC 2) (aj (pvL 1) (ae))))) (ao (aK (gO ["made"] rfl ⟨rfl,by nofun,rfl,by nofun⟩ (.cons (j:=2) rfl (.inl (by ext)) (.nil)) (by nofun) (cE (K:=K) rfl (ax (zL (K:=K) rfl hu2) T.sorted lg (aj (aA aH (aC C_by_exchange a8 (hr.mono Zd) (aj (ax (aL (K:=K) rfl) T.len bH (aj (pvC 2) (ae))) (aj (pvL 3) (ae)))) (aC C_by_swap a8 (hr.mono Zd) (aj (pvL 3) (ae)))) (ae)))) (fun _ _ _ _=>aR (i:=0) (show (["made","alphabet"]:Ze).Nodup from by nofun)) (fun _ _ _ _=>eG) (fun _ _ _ _=>aC C_spelled fF (hr.mono Zd) (aj (pvC 1) (aj (pvL 0) (ae))))))))),?_⟩;grind;obtain⟨dx,q,c1,c2⟩:=hat
  have a3:=ok.a3;have a26:=ok.a26;have w3:=ok.w3;have w8:=ok.w8;refine⟨dx,_,c1,cq Zd Zd Zd al q r,a,al,ws,r,rfl,⟨dx,q,c1,c2⟩,?_⟩;cbv;grind;refine⟨dx,_,c1,cq Zd Zd Zd al q r,a,al,ws,r,rfl,⟨dx,q,c1,c2⟩,fun pw H1 hpw s1 h1=>?_⟩;symm;refine⟨_,.inl (.of h1),?_⟩;rw[ag];refine⟨tx al,ws.length,x,t,rfl,ic s1 ht,hz,fun H2 s2=>⟨_,rfl,?_⟩⟩;cases htv:dE (tx al) ws.length x with
  | false =>rw[ah (by rfl)];exact⟨aQ (aq Zd),hE htv H2 (s1.trans s2)⟩
  | true =>
   rw[af (by decide)];obtain⟨z,rfl⟩:∃ z,x=.str (tx z):=by
    cases x with
    | str z=>obtain⟨l,rfl⟩:=Nc z;exact⟨l,rfl⟩
    | _=>cases htv
   have hw:Mk.bL al ws.length z=true:=by
    have:Mk.bL (tx al).cps.toList ws.length (tx z).cps.toList=true:=htv
    rwa [bG,bG] at this
   have k':=k z rfl hw;clear k hE hz htv ht;obtain⟨zl,zm⟩:=Mk.dm.mp hw;have pm:=Mk.mn zm;have pl:(Mk.plc al z).length=ws.length:=by rw[Mk.oJ];lia
   show nn _ _ _;cbv;grind;refine⟨tx al,tx z,rfl,by rw[bC];lia,by rw[bG,bG];exact zm,fun p3 H3 hp3 s3 h3=>?_⟩;rw[bG,bG] at h3;generalize Mk.plc al z=ps at h3 pm pl k';cbv;symm;rw[bC];refine⟨aQ (aq (by lia)),al.length,p3,ps,rfl,h3,a26,by lia,fun D4 v4 H4 hD4 s4 h4 n4=>?_⟩;refine⟨p3,ps,rfl,s4 _ _ h3,by lia,by lia,fun D5 v5 H5 hD5 s5 h5 n5=>?_⟩;have l4:v4.length=ps.length*(al.length-1):=by rw[mm n4,uc pm]
   have l4':v4.length<=200:=by rw[l4];exact aV (Nat.mul_le_mul (show ps.length<=8 by lia) (show al.length-1<=25 by lia)) Zd
   have l5:v5.length<=8:=by rw[mm n5];exact aV tN (by lia)
   refine⟨_,_,s5 _ _ h4,h5,aQ (aq (by lia)),fun p6 H6 hp6 s6 h6=>?_⟩;have n6:iL H6 (v4++v5) (kg al.length ps):=iP (n4.keep fun b ns e=>(s5.trans s6) _ _ e) (n5.keep fun b ns e=>s6 _ _ e);obtain⟨zs,e1,e2,hzs⟩:=vX n6;rw[e1] at h6;have lz:zs.length<=208:=by have:=bJ List.length e1;rw[aB,ag] at this;lia
   have l64:zs.length<64:=by have:=bJ List.length e1;rw[aB,ag] at this;have:ps.length*(al.length-1)<=6*8:=Nat.mul_le_mul (by have:=ok.sm;lia) (by have:=ok.sm;lia);lia
   refine⟨zs,.of h6,l64,fun z hz=>.of (hzs z hz),fun us hp p7 H7 hp7 s7 h7=>?_⟩;have lu:us.length=zs.length:=hp.length_eq;have hpf:(us.map fun z=>z.2).Perm (kg al.length ps):=by rw[e2];exact hp.map _
   refine .inl ⟨⟨_,.of h7⟩,JK (eP (.of h7)) (by rw[ag];exact aq (by lia)) ((us.map fun z=>z.2).map fun ps=>V.str (tx (Mk.bO al ps))) (by simp) ?_ ?_⟩
   ·intro i x u hx hu H8 s8 R hR;rw[aT,aT] at hu;obtain⟨y,hy,rfl⟩:=yx hx;rw[hy] at hu;cases hu;have hym:y∈zs:=hp.mem_iff.mp (bQ hy);have hy2:y.2∈kg al.length ps:=by rw[e2];exact iw hym
    have fo:=mS pm y.2 hy2;symm;refine⟨tx al,y.1,y.2,rfl,by rw[bC];lia,(s7.trans s8) _ _ (hzs y hym),by lia,by rw[bG];exact fo.2,fun H9 s9=>?_⟩;rw[bG];exact hR H9 s9
   ·intro D H8 hD s8 h8;exact k' _ hpf D H8 ((s1.trans (s2.trans (s3.trans (s4.trans (s5.trans (s6.trans s7)))))).free hD) (s1.trans (s2.trans (s3.trans (s4.trans (s5.trans (s6.trans (s7.trans s8))))))) h8
noncomputable def m7:Sp:=fun vs H Q _=>∃ (x:V) (t:Tg) (n:Nat),vs=[x,.int n]/\fj H x=some t/\(∀ z,x=.str z->z.length<=10000)/\n<=1000/\∀ H',az H H'->Q (.bl (jx n x)) H'
theorem qI:aN ["thing","most","words"] ["thing","most"] (ay nc):=by subst_eqs
theorem xi (F:Fun K "are_words" "are_words" nc f fd) (T:Bl mg) (AF:AdF K mg Ad) (C_are_letters:Fnc P w K mg base (CX1 P w) 1 "are_letters" ["thing","most"] jP):bU P w K mg base (CX1 P w) 2 f fd ["thing","most"] m7:=by
 refine F.okX (k:=1) qI ?_ ?_
 ·bv_decide
 ·right;obtain⟨x,t,n,rfl,ht,hz,hn,k⟩:=h;refine⟨_,ai (bT (cM (cD (ax (fz .str) T.isinstance bt_isinstance (aj (pvL 0) (aj (kC T.str tR) (ae)))))) (ao (aK (kx))) (bh)) (ai (aF (i:=2) qI.nd (dS (K:=K) rfl gq rl rp qu (pvL 0) (aj (aY) (ae)))) (ao (aK (pA (cZ jo (ax (aL (K:=K) rfl) T.len bH (aj (pvL 2) (ae))) (pvL 1) (bc _)) (mU (ax (i8 (K:=K) rfl rfl) T.all oY (aj (gO ["word"] rfl ⟨rfl,by nofun,rfl,by nofun⟩ (.nil) (by nofun) (cE (K:=K) rfl (pvL 2)) (fun _ _ _ _=>aR (i:=0) (show (["word"]:Ze).Nodup from by nofun)) (fun _ _ _ _=>eG) (fun _ _ _ _=>aC C_are_letters fF (hr.mono Zd) (aj (pvL 0) (aj (eN AF.v_LONGEST_WORD) (ae))))) (ae)))))))),?_⟩
  by_cases hs:∃ z,x=.str z
  ·obtain⟨z,rfl⟩:=hs;cases ht;have hl:=hz z rfl;have hc:=dP z;have ek:jx n (.str z)=fE n z.cps.toList:=rfl;ac_nf;refine⟨trivial,Tg.str,rfl,?_⟩;ac_nf;obtain⟨sl1,sl2⟩:=Mk.uW (c:=32) z.cps.toList;refine⟨rfl,by lia,32,rfl,fun p H1 hp s1 h1=>⟨_,.l h1,?_⟩⟩;rw[ag]
   by_cases h2:(Mk.bw 32 z.cps.toList).length<=n
   ·rw[aw (show ((Mk.bw 32 z.cps.toList).length:Int)<=(n:Int) by lia)];bv_omega;refine .inl ⟨⟨_,.of h1⟩,vm (fun w:Za=>V.str (tx w)) (fun a b e=>gJ (V.str.inj e)) (eP (.of h1)) (aq (by lia)) (fun w=>.bl (dH 20 w)) ?_ ?_⟩
    ·intro w hw H2 s2 R hR;have hwl:=sl2 w hw;ac_nf;refine⟨_,Tg.str,20,rfl,rfl,(fun y e=>by cases e;rw[bC];lia),Zd,fun H3 s3=>?_⟩;have e:iF 20 (.str (tx w))=dH 20 w:=by show dH 20 (tx w).cps.toList=_;rw[bG]
     rw[e];exact hR H3 s3
    ·intro D H2 hD s2 h2';refine⟨D,(Mk.bw 32 z.cps.toList).map (dH 20),rfl,.of (by rw[h2',aI];rfl),?_⟩;have e:((Mk.bw 32 z.cps.toList).map (dH 20)).all id=jx n (.str z):=by
      rw[ek];unfold fE;rw[aw h2,fQ];rfl
     rw[e];exact k H2 (s1.trans s2)
   ·have e:jx n (.str z)=false:=by rw[ek];unfold fE;rw[av h2];rfl
    rw[e] at k;rw[av (show ¬ ((Mk.bw 32 z.cps.toList).length:Int)<=(n:Int) by lia)];bv_omega;exact k H1 s1
  ·have hv:jx n x=false:=by
    cases x with
    | str z=>exact absurd ⟨z,rfl⟩ hs
    | _=>rfl
   have hne:=qQ ht fun z e=>hs ⟨z,e⟩;rw[hv] at k;ac_nf;refine⟨trivial,t,ht,?_⟩;cases t<;>first
    | exact absurd rfl hne
    | exact k H (az.refl _)
inductive gA (Ad:Ads) (vs:List V) (H:Hp) (Q:VK) (E:XK):Prop
 | mk (ca q:Addr) (al:Za) (ws:Zb) (r:Int) (gs:Zb) (q0:vs=[.ref ca,.ref q]) (q1:cI Ad H ca al ws r) (q2:bN al ws r) (q3:H q=some (.lst (gs.map V.int))) (q4:∀ H',az H H'->Q (.int ((gs.sum+(gs.length:Int))%bX al ws)) H'):gA Ad vs H Q E
theorem tj:aN ["code","groups"] ["code","groups"] (ay jM):=by subst_eqs
theorem sZ (F:Fun K "check_number" "check_number" jM f fd) (T:Bl mg) (AF:AdF K mg Ad) (M_Code_many:Mtd P w K mg base (CX1 P w) Ad.Code "many" 1 ["self"] (fX Ad)):bU P w K mg base (CX1 P w) 2 f fd ["code","groups"] (gA Ad):=by
 refine F.okX (k:=1) tj ?_ ?_
 ·bv_decide
 ·right;obtain⟨ca,q,al,ws,r,gs,rfl,C,ok,hq,k⟩:=h;refine⟨_,ao (aK (aA cx (aA aH (ax (vE (K:=K) rfl rfl) T.sum EW (aj (pvL 1) (ae))) (ax (aL (K:=K) rfl) T.len bH (aj (pvL 1) (ae)))) (cS M_Code_many a8 (hr.mono Zd) (pvL 0)))),?_⟩;obtain⟨dc,qc,hc1,hc2⟩:=id C;have a3:=ok.a3;have w3:=ok.w3;have hmany:0<bX al ws:=Int.pow_pos (by lia);symm;refine⟨q,gs,rfl,.of hq,_,.l hq,?_⟩;rw[ag];symm;refine⟨dc,_,hc1,cq Zd Zd Zd al qc r,ca,al,ws,r,rfl,C,ok.a26,by lia,ok.w8,fun G1 t1=>?_⟩;have em:(al.length:Int)^(ws.length-1)=bX al ws:=rfl;rw[em];symm;exact⟨hmany,k G1 t1⟩
noncomputable def gK (al:Za) (n:Int) (H:Hp):V->Bool
 | .ref p=>match H p with
  | some (.lst xs)=>decide (2<=xs.length)&&decide (xs.length<=1400)&&xs.all (dE (tx al) n)
  | _=>false
 | _=>false
inductive ju (Ad:Ads) (vs:List V) (H:Hp) (Q:VK) (E:XK):Prop
 | mk (ca:Addr) (al:Za) (ws:Zb) (r:Int) (x:V) (t:Tg) (q0:vs=[.ref ca,x]) (q1:cI Ad H ca al ws r) (q2:fj H x=some t) (q3:(∀ p o u,x=.ref p->H p≠some (.frz o u))) (q4:(∀ p xs,x=.ref p->H p=some (.lst xs)->∀ y∈xs,(∃ t,fj H y=some t)/\∀ z,y=.str z->z.length<=100000)) (q5:∀ H',az H H'->Q (.bl (gK al ws.length H x)) H'):ju Ad vs H Q E
theorem mH:aN ["code","thing","length"] ["code","thing"] (ay jL):=by subst_eqs
theorem sY (F:Fun K "are_words_of" "are_words_of" jL f fd) (T:Bl mg) (AF:AdF K mg Ad) (C_is_word:Fnc P w K mg base (CX1 P w) 1 "is_word" ["alphabet","length","thing"] m8) (M_Code_alphabet:Mtd P w K mg base (CX1 P w) Ad.Code "alphabet" 1 ["self"] (iE Ad)) (M_Code_weights:Mtd P w K mg base (CX1 P w) Ad.Code "weights" 1 ["self"] (jt Ad)):bU P w K mg base (CX1 P w) 2 f fd ["code","thing"] (ju Ad):=by
 refine F.okX (k:=1) mH ?_ ?_
 ·bv_decide
 ·right;obtain⟨ca,al,ws,r,x,t,rfl,C,ht,hfz,hit,k⟩:=h;refine⟨_,ai (bT ((iR (cM (cD (ax (fz .lst) T.isinstance bt_isinstance (aj (pvL 1) (aj (kC T.list km) (ae)))))) (gE (cM (qD jo jo (eN AF.v_FEWEST_CAME) (ax (aL (K:=K) rfl) T.len bH (aj (pvL 1) (ae))) (eN AF.v_MOST_CAME))))).pt) (ao (aK (kx))) (bh)) (ai (fJ (i:=2) mH.nd (ax (aL (K:=K) rfl) T.len bH (aj (cS M_Code_weights a8 (hr.mono Zd) (pvC 0)) (ae)))) (ao (aK (ax (i8 (K:=K) rfl rfl) T.all oY (aj (gO ["word"] rfl ⟨rfl,by nofun,rfl,by nofun⟩ (.cons (j:=2) rfl (.inl (by ext)) (.cons (j:=0) rfl (.inl (by ext)) (.nil))) (by nofun) (cE (K:=K) rfl (pvL 1)) (fun _ _ _ _=>aR (i:=0) (show (["word","length","code"]:Ze).Nodup from by nofun)) (fun _ _ _ _=>eG) (fun _ _ _ _=>aC C_is_word fF (hr.mono Zd) (aj (cS M_Code_alphabet fF (hr.mono Zd) (pvC 2)) (aj (pvC 1) (aj (pvL 0) (ae)))))) (ae)))))),?_⟩;grind
  by_cases hs:∃ p xs,x=.ref p/\H p=some (.lst xs)
  ·obtain⟨p,xs,rfl,hp⟩:=hs;have hty:=hit p xs rfl hp;have et:t=Tg.lst:=by
    have:lG (H p)=some t:=ht;rw[hp] at this;cases this;rfl
   subst et;have ek:gK al ws.length H (.ref p)=(decide (2<=xs.length)&&decide (xs.length<=1400)&&xs.all (dE (tx al) ws.length)):=by show (match H p with | some (.lst xs)=>_ | _=>false)=_;rw[hp]
   rw[ek] at k;refine⟨trivial,Tg.lst,ht,?_⟩;symm;refine⟨_,.l hp,?_⟩
   by_cases h2:2<=xs.length
   ·rw[aw h2,dj] at k;rw[aw (show (2:Int)<=(xs.length:Int) by lia)];bv_omega
    by_cases h14:xs.length<=1400
    ·rw[aw h14,dj] at k;rw[aw (show (xs.length:Int)<=1400 by lia)];bv_omega;show nn _ _ _;cbv;obtain⟨dc,qc,hc1,hc2⟩:=id C;grind;refine⟨dc,_,hc1,cq Zd Zd Zd al qc r,ca,al,ws,r,rfl,C,fun p1 H1 hp1 s1 h1=>⟨_,.l h1,?_⟩⟩;rw[ag,hN];clear hN nn;symm;have hp1':=s1 _ _ hp;refine .inl ⟨⟨_,.of hp1'⟩,FU (xs:=xs) (eP (.of hp1')) (aq (by lia)) (fun y=>.bl (dE (tx al) ws.length y)) ?_ ?_⟩
     ·intro y hy H2 s2 R hR;obtain⟨⟨ty,hty1⟩,hty2⟩:=hty y hy;have C2:=C.same (s1.trans s2);obtain⟨dc2,qc2,hc21,hc22⟩:=id C2;symm;refine⟨dc2,_,hc21,cq Zd Zd Zd al qc2 r,ca,al,ws,r,rfl,C2,?_⟩;exact⟨tx al,ws.length,y,ty,rfl,ic (s1.trans s2) hty1,hty2,fun H3 s3=>hR H3 s3⟩
     ·intro D H2 hD s2 h2';refine⟨D,xs.map (dE (tx al) ws.length),rfl,.of (by rw[h2',aI];rfl),?_⟩;have e:(xs.map (dE (tx al) ws.length)).all id=xs.all (dE (tx al) ws.length):=by rw[fQ];rfl
      rw[e];exact k H2 (s1.trans s2)
    ·rw[av h14,gB] at k;rw[av (show ¬ (xs.length:Int)<=1400 by lia)];bv_omega;exact k H (az.refl _)
   ·rw[av h2,gB,gB] at k;rw[av (show ¬ (2:Int)<=(xs.length:Int) by lia)];bv_omega;exact k H (az.refl _)
  ·have hv:gK al ws.length H x=false:=by
    cases x with
    | ref p =>
     show (match H p with | some (.lst xs)=>_ | _=>false)=_;split
     ·rename_i xs hp;exact absurd ⟨p,xs,rfl,hp⟩ hs
     ·rfl
    | _=>rfl
   have hne:t≠Tg.lst:=fun e=>by
    subst e;cases x with
    | ref a =>
     have h':lG (H a)=some .lst:=ht;cases e:H a with
     | none=>rw[e] at h';cases h'
     | some o=>rw[e] at h';cases o with
      | lst xs=>exact hs ⟨a,xs,rfl,e⟩
      | frz ob u=>exact hfz a ob u rfl e
      | _=>cases h'
    | _=>cases ht
   rw[hv] at k;refine⟨trivial,t,ht,?_⟩;cases t<;>first
    | exact absurd rfl hne
    | exact k H (az.refl _)
inductive fe (Ad:Ads) (vs:List V) (H:Hp) (Q:VK) (E:XK):Prop
 | mk (b ca dn de f:Addr) (es:List Ben) (al:Za) (ws:Zb) (r n:Int) (q0:vs=[.ref b,.ref f]) (q1:eK Ad H b ca dn de es) (q2:cI Ad H ca al ws r) (q3:bN al ws r) (q4:r6 vk Ad.tb H f) (q5:zC (es.map (·.num)) n) (q6:n<bX al ws) (q7:∀ H',az H H'->Q (.int n) H'):fe Ad vs H Q E
theorem gF:aN ["self","is_barred","k"] ["self","is_barred"] (ay gY):=by subst_eqs
theorem pq (F:Fun K "least_free" "Book.least_free" gY f fd) (T:Bl mg) (AF:AdF K mg Ad) (M_Code_many:Mtd P w K mg base (CX1 P w) Ad.Code "many" 1 ["self"] (fX Ad)):bU P w K mg base (CX1 P w) 2 f fd ["self","is_barred"] (fe Ad):=by
 refine F.okX (k:=1) gF ?_ (fun cdv A outer s H vs Q E hr h=>?_)
 ·bv_decide
 ·obtain⟨b,ca,dn,de,f,es,al,ws,r,n,rfl,B,C,ok,Fb,Lf,hn,k⟩:=h;obtain⟨dx,h1⟩:=B.bk;have hu:=hr.nH;have hu1:=ug hr;refine⟨_,ai (aF (i:=2) gF.nd (au)) (ai (uJ cB ((iR (aX (rQ (K:=K) rfl hu1) (pvL 2) (cH (K:=K) rfl (pvL 0)) (by ext)) (gE (cD (uE (q:=vk) (Pt:=Ad.tb) (pvL 1) hr (aj (pvL 2) (ae)))))).pt) (ao (aF (i:=2) gF.nd (aA aH (pvL 2) (au))))) (ai (bT (aX Gn (pvL 2) (cS M_Code_many a8 (hr.mono Zd) (cH (K:=K) rfl (pvL 0))) (bc _)) (ao (dX dA AF.q_TooMany AF.g_TooMany da rfl (aj (aY) (ae)))) (bh)) (ao (aK (pvL 2))))),?_⟩;grind;cbv;grind;refine xS (fun σ H'=>∃ k:Int,0<=k/\k<=n/\σ=[some (V.ref b),some (V.ref f),some (V.int k)]/\H'=H) (fun σ _=>match σ with | [_,_,some (V.int k)]=>(n-k).toNat | _=>0) ⟨0,Zd,Lf.1,rfl,rfl⟩ ?_;rintro σ H' ⟨j,j0,jn,rfl,rfl⟩;symm;refine⟨_,dx,_,_,h1,AF.c_Book,AF.n_Book_by_number,kZ ca dn de,?_⟩;refine .inr ⟨_,.inl ⟨_,.inl j,.inl B.hn,rfl,rfl⟩,?_⟩;rw[Gg B.nn]
  by_cases hm:j∈es.map (·.num)
  ·rw[aw hm,ah rfl];have jl:j≠n:=fun e=>Lf.2.1 (by rw[←e];exact hm);refine⟨fun σ G=>σ=[some (V.ref b),some (V.ref f),some (V.int (j+1))]/\G=H',?_,rfl,rfl⟩;rintro σ G ⟨rfl,rfl⟩;exact⟨⟨j+1,by lia,by lia,rfl,rfl⟩,show (n-(j+1)).toNat<(n-j).toNat by lia⟩
  ·rw[av hm,af (by decide)];have je:j=n:=by
    rcases Int.lt_or_eq_of_le jn with h | h
    ·exact absurd (Lf.2.2 j j0 h) hm
    ·exact h
   subst je;refine⟨Fb,Fb,trivial,?_⟩;cbv;obtain⟨dc,qc,hc1,hc2⟩:=id C;grind;refine⟨_,dx,_,_,h1,AF.c_Book,AF.n_Book_basis,kj ca dn de,?_⟩;refine⟨dc,_,hc1,cq Zd Zd Zd al qc r,ca,al,ws,r,rfl,C,ok.a26,by have:=ok.w3;lia,ok.w8,fun G1 t1=>?_⟩;symm;rw[av (show ¬ (al.length:Int)^(ws.length-1)<=j by have:j<(al.length:Int)^(ws.length-1):=hn;lia)];bv_omega;show nn _ _ _;cbv;symm;exact k G1 t1
noncomputable def nC:Sp:=fun vs H Q _=>∃ c m n:Int,vs=[.int c,.int m,.int n]/\0<m/\m<=1000/\0<=n/\n<=1000/\∀ p H',H p=none->az H H'->H' p=some (.lst ((Mk.wts c m n.toNat).map V.int))->Q (.ref p) H'
theorem eO:aN ["_law_cell","_law_m","_law_many_here","_law_found","_law_k","_law_some"] ["_law_cell","_law_m","_law_many_here"] (ay kS):=by subst_eqs
theorem uB (F:Fun K "_law_weights" "_law_weights" kS f fd) (T:Bl mg) (AF:AdF K mg Ad) (C_law_apart:Fnc P w K mg base (CX1 P w) 1 "_law_apart" ["_law_number","_law_m"] qO):bU P w K mg base (CX1 P w) 2 f fd ["_law_cell","_law_m","_law_many_here"] nC:=by
 refine F.okX (k:=1) eO ?_ ?_
 ·bv_decide
 ·right;obtain⟨c,m,n,rfl,hm,hm2,hn0,hn,k⟩:=h;refine⟨_,ai (fJ (i:=3) eO.nd (cy (ae))) (ai (eZ cB rfl (eE T.range (aj (pvL 2) (ae))) (GF (i:=4) eO.nd) (ai (mW (i:=5) ["_law_w"] eO.nd rfl (Or.inl rfl) rfl ⟨rfl,by nofun,rfl,by nofun⟩ (.cons (j:=1) rfl (.inl (by ext)) (.cons (j:=4) rfl (.inl (by ext)) (.cons (j:=3) rfl (.inl (by ext)) (.nil)))) (by nofun) (eE T.range (aj (pvC 1) (ae))) (fun _ _ _ _=>aR (i:=0) (show (["_law_w","_law_m","_law_k","_law_found"]:Ze).Nodup from by nofun)) (fun _ _ _ _=>jz ((xA (cD (aC C_law_apart fF (hr.mono Zd) (aj (pvL 0) (aj (pvC 1) (ae))))) (xB ((iR (aX (cL (K:=K) rfl hu) (pvC 2) (au) (bc _)) (gE (cD (aC C_law_apart fF (hr.mono Zd) (aj (aA gz (pvL 0) (bZ (cT (K:=K) rfl) (pvC 3) (aA gz (pvC 2) (au)) (fun _ _=>rfl))) (aj (pvC 1) (ae))))))).pt))).pt)) (fun _ _ _ _=>pvL 0)) (ai (bT (aX (cL (K:=K) rfl hu) (pvL 5) (cy (ae)) (bc _)) (ao (aF (i:=5) eO.nd (ei (i9 (K:=K) rfl rfl) T.list km (aj (ei CW T.range EV (aj (pvC 1) (ae))) (ae))))) (bh)) (ai (dW (dS (K:=K) rfl fv gu gv eM (pvC 3) (aj (bZ (cT (K:=K) rfl) (pvL 5) (aA cx (pvL 0) (ax (aL (K:=K) rfl) T.len bH (aj (pvL 5) (ae)))) (fun _ _=>rfl)) (ae)))) (ao (aF (i:=0) eO.nd (aA cG (pvL 0) (au)))))))) (ao (aK (pvC 3)))),?_⟩;ac_nf;refine⟨Zd,fun p H0 hp s0 h0=>?_⟩;ac_nf;refine⟨by lia,by lia,?_⟩;refine BN (n:=n.toNat) (fun i σ H'=>∃ (ci:Int) (fnd:Zb) (o1 o2:Option V),σ=[some (.int ci),some (.int m),some (.int n),some (.ref p),o1,o2]/\fnd.length=i/\az H H'/\H' p=some (.lst (fnd.map V.int))/\Mk.oV m (n.toNat-i) ci fnd=Mk.wts c m n.toNat) ?_ ?_ ?_
  ·exact⟨c,[],none,none,rfl,rfl,s0,h0,rfl⟩
  ·rintro i σ H' hi ⟨ci,fnd,o1,o2,rfl,hlen,s1,h1,hgo⟩;ac_nf;refine⟨by lia,by lia,?_⟩;refine Av (xs:=(Mk.ofN m.toNat).map V.int) (tL _) (by rw[ag,Mk.oF];exact aq (by lia)) (pI fun w=>Mk.cop m w&&(fnd.isEmpty||Mk.cop m (w-fnd.getLastD 0))) (fun x=>x) ?_ ?_ ?_
   ·intro x hx H2 s2 R hR;obtain⟨w,rfl,hw⟩:=FY hx;have h2:H2 p=some (.lst (fnd.map V.int)):=s2 _ _ h1;ac_nf;refine⟨w,m,rfl,by lia,?_⟩;ac_nf;have e0:pI (fun w=>Mk.cop m w&&(fnd.isEmpty||Mk.cop m (w-fnd.getLastD 0))) (.int w)=(Mk.cop m w&&(fnd.isEmpty||Mk.cop m (w-fnd.getLastD 0))):=rfl;rw[e0] at hR;cases hc:Mk.cop m w with
    | false =>rw[hc,gB] at hR;exact hR H2 (az.refl _)
    | true =>
     rw[hc,dj] at hR;bv_omega;cases hf:fnd with
     | nil =>rw[hf] at hlen;have hi0:i=0:=hlen.symm;subst hi0;rw[ah (by simp)];rw[hf] at hR;exact hR H2 (az.refl _)
     | cons a r =>
      have hne:i≠0:=by rw[←hlen,hf];simp
      rw[af (by simp;lia)];have hlast:(fnd.map V.int)[i-1]?=some (.int (fnd.getLastD 0)):=by rw[aT,←hlen,←List.getLast?_eq_getElem?,jY,hf,List.getLast?_cons];rfl
      have e2:atI (fnd.map V.int) (0+(i:Int)-1)=some (.int (fnd.getLastD 0)):=by rw[show 0+(i:Int)-1=((i-1:Nat):Int) by lia];exact cu hlast
      refine⟨_,_,.l h2,e2,_,m,rfl,by lia,?_⟩;ac_nf;have e3:fnd.isEmpty=false:=by rw[hf];rfl
      rw[e3,Bool.false_or] at hR;exact hR H2 (az.refl _)
   ·intro x hx _ H2 s2 R hR;ac_nf;exact hR H2 (az.refl _)
   ·intro D H2 hD s2 h2;have h2':H2 D=some (.lst ((Mk.xW m fnd).map V.int)):=by
     rw[h2,List.map_id',DB];rfl
    have hp2:H2 p=some (.lst (fnd.map V.int)):=s2 _ _ h1;have hsame:∀ H3,az H' H3->az H H3:=fun H3 e b o hb=>by
     by_cases hbp:b=p
     ·subst hbp;rw[hp] at hb;cases hb
     ·exact e b o (s1 b o hb)
    have hpk:=Mk.Cb hm fnd ci;have hpos:=Mk.yW hm fnd;have hat:atI ((Mk.fZ m fnd).map V.int) (ci%((Mk.fZ m fnd).length:Int))=some (.int ((Mk.fZ m fnd).getD (ci%((Mk.fZ m fnd).length:Int)).toNat 0)):=by
     have e:((Mk.fZ m fnd).map V.int)[(ci%((Mk.fZ m fnd).length:Int)).toNat]?=some (.int ((Mk.fZ m fnd).getD (ci%((Mk.fZ m fnd).length:Int)).toNat 0)):=by rw[aT,bz,aO (by lia)];rfl
     have:=cu e
     rwa [nI hpk.1] at this
    have hgo2:Mk.oV m (n.toNat-(i+1)) (ci/7) (fnd++[(Mk.fZ m fnd).getD (ci%((Mk.fZ m fnd).length:Int)).toNat 0])=Mk.wts c m n.toNat:=by rw[←hgo,show n.toNat-i=(n.toNat-(i+1))+1 by lia];rfl
    ac_nf;refine⟨bj _,fun r H3 hr s3 h3=>?_⟩;refine⟨_,_,.of (s3 _ _ h2'),.of h3,vK _,rfl,?_⟩;have s4:az H' H3:=s2.trans s3;have hp3:H3 p=some (.lst (fnd.map V.int)):=s3 _ _ hp2;cases hcand:Mk.xW m fnd with
    | nil =>
     have hpool:Mk.fZ m fnd=Mk.ofN m.toNat:=by unfold Mk.fZ;rw[ah hcand]
     rw[ah (show mR (([]:Zb).map V.int) []=true from rfl)];intro a H4 ha s5 h4;refine⟨_,.inr ⟨0,m,h4,⟨by lia,by lia,by lia,by lia⟩,by lia,rfl⟩,fun l H5 hl s6 h5=>?_⟩;have hp5:H5 p=some (.lst (fnd.map V.int)):=s6 _ _ (s5 _ _ hp3);have hl5:H5 l=some (.lst ((Mk.fZ m fnd).map V.int)):=by rw[h5,hpool,Int.sub_zero,we]
     have s7:az H' H5:=s4.trans (s5.trans s6);ac_nf;refine⟨.inl ⟨rfl,_,.of hp5⟩,_,.l hl5,by rw[ag];lia,_,_,.l hl5,by rw[ag];exact hat,p,_,_,rfl,rfl,hp5,by rw[ag];exact aq (by lia),⟨Zd,Zd⟩,_,_,_,_,rfl,?_,(hsame _ s7).cF hp,?_,hgo2⟩
     ·rw[aB,hlen];rfl
     ·rw[aE,bu];rfl
    | cons x y =>
     have hpool:Mk.fZ m fnd=Mk.xW m fnd:=by unfold Mk.fZ;rw[af (by rw[hcand];simp)]
     rw[af (by simp [mR])];have hl3:H3 D=some (.lst ((Mk.fZ m fnd).map V.int)):=by rw[hpool];exact s3 _ _ h2'
     refine⟨.inl ⟨rfl,_,.of hp3⟩,_,.l hl3,by rw[ag];lia,_,_,.l hl3,by rw[ag];exact hat,p,_,_,rfl,rfl,hp3,by rw[ag];exact aq (by lia),⟨Zd,Zd⟩,_,_,_,_,rfl,?_,(hsame _ s4).cF hp,?_,hgo2⟩
     ·rw[aB,hlen];rfl
     ·rw[aE,bu];rfl
  ·rintro σ H' ⟨ci,fnd,o1,o2,rfl,hlen,s1,h1,hgo⟩;ac_nf;refine k p H' hp s1 ?_;rw[h1,←hgo,Nat.sub_self];rfl
noncomputable def uj (a b:Nat):List (Nat×Za):=[(0,[]),(1,[a]),(2,[a]),(1,[b]),(2,[a,b]),(1,[a,b]),(2,[b,32,a]),(2,[b]),(1,[a,b,a,b,a,a]),(2,[a,32,b]),(1,[b,a]),(2,[a,b,32,a]),(2,[b,a]),(2,[a,32,a,b,32,b])]
noncomputable def kOk (q:Nat×Za):Bool:=if q.1=0 then q.2==[] else if q.1=1 then dH 6 q.2 else decide (q.1=2)&&fE 6 q.2&&decide ((Mk.bw 32 q.2).length<=3/\q.2.length<=6)
theorem KY {a b:Nat} (ha:97<=a/\a<123) (hb:97<=b/\b<123) (h:a≠b):(uj a b).Nodup/\(uj a b).all kOk=true:=by
 have a32:¬ a=32:=by lia
 have b32:¬ b=32:=by lia
 have h':¬ b=a:=fun e=>h e.symm;have h1:¬ a=b:=h;constructor
 ·simp [uj,h',h1,a32,b32]
 ·simp [uj,kOk,dH,fE,Mk.bw,a32,b32,ha.1,ha.2,hb.1,hb.2]
noncomputable def mkKey (q:Nat×Za):List Key:=if q.1=0 then [.inr "end"] else if q.1=1 then [.inr "part",.inr (tx q.2)] else [.inr "phrase",.inr (tx q.2)]
theorem oA (h:kOk q=true):q=(0,[])∨(q.1=1/\dH 6 q.2=true)∨(q.1=2/\fE 6 q.2=true/\(Mk.bw 32 q.2).length<=3/\q.2.length<=6):=by
 obtain⟨k,l⟩:=q;unfold kOk at h;simp only at h;split at h
 ·rename_i e
  subst e;exact .inl (by rw[eq_of_beq h])
 ·split at h
  ·rename_i e
   exact .inr (.inl ⟨e,h⟩)
  ·rw[bP,bP,bR,bR] at h;exact .inr (.inr ⟨h.1.1,h.1.2,h.2⟩)
theorem mk0:mkKey (0,[])=[.inr "end"]:=rfl
theorem mk1 (l:Za):mkKey (1,l)=[.inr "part",.inr (tx l)]:=rfl
theorem mk2 (l:Za):mkKey (2,l)=[.inr "phrase",.inr (tx l)]:=rfl
theorem DV {q u:Nat×Za} (h1:kOk q=true) (h2:kOk u=true) (h:mkKey q=mkKey u):q=u:=by
 obtain⟨k,l⟩:=q;obtain⟨k',l'⟩:=u;rcases oA h1 with e | ⟨e,_⟩ | ⟨e,_⟩<;>rcases oA h2 with e' | ⟨e',_⟩ | ⟨e',_⟩
 ·rw[e,e']
 ·have e2:k'=1:=e';subst e2;rw[e,mk0,mk1] at h;cases h
 ·have e2:k'=2:=e';subst e2;rw[e,mk0,mk2] at h;cases h
 ·have e2:k=1:=e;subst e2;rw[e',mk0,mk1] at h;cases h
 ·have e2:k=1:=e;have e3:k'=1:=e';subst e2 e3;rw[mk1,mk1] at h;simp only[List.cons.injEq,Sum.inr.injEq,true_and,and_true] at h;rw[gJ h]
 ·have e2:k=1:=e;have e3:k'=2:=e';subst e2 e3;rw[mk1,mk2] at h;simp only[List.cons.injEq,Sum.inr.injEq,and_true] at h;exact absurd h.1 (by decide)
 ·have e2:k=2:=e;subst e2;rw[e',mk0,mk2] at h;cases h
 ·have e2:k=2:=e;have e3:k'=1:=e';subst e2 e3;rw[mk1,mk2] at h;simp only[List.cons.injEq,Sum.inr.injEq,and_true] at h;exact absurd h.1 (by decide)
 ·have e2:k=2:=e;have e3:k'=2:=e';subst e2 e3;rw[mk2,mk2] at h;simp only[List.cons.injEq,Sum.inr.injEq,true_and,and_true] at h;rw[gJ h]
theorem FZ (h:kOk q=true):jm (mkKey q):=by
 obtain⟨k,l⟩:=q;rcases oA h with e | ⟨e,h2⟩ | ⟨e,h2,_,h4⟩
 ·rw[e,mk0];exact K8
 ·have e2:k=1:=e;subst e2;rw[mk1];exact Ip h2
 ·have e2:k=2:=e;subst e2;rw[mk2];refine⟨wR h2,ar 2,fun z hz=>?_⟩;have hl:l.length<=10000:=by
   have h4':l.length<=6:=h4;lia
  have hz':V.str z∈[V.str ("phrase":Str),V.str (tx l)]:=hz;rcases aP.mp hz' with e | e
  ·cases e;decide
  ·have e2:V.str z=V.str (tx l):=bg.mp e;cases e2;rw[bC];exact hl
theorem Gh {fi st M:Int}{i j:Nat} (hM:27<=M) (hst:st=1∨st=2) (hij:j<i) (hi:i<14):(fi+st*(j:Int))%M≠(fi+st*(i:Int))%M:=fun e=>by
 have h1:=vg.mp e.symm;have h2:=jS h1;have e3:fi+st*(i:Int)-(fi+st*(j:Int))=st*((i:Int)-j):=by rw[Int.mul_sub];lia
 rw[e3] at h2;have:0<st*((i:Int)-j):=by rcases hst with rfl | rfl<;>lia
 have:=Int.le_of_dvd this h2;rcases hst with rfl | rfl<;>lia
theorem Ld (ok:bN al ws r) (w4:4<=ws.length):27<=bX al ws:=by
 have a3:=ok.a3;have h:3^3<=al.length^(ws.length-1):=aV (rb a3 3) (jZ (by lia) (by lia));unfold bX;have e:((al.length^(ws.length-1):Nat):Int)=(al.length:Int)^(ws.length-1):=by simp
 rw[←e];lia
noncomputable def zF (H:Hp) (vs:List V) (ks:List (List Key)):Prop:=Paired (fun v k=>∃ t,v=V.ref t/\H t=some (.tup (k.map kV))) vs ks
noncomputable def wA (vs:List V) (j:Nat):Addr:=match vs[j]? with
 | some (.ref t)=>t
 | _=>0
theorem J9 (h:zF H vs ks)  (hj:ks[j]?=some key):vs[j]?=some (.ref (wA vs j))/\H (wA vs j)=some (.tup (key.map kV)):=by
 have hl:=Paired.length h;have hjl:=(b7.mp hj).1;have hv:vs[j]?=some (vs[j]'(by lia)):=aO _;obtain⟨k',hk',t,e,ht⟩:=oH h hv;rw[hj] at hk';cases hk';have ea:wA vs j=t:=by unfold wA;rw[hv,e]
 rw[ea,hv,e];exact⟨rfl,ht⟩
structure E8 (al:Za) (ws:Zb) (H:Hp) (es:List Ben):Prop where
 en:∀ e∈es,H e.adr=some (.tup (e.key.map kV))
 nn:(es.map (·.num)).Nodup
 nk:(es.map (·.key)).Nodup
 ok:∀ e∈es,jm e.key/\0<=e.num/\e.num<bX al ws
 few:es.length<=14
 ph:∀ e∈es,∀ l,e.key=[.inr "phrase",.inr (tx l)]->(Mk.bw 32 l).length<=3
 hE:∃ e∈es,e.key=[.inr "end"]
 hP:∃ e∈es,∃ l,e.key=[.inr "part",.inr (tx l)]
 hF:∃ e∈es,∃ l,e.key=[.inr "phrase",.inr (tx l)]
inductive jQ (K:Zf) (vs:List V) (H:Hp) (Q:VK) (E:XK):Prop
 | mk (a p q:Addr) (ns:Zb) (al:Za) (ws:Zb) (r:Int) (q0:vs=[.ref a,.ref p]) (q1:SqL K H a (ns.map V.int)) (q2:Parts H p q al ws r) (q3:bN al ws r) (q4:4<=ws.length) (q5:∀ D es H',H D=none->az H H'->H' D=some (.dK (i7 es))->E8 al ws H' es->Q (.ref D) H'):jQ K vs H Q E
theorem bV:aN ["_law_script","_law_parts","_law_cell","_law_letters","_law_a","_law_b","_law_some","_law_first","_law_step","_law_found","_law_k"] ["_law_script","_law_parts"] (ay kN):=by subst_eqs
theorem u7 (F:Fun K "_law_entries" "_law_entries" kN f fd) (T:Bl mg) (AF:AdF K mg Ad) (C_law_many:Fnc P w K mg base (CX1 P w) 1 "_law_many" ["_law_parts"] nB) (C_law_mixed:Fnc P w K mg base (CX1 P w) 1 "_law_mixed" ["_law_cell"] hZ) (C_law_cell_at:Fnc P w K mg base (CX1 P w) 1 "_law_cell_at" ["_law_script","_law_k"] (hV K)):bU P w K mg base (CX1 P w) 2 f fd ["_law_script","_law_parts"] (jQ K):=by
 refine F.okX (k:=1) bV ?_ ?_
 ·bv_decide
 ·right;obtain⟨a,p,q,ns,al,ws,r,rfl,hS,hP,ok,w4,k⟩:=h;refine⟨_,ai (aF (i:=2) bV.nd (aC C_law_mixed a8 (hr.mono Zd) (aj (aC C_law_cell_at a8 (hr.mono Zd) (aj (pvL 0) (aj (au) (ae)))) (ae)))) (ai (aF (i:=3) bV.nd (aY)) (ai (aF (i:=4) bV.nd (bZ (cT (K:=K) rfl) (pvL 3) (aA cx (pvL 2) (au)) (fun _ _=>rfl))) (ai (aF (i:=5) bV.nd (bZ (cT (K:=K) rfl) (pvL 3) (aA cx (aA aH (aA aH (pvL 2) (au)) (aA cx (aA cG (pvL 2) (au)) (au))) (au)) (fun _ _=>rfl))) (ai (aF (i:=6) bV.nd (cy (aj (fH (aj (aY) (ae))) (aj (fH (aj (aY) (aj (pvL 4) (ae)))) (aj (fH (aj (aY) (aj (pvL 4) (ae)))) (aj (fH (aj (aY) (aj (pvL 5) (ae)))) (aj (fH (aj (aY) (aj (aA aH (pvL 4) (pvL 5)) (ae)))) (aj (fH (aj (aY) (aj (aA aH (pvL 4) (pvL 5)) (ae)))) (ae))))))))) (ai (aF (i:=6) bV.nd (aA aH (pvL 6) (cy (aj (fH (aj (aY) (aj (aA aH (aA aH (pvL 5) (aY)) (pvL 4)) (ae)))) (aj (fH (aj (aY) (aj (pvL 5) (ae)))) (ae)))))) (ai (aF (i:=6) bV.nd (aA aH (pvL 6) (cy (aj (fH (aj (aY) (aj (aA aH (aA aH (aA aH (aA aH (aA aH (pvL 4) (pvL 5)) (pvL 4)) (pvL 5)) (pvL 4)) (pvL 4)) (ae)))) (aj (fH (aj (aY) (aj (aA aH (aA aH (pvL 4) (aY)) (pvL 5)) (ae)))) (aj (fH (aj (aY) (aj (aA aH (pvL 5) (pvL 4)) (ae)))) (ae))))))) (ai (aF (i:=6) bV.nd (aA aH (pvL 6) (cy (aj (fH (aj (aY) (aj (aA aH (aA aH (aA aH (pvL 4) (pvL 5)) (aY)) (pvL 4)) (ae)))) (aj (fH (aj (aY) (aj (aA aH (pvL 5) (pvL 4)) (ae)))) (aj (fH (aj (aY) (aj (aA aH (aA aH (aA aH (aA aH (aA aH (pvL 4) (aY)) (pvL 4)) (pvL 5)) (aY)) (pvL 5)) (ae)))) (ae))))))) (ai (aF (i:=7) bV.nd (aA cG (pvL 2) (au))) (ai (aF (i:=8) bV.nd (bZ (cT (K:=K) rfl) (cy (aj (au) (aj (au) (ae)))) (aA cx (aA cG (pvL 2) (aA oG (au) (au))) (au)) (fun _ _=>rfl))) (ai (aF (i:=9) bV.nd (yQ)) (ai (eZ cB rfl (eE T.range (aj (ax (aL (K:=K) rfl) T.len bH (aj (pvL 6) (ae))) (ae))) (aR (i:=10) bV.nd) (ao (bT ((iR (aX xq (pvL 10) (au) (bc _)) (gE (aX p9 (aA cx (aA cG (aA cG (pvL 2) (aA oG (au) (au))) (aA aH (pvL 10) (au))) (au)) (au) (bc _)))).pt) (ao (uI hu1 (pvL 9) (aA cx (aA aH (pvL 7) (aA ml (pvL 8) (pvL 10))) (aC C_law_many a8 (hr.mono Zd) (aj (pvL 1) (ae)))) (bZ (cT (K:=K) rfl) (pvL 6) (pvL 10) (fun _ _=>rfl)))) (bh)))) (ao (aK (pvL 9)))))))))))))),?_⟩;have big:∀ {u:Nat},u<=1000->u<=sizeLine:=fun hu=>aQ (aq (by lia));grind;refine⟨a,ns,1,rfl,hS,Zd,?_⟩;generalize ns.getD (1:Int).toNat 0=c0;refine⟨c0,rfl,?_⟩;have y0:=tI c0;generalize DU c0=y at y0;cbv;grind;cbv;grind;obtain⟨ia,hia⟩:∃ i:Nat,y%26=(i:Int):=ie (by lia);have ia26:ia<26:=by lia
  refine⟨Zd,big Zd,97+ia,by rw[hia];exact cu (EE ia ia26),?_⟩;cbv;grind;obtain⟨ib,hib⟩:∃ i:Nat,(y+1+y/26%25)%26=(i:Int):=ie (by lia);have ib26:ib<26:=by lia
  have iab:ia≠ib:=by lia
  refine⟨⟨Zd,Zd⟩,Zd,Zd,big Zd,97+ib,by rw[hib];exact cu (EE ib ib26),?_⟩;cbv;have knd:=KY (a:=97+ia) (b:=97+ib) (by lia) (by lia) (by lia);generalize 97+ia=ca at knd;generalize 97+ib=cb at knd;clear hia hib;grind;have le1:1<=sizeLine:=big Zd;have le2:2<=sizeLine:=big Zd;have le3:3<=sizeLine:=big Zd;have le4:4<=sizeLine:=big Zd;have le5:5<=sizeLine:=big Zd;have le6:6<=sizeLine:=big Zd;have le8:8<=sizeLine:=big Zd;have le11:11<=sizeLine:=big Zd;have le14:14<=sizeLine:=big Zd;refine⟨le1,fun t0 G0 v0 q0 e0=>⟨le2,fun t1 G1 v1 q1 e1=>⟨le2,fun t2 G2 v2 q2 e2=>⟨le2,fun t3 G3 v3 q3 e3=>⟨le2,le2,fun t4 G4 v4 q4 e4=>⟨le2,le2,fun t5 G5 v5 q5 e5=>⟨le6,fun l0 A0 vl0 ql0 el0=>?_⟩⟩⟩⟩⟩⟩⟩;cbv;grind;refine⟨le2,le3,le2,fun t6 G6 v6 q6 e6=>⟨le2,fun t7 G7 v7 q7 e7=>⟨le2,fun l1 A1 vl1 ql1 el1=>⟨_,_,(q6.trans (q7.trans ql1)) _ _ el0,el1,le8,fun l2 A2 vl2 ql2 el2=>?_⟩⟩⟩⟩;cbv;grind;refine⟨le2,le3,le4,le5,le6,le2,fun t8 G8 v8 q8 e8=>⟨le2,le3,le2,fun t9 G9 v9 q9 e9=>⟨le2,le2,fun t10 G10 v10 q10 e10=>⟨le3,fun l3 A3 vl3 ql3 el3=>⟨_,_,(q8.trans (q9.trans (q10.trans ql3))) _ _ el2,el3,le11,fun l4 A4 vl4 ql4 el4=>?_⟩⟩⟩⟩⟩;cbv;grind;refine⟨le2,le3,le4,le2,fun t11 G11 v11 q11 e11=>⟨le2,le2,fun t12 G12 v12 q12 e12=>⟨le2,le3,le4,le5,le6,le2,fun t13 G13 v13 q13 e13=>⟨le3,fun l5 A5 vl5 ql5 el5=>⟨_,_,(q11.trans (q12.trans (q13.trans ql5))) _ _ el4,el5,le14,fun l6 A6 vl6 ql6 el6=>?_⟩⟩⟩⟩⟩;cbv;have d6:az A5 A6:=ql6;have d13:=ql5.trans d6;have d12:=q13.trans d13;have d11:=q12.trans d12;have d4:=q11.trans d11;have d3:=ql4.trans d4;have d10:=ql3.trans d3;have d9:=q10.trans d10;have d8:=q9.trans d9;have d2:=q8.trans d8;have d1:=ql2.trans d2;have d7:=ql1.trans d1;have d6':=q7.trans d7;have d0:=q6.trans d6';have d5:=ql0.trans d0;have d5':=q5.trans d5;have d4':=q4.trans d5';have d3':=q3.trans d4';have d2':=q2.trans d3';have d1':=q1.trans d2';have sH:az H A6:=q0.trans d1';obtain⟨vs,evs,hvs⟩:∃ vs,A6 l6=some (.lst vs)/\zF A6 vs ((uj ca cb).map mkKey):=⟨_,el6,.cons ⟨t0,rfl,d1' _ _ e0⟩ (.cons ⟨t1,rfl,d2' _ _ e1⟩ (.cons ⟨t2,rfl,d3' _ _ e2⟩ (.cons ⟨t3,rfl,d4' _ _ e3⟩ (.cons ⟨t4,rfl,d5' _ _ e4⟩ (.cons ⟨t5,rfl,d5 _ _ e5⟩ (.cons ⟨t6,rfl,d6' _ _ e6⟩ (.cons ⟨t7,rfl,d7 _ _ e7⟩ (.cons ⟨t8,rfl,d8 _ _ e8⟩ (.cons ⟨t9,rfl,d9 _ _ e9⟩ (.cons ⟨t10,rfl,d10 _ _ e10⟩ (.cons ⟨t11,rfl,d11 _ _ e11⟩ (.cons ⟨t12,rfl,d12 _ _ e12⟩ (.cons ⟨t13,rfl,d13 _ _ e13⟩ .nil)))))))))))))⟩;have lvs:vs.length=14:=Paired.length hvs;clear d1' d2' d3' d4' d5' d5 d0 d6' d7 d1 d2 d8 d9 d10 d3 d4 d11 d12 d13 d6 q0 q1 q2 q3 q4 q5 q6 q7 q8 q9 q10 q11 q12 q13 ql0 ql1 ql2 ql3 ql4 ql5 ql6 e0 e1 e2 e3 e4 e5 e6 e7 e8 e9 e10 e11 e12 e13 el0 el1 el2 el3 el4 el5 el6 v0 v1 v2 v3 v4 v5 v6 v7 v8 v9 v10 v11 v12 v13 vl0 vl1 vl2 vl3 vl4 vl5 vl6;grind;refine⟨⟨Zd,Zd⟩,?_⟩;cbv;generalize y/650=fi;grind;obtain⟨st,hst,hb⟩:∃ st:Int,(st=1∨st=2)/\atI [V.int 1,V.int 2] (y/10^Int.toNat 6%2)=some (V.int st):=by
   have hy:y/10^Int.toNat 6%2=0∨y/10^Int.toNat 6%2=1:=by lia
   rcases hy with e | e<;>rw[e]
   ·exact⟨1,.inl rfl,rfl⟩
   ·exact⟨2,.inr rfl,rfl⟩
  refine⟨le2,fun p1 H1 hp1 s1 h1=>⟨⟨Zd,Zd,Zd⟩,⟨Zd,Zd⟩,Zd,_,_,.l h1,hb,?_⟩⟩;rw[hN];clear hN nn hb;grind;intro D H2 hD s2 h2;cbv;have s6:=s1.trans s2;have sA:=sH.trans s6;have evs2:=s6 _ _ evs;have nlp:l6≠D:=b9 (s1 _ _ evs) hD;have hvs2:zF H2 vs ((uj ca cb).map mkKey):=ku (fun _ _ ⟨t,e,ht⟩=>⟨t,e,s6 _ _ ht⟩) hvs;have hP2:Parts H2 p q al ws r:=⟨sA _ _ hP.1,sA _ _ hP.2⟩;have hD0:H D=none:=(sH.trans s1).free hD;have hM:=Ld ok w4;have a26:=ok.a26;have w8:=ok.w8;have kl:(uj ca cb).length=14:=rfl;have k0:(uj ca cb).getD 0 (0,[])=(0,[]):=rfl;have k1:(uj ca cb).getD 1 (0,[])=(1,[ca]):=rfl;have k2:(uj ca cb).getD 2 (0,[])=(2,[ca]):=rfl;generalize uj ca cb=kd at knd hvs2 kl hvs k0 k1 k2;clear hvs evs h1 hp1;obtain⟨mkE,hmk⟩:∃ mkE:Nat->Ben,mkE=fun j=>⟨(fi+st*(j:Int))%bX al ws,mkKey (kd.getD j (0,[])),wA vs j⟩:=⟨_,rfl⟩;have kat:∀ {j:Nat},j<14->kd[j]?=some (kd.getD j (0,[])):=fun {j} h=>by rw[bz,aO (by lia)];rfl
  have kok:∀ {j:Nat},j<14->kOk (kd.getD j (0,[]))=true:=fun h=>cj.mp knd.2 _ (bQ (kat h));have vat:∀ {j:Nat},j<14->vs[j]?=some (.ref (wA vs j))/\H2 (wA vs j)=some (.tup ((mkKey (kd.getD j (0,[]))).map kV)):=fun h=>J9 hvs2 (by rw[aT,kat h];rfl);have mnum:∀ j,(mkE j).num=(fi+st*(j:Int))%bX al ws:=fun j=>by rw[hmk]
  have mkey:∀ j,(mkE j).key=mkKey (kd.getD j (0,[])):=fun j=>by rw[hmk]
  have madr:∀ j,(mkE j).adr=wA vs j:=fun j=>by rw[hmk]
  grind;refine⟨_,.l evs2,?_⟩;rw[lvs];refine⟨Zd,Zd,lp (n:=14) (fun i σ G=>(∃ o10,σ=[some (V.ref a),some (V.ref p),some (V.int y),some (V.str (Str.ofString "abcdefghijklmnopqrstuvwxyz")),some (V.str { cps:=#[ca] }),some (V.str { cps:=#[cb] }),some (V.ref l6),some (V.int fi),some (V.int st),some (V.ref D),o10])/\(∀ c o,c≠D->H2 c=some o->G c=some o)/\∃ js:Za,js.Pairwise (·<·)/\(∀ j∈js,j<i)/\(∀ j,j<3->j<i->j∈js)/\G D=some (.dK (i7 (js.map mkE)))) ?_ ?_ ?_⟩
  ·exact⟨⟨_,rfl⟩,(fun c o _ e=>e),[],.nil,(fun j h=>by cases h),(fun j _ h=>by lia),h2⟩
  ·rintro i σ G hi ⟨⟨o10,rfl⟩,kp,js,jp,jl,j3,hGD⟩ N hNx;clear hN;have hi14:i<14:=hi;have jlen:js.length<=14:=by
    have:=rM (List.range 14) js (nJ (fun h=>aW h) jp) fun j hj=>cg.mpr (by have:=jl j hj;lia)
    rwa [dy] at this
   have fin:∀ G':Hp,az G G'->N [some (V.ref a),some (V.ref p),some (V.int y),some (V.str (Str.ofString "abcdefghijklmnopqrstuvwxyz")),some (V.str { cps:=#[ca] }),some (V.str { cps:=#[cb] }),some (V.ref l6),some (V.int fi),some (V.int st),some (V.ref D),some (V.int (i:Int))] (upd G' D (.dK (putK (i7 (js.map mkE)) (.inl ((fi+st*(i:Int))%bX al ws)) (V.ref (wA vs i))))):=fun G' t=>by
    refine hNx _ _ ⟨⟨_,rfl⟩,(fun c o hc e=>by rw[aJ hc];exact t _ _ (kp c o hc e)),js++[i],?_,?_,?_,?_⟩
    ·refine List.pairwise_append.mpr ⟨jp,List.pairwise_singleton _ _,fun x hx y hy=>?_⟩;rw[bg.mp hy];exact jl x hx
    ·intro j hj;rcases bE.mp hj with hj | hj
     ·have:=jl j hj;lia
     ·rw[bg.mp hj];lia
    ·intro j h3 hj
     by_cases e:j=i
     ·rw[e];exact eR _ (bg.mpr rfl)
     ·exact lN _ (j3 j h3 (by lia))
    ·rw[aE,bu,lM,vY,xy,mnum,madr];refine uu fun hm=>?_;rw[aI] at hm;obtain⟨j,hj,e⟩:=aM.mp hm;have e':(mkE j).num=(fi+st*(i:Int))%bX al ws:=e;rw[mnum] at e';exact Gh hM hst (jl j hj) hi14 e'
   have hlG:=kp _ _ nlp evs2;have hPG:Parts G p q al ws r:=⟨kp _ _ (fun e=>by have:=hP.1;rw[e,hD0] at this;cases this) hP2.1,kp _ _ (fun e=>by have:=hP.2;rw[e,hD0] at this;cases this) hP2.2⟩;rw[jU]
   by_cases h3:i<3
   ·symm;rw[aw (show (i:Int)<3 by lia)];symm;refine⟨_,_,.l hlG,cu (vat hi14).1,⟨cV (show st.natAbs<=1000 by lia) Zd,cV (show ((i:Int)).natAbs<=1000 by lia) Zd⟩,p,q,al,ws,r,rfl,hPG,by lia,by lia,by lia,fun G1 t1=>?_⟩;symm;exact⟨by lia,D,_,rfl,z9.k (k:=.inl _) (t1 _ _ hGD) (aq (by rw[lD,ag];lia)),fin G1 t1⟩
   ·symm;rw[av (show ¬ (i:Int)<3 by lia)];symm;refine⟨⟨Zd,Zd,Zd⟩,⟨Zd,Zd⟩,⟨by lia,qU (show (i:Int)+1<1000 by lia) Zd⟩,Zd,?_⟩;cases decide (0<y/10^Int.toNat 8/((i:Int)+1)%4) with
    | true =>rw[ah rfl];refine⟨_,_,.l hlG,cu (vat hi14).1,⟨cV (show st.natAbs<=1000 by lia) Zd,cV (show ((i:Int)).natAbs<=1000 by lia) Zd⟩,p,q,al,ws,r,rfl,hPG,by lia,by lia,by lia,fun G1 t1=>?_⟩;symm;exact⟨by lia,D,_,rfl,z9.k (k:=.inl _) (t1 _ _ hGD) (aq (by rw[lD,ag];lia)),fin G1 t1⟩
    | false =>rw[af (by decide)];exact hNx _ _ ⟨⟨_,rfl⟩,kp,js,jp,(fun j hj=>by have:=jl j hj;lia),(fun j h4 hj=>j3 j h4 (by lia)),hGD⟩
  ·rintro σ G ⟨⟨o10,rfl⟩,kp,js,jp,jl,j3,hGD⟩;show nn _ _ _;cbv;symm;have jnd:js.Nodup:=nJ (fun h=>aW h) jp;have jlen:js.length<=14:=by
    have:=rM (List.range 14) js jnd fun j hj=>cg.mpr (jl j hj)
    rwa [dy] at this
   have hm0:∀ e∈js.map mkE,∃ j,j<14/\e=mkE j:=fun e he=>by obtain⟨j,hj,rfl⟩:=aM.mp he;exact⟨j,jl j hj,rfl⟩
   have get:∀ j,j<3->mkE j∈js.map mkE:=fun j h=>iw (j3 j h (by lia));refine k D (js.map mkE) G hD0 (fun c o e=>kp c o (fun z=>by rw[z,hD0] at e;cases e) (sA _ _ e)) hGD ⟨fun e he=>?_,?_,?_,fun e he=>?_,by rw[ag];exact jlen,fun e he l hl=>?_,?_,?_,?_⟩
   ·obtain⟨j,hj,rfl⟩:=hm0 e he;rw[madr,mkey];exact kp _ _ (fun z=>by have:=(vat hj).2;rw[z,h2] at this;cases this) (vat hj).2
   ·rw[aI];refine fk.mpr (jW (fun {x y} hx hy hxy e=>?_) jp);have e':(mkE x).num=(mkE y).num:=e;rw[mnum,mnum] at e';exact Gh hM hst hxy (jl y hy) e'
   ·rw[aI];refine fk.mpr (jW (fun {x y} hx hy hxy e=>?_) jp);have e':(mkE x).key=(mkE y).key:=e;rw[mkey,mkey] at e';have hx':=jl x hx;have hy':=jl y hy;have e2:=DV (kok hx') (kok hy') e';have e3:kd[x]?=kd[y]?:=by rw[kat hx',kat hy',e2]
    have:=(List.getElem?_inj (by lia) knd.1).mp e3;lia
   ·obtain⟨j,hj,rfl⟩:=hm0 e he;rw[mkey,mnum];exact⟨FZ (kok hj),cK _ (by lia),cQ _ (by lia)⟩
   ·obtain⟨j,hj,rfl⟩:=hm0 e he;rw[mkey] at hl;have hk:=kok hj;generalize kd.getD j (0,[])=kq at hl hk;obtain⟨k1,l1⟩:=kq;rcases oA hk with e2 | ⟨e2,_⟩ | ⟨e2,_,h4,_⟩
    ·rw[e2,mk0] at hl;cases hl
    ·have e3:k1=1:=e2;subst e3;rw[mk1] at hl;simp only[List.cons.injEq,Sum.inr.injEq,and_true] at hl;exact absurd hl.1 (by decide)
    ·have e3:k1=2:=e2;subst e3;rw[mk2] at hl;simp only[List.cons.injEq,Sum.inr.injEq,true_and,and_true] at hl;rw[←gJ hl];exact h4
   ·exact⟨mkE 0,get 0 Zd,by rw[mkey,k0];rfl⟩
   ·exact⟨mkE 1,get 1 Zd,_,by rw[mkey,k1];rfl⟩
   ·exact⟨mkE 2,get 2 Zd,_,by rw[mkey,k2];rfl⟩
theorem IJ (ok:jm key) (h:kdB "part" key=true):∃ l,key=[.inr "part",.inr (tx l)]/\dH 6 l=true:=by
 rcases iM ok with ⟨l,rfl,_⟩ | ⟨l,rfl,hl⟩ | rfl
 ·exact absurd h (by show ¬ decide (("phrase":Str)="part")=true;decide)
 ·exact⟨l,rfl,hl⟩
 ·exact absurd h (by show ¬ decide (("end":Str)="part")=true;decide)
theorem kd_end (ok:jm key) (h:kdB "end" key=true):key=[.inr "end"]:=by
 rcases iM ok with ⟨l,rfl,_⟩ | ⟨l,rfl,hl⟩ | rfl
 ·exact absurd h (by show ¬ decide (("phrase":Str)="end")=true;decide)
 ·exact absurd h (by show ¬ decide (("part":Str)="end")=true;decide)
 ·rfl
theorem vP (ok:jm key) (h:kdB "phrase" key=true):∃ l,key=[.inr "phrase",.inr (tx l)]:=by
 rcases iM ok with ⟨l,rfl,_⟩ | ⟨l,rfl,hl⟩ | rfl
 ·exact⟨l,rfl⟩
 ·exact absurd h (by show ¬ decide (("part":Str)="phrase")=true;decide)
 ·exact absurd h (by show ¬ decide (("end":Str)="phrase")=true;decide)
inductive kT (K:Zf) (vs:List V) (H:Hp) (Q:VK) (E:XK):Prop
 | mk (c D:Addr) (cs:Zb) (es:List Ben) (ob:Obj) (al:Za) (ws:Zb) (q0:vs=[.ref c,.ref D]) (q1:H c=some (.lst (cs.map V.int))) (q2:cs.length<=20) (q3:H D=some (.frz ob (.dK (i7 es)))) (q4:E8 al ws H es) (q5:∀ (g:Addr) (gs:Zb) (wd:List (Za)) H',H g=none->az H H'->H' g=some (.lst (gs.map V.int))->1<=gs.length->gs.length<=80->(∀ x∈gs,x∈es.map (·.num))->kh ((gs.map V.int).map (kOf es))=.inr wd->Q (.ref g) H'):kT K vs H Q E
theorem gh:aN ["_law_cells","_law_entries_here","_law_groups_here","_law_cell","_law_number","_law_k"] ["_law_cells","_law_entries_here"] (ay m4):=by subst_eqs
theorem vp (F:Fun K "_law_groups" "_law_groups" m4 f fd) (T:Bl mg) (AF:AdF K mg Ad) (C_law_group:Fnc P w K mg base (CX1 P w) 1 "_law_group" ["_law_entries_here","_law_sort","_law_number"] (mB K)) (C_law_mixed:Fnc P w K mg base (CX1 P w) 1 "_law_mixed" ["_law_cell"] hZ):bU P w K mg base (CX1 P w) 2 f fd ["_law_cells","_law_entries_here"] (kT K):=by
 refine F.okX (k:=1) gh ?_ ?_
 ·bv_decide
 ·right;obtain⟨c,D,cs,es,ob,al,ws,rfl,hc,c20,hD,eo,k⟩:=h;refine⟨_,ai (aF (i:=2) gh.nd (cy (ae))) (ai (eZ cB rfl (cE (K:=K) rfl (pvL 0)) (aR (i:=3) gh.nd) (ai (aF (i:=4) gh.nd (aC C_law_mixed a8 (hr.mono Zd) (aj (pvL 3) (ae)))) (ao (bT (aX (cL (K:=K) rfl hu) (aA cx (pvL 4) (au)) (au) (bc _)) (ai (eZ cB rfl (eE T.range (aj (aA aH (au) (aA cx (aA cG (pvL 4) (au)) (au))) (ae))) (aR (i:=5) gh.nd) (ao (dW (dS (K:=K) rfl fv gu gv eM (pvL 2) (aj (aC C_law_group a8 (hr.mono Zd) (aj (pvL 1) (aj (aY) (aj (aA aH (aA cG (pvL 4) (au)) (aA xt (au) (pvL 5))) (ae))))) (ae)))))) (ao (dW (dS (K:=K) rfl fv gu gv eM (pvL 2) (aj (aC C_law_group a8 (hr.mono Zd) (aj (pvL 1) (aj (aY) (aj (au) (ae))))) (ae)))))) (ao (dW (dS (K:=K) rfl fv gu gv eM (pvL 2) (aj (aC C_law_group a8 (hr.mono Zd) (aj (pvL 1) (aj (aY) (aj (aA cG (pvL 4) (au)) (ae))))) (ae))))))))) (ai (bT (aX (cL (K:=K) rfl hu) (pvL 2) (cy (ae)) (bc _)) (ao (dW (dS (K:=K) rfl fv gu gv eM (pvL 2) (aj (aC C_law_group a8 (hr.mono Zd) (aj (pvL 1) (aj (aY) (aj (au) (ae))))) (ae))))) (bh)) (ao (aK (pvL 2))))),?_⟩;have hE:zA H D es:=⟨.inr ⟨ob,hD⟩,eo.en,eo.nn⟩;have hok:∀ e∈es,jm e.key:=fun e he=>(eo.ok e he).1;grind;refine⟨bj _,fun g H1 hg s1 h1=>?_⟩;cbv;grind;have hc1:=s1 _ _ hc;refine .inl ⟨⟨_,.of hc1⟩,lj (xs:=cs.map V.int) (fun i σ G=>(∃ o3 o4 o5,σ=[some (V.ref c),some (V.ref D),some (V.ref g),o3,o4,o5])/\az H G/\∃ (grp:List Ben) (wd:List (Za)),G g=some (.lst ((grp.map fun e=>e.num).map V.int))/\(∀ e∈grp,e∈es)/\grp.length<=4*i/\i<=grp.length/\runK (grp.map fun e=>e.key) ([],[])=some (wd,[])/\wd.length<=3*i/\(1<=i->wd≠[])) ?_ ?_ ?_ ?_⟩
  ·exact⟨⟨_,_,_,rfl⟩,s1,[],[],h1,(fun e he=>by cases he),ar _,ar _,rfl,ar _,fun h=>by lia⟩
  ·rintro i σ G _ ⟨_,sG,_⟩;exact .of (sG _ _ hc)
  ·rintro i v σ G hi ⟨⟨o3,o4,o5,rfl⟩,sG,grp,wd,hgG,hgr,gl,gl2,hrun,wl,wne⟩ N hNx;clear hN;rw[aT] at hi;obtain⟨x,hx,rfl⟩:=dO.mp hi;have hil:=(b7.mp hx).1;refine gH fun n2 hM=>?_;symm;refine⟨x,rfl,?_⟩;have y0:=tI x;generalize DU x=y at y0;rw[hM];clear hM n2;symm;refine⟨Zd,?_⟩
   by_cases h3:y%3=0
   ·rw[aw h3,ah rfl];refine gH fun n2 hM=>?_;symm;have m0:0<=y/3%3/\y/3%3<3:=by lia
    refine⟨⟨Zd,Zd⟩,Zd,by lia,by lia,?_⟩;refine lp (n:=(1+y/3%3).toNat) (fun j σ G'=>(∃ o5,σ=[some (V.ref c),some (V.ref D),some (V.ref g),some (V.int x),some (V.int y),o5])/\az H G'/\∃ (gr:List Ben) (sp:Za),G' g=some (.lst ((gr.map fun e=>e.num).map V.int))/\(∀ e∈gr,e∈es)/\gr.length<=4*i+j/\i<=gr.length/\runK (gr.map fun e=>e.key) ([],[])=some (wd,sp)/\sp.length<=6*j/\(1<=j->sp≠[])) ?_ ?_ ?_
    ·exact⟨⟨_,rfl⟩,sG,grp,[],hgG,hgr,by lia,gl2,hrun,by simp,fun h=>by lia⟩
    ·rintro j σ G' hj ⟨⟨o5,rfl⟩,sG',gr,sp,hg',hgr',gl',gl2',hrun',sl,sne⟩ N2 hN2;clear hM hNx;symm;refine⟨.inl ⟨rfl,_,.of hg'⟩,⟨Zd,Zd⟩,.inl Zd,D,es,ob,_,_,rfl,sG' _ _ hD,hE.same sG',hok,eo.few,?_,fun e he hz G1 t1=>?_⟩
     ·obtain⟨e,he,l,ek⟩:=eo.hP;exact⟨e,he,by rw[ek];rfl⟩
     obtain⟨l,ek,hl⟩:=IJ (hok e he) hz;obtain⟨l1,l6,_⟩:=rK hl;refine⟨g,_,_,rfl,rfl,t1 _ _ hg',by rw[ag,ag];exact aq (by lia),hN2 _ _ ⟨⟨_,rfl⟩,(sG'.trans t1).cF hg,gr++[e],sp++l,?_,?_,?_,?_,?_,?_,fun _ z=>?_⟩⟩
     ·rw[aE,bu,bu];rfl
     ·intro e' he';rcases bE.mp he' with h | h
      ·exact hgr' e' h
      ·rw[bg.mp h];exact he
     ·rw[aB,cN];lia
     ·rw[aB];lia
     ·rw[bu,lM];refine uK hrun' ?_;rw[ek,jA,ah ⟨by show wd.length<60;lia,by show sp.length+l.length<=20;lia⟩]
     ·rw[aB];lia
     ·have:=bJ List.length z;rw[aB,ir] at this;lia
    ·rintro σ G' ⟨⟨o5,rfl⟩,sG',gr,sp,hg',hgr',gl',gl2',hrun',sl,sne⟩;show n2 _ _ _;rw[hM];clear hM n2;symm;refine⟨.inl ⟨rfl,_,.of hg'⟩,D,es,ob,_,_,rfl,sG' _ _ hD,hE.same sG',hok,eo.few,?_,fun e he hz G1 t1=>?_⟩
     ·obtain⟨e,he,ek⟩:=eo.hE;exact⟨e,he,by rw[ek];rfl⟩
     have ek:=kd_end (hok e he) hz;have spne:sp≠[]:=sne (by lia);refine⟨g,_,_,rfl,rfl,t1 _ _ hg',by rw[ag,ag];exact aq (by lia),hNx _ _ ⟨⟨_,_,_,rfl⟩,(sG'.trans t1).cF hg,gr++[e],wd++[sp],?_,?_,?_,?_,?_,?_,fun _ z=>?_⟩⟩
     ·rw[aE,bu,bu];rfl
     ·intro e' he';rcases bE.mp he' with h | h
      ·exact hgr' e' h
      ·rw[bg.mp h];exact he
     ·rw[aB,cN];lia
     ·rw[aB,cN];lia
     ·rw[bu,lM];refine uK hrun' ?_;rw[ek,lE,af spne]
     ·rw[aB,cN];lia
     ·simp at z
   ·rw[av h3,af (by decide)];refine⟨.inl ⟨rfl,_,.of hgG⟩,⟨Zd,Zd⟩,D,es,ob,_,_,rfl,sG _ _ hD,hE.same sG,hok,eo.few,?_,fun e he hz G1 t1=>?_⟩
    ·obtain⟨e,he,l,ek⟩:=eo.hF;exact⟨e,he,by rw[ek];rfl⟩
    obtain⟨l,ek⟩:=vP (hok e he) hz;have p3:=eo.ph e he l ek;have p1:=Hg 32 l;refine⟨g,_,_,rfl,rfl,t1 _ _ hgG,by rw[ag,ag];exact aq (by lia),hNx _ _ ⟨⟨_,_,_,rfl⟩,(sG.trans t1).cF hg,grp++[e],wd++Mk.bw 32 l,?_,?_,?_,?_,?_,?_,fun _ z=>?_⟩⟩
    ·rw[aE,bu,bu];rfl
    ·intro e' he';rcases bE.mp he' with h | h
     ·exact hgr e' h
     ·rw[bg.mp h];exact he
    ·rw[aB,cN];lia
    ·rw[aB,cN];lia
    ·rw[bu,lM];refine uK hrun ?_;rw[ek,fO,ah ⟨rfl,by show wd.length+_<=60;lia⟩]
    ·rw[aB];lia
    ·have:=bJ List.length z;rw[aB,ir] at this;lia
  rintro σ G ⟨⟨o3,o4,o5,rfl⟩,sG,grp,wd,hgG,hgr,gl,gl2,hrun,wl,wne⟩;show nn _ _ _;cbv;rw[ag] at gl gl2 wl wne;refine B9 (fun σ G'=>(∃ o3 o4 o5,σ=[some (V.ref c),some (V.ref D),some (V.ref g),o3,o4,o5])/\az H G'/\∃ (grp:List Ben) (wd:List (Za)),G' g=some (.lst ((grp.map fun e=>e.num).map V.int))/\(∀ e∈grp,e∈es)/\grp.length<=80/\1<=grp.length/\runK (grp.map fun e=>e.key) ([],[])=some (wd,[])/\wd≠[]) ?_ ?_
  ·rintro σ G' ⟨⟨o3,o4,o5,rfl⟩,sG',grp,wd,hg',hgr',l80,l1,hrun',wne'⟩;symm;exact k g _ wd G' hg sG' hg' (by rw[ag];exact l1) (by rw[ag];exact l80) (fun x hx=>by obtain⟨e,he,rfl⟩:=aM.mp hx;exact iw (hgr' e he)) (Jw eo.nn hgr' rfl hrun' wne')
  ·intro U hU;symm;refine⟨bj _,fun p3 G3 hp3 s3 h3=>⟨_,_,.of (s3 _ _ hgG),.of h3,vK _,rfl,?_⟩⟩;cases grp with
   | nil =>
    rw[ah (by rfl)];have hg3:=s3 _ _ hgG;refine⟨.inl ⟨rfl,_,.of hg3⟩,D,es,ob,_,_,rfl,(sG.trans s3) _ _ hD,hE.same (sG.trans s3),hok,eo.few,?_,fun e he hz G1 t1=>?_⟩
    ·obtain⟨e,he,l,ek⟩:=eo.hF;exact⟨e,he,by rw[ek];rfl⟩
    obtain⟨l,ek⟩:=vP (hok e he) hz;have p3:=eo.ph e he l ek;have p1:=Hg 32 l;refine⟨g,_,_,rfl,rfl,t1 _ _ hg3,aq Zd,hU _ _ ⟨⟨_,_,_,rfl⟩,((sG.trans s3).trans t1).cF hg,[e],Mk.bw 32 l,?_,?_,(by show 1<=80;decide),ar _,?_,fun z=>?_⟩⟩
    ·rw[aE];rfl
    ·intro e' he';rw[bg.mp he'];exact he
    ·show (match stepK e.key ([],[]) with | none=>none | some t=>runK [] t)=_;rw[ek,fO,ah ⟨rfl,by show 0+_<=60;lia⟩];show some ([]++Mk.bw 32 l,([]:Za))=_;rw[List.nil_append]
    ·have:=bJ List.length z;rw[ir] at this;lia
   | cons e0 gr =>
    rw[af (by show ¬ mR (V.int e0.num::_) []=true;exact bS)];have hl1:1<=cs.length:=by
     cases cs with
     | nil=>rw[aZ,ir] at gl;lia
     | cons _ _=>rw[aZ];lia
    exact hU _ _ ⟨⟨_,_,_,rfl⟩,sG.trans s3,e0::gr,wd,s3 _ _ hgG,hgr,by lia,by rw[aZ];lia,hrun,wne hl1⟩
inductive hX (K:Zf) (vs:List V) (H:Hp) (Q:VK) (E:XK):Prop
 | mk (p q w pl:Addr) (al:Za) (ws:Zb) (r n:Int) (zs:List (Za)) (ps:Za) (q0:vs=[.ref p,.ref w,.ref pl,.int n]) (q1:Parts H p q al ws r) (q2:bN al ws r) (q3:H w=some (.lst (zs.map wdV))) (q4:zs.length<=1000) (q5:(∀ z∈zs,Ko al z)) (q6:H pl=some (.lst (ps.map mi))) (q7:ps.length<=3) (q8:ps.Nodup) (q9:(∀ i∈ps,i<zs.length)) (q10:∀ (D:Addr) (cs:List (Za)) H',H D=none->az H H'->H' D=some (.lst (cs.map wdV))->cs.length=zs.length->(∀ (i:Nat) z c,zs[i]?=some z->cs[i]?=some c->(i∈ps->lY al z c)/\(i∉ps->c=z))->Q (.ref D) H'):hX K vs H Q E
theorem jN:aN ["_law_parts","_law_words","_law_places","_law_number","_law_came","_law_k"] ["_law_parts","_law_words","_law_places","_law_number"] (ay kO):=by subst_eqs
theorem u9 (F:Fun K "_law_garbled" "_law_garbled" kO f fd) (T:Bl mg) (AF:AdF K mg Ad) (C_law_faulty:Fnc P w K mg base (CX1 P w) 1 "_law_faulty" ["_law_alphabet","_law_word_here","_law_number"] oU):bU P w K mg base (CX1 P w) 2 f fd ["_law_parts","_law_words","_law_places","_law_number"] (hX K):=by
 refine F.okX (k:=1) jN ?_ ?_
 ·bv_decide
 ·right;obtain⟨p,q,w,pl,al,ws,r,n,zs,ps,rfl,hP,ok,hw,zl,hz,hpl,pl3,pnd,plt,k⟩:=h;refine⟨_,ai (aF (i:=4) jN.nd (ei (i9 (K:=K) rfl rfl) T.list km (aj (pvL 1) (ae)))) (ai (eZ cB rfl (eE T.range (aj (ax (aL (K:=K) rfl) T.len bH (aj (pvL 2) (ae))) (ae))) (aR (i:=5) jN.nd) (ao (LC (aC C_law_faulty a8 (hr.mono Zd) (aj (bZ (cT (K:=K) rfl) (pvL 0) (au) (fun _ _=>rfl)) (aj (bZ (cT (K:=K) rfl) (pvL 1) (bZ (cT (K:=K) rfl) (pvL 2) (pvL 5) (fun _ _=>rfl)) (fun _ _=>rfl)) (aj (aA cG (pvL 3) (aA aH (au) (aA xt (au) (pvL 5)))) (ae))))) (L7 (pvL 4) (bZ (cT (K:=K) rfl) (pvL 2) (pvL 5) (fun _ _=>rfl)) set_list)))) (ao (aK (pvL 4)))),?_⟩;grind;refine⟨_,.inl (.l hw),fun D H1 hD s1 h1=>?_⟩;cbv;grind;refine⟨_,.l (s1 _ _ hpl),?_⟩;rw[ag];refine⟨by lia,by lia,lp (fun i σ G=>(∃ o5,σ=[some (V.ref p),some (V.ref w),some (V.ref pl),some (V.int n),some (V.ref D),o5])/\az H G/\∃ cs:List (Za),cs.length=zs.length/\G D=some (.lst (cs.map wdV))/\∀ (j:Nat) z c,zs[j]?=some z->cs[j]?=some c->(j∈ps.take i->lY al z c)/\(j∉ps.take i->c=z)) ?_ ?_ ?_⟩
  ·exact⟨⟨_,rfl⟩,s1,zs,rfl,h1,fun j z c h1 h2=>by rw[h1] at h2;cases h2;exact⟨(fun h=>by cases h),fun _=>rfl⟩⟩
  ·rintro i σ G hi ⟨⟨o5,rfl⟩,sG,cs,cl,hGD,hcs⟩ N hNx;clear hN;have hpi:ps[i]?=some ps[i]:=aO hi;have hj:=plt _ (iq hi);generalize ps[i]=j at hpi hj;have hjn:j∉ps.take i:=fun hm=>by
    obtain⟨a,ha⟩:=lJ hm;have hai:a<i:=by have:=(b7.mp ha).1;rw[bI] at this;lia
    rw[lK,ah hai] at ha;have:=(List.getElem?_inj (by lia) pnd).mp (ha.trans hpi.symm);lia
   have hzj:zs[j]?=some zs[j]:=aO hj;have wz:=hz _ (bQ hzj);have hv:(ps.map mi)[i]?=some (V.int (j:Int)):=by rw[aT,hpi];rfl
   symm;rw[jU];refine⟨_,_,.l (sG _ _ hP.1),cu (j:=0) rfl,_,_,.l (sG _ _ hpl),cu hv,?_⟩;symm;refine⟨_,_,.l (sG _ _ hw),cu (j:=j) (v:=V.str (tx zs[j])) (by rw[aT,hzj];rfl),.inl Zd,⟨by lia,qU (show (100:Int)+7*(i:Int)<1000 by lia) Zd⟩,al,_,_,rfl,ok.a3,ok.a26,ok.nd,wz.mem,wz.z3,wz.z8,fun c G1 t1 hF=>?_⟩;refine⟨_,_,.l ((sG.trans t1) _ _ hpl),cu hv,D,_,_,j,rfl,rfl,t1 _ _ hGD,?_,hNx _ _ ⟨⟨_,rfl⟩,(sG.trans t1).cF hD,cs.set j c,by rw[eQ];exact cl,by rw[aE,List.map_set];rfl,fun a z c' h1 h2=>?_⟩⟩
   ·unfold ixN;rw[ah (by lia),ah (by rw[ag];lia),dw]
   have et:ps.take (i+1)=ps.take i++[j]:=by rw[iy,hpi];rfl
   rw[et,bE,bg]
   by_cases e:j=a
   ·subst e;rw[jX (by lia)] at h2;rw[hzj] at h1;cases h1;cases h2;exact⟨fun _=>hF,fun h=>absurd (.inr rfl) h⟩
   ·rw[jc e] at h2;have:=hcs a z c' h1 h2;exact⟨fun h=>this.1 (h.resolve_right fun z=>e z.symm),fun h=>this.2 fun z=>h (.inl z)⟩
  rintro σ G ⟨⟨o5,rfl⟩,sG,cs,cl,hGD,hcs⟩;show nn _ _ _;cbv;symm;rw[fq (ar _)] at hcs;exact k D cs G hD sG hGD cl hcs
noncomputable def eV (H:Hp) (m:Int):V->Bool
 | .ref p=>match H p with
  | some (.lst xs)=>decide (3<=xs.length)&&decide (xs.length<=8)&&xs.all (cJ m)
  | _=>false
 | _=>false
noncomputable def nv:Sp:=fun vs H Q _=>∃ (x:V) (t:Tg) (m:Int),vs=[x,.int m]/\fj H x=some t/\(∀ p o u,x=.ref p->H p≠some (.frz o u))/\(∀ p xs,x=.ref p->H p=some (.lst xs)->xs.length<=1000/\∀ y∈xs,∃ t,fj H y=some t) ∧
 ∀ H',az H H'->Q (.bl (eV H m x)) H'
theorem uO:aN ["thing","m"] ["thing","m"] (ay kJ):=by subst_eqs
theorem uz (F:Fun K "are_weights" "are_weights" kJ f fd) (T:Bl mg) (AF:AdF K mg Ad) (C_is_below:Fnc P w K mg base (CX1 P w) 2 "is_below" ["thing","bound"] gR):bU P w K mg base (CX1 P w) 3 f fd ["thing","m"] nv:=by
 refine F.okX (k:=2) uO ?_ ?_
 ·bv_decide
 ·right;obtain⟨x,t,m,rfl,ht,hfz,hit,k⟩:=h;refine⟨_,ai (bT ((iR (cM (cD (ax (fz .lst) T.isinstance bt_isinstance (aj (pvL 0) (aj (kC T.list km) (ae)))))) (gE (cM (qD jo jo (au) (ax (aL (K:=K) rfl) T.len bH (aj (pvL 0) (ae))) (au))))).pt) (ao (aK (kx))) (bh)) (ao (aK (ax (i8 (K:=K) rfl rfl) T.all oY (aj (gO ["weight"] rfl ⟨rfl,by nofun,rfl,by nofun⟩ (.cons (j:=1) rfl (.inl (by ext)) (.nil)) (by nofun) (cE (K:=K) rfl (pvL 0)) (fun _ _ _ _=>aR (i:=0) (show (["weight","m"]:Ze).Nodup from by nofun)) (fun _ _ _ _=>eG) (fun _ _ _ _=>aC C_is_below fF (hr.mono Zd) (aj (pvL 0) (aj (pvC 1) (ae))))) (ae))))),?_⟩
  by_cases hs:∃ p xs,x=.ref p/\H p=some (.lst xs)
  ·obtain⟨p,xs,rfl,hp⟩:=hs;obtain⟨hl,hty⟩:=hit p xs rfl hp;have et:t=Tg.lst:=by
    have:lG (H p)=some t:=ht;rw[hp] at this;cases this;rfl
   subst et;have ek:eV H m (.ref p)=(decide (3<=xs.length)&&decide (xs.length<=8)&&xs.all (cJ m)):=by show (match H p with | some (.lst xs)=>_ | _=>false)=_;rw[hp]
   rw[ek] at k;ac_nf;refine⟨trivial,Tg.lst,ht,?_⟩;ac_nf;refine⟨_,.l hp,?_⟩
   by_cases h3:3<=xs.length
   ·rw[aw h3,dj] at k;rw[aw (show (3:Int)<=(xs.length:Int) by lia)];bv_omega
    by_cases h8:xs.length<=8
    ·rw[aw h8,dj] at k;rw[aw (show (xs.length:Int)<=8 by lia)];bv_omega;refine .inl ⟨⟨_,.of hp⟩,FU (xs:=xs) (eP (.of hp)) (aq (by lia)) (fun y=>.bl (cJ m y)) ?_ ?_⟩
     ·intro y hy H2 s2 R hR;obtain⟨ty,hty⟩:=hty y hy;have hty2:fj H2 y=some ty:=ic s2 hty;ac_nf;refine⟨y,ty,m,rfl,hty2,?_⟩;exact hR H2 (az.refl _)
     ·intro D H2 hD s2 h2;refine⟨D,xs.map (cJ m),rfl,.of (by rw[h2,aI];rfl),?_⟩;have e:(xs.map (cJ m)).all id=xs.all (cJ m):=by rw[fQ];rfl
      rw[e];exact k H2 s2
    ·rw[av h8,gB] at k;rw[av (show ¬ (xs.length:Int)<=8 by lia)];bv_omega;exact k H (az.refl _)
   ·rw[av h3,gB,gB] at k;rw[av (show ¬ (3:Int)<=(xs.length:Int) by lia)];bv_omega;exact k H (az.refl _)
  ·have hv:eV H m x=false:=by
    cases x with
    | ref p =>
     show (match H p with | some (.lst xs)=>_ | _=>false)=_;split
     ·rename_i xs hp;exact absurd ⟨p,xs,rfl,hp⟩ hs
     ·rfl
    | _=>rfl
   have hne:t≠Tg.lst:=fun e=>by
    subst e;cases x with
    | ref a =>
     have h':lG (H a)=some .lst:=ht;cases e:H a with
     | none=>rw[e] at h';cases h'
     | some o=>rw[e] at h';cases o with
      | lst xs=>exact hs ⟨a,xs,rfl,e⟩
      | frz ob u=>exact hfz a ob u rfl e
      | _=>cases h'
    | _=>cases ht
   rw[hv] at k;ac_nf;refine⟨trivial,t,ht,?_⟩;cases t<;>first
    | exact absurd rfl hne
    | exact k H (az.refl _)
inductive j6 (Ad:Ads) (vs:List V) (H:Hp) (Q:VK) (E:XK):Prop
 | mk (a:Addr) (al:Za) (ws:Zb) (r:Int) (x:V) (t:Tg) (q0:vs=[.ref a,x]) (q1:cI Ad H a al ws r) (q2:bN al ws r) (q3:fj H x=some t) (q4:(cJ ((al.length:Int)^(ws.length-1)) x=false->∀ H',az H H'->E (.ref Ad.NoNumber) none H')) (q5:(∀ k,x=.int k->0<=k->k<(al.length:Int)^(ws.length-1)->∀ H',az H H'->Q (.str (tx (Mk.bO al (Mk.kB al.length ws r k)))) H')):j6 Ad vs H Q E
theorem fb:aN ["self","k","m","left","ahead","weight","lasts"] ["self","k"] (ay mZ):=by subst_eqs
theorem xh (F:Fun K "word" "Code.word" mZ f fd) (T:Bl mg) (AF:AdF K mg Ad) (C_spelled:Fnc P w K mg base (CX1 P w) 1 "spelled" ["alphabet","places"] pY) (C_are_good:Fnc P w K mg base (CX1 P w) 1 "are_good" ["m","weights","rest","places"] k7) (C_is_below:Fnc P w K mg base (CX1 P w) 2 "is_below" ["thing","bound"] gR) (M_Code_many:Mtd P w K mg base (CX1 P w) Ad.Code "many" 1 ["self"] (fX Ad)):bU P w K mg base (CX1 P w) 3 f fd ["self","k"] (j6 Ad):=by
 refine F.okX (k:=2) fb ?_ ?_
 ·bv_decide
 ·right;obtain⟨a,al,ws,r,x,t,rfl,⟨dx,q,h1,h2⟩,ok,ht,kE,kQ⟩:=h;refine⟨_,ai (bT (cM (cD (aC C_is_below a8 (hr.mono Zd) (aj (pvL 1) (aj (cS M_Code_many a8 (hr.mono Zd) (pvC 0)) (ae)))))) (ao (dX dA AF.q_NoNumber AF.g_NoNumber da rfl (aj (aY) (ae)))) (bh)) (ai (fJ (i:=2) fb.nd (ax (aL (K:=K) rfl) T.len bH (aj (cH (K:=K) rfl (pvC 0)) (ae)))) (ai (aF (i:=3) fb.nd (pvL 1)) (ai (fJ (i:=4) fb.nd (cy (ae))) (ai (eZ cB rfl (cE (K:=K) rfl (cU (iT (K:=K) rfl) (cH (K:=K) rfl (pvC 0)) (dQ (au)) (eI))) (aR (i:=5) fb.nd) (ai (dW (dS (K:=K) rfl fv PySem.F.slot_list_insert PySem.F.type_list_insert DX (pvC 4) (aj (au) (aj (aA cx (pvL 3) (pvC 2)) (ae))))) (ao (aF (i:=3) fb.nd (aA cG (pvL 3) (pvC 2)))))) (ai (mW (i:=6) ["last"] fb.nd rfl (Or.inl rfl) rfl ⟨rfl,by nofun,rfl,by nofun⟩ (.cons (j:=2) rfl (.inl (by ext)) (.cons (j:=0) rfl (.inl (by ext)) (.cons (j:=4) rfl (.inl (by ext)) (.nil)))) (by nofun) (eE T.range (aj (pvC 2) (ae))) (fun _ _ _ _=>aR (i:=0) (show (["last","m","self","ahead"]:Ze).Nodup from by nofun)) (fun _ _ _ _=>jz (cD (aC C_are_good fF (hr.mono Zd) (aj (pvC 1) (aj (cH (K:=K) rfl (pvC 2)) (aj (cH (K:=K) rfl (pvC 2)) (aj (aA aH (pvC 3) (cy (aj (pvL 0) (ae)))) (ae)))))))) (fun _ _ _ _=>pvL 0)) (ao (aK (aC C_spelled a8 (hr.mono Zd) (aj (cH (K:=K) rfl (pvC 0)) (aj (aA aH (pvC 4) (pvL 6)) (ae))))))))))),?_⟩;have g3:=ok.a3;have g26:=ok.a26;have w3:=ok.w3;have w8:=ok.w8;rw[dR];symm;refine⟨dx,_,h1,cq Zd Zd Zd al q r,a,al,ws,r,rfl,⟨dx,q,h1,h2⟩,g26,by lia,w8,fun H1 s1=>?_⟩;symm;refine⟨x,t,_,rfl,ic s1 ht,?_⟩;cases hG:cJ ((al.length:Int)^(ws.length-1)) x with
  | false =>bv_omega;exact⟨Zd,kE hG H1 s1⟩
  | true =>
   bv_omega;obtain⟨k,rfl⟩:∃ k,x=.int k:=by
    cases x with
    | int k=>exact⟨k,rfl⟩
    | _=>cases hG
   have hG':(decide (0<=k)&&decide (k<(al.length:Int)^(ws.length-1)))=true:=hG;rw[bP,bR,bR] at hG';have kQ':=kQ k rfl hG'.1 hG'.2;have h11:=s1 _ _ h1;have h21:=s1 _ _ h2;rw[dR];symm;refine⟨_,dx,_,_,h11,AF.c_Code,AF.n_Code_letters,eh al q r,?_⟩;symm;rw[bC];refine⟨aQ (aq (by lia)),?_⟩;symm;rw[dR];symm;rw[dR];symm;refine⟨bj _,fun p H2 hp s2 hp2=>?_⟩;rw[dR];symm;refine⟨_,dx,_,_,s2 _ _ h11,AF.c_Code,AF.n_Code_factors,gb al q r,?_⟩;symm;refine⟨_,.of (s2 _ _ h21),fun q1 H3 hq1 s3 h3=>.inl ⟨⟨_,.of h3⟩,?_⟩⟩;rw[show (1:Int)=((1:Nat):Int) from rfl,fA,←gj] at h3;have hp3:=s3 _ _ hp2;have hqp:q1≠p:=fun e=>by rw[e,hp2] at hq1;cases hq1
   have hap:a≠p:=fun e=>by rw[←e,h11] at hp;cases hp
   have hqq:q≠p:=fun e=>by rw[←e,h21] at hp;cases hp
   have h13:=s3 _ _ (s2 _ _ h11);have h23:=s3 _ _ (s2 _ _ h21);have m0:(0:Int)<al.length:=by lia
   refine tF (xs:=(ws.drop 1).map V.int) (fun i σ H'=>(∀ b o,b≠p->H3 b=some o->H' b=some o)/\H' p=some (.lst ((Mk.ke al.length i k).map V.int))/\∃ o,σ=[some (.ref a),some (.int k),some (.int al.length),some (.int (k/(al.length:Int)^i)),some (.ref p),o,none]) ?_ ?_ ?_ ?_
   ·exact⟨fun _ _ _ h=>h,hp3,none,by rw[Int.pow_zero,Int.ediv_one]⟩
   ·rintro i σ H' _ ⟨f1,_⟩;exact .of (f1 _ _ hqp h3)
   ·rintro i x σ H' hx ⟨f1,f2,o,rfl⟩;have hi:i<ws.length-1:=by
     have:=(b7.mp hx).1;rw[ag,cf] at this;exact this
    ac_nf;refine⟨.inl ⟨rfl,_,.of f2⟩,m0,_,f2,Int.le_refl 0,Zd,?_,⟨m0,qU (show (al.length:Int)<1000 by lia) Zd⟩,fun b o hb e=>?_,?_,some x,?_⟩
    ·rw[ag,Mk.lh];exact aq (by lia)
    ·rw[aJ hb];exact f1 b o hb e
    ·rw[aE,Mk.vJ m0];rfl
    ·rw[Int.ediv_ediv_of_nonneg (Int.pow_nonneg (iX m0)),Int.pow_succ]
   ·rintro σ H' ⟨f1,f2,o,rfl⟩;rw[ag,cf] at f2;have f13:=f1 _ _ hap h13;have f23:=f1 _ _ hqq h23;have fm:=Mk.ud m0 (ws.length-1) k;have fl:=Mk.lh al.length (ws.length-1) k;obtain⟨l1,l2,l3,-⟩:=Mk.oC (r:=r) m0 (by lia) ok.wm (Mk.iS.mp ok.safe).1 (show (Mk.ke al.length (ws.length-1) k).length+1=ws.length by lia);ac_nf;refine⟨by lia,by lia,?_⟩;refine Au V.int iG (tL al.length) (by rw[Mk.oF];exact aq (by lia)) (fun x=>Mk.good al.length ws r (Mk.ke al.length (ws.length-1) k++[x])) V.int ?_ ?_ ?_
    ·intro x hx H5 s5 R hR;have hxm:=Mk.fG.mp hx;ac_nf;refine⟨_,dx,_,_,s5 _ _ f13,AF.c_Code,AF.n_Code_factors,gb al q r,?_⟩;refine⟨_,dx,_,_,s5 _ _ f13,AF.c_Code,AF.n_Code_remainder,mG al q r,?_⟩;refine⟨aQ (aq Zd),fun p1 H6 hp1 s6 h6=>?_⟩;have f26:=s6 _ _ (s5 _ _ f2);refine⟨_,_,f26,h6,by rw[ag,fl];show ws.length-1+1<=sizeLine;exact aQ (aq (by lia)),fun p2 H7 hp2 s7 h7=>?_⟩;refine⟨_,q,ws,r,p2,Mk.ke al.length (ws.length-1) k++[x],rfl,m0,s7 _ _ (s6 _ _ (s5 _ _ f23)),by rw[h7,bu];rfl,by lia,ok.sml,?_,fun H8 s8=>⟨_,rfl,hR H8 ((s6.trans s7).trans s8)⟩⟩;intro y hy;rcases bE.mp hy with hy | hy
     ·have:=fm y hy;lia
     ·rw[bg.mp hy];lia
    ·intro x hx _ H5 s5 R hR;ac_nf;exact hR H5 (az.refl _)
    ·intro D H5 hD s5 h5;have f15:=s5 _ _ f13;have f25:=s5 _ _ f2;have h5':H5 D=some (.lst ([Mk.sx al.length ws r (Mk.ke al.length (ws.length-1) k)].map V.int)):=by
      rw[h5,←l1];rfl
     ac_nf;refine⟨_,dx,_,_,f15,AF.c_Code,AF.n_Code_letters,eh al q r,_,_,f25,h5',by rw[ag,fl];show ws.length-1+1<=sizeLine;exact aQ (aq (by lia)),fun p1 H6 hp1 s6 h6=>?_⟩;refine⟨tx al,p1,Mk.kB al.length ws r k,rfl,by rw[bC];lia,by rw[h6,←bu];rfl,?_,?_,fun H7 s7=>?_⟩
     ·unfold Mk.kB;rw[aB,fl];show ws.length-1+1<=_;lia
     ·rw[bG];unfold Mk.kB;intro y hy;rcases bE.mp hy with hy | hy
      ·exact fm y hy
      ·rw[bg.mp hy];exact⟨l2,l3⟩
     ·rw[bG];refine kQ' H7 fun b o e=>?_;have hbp:b≠p:=fun e2=>by rw[←e2,s1 _ _ e] at hp;cases hp
      exact s7 _ _ (s6 _ _ (s5 _ _ (f1 b o hbp (s3 _ _ (s2 _ _ (s1 _ _ e))))))
inductive dG (Ad:Ads) (vs:List V) (H:Hp) (Q:VK) (E:XK):Prop
 | mk (a:Addr) (al:Za) (ws:Zb) (r:Int) (x:V) (t:Tg) (q0:vs=[.ref a,x]) (q1:cI Ad H a al ws r) (q2:bN al ws r) (q3:fj H x=some t) (q4:(∀ z,x=.str z->z.length<=100000)) (q5:∀ H',az H H'->Q (.bl (iH (tx al) ws r x)) H'):dG Ad vs H Q E
theorem si:aN ["self","thing"] ["self","thing"] (ay jr):=by subst_eqs
theorem rP (F:Fun K "has_good" "Code.has_good" jr f fd) (T:Bl mg) (AF:AdF K mg Ad) (C_is_good:Fnc P w K mg base (CX1 P w) 2 "is_good" ["alphabet","weights","rest","word"] pW):bU P w K mg base (CX1 P w) 3 f fd ["self","thing"] (dG Ad):=by
 refine F.okX (k:=2) si ?_ ?_
 ·bv_decide
 ·right;obtain⟨a,al,ws,r,x,t,rfl,⟨dx,q,h1,h2⟩,ok,ht,hz,k⟩:=h;refine⟨_,ao (aK (aC C_is_good a8 (hr.mono Zd) (aj (cH (K:=K) rfl (pvL 0)) (aj (cH (K:=K) rfl (pvL 0)) (aj (cH (K:=K) rfl (pvL 0)) (aj (pvL 1) (ae))))))),?_⟩;ac_nf;refine⟨_,dx,_,_,h1,AF.c_Code,AF.n_Code_letters,eh al q r,?_⟩;refine⟨_,dx,_,_,h1,AF.c_Code,AF.n_Code_factors,gb al q r,?_⟩;refine⟨_,dx,_,_,h1,AF.c_Code,AF.n_Code_remainder,mG al q r,?_⟩;have g3:=ok.a3;have g26:=ok.a26;have w8:=ok.w8;refine⟨tx al,q,ws,r,x,t,rfl,h2,by lia,by rw[bC];lia,by rw[bC];lia,ok.sml,ht,hz,k⟩
noncomputable def uV:Sp:=fun vs H Q _=>∃ l:Za,vs=[.str (tx l)]/\l.length<=10000/\∀ H',az H H'->Q (.bl (fE 60 l)) H'
theorem AY:aN ["thing"] ["thing"] (ay rY):=by subst_eqs
theorem AA (F:Fun K "is_text" "is_text" rY f fd) (T:Bl mg) (AF:AdF K mg Ad) (C_are_words:Fnc P w K mg base (CX1 P w) 2 "are_words" ["thing","most"] m7):bU P w K mg base (CX1 P w) 3 f fd ["thing"] uV:=by
 refine F.okX (k:=2) AY ?_ ?_
 ·bv_decide
 ·right;obtain⟨l,rfl,hl,k⟩:=h;refine⟨_,ao (aK (aC C_are_words a8 (hr.mono Zd) (aj (pvL 0) (aj (eN AF.v_MOST_WORDS) (ae))))),?_⟩;ac_nf;refine⟨.str (tx l),.str,60,rfl,rfl,(fun z ez=>by cases ez;rw[bC];exact hl),Zd,fun H1 s1=>?_⟩;have e:jx 60 (.str (tx l))=fE 60 l:=by show fE 60 (tx l).cps.toList=_;rw[bG]
  rw[e];exact k H1 s1
noncomputable def sR:Sp:=fun vs H Q _=>∃ (x:V) (t:Tg),vs=[x]/\fj H x=some t/\(∀ p xs,x=.ref p->H p=some (.tup xs)->xs.length<=1000/\∀ y∈xs,(∃ t,fj H y=some t)/\∀ z,y=.str z->z.length<=10000)/\∀ H',az H H'->Q (.bl (wQ H x)) H'
theorem zh:aN ["thing"] ["thing"] (ay pJ):=by subst_eqs
theorem yH (F:Fun K "is_entry" "is_entry" pJ f fd) (T:Bl mg) (AF:AdF K mg Ad) (C_are_letters:Fnc P w K mg base (CX1 P w) 1 "are_letters" ["thing","most"] jP) (C_are_words:Fnc P w K mg base (CX1 P w) 2 "are_words" ["thing","most"] m7):bU P w K mg base (CX1 P w) 3 f fd ["thing"] sR:=by
 refine F.okX (k:=2) zh ?_ ?_
 ·bv_decide
 ·right;obtain⟨x,t,rfl,ht,hit,k⟩:=h;refine⟨_,ai (bT ((iR (cM (cD (ax (fz .tup) T.isinstance bt_isinstance (aj (pvL 0) (aj (kC T.tuple EX) (ae)))))) (iR (aX (cL (K:=K) rfl hu) (ax (aL (K:=K) rfl) T.len bH (aj (pvL 0) (ae))) (au) (bc _)) (gE (cM (cD (ax (fz .str) T.isinstance bt_isinstance (aj (bZ (cT (K:=K) rfl) (pvL 0) (au) (fun _ _=>rfl)) (aj (kC T.str tR) (ae))))))))).pt) (ao (aK (kx))) (bh)) (ai (bT (aX (cL (K:=K) rfl hu) (ax (aL (K:=K) rfl) T.len bH (aj (pvL 0) (ae))) (au) (bc _)) (ao (aK (cZ (cL (K:=K) rfl hu) (bZ (cT (K:=K) rfl) (pvL 0) (au) (fun _ _=>rfl)) (aY) (bc _)))) (bh)) (ai (bT (aX (gC (K:=K) rfl hu) (ax (aL (K:=K) rfl) T.len bH (aj (pvL 0) (ae))) (au) (bc _)) (ao (aK (kx))) (bh)) (ai (bT (aX (cL (K:=K) rfl hu) (bZ (cT (K:=K) rfl) (pvL 0) (au) (fun _ _=>rfl)) (aY) (bc _)) (ao (aK (aC C_are_words a8 (hr.mono Zd) (aj (bZ (cT (K:=K) rfl) (pvL 0) (au) (fun _ _=>rfl)) (aj (eN AF.v_MOST_PHRASE_WORDS) (ae)))))) (bh)) (ao (aK (pA (cZ (cL (K:=K) rfl hu) (bZ (cT (K:=K) rfl) (pvL 0) (au) (fun _ _=>rfl)) (aY) (bc _)) (mU (aC C_are_letters a8 (hr.mono Zd) (aj (bZ (cT (K:=K) rfl) (pvL 0) (au) (fun _ _=>rfl)) (aj (eN AF.v_MOST_PART_LETTERS) (ae))))))))))),?_⟩
  by_cases hs:∃ p xs,x=.ref p/\H p=some (.tup xs)
  ·obtain⟨p,xs,rfl,hp⟩:=hs;obtain⟨hl,hty⟩:=hit p xs rfl hp;have et:t=Tg.tup:=by
    have:lG (H p)=some t:=ht;rw[hp] at this;cases this;rfl
   subst et;have ek:wQ H (.ref p)=mf xs:=by show (match H p with | some (.tup xs)=>mf xs | _=>false)=_;rw[hp]
   rw[ek] at k;have hT:Sq K H p xs:=.t hp;rw[dR];symm;refine⟨trivial,Tg.tup,ht,?_⟩;symm;refine⟨_,hT,?_⟩
   match xs,hT,hty,hl,k with
   | [],hT,hty,hl,k =>symm;exact k H (az.refl _)
   | v::r,hT,hty,hl,k =>
    rw[av (show ¬ (((v::r).length:Nat):Int)=0 by rw[aZ];lia)];bv_omega;have a0:atI (v::r) 0=some v:=cu (xs:=v::r) (j:=0) rfl;refine⟨_,v,hT,a0,?_⟩;obtain⟨⟨tv,htv⟩,hzv⟩:=hty v aS
    by_cases hvs:∃ z,v=.str z
    ·obtain⟨z,rfl⟩:=hvs;refine⟨Tg.str,rfl,?_⟩;symm;rw[dR];symm;refine⟨_,hT,?_⟩
     match r,hT,hty,hl,k with
     | [],hT,hty,hl,k =>symm;rw[ah (by rfl)];refine⟨_,_,hT,cu (xs:=[V.str z]) (j:=0) rfl,k H (az.refl _)⟩
     | [y],hT,hty,hl,k =>
      rw[av (show ¬ ((([V.str z,y]:List V).length:Nat):Int)=1 by show ¬ (2:Int)=1;decide)];bv_omega;obtain⟨⟨ty,hty1⟩,hzy⟩:=hty y (aU _ aS);have a0:atI [V.str z,y] 0=some (.str z):=cu (xs:=[V.str z,y]) (j:=0) rfl;have a1:atI [V.str z,y] 1=some y:=cu (xs:=[V.str z,y]) (j:=1) rfl;rw[dR];symm;refine⟨_,hT,?_⟩;rw[af (show ¬ (!decide ((([V.str z,y].length:Nat):Int)=2))=true by rw[show [V.str z,y].length=2 from rfl];decide)];rw[dR];symm;refine⟨_,_,hT,a0,?_⟩;symm;have ek2:mf [.str z,y]=if z=("phrase":Str) then jx 6 y else if z=("part":Str) then iF 6 y else false:=rfl
      rw[ek2] at k
      by_cases e1:z=("phrase":Str)
      ·rw[ah e1] at k;rw[aw e1];bv_omega;refine⟨_,_,hT,a1,?_⟩;exact⟨y,ty,6,rfl,hty1,hzy,Zd,k⟩
      ·rw[af e1] at k;rw[av e1];bv_omega;symm;refine⟨_,_,hT,a0,?_⟩;symm
       by_cases e2:z=("part":Str)
       ·rw[ah e2] at k;rw[aw e2];bv_omega;refine⟨_,_,hT,a1,?_⟩;exact⟨y,ty,6,rfl,hty1,(fun w e=>by have:=hzy w e;lia),Zd,k⟩
       ·rw[af e2] at k;rw[av e2];bv_omega;exact k H (az.refl _)
     | y::y2::r,hT,hty,hl,k =>have hlen:(V.str z::y::y2::r).length=r.length+3:=rfl;rw[hlen,av (show ¬ (((r.length+3:Nat)):Int)=1 by lia)];bv_omega;rw[dR];symm;refine⟨_,hT,?_⟩;rw[hlen,av (show ¬ (((r.length+3:Nat)):Int)=2 by lia)];bv_omega;exact k H (az.refl _)
    ·have hv:mf (v::r)=false:=by
      cases v with
      | str z=>exact absurd ⟨z,rfl⟩ hvs
      | _=>cases r with
       | nil=>rfl
       | cons y r=>cases r<;>rfl
     have hne:=qQ htv fun z e=>hvs ⟨z,e⟩;rw[hv] at k;refine⟨tv,htv,?_⟩;cases tv<;>first
      | exact absurd rfl hne
      | exact k H (az.refl _)
  ·have hv:wQ H x=false:=by
    cases x with
    | ref p =>
     show (match H p with | some (.tup xs)=>mf xs | _=>false)=_;split
     ·rename_i xs hp;exact absurd ⟨p,xs,rfl,hp⟩ hs
     ·rfl
    | _=>rfl
   have hne:t≠Tg.tup:=fun e=>by
    subst e;cases x with
    | ref a =>
     have h':lG (H a)=some .tup:=ht;cases e:H a with
     | none=>rw[e] at h';cases h'
     | some o=>rw[e] at h';cases o with
      | tup xs=>exact hs ⟨a,xs,rfl,e⟩
      | frz ob u=>cases u<;>cases h'
      | _=>cases h'
    | _=>cases ht
   rw[hv] at k;rw[dR];symm;refine⟨trivial,t,ht,?_⟩;cases t<;>first
    | exact absurd rfl hne
    | exact k H (az.refl _)
theorem kY {b k:Int} (h0:0<=k) (h1:k<b):cJ b (.int k)=true:=by show (decide (0<=k)&&decide (k<b))=true;rw[aw h0,aw h1];rfl
theorem CL (h:cJ b x=true):∃ k,x=.int k/\0<=k/\k<b:=by
 cases x with
 | int k =>have h':(decide (0<=k)&&decide (k<b))=true:=h;rw[bP,bR,bR] at h';exact⟨k,rfl,h'⟩
 | _=>cases h
inductive iI (Ad:Ads) (vs:List V) (H:Hp) (Q:VK) (E:XK):Prop
 | mk (b ca dn de:Addr) (es:List Ben) (al:Za) (ws:Zb) (r:Int) (x:V) (t:Tg) (q0:vs=[.ref b,x]) (q1:eK Ad H b ca dn de es) (q2:cI Ad H ca al ws r) (q3:bN al ws r) (q4:fj H x=some t) (q5:(cJ (bX al ws) x=false->∀ H',az H H'->Q .non H')) (q6:(∀ n,x=.int n->0<=n->n<bX al ws->n∉es.map (·.num)->∀ H',az H H'->Q .non H')) (q7:(∀ n,x=.int n->0<=n->n<bX al ws->∀ e∈es,e.num=n->∀ H',az H H'->Q (.ref e.adr) H')):iI Ad vs H Q E
theorem vq:aN ["self","number"] ["self","number"] (ay my):=by subst_eqs
theorem vn (F:Fun K "entry" "Book.entry" my f fd) (T:Bl mg) (AF:AdF K mg Ad) (C_is_below:Fnc P w K mg base (CX1 P w) 2 "is_below" ["thing","bound"] gR) (M_Code_many:Mtd P w K mg base (CX1 P w) Ad.Code "many" 1 ["self"] (fX Ad)):bU P w K mg base (CX1 P w) 3 f fd ["self","number"] (iI Ad):=by
 refine F.okX (k:=2) vq ?_ (fun cdv A outer s H vs Q E hr h=>?_)
 ·bv_decide
 ·obtain⟨b,ca,dn,de,es,al,ws,r,x,t,rfl,B,C,ok,ht,k1,k2,k3⟩:=h;obtain⟨dx,h1⟩:=B.bk;have hu:=hr.nH;have hu1:=ug hr;refine⟨_,ai (bT (cM (cD (aC C_is_below a8 (hr.mono Zd) (aj (pvL 1) (aj (cS M_Code_many a8 (hr.mono Zd) (cH (K:=K) rfl (pvL 0))) (ae)))))) (ao (aK (gD))) (bh)) (ao (aK (Ef hu1 (cH (K:=K) rfl (pvL 0)) (pvL 1)))),?_⟩;grind;refine⟨_,dx,_,_,h1,AF.c_Book,AF.n_Book_basis,kj ca dn de,?_⟩;obtain⟨dc,qc,hc1,hc2⟩:=id C;refine⟨dc,_,hc1,cq Zd Zd Zd al qc r,ca,al,ws,r,rfl,C,ok.a26,by have:=ok.w3;lia,ok.w8,fun G1 t1=>?_⟩;refine⟨x,t,_,rfl,ic t1 ht,?_⟩;cases hb:cJ ((al.length:Int)^(ws.length-1)) x with
  | false =>symm;exact k1 hb G1 t1
  | true =>
   symm;cbv;obtain⟨n,rfl,n0,n1⟩:=CL hb;have B1:=B.same t1;obtain⟨dx1,h11⟩:=B1.bk;symm;refine⟨_,dx1,_,_,h11,AF.c_Book,AF.n_Book_by_number,kZ ca dn de,dn,rfl,.inl ⟨_,.inl B1.hn⟩,_,.inl ⟨_,.inl n,.inl B1.hn,rfl,rfl⟩,?_⟩
   by_cases hm:n∈es.map (·.num)
   ·obtain⟨e,he,ee⟩:=aM.mp hm;rw[←ee,qw B.nn he];exact k3 n rfl n0 n1 e he ee G1 t1
   ·rw[uu hm];exact k2 n rfl n0 n1 hm G1 t1
noncomputable def lets (b st:Int) (m:Nat):Za:=(List.range m).map fun k:Nat=>97+((b+st*(k:Int))%26).toNat
theorem IL {b st:Int} (hm:m<=9) (hs:st=1∨st=25∨st=3∨st=7):(lets b st m).Nodup:=by unfold lets;refine fk.mpr (jW (R:=(·<·)) (fun {i j} hi hj hij e=>?_) nY);have hi':=cg.mp hi;have hj':=cg.mp hj;rcases hs with rfl | rfl | rfl | rfl<;>lia
theorem FV {b st:Int}:∀ c∈lets b st m,97<=c/\c<123:=fun c hc=>by unfold lets at hc;obtain⟨k,_,rfl⟩:=aM.mp hc;have:=cK (b+st*(k:Int)) (show (26:Int)≠0 by decide);have:=cQ (b+st*(k:Int)) (show (0:Int)<26 by decide);lia
noncomputable def kA (K:Zf):Sp:=fun vs H Q _=>∃ (a:Addr) (ns:Zb),vs=[.ref a]/\SqL K H a (ns.map V.int)/\∀ p q al ws r H',az H H'->Parts H' p q al ws r->bN al ws r->al.length<=9->4<=ws.length->ws.length<=6->Q (.ref p) H'
theorem dh:aN ["_law_script","_law_cell","_law_some","_law_m","_law_step","_law_alphabet"] ["_law_script"] (ay iD):=by subst_eqs
theorem qz (F:Fun K "_law_code_parts" "_law_code_parts" iD f fd) (T:Bl mg) (AF:AdF K mg Ad) (C_law_weights:Fnc P w K mg base (CX1 P w) 2 "_law_weights" ["_law_cell","_law_m","_law_many_here"] nC) (C_law_mixed:Fnc P w K mg base (CX1 P w) 1 "_law_mixed" ["_law_cell"] hZ) (C_law_cell_at:Fnc P w K mg base (CX1 P w) 1 "_law_cell_at" ["_law_script","_law_k"] (hV K)):bU P w K mg base (CX1 P w) 3 f fd ["_law_script"] (kA K):=by
 refine F.okX (k:=2) dh ?_ ?_
 ·bv_decide
 ·right;obtain⟨a,ns,rfl,hS,k⟩:=h;refine⟨_,ai (fJ (i:=1) dh.nd (aC C_law_mixed a8 (hr.mono Zd) (aj (aC C_law_cell_at a8 (hr.mono Zd) (aj (pvL 0) (aj (au) (ae)))) (ae)))) (ai (fJ (i:=2) dh.nd (aY)) (ai (aF (i:=3) dh.nd (bZ (cT (K:=K) rfl) (cy (aj (au) (aj (au) (aj (au) (aj (au) (ae)))))) (aA cx (pvC 1) (au)) (fun _ _=>rfl))) (ai (fJ (i:=4) dh.nd (bZ (cT (K:=K) rfl) (cy (aj (au) (aj (au) (aj (au) (aj (au) (ae)))))) (aA cx (aA cG (pvC 1) (au)) (au)) (fun _ _=>rfl))) (ai (aF (i:=5) dh.nd (dS (K:=K) rfl gq rk rn (qt (K:=K) rfl) (aY) (aj (gO ["_law_k"] rfl ⟨rfl,by nofun,rfl,by nofun⟩ (.cons (j:=2) rfl (.inl (by ext)) (.cons (j:=1) rfl (.inl (by ext)) (.cons (j:=4) rfl (.inl (by ext)) (.nil)))) (by nofun) (eE T.range (aj (pvL 3) (ae))) (fun _ _ _ _=>aR (i:=0) (show (["_law_k","_law_some","_law_cell","_law_step"]:Ze).Nodup from by nofun)) (fun _ _ _ _=>eG) (fun _ _ _ _=>bZ (cT (K:=K) rfl) (pvC 1) (aA cx (aA aH (aA cG (pvC 2) (au)) (aA ml (pvC 3) (pvL 0))) (au)) (fun _ _=>rfl))) (ae)))) (ao (aK (cy (aj (pvL 5) (aj (aC C_law_weights a8 (hr.mono Zd) (aj (aA cG (pvC 1) (au)) (aj (pvL 3) (aj (aA aH (au) (aA cx (aA cG (pvC 1) (au)) (au))) (ae))))) (aj (aA cx (aA cG (pvC 1) (au)) (pvL 3)) (ae))))))))))),?_⟩;have big:∀ {u:Nat},u<=1000->u<=sizeLine:=fun hu=>aQ (aq (by lia));grind;refine⟨a,ns,0,rfl,hS,Zd,?_⟩;generalize ns.getD (0:Int).toNat 0=c0;refine⟨c0,rfl,?_⟩;have y0:=tI c0;generalize DU c0=y at y0;cbv;grind;cbv;grind;obtain⟨m,hm,hb⟩:∃ m:Nat,(m=3∨m=5∨m=7∨m=9)/\atI [V.int 3,V.int 5,V.int 7,V.int 9] (y%4)=some (V.int m):=by
   have hy:y%4=0∨y%4=1∨y%4=2∨y%4=3:=by lia
   rcases hy with e | e | e | e<;>rw[e]
   ·exact⟨3,.inl rfl,rfl⟩
   ·exact⟨5,.inr (.inl rfl),rfl⟩
   ·exact⟨7,.inr (.inr (.inl rfl)),rfl⟩
   ·exact⟨9,.inr (.inr (.inr rfl)),rfl⟩
  refine⟨big Zd,fun p1 H1 hp1 s1 h1=>⟨Zd,_,_,.l h1,hb,?_⟩⟩;rw[hN];clear hN nn hb;grind;obtain⟨st,hst,hb⟩:∃ st:Int,(st=1∨st=25∨st=3∨st=7)/\atI [V.int 1,V.int 25,V.int 3,V.int 7] (y/4%4)=some (V.int st):=by
   have hy:y/4%4=0∨y/4%4=1∨y/4%4=2∨y/4%4=3:=by lia
   rcases hy with e | e | e | e<;>rw[e]
   ·exact⟨1,.inl rfl,rfl⟩
   ·exact⟨25,.inr (.inl rfl),rfl⟩
   ·exact⟨3,.inr (.inr (.inl rfl)),rfl⟩
   ·exact⟨7,.inr (.inr (.inr rfl)),rfl⟩
  refine⟨big Zd,fun p2 H2 hp2 s2 h2=>⟨⟨Zd,Zd⟩,Zd,_,_,.l h2,hb,?_⟩⟩;rw[hN];clear hN nn hb;grind;have m9:m<=9:=by lia
  have m3:3<=m:=by lia
  refine⟨by rfl,by lia,by lia,vm V.int iG (tL m) (by rw[Mk.oF];exact aq (by lia)) (fun x=>.str (tx [97+((y/16+st*x)%26).toNat])) ?_ ?_⟩
  ·intro x hx G t R hR;obtain⟨x0,x1⟩:=Mk.fG.mp hx;have f0:=cK (y/16+st*x) (show (26:Int)≠0 by decide);have f1:=cQ (y/16+st*x) (show (0:Int)<26 by decide);symm;refine⟨⟨Zd,Zd⟩,⟨cV (show st.natAbs<=1000 by lia) Zd,cV (show x.natAbs<=1000 by lia) Zd⟩,Zd,big Zd,97+((y/16+st*x)%26).toNat,cR f0 (EE _ (by lia)),hR G (az.refl _)⟩
  intro D H3 hD s3 h3;have el:H3 D=some (.lst ((lets (y/16) st m).map fun c=>V.str (tx [c]))):=by rw[h3];unfold lets Mk.ofN;rw[aI,aI];rfl
  symm;refine⟨(lets (y/16) st m).map fun c=>tx [c],FO el,FN (by unfold lets;rw[ag,dy];lia),?_⟩;rw[BS];cbv;have ll:(lets (y/16) st m).length=m:=by unfold lets;rw[ag,dy]
  have lnd:=IL (b:=y/16) m9 hst;have labc:=FV (b:=y/16) (st:=st) (m:=m);generalize lets (y/16) st m=al at ll lnd labc;symm;have w0:0<=y/64%3/\y/64%3<3:=by lia
  refine⟨⟨Zd,Zd⟩,⟨Zd,Zd⟩,Zd,y/1000,m,_,rfl,by lia,by lia,by lia,by lia,fun q H4 hq s4 h4=>?_⟩;refine⟨⟨Zd,Zd⟩,by lia,big Zd,fun p H5 hp s5 h5=>?_⟩;have wl:=Mk.JD (y/1000) (m:Int) (4+y/64%3).toNat
  have wm:=Mk.JE (m:=(m:Int)) (by lia) (y/1000) (4+y/64%3).toNat
  have wsf:=Mk.HA (m:=(m:Int)) (by lia) (by lia) (by lia) (y/1000) (4+y/64%3).toNat
  refine k p q al _ _ H5 (s1.trans (s2.trans (s3.trans (s4.trans s5)))) ⟨h5,s5 _ _ h4⟩ ⟨⟨by lia,by lia,lnd,labc,by lia,by lia,?_,?_,?_⟩,by lia,by lia⟩ (by lia) (by lia) (by lia)
  ·rw[ll];exact wm
  ·rw[ll];exact wsf
  ·rw[ll];exact⟨cK _ (by lia),cQ _ (by lia)⟩
theorem vx {b:Int}:∀ {xs:List V},xs.all (cJ b)=true->∃ ws:Zb,xs=ws.map V.int/\∀ x∈ws,0<=x/\x<b
 | [],_=>⟨[],rfl,fun _ h=>nomatch h⟩
 | y::ys,h=>by
  rw[iY,bP] at h;obtain⟨ws,e,hw⟩:=vx h.2;cases y with
  | int i =>
   have h1:(decide (0<=i)&&decide (i<b))=true:=h.1;rw[bP,bR,bR] at h1;refine⟨i::ws,by rw[e];rfl,fun x hx=>?_⟩;cases hx with
   | head=>exact h1
   | tail _ hx=>exact hw x hx
  | _=>cases h.1
theorem Ii (h:eV H b x=true):∃ (p:Addr) (ws:Zb),x=.ref p/\H p=some (.lst (ws.map V.int))/\3<=ws.length/\ws.length<=8/\∀ y∈ws,0<=y/\y<b:=by
 cases x with
 | ref p =>
  have h1:(match H p with | some (.lst xs)=>decide (3<=xs.length)&&decide (xs.length<=8)&&xs.all (cJ b) | _=>false)=true:=h;split at h1
  ·rename_i xs e
   simp only[bP,bR] at h1;obtain⟨ws,e1,hw⟩:=vx h1.2;subst e1;rw[ag] at h1;exact⟨p,ws,rfl,e,h1.1.1,h1.1.2,hw⟩
  ·cases h1
 | _=>cases h
inductive hO (Ad:Ads) (vs:List V) (H:Hp) (Q:VK) (E:XK):Prop
 | mk (a dx:Addr) (xa xw xr:V) (ta tw tr:Tg) (q0:vs=[.ref a,xa,xw,xr]) (q1:H a=some (.ins Ad.Code dx [])) (q2:fj H xa=some ta) (q3:fj H xw=some tw) (q4:fj H xr=some tr) (q5:(∀ z,xa=.str z->z.length<=4000)) (q6:(∀ p o u,xw=.ref p->H p≠some (.frz o u))) (q7:(∀ p xs,xw=.ref p->H p=some (.lst xs)->xs.length<=1000/\∀ y∈xs,∃ t,fj H y=some t)) (q8:(Ik H xa xw xr->∀ H',az H H'->E (.ref Ad.NoCode) none H')) (q9:(∀ al p ws r,tX H xa xw xr al p ws r->∀ q H',H q=none->(∀ b o,b≠a->H b=some o->H' b=some o)->H' a=some (.ins Ad.Code dx (sr al q r))->H' q=some (.lst (ws.map V.int))->Q .non H')):hO Ad vs H Q E
theorem DI {Ad:Ads}{ca cd qn:Addr}{Q:VK}{E:XK} (ha:H ca=some (.ins Ad.Code cd [])) (hq:H qn=some (.lst (ws.map V.int))) (ok:bN al ws r)
  (k:∀ H',(∀ b o,b≠ca->H b=some o->H' b=some o)->cI Ad H' ca al ws r->Q .non H'):hO Ad [.ref ca,.str (tx al),.ref qn,.int r] H Q E:=by
 have g26:=ok.a26;have w8:=ok.w8;refine⟨ca,cd,.str (tx al),.ref qn,.int r,Tg.str,Tg.lst,Tg.int,rfl,ha,rfl,?_,rfl,?_,?_,?_,?_,?_⟩
 ·show lG (H qn)=_;rw[hq];rfl
 ·intro z e;cases e;rw[bC];lia
 ·intro p o u e e2;cases e;rw[hq] at e2;cases e2
 ·intro p xs e e2;cases e;rw[hq] at e2;cases e2;refine⟨by rw[ag];lia,fun y hy=>?_⟩;obtain⟨x,_,rfl⟩:=aM.mp hy;exact⟨Tg.int,rfl⟩
 ·intro hb;exact absurd ⟨rfl,rfl,hq,rfl,ok.toCoB⟩ (hb al qn ws r)
 ·intro al' p ws' r' hm q H' hq' hs h1 h2;obtain⟨e1,e2,e3,e4,_⟩:=hm;have ea:al=al':=by injection e1 with e1;exact gJ e1
  have er:r=r':=by injection e4
  have ep:qn=p:=by injection e2
  subst ea er ep;rw[hq] at e3;have e6:ws.map V.int=ws'.map V.int:=by injection e3 with e3;injection e3
  have ew:ws=ws':=(qZ (fun x y h=>by injection h)).mp e6;subst ew;exact k H' hs ⟨cd,q,h1,h2⟩
theorem qG:aN ["self","alphabet","weights","rest","m"] ["self","alphabet","weights","rest"] (ay gQ):=by subst_eqs
theorem xc (F:Fun K "__init__" "Code.__init__" gQ f fd) (T:Bl mg) (AF:AdF K mg Ad) (C_are_safe:Fnc P w K mg base (CX1 P w) 2 "are_safe" ["weights","m"] sQ) (C_is_below:Fnc P w K mg base (CX1 P w) 2 "is_below" ["thing","bound"] gR) (C_are_weights:Fnc P w K mg base (CX1 P w) 3 "are_weights" ["thing","m"] nv) (C_is_alphabet:Fnc P w K mg base (CX1 P w) 1 "is_alphabet" ["thing"] n9):bU P w K mg base (CX1 P w) 4 f fd ["self","alphabet","weights","rest"] (hO Ad):=by
 refine F.okX (k:=3) qG ?_ ?_
 ·bv_decide
 ·right;obtain⟨a,dx,xa,xw,xr,ta,tw,tr,rfl,ha,hta,htw,htr,hza,hfz,hit,kE,kQ⟩:=h;refine⟨_,ai (bT (cM (cD (aC C_is_alphabet a8 (hr.mono Zd) (aj (pvL 1) (ae))))) (ao (dX dA AF.q_NoCode AF.g_NoCode da rfl (aj (aY) (ae)))) (bh)) (ai (aF (i:=4) qG.nd (ax (aL (K:=K) rfl) T.len bH (aj (pvL 1) (ae)))) (ai (bT (cM (cD (aC C_are_weights a8 (hr.mono Zd) (aj (pvL 2) (aj (pvL 4) (ae)))))) (ao (dX dA AF.q_NoCode AF.g_NoCode da rfl (aj (aY) (ae)))) (bh)) (ai (bT (cM (cD (aC C_is_below a8 (hr.mono Zd) (aj (pvL 3) (aj (pvL 4) (ae)))))) (ao (dX dA AF.q_NoCode AF.g_NoCode da rfl (aj (aY) (ae)))) (bh)) (ai (bT (cM (cD (aC C_are_safe a8 (hr.mono Zd) (aj (pvL 2) (aj (pvL 4) (ae)))))) (ao (dX dA AF.q_NoCode AF.g_NoCode da rfl (aj (aY) (ae)))) (bh)) (ai (oK (K:=K) rfl (pvL 0) (pvL 1)) (ai (oK (K:=K) rfl (pvL 0) (ei (i9 (K:=K) rfl rfl) T.list km (aj (pvL 2) (ae)))) (ao (oK (K:=K) rfl (pvL 0) (pvL 3))))))))),?_⟩;rw[dR];symm;refine⟨xa,ta,rfl,hta,hza,fun H1 s1=>?_⟩;symm;cases hA:iN xa with
  | false =>
   bv_omega;refine⟨Zd,kE (fun al p ws r ⟨e1,_,_,_,e5⟩=>?_) H1 s1⟩;have:iN xa=true:=by rw[e1];show gW (tx al).cps.toList=true;rw[bG];unfold gW;rw[aw e5.a3,aw e5.a26,aw e5.nd,cj.mpr fun c hc=>aw (e5.abc c hc)];rfl
   rw[hA] at this;cases this
  | true =>
   bv_omega;obtain⟨z,rfl⟩:∃ z,xa=.str z:=by
    cases xa with
    | str z=>exact⟨z,rfl⟩
    | _=>cases hA
   have hA':gW z.cps.toList=true:=hA;have hz:=dP z;unfold gW at hA';simp only[bP,bR,cj] at hA';obtain⟨⟨⟨g3,g26⟩,gnd⟩,gabc⟩:=hA';rw[dR];symm;refine⟨aQ (aq (by lia)),?_⟩;symm;rw[dR];symm;refine⟨xw,tw,_,rfl,ic s1 htw,fun p o u e e2=>?_,fun p xs e e2=>?_,fun H2 s2=>?_⟩
   ·subst e;have:lG (H p)=some tw:=htw;cases e3:H p with
    | none=>rw[e3] at this;cases this
    | some ob =>have e4:=s1 p ob e3;rw[e2] at e4;cases e4;exact hfz p o u rfl e3
   ·subst e;have:lG (H p)=some tw:=htw;cases e3:H p with
    | none=>rw[e3] at this;cases this
    | some ob =>have e4:=s1 p ob e3;rw[e2] at e4;cases e4;obtain⟨i1,i2⟩:=hit p xs rfl e3;exact⟨i1,fun y hy=>by obtain⟨ty,hty⟩:=i2 y hy;exact⟨ty,ic s1 hty⟩⟩
   symm;have eW:eV H1 (z.length:Int) xw=eV H (z.length:Int) xw:=by
    cases xw with
    | ref p =>
     have:lG (H p)=some tw:=htw;cases e3:H p with
     | none=>rw[e3] at this;cases this
     | some ob =>show (match H1 p with | some (.lst xs)=>_ | _=>false)=(match H p with | some (.lst xs)=>_ | _=>false);rw[s1 p ob e3,e3]
    | _=>rfl
   rw[eW];cases hW:eV H (z.length:Int) xw with
   | false =>
    bv_omega;refine⟨Zd,kE (fun al p ws r ⟨e1,e2,e3,_,e5⟩=>?_) H2 (s1.trans s2)⟩;have hal:z=tx al:=by cases e1;rfl
    have:eV H (z.length:Int) xw=true:=by rw[e2,hal,bC];show (match H p with | some (.lst xs)=>decide (3<=xs.length)&&decide (xs.length<=8)&&xs.all (cJ (al.length:Int)) | _=>false)=true;rw[e3];simp only[ag];rw[aw e5.w3,aw e5.w8,fQ,cj.mpr];rfl;intro x hx;have:=e5.wm x hx;show (decide (0<=x)&&decide (x<(al.length:Int)))=true;rw[aw this.1,aw this.2];rfl
    rw[hW] at this;cases this
   | true =>
    bv_omega;rw[dR];symm;refine⟨xr,tr,_,rfl,ic (s1.trans s2) htr,?_⟩;symm;cases hB:cJ (z.length:Int) xr with
    | false =>
     bv_omega;refine⟨Zd,kE (fun al p ws r ⟨e1,e2,e3,e4,e5⟩=>?_) H2 (s1.trans s2)⟩;have hal:z=tx al:=by cases e1;rfl
     have:cJ (z.length:Int) xr=true:=by rw[e4,hal,bC];show (decide (0<=r)&&decide (r<(al.length:Int)))=true;rw[aw e5.rm.1,aw e5.rm.2];rfl
     rw[hB] at this;cases this
    | true =>
     bv_omega;obtain⟨r,rfl⟩:∃ r,xr=.int r:=by
      cases xr with
      | int r=>exact⟨r,rfl⟩
      | _=>cases hB
     have hB':(decide (0<=r)&&decide (r<(z.length:Int)))=true:=hB;rw[bP,bR,bR] at hB';obtain⟨p,ws,rfl,hp,w3,w8,wm⟩:=Ii hW;have hp2:H2 p=some (.lst (ws.map V.int)):=s2 _ _ (s1 _ _ hp);rw[dR];symm;refine⟨p,ws,_,rfl,hp2,by lia,fun H3 s3=>?_⟩;symm;have s03:az H H3:=(s1.trans s2).trans s3;have el:(z.length:Int)=(z.cps.toList.length:Int):=by rw[hz]
     cases hS:Mk.safe (z.length:Int) ws with
     | false =>
      bv_omega;refine⟨Zd,kE (fun al p' ws' r' ⟨e1,e2,e3,e4,e5⟩=>?_) H3 s03⟩;have hal:z=tx al:=by cases e1;rfl
      have hpp:p'=p:=by cases e2;rfl
      subst hpp;have hww:ws'=ws:=by
       rw[hp] at e3;have e6:ws.map V.int=ws'.map V.int:=by injection e3 with e3;injection e3
       exact (qZ (fun x y h=>by injection h)).mp e6.symm
      subst hww;have:=e5.safe;rw[hal,bC] at hS;rw[hS] at this;cases this
     | true =>
      bv_omega;have ha3:=s03 _ _ ha;have hp3:H3 p=some (.lst (ws.map V.int)):=s03 _ _ hp;have hne:p≠a:=fun e=>by rw[e,ha] at hp;cases hp
      have hM:tX H (.str z) (.ref p) (.int r) z.cps.toList p ws r:=⟨by rw[nG],rfl,hp,rfl,⟨g3,g26,gnd,gabc,w3,w8,by rw[←el];exact wm,by rw[←el];exact hS,by rw[←el];exact hB'⟩⟩;ac_nf;refine⟨_,_,_,ha3,AF.c_Code,AF.n_Code_letters,Zd,ws.map V.int,.inl (.inl (.of (by rw[aJ hne];exact hp3))),fun q H4 hq s4 h4=>?_⟩;have ha4:=s4 a _ aE;refine⟨_,_,_,ha4,AF.c_Code,AF.n_Code_factors,cV (ar 1) Zd,_,_,_,aE,AF.c_Code,AF.n_Code_remainder,cV (ar 2) Zd,?_⟩;have hqa:q≠a:=fun e=>by rw[e,aE] at hq;cases hq
      rw[aJ hqa] at hq;have hq0:H q=none:=by
       cases e:H q with
       | none=>rfl
       | some o=>rw[s03 q o e] at hq;cases hq
      refine kQ z.cps.toList p ws r hM q _ hq0 (fun b o hb e=>?_) ?_ ?_
      ·rw[aJ hb,aJ hb];exact s4 b o (by rw[aJ hb];exact s03 b o e)
      ·rw[aE];unfold sr;rw[nG];rfl
      ·rw[aJ hqa,aJ hqa];exact h4
inductive fN (Ad:Ads) (vs:List V) (H:Hp) (Q:VK) (E:XK):Prop
 | mk (a:Addr) (al:Za) (ws:Zb) (r:Int) (x:V) (t:Tg) (q0:vs=[.ref a,x]) (q1:cI Ad H a al ws r) (q2:bN al ws r) (q3:fj H x=some t) (q4:(∀ z,x=.str z->z.length<=100000)) (q5:(iH (tx al) ws r x=false->∀ H',az H H'->E (.ref Ad.NoWord) none H')) (q6:(∀ z,x=.str z->Mk.c9 al ws r z.cps.toList=true->∀ H',az H H'->Q (.int (Mk.numOf al.length (Mk.plc al z.cps.toList.dropLast))) H')):fN Ad vs H Q E
theorem gZ:aN ["self","word","k","place"] ["self","word"] (ay kH):=by subst_eqs
theorem ux (F:Fun K "number" "Code.number" kH f fd) (T:Bl mg) (AF:AdF K mg Ad) (C_places_of:Fnc P w K mg base (CX1 P w) 1 "places_of" ["alphabet","word"] j7) (M_Code_has_good:Mtd P w K mg base (CX1 P w) Ad.Code "has_good" 3 ["self","thing"] (dG Ad)):bU P w K mg base (CX1 P w) 4 f fd ["self","word"] (fN Ad):=by
 refine F.okX (k:=3) gZ ?_ ?_
 ·bv_decide
 ·right;obtain⟨a,al,ws,r,x,t,rfl,⟨dx,q,h1,h2⟩,ok,ht,hz,kE,kQ⟩:=h;refine⟨_,ai (bT (cM (cD (dU M_Code_has_good a8 (hr.mono Zd) (pvL 0) (aj (pvL 1) (ae))))) (ao (dX dA AF.q_NoWord AF.g_NoWord da rfl (aj (aY) (ae)))) (bh)) (ai (aF (i:=2) gZ.nd (au)) (ai (eZ cB rfl (cE (K:=K) rfl (aC C_places_of a8 (hr.mono Zd) (aj (cH (K:=K) rfl (pvL 0)) (aj (cU (iT (K:=K) rfl) (pvL 1) (eI) (dQ (GB Bp (au)))) (ae))))) (aR (i:=3) gZ.nd) (ao (aF (i:=2) gZ.nd (aA aH (aA ml (pvL 2) (ax (aL (K:=K) rfl) T.len bH (aj (cH (K:=K) rfl (pvL 0)) (ae)))) (pvL 3))))) (ao (aK (pvL 2))))),?_⟩;have g3:=ok.a3;have g26:=ok.a26;have w8:=ok.w8;rw[dR];symm;refine⟨dx,_,h1,cq Zd Zd Zd al q r,a,al,ws,r,x,t,rfl,⟨dx,q,h1,h2⟩,ok,ht,hz,fun H1 s1=>?_⟩;symm;cases hG:iH (tx al) ws r x with
  | false =>bv_omega;exact⟨Zd,kE hG H1 s1⟩
  | true =>
   bv_omega;obtain⟨z,rfl⟩:∃ z,x=.str z:=by
    cases x with
    | str z=>exact⟨z,rfl⟩
    | _=>cases hG
   have hG':Mk.c9 al ws r z.cps.toList=true:=by have:Mk.c9 (tx al).cps.toList ws r z.cps.toList=true:=hG;rw[bG] at this;exact this
   symm;rw[dR];symm;rw[dR];symm;refine⟨_,dx,_,_,s1 _ _ h1,AF.c_Code,AF.n_Code_letters,eh al q r,?_⟩;symm;have e0:mP z.cps.toList none (some (-1))=z.cps.toList.dropLast:=Dj _;rw[e0];have hzl:=hz z rfl;have hzc:=dP z;unfold Mk.c9 Mk.bL at hG';simp only[bP,bR,cj] at hG';obtain⟨⟨hl,hm⟩,-⟩:=hG';have hd:z.cps.toList.dropLast.length<=z.cps.toList.length:=by rw[jd];lia
   have hdm:∀ c∈z.cps.toList.dropLast,c∈al:=fun c hc=>hm c (ig _ hc);refine⟨aQ (aq (by lia)),tx al,tx z.cps.toList.dropLast,rfl,by rw[bC];lia,by rw[bG,bG];exact hdm,fun p H2 hp s2 h3=>.inl ⟨⟨_,.of h3⟩,?_⟩⟩;rw[bG,bG] at h3;have hpm:=Mk.mn hdm;have hpl:(Mk.plc al z.cps.toList.dropLast).length<=8:=by rw[Mk.oJ];lia
   have kQ':=kQ z rfl (by have:Mk.c9 (tx al).cps.toList ws r z.cps.toList=true:=hG;rw[bG] at this;exact this);generalize Mk.plc al z.cps.toList.dropLast=ps at h3 hpm hpl kQ';refine tF (xs:=ps.map V.int) (fun i σ H'=>H'=H2/\∃ o,σ=[some (.ref a),some (.str z),some (.int (Mk.numOf al.length (ps.take i))),o]) ?_ ?_ ?_ ?_
   ·exact⟨rfl,none,rfl⟩
   ·rintro i σ H' _ ⟨rfl,_⟩;exact .of h3
   ·rintro i x σ H' hx ⟨rfl,o,rfl⟩;rw[aT] at hx;obtain⟨x,hy,rfl⟩:=dO.mp hx;have hi:=(b7.mp hy).1;have hb:=Mk.jy (m:=al.length) (by lia) (ps.take i) fun p hp=>hpm p (List.mem_of_mem_take hp);have hxm:=hpm x (bQ hy);ac_nf;refine⟨_,dx,_,_,s2 _ _ (s1 _ _ h1),AF.c_Code,AF.n_Code_letters,eh al q r,?_⟩;ac_nf;rw[bC];refine⟨aQ (aq (by lia)),⟨?_,bK (show ((al.length:Int)).natAbs<1000 by lia) Zd⟩,?_⟩
    ·refine bK (show (Mk.numOf (al.length:Int) (ps.take i)).natAbs<26^8 from ?_) Zd;have e1:((al.length:Int))^(ps.take i).length<=((26^8:Nat):Int):=by
      rw[←Int.natCast_pow];exact Int.ofNat_le.mpr (aV (rb g26 _) (jZ Zd (by rw[bI];lia)))
     lia
    ·refine⟨trivial,some (.int x),?_⟩;have e:ps.take (i+1)=ps.take i++[x]:=by rw[iy,hy];rfl
     rw[e,Mk.mj]
   ·rintro σ H' ⟨rfl,o,rfl⟩;rw[ag,oa];ac_nf;exact kQ' _ (s1.trans s2)
inductive pX (Ad:Ads) (vs:List V) (H:Hp) (Q:VK) (E:XK):Prop
 | mk (a:Addr) (al:Za) (ws:Zb) (r:Int) (x:V) (t:Tg) (q0:vs=[.ref a,x]) (q1:cI Ad H a al ws r) (q2:bN al ws r) (q3:fj H x=some t) (q4:(∀ z,x=.str z->z.length<=100000)) (q5:(dE (tx al) ws.length x=false->∀ H',az H H'->E (.ref Ad.NoWord) none H')) (q6:∀ z,x=.str (tx z)->Mk.bL al ws.length z=true->∀ fs:List (Zb),fs.Perm (kg al.length (Mk.plc al z))->∀ D H',H D=none->az H H'->H' D=some (.lst ((fs.filter fun ps=>Mk.good al.length ws r ps).map fun ps=>V.str (tx (Mk.bO al ps))))->Q (.ref D) H'):pX Ad vs H Q E
theorem Ba:aN ["code","word"] ["code","word"] (ay sd):=by subst_eqs
theorem AD (F:Fun K "nearest" "nearest" sd f fd) (T:Bl mg) (AF:AdF K mg Ad) (C_faulty:Fnc P w K mg base (CX1 P w) 2 "faulty" ["code","word"] (sk Ad)) (M_Code_has_good:Mtd P w K mg base (CX1 P w) Ad.Code "has_good" 3 ["self","thing"] (dG Ad)):bU P w K mg base (CX1 P w) 4 f fd ["code","word"] (pX Ad):=by
 refine F.okX (k:=3) Ba ?_ ?_
 ·bv_decide
 ·right;obtain⟨a,al,ws,r,x,t,rfl,hat,ok,ht,hz,hE,k⟩:=h;refine⟨_,ao (aK (gO ["made"] rfl ⟨rfl,by nofun,rfl,by nofun⟩ (.cons (j:=0) rfl (.inl (by ext)) (.nil)) (by nofun) (cE (K:=K) rfl (aC C_faulty a8 (hr.mono Zd) (aj (pvC 0) (aj (pvL 1) (ae))))) (fun _ _ _ _=>aR (i:=0) (show (["made","code"]:Ze).Nodup from by nofun)) (fun _ _ _ _=>jz (cD (dU M_Code_has_good fF (hr.mono Zd) (pvC 1) (aj (pvL 0) (ae))))) (fun _ _ _ _=>pvL 0))),?_⟩;symm;refine⟨a,al,ws,r,x,t,rfl,hat,ok,ht,hz,hE,fun z hx hw fs fp D H1 hD s1 h1=>?_⟩;have k':=k z hx hw fs fp;obtain⟨zl,zm⟩:=Mk.dm.mp hw;have pm:=Mk.mn zm;have pl:(Mk.plc al z).length=ws.length:=by rw[Mk.oJ];lia
  have a26:=ok.a26;have w8:=ok.w8;have fo:∀ q∈fs,q.length=ws.length/\∀ x∈q,0<=x/\x<(al.length:Int):=fun q hq=>by have:=mS pm q (fp.mem_iff.mp hq);exact⟨by rw[this.1,pl],this.2⟩
  have fl:fs.length<=208:=by rw[fp.length_eq];unfold kg;rw[aB,uc pm];have:=tN (ps:=Mk.plc al z);have:(Mk.plc al z).length*(al.length-1)<=200:=aV (Nat.mul_le_mul (show _<=8 by lia) (show al.length-1<=25 by lia)) Zd;lia
  have h1':H1 D=some (.lst ((fs.map (Mk.bO al)).map fun l=>V.str (tx l))):=by rw[h1,aI];rfl
  refine .inl ⟨⟨_,.of h1⟩,Au (fun l:Za=>V.str (tx l)) (fun x y e=>gJ (V.str.inj e)) (eP (.of h1')) (by rw[ag];exact aq (by lia)) (fun l=>Mk.c9 al ws r l) (fun l=>V.str (tx l)) ?_ ?_ ?_⟩
  ·intro l hl H5 t5 R hR;obtain⟨y,hy,rfl⟩:=aM.mp hl;symm;obtain⟨dx,q,c1,c2⟩:=hat
   have S5:=s1.trans t5;refine⟨dx,_,S5 _ _ c1,cq Zd Zd Zd al q r,a,al,ws,r,.str (tx (Mk.bO al y)),.str,rfl,⟨dx,q,S5 _ _ c1,S5 _ _ c2⟩,ok,rfl,(fun z ez=>by cases ez;rw[bC,Mk.gT,(fo y hy).1];lia),fun H6 s6=>?_⟩;have eg:iH (tx al) ws r (.str (tx (Mk.bO al y)))=Mk.c9 al ws r (Mk.bO al y):=by show Mk.c9 (tx al).cps.toList ws r (tx (Mk.bO al y)).cps.toList=_;rw[bG,bG]
   rw[eg];exact⟨_,rfl,hR H6 s6⟩
  ·intro l hl hp H5 t5 R hR;symm;exact hR H5 (az.refl _)
  intro D2 H2 hD2 s2 h2;refine k' D2 H2 (s1.free hD2) (s1.trans s2) ?_;rw[h2,nR,aI]
  congr 2
  rw[show (fs.filter ((fun l=>Mk.c9 al ws r l) ∘ Mk.bO al))=fs.filter fun ps=>Mk.good al.length ws r ps from List.filter_congr fun y hy=>Mk.md ok.nd (fo y hy).1 (fo y hy).2];rfl
inductive tM (Ad:Ads) (vs:List V) (H:Hp) (Q:VK) (E:XK):Prop
 | mk (b ca dn de g:Addr) (es:List Ben) (xs:List V) (al:Za) (ws:Zb) (r:Int) (q0:vs=[.ref b,.ref g]) (q1:eK Ad H b ca dn de es) (q2:cI Ad H ca al ws r) (q3:bN al ws r) (q4:(∀ e∈es,jm e.key/\0<=e.num/\e.num<bX al ws)) (q5:H g=some (.lst xs)) (q6:xs.length<=1000) (q7:(∀ x∈xs,∃ t,fj H x=some t)) (q8:(∀ wd,kh (xs.map (kOf es))=.inr wd->∀ H',az H H'->Q (.str (tx (Mk.dM 32 wd))) H')) (q9:∀ n,kh (xs.map (kOf es))=.inl n->∀ dx H',az H H'->H' dx=some (.xd [("at",.int n)])->E (.ref Ad.NoReading) (some dx) H'):tM Ad vs H Q E
theorem k6:aN ["book","groups","words","spelling","at","group","entry"] ["book","groups"] (ay AW):=by subst_eqs
theorem IS (F:Fun K "said" "said" AW f fd) (T:Bl mg) (AF:AdF K mg Ad) (C_can_stand:Fnc P w K mg base (CX1 P w) 1 "can_stand" ["entry","many","spelling"] qN) (M_Book_entry:Mtd P w K mg base (CX1 P w) Ad.Book "entry" 3 ["self","number"] (iI Ad)) (K_NoReading:EB P w K mg base (CX1 P w) Ad.NoReading "NoReading" 1 ["self","at"] (fK Ad)):bU P w K mg base (CX1 P w) 4 f fd ["book","groups"] (tM Ad):=by
 refine F.okX (k:=3) k6 ?_ ?_
 ·bv_decide
 ·right;obtain⟨b,ca,dn,de,g,es,xs,al,ws,r,rfl,B,C,ok,hes,hg,gl,htg,k1,k2⟩:=h;refine⟨_,ai (aF (i:=2) k6.nd (cy (ae))) (ai (aF (i:=3) k6.nd (aY)) (ai (eZ cB rfl (uG (K:=K) rfl T.enumerate (aj (pvL 1) (ae))) (qA (K:=K) (n:=2) rfl rfl (gd (aR (i:=4) k6.nd) (gd (aR (i:=5) k6.nd) (qB)))) (ai (aF (i:=6) k6.nd (dU M_Book_entry a8 (hr.mono Zd) (pvL 0) (aj (pvL 5) (ae)))) (ai (bT ((iR (aX Gp (pvL 6) (gD) (bc _)) (gE (cM (cD (aC C_can_stand a8 (hr.mono Zd) (aj (pvL 6) (aj (ax (aL (K:=K) rfl) T.len bH (aj (pvL 2) (ae))) (aj (pvL 3) (ae))))))))).pt) (ao (rV K_NoReading pC rfl (hr.mono Zd) (aj (pvL 4) (ae)))) (bh)) (ao (bT (aX (cL (K:=K) rfl hu) (bZ (cT (K:=K) rfl) (pvL 6) (au) (fun _ _=>rfl)) (aY) (bc _)) (ao (dW (dS (K:=K) rfl fv PySem.F.slot_list_extend PySem.F.type_list_extend DW (pvL 2) (aj (dS (K:=K) rfl gq rl rp qu (bZ (cT (K:=K) rfl) (pvL 6) (au) (fun _ _=>rfl)) (aj (aY) (ae))) (ae))))) (ao (bT (aX (cL (K:=K) rfl hu) (bZ (cT (K:=K) rfl) (pvL 6) (au) (fun _ _=>rfl)) (aY) (bc _)) (ao (aF (i:=3) k6.nd (aA aH (pvL 3) (bZ (cT (K:=K) rfl) (pvL 6) (au) (fun _ _=>rfl))))) (ai (dW (dS (K:=K) rfl fv gu gv eM (pvL 2) (aj (pvL 3) (ae)))) (ao (aF (i:=3) k6.nd (aY))))))))))) (ai (bT ((iR (aX (gC (K:=K) rfl hu) (pvL 3) (aY) (bc _)) (gE (aX (cL (K:=K) rfl hu) (ax (aL (K:=K) rfl) T.len bH (aj (pvL 2) (ae))) (au) (bc _)))).pt) (ao (rV K_NoReading pC rfl (hr.mono Zd) (aj (ax (aL (K:=K) rfl) T.len bH (aj (pvL 1) (ae))) (ae)))) (bh)) (ao (aK (dS (K:=K) rfl gq rk rn (qt (K:=K) rfl) (aY) (aj (pvL 2) (ae)))))))),?_⟩;have big:∀ {u:Nat},u<=10000->u<=sizeLine:=fun hu=>aQ (aq (by lia));generalize hks:xs.map (kOf es)=ks at k1 k2;have kl:ks.length=xs.length:=by rw[←hks,ag]
  grind;refine⟨bj _,fun D H1 hD s1 h1=>?_⟩;cbv;grind;cbv;grind;refine⟨g,rfl,⟨_,.of (s1 _ _ hg)⟩,?_⟩;refine vM (xs:=xs) (fun i σ H'=>∃ (s:SSt) (o4 o5 o6:Option V),σ=[some (V.ref b),some (V.ref g),some (V.ref D),some (V.str (tx s.2)),o4,o5,o6]/\az H H'/\H' D=some (.lst (s.1.map fun w=>V.str (tx w)))/\qh s/\iB ks ([],[]) 0=iB (ks.drop i) s i) ?_ ?_ ?_ ?_
  ·exact⟨([],[]),_,_,_,rfl,s1,h1,LK,rfl⟩
  ·rintro i σ H' _ ⟨s,o4,o5,o6,_,sH,_⟩;exact .of (sH _ _ hg)
  ·rintro i x σ A1 hx ⟨s,o4,o5,o6,rfl,sA,hDA,say,hrs⟩ N hNx p A2 zp t2 h2;clear hN;refine⟨p,_,rfl,.of h2,rfl,?_⟩;have S2:=sA.trans t2;have hD2:=t2 _ _ hDA;clear zp h2;have hi:i<xs.length:=(b7.mp hx).1;obtain⟨tx1,htx⟩:=htg x (bQ hx);have hk:ks[i]?=some (kOf es x):=by rw[←hks,aT,hx];rfl
   have hcut:iB ks ([],[]) 0=iB (kOf es x::ks.drop (i+1)) s i:=by rw[hrs,List.drop_eq_getElem_cons (by rw[kl];exact hi),(b7.mp hk).2]
   have raised:∀ G,az H G->iB ks ([],[]) 0=.inl i->∀ dx H',az G H'->H' dx=some (.xd [("at",.int (i:Int))])->E (.ref Ad.NoReading) (some dx) H':=fun G sG hr dx H' sH hd=>k2 i (by unfold kh;rw[hr]) dx H' (sG.trans sH) hd;have few:=say.few;have len:=say.len;have B2:=B.same S2;obtain⟨dx2,h12⟩:=B2.bk;symm;refine gH fun n2 hM=>?_;symm;have none1:kOf es x=none->∀ D' G,az A2 G->n2 D' [some (V.ref b),some (V.ref g),some (V.ref D),some (V.str (tx s.2)),some (V.int (i:Int)),some x,some V.non] G:=fun hno D' G tG=>by rw[hM];clear hM n2;refine gH fun n2 hM=>?_;symm;exact⟨big Zd,mq (by lia) (by lia) (raised G (S2.trans tG) (by rw[hcut,hno];rfl))⟩
   refine⟨dx2,_,h12,dJ Zd Zd Zd ca dn de,b,ca,dn,de,es,al,ws,r,x,tx1,rfl,B2,C.same S2,ok,ic S2 htx,fun hb G tG=>none1 ?_ _ G tG,fun n' en _ _ hno G tG=>?_,fun n' en _ _ u hu eu G tG=>?_⟩
   ·cases x with
    | int n =>refine wU fun hm=>?_;obtain⟨u,hu,eu⟩:=aM.mp hm;obtain⟨_,u0,u1⟩:=hes u hu;rw[←eu,kY u0 u1] at hb;cases hb
    | _=>rfl
   ·subst en;exact none1 (wU hno) _ G tG
   subst en;have hem:=hu;obtain⟨eo,en0,en1⟩:=hes u hu;have hkk:kOf es (.int n')=some u.key:=by rw[←eu];exact Ar B.nn hu
   rw[hkk] at hcut;clear none1;rw[hM];clear hM n2;have hG:=S2.trans tG;have htG:=(B.same hG).en u hem;have hDG:=tG _ _ hD2;refine gH fun n2 hM=>?_;symm;refine⟨_,.inl (.of hDG),?_⟩;rw[ag];refine⟨u.adr,u.key,s,rfl,htG,eo,say,fun G3 t3=>⟨_,rfl,?_⟩⟩;cases hst:stepK u.key s with
   | none =>symm;rw[ah (by rfl)];symm;exact⟨big Zd,mq (by lia) (by lia) (raised G3 (hG.trans t3) (by rw[hcut];show (match stepK u.key s with | none=>_ | some s'=>_)=_;rw[hst]))⟩
   | some s' =>
   have hrs':iB ks ([],[]) 0=iB (ks.drop (i+1)) s' (i+1):=by rw[hcut];show (match stepK u.key s with | none=>_ | some s'=>_)=_;rw[hst]
   have say':=say.step eo hst;rw[af (by show ¬ (!true)=true;decide)];show n2 _ _ _;rw[hM];clear hM n2;have SG:=hG.trans t3;have htG3:=t3 _ _ htG;have hDG3:=t3 _ _ hDG;have hNN:∀ G,az H G->G D=some (.lst (s'.1.map fun w=>V.str (tx w)))->N [some (V.ref b),some (V.ref g),some (V.ref D),some (V.str (tx s'.2)),some (V.int (i:Int)),some (V.int n'),some (V.ref u.adr)] G:=fun G sG hDG'=>hNx _ _ ⟨s',_,_,_,rfl,sG,hDG',say',hrs'⟩;rcases iM eo with ⟨l,ek,hl⟩ | ⟨l,ek,hl⟩ | ek
   ·rw[ek] at htG3 hst eo;have ht':G3 u.adr=some (.tup [.str ("phrase":Str),.str (tx l)]):=htG3;have hs:l.length<=10000:=by
     have:=eo.short (tx l) (by simp [kV])
     rwa [bC] at this
    rw[fO] at hst;split at hst
    ·rename_i hc
     cases hst
     symm;refine⟨_,_,.inr (.of ht'),cR Zd rfl,?_⟩;symm;rw[ah (by rfl)];refine⟨.inl ⟨rfl,_,.of hDG3⟩,_,_,.inr (.of ht'),cR Zd rfl,rfl,?_⟩;symm;refine⟨by rw[bC];lia,32,rfl,fun p4 G4 hp4 t4 g4=>?_⟩;rw[bG] at g4;refine⟨D,p4,_,_,rfl,rfl,t4 _ _ hDG3,g4,by rw[ag,ag];exact big (by lia),?_⟩;rw[←bu];have e2:s.2=[]:=hc.1;rw[e2];exact hNN _ ((SG.trans t4).cF hD) aE
    ·cases hst
   ·rw[ek] at htG3 hst eo;have ht':G3 u.adr=some (.tup [.str ("part":Str),.str (tx l)]):=htG3;rw[jA] at hst;split at hst
    ·rename_i hc
     cases hst
     symm;refine⟨_,_,.inr (.of ht'),cR Zd rfl,?_⟩;symm;rw[af (by decide)];refine⟨_,_,.inr (.of ht'),cR Zd rfl,?_⟩;symm;rw[ah (by rfl)];refine⟨_,_,.inr (.of ht'),cR Zd rfl,?_⟩;symm;simp only[bC,so];exact⟨big (by lia),hNN _ SG hDG3⟩
    ·cases hst
   ·rw[ek] at htG3 hst eo;have ht':G3 u.adr=some (.tup [.str ("end":Str)]):=htG3;rw[lE] at hst;split at hst
    ·cases hst
    ·rename_i hc
     cases hst
     symm;refine⟨_,_,.inr (.of ht'),cR Zd rfl,?_⟩;symm;rw[af (by decide)];refine⟨_,_,.inr (.of ht'),cR Zd rfl,?_⟩;symm;rw[af (by decide)];refine gH fun n2 hM=>?_;symm;refine⟨.inl ⟨rfl,_,.of hDG3⟩,D,_,_,rfl,rfl,hDG3,by rw[ag];exact aq (by lia),?_⟩;rw[hM];clear hM n2;symm;rw[show (s.1.map fun w=>V.str (tx w))++[V.str (tx s.2)]=(s.1++[s.2]).map fun w=>V.str (tx w) by rw[bu];rfl];exact hNN _ (SG.cF hD) aE
  rintro σ H2 ⟨s,o4,o5,o6,rfl,s2,h2,say,hrs⟩;show nn _ _ _;cbv;have hfin:iB ks ([],[]) 0=.inr s:=by rw[hrs,List.drop_eq_nil_of_le (by lia)];rfl
  clear hrs;obtain⟨wd,sp⟩:=s;have few:wd.length<=60:=say.few;have ended:¬ (sp=[]/\wd≠[])->∀ dx H',az H2 H'->H' dx=some (.xd [("at",.int (xs.length:Int))])->E (.ref Ad.NoReading) (some dx) H':=fun hno dx H' sH hd=>k2 xs.length (by unfold kh;rw[hfin];show (if _ then _ else _)=_;rw[af hno,kl]) dx H' (s2.trans sH) hd;grind;have e0:Str.ofString ""=tx []:=rfl;rw[e0,uZ]
  by_cases hsp:sp=[]
  ·subst hsp;rw[af (by decide)];refine⟨_,.inl (.of h2),?_⟩;rw[ag];show (if decide ((wd.length:Int)=0)=true then _ else _)
   by_cases hwne:wd=[]
   ·subst hwne;rw[ah (by decide)];symm;refine⟨_,.inl (.of (s2 _ _ hg)),big Zd,mq (by lia) (by lia) (ended (fun z=>z.2 rfl))⟩
   have hl0:wd.length≠0:=fun z=>hwne (nV.mp z);obtain⟨j1,j2⟩:=BR (ws:=wd) few say.wds;rw[af (by rw[av (by lia)];decide)];show nn _ _ _;cbv;symm;have ejs:(wd.map fun w=>V.str (tx w))=(wd.map tx).map V.str:=by rw[aI];rfl
   refine⟨rfl,wd.map tx,.of (by rw[h2,ejs]),?_,?_⟩
   ·rw[aI,ag];have:(wd.map ((fun z:Str=>z.length) ∘ tx)).sum<=(wd.map fun w=>w.length+1).sum:=by
     have e:wd.map ((fun z:Str=>z.length) ∘ tx)=wd.map fun w=>w.length:=iu fun w _=>bC w;rw[e];clear e j1 j2 ejs h2 say hfin hwne few hl0 ended
     induction wd with
     | nil=>simp
     | cons w r ih=>simp only[bf,jh];lia
    have e1:(Str.ofString " ").length=1:=rfl;rw[e1];lia
   ·rw[show (Str.ofString " ")=tx [32] from rfl,wq];exact k1 wd (by unfold kh;rw[hfin];exact ah ⟨rfl,hwne⟩) H2 s2
  ·rw[ah (by rw[av hsp];rfl)];symm;refine⟨_,.inl (.of (s2 _ _ hg)),big Zd,mq (by lia) (by lia) (ended (fun z=>hsp z.1))⟩
inductive nz (Ad:Ads) (vs:List V) (H:Hp) (Q:VK) (E:XK):Prop
 | mk (ca q:Addr) (al:Za) (ws:Zb) (r:Int) (gs:Zb) (q0:vs=[.ref ca,.ref q]) (q1:cI Ad H ca al ws r) (q2:bN al ws r) (q3:H q=some (.lst (gs.map V.int))) (q4:∀ H',az H H'->Q (wdV (z5 al ws r ((gs.sum+(gs.length:Int))%bX al ws))) H'):nz Ad vs H Q E
theorem zf:aN ["code","groups"] ["code","groups"] (ay pF):=by subst_eqs
theorem yE (F:Fun K "check_of" "check_of" pF f fd) (T:Bl mg) (AF:AdF K mg Ad) (C_check_number:Fnc P w K mg base (CX1 P w) 2 "check_number" ["code","groups"] (gA Ad)) (M_Code_word:Mtd P w K mg base (CX1 P w) Ad.Code "word" 3 ["self","k"] (j6 Ad)):bU P w K mg base (CX1 P w) 4 f fd ["code","groups"] (nz Ad):=by
 refine F.okX (k:=3) zf ?_ ?_
 ·bv_decide
 ·right;obtain⟨ca,q,al,ws,r,gs,rfl,C,ok,hq,k⟩:=h;refine⟨_,ao (aK (dU M_Code_word a8 (hr.mono Zd) (pvL 0) (aj (aC C_check_number a8 (hr.mono Zd) (aj (pvL 0) (aj (pvL 1) (ae)))) (ae)))),?_⟩;obtain⟨dc,qc,hc1,hc2⟩:=id C;have a3:=ok.a3;have hmany:0<bX al ws:=Int.pow_pos (by lia);have c0:=cK (gs.sum+(gs.length:Int)) (b:=bX al ws) (by lia);have c1:=cQ (gs.sum+(gs.length:Int)) hmany;symm;refine⟨dc,_,hc1,cq Zd Zd Zd al qc r,ca,q,al,ws,r,gs,rfl,C,ok,hq,fun G1 t1=>?_⟩;refine⟨ca,al,ws,r,.int _,.int,rfl,C.same t1,ok,rfl,(fun h=>?_),fun k' e _ _ G3 t3=>?_⟩
  ·rw[kY (b:=(al.length:Int)^(ws.length-1)) c0 c1] at h;cases h
  cases e
  exact k G3 (t1.trans t3)
inductive jO (Ad:Ads) (vs:List V) (H:Hp) (Q:VK) (E:XK):Prop
 | mk (b ca dn de f t:Addr) (es:List Ben) (al:Za) (ws:Zb) (r n:Int) (key:List Key) (y:V) (q0:vs=[.ref b,.ref t,y,.ref f]) (q1:eK Ad H b ca dn de es) (q2:cI Ad H ca al ws r) (q3:bN al ws r) (q4:r6 vk Ad.tb H f) (q5:H t=some (.tup (key.map kV))) (q6:jm key) (q7:key∉es.map (·.key)) (q8:es.length<300) (q9:0<=n) (q10:n<bX al ws) (q11:n∉es.map (·.num)) (q12:(y=.int n∨(y=.non/\zC (es.map (·.num)) n))) (q13:∀ H',az H H'->Q (.int n) H'):jO Ad vs H Q E
theorem uM:aN ["self","entry","number","is_barred"] ["self","entry","number","is_barred"] (ay kF):=by subst_eqs
theorem uw (F:Fun K "choose" "Book.choose" kF f fd) (T:Bl mg) (AF:AdF K mg Ad) (C_is_below:Fnc P w K mg base (CX1 P w) 2 "is_below" ["thing","bound"] gR) (C_is_entry:Fnc P w K mg base (CX1 P w) 3 "is_entry" ["thing"] sR) (M_Book_least_free:Mtd P w K mg base (CX1 P w) Ad.Book "least_free" 2 ["self","is_barred"] (fe Ad)) (M_Code_many:Mtd P w K mg base (CX1 P w) Ad.Code "many" 1 ["self"] (fX Ad)):bU P w K mg base (CX1 P w) 4 f fd ["self","entry","number","is_barred"] (jO Ad):=by
 refine F.okX (k:=3) uM ?_ (fun cdv A outer s H vs Q E hr h=>?_)
 ·bv_decide
 ·obtain⟨b,ca,dn,de,f,t,es,al,ws,r,n,key,y,rfl,B,C,ok,Fb,ht,eo,hk,h300,n0,n1,hnn,hy,k⟩:=h;obtain⟨dx,h1⟩:=B.bk;have hu:=hr.nH;have hu1:=ug hr;refine⟨_,ai (bT (cM (cD (aC C_is_entry a8 (hr.mono Zd) (aj (pvL 1) (ae))))) (ao (dX dA AF.q_NoEntry AF.g_NoEntry da rfl (aj (aY) (ae)))) (bh)) (ai (bT (aX (rQ (K:=K) rfl hu1) (pvL 1) (cH (K:=K) rfl (pvL 0)) (by ext)) (ao (dX dA AF.q_Twice AF.g_Twice da rfl (aj (aY) (ae)))) (bh)) (ai (bT (aX rR (pvL 2) (gD) (bc _)) (ai (bT (cM (cD (aC C_is_below a8 (hr.mono Zd) (aj (pvL 2) (aj (cS M_Code_many a8 (hr.mono Zd) (cH (K:=K) rfl (pvL 0))) (ae)))))) (ao (dX dA AF.q_NoNumber AF.g_NoNumber da rfl (aj (aY) (ae)))) (bh)) (ao (bT ((iR (aX (rQ (K:=K) rfl hu1) (pvL 2) (cH (K:=K) rfl (pvL 0)) (by ext)) (gE (cD (uE (q:=vk) (Pt:=Ad.tb) (pvL 3) hr (aj (pvL 2) (ae)))))).pt) (ao (dX dA AF.q_NoNumber AF.g_NoNumber da rfl (aj (aY) (ae)))) (bh)))) (bh)) (ai (bT (aX Gn (ax CP T.len bH (aj (cH (K:=K) rfl (pvL 0)) (ae))) (eN AF.v_MOST_ENTRIES) (bc _)) (ao (dX dA AF.q_TooMany AF.g_TooMany da rfl (aj (aY) (ae)))) (bh)) (ao (aK (yR (aX Gp (pvL 2) (gD) (bc _)) (dU M_Book_least_free a8 (hr.mono Zd) (pvL 0) (aj (pvL 3) (ae))) (pvL 2))))))),?_⟩;grind;refine⟨_,.tup,rfl,(show lG (H t)=_ by rw[ht];rfl),(fun p xs ep hp=>?_),fun G1 t1=>?_⟩
  ·cases ep
   rw[ht] at hp;cases hp;refine⟨by rw[ag];have:=eo.few;lia,fun v hv=>?_⟩;obtain⟨z,hz,rfl⟩:=aM.mp hv;exact⟨KQ H z,fun s es=>eo.short s (by rw[←es];exact hv)⟩
  rw[Iq ht eo];symm;cbv;have B1:=B.same t1;obtain⟨dx1,h11⟩:=B1.bk;grind;refine⟨_,dx1,_,_,h11,AF.c_Book,AF.n_Book_by_entry,vC ca dn de,?_⟩;refine .inr ⟨_,.inr ⟨_,key,t,.inl B1.he,rfl,t1 _ _ ht,rfl⟩,?_⟩;rw[Fj hk];bv_omega;show nn _ _ _;cbv;have rest:∀ (G2:Hp),az H G2->(Ht
       (LQ
        (zw
         (tOp (MC K) (tCB GN (wo (Hq K (xQ 0) (Str.ofString "by_number")) Bk)) (tC (V.int 300))))
        (AV Ad.TooMany (fun x=>E) (wo (tC (V.str (Str.ofString "a book has at most 300 entries"))) Bk))
        Hs)
       (LR
        (tIf (zw (tOp (El false) (xQ 2) (tC V.non)))
         (xP Ad.Book (Str.ofString "least_free") (fe Ad) (fun x=>E) (xQ 0)
          (wo (xQ 3) Bk))
         (xQ 2)))) { nx:=fun x H'=>Q V.non H',rt:=Q } [some (V.ref b),some (V.ref t),some y,some (V.ref f)] G2:=by
   intro G2 t2;have B2:=B.same t2;obtain⟨dx2,h12⟩:=B2.bk;grind;refine⟨_,dx2,_,_,h12,AF.c_Book,AF.n_Book_by_number,kZ ca dn de,?_⟩;symm;refine⟨_,.inl B2.hn,?_⟩;rw[lD,av (show ¬ (300:Int)<=(es.length:Int) by lia)];bv_omega;show nn _ _ _;cbv;rcases hy with rfl | ⟨rfl,Lf⟩
   ·symm;exact k G2 t2
   ·symm;exact⟨dx2,_,h12,dJ Zd Zd Zd ca dn de,b,ca,dn,de,f,es,al,ws,r,n,rfl,B2,C.same t2,ok,Fb.same t2,Lf,n1,fun G3 t3=>k G3 (t2.trans t3)⟩
  grind;rcases id hy with rfl | ⟨rfl,Lf⟩
  ·symm;have C1:=C.same t1;obtain⟨dc,qc,hc1,hc2⟩:=id C1;refine gH fun n2 hM=>?_;symm;refine⟨_,dx1,_,_,h11,AF.c_Book,AF.n_Book_basis,kj ca dn de,?_⟩;refine⟨dc,_,hc1,cq Zd Zd Zd al qc r,ca,al,ws,r,rfl,C1,ok.a26,by have:=ok.w3;lia,ok.w8,fun G2 t2=>?_⟩;refine⟨_,.int,_,rfl,rfl,?_⟩;rw[kY (b:=(al.length:Int)^(ws.length-1)) n0 n1];symm;rw[hM];clear hM n2;have t02:=t1.trans t2;have B2:=B.same t02;obtain⟨dx2,h12⟩:=B2.bk;symm;refine⟨_,dx2,_,_,h12,AF.c_Book,AF.n_Book_by_number,kZ ca dn de,?_⟩;refine .inr ⟨_,.inl ⟨_,.inl n,.inl B2.hn,rfl,rfl⟩,?_⟩;rw[uu hnn];bv_omega;refine⟨Fb.same t02,Fb.same t02,?_⟩;show nn _ _ _;rw[hN];exact rest G2 t02
  ·symm;show nn _ _ _;rw[hN];exact rest G1 t1
inductive nD (Ad:Ads) (vs:List V) (H:Hp) (Q:VK) (E:XK):Prop
 | mk (b ca dn de g:Addr) (es:List Ben) (xs:List V) (al:Za) (ws:Zb) (r:Int) (q0:vs=[.ref b,.ref g]) (q1:eK Ad H b ca dn de es) (q2:cI Ad H ca al ws r) (q3:bN al ws r) (q4:(∀ e∈es,jm e.key/\0<=e.num/\e.num<bX al ws)) (q5:H g=some (.lst xs)) (q6:xs.length<=1000) (q7:(∀ x∈xs,∃ t,fj H x=some t)) (q8:(∀ wd,kh (xs.map (kOf es))=.inr wd->∀ gs:Zb,xs=gs.map V.int->(∀ x∈gs,x∈es.map (·.num))->∀ D H',H D=none->az H H'->H' D=some (.lst ((bW al ws r gs).map wdV))->Q (.ref D) H')) (q9:∀ n,kh (xs.map (kOf es))=.inl n->∀ dx H',az H H'->H' dx=some (.xd [("at",.int n)])->E (.ref Ad.NoReading) (some dx) H'):nD Ad vs H Q E
theorem zb {es:List Ben}:∀ {xs:List V}{s s':SSt}{i:Nat},iB (xs.map (kOf es)) s i=.inr s'->∃ gs:Zb,xs=gs.map V.int/\∀ x∈gs,x∈es.map (·.num)
 | [],_,_,_,_=>⟨[],rfl,fun x h=>by cases h⟩
 | x::xs,s,s',i,h=>by
  rw[bf] at h;cases hk:kOf es x with
  | none=>rw[hk] at h;cases h
  | some k =>
   rw[hk] at h;have h':(match stepK k s with | none=>Sum.inl i | some t=>iB (xs.map (kOf es)) t (i+1))=.inr s':=h;cases hs:stepK k s with
   | none=>rw[hs] at h';cases h'
   | some t =>
    rw[hs] at h';obtain⟨gs,rfl,hg⟩:=zb h';cases x with
    | int n =>
     refine⟨n::gs,rfl,fun y hy=>?_⟩;rcases aP.mp hy with rfl | hy
     ·refine Classical.byContradiction fun hno=>?_;rw[wU hno] at hk;cases hk
     ·exact hg y hy
    | _=>cases hk
theorem Jv {es:List Ben}{wd:List (Za)} (h:kh (xs.map (kOf es))=.inr wd):∃ gs:Zb,xs=gs.map V.int/\∀ x∈gs,x∈es.map (·.num):=by
 unfold kh at h;cases hr:iB (xs.map (kOf es)) ([],[]) 0 with
 | inl n=>rw[hr] at h;cases h
 | inr s=>exact zb hr
theorem sO:aN ["book","groups","code"] ["book","groups"] (ay pR):=by subst_eqs
theorem yO (F:Fun K "telegram" "telegram" pR f fd) (T:Bl mg) (AF:AdF K mg Ad) (C_check_of:Fnc P w K mg base (CX1 P w) 4 "check_of" ["code","groups"] (nz Ad)) (C_said:Fnc P w K mg base (CX1 P w) 4 "said" ["book","groups"] (tM Ad)) (M_Code_word:Mtd P w K mg base (CX1 P w) Ad.Code "word" 3 ["self","k"] (j6 Ad)) (M_Book_code:Mtd P w K mg base (CX1 P w) Ad.Book "code" 1 ["self"] (dY Ad)):bU P w K mg base (CX1 P w) 5 f fd ["book","groups"] (nD Ad):=by
 refine F.okX (k:=4) sO ?_ ?_
 ·bv_decide
 ·right;obtain⟨b,ca,dn,de,g,es,xs,al,ws,r,rfl,B,C,ok,hes,hg,gl,htg,k1,k2⟩:=h;refine⟨_,ai (dW (aC C_said a8 (hr.mono Zd) (aj (pvL 0) (aj (pvL 1) (ae))))) (ai (fJ (i:=2) sO.nd (cS M_Book_code a8 (hr.mono Zd) (pvL 0))) (ao (aK (aA aH (gO ["group"] rfl ⟨rfl,by nofun,rfl,by nofun⟩ (.cons (j:=2) rfl (.inl (by ext)) (.nil)) (by nofun) (cE (K:=K) rfl (pvL 1)) (fun _ _ _ _=>aR (i:=0) (show (["group","code"]:Ze).Nodup from by nofun)) (fun _ _ _ _=>eG) (fun _ _ _ _=>dU M_Code_word fF (hr.mono Zd) (pvC 1) (aj (pvL 0) (ae)))) (cy (aj (aC C_check_of a8 (hr.mono Zd) (aj (pvC 2) (aj (pvL 1) (ae)))) (ae))))))),?_⟩;grind;refine⟨b,ca,dn,de,g,es,xs,al,ws,r,rfl,B,C,ok,hes,hg,gl,htg,fun wd hwd H1 s1=>?_,k2⟩;obtain⟨gs,rfl,hgs⟩:=Jv hwd;have k1':=k1 wd hwd gs rfl hgs;have hgb:∀ x∈gs,0<=x/\x<bX al ws:=fun x hx=>by
   obtain⟨e,he,rfl⟩:=aM.mp (hgs x hx);exact (hes e he).2
  rw[ag] at gl;rw[hN];clear hN nn k1 k2;grind;have B1:=B.same s1;have C1:=C.same s1;have hg1:=s1 _ _ hg;obtain⟨dx,h1⟩:=B1.bk;refine⟨dx,_,h1,dJ Zd Zd Zd ca dn de,b,ca,dn,de,es,rfl,B1,?_⟩;cbv;symm;refine .inl ⟨⟨_,.of hg1⟩,vm V.int iG (eP (.of hg1)) (aq (by lia)) (fun g=>wdV (z5 al ws r g)) ?_ ?_⟩
  ·intro x hx G2 t2 R hR;have C2:=C1.same t2;obtain⟨dc2,qc2,hc21,hc22⟩:=id C2;obtain⟨g0,g1⟩:=hgb x hx;symm;refine⟨dc2,_,hc21,cq Zd Zd Zd al qc2 r,ca,al,ws,r,.int x,.int,rfl,C2,ok,rfl,(fun h=>?_),fun k e _ _ G3 t3=>?_⟩
   ·rw[kY (b:=(al.length:Int)^(ws.length-1)) g0 g1] at h;cases h
   ·cases e
    exact hR G3 t3
  intro D G2 hD t2 g2;symm;refine⟨ca,g,al,ws,r,gs,rfl,C1.same t2,ok,t2 _ _ hg1,fun G3 t3=>?_⟩;refine⟨aQ (aq Zd),fun p G4 hp t4 g4=>⟨_,_,(t3.trans t4) _ _ g2,g4,by rw[ag];exact aQ (aq (by simp;lia)),fun p5 G5 hp5 t5 g5=>?_⟩⟩;refine k1' p5 G5 ((s1.trans (t2.trans (t3.trans t4))).free hp5) (s1.trans (t2.trans (t3.trans (t4.trans t5)))) ?_;rw[g5];unfold bW;rw[bu,aI];rfl
inductive k9 (Ad:Ads) (vs:List V) (H:Hp) (Q:VK) (E:XK):Prop
 | mk (b ca dn de:Addr) (es:List Ben) (al:Za) (ws:Zb) (r:Int) (z:Za) (c:Bool) (q0:vs=[.ref b,.str (tx z),.bl c]) (q1:eK Ad H b ca dn de es) (q2:cI Ad H ca al ws r) (q3:bN al ws r) (q4:z.length<=100) (q5:∀ H',az H H'->Q (.bl (Mk.c9 al ws r z&&(c||decide (iO al z∈es.map (·.num))))) H'):k9 Ad vs H Q E
theorem sN:aN ["book","word","is_check","code"] ["book","word","is_check"] (ay pK):=by subst_eqs
theorem yI (F:Fun K "is_sound" "is_sound" pK f fd) (T:Bl mg) (AF:AdF K mg Ad) (M_Book_entry:Mtd P w K mg base (CX1 P w) Ad.Book "entry" 3 ["self","number"] (iI Ad)) (M_Code_number:Mtd P w K mg base (CX1 P w) Ad.Code "number" 4 ["self","word"] (fN Ad)) (M_Code_has_good:Mtd P w K mg base (CX1 P w) Ad.Code "has_good" 3 ["self","thing"] (dG Ad)) (M_Book_code:Mtd P w K mg base (CX1 P w) Ad.Book "code" 1 ["self"] (dY Ad)):bU P w K mg base (CX1 P w) 5 f fd ["book","word","is_check"] (k9 Ad):=by
 refine F.okX (k:=4) sN ?_ (fun cdv A outer s H vs Q E hr h=>?_)
 ·bv_decide
 ·obtain⟨b,ca,dn,de,es,al,ws,r,z,c,rfl,B,C,ok,zl,k⟩:=h;obtain⟨dx,h1⟩:=B.bk;have hu:=hr.nH;have hu1:=ug hr;refine⟨_,ai (aF (i:=3) sN.nd (cS M_Book_code a8 (hr.mono Zd) (pvL 0))) (ai (bT (cM (cD (dU M_Code_has_good a8 (hr.mono Zd) (pvL 3) (aj (pvL 1) (ae))))) (ao (aK (kx))) (bh)) (ao (aK (M6 (pvL 2) (mU (cZ rR (dU M_Book_entry a8 (hr.mono Zd) (pvL 0) (aj (dU M_Code_number a8 (hr.mono Zd) (pvL 3) (aj (pvL 1) (ae))) (ae))) (gD) (bc _))))))),?_⟩;grind;refine⟨dx,_,h1,dJ Zd Zd Zd ca dn de,b,ca,dn,de,es,rfl,B,?_⟩;cbv;obtain⟨dc,qc,hc1,hc2⟩:=id C;grind;refine⟨dc,_,hc1,cq Zd Zd Zd al qc r,ca,al,ws,r,.str (tx z),.str,rfl,C,ok,rfl,(fun y ey=>by rw[←V.str.inj ey,bC];lia),fun G1 t1=>?_⟩;have eg:iH (tx al) ws r (.str (tx z))=Mk.c9 al ws r z:=by
   show Mk.c9 (tx al).cps.toList ws r (tx z).cps.toList=_;rw[bG,bG]
  rw[eg];cases hg:Mk.c9 al ws r z with
  | false =>rw[hg] at k;symm;exact k G1 t1
  | true =>
   rw[hg,dj] at k;symm;cbv;cases c with
   | true =>symm;exact k G1 t1
   | false =>
    symm;have B1:=B.same t1;have C1:=C.same t1;obtain⟨dx1,h11⟩:=B1.bk;obtain⟨dc1,qc1,hc11,hc12⟩:=id C1;obtain⟨n0,n1⟩:=vW ok hg;refine⟨dx1,_,h11,dJ Zd Zd Zd ca dn de,dc1,_,hc11,cq Zd Zd Zd al qc1 r,ca,al,ws,r,.str (tx z),.str,rfl,C1,ok,rfl,(fun y ey=>by rw[←V.str.inj ey,bC];lia),(fun h=>by rw[eg,hg] at h;cases h),fun y ey hy G2 t2=>?_⟩;have ey':y=tx z:=(V.str.inj ey).symm;subst ey';rw[bG];have en:Mk.numOf (al.length:Int) (Mk.plc al z.dropLast)=iO al z:=rfl;rw[en] at n0 n1 ⊢;refine⟨b,ca,dn,de,es,al,ws,r,.int (iO al z),.int,rfl,B1.same t2,C1.same t2,ok,rfl,(fun h=>?_),(fun n e _ _ hn G3 t3=>?_),fun n e _ _ x hx ex G3 t3=>?_⟩
    ·rw[kY (b:=bX al ws) n0 n1] at h;cases h
    ·cases e
     have:=k G3 (t1.trans (t2.trans t3));rw[av hn] at this;exact this
    ·cases e
     have:=k G3 (t1.trans (t2.trans t3));rw[aw (show iO al z∈es.map (·.num) by rw[←ex];exact iw hx)] at this;exact this
inductive pZ (Ad:Ads) (vs:List V) (H:Hp) (Q:VK) (E:XK):Prop
 | mk (b ca dn de q:Addr) (es:List Ben) (al:Za) (ws:Zb) (r:Int) (ns:Zb) (q0:vs=[.ref b,.ref q]) (q1:eK Ad H b ca dn de es) (q2:cI Ad H ca al ws r) (q3:bN al ws r) (q4:(∀ e∈es,jm e.key/\0<=e.num/\e.num<bX al ws)) (q5:H q=some (.lst (ns.map V.int))) (q6:1<=ns.length) (q7:ns.length<=1000) (q8:(∀ t,lH es (bX al ws) ns=some t->∀ H',az H H'->Q (.str (tx t)) H')) (q9:(lH es (bX al ws) ns=none->∀ H',az H H'->Q .non H')):pZ Ad vs H Q E
theorem uR:aN ["book","numbers","groups"] ["book","numbers"] (ay sf):=by subst_eqs
theorem AG (F:Fun K "text_of" "text_of" sf f fd) (T:Bl mg) (AF:AdF K mg Ad) (C_said:Fnc P w K mg base (CX1 P w) 4 "said" ["book","groups"] (tM Ad)) (C_check_number:Fnc P w K mg base (CX1 P w) 2 "check_number" ["code","groups"] (gA Ad)) (M_Book_code:Mtd P w K mg base (CX1 P w) Ad.Book "code" 1 ["self"] (dY Ad)):bU P w K mg base (CX1 P w) 5 f fd ["book","numbers"] (pZ Ad):=by
 refine F.okX (k:=4) uR ?_ ?_
 ·bv_decide
 ·right;obtain⟨b,ca,dn,de,q,es,al,ws,r,ns,rfl,B,C,ok,hes,hq,n1,n1000,k1,k2⟩:=h;refine⟨_,ai (aF (i:=2) uR.nd (cU (iT (K:=K) rfl) (pvL 1) (eI) (dQ (GB Bp (au))))) (ai (bT (aX (gC (K:=K) rfl hu) (bZ (cT (K:=K) rfl) (pvL 1) (GB Bp (au)) (fun _ _=>rfl)) (aC C_check_number a8 (hr.mono Zd) (aj (cS M_Book_code a8 (hr.mono Zd) (pvL 0)) (aj (pvL 2) (ae)))) (bc _)) (ao (aK (gD))) (bh)) (ao (Jk rfl rfl rfl (fun pn xe E1 po px=>ao (aK (aC C_said px (hr.mono Zd) (aj (pvL 0) (aj (pvL 2) (ae)))))) (M8 AF.g_NoReading (fun _=>ao (aK (gD))) (L9))))),?_⟩;grind;refine⟨_,.of hq,fun p H1 hp s1 h1=>?_⟩;rw[Dk,←List.map_dropLast] at h1;cbv;grind;obtain⟨m,hm⟩:∃ m,ns.getLast?=some m:=by
   cases h:ns.getLast? with
   | none=>rw[List.getLast?_eq_none_iff] at h;subst h;simp at n1
   | some m=>exact⟨m,rfl⟩
  have B1:=B.same s1;have C1:=C.same s1;obtain⟨dx,hb1⟩:=B1.bk;have eD:ns.getLastD 0=m:=by rw[jY,hm];rfl
  refine⟨_,_,.l (s1 _ _ hq),CK (v:=.int m) (by rw[List.getLast?_map,hm];rfl),dx,_,hb1,dJ Zd Zd Zd ca dn de,b,ca,dn,de,es,rfl,B1,?_⟩;refine⟨ca,p,al,ws,r,ns.dropLast,rfl,C1,ok,h1,fun G1 t1=>?_⟩;symm
  by_cases hc:m=(ns.dropLast.sum+(ns.dropLast.length:Int))%bX al ws
  ·rw[aw hc];bv_omega;show nn _ _ _;cbv;symm;refine⟨b,ca,dn,de,p,es,ns.dropLast.map V.int,al,ws,r,rfl,B1.same t1,C1.same t1,ok,hes,t1 _ _ h1,by rw[ag,jd];lia,(fun x hx=>by obtain⟨n,_,rfl⟩:=aM.mp hx;exact⟨.int,rfl⟩),fun wd hwd G2 t2=>k1 _ (by unfold lH;rw[eD,ah hc,hwd]) G2 (s1.trans (t1.trans t2)),fun n hn dx2 G2 t2 hdx ea G3 hea t3 h3 hxd=>⟨true,AF.x_NoReading,?_⟩⟩;rw[ah rfl];exact k2 (by unfold lH;rw[eD,ah hc,hn]) G3 (s1.trans (t1.trans (t2.trans t3)))
  ·rw[av hc];bv_omega;exact k2 (by unfold lH;rw[eD,af hc]) G1 (s1.trans t1)
inductive iU (Ad:Ads) (vs:List V) (H:Hp) (Q:VK) (E:XK):Prop
 | mk (b ca dn de t:Addr) (es:List Ben) (al:Za) (ws:Zb) (r n:Int) (key:List Key) (y:V) (q0:vs=[.ref b,.ref t,y]) (q1:eK Ad H b ca dn de es) (q2:cI Ad H ca al ws r) (q3:bN al ws r) (q4:H Ad.tb=some (oS vk)) (q5:H t=some (.tup (key.map kV))) (q6:jm key) (q7:key∉es.map (·.key)) (q8:es.length<300) (q9:0<=n) (q10:n<bX al ws) (q11:n∉es.map (·.num)) (q12:(y=.int n∨(y=.non/\zC (es.map (·.num)) n))) (q13:∀ H',(∀ c o,c≠dn->c≠de->H c=some o->H' c=some o)->eK Ad H' b ca dn de (es++[⟨n,key,t⟩])->Q (.int n) H'):iU Ad vs H Q E
theorem sI:aN ["self","entry","number","given"] ["self","entry","number"] (ay dq):=by subst_eqs
theorem sE (F:HC K "put" "Book.put" dq f fd) (T:Bl mg) (AF:AdF K mg Ad) (CD:fd.code=.ref Ad.cd) (M_Book_choose:Mtd P w K mg base (CX1 P w) Ad.Book "choose" 4 ["self","entry","number","is_barred"] (jO Ad)):bU P w K mg base (CX1 P w) 5 f fd ["self","entry","number"] (iU Ad):=by
 refine F.okT (k:=4) CD sI ?_ (fun A outer s H vs Q E hr h=>?_)
 ·bv_decide
 ·obtain⟨b,ca,dn,de,t,es,al,ws,r,n,key,y,rfl,B,C,ok,Tb,ht,eo,hk,h300,n0,n1,hnn,hy,k⟩:=h;obtain⟨dx,h1⟩:=B.bk;have hu:=hr.nH;have hu1:=ug hr;refine⟨_,ai (aF (i:=3) sI.nd (dU M_Book_choose a8 (hr.mono Zd) (pvL 0) (aj (pvL 1) (aj (pvL 2) (aj (Je (q:=vk) (x:="k") rfl AF.t_tab (by ext) rfl rfl (fun _ _ _ _=>rfl)) (ae)))))) (ai (uI hu1 (cH (K:=K) rfl (pvL 0)) (pvL 3) (pvL 1)) (ai (uI hu1 (cH (K:=K) rfl (pvL 0)) (pvL 1) (pvL 3)) (ao (aK (pvL 3))))),?_⟩;grind;refine⟨dx,_,h1,dJ Zd Zd Zd ca dn de,Tb,fun f G1 z1 t1 Fb=>?_⟩;refine⟨b,ca,dn,de,f,t,es,al,ws,r,n,key,y,rfl,B.same t1,C.same t1,ok,Fb,t1 _ _ ht,eo,hk,h300,n0,n1,hnn,hy,fun G2 t2=>?_⟩;have t02:=t1.trans t2;have B2:=B.same t02;obtain⟨dx2,h12⟩:=B2.bk;cbv;grind;refine⟨_,dx2,_,_,h12,AF.c_Book,AF.n_Book_by_number,kZ ca dn de,dn,_,rfl,.inl ⟨_,.inl n,B2.hn,rfl,by rw[lD];exact aq (by lia),rfl⟩,?_⟩;rw[xy (uu hnn),show i7 es++[((.inl n:Key),V.ref t)]=i7 (es++[⟨n,key,t⟩]) from (vY es ⟨n,key,t⟩).symm];have hnb:dn≠b:=jw B2.hn h12 (by intro z;cases z);have heb:de≠b:=jw B2.he h12 (by intro z;cases z);have hne:dn≠de:=jw B2.hn B2.he (by intro z;cases z);have hdt:∀ {c:Addr}{xs:List V},G2 c=some (.tup xs)->c≠dn/\c≠de:=fun h=>⟨jw h B2.hn (by intro z;cases z),jw h B2.he (by intro z;cases z)⟩;have k3:∀ c o,c≠dn->G2 c=some o->upd G2 dn (.dK (i7 (es++[⟨n,key,t⟩]))) c=some o:=fun c o hc h=>by rw[aJ hc];exact h
  have g3:upd G2 dn (.dK (i7 (es++[⟨n,key,t⟩]))) dn=some (.dK (i7 (es++[⟨n,key,t⟩]))):=aE;generalize upd G2 dn (.dK (i7 (es++[⟨n,key,t⟩])))=G3 at k3 g3;cbv;have ht2:=t02 _ _ ht;have hb3:=k3 _ _ hnb.symm h12;grind;refine⟨_,dx2,_,_,hb3,AF.c_Book,AF.n_Book_by_entry,vC ca dn de,de,_,rfl,.inr ⟨_,key,t,k3 _ _ hne.symm B2.he,rfl,k3 _ _ (hdt ht2).1 ht2,by show (rC es).length<_;unfold rC;rw[ag];exact aq (by lia),rfl⟩,?_⟩;rw[xy (Fj hk),show rC es++[(key,V.int n)]=rC (es++[⟨n,key,t⟩]) from (Dn es ⟨n,key,t⟩).symm];have k4:∀ c o,c≠de->G3 c=some o->upd G3 de (.dT (rC (es++[⟨n,key,t⟩]))) c=some o:=fun c o hc h=>by rw[aJ hc];exact h
  have g4:upd G3 de (.dT (rC (es++[⟨n,key,t⟩]))) de=some (.dT (rC (es++[⟨n,key,t⟩]))):=aE;generalize upd G3 de (.dT (rC (es++[⟨n,key,t⟩])))=G4 at k4 g4;cbv;symm;refine k G4 (fun c o h1 h2 h=>k4 _ _ h2 (k3 _ _ h1 (t02 _ _ h))) ⟨⟨dx2,k4 _ _ heb.symm hb3⟩,k4 _ _ hne g3,g4,fun e he=>?_,?_,?_⟩
  ·rcases bE.mp he with he | he
   ·have:=B2.en e he;exact k4 _ _ (hdt this).2 (k3 _ _ (hdt this).1 this)
   ·rw[bg.mp he];exact k4 _ _ (hdt ht2).2 (k3 _ _ (hdt ht2).1 ht2)
  ·rw[bu];exact wY B.nn hnn
  ·rw[bu];exact wY B.nk hk
theorem ES {n:Int} (h:gK al n H x=true):∃ (p:Addr) (zs:List (Za)),x=.ref p/\H p=some (.lst (zs.map wdV))/\2<=zs.length/\zs.length<=1400/\∀ z∈zs,Mk.bL al n z=true:=by
 cases x with
 | ref p =>
  have h':(match H p with | some (.lst xs)=>decide (2<=xs.length)&&decide (xs.length<=1400)&&xs.all (dE (tx al) n) | _=>false)=true:=h;split at h'
  ·rename_i xs hp
   rw[bP,bP,bR,bR] at h';obtain⟨zs,rfl,hz⟩:=words_of (al:=al) (n:=n) (f:=dE (tx al) n) (fun x hx=>by
    cases x with
    | str z=>exact⟨z,rfl,by have hx':Mk.bL (tx al).cps.toList n z.cps.toList=true:=hx;rwa [bG] at hx'⟩
    | _=>cases hx) h'.2
   rw[ag] at h';exact⟨p,zs,rfl,hp,h'.1.1,h'.1.2,hz⟩
  ·cases h'
 | _=>cases h
inductive iV (Ad:Ads) (vs:List V) (H:Hp) (Q:VK) (E:XK):Prop
 | mk (b ca dn de:Addr) (es:List Ben) (al:Za) (ws:Zb) (r:Int) (x:V) (t:Tg) (q0:vs=[.ref b,x]) (q1:eK Ad H b ca dn de es) (q2:cI Ad H ca al ws r) (q3:bN al ws r) (q4:fj H x=some t) (q5:(∀ p o u,x=.ref p->H p≠some (.frz o u))) (q6:(∀ p xs,x=.ref p->H p=some (.lst xs)->∀ y∈xs,(∃ t,fj H y=some t)/\∀ z,y=.str z->z.length<=100000)) (q7:(gK al ws.length H x=false->∀ H',az H H'->E (.ref Ad.NoWord) none H')) (q8:∀ (p:Addr) (zs:List (Za)),x=.ref p->H p=some (.lst (zs.map wdV))->2<=zs.length->zs.length<=1400->(∀ z∈zs,Mk.bL al ws.length z=true)->∀ D H',H D=none->az H H'->H' D=some (.lst ((dbL al ws r es zs).map mi))->Q (.ref D) H'):iV Ad vs H Q E
theorem sM:aN ["book","words","last"] ["book","words"] (ay pG):=by subst_eqs
theorem yF (F:Fun K "doubtful" "doubtful" pG f fd) (T:Bl mg) (AF:AdF K mg Ad) (C_is_sound:Fnc P w K mg base (CX1 P w) 5 "is_sound" ["book","word","is_check"] (k9 Ad)) (C_are_words_of:Fnc P w K mg base (CX1 P w) 2 "are_words_of" ["code","thing"] (ju Ad)) (M_Book_code:Mtd P w K mg base (CX1 P w) Ad.Book "code" 1 ["self"] (dY Ad)):bU P w K mg base (CX1 P w) 6 f fd ["book","words"] (iV Ad):=by
 refine F.okX (k:=5) sM ?_ ?_
 ·bv_decide
 ·right;obtain⟨b,ca,dn,de,es,al,ws,r,x,t,rfl,B,C,ok,ht,hfz,hit,kE,kQ⟩:=h;refine⟨_,ai (bT (cM (cD (aC C_are_words_of a8 (hr.mono Zd) (aj (cS M_Book_code a8 (hr.mono Zd) (pvC 0)) (aj (pvL 1) (ae)))))) (ao (dX dA AF.q_NoWord AF.g_NoWord da rfl (aj (aY) (ae)))) (bh)) (ai (fJ (i:=2) sM.nd (aA gz (ax (aL (K:=K) rfl) T.len bH (aj (pvL 1) (ae))) (au))) (ao (aK (gO ["at","word"] rfl ⟨rfl,by nofun,rfl,by nofun⟩ (.cons (j:=0) rfl (.inl (by ext)) (.cons (j:=2) rfl (.inl (by ext)) (.nil))) (by nofun) (uG (K:=K) rfl T.enumerate (aj (pvL 1) (ae))) (fun _ _ _ _=>qA (K:=K) (n:=2) rfl rfl (gd (aR (i:=0) (show (["at","word","book","last"]:Ze).Nodup from by nofun)) (gd (aR (i:=1) (show (["at","word","book","last"]:Ze).Nodup from by nofun)) (qB)))) (fun _ _ _ _=>jz (cM (cD (aC C_is_sound fF (hr.mono Zd) (aj (pvC 2) (aj (pvL 1) (aj (cZ (cL (K:=K) rfl hu) (pvL 0) (pvC 3) (bc _)) (ae)))))))) (fun _ _ _ _=>pvL 0))))),?_⟩;have w8:=ok.w8;obtain⟨dx,hb1⟩:=B.bk;grind;refine⟨dx,_,hb1,dJ Zd Zd Zd ca dn de,b,ca,dn,de,es,rfl,B,?_⟩;refine⟨ca,al,ws,r,x,t,rfl,C,ht,hfz,hit,fun H1 s1=>?_⟩;symm;cases hA:gK al ws.length H x with
  | false =>bv_omega;exact⟨Zd,kE hA H1 s1⟩
  | true =>
   obtain⟨p,zs,rfl,hp,z2,z14,hz⟩:=ES hA;have kQ':=kQ p zs rfl hp z2 z14 hz;bv_omega;show nn _ _ _;rw[hN];clear hN nn kQ kE;grind;refine⟨_,.l (s1 _ _ hp),?_⟩;rw[ag,hN];clear hN nn;symm;have hp1:=s1 _ _ hp;refine⟨p,rfl,⟨_,.of hp1⟩,FT (.of hp1) (by rw[ag];exact aq (by lia)) (fun i=>!ki al ws r es zs.length i (zs.getD i [])) mi ?_ ?_ ?_⟩
   ·intro i v hi G2 t2 R hR;rw[aT] at hi;obtain⟨z,hzi,rfl⟩:=dO.mp hi;have hil:=(b7.mp hzi).1;have zl:=(Mk.dm.mp (hz z (bQ hzi))).1;rw[show zs.getD i []=z by rw[bz,hzi];rfl] at hR;unfold wdV;symm;refine⟨b,ca,dn,de,es,al,ws,r,z,_,rfl,B.same (s1.trans t2),C.same (s1.trans t2),ok,by lia,fun G3 t3=>?_⟩;have e:decide ((i:Int)=(zs.length:Int)-1)=decide (i+1=zs.length):=by
     by_cases h:i+1=zs.length
     ·rw[aw h,aw (by lia)]
     ·rw[av h,av (by lia)]
    rw[e];have:=hR G3 t3;unfold ki at this;exact⟨_,rfl,this⟩
   ·intro i v hi _ G2 t2 R hR;symm;exact hR G2 (az.refl _)
   intro D G2 hD t2 g2;refine kQ' D G2 (s1.free hD) (s1.trans t2) ?_;rw[g2,ag];rfl
inductive mC (Ad:Ads) (vs:List V) (H:Hp) (Q:VK) (E:XK):Prop
 | mk (b ca dn de:Addr) (es:List Ben) (al:Za) (ws:Zb) (r:Int) (z:Za) (c:Bool) (q0:vs=[.ref b,.str (tx z),.bl c]) (q1:eK Ad H b ca dn de es) (q2:cI Ad H ca al ws r) (q3:bN al ws r) (q4:Mk.bL al ws.length z=true) (q5:∀ D cs H',H D=none->az H H'->H' D=some (.lst (cs.map V.int))->EC al ws r es c z cs->Q (.ref D) H'):mC Ad vs H Q E
theorem qM:aN ["book","word","is_check","code"] ["book","word","is_check"] (ay nq):=by subst_eqs
theorem xn (F:Fun K "may_stand" "may_stand" nq f fd) (T:Bl mg) (AF:AdF K mg Ad) (C_nearest:Fnc P w K mg base (CX1 P w) 4 "nearest" ["code","word"] (pX Ad)) (C_is_sound:Fnc P w K mg base (CX1 P w) 5 "is_sound" ["book","word","is_check"] (k9 Ad)) (M_Code_number:Mtd P w K mg base (CX1 P w) Ad.Code "number" 4 ["self","word"] (fN Ad)) (M_Book_code:Mtd P w K mg base (CX1 P w) Ad.Book "code" 1 ["self"] (dY Ad)):bU P w K mg base (CX1 P w) 6 f fd ["book","word","is_check"] (mC Ad):=by
 refine F.okX (k:=5) qM ?_ ?_
 ·bv_decide
 ·right;obtain⟨b,ca,dn,de,es,al,ws,r,z,c,rfl,B,C,ok,hz,k⟩:=h;refine⟨_,ai (fJ (i:=3) qM.nd (cS M_Book_code a8 (hr.mono Zd) (pvC 0))) (ao (aK (gO ["made"] rfl ⟨rfl,by nofun,rfl,by nofun⟩ (.cons (j:=3) rfl (.inl (by ext)) (.cons (j:=0) rfl (.inl (by ext)) (.cons (j:=2) rfl (.inl (by ext)) (.nil)))) (by nofun) (cE (K:=K) rfl (aC C_nearest a8 (hr.mono Zd) (aj (pvC 3) (aj (pvL 1) (ae))))) (fun _ _ _ _=>aR (i:=0) (show (["made","code","book","is_check"]:Ze).Nodup from by nofun)) (fun _ _ _ _=>jz (cD (aC C_is_sound fF (hr.mono Zd) (aj (pvC 2) (aj (pvL 0) (aj (pvC 3) (ae))))))) (fun _ _ _ _=>dU M_Code_number fF (hr.mono Zd) (pvC 1) (aj (pvL 0) (ae)))))),?_⟩;have w8:=ok.w8;have a26:=ok.a26;obtain⟨zl,zm⟩:=Mk.dm.mp hz;have pm:=Mk.mn zm;have pl:(Mk.plc al z).length=ws.length:=by rw[Mk.oJ];lia
  obtain⟨dx,hb1⟩:=B.bk;grind;refine⟨dx,_,hb1,dJ Zd Zd Zd ca dn de,b,ca,dn,de,es,rfl,B,?_⟩;cbv;symm;have ew:dE (tx al) ws.length (.str (tx z))=true:=by show Mk.bL (tx al).cps.toList ws.length (tx z).cps.toList=true;rw[bG,bG];exact hz
  refine⟨ca,al,ws,r,.str (tx z),.str,rfl,C,ok,rfl,(fun y ey=>by rw[←V.str.inj ey,bC];lia),(fun h=>by rw[ew] at h;cases h),fun z' ez hw fs fp D1 H1 hD1 s1 h1=>?_⟩;have ez':z=z':=gJ (V.str.inj ez);subst ez';have fo:∀ q∈fs,q.length=ws.length/\∀ x∈q,0<=x/\x<(al.length:Int):=fun q hq=>by have:=mS pm q (fp.mem_iff.mp hq);exact⟨by rw[this.1,pl],this.2⟩
  have fl:fs.length<=208:=by rw[fp.length_eq];exact Al a26 (by lia) pm
  have fg:=lL (fun ps=>Mk.good al.length ws r ps) fs;have go:∀ q∈fs.filter (fun ps=>Mk.good al.length ws r ps),q.length=ws.length/\(∀ x∈q,0<=x/\x<(al.length:Int))/\Mk.good al.length ws r q=true:=fun q hq=>by obtain⟨h1,h2⟩:=cA.mp hq;exact⟨(fo q h1).1,(fo q h1).2,h2⟩
  have gnd:(fs.filter fun ps=>Mk.good al.length ws r ps).Nodup:=jV _ (fp.nodup_iff.mpr vL);have gfew:(fs.filter fun ps=>Mk.good al.length ws r ps).length<=16:=by rw[(fp.filter _).length_eq];exact IC ok pl pm
  have gmem:∀ q,q∈fs.filter (fun ps=>Mk.good al.length ws r ps)↔q∈kg al.length (Mk.plc al z)/\Mk.good al.length ws r q=true:=fun q=>by rw[cA,fp.mem_iff]
  generalize fs.filter (fun ps=>Mk.good al.length ws r ps)=gs at h1 go gnd gfew gmem;have h1':H1 D1=some (.lst ((gs.map (Mk.bO al)).map fun l=>V.str (tx l))):=by rw[h1,aI];rfl
  have nmS:∀ q∈gs,iO al (Mk.bO al q)=Mk.numOf al.length q.dropLast:=fun q hq=>by
   unfold iO;have e:(Mk.bO al q).dropLast=Mk.bO al q.dropLast:=by unfold Mk.bO;rw[List.map_dropLast]
   rw[e,Mk.j9 ok.nd fun p hp=>(go q hq).2.1 p (ig _ hp)]
  have goodS:∀ q∈gs,Mk.c9 al ws r (Mk.bO al q)=true:=fun q hq=>by rw[Mk.md ok.nd (go q hq).1 (go q hq).2.1];exact (go q hq).2.2
  refine .inl ⟨⟨_,.of h1⟩,Au (fun l:Za=>V.str (tx l)) (fun x y e=>gJ (V.str.inj e)) (eP (.of h1')) (by rw[ag];exact aq (by lia)) (fun l=>c||decide (iO al l∈es.map (·.num))) (fun l=>V.int (iO al l)) ?_ ?_ ?_⟩
  ·intro l hl H5 t5 R hR;obtain⟨y,hy,rfl⟩:=aM.mp hl;symm;refine⟨b,ca,dn,de,es,al,ws,r,_,c,rfl,B.same (s1.trans t5),C.same (s1.trans t5),ok,by rw[Mk.gT,(go y hy).1];lia,fun G3 t3=>?_⟩;rw[goodS y hy,dj];exact⟨_,rfl,hR G3 t3⟩
  ·intro l hl _ H5 t5 R hR;obtain⟨y,hy,rfl⟩:=aM.mp hl;have C5:=C.same (s1.trans t5);obtain⟨dc,qc,hc1,hc2⟩:=id C5;have eg:iH (tx al) ws r (.str (tx (Mk.bO al y)))=true:=by
    show Mk.c9 (tx al).cps.toList ws r (tx (Mk.bO al y)).cps.toList=true;rw[bG,bG];exact goodS y hy
   symm;refine⟨dc,_,hc1,cq Zd Zd Zd al qc r,ca,al,ws,r,.str (tx (Mk.bO al y)),.str,rfl,C5,ok,rfl,(fun u eu=>by rw[←V.str.inj eu,bC,Mk.gT,(go y hy).1];lia),(fun h=>by rw[eg] at h;cases h),fun u eu hu G2 t2=>?_⟩;have eu':u=tx (Mk.bO al y):=(V.str.inj eu).symm;subst eu';rw[bG];exact hR G2 t2
  intro D2 H2 hD2 s2 h2;refine k D2 ((((gs.map (Mk.bO al)).filter fun l=>c||decide (iO al l∈es.map (·.num)))).map (iO al)) H2 (s1.free hD2) (s1.trans s2) (by rw[h2,aI];rfl) ?_;rw[nR,aI];have sub:=List.filter_sublist (p:=(fun l=>c||decide (iO al l∈es.map (·.num))) ∘ Mk.bO al) (l:=gs);refine⟨?_,by rw[ag];exact aV sub.length_le gfew,fun n=>?_⟩
  ·refine fk.mpr (jW (fun {x y} hx hy hxy e=>hxy ?_) (sub.nodup gnd));have hx':=sub.subset hx;have hy':=sub.subset hy;have e':iO al (Mk.bO al x)=iO al (Mk.bO al y):=e;rw[nmS x hx',nmS y hy'] at e';exact FC ok (go x hx').1 (go y hy').1 (go x hx').2.1 (go y hy').2.1 (go x hx').2.2 (go y hy').2.2 e'
  ·rw[aM];constructor
   ·rintro⟨q,hq,rfl⟩;obtain⟨h3,h4⟩:=cA.mp hq;have h4':(c||decide (iO al (Mk.bO al q)∈es.map (·.num)))=true:=h4;rw[Bool.or_eq_true,bR] at h4';obtain⟨h5,h6⟩:=(gmem q).mp h3;exact⟨q,h5,h6,h4',nmS q h3⟩
   ·rintro⟨q,h3,h4,h5,rfl⟩;have hq:=(gmem q).mpr ⟨h3,h4⟩;refine⟨q,cA.mpr ⟨hq,?_⟩,nmS q hq⟩;show (c||decide (iO al (Mk.bO al q)∈es.map (·.num)))=true;rw[Bool.or_eq_true,bR,nmS q hq];exact h5
inductive nA (Ad:Ads) (vs:List V) (H:Hp) (Q:VK) (E:XK):Prop
 | mk (ca D:Addr) (al:Za) (ws:Zb) (r:Int) (es:List Ben) (q0:vs=[.ref ca,.ref D]) (q1:cI Ad H ca al ws r) (q2:bN al ws r) (q3:H Ad.tb=some (oS vk)) (q4:H D=some (.dK (i7 es))) (q5:E8 al ws H es) (q6:∀ b dn de ob H',(∀ c o,c≠D->H c=some o->H' c=some o)->H' D=some (.frz ob (.dK (i7 es)))->eK Ad H' b ca dn de es->Q (.ref b) H'):nA Ad vs H Q E
theorem nu:aN ["_law_code","_law_entries_here","_law_book_here","_law_number"] ["_law_code","_law_entries_here"] (ay pM):=by subst_eqs
theorem yK (F:Fun K "_law_book" "_law_book" pM f fd) (T:Bl mg) (AF:AdF K mg Ad) (M_Book_put:Mtd P w K mg base (CX1 P w) Ad.Book "put" 5 ["self","entry","number"] (iU Ad)) (K_Book:Mak P w K mg base (CX1 P w) Ad.Book "Book" 1 ["self","code"] (m6 Ad)):bU P w K mg base (CX1 P w) 6 f fd ["_law_code","_law_entries_here"] (nA Ad):=by
 refine F.okX (k:=5) nu ?_ ?_
 ·bv_decide
 ·right;obtain⟨ca,D,al,ws,r,es,rfl,C,ok,Tb,hD,eo,k⟩:=h;refine⟨_,ai (aF (i:=2) nu.nd (yS K_Book a8 (hr.mono Zd) (aj (pvL 0) (ae)))) (ai (eZ cB rfl (yT (pvL 1)) (aR (i:=3) nu.nd) (ao (dW (dU M_Book_put a8 (hr.mono Zd) (pvL 2) (aj (uF hu1 (pvL 1) (pvL 3)) (aj (pvL 3) (ae))))))) (ao (aK (pvL 2)))),?_⟩;grind;intro b bx G0 hb hbx hbb t0 g0 g0x;refine⟨b,bx,ca,rfl,g0,fun dn de G1 hdn hde ne1 ne2 ne3 k1 g1 gn ge=>⟨rfl,?_⟩⟩;have n0:az H G1:=fun x o e=>k1 x o (fun z=>by rw[z,hb] at e;cases e) (t0 _ _ e);have hdn0:=t0.free hdn;have hde0:=t0.free hde;cbv;grind;have el14:=eo.few;refine⟨D,_,rfl,.inl ⟨n0 _ _ hD,fun ob G2 kp2 hD2=>?_⟩⟩;have nDd:dn≠D:=fun z=>by rw[z,hD] at hdn0;cases hdn0
  have nDe:de≠D:=fun z=>by rw[z,hD] at hde0;cases hde0
  have nDb:b≠D:=fun z=>by rw[z,hD] at hb;cases hb
  have sim:∀ c o,c≠D->H c=some o->G2 c=some o:=fun c o hc e=>kp2 c o hc (n0 _ _ e);refine Fx (fun i σ G=>(∃ o3,σ=[some (V.ref ca),some (V.ref D),some (V.ref b),o3])/\(∀ c o,c≠dn->c≠de->G2 c=some o->G c=some o)/\eK Ad G b ca dn de (es.take i)) ?_ ?_ ?_ ?_
  ·exact⟨⟨_,rfl⟩,(fun c o _ _ e=>e),⟨⟨_,kp2 _ _ nDb g1⟩,kp2 _ _ nDd gn,kp2 _ _ nDe ge,(fun e he=>by cases he),.nil,.nil⟩⟩
  ·rintro i σ G ⟨_,kp,_⟩;exact kp _ _ nDd.symm nDe.symm hD2
  ·rintro i kk x σ G hi ⟨⟨o3,rfl⟩,kp,B⟩ N hNx;clear hN;have hil:i<es.length:=by have:=(b7.mp hi).1;rwa [lD] at this
   have hei:es[i]?=some es[i]:=aO hil;rw[tJ,aT,hei] at hi;generalize es[i]=e at hi hei;cases hi;have hem:=bQ hei;obtain⟨eok,e0,e1⟩:=eo.ok e hem;have hDG:=kp _ _ nDd.symm nDe.symm hD2;obtain⟨dx,h1⟩:=B.bk;have CG:cI Ad G ca al ws r:=by obtain⟨dc,qc,hc1,hc2⟩:=C;have up:∀ c o,H c=some o->c≠D->G c=some o:=fun c o e hc=>kp c o (fun z=>by rw[z,hdn0] at e;cases e) (fun z=>by rw[z,hde0] at e;cases e) (sim c o hc e);exact⟨dc,qc,up _ _ hc1 (jw hc1 hD (by intro z;cases z)),up _ _ hc2 (jw hc2 hD (by intro z;cases z))⟩
   have up:∀ c o,H c=some o->c≠D->G c=some o:=fun c o e hc=>kp c o (fun z=>by rw[z,hdn0] at e;cases e) (fun z=>by rw[z,hde0] at e;cases e) (sim c o hc e);have tG:G e.adr=some (.tup (e.key.map kV)):=up _ _ (eo.en e hem) (jw (eo.en e hem) hD (by intro z;cases z));have TG:G Ad.tb=some (oS vk):=up _ _ Tb (jw Tb hD (by intro z;cases z));have tk:es.take (i+1)=es.take i++[e]:=by rw[iy,hei];rfl
   have nin:∀ {α:Type}{f:Ben->α},(es.map f).Nodup->f e∉(es.take i).map f:=fun {α f} hn hm=>by
    obtain⟨u,hu,eu⟩:=aM.mp hm;obtain⟨j,hj⟩:=lJ hu;rw[lK] at hj;split at hj
    ·have h1:(es.map f)[j]?=(es.map f)[i]?:=by rw[aT,aT,hj,hei];exact bJ some eu
     have:=(List.getElem?_inj (by rw[ag];lia) hn).mp h1;lia
    ·cases hj
   have tl:(es.take i).length<=14:=by rw[bI];lia
   symm;refine⟨dx,_,h1,dJ Zd Zd Zd ca dn de,?_⟩;refine⟨D,.ref e.adr,rfl,?_,b,ca,dn,de,e.adr,es.take i,al,ws,r,e.num,e.key,.int e.num,rfl,B,CG,ok,TG,tG,eok,nin eo.nk,by lia,e0,e1,nin eo.nn,.inl rfl,fun G7 hs7 B7=>hNx _ _ ⟨⟨_,rfl⟩,(fun c o h1 h2 h=>hs7 c o h1 h2 (kp c o h1 h2 h)),by rw[tk];exact B7⟩⟩;have:=mJ.kf (k:=.inl e.num) hDG;rw[qw eo.nn hem] at this;exact this
  ·rintro σ G ⟨⟨o3,rfl⟩,kp,B⟩;show nn _ _ _;cbv;symm;rw[lD,fq (ar _)] at B;exact k b dn de ob G (fun c o hc e=>kp c o (fun z=>by rw[z,hdn0] at e;cases e) (fun z=>by rw[z,hde0] at e;cases e) (sim c o hc e)) (kp _ _ nDd.symm nDe.symm hD2) B
theorem AN (h:i<xs.length) (k:Nat):(oR xs i c)[k]?=if k=i then some c else xs[k]?:=by
 unfold oR;rcases Nat.lt_trichotomy k i with hk | hk | hk
 ·rw[dN,ja (by rw[bI];lia),lK,ah hk,af (by lia)]
 ·subst hk;rw[dN,ik (by rw[bI];lia),bI,iz (by lia),Nat.sub_self,ah rfl];rfl
 ·rw[ik (by rw[aB,bI];show min i _+1<=k;lia),aB,bI,iz (by lia),jb,af (by lia)]
  congr 1
  show i+1+(k-(i+1))=k;lia
theorem xx (h:i<xs.length):(oR xs i c).length=xs.length:=by unfold oR;rw[aB,aB,bI,cf,cN];lia
noncomputable def jJ (L:List (List V)) (pcs:List (Nat×Zb)):List (List V):=pcs.foldl (fun L p=>L.flatMap fun xs=>p.2.map fun c=>oR xs p.1 (.int c)) L
theorem wa (L:List (List V)) (pcs:List (Nat×Zb)) (p:Nat×Zb):jJ L (pcs++[p])=(jJ L pcs).flatMap fun xs=>p.2.map fun c=>oR xs p.1 (.int c):=by unfold jJ;rw[List.foldl_append];rfl
structure Pk (y:List V) (pcs:List (Nat×Zb)) (xs:List V):Prop where
 len:xs.length=y.length
 on:∀ p∈pcs,∃ c∈p.2,xs[p.1]?=some (.int c)
 off:∀ i,i∉pcs.map (·.1)->xs[i]?=y[i]?
theorem AM:∀ {pcs:List (Nat×Zb)}{L:List (List V)}{xs:List V},(pcs.map (·.1)).Nodup->(∀ y∈L,∀ p∈pcs,p.1<y.length)->(xs∈jJ L pcs↔∃ y∈L,Pk y pcs xs)
 | [],L,xs,_,_=>by
  constructor
  ·exact fun h=>⟨xs,h,rfl,(fun p hp=>by cases hp),fun _ _=>rfl⟩
  ·rintro⟨y,hy,P⟩;have:xs=y:=ij fun i=>P.off i (by simp);rw[this];exact hy
 | (i,cs)::rest,L,xs,hn,hl=>by
  rw[bf,eS] at hn;have hL:∀ y∈L,i<y.length:=fun y hy=>hl y hy _ aS;show xs∈jJ (L.flatMap fun xs=>cs.map fun c=>oR xs i (.int c)) rest↔_;rw[AM hn.2 fun y hy p hp=>?_]
  ·constructor
   ·rintro⟨y',hy',P⟩;obtain⟨y,hy,h2⟩:=List.mem_flatMap.mp hy';obtain⟨c,hc,rfl⟩:=aM.mp h2;have hi:=hL y hy;refine⟨y,hy,by rw[P.len,xx hi],fun p hp=>?_,fun k hk=>?_⟩
    ·rcases aP.mp hp with rfl | hp
     ·exact⟨c,hc,by rw[P.off i hn.1,AN hi,ah rfl]⟩
     ·exact P.on p hp
    ·rw[bf,aP,not_or] at hk;rw[P.off k hk.2,AN hi,af hk.1]
   ·rintro⟨y,hy,P⟩;have hi:=hL y hy;obtain⟨c,hc,hx⟩:=P.on _ aS;refine⟨oR y i (.int c),List.mem_flatMap.mpr ⟨y,hy,aM.mpr ⟨c,hc,rfl⟩⟩,by rw[P.len,xx hi],fun p hp=>P.on p (aU _ hp),fun k hk=>?_⟩;rw[AN hi]
    by_cases e:k=i
    ·subst e;rw[ah rfl];exact hx
    ·rw[af e];exact P.off k (by rw[bf,aP,not_or];exact⟨e,hk⟩)
  ·obtain⟨y0,hy0,h2⟩:=List.mem_flatMap.mp hy;obtain⟨c,hc,rfl⟩:=aM.mp h2;rw[xx (hL y0 hy0)];exact hl y0 hy0 p (aU _ hp)
theorem BL {α β:Type}{f:α->List β}{m:Nat}:∀ {l:List α},(∀ x∈l,(f x).length<=m)->(l.flatMap f).length<=l.length*m
 | [],_=>bj _
 | x::r,h=>by rw[nS,aB,aZ,Nat.add_mul,Nat.one_mul];have:=h x aS;have:=BL (f:=f) (m:=m) (l:=r) fun y hy=>h y (aU _ hy);lia
theorem mV {L:List (List V)}:∀ {pcs:List (Nat×Zb)},(∀ p∈pcs,p.2.length<=16)->∀ {M:Nat},L.length<=M->(jJ L pcs).length<=M*16^pcs.length:=by
 intro pcs
 induction pcs generalizing L with
 | nil=>intro _ M hL;show L.length<=_;simpa using hL
 | cons p r ih =>intro h M hL;show (jJ (L.flatMap fun xs=>p.2.map fun c=>oR xs p.1 (.int c)) r).length<=_;have h1:(L.flatMap fun xs=>p.2.map fun c=>oR xs p.1 (.int c)).length<=M*16:=aV (BL (m:=16) fun x _=>by rw[ag];exact h p aS) (Nat.mul_le_mul_right _ hL);have:=ih (fun q hq=>h q (aU _ hq)) h1;rw[aZ,Nat.pow_succ,Nat.mul_comm (16^_) 16,←Nat.mul_assoc];exact this
noncomputable def kn (xs:List V):Zb:=xs.map fun v=>match v with
 | .int n=>n
 | _=>0
theorem rF (ns:Zb):kn (ns.map V.int)=ns:=by unfold kn;rw[aI];exact List.map_id _
theorem Gb {α:Type} [DecidableEq α]:∀ {l m:List α},l.Nodup->(∀ x∈l,x∈m)->l.length<=m.length
 | [],_,_,_=>bj _
 | x::l,m,hn,h=>by rw[eS] at hn;have hx:=h x aS;have:=Gb (l:=l) (m:=m.erase x) hn.2 fun y hy=>(List.mem_erase_of_ne (fun e=>hn.1 (by rw[←e];exact hy))).mpr (h y (aU _ hy));rw[List.length_erase_of_mem hx] at this;have:=List.length_pos_of_mem hx;rw[aZ];lia
noncomputable def RdN (al:Za) (ws:Zb) (r:Int) (es:List Ben) (zs:List (Za)) (ns:Zb):Prop:=ns.length=zs.length/\∀ (i:Nat) z,zs[i]?=some z →
 (ki al ws r es zs.length i z=true->ns[i]?=some (iO al z))/\(ki al ws r es zs.length i z=false->∃ ps∈kg al.length (Mk.plc al z),Mk.good al.length ws r ps=true/\(i+1=zs.length∨Mk.numOf al.length ps.dropLast∈es.map (·.num))/\ns[i]?=some (Mk.numOf al.length ps.dropLast))
noncomputable def RdS (al:Za) (ws:Zb) (r:Int) (es:List Ben) (zs:List (Za)) (t:Za):Prop:=∃ ns,RdN al ws r es zs ns/\lH es (bX al ws) ns=some t
noncomputable def iA (al:Za) (ws:Zb) (r:Int) (z:Za):V:=if Mk.c9 al ws r z=true then .int (iO al z) else .non
theorem uk {es:List Ben}:i∈dbL al ws r es zs↔∃ z,zs[i]?=some z/\ki al ws r es zs.length i z=false:=by
 unfold dbL;rw[cA,cg];constructor
 ·rintro⟨h1,h2⟩;refine⟨zs[i],aO h1,?_⟩;rw[bz,aO h1] at h2
  simpa using h2
 ·rintro⟨z,h1,h2⟩;refine⟨(b7.mp h1).1,?_⟩;rw[bz,h1];show (!ki al ws r es zs.length i z)=true;rw[h2];rfl
theorem GG {es:List Ben} (hp:pcs.map (·.1)=dbL al ws r es zs) (hc:∀ p∈pcs,∃ z,zs[p.1]?=some z/\EC al ws r es (decide (p.1+1=zs.length)) z p.2) {xs:List V} :
  xs∈jJ [zs.map (iA al ws r)] pcs↔∃ ns,xs=ns.map V.int/\RdN al ws r es zs ns:=by
 have hnd:(pcs.map (·.1)).Nodup:=by rw[hp];exact jV _ List.nodup_range
 rw[AM hnd fun y hy p hp'=>by rw[bg.mp hy,ag];obtain⟨z,hz,_⟩:=hc p hp';exact (b7.mp hz).1];have at0:∀ {i:Nat}{z:Za},zs[i]?=some z->(zs.map (iA al ws r))[i]?=some (iA al ws r z):=fun h=>by rw[aT,h];rfl
 have snd0:∀ {i:Nat}{z:Za},ki al ws r es zs.length i z=true->iA al ws r z=.int (iO al z):=fun h=>by unfold ki at h;rw[bP] at h;unfold iA;rw[ah h.1]
 have inP:∀ {i:Nat}{z:Za},zs[i]?=some z->ki al ws r es zs.length i z=false->∃ p∈pcs,p.1=i:=fun h1 h2=>by have:=uk.mpr ⟨_,h1,h2⟩;rw[←hp] at this;obtain⟨p,h,e⟩:=aM.mp this;exact⟨p,h,e⟩
 have outP:∀ {i:Nat}{z:Za},zs[i]?=some z->ki al ws r es zs.length i z=true->i∉pcs.map (·.1):=fun h1 h2 h=>by rw[hp] at h;obtain⟨z',h3,h4⟩:=uk.mp h;rw[h1] at h3;cases h3;rw[h2] at h4;cases h4
 constructor
 ·rintro⟨y,hy,P⟩;rw[bg.mp hy] at P;have pl:=P.len;rw[ag] at pl;have hent:∀ (i:Nat) z,zs[i]?=some z->(ki al ws r es zs.length i z=true->xs[i]?=some (.int (iO al z)))/\(ki al ws r es zs.length i z=false->∃ ps∈kg al.length (Mk.plc al z),Mk.good al.length ws r ps=true/\(i+1=zs.length∨Mk.numOf al.length ps.dropLast∈es.map (·.num))/\xs[i]?=some (.int (Mk.numOf al.length ps.dropLast))):=fun i z hz=>by
   refine⟨fun hs=>by rw[P.off i (outP hz hs),at0 hz,snd0 hs],fun hs=>?_⟩;obtain⟨p,hp1,rfl⟩:=inP hz hs;obtain⟨c,hc1,hc2⟩:=P.on p hp1;obtain⟨z',hz',M⟩:=hc p hp1;rw[hz] at hz';cases hz';obtain⟨ps,h1,h2,h3,rfl⟩:=(M.mem c).mp hc1;exact⟨ps,h1,h2,h3.imp ji id,hc2⟩
  have hall:∀ v∈xs,∃ n,v=V.int n/\True:=fun v hv=>by
   obtain⟨i,hi⟩:=lJ hv;have hil:=(b7.mp hi).1;have hz:zs[i]?=some (zs[i]'(by lia)):=aO _;obtain⟨h1,h2⟩:=hent i _ hz;cases hs:ki al ws r es zs.length i (zs[i]'(by lia)) with
   | true=>have:=h1 hs;rw[hi] at this;cases this;exact⟨_,rfl,trivial⟩
   | false=>obtain⟨ps,_,_,_,this⟩:=h2 hs;rw[hi] at this;cases this;exact⟨_,rfl,trivial⟩
  obtain⟨ns,rfl,_⟩:=BP hall;rw[ag] at pl;refine⟨ns,rfl,pl,fun i z hz=>?_⟩;obtain⟨h1,h2⟩:=hent i z hz;have bk:∀ {n:Int},(ns.map V.int)[i]?=some (.int n)->ns[i]?=some n:=fun h=>by rw[aT] at h;obtain⟨m,hm,e⟩:=dO.mp h;cases e;exact hm
  exact⟨fun hs=>bk (h1 hs),fun hs=>by obtain⟨ps,a1,a2,a3,a4⟩:=h2 hs;exact⟨ps,a1,a2,a3,bk a4⟩⟩
 ·rintro⟨ns,rfl,nl,hR⟩;refine⟨_,bg.mpr rfl,by rw[ag,ag,nl],fun p hp1=>?_,fun i hi=>?_⟩
  ·obtain⟨z,hz,M⟩:=hc p hp1;have hs:ki al ws r es zs.length p.1 z=false:=by
    have:p.1∈dbL al ws r es zs:=by rw[←hp];exact iw hp1
    obtain⟨z',h3,h4⟩:=uk.mp this;rw[hz] at h3;cases h3;exact h4
   obtain⟨ps,a1,a2,a3,a4⟩:=(hR p.1 z hz).2 hs;exact⟨_,(M.mem _).mpr ⟨ps,a1,a2,a3.imp aw id,rfl⟩,by rw[aT,a4];rfl⟩
  ·by_cases hil:i<zs.length
   ·have hz:zs[i]?=some zs[i]:=aO hil;rw[at0 hz];cases hs:ki al ws r es zs.length i zs[i] with
    | true=>rw[aT,(hR i _ hz).1 hs,snd0 hs];rfl
    | false =>obtain⟨p,h1,rfl⟩:=inP hz hs;exact absurd (iw h1) hi
   ·rw[ip (by rw[ag];lia),ip (by rw[ag];lia)]
noncomputable def De (M:Int) (ns:Zb):Prop:=ns.getLastD 0=(ns.dropLast.sum+(ns.dropLast.length:Int))%M
theorem tO {es:List Ben}{t:Za} (h:lH es M ns=some t):De M ns:=by
 unfold lH at h;split at h
 ·assumption
 ·cases h
theorem B0 {A B:Zb}{d e M:Int} (hd:0<=d/\d<M) (he:0<=e/\e<M) (h1:De M (A++[d]++B)) (h2:De M (A++[e]++B)):d=e:=by
 unfold De at h1 h2
 by_cases hB:B=[]
 ·subst hB;simp only[fR,qX] at h1 h2;rw[jY,List.getLast?_concat] at h1 h2;have e1:d=(A.sum+(A.length:Int))%M:=h1;have e2:e=(A.sum+(A.length:Int))%M:=h2;rw[e1,e2]
 ·obtain⟨C,y,rfl⟩:∃ C y,B=C++[y]:=⟨B.dropLast,B.getLast hB,(qY hB).symm⟩;rw[←dN] at h1 h2;simp only[qX,List.sum_append,aB,jh,List.sum_nil,cN] at h1 h2;rw[jY,List.getLast?_concat] at h1 h2;have e1:y=(A.sum+(d+0)+C.sum+((A.length+1+C.length:Nat):Int))%M:=h1;have e2:y=(A.sum+(e+0)+C.sum+((A.length+1+C.length:Nat):Int))%M:=h2;have e3:=e1.symm.trans e2;have e4:(A.sum+(d+0)+C.sum+((A.length+1+C.length:Nat):Int)-(A.sum+(e+0)+C.sum+((A.length+1+C.length:Nat):Int)))%M=0:=vg.mp e3;have e5:A.sum+(d+0)+C.sum+((A.length+1+C.length:Nat):Int)-(A.sum+(e+0)+C.sum+((A.length+1+C.length:Nat):Int))=d-e:=by lia
  rw[e5] at e4;obtain⟨q,hq⟩:=jS e4;have:q=0:=by
   rcases Int.lt_trichotomy q 0 with h | h | h
   ·have:M*q<=M*(-1):=qW (by lia) (by lia);lia
   ·exact h
   ·have:M*1<=M*q:=qW (by lia) (by lia);lia
  subst this;lia
theorem BK {α β γ:Type}{f:α->List β}{g:β->Option γ}{m:Nat}:∀ {l:List α},(∀ x∈l,((f x).filterMap g).length<=m)->((l.flatMap f).filterMap g).length<=l.length*m
 | [],_=>bj _
 | x::r,h=>by rw[nS,List.filterMap_append,aB,aZ,Nat.add_mul,Nat.one_mul];have:=h x aS;have:=BK (f:=f) (g:=g) (m:=m) (l:=r) fun y hy=>h y (aU _ hy);lia
theorem Fw {β γ:Type}{g:β->Option γ}:∀ {l:List β},l.Nodup->(∀ x∈l,∀ y∈l,(g x).isSome=true->(g y).isSome=true->x=y)->(l.filterMap g).length<=1
 | [],_,_=>bj _
 | x::r,hn,h=>by
  rw[eS] at hn;have ih:=Fw (g:=g) hn.2 fun y hy z hz=>h y (aU _ hy) z (aU _ hz);cases hx:g x with
  | none=>rw[List.filterMap_cons_none hx];exact ih
  | some u =>
   rw[List.filterMap_cons_some hx];have:r.filterMap g=[]:=by
    rw[List.filterMap_eq_nil_iff];intro y hy;cases hy':g y with
    | none=>rfl
    | some w =>have:=h x aS y (aU _ hy) (by rw[hx];rfl) (by rw[hy'];rfl);rw[this] at hn;exact absurd hy hn.1
   rw[this];exact ar _
theorem DJ :kn (oR xs j (.int d))=(kn xs).take j++[d]++(kn xs).drop (j+1):=by unfold kn oR;rw[bu,bu,jg,gj];rfl
theorem Lg {es:List Ben}{c:Bool}{z:Za}{cs:Zb} (ok:bN al ws r) (hz:Mk.bL al ws.length z=true) (M:EC al ws r es c z cs):∀ n∈cs,0<=n/\n<bX al ws:=fun n hn=>by
 obtain⟨zl,zm⟩:=Mk.dm.mp hz;have a3:=ok.a3;obtain⟨ps,h1,_,_,rfl⟩:=(M.mem n).mp hn;obtain⟨pl,pm⟩:=mS (Mk.mn zm) ps h1;have hb:=Mk.jy (m:=(al.length:Int)) (by lia) ps.dropLast fun p hp=>pm p (ig _ hp);have e:ps.dropLast.length=ws.length-1:=by rw[jd,pl,Mk.oJ];lia
 rw[e] at hb;exact hb
theorem GH {es:List Ben} (ok:bN al ws r) (hz:∀ z∈zs,Mk.bL al ws.length z=true) (h2:pcs.length<=2) (hc:∀ p∈pcs,∃ z,zs[p.1]?=some z/\EC al ws r es (decide (p.1+1=zs.length)) z p.2) (x0:List V) :
  ((jJ [x0] pcs).filterMap fun xs=>lH es (bX al ws) (kn xs)).length<=16:=by
 have few:∀ p∈pcs,p.2.length<=16:=fun p hp=>by obtain⟨_,_,M⟩:=hc p hp;exact M.few
 match pcs,h2,hc,few with
 | [],_,_,few =>refine aV (List.length_filterMap_le _ _) ?_;exact aV (mV few (M:=1) (ar _)) (by show 1*16^0<=16;decide)
 | [p],_,_,few =>refine aV (List.length_filterMap_le _ _) ?_;exact aV (mV few (M:=1) (ar _)) (by show 1*16^1<=16;decide)
 | [p,q],_,hc,few =>rw[show [p,q]=[p]++[q] from rfl,wa];have l1:=mV (L:=[x0]) (pcs:=[p]) (fun y hy=>few y (by rw[bg.mp hy];exact aS)) (M:=1) (ar _);have l2:(jJ [x0] [p]).length<=16:=aV l1 (by show 1*16^1<=16;decide);refine aV (BK (m:=1) fun xs _=>?_) (by lia);obtain⟨z,hzq,M⟩:=hc q (by simp);have bd:=Lg ok (hz z (bQ hzq)) M;rw[List.filterMap_map];refine Fw M.nd fun d hd e he h3 h4=>?_;obtain⟨t1,h3'⟩:=rg.mp h3;obtain⟨t2,h4'⟩:=rg.mp h4;have c1:=tO h3';have c2:=tO h4';rw[DJ] at c1 c2;exact B0 (bd d hd) (bd e he) c1 c2
 | _::_::_::_,h2,_,_=>exact absurd h2 (by simp)
noncomputable def AI:Option (Za)->V
 | some t=>.str (tx t)
 | none=>.non
theorem Gs (a b:Option (Za)) (h:AI a=AI b):a=b:=by
 cases a with
 | none=>cases b with
  | none=>rfl
  | some _=>cases h
 | some x=>cases b with
  | none=>cases h
  | some y=>rw[gJ (V.str.inj h)]
theorem C7 (a b:Za) (h:wdV a=wdV b):a=b:=gJ (V.str.inj h)
theorem uC:∀ l:List (Option (Za)),(l.filter fun o=>o.isSome).map AI=((l.filterMap id).map tx).map V.str
 | []=>rfl
 | none::l=>by rw[nN (by decide),uC l];rfl
 | some x::l=>by rw[nO rfl,bf,uC l];rfl
inductive gS (Ad:Ads) (vs:List V) (H:Hp) (Q:VK) (E:XK):Prop
 | mk (b ca dn de:Addr) (es:List Ben) (al:Za) (ws:Zb) (r:Int) (x:V) (t:Tg) (q0:vs=[.ref b,x]) (q1:eK Ad H b ca dn de es) (q2:cI Ad H ca al ws r) (q3:bN al ws r) (q4:(∀ e∈es,jm e.key/\0<=e.num/\e.num<bX al ws)) (q5:fj H x=some t) (q6:(∀ p o u,x=.ref p->H p≠some (.frz o u))) (q7:(∀ p xs,x=.ref p->H p=some (.lst xs)->∀ y∈xs,(∃ t,fj H y=some t)/\∀ z,y=.str z->z.length<=100000)) (q8:(gK al ws.length H x=false->∀ H',az H H'->E (.ref Ad.NoWord) none H')) (q9:∀ (p:Addr) (zs:List (Za)),x=.ref p->H p=some (.lst (zs.map wdV))->2<=zs.length->zs.length<=1400->(∀ z∈zs,Mk.bL al ws.length z=true)->zs.length<=1000/\(2<(dbL al ws r es zs).length->∀ dx pp H',az H H'->H' dx=some (.xd [("places",.ref pp)])->H' pp=some (.lst ((dbL al ws r es zs).map mi))->E (.ref Ad.TooGarbled) (some dx) H')/\((dbL al ws r es zs).length<=2->∀ D (ts:List (Za)) H',H D=none->az H H'->H' D=some (.lst (ts.map wdV))->ts.Nodup/\ts.length<=16->PyProof.Rows.sortedS (ts.map tx)=true->(∀ t,t∈ts↔RdS al ws r es zs t)->Q (.ref D) H')):gS Ad vs H Q E
theorem C8:∀ {a b:List (Za)},a.map wdV=b.map wdV->a=b
 | [],[],_=>rfl
 | [],_::_,h=>by cases h
 | _::_,[],h=>by cases h
 | x::a,y::b,h=>by
  rw[bf,bf] at h
  injection h with h1 h2
  rw[C7 x y h1,C8 h2]
theorem xT {n:Int}{q:Addr} (hq:H q=some (.lst (zs.map wdV))) (z2:2<=zs.length) (z14:zs.length<=1400) (hz:∀ z∈zs,Mk.bL al n z=true):gK al n H (.ref q)=true:=by show (match H q with | some (.lst xs)=>decide (2<=xs.length)&&decide (xs.length<=1400)&&xs.all (dE (tx al) n) | _=>false)=true;rw[hq];show (decide (2<=(zs.map wdV).length)&&decide ((zs.map wdV).length<=1400)&&(zs.map wdV).all (dE (tx al) n))=true;rw[ag,aw z2,aw z14,dj,dj,cj];intro v hv;obtain⟨z,hzm,rfl⟩:=aM.mp hv;show Mk.bL (tx al).cps.toList n (tx z).cps.toList=true;rw[bG,bG];exact hz z hzm
theorem xC {Ad:Ads}{Q:VK}{E:XK}{b ca dn de q:Addr}{es:List Ben}{zs:List (Za)} (B:eK Ad H b ca dn de es) (C:cI Ad H ca al ws r) (ok:bN al ws r) (hes:∀ e∈es,jm e.key/\0<=e.num/\e.num<bX al ws)
  (hq:H q=some (.lst (zs.map wdV))) (z2:2<=zs.length) (z1000:zs.length<=1000) (hz:∀ z∈zs,Mk.bL al ws.length z=true)
  (k1:2<(dbL al ws r es zs).length->∀ dx pp H',az H H'->H' dx=some (.xd [("places",.ref pp)])->H' pp=some (.lst ((dbL al ws r es zs).map mi))->E (.ref Ad.TooGarbled) (some dx) H')
  (k2:(dbL al ws r es zs).length<=2->∀ D (ts:List (Za)) H',H D=none->az H H'->H' D=some (.lst (ts.map wdV))->ts.Nodup/\ts.length<=16->PyProof.Rows.sortedS (ts.map tx)=true->(∀ t,t∈ts↔RdS al ws r es zs t)->Q (.ref D) H'):gS Ad [.ref b,.ref q] H Q E:=by
 have w8:=ok.w8;refine⟨b,ca,dn,de,es,al,ws,r,.ref q,.lst,rfl,B,C,ok,hes,by show lG (H q)=_;rw[hq];rfl,(fun p o u e h=>by cases e;rw[hq] at h;cases h),(fun p xs e h y hy=>?_),(fun h=>by rw[xT hq z2 (by lia) hz] at h;cases h),fun p zs' e h _ _ _=>?_⟩
 ·cases e
  rw[hq] at h;cases h;obtain⟨z,hzm,rfl⟩:=aM.mp hy;exact⟨⟨.str,rfl⟩,fun u eu=>by have:u=tx z:=(V.str.inj eu).symm;rw[this,bC];have:=(Mk.dm.mp (hz z hzm)).1;lia⟩
 ·cases e
  rw[hq] at h
  injection h with h
  injection h with h
  obtain rfl:=C8 h;exact⟨z1000,k1,k2⟩
theorem yZ {es:List Ben} (ok:bN al ws r) (hz:∀ z∈zs,Mk.bL al ws.length z=true)  (h:RdN al ws r es zs ns)  (hd:ns[i]?=some d):0<=d/\d<bX al ws:=by
 have a3:=ok.a3;have hi:i<zs.length:=by rw[←h.1];exact (b7.mp hd).1
 have hzi:zs[i]?=some zs[i]:=aO hi;obtain⟨h1,h2⟩:=h.2 i _ hzi;cases hs:ki al ws r es zs.length i zs[i] with
 | true =>have e:=h1 hs;rw[hd] at e;cases e;unfold ki at hs;rw[bP] at hs;exact vW ok hs.1
 | false =>
  obtain⟨ps,a1,_,_,e⟩:=h2 hs;rw[hd] at e;cases e;obtain⟨zl,zm⟩:=Mk.dm.mp (hz _ (bQ hzi));obtain⟨pl,pm⟩:=mS (Mk.mn zm) ps a1;have hb:=Mk.jy (m:=(al.length:Int)) (by lia) ps.dropLast fun p hp=>pm p (ig _ hp);have e:ps.dropLast.length=ws.length-1:=by rw[jd,pl,Mk.oJ];lia
  rw[e] at hb;exact hb
theorem Jr {es:List Ben} (ok:bN al ws r) (hz:∀ z∈zs,Mk.bL al ws.length z=true) (h1:(dbL al ws r es zs).length<=1) {ns ms:Zb} (hn:RdN al ws r es zs ns) (hm:RdN al ws r es zs ms) (cn:De (bX al ws) ns) (cm:De (bX al ws) ms):ns=ms:=by
 have same:∀ i,i∉dbL al ws r es zs->ns[i]?=ms[i]?:=fun i hi=>by
  by_cases hl:i<zs.length
  ·have hzi:zs[i]?=some zs[i]:=aO hl;have hs:ki al ws r es zs.length i zs[i]=true:=by
    cases h:ki al ws r es zs.length i zs[i] with
    | true=>rfl
    | false=>exact absurd (uk.mpr ⟨_,hzi,h⟩) hi
   rw[(hn.2 i _ hzi).1 hs,(hm.2 i _ hzi).1 hs]
  ·rw[ip (by rw[hn.1];lia),ip (by rw[hm.1];lia)]
 match hd:dbL al ws r es zs,h1 with
 | [],_=>exact ij fun i=>same i (by rw[hd];simp)
 | [j],_ =>
  rw[hd] at same;have hj:j<zs.length:=by
   have:j∈dbL al ws r es zs:=by rw[hd];exact bg.mpr rfl
   obtain⟨z,hzj,_⟩:=uk.mp this;exact (b7.mp hzj).1
  have hjn:j<ns.length:=by rw[hn.1];exact hj
  have hjm:j<ms.length:=by rw[hm.1];exact hj
  have off:∀ i,i≠j->ns[i]?=ms[i]?:=fun i hi=>same i (by simpa using hi);have cut:∀ (l:Zb) (hl:j<l.length),l=l.take j++[l[j]]++l.drop (j+1):=fun l hl=>by rw[dN];have e:[l[j]]++l.drop (j+1)=l.drop j:=(List.drop_eq_getElem_cons hl).symm;rw[e,List.take_append_drop]
  have eA:ns.take j=ms.take j:=ij fun i=>by
   rw[lK,lK];split
   ·exact off i (by lia)
   ·rfl
  have eB:ns.drop (j+1)=ms.drop (j+1):=ij fun i=>by rw[jb,jb];exact off _ (by lia)
  rw[cut ns hjn] at cn ⊢;rw[cut ms hjm] at cm ⊢;rw[eA,eB] at cn ⊢;rw[B0 (yZ ok hz hn (aO hjn)) (yZ ok hz hm (aO hjm)) cn cm]
 | _::_::_,h1=>exact absurd h1 (by simp)
theorem FW {ts:List α}{t:α} (hn:ts.Nodup) (h1:t∈ts) (h2:∀ u∈ts,u=t):ts=[t]:=by
 have:=BW hn fun x hx y hy=>by rw[h2 x hx,h2 y hy]
 match ts,h1,this with
 | [u],h1,_=>rw[h2 u aS]
 | _::_::_,_,h=>exact absurd h (by simp)
theorem Hx {es:List Ben}{gs:Zb}{wd:List (Za)} (h:kh ((gs.map V.int).map (kOf es))=.inr wd):lH es M (gs++[(gs.sum+(gs.length:Int))%M])=some (Mk.dM 32 wd):=by unfold lH;rw[jY,List.getLast?_concat,qX,h];show (if (gs.sum+(gs.length:Int))%M=(gs.sum+(gs.length:Int))%M then some (Mk.dM 32 wd) else none)=_;rw[ah rfl]
theorem Jq {es:List Ben} (ok:bN al ws r) (hz:∀ z∈zs,Mk.bL al ws.length z=true) (h1:(dbL al ws r es zs).length<=1) {t:Za} (hn:RdN al ws r es zs ns) (ht:lH es (bX al ws) ns=some t) {ts:List (Za)} (hnd:ts.Nodup) (hmem:∀ t,t∈ts↔RdS al ws r es zs t):ts=[t] :=
 FW hnd ((hmem t).mpr ⟨ns,hn,ht⟩) fun u hu=>by obtain⟨ms,hm,hu'⟩:=(hmem u).mp hu;rw[Jr ok hz h1 hm hn (tO hu') (tO ht),ht] at hu';exact (Option.some.inj hu').symm
theorem eY:aN ["book","words","places","code","last","lists","at","texts"] ["book","words"] (ay pQ):=by subst_eqs
theorem yN (F:Fun K "readings" "readings" pQ f fd) (T:Bl mg) (AF:AdF K mg Ad) (C_text_of:Fnc P w K mg base (CX1 P w) 5 "text_of" ["book","numbers"] (pZ Ad)) (C_with_each:Fnc P w K mg base (CX1 P w) 1 "with_each" ["lists","at","choices"] mD) (C_may_stand:Fnc P w K mg base (CX1 P w) 6 "may_stand" ["book","word","is_check"] (mC Ad)) (C_doubtful:Fnc P w K mg base (CX1 P w) 6 "doubtful" ["book","words"] (iV Ad)) (M_Code_has_good:Mtd P w K mg base (CX1 P w) Ad.Code "has_good" 3 ["self","thing"] (dG Ad)) (M_Code_number:Mtd P w K mg base (CX1 P w) Ad.Code "number" 4 ["self","word"] (fN Ad)) (M_Book_code:Mtd P w K mg base (CX1 P w) Ad.Book "code" 1 ["self"] (dY Ad)) (K_TooGarbled:EB P w K mg base (CX1 P w) Ad.TooGarbled "TooGarbled" 1 ["self","places"] (fh Ad)):bU P w K mg base (CX1 P w) 7 f fd ["book","words"] (gS Ad):=by
 refine F.okX (k:=6) eY ?_ ?_
 ·bv_decide
 ·right;obtain⟨b,ca,dn,de,es,al,ws,r,x,t,rfl,B,C,ok,hes,ht,hfz,hit,kE,kQ⟩:=h;refine⟨_,ai (aF (i:=2) eY.nd (aC C_doubtful a8 (hr.mono Zd) (aj (pvC 0) (aj (pvL 1) (ae))))) (ai (bT (aX p9 (ax (aL (K:=K) rfl) T.len bH (aj (pvL 2) (ae))) (eN AF.v_MOST_DOUBTFUL) (bc _)) (ao (rV K_TooGarbled pC rfl (hr.mono Zd) (aj (pvL 2) (ae)))) (bh)) (ai (fJ (i:=3) eY.nd (cS M_Book_code a8 (hr.mono Zd) (pvC 0))) (ai (aF (i:=4) eY.nd (aA gz (ax (aL (K:=K) rfl) T.len bH (aj (pvL 1) (ae))) (au))) (ai (aF (i:=5) eY.nd (cy (aj (gO ["word"] rfl ⟨rfl,by nofun,rfl,by nofun⟩ (.cons (j:=3) rfl (.inl (by ext)) (.nil)) (by nofun) (cE (K:=K) rfl (pvL 1)) (fun _ _ _ _=>aR (i:=0) (show (["word","code"]:Ze).Nodup from by nofun)) (fun _ _ _ _=>eG) (fun _ _ _ _=>yR (cD (dU M_Code_has_good fF (hr.mono Zd) (pvC 1) (aj (pvL 0) (ae)))) (dU M_Code_number fF (hr.mono Zd) (pvC 1) (aj (pvL 0) (ae))) (gD))) (ae)))) (ai (eZ cB rfl (cE (K:=K) rfl (pvL 2)) (aR (i:=6) eY.nd) (ao (aF (i:=5) eY.nd (aC C_with_each a8 (hr.mono Zd) (aj (pvL 5) (aj (pvL 6) (aj (aC C_may_stand a8 (hr.mono Zd) (aj (pvC 0) (aj (bZ (cT (K:=K) rfl) (pvL 1) (pvL 6) (fun _ _=>rfl)) (aj (cZ (cL (K:=K) rfl hu) (pvL 6) (pvL 4) (bc _)) (ae))))) (ae)))))))) (ai (mW (i:=7) ["numbers"] eY.nd rfl (Or.inl rfl) rfl ⟨rfl,by nofun,rfl,by nofun⟩ (.cons (j:=0) rfl (.inl (by ext)) (.nil)) (by nofun) (cE (K:=K) rfl (pvL 5)) (fun _ _ _ _=>aR (i:=0) (show (["numbers","book"]:Ze).Nodup from by nofun)) (fun _ _ _ _=>eG) (fun _ _ _ _=>aC C_text_of fF (hr.mono Zd) (aj (pvC 1) (aj (pvL 0) (ae))))) (ao (aK (ax (tT (P:=P) (w:=w) rfl rfl rfl) T.sorted lg (aj (ei (tS (K:=K) (P:=P) (w:=w) rfl rfl rfl rfl) T.set zI (aj (gO ["text"] rfl ⟨rfl,by nofun,rfl,by nofun⟩ (.nil) (by nofun) (cE (K:=K) rfl (pvL 7)) (fun _ _ _ _=>aR (i:=0) (show (["text"]:Ze).Nodup from by nofun)) (fun _ _ _ _=>jz (aX rR (pvL 0) (gD) (bc _))) (fun _ _ _ _=>pvL 0)) (ae))) (ae))))))))))),?_⟩;have big:∀ {u:Nat},u<=10000->u<=sizeLine:=fun hu=>aQ (aq (by lia));have w8:=ok.w8;grind;refine⟨b,ca,dn,de,es,al,ws,r,x,t,rfl,B,C,ok,ht,hfz,hit,kE,fun p zs ex hp z2 z14 hz D1 H1 hD1 s1 h1=>?_⟩;subst ex;obtain⟨z1000,kG,kR⟩:=kQ p zs rfl hp z2 z14 hz;clear kQ kE hit hfz;cbv;have dnd:(dbL al ws r es zs).Nodup:=jV _ List.nodup_range;have dlt:∀ i∈dbL al ws r es zs,i<zs.length:=fun i hi=>cg.mp (cA.mp hi).1;grind;refine⟨_,.l h1,?_⟩;rw[ag]
  by_cases h3:2<(dbL al ws r es zs).length
  ·rw[aw (show (2:Int)<((dbL al ws r es zs).length:Int) by lia)];symm;exact⟨big Zd,AS h1 fun dx pp H' sH hd hpp=>kG h3 dx pp H' (s1.trans sH) hd hpp⟩
  have d2:(dbL al ws r es zs).length<=2:=by lia
  rw[av (show ¬ (2:Int)<((dbL al ws r es zs).length:Int) by lia)];bv_omega;show nn _ _ _;rw[hN];clear hN nn kG h3;have kR':=kR d2;clear kR;have B1:=B.same s1;have C1:=C.same s1;have hp1:=s1 _ _ hp;obtain⟨dx,hb1⟩:=B1.bk;grind;refine⟨dx,_,hb1,dJ Zd Zd Zd ca dn de,b,ca,dn,de,es,rfl,B1,?_⟩;cbv;grind;refine⟨_,.l hp1,?_⟩;rw[ag,hN];clear hN nn;grind;refine .inl ⟨⟨_,.of hp1⟩,vm wdV C7 (eP (.of hp1)) (aq (by lia)) (iA al ws r) ?_ ?_⟩
  ·intro z hzm G2 t2 R hR;have C2:=C1.same t2;obtain⟨dc,qc,hc1,hc2⟩:=id C2;have zl:=(Mk.dm.mp (hz z hzm)).1;have eg:iH (tx al) ws r (.str (tx z))=Mk.c9 al ws r z:=by
    show Mk.c9 (tx al).cps.toList ws r (tx z).cps.toList=_;rw[bG,bG]
   unfold wdV;symm;refine⟨dc,_,hc1,cq Zd Zd Zd al qc r,ca,al,ws,r,.str (tx z),.str,rfl,C2,ok,rfl,(fun y ey=>by rw[←V.str.inj ey,bC];lia),fun G3 t3=>?_⟩;rw[eg];unfold iA at hR;cases hg:Mk.c9 al ws r z with
   | false =>rw[hg] at hR;symm;exact hR G3 t3
   | true =>rw[hg] at hR;have C3:=C2.same t3;obtain⟨dc3,qc3,hc31,hc32⟩:=id C3;symm;refine⟨dc3,_,hc31,cq Zd Zd Zd al qc3 r,ca,al,ws,r,.str (tx z),.str,rfl,C3,ok,rfl,(fun y ey=>by rw[←V.str.inj ey,bC];lia),(fun h=>by rw[eg,hg] at h;cases h),fun u eu hu G4 t4=>?_⟩;have eu':u=tx z:=(V.str.inj eu).symm;subst eu';rw[bG];exact hR G4 (t3.trans t4)
  intro D2 G2 hD2 t2 g2;symm;refine⟨big Zd,fun pl0 G3 hpl0 t3 g3=>?_⟩;have s3:=s1.trans (t2.trans t3);have h13:=(t2.trans t3) _ _ h1;have hp3:=s3 _ _ hp;have B3:=B.same s3;have C3:=C.same s3;cbv;grind;refine .inl ⟨⟨_,.of h13⟩,lj (xs:=(dbL al ws r es zs).map mi) (fun i σ G=>∃ (pl:Addr) (vs:List V) (pcs:List (Nat×Zb)) (o6 o7:Option V),σ=[some (V.ref b),some (V.ref p),some (V.ref D1),some (V.ref ca),some (V.int ((zs.length:Int)-1)),some (V.ref pl),o6,o7]/\az G3 G/\G pl=some (.lst vs)/\kX G vs (jJ [zs.map (iA al ws r)] pcs)/\pcs.map (·.1)=(dbL al ws r es zs).take i/\(∀ q∈pcs,∃ z,zs[q.1]?=some z/\EC al ws r es (decide (q.1+1=zs.length)) z q.2)) ?_ ?_ ?_ ?_⟩
  ·exact⟨pl0,_,[],_,_,rfl,az.refl _,g3,.cons ⟨D2,rfl,t3 _ _ g2⟩ .nil,rfl,fun q hq=>by cases hq⟩
  ·rintro i σ G _ ⟨_,_,_,_,_,_,t,_⟩;exact .of (t _ _ h13)
  ·rintro i v σ G hi ⟨pl,vs,pcs,o6,o7,rfl,t4,hpl,hvs,hpc,hpm⟩ N hNx;clear hN;rw[aT] at hi;obtain⟨a,ha,rfl⟩:=dO.mp hi;have hil:=(b7.mp ha).1;have alt:=dlt a (bQ ha);have hza:zs[a]?=some zs[a]:=aO alt;have hwa:=hz _ (bQ hza);have pcl:pcs.length<=1:=by
    have:=bJ List.length hpc;rw[ag,bI] at this;lia
   have few:∀ q∈pcs,q.2.length<=16:=fun q hq=>by obtain⟨_,_,M⟩:=hpm q hq;exact M.few
   have l16:(jJ [zs.map (iA al ws r)] pcs).length<=1000:=by refine aV (mV few (M:=1) (ar _)) (aV (Nat.mul_le_mul_left 1 (jZ Zd pcl)) Zd)
   have pnd:(pcs.map (·.1)).Nodup:=by rw[hpc];exact dnd.sublist (List.take_sublist _ _)
   have plen:∀ xs∈jJ [zs.map (iA al ws r)] pcs,xs.length=zs.length:=fun xs hxs=>by obtain⟨y,hy,P⟩:=(AM pnd fun y hy q hq=>by rw[bg.mp hy,ag];obtain⟨z,hz',_⟩:=hpm q hq;exact (b7.mp hz').1).mp hxs;rw[P.len,bg.mp hy,ag]
   unfold mi;symm;refine⟨_,_,.l (t4 _ _ hp3),cu (j:=a) (by rw[aT,hza];rfl),?_⟩;unfold wdV;symm;refine⟨b,ca,dn,de,es,al,ws,r,zs[a],_,rfl,B3.same t4,C3.same t4,ok,hwa,fun D5 cs G5 hD5 t5 g5 M=>?_⟩;have e:decide ((a:Int)=(zs.length:Int)-1)=decide (a+1=zs.length):=by
    by_cases h:a+1=zs.length
    ·rw[aw h,aw (by lia)]
    ·rw[av h,av (by lia)]
   rw[e] at M;refine⟨pl,D5,vs,_,a,cs,rfl,t5 _ _ hpl,hvs.keep fun b xs h=>t5 _ _ h,g5,by have:=M.few;lia,l16,(fun xs hxs=>by rw[plen xs hxs];exact z14),by lia,fun D6 vs6 G6 hD6 t6 g6 hv6=>?_⟩;refine hNx _ _ ⟨D6,vs6,pcs++[(a,cs)],_,_,rfl,t4.trans (t5.trans t6),g6,by rw[wa];exact hv6,?_,fun q hq=>?_⟩
   ·rw[bu,hpc,iy,ha];rfl
   ·rcases bE.mp hq with hq | hq
    ·exact hpm q hq
    ·rw[bg.mp hq];exact⟨_,hza,M⟩
  rintro σ G ⟨pl,vs,pcs,o6,o7,rfl,t4,hpl,hvs,hpc,hpm⟩;show nn _ _ _;cbv;rw[ag,fq (ar _)] at hpc;have few:∀ q∈pcs,q.2.length<=16:=fun q hq=>by obtain⟨_,_,M⟩:=hpm q hq;exact M.few
  have pcl:pcs.length<=2:=by have:=bJ List.length hpc;rw[ag] at this;lia
  have l256:(jJ [zs.map (iA al ws r)] pcs).length<=256:=aV (mV few (M:=1) (ar _)) (aV (Nat.mul_le_mul_left 1 (jZ Zd pcl)) Zd);have pin:=fun xs=>GG (r:=r) hpc hpm (xs:=xs);have ptx:=GH ok hz pcl hpm (zs.map (iA al ws r));generalize jJ [zs.map (iA al ws r)] pcs=LL at hvs l256 pin ptx;have lvs:vs.length=LL.length:=mm hvs;have B4:=B3.same t4;have C4:=C3.same t4;grind;refine .inl ⟨⟨_,.of hpl⟩,JK (eP (.of hpl)) (aq (by lia)) ((LL.map fun xs=>lH es (bX al ws) (kn xs)).map AI) (by rw[ag,ag,lvs]) ?_ ?_⟩
  ·intro i v u hv hu G5 t5 R hR;obtain⟨xs,hxs,q,rfl,hq⟩:=oH hvs hv;rw[aT,aT,hxs] at hu;obtain⟨ns,rfl,hns⟩:=(pin xs).mp (bQ hxs);have hu':AI (lH es (bX al ws) (kn (ns.map V.int)))=u:=Option.some.inj hu;rw[rF] at hu';subst hu';have nl:=hns.1;symm;refine⟨b,ca,dn,de,q,es,al,ws,r,ns,rfl,B4.same t5,C4.same t5,ok,hes,t5 _ _ hq,by lia,by lia,fun tt htt G6 t6=>?_,fun htt G6 t6=>?_⟩
   ·rw[htt] at hR;exact hR G6 t6
   ·rw[htt] at hR;exact hR G6 t6
  intro D5 G5 hD5 t5 g5;cbv;symm;refine .inl ⟨⟨_,.of g5⟩,Au AI Gs (eP (.of g5)) (by rw[ag];exact aq (by lia)) (fun o=>o.isSome) AI ?_ ?_ ?_⟩
  ·intro o ho G6 t6 R hR;cases o with
   | none =>symm;exact hR G6 (az.refl _)
   | some tt =>symm;exact hR G6 (az.refl _)
  ·intro o ho _ G6 t6 R hR;symm;exact hR G6 (az.refl _)
  intro D6 G6 hD6 t6 g6;rw[uC,List.filterMap_map] at g6;have ptx':(LL.filterMap (id ∘ fun xs=>lH es (bX al ws) (kn xs))).length<=16:=ptx;have pmem:∀ tt,tt∈LL.filterMap (id ∘ fun xs=>lH es (bX al ws) (kn xs))↔RdS al ws r es zs tt:=fun tt=>by
   rw[nW];constructor
   ·rintro⟨xs,hxs,e⟩;obtain⟨ns,rfl,hns⟩:=(pin xs).mp hxs;have e':lH es (bX al ws) (kn (ns.map V.int))=some tt:=e;rw[rF] at e';exact⟨ns,hns,e'⟩
   ·rintro⟨ns,hns,e⟩;refine⟨ns.map V.int,(pin _).mpr ⟨ns,rfl,hns⟩,?_⟩;show lH es (bX al ws) (kn (ns.map V.int))=some tt;rw[rF];exact e
  generalize LL.filterMap (id ∘ fun xs=>lH es (bX al ws) (kn xs))=TT at g6 ptx' pmem;symm;refine⟨TT.map tx,.of g6,by rw[ag];lia,fun pS G7 hpS t7 g7=>?_⟩;symm;refine⟨TT.map tx,g7,by have:=lC (mM (TT.map tx)) (TT.map tx).length;rw[ag] at this ⊢;lia,fun us hnd hmem hsrt pO G8 hpO t8 g8=>?_⟩;have eus:us=(us.map fun z=>z.cps.toList).map tx:=by rw[aI];exact (List.map_id' us).symm.trans (iu fun z _=>(nG z).symm)
  refine kR' pO (us.map fun z=>z.cps.toList) G8 ((s3.trans (t4.trans (t5.trans (t6.trans t7)))).free hpO) (s3.trans (t4.trans (t5.trans (t6.trans (t7.trans t8))))) ?_ ?_ ?_ fun tt=>?_
  ·rw[g8]
   congr 2
   rw[aI];exact iu fun z _=>by show V.str z=V.str (tx z.cps.toList);rw[nG]
  ·refine⟨fk.mpr (nJ (fun {x y} hxy e=>hxy ?_) hnd),?_⟩
   ·rw[ag];have:=Gb hnd fun z hz=>(hmem z).mp hz;rw[ag] at this;lia
   ·rw[←nG x,←nG y,e]
  ·rw[←eus];exact hsrt
  ·rw[←pmem,aM];constructor
   ·rintro⟨z,hz',rfl⟩;obtain⟨y,hy,e⟩:=aM.mp ((hmem z).mp hz');rw[←e,bG];exact hy
   ·exact fun h=>⟨tx tt,(hmem _).mpr (iw h),bG tt⟩
inductive jR (Ad:Ads) (vs:List V) (H:Hp) (Q:VK) (E:XK):Prop
 | mk (b ca dn de q pl:Addr) (es:List Ben) (al:Za) (ws:Zb) (r:Int) (zs:List (Za)) (q0:vs=[.ref b,.ref q,.ref pl]) (q1:eK Ad H b ca dn de es) (q2:cI Ad H ca al ws r) (q3:bN al ws r) (q4:(∀ e∈es,jm e.key/\0<=e.num/\e.num<bX al ws)) (q5:H q=some (.lst (zs.map wdV))) (q6:2<=zs.length) (q7:zs.length<=1000) (q8:(∀ z∈zs,Mk.bL al ws.length z=true)) (q9:2<(dbL al ws r es zs).length) (q10:H pl=some (.lst ((dbL al ws r es zs).map mi))) (q11:∀ H',az H H'->Q (.bl true) H'):jR Ad vs H Q E
theorem h9:aN ["_law_book_here","_law_words","_law_places","_law_right","e"] ["_law_book_here","_law_words","_law_places"] (ay kP):=by subst_eqs
theorem uA (F:Fun K "_law_refused" "_law_refused" kP f fd) (T:Bl mg) (AF:AdF K mg Ad) (C_readings:Fnc P w K mg base (CX1 P w) 7 "readings" ["book","words"] (gS Ad)):bU P w K mg base (CX1 P w) 8 f fd ["_law_book_here","_law_words","_law_places"] (jR Ad):=by
 refine F.okX (k:=7) h9 ?_ ?_
 ·bv_decide
 ·right;obtain⟨b,ca,dn,de,q,pl,es,al,ws,r,zs,rfl,B,C,ok,hes,hq,z2,z1000,hz,h3,hpl,k⟩:=h;refine⟨_,ai (aF (i:=3) h9.nd (kx)) (ai (LG (i:=4) rfl rfl rfl h9.nd AF.g_TooGarbled (fun pn xe E1 po px=>ao (dW (aC C_readings px (hr.mono Zd) (aj (pvL 0) (aj (pvL 1) (ae)))))) (fun _=>ao (aF (i:=3) h9.nd (cZ (cL (K:=K) rfl hu) (Jc (K:=K) rfl (pvL 4)) (pvL 2) (bc _))))) (ao (aK (pvL 3)))),?_⟩;grind;cbv;grind;refine xC B C ok hes hq z2 z1000 hz (fun _ dx pp H1 s1 hdx hpp=>?_) fun h=>by lia
  have eC:=KA AF.err (c:=Ad.TooGarbled) (bQ (i:=7) rfl);refine⟨AF.x_TooGarbled,fun ea H2 hea s2 h2=>⟨_,dx,_,_,h2,s2 _ _ hdx,eC.ex,AF.s_TooGarbled,AF.f_TooGarbled,yw,?_⟩⟩;symm;refine⟨_,_,.of (s2 _ _ hpp),.of ((s1.trans s2) _ _ hpl),jG _,jG _,?_⟩;rw[oz _ (jG _)];show nn _ _ _;cbv;symm;exact k H2 (s1.trans s2)
theorem Am {z c:Za} (ok:bN al ws r) (g:GoodW al ws r z) (f:lY al z c):∃ ps q,z=Mk.bO al ps/\ps.length=ws.length/\(∀ x∈ps,0<=x/\x<(al.length:Int))/\Mk.good al.length ws r ps=true/\c=Mk.bO al q/\q∈kg al.length ps:=by
 obtain⟨ps,rfl,hl,hm,hg⟩:=g;have sl:=Mk.gT al ps;have gc:∀ j (hj:j<ps.length),(Mk.bO al ps).getD j 0=al.getD ps[j].toNat 0:=fun j hj=>by rw[bz];unfold Mk.bO;rw[aT,aO hj];rfl
 have gp:∀ j (hj:j<ps.length),ps.getD j 0=ps[j]:=fun j hj=>by rw[bz,aO hj];rfl
 rcases f with ⟨i,d,hi,hd,hne,rfl⟩ | ⟨i,hi,hne,rfl⟩
 ·rw[sl] at hi;have hj:=nU hd;have ed:al.getD ((al.idxOf d:Nat):Int).toNat 0=d:=by
   rw[dw,bz,aO hj];exact List.getElem_idxOf hj
  refine⟨ps,ps.set i ((al.idxOf d:Nat):Int),rfl,hl,hm,hg,?_,bE.mpr (.inl (lx.mpr ⟨i,_,hi,Int.natCast_nonneg _,by lia,fun e=>hne ?_,rfl⟩))⟩
  ·have:=Mk.Ew (al:=al) (x:=((al.idxOf d:Nat):Int)) hi;rw[ed] at this;exact this
  ·rw[gc i hi,←gp i hi,←e,ed]
 ·rw[sl] at hi;have hi0:i<ps.length:=by lia
  refine⟨ps,_,rfl,hl,hm,hg,?_,bE.mpr (.inr (ly.mpr ⟨i,hi,fun e=>hne ?_,rfl⟩))⟩
  ·rw[gc i hi0,gc (i+1) hi,gp i hi0,gp (i+1) hi];exact Mk.Bg hi
  ·rw[gc i hi0,gc (i+1) hi,←gp i hi0,←gp (i+1) hi,e]
noncomputable def vh (al:Za) (zs cs:List (Za)):Prop:=cs.length=zs.length/\∀ (i:Nat) z c,zs[i]?=some z->cs[i]?=some c->c=z∨lY al z c
structure Tel (al:Za) (ws:Zb) (r:Int) (es:List Ben) (gs:Zb):Prop where
 ok:bN al ws r
 mem:∀ g∈gs,g∈es.map (·.num)
 bd:∀ e∈es,0<=e.num/\e.num<bX al ws
noncomputable def vZ (al:Za) (ws:Zb) (gs:Zb):Zb:=gs++[(gs.sum+(gs.length:Int))%bX al ws]
theorem xR (al:Za) (ws:Zb) (r:Int) (gs:Zb):bW al ws r gs=(vZ al ws gs).map (z5 al ws r):=by unfold bW vZ;rw[bu];rfl
section
variable {al:Za}{ws:Zb}{r:Int}{es:List Ben}{gs:Zb}{cs:List (Za)}
theorem Cv:(bW al ws r gs).length=gs.length+1:=by rw[xR,ag];unfold vZ;rw[aB];rfl
theorem Tel.at (T:Tel al ws r es gs) {i:Nat}{z:Za} (h:(bW al ws r gs)[i]?=some z):GoodW al ws r z/\(vZ al ws gs)[i]?=some (iO al z)/\(i+1=(bW al ws r gs).length∨iO al z∈es.map (·.num)):=by
 have hil:=(b7.mp h).1;rw[Cv] at hil ⊢;rw[xR,aT] at h;obtain⟨n,hn,rfl⟩:=dO.mp h;have a3:=T.ok.a3;have hmany:0<bX al ws:=Int.pow_pos (by lia);have hg:∀ g∈gs,0<=g/\g<bX al ws:=fun g hg=>by obtain⟨e,he,rfl⟩:=aM.mp (T.mem g hg);exact T.bd e he
 have nb:0<=n/\n<bX al ws:=by
  rcases bE.mp (show n∈gs++[_] from bQ hn) with h | h
  ·exact hg n h
  ·rw[bg.mp h];exact⟨cK _ (by lia),cQ _ hmany⟩
 rw[Mw T.ok nb.1 nb.2];refine⟨Mr T.ok,hn,?_⟩
 by_cases hl:i<gs.length
 ·unfold vZ at hn;rw[ja hl] at hn;exact .inr (T.mem n (bQ hn))
 ·exact .inl (by lia)
theorem Tel.z (C:vh al (bW al ws r gs) cs) {i:Nat}{c:Za} (h:cs[i]?=some c):∃ z,(bW al ws r gs)[i]?=some z:=by have:=(b7.mp h).1;rw[C.1] at this;exact⟨_,aO this⟩
theorem Tel.word (T:Tel al ws r es gs) (C:vh al (bW al ws r gs) cs):∀ c∈cs,Mk.bL al ws.length c=true:=fun c hc=>by
 obtain⟨i,hi⟩:=lJ hc;obtain⟨z,hz⟩:=Tel.z C hi;have g:=(T.at hz).1;rcases C.2 i z c hz hi with rfl | f
 ·obtain⟨ps,rfl,pl,pm,_⟩:=g;exact mE pl pm
 ·obtain⟨ps,q,rfl,pl,pm,pg,rfl,hq⟩:=Am T.ok g f;obtain⟨ql,qm⟩:=mS pm q hq;exact mE (ql.trans pl) qm
theorem BM (ok:bN al ws r) {z c:Za} (g:GoodW al ws r z) (f:lY al z c):Mk.c9 al ws r c=false:=by obtain⟨ps,q,rfl,pl,pm,pg,rfl,hq⟩:=Am ok g f;obtain⟨ql,qm⟩:=mS pm q hq;rw[Mk.md ok.nd (ql.trans pl) qm];exact IB ok pl pm pg q hq
theorem Tel.snd (T:Tel al ws r es gs) (C:vh al (bW al ws r gs) cs) {z c:Za} (hz:(bW al ws r gs)[i]?=some z) (hc:cs[i]?=some c):ki al ws r es cs.length i c=decide (c=z):=by
 obtain⟨g,_,h⟩:=T.at hz;unfold ki;rcases C.2 i z c hz hc with rfl | f
 ·rw[g.good T.ok,aw rfl,dj,Bool.or_eq_true,bR,bR,C.1];exact h
 ·have hb:=BM T.ok g f;rw[hb,gB,av];rintro rfl;rw[g.good T.ok] at hb;cases hb
theorem Tel.rd (T:Tel al ws r es gs) (C:vh al (bW al ws r gs) cs):RdN al ws r es cs (vZ al ws gs):=by
 refine⟨by rw[C.1,xR,ag],fun i c hc=>?_⟩;obtain⟨z,hz⟩:=Tel.z C hc;obtain⟨g,hn,hm⟩:=T.at hz;rw[T.snd C hz hc];refine⟨fun h=>by rw[ji h];exact hn,fun h=>?_⟩;rcases C.2 i z c hz hc with e | f
 ·exact absurd e (of_decide_eq_false h)
 ·obtain⟨ps,q,rfl,pl,pm,pg,rfl,hq⟩:=Am T.ok g f;obtain⟨ql,qm⟩:=mS pm q hq;have enm:iO al (Mk.bO al ps)=Mk.numOf al.length ps.dropLast:=by
   unfold iO;have e3:(Mk.bO al ps).dropLast=Mk.bO al ps.dropLast:=by unfold Mk.bO;rw[List.map_dropLast]
   rw[e3,Mk.j9 T.ok.nd fun p hp=>pm p (ig _ hp)]
  rw[enm] at hn hm;refine⟨ps,?_,pg,by rw[C.1];exact hm,hn⟩;rw[Mk.j9 T.ok.nd qm];exact ID pm hq
theorem Tel.db (T:Tel al ws r es gs) (C:vh al (bW al ws r gs) cs):dbL al ws r es cs=(List.range (bW al ws r gs).length).filter fun i=>!decide (cs.getD i []=(bW al ws r gs).getD i []):=by
 unfold dbL;rw[C.1];refine List.filter_congr fun i hi=>?_;have hi':=cg.mp hi;have hc:cs[i]?=some (cs.getD i []):=by rw[bz,aO (by rw[C.1];exact hi')];rfl
 have hz:(bW al ws r gs)[i]?=some ((bW al ws r gs).getD i []):=by rw[bz,aO hi'];rfl
 have:=T.snd C hz hc;rw[C.1] at this;rw[this]
theorem KG (ok:bN al ws r) {z c:Za} (g:GoodW al ws r z) (f:lY al z c):c≠z:=fun e=>by have hb:=BM ok g f;rw[e,g.good ok] at hb;cases hb
end
theorem Cn {es:List Ben} (hes:∀ e∈es,jm e.key):∀ {xs:List V}{s s':SSt}{i:Nat},iB (xs.map (kOf es)) s i=.inr s'->qh s->qh s'
 | [],s,s',i,h,ok=>by have e:(Sum.inr s:Nat ⊕ SSt)=.inr s':=h;cases e;exact ok
 | x::xs,s,s',i,h,ok=>by
  rw[bf] at h;cases hk:kOf es x with
  | none=>rw[hk] at h;cases h
  | some k =>
   rw[hk] at h;have hke:jm k:=by
    unfold kOf at hk;split at hk
    ·obtain⟨e,he,rfl⟩:=dO.mp hk;exact hes e (List.mem_of_find?_eq_some he)
    ·cases hk
   have h':(match stepK k s with | none=>Sum.inl i | some t=>iB (xs.map (kOf es)) t (i+1))=.inr s':=h;cases hs:stepK k s with
   | none=>rw[hs] at h';cases h'
   | some t =>rw[hs] at h';exact Cn hes h' (ok.step hke hs)
theorem He {es:List Ben} (hes:∀ e∈es,jm e.key) {wd:List (Za)} (h:kh (xs.map (kOf es))=.inr wd):fE 60 (Mk.dM 32 wd)=true/\(Mk.dM 32 wd).length<=10000:=by
 unfold kh at h;cases hr:iB (xs.map (kOf es)) ([],[]) 0 with
 | inl n=>rw[hr] at h;cases h
 | inr s =>
  rw[hr] at h;have ok:=Cn hes hr LK;have h':(if s.2=[]/\s.1≠[] then Sum.inr s.1 else Sum.inl (xs.map (kOf es)).length)=(Sum.inr wd:Nat ⊕ List (Za)):=h;split at h'
  ·rename_i hc
   cases h'
   have l1:1<=s.1.length:=List.length_pos_iff.mpr hc.2;refine⟨CJ l1 ok.few ok.wds,?_⟩;have:=Mk.rG (c:=32) s.1;have:(s.1.map fun w=>w.length+1).sum<=s.1.length*21:=by
    have:∀ l:List (Za),(∀ w∈l,w.length<=20)->(l.map fun w=>w.length+1).sum<=l.length*21:=fun l=>by
     induction l with
     | nil=>intro _;simp
     | cons x r ih =>intro hl;have:=ih fun w hw=>hl w (aU _ hw);have:=hl x aS;rw[bf,jh,aZ];lia
    exact this s.1 fun w hw=>(ok.wds w hw).2.1
   have:=ok.few;lia
  ·cases h'
theorem FK (z:Str):∀ zs:Ze,inV (.str z) (zs.map V.str)=decide (z∈zs)
 | []=>rfl
 | y::ys=>by
  show ((y==z)||inV (.str z) (ys.map V.str))=_;rw[FK z ys]
  by_cases e:y=z
  ·subst e;simp
  ·have:¬ z=y:=fun h=>e h.symm;simp [e,this]
theorem Hl {x y:Str} (h1:PySem.Spec.ltCps x.cps.toList y.cps.toList=false) (h2:PySem.Spec.ltCps y.cps.toList x.cps.toList=false):x=y:=by
 rw[PyProof.Rows.ltCps_eq,decide_eq_false_iff_not] at h1 h2;have e:=List.le_antisymm (List.not_lt.mp h2) (List.not_lt.mp h1);cases x with
 | mk a =>
  cases y with
  | mk b =>have e':a.toList=b.toList:=e;rw[Array.toList_inj.mp e']
theorem Ex {x y z:Str} (h1:PySem.Spec.ltCps y.cps.toList x.cps.toList=false) (h2:PySem.Spec.ltCps z.cps.toList y.cps.toList=false):PySem.Spec.ltCps z.cps.toList x.cps.toList=false:=by rw[PyProof.Rows.ltCps_eq,decide_eq_false_iff_not] at h1 h2 ⊢;exact List.not_lt.mpr (List.le_trans (List.not_lt.mp h1) (List.not_lt.mp h2))
theorem wc:∀ {l:Ze}{p:Str},PyProof.Rows.risingS p l=true->(p::l).Pairwise fun a b=>PySem.Spec.ltCps b.cps.toList a.cps.toList=false
 | [],_,_=>List.pairwise_singleton _ _
 | x::r,p,h=>by
  have h':(!PySem.Spec.ltCps x.cps.toList p.cps.toList&&PyProof.Rows.risingS x r)=true:=h;rw[bP,Bool.not_eq_true'] at h';have ih:=wc h'.2;refine List.pairwise_cons.mpr ⟨fun y hy=>?_,ih⟩;rcases aP.mp hy with rfl | hy
  ·exact h'.1
  ·exact Ex h'.1 ((List.pairwise_cons.mp ih).1 y hy)
theorem wg {l:Ze} (h:PyProof.Rows.sortedS l=true):l.Pairwise fun a b=>PySem.Spec.ltCps b.cps.toList a.cps.toList=false:=by
 cases l with
 | nil=>exact .nil
 | cons x r=>exact wc h
theorem zt {a b:Ze} (s1:PyProof.Rows.sortedS a=true) (s2:PyProof.Rows.sortedS b=true) (n1:a.Nodup) (n2:b.Nodup) (h:∀ z,z∈a↔z∈b):a=b :=
 List.Perm.eq_of_pairwise (fun x y _ _ h1 h2=>Hl h2 h1) (wg s1) (wg s2) ((List.perm_ext_iff_of_nodup n1 n2).mpr h)
theorem IP {l m:Za} (h1:l.Pairwise (·<·)) (h2:m.Pairwise (·<·)) (h:∀ x,x∈l↔x∈m):l=m :=
 List.Perm.eq_of_pairwise (le:=(·<·)) (fun a b _ _ x y=>by lia) h1 h2 ((List.perm_ext_iff_of_nodup (h1.imp fun h=>aW h) (h2.imp fun h=>aW h)).mpr h)
theorem Cr {ps:Za} (hp:ws.Perm (ps.map fun i:Nat=>(i:Int))) (hs:ws.Pairwise (·<=·)) (nd:ps.Nodup):∃ qs:Za,ws=qs.map (fun i:Nat=>(i:Int))/\qs.Perm ps/\qs.Pairwise (·<·):=by
 have hall:∀ x∈ws,0<=x:=fun x hx=>by obtain⟨i,_,rfl⟩:=aM.mp (hp.mem_iff.mp hx);lia
 have e:ws=(ws.map Int.toNat).map (fun i:Nat=>(i:Int)):=by rw[aI];exact (List.map_id' ws).symm.trans (iu fun x hx=>by show x=((x.toNat:Nat):Int);have:=hall x hx;lia)
 have hq:(ws.map Int.toNat).Perm ps:=by
  have:=hp.map Int.toNat
  rwa [aI,show (Int.toNat ∘ fun i:Nat=>(i:Int))=id from funext fun i=>dw i,List.map_id] at this
 refine⟨_,e,hq,?_⟩;have nd':=hq.nodup_iff.mpr nd;refine fk.mpr ?_;have nd2:=fk.mp nd';exact jW (fun {x y} hx hy h=>by have:=hall x hx;have:=hall y hy;lia) (hs.and nd2)
noncomputable def Bf (K:Zf) (tb:Addr):Sp:=fun vs H Q _=>∃ (a:Addr) (ns:Zb),vs=[.ref a]/\SqL K H a (ns.map V.int)/\ns.length<=63/\H tb=some (oS vk)/\∀ H',Q (.bl true) H'
theorem gG:aN ["_law_script","_law_parts","_law_entries_here","_law_book_here","_law_groups_here","_law_text","_law_words","_law_k","_law_number","_law_one","_law_places","_law_came","_law_found","_law_third"] ["_law_script"] (ay qF):=by subst_eqs
theorem Lj (F:Fun K "law" "law" qF f fd) (T:Bl mg) (AF:AdF K mg Ad) (C_readings:Fnc P w K mg base (CX1 P w) 7 "readings" ["book","words"] (gS Ad)) (C_law_refused:Fnc P w K mg base (CX1 P w) 8 "_law_refused" ["_law_book_here","_law_words","_law_places"] (jR Ad)) (C_law_garbled:Fnc P w K mg base (CX1 P w) 2 "_law_garbled" ["_law_parts","_law_words","_law_places","_law_number"] (hX K)) (C_is_text:Fnc P w K mg base (CX1 P w) 3 "is_text" ["thing"] uV) (C_doubtful:Fnc P w K mg base (CX1 P w) 6 "doubtful" ["book","words"] (iV Ad)) (C_law_mixed:Fnc P w K mg base (CX1 P w) 1 "_law_mixed" ["_law_cell"] hZ) (C_law_cell_at:Fnc P w K mg base (CX1 P w) 1 "_law_cell_at" ["_law_script","_law_k"] (hV K)) (C_telegram:Fnc P w K mg base (CX1 P w) 5 "telegram" ["book","groups"] (nD Ad)) (C_law_said:Fnc P w K mg base (CX1 P w) 1 "_law_said" ["_law_entries_here","_law_groups_here"] (sT K)) (C_law_groups:Fnc P w K mg base (CX1 P w) 2 "_law_groups" ["_law_cells","_law_entries_here"] (kT K)) (C_law_book:Fnc P w K mg base (CX1 P w) 6 "_law_book" ["_law_code","_law_entries_here"] (nA Ad)) (C_law_entries:Fnc P w K mg base (CX1 P w) 2 "_law_entries" ["_law_script","_law_parts"] (jQ K)) (C_law_code_parts:Fnc P w K mg base (CX1 P w) 3 "_law_code_parts" ["_law_script"] (kA K)) (K_Code:Mak P w K mg base (CX1 P w) Ad.Code "Code" 4 ["self","alphabet","weights","rest"] (hO Ad)):bU P w K mg base (CX1 P w) 9 f fd ["_law_script"] (Bf K Ad.tb):=by
 refine F.okX (k:=8) gG ?_ ?_
 ·bv_decide
 ·right;obtain⟨a,ns,rfl,hS,hlen,hT,k⟩:=h;refine⟨_,ai (aF (i:=1) gG.nd (aC C_law_code_parts a8 (hr.mono Zd) (aj (pvL 0) (ae)))) (ai (aF (i:=2) gG.nd (aC C_law_entries a8 (hr.mono Zd) (aj (pvL 0) (aj (pvL 1) (ae))))) (ai (aF (i:=3) gG.nd (aC C_law_book a8 (hr.mono Zd) (aj (yS K_Code a8 (hr.mono Zd) (aj (bZ (cT (K:=K) rfl) (pvL 1) (au) (fun _ _=>rfl)) (aj (ei (i9 (K:=K) rfl rfl) T.list km (aj (bZ (cT (K:=K) rfl) (pvL 1) (au) (fun _ _=>rfl)) (ae))) (aj (bZ (cT (K:=K) rfl) (pvL 1) (au) (fun _ _=>rfl)) (ae))))) (aj (pvL 2) (ae))))) (ai (aF (i:=4) gG.nd (aC C_law_groups a8 (hr.mono Zd) (aj (cU (iT (K:=K) rfl) (pvL 0) (dQ (au)) (dQ (au))) (aj (pvL 2) (ae))))) (ai (aF (i:=5) gG.nd (aC C_law_said a8 (hr.mono Zd) (aj (pvL 2) (aj (pvL 4) (ae))))) (ai (aF (i:=6) gG.nd (aC C_telegram a8 (hr.mono Zd) (aj (pvL 3) (aj (pvL 4) (ae))))) (ai (eZ cB rfl (AJ T.range (aj (au) (aj (aA aH (au) (ax (CU rfl) T.min K5 (aj (au) (aj (ax (aL (K:=K) rfl) T.len bH (aj (pvL 0) (ae))) (ae))))) (ae)))) (aR (i:=7) gG.nd) (ai (aF (i:=8) gG.nd (aC C_law_mixed a8 (hr.mono Zd) (aj (aA aH (aC C_law_cell_at a8 (hr.mono Zd) (aj (pvL 0) (aj (pvL 7) (ae)))) (aA xt (au) (pvL 7))) (ae)))) (ai (aF (i:=9) gG.nd (aA cx (pvL 8) (ax (aL (K:=K) rfl) T.len bH (aj (pvL 6) (ae))))) (ai (fJ (i:=10) gG.nd (ax (tU (K:=K) rfl) T.sorted lg (aj (cy (aj (pvL 9) (aj (aA cx (aA aH (aA aH (pvL 9) (au)) (aA cx (aA cG (pvL 8) (au)) (aA gz (ax (aL (K:=K) rfl) T.len bH (aj (pvL 6) (ae))) (au)))) (ax (aL (K:=K) rfl) T.len bH (aj (pvL 6) (ae)))) (ae)))) (ae)))) (ai (aF (i:=11) gG.nd (aC C_law_garbled a8 (hr.mono Zd) (aj (pvL 1) (aj (pvL 6) (aj (pvC 10) (aj (aA cG (pvL 8) (aA oG (au) (au))) (ae))))))) (ai (bT (aX (gC (K:=K) rfl hu) (aC C_doubtful a8 (hr.mono Zd) (aj (pvL 3) (aj (pvL 11) (ae)))) (pvC 10) (bc _)) (ao (aK (kx))) (bh)) (ai (aF (i:=12) gG.nd (aC C_readings a8 (hr.mono Zd) (aj (pvL 3) (aj (pvL 11) (ae))))) (ai (bT ((iR (aX (rS (K:=K) rfl hu1) (pvL 5) (pvL 12) (by ext)) (iR (aX (gC (K:=K) rfl hu) (pvL 12) (ax (tT (P:=P) (w:=w) rfl rfl rfl) T.sorted lg (aj (ei (tS (K:=K) (P:=P) (w:=w) rfl rfl rfl rfl) T.set zI (aj (pvL 12) (ae))) (ae))) (bc _)) (gE (aX (gC (K:=K) rfl hu) (gO ["_law_some"] rfl ⟨rfl,by nofun,rfl,by nofun⟩ (.nil) (by nofun) (cE (K:=K) rfl (pvL 12)) (fun _ _ _ _=>aR (i:=0) (show (["_law_some"]:Ze).Nodup from by nofun)) (fun _ _ _ _=>jz (cM (cD (aC C_is_text fF (hr.mono Zd) (aj (pvL 0) (ae)))))) (fun _ _ _ _=>pvL 0)) (cy (ae)) (bc _))))).pt) (ao (aK (kx))) (bh)) (ao (bT ((xA (aX p9 (ax (aL (K:=K) rfl) T.len bH (aj (pvL 6) (ae))) (au) (bc _)) (xB (aX (cL (K:=K) rfl hu) (pvL 7) (au) (bc _)))).pt) (ai (aF (i:=13) gG.nd (bZ (cT (K:=K) rfl) (gO ["_law_place"] rfl ⟨rfl,by nofun,rfl,by nofun⟩ (.cons (j:=10) rfl (.inl (by ext)) (.nil)) (by nofun) (eE T.range (aj (ax (aL (K:=K) rfl) T.len bH (aj (pvL 6) (ae))) (ae))) (fun _ _ _ _=>aR (i:=0) (show (["_law_place","_law_places"]:Ze).Nodup from by nofun)) (fun _ _ _ _=>jz (aX (rS (K:=K) rfl hu1) (pvL 0) (pvC 1) (by ext))) (fun _ _ _ _=>pvL 0)) (au) (fun _ _=>rfl))) (ai (fJ (i:=10) gG.nd (ax (tU (K:=K) rfl) T.sorted lg (aj (aA aH (pvC 10) (cy (aj (pvL 13) (ae)))) (ae)))) (ao (bT (cM (cD (aC C_law_refused a8 (hr.mono Zd) (aj (pvL 3) (aj (aC C_law_garbled a8 (hr.mono Zd) (aj (pvL 1) (aj (pvL 6) (aj (pvC 10) (aj (aA cG (pvL 8) (aA oG (au) (au))) (ae)))))) (aj (pvC 10) (ae))))))) (ao (aK (kx))) (bh))))) (bh))))))))))) (ao (aK (cZ (cL (K:=K) rfl hu) (aC C_readings a8 (hr.mono Zd) (aj (pvL 3) (aj (pvL 6) (ae)))) (cy (aj (pvL 5) (ae))) (bc _)))))))))),?_⟩;have big:∀ {u:Nat},u<=1000->u<=sizeLine:=fun hu=>aQ (aq (by lia));grind;refine⟨a,ns,rfl,hS,fun p q al ws r H1 s1 hP ok a9 w4 w6=>?_⟩;cbv;grind;refine⟨a,p,q,ns,al,ws,r,rfl,s1.seq hS,hP,ok,w4,fun D es H2 hD s2 h2 eo=>?_⟩;cbv;grind;refine⟨_,_,.l (s2 _ _ hP.1),cu (j:=0) rfl,_,_,.l (s2 _ _ hP.1),cu (j:=1) rfl,?_⟩;symm;refine⟨_,.inl (.l (s2 _ _ hP.2)),fun qn H3 hqn s3 hq3=>⟨_,_,.l ((s2.trans s3) _ _ hP.1),cu (j:=2) rfl,fun ca cd H4 hca hcd hcc s4 h4a h4d=>?_⟩⟩;refine DI h4a (s4 _ _ hq3) ok fun H5 s5 c5=>⟨rfl,?_⟩;have s25:az H2 H5:=fun b o e=>by
   have hb:b≠ca:=fun e2=>by rw[←e2,s3 _ _ e] at hca;cases hca
   exact s5 b o hb (s4 _ _ (s3 _ _ e))
  have s05:=s1.trans (s2.trans s25);have hD5:=s25 _ _ h2;have eo5:E8 al ws H5 es:=⟨fun e he=>s25 _ _ (eo.en e he),eo.nn,eo.nk,eo.ok,eo.few,eo.ph,eo.hE,eo.hP,eo.hF⟩;have hP5:Parts H5 p q al ws r:=⟨(s2.trans s25) _ _ hP.1,(s2.trans s25) _ _ hP.2⟩;have hS5:=s05.seq hS;have hT5:=s05 _ _ hT;have neP:∀ {c:Addr}{o:HO},H c=some o->c≠D:=fun e z=>by rw[z,s1.free hD] at e;cases e
  clear h4a h4d s4 hca hcd hcc hq3 s3 hqn s5 eo;refine⟨ca,D,al,ws,r,es,rfl,c5,ok,hT5,hD5,eo5,fun b dn de ob H6 kp6 hD6 B6=>?_⟩;cbv;have eo6:E8 al ws H6 es:=⟨fun e he=>kp6 _ _ (jw (eo5.en e he) hD5 (by intro z;cases z)) (eo5.en e he),eo5.nn,eo5.nk,eo5.ok,eo5.few,eo5.ph,eo5.hE,eo5.hP,eo5.hF⟩;have hP6:Parts H6 p q al ws r:=⟨kp6 _ _ (jw hP5.1 hD5 (by intro z;cases z)) hP5.1,kp6 _ _ (jw hP5.2 hD5 (by intro z;cases z)) hP5.2⟩;have c6:cI Ad H6 ca al ws r:=by obtain⟨dc,qc,hc1,hc2⟩:=c5;exact⟨dc,qc,kp6 _ _ (jw hc1 hD5 (by intro z;cases z)) hc1,kp6 _ _ (jw hc2 hD5 (by intro z;cases z)) hc2⟩
  have s06:az H H6:=fun c o e=>kp6 c o (neP e) (s05 _ _ e);have hS6:=s06.seq hS;clear kp6 eo5 hP5 c5 hS5 hT5 hD5 s05 s25 s1 s2 h2 hP;have hE6:Rd H6 D (.dK (i7 es)):=.inr ⟨ob,hD6⟩;have hnn:=eo6.nn;have e1:1<=es.length:=by obtain⟨e,he,_⟩:=eo6.hE;exact List.length_pos_of_mem he
  have hes:=eo6.ok;grind;obtain⟨l1,el1,ll1⟩:=Fe ns 2 12;refine⟨_,hS6,fun pc H7 hpc s7 h7=>?_⟩;rw[show mQ (ns.map V.int) (some 2) (some 12)=l1.map V.int from el1] at h7;have c12:l1.length<=10:=ll1;refine⟨pc,D,l1,es,ob,al,ws,rfl,h7,by lia,s7 _ _ hD6,⟨fun e he=>s7 _ _ (eo6.en e he),eo6.nn,eo6.nk,eo6.ok,eo6.few,eo6.ph,eo6.hE,eo6.hP,eo6.hF⟩,fun g gs wd H8 hg s8 h8 g1 g80 hgs say=>?_⟩;cbv;have s68:=s7.trans s8;have hE8:zA H8 D es:=⟨.inr ⟨ob,s68 _ _ hD6⟩,(fun e he=>s68 _ _ (eo6.en e he)),hnn⟩;have htg:∀ {G:Hp},∀ x∈gs.map V.int,∃ t,fj G x=some t:=fun {G} x hx=>by obtain⟨n,_,rfl⟩:=aM.mp hx;exact⟨.int,rfl⟩
  grind;refine⟨D,g,es,gs,rfl,hE8,(fun e he=>(hes e he).1),h8,by lia,fun wd' hwd H9 s9=>?_,fun n hn=>by rw[say] at hn;cases hn⟩;rw[say] at hwd;cases hwd;cbv;have s69:=s68.trans s9;grind;refine⟨b,ca,dn,de,g,es,_,al,ws,r,rfl,B6.same s69,c6.same s69,ok,hes,s9 _ _ h8,by rw[ag];lia,htg,fun wd' hw' gs' eg hg' W H10 hW s10 h10=>?_,fun n hn=>by rw[say] at hn;cases hn⟩;have eg':gs=gs':=(qZ (fun a b h=>V.int.inj h)).mp eg;subst eg';clear hg' eg hw';cbv;have T0:Tel al ws r es gs:=⟨ok,hgs,fun e he=>(hes e he).2⟩;have txs:=Hx (M:=bX al ws) say;have zl:=Cv (al:=al) (ws:=ws) (r:=r) (gs:=gs);have s610:=s69.trans s10;have dbt:∀ (u:Addr) (cs:List (Za)) (G:Hp) (Q':VK) (E':XK),az H6 G->G u=some (.lst (cs.map wdV))->vh al (bW al ws r gs) cs->(∀ D H',G D=none->az G H'->H' D=some (.lst ((dbL al ws r es cs).map mi))->Q' (.ref D) H')->iV Ad [.ref b,.ref u] G Q' E':=fun u cs G Q' E' t hu C hq=>by
   have hw:=T0.word C;have cl:=C.1;have w8:=ok.w8;refine⟨b,ca,dn,de,es,al,ws,r,.ref u,.lst,rfl,B6.same t,c6.same t,ok,by show lG (G u)=_;rw[hu];rfl,(fun p o v e h=>by cases e;rw[hu] at h;cases h),(fun p xs e h y hym=>?_),(fun hA=>?_),fun p zs' e h _ _ _=>?_⟩
   ·cases e
    rw[hu] at h;cases h;obtain⟨z,hzm,rfl⟩:=aM.mp hym;refine⟨⟨.str,rfl⟩,fun z' e=>?_⟩;cases e;rw[bC];have:=(Mk.dm.mp (hw z hzm)).1;lia
   ·rw[xT hu (by lia) (by lia) hw] at hA;cases hA
   ·cases e
    rw[hu] at h;have e':cs=zs':=(qZ (fun a b h=>gJ (V.str.inj h))).mp (HO.lst.inj (Option.some.inj h));subst e';exact hq
  have rdg:∀ (u:Addr) (cs:List (Za)) (G:Hp) (Q':VK) (E':XK),az H6 G->G u=some (.lst (cs.map wdV))->vh al (bW al ws r gs) cs->(dbL al ws r es cs).length<=1->(∀ D H',G D=none->az G H'->H' D=some (.lst [wdV (Mk.dM 32 wd)])->Q' (.ref D) H')->gS Ad [.ref b,.ref u] G Q' E':=fun u cs G Q' E' t hu C hd hq=>by have hw:=T0.word C;have cl:=C.1;refine xC (B6.same t) (c6.same t) ok hes hu (by lia) (by lia) hw (fun h=>absurd h (by lia)) fun _ D ts H21 hD s21 h21 hnd hsrt hmem=>?_;have ets:=Jq ok hw hd (T0.rd C) txs hnd.1 hmem;rw[ets] at h21;exact hq D H21 hD s21 h21
  have cz:vh al (bW al ws r gs) (bW al ws r gs):=⟨rfl,fun i z c h1 h2=>by rw[h1] at h2;cases h2;exact .inl rfl⟩;have dz:dbL al ws r es (bW al ws r gs)=[]:=by rw[T0.db cz];exact nQ.mpr fun i _=>by simp
  have hW10:=h10;grind;have hS10:=s610.seq hS6;refine⟨_,.inl hS10,⟨Zd,Zd,by lia,by rw[ag];lia⟩,lp (fun i σ G=>az H10 G/\∃ o7 o8 o9 o10 o11 o12 o13,σ=[some (V.ref a),some (V.ref p),some (V.ref D),some (V.ref b),some (V.ref g),some (V.str (tx (Mk.dM 32 wd))),some (V.ref W),o7,o8,o9,o10,o11,o12,o13]) ⟨az.refl _,_,_,_,_,_,_,_,rfl⟩ ?_ ?_⟩
  ·rintro i σ G hi ⟨tG,o7,o8,o9,o10,o11,o12,o13,rfl⟩ N hNx;clear hN;grind;refine⟨a,ns,1+(i:Int),rfl,tG.seq hS10,by lia,?_⟩;generalize ns.getD (1+(i:Int)).toNat 0=cc;symm;refine⟨.inl Zd,_,rfl,?_⟩;have y0:=tI (cc+17*(1+(i:Int)));generalize DU (cc+17*(1+(i:Int)))=y at y0;cbv;have hWG:=tG _ _ hW10;grind;refine⟨_,.l hWG,?_⟩;rw[ag];refine⟨by lia,?_⟩;obtain⟨j,hj⟩:=ie (cK y (show ((bW al ws r gs).length:Int)≠0 by lia));have hjl:j<(bW al ws r gs).length:=by have:=cQ y (show 0<((bW al ws r gs).length:Int) by lia);lia
   rw[hj,hN];clear hN nn hj;grind;obtain⟨j2,hj2,hj2l,hne⟩:∃ j2:Nat,((j:Int)+1+y/100%(((bW al ws r gs).length:Int)-1))%((bW al ws r gs).length:Int)=(j2:Int)/\j2<(bW al ws r gs).length/\j≠j2:=by
    have f0:=cK (y/100) (show ((bW al ws r gs).length:Int)-1≠0 by lia);have f1:=cQ (y/100) (show 0<((bW al ws r gs).length:Int)-1 by lia);generalize y/100%(((bW al ws r gs).length:Int)-1)=fu at f0 f1
    by_cases h:(j:Int)+1+fu<(bW al ws r gs).length
    ·rw[jT (by lia) h];exact⟨((j:Int)+1+fu).toNat,by lia,by lia,by lia⟩
    ·have e4:((j:Int)+1+fu)%((bW al ws r gs).length:Int)=(j:Int)+1+fu-(bW al ws r gs).length:=by
      rw[←Int.sub_emod_right,jT (by lia) (by lia)]
     rw[e4];exact⟨((j:Int)+1+fu-(bW al ws r gs).length).toNat,by lia,by lia,by lia⟩
   refine⟨⟨Zd,Zd⟩,_,.l hWG,by rw[ag];lia,_,.l hWG,by rw[ag];lia,aQ (aq Zd),fun q1 G1 hq1 t1 f1=>⟨[(j:Int),(j2:Int)],?_,show 2<64 by decide,fun us hup hus q2 G2 hq2 t2 f2=>?_⟩⟩
   ·rw[ag,hj2] at f1;exact .of f1
   obtain⟨ps,eps,hpp,hps⟩:=Cr (ps:=[j,j2]) hup hus (by simp [hne]);rw[eps,aI] at f2;have f2':G2 q2=some (.lst (ps.map mi)):=f2;have pmem:∀ x,x∈ps↔x=j∨x=j2:=fun x=>by rw[hpp.mem_iff];simp
   have pnd:ps.Nodup:=hps.imp fun h=>aW h;have plen:ps.length=2:=hpp.length_eq;have plt:∀ x∈ps,x<(bW al ws r gs).length:=fun x hx=>by rcases (pmem x).mp hx with rfl | rfl<;>assumption
   rw[hN];clear hN nn f2 f1;have hwd:∀ z∈bW al ws r gs,Ko al z:=fun z hz=>by obtain⟨n,hn⟩:=lJ hz;exact (T0.at hn).1.wd ok
   have grb:∀ (n:Int) (ps:Za) (u:Addr) (G:Hp) (Q':VK) (E':XK),az H6 G->G W=some (.lst ((bW al ws r gs).map wdV))->G u=some (.lst (ps.map mi))->ps.length<=3->ps.Pairwise (·<·)->(∀ x∈ps,x<(bW al ws r gs).length)->(∀ D cs H',G D=none->az G H'->H' D=some (.lst (cs.map wdV))->vh al (bW al ws r gs) cs->dbL al ws r es cs=ps->Q' (.ref D) H')->hX K [.ref p,.ref W,.ref u,.int n] G Q' E':=fun n ps u G Q' E' t hw hu l3 hp hl hq=>by
    refine⟨p,q,W,u,al,ws,r,n,_,ps,rfl,⟨t _ _ hP6.1,t _ _ hP6.2⟩,ok,hw,by lia,hwd,hu,l3,hp.imp fun h=>aW h,hl,fun D cs H' hD sH hH cl hc=>?_⟩;have C:vh al (bW al ws r gs) cs:=⟨cl,fun i z c h1 h2=>by
     by_cases hm:i∈ps
     ·exact .inr ((hc i z c h1 h2).1 hm)
     ·exact .inl ((hc i z c h1 h2).2 hm)⟩
    refine hq D cs H' hD sH hH C (IP ?_ hp fun x=>?_)
    ·unfold dbL;exact jV _ nY
    ·rw[T0.db C,cA,cg];constructor
     ·rintro⟨h1,h2⟩
      by_cases hm:x∈ps
      ·exact hm
      ·exfalso;have hz:(bW al ws r gs)[x]?=some ((bW al ws r gs).getD x []):=by rw[bz,aO h1];rfl
       have hcx:cs[x]?=some (cs.getD x []):=by rw[bz,aO (by lia)];rfl
       rw[aw ((hc x _ _ hz hcx).2 hm)] at h2;cases h2
     ·intro hm;have h1:=hl x hm;have hz:(bW al ws r gs)[x]?=some ((bW al ws r gs).getD x []):=by rw[bz,aO h1];rfl
      have hcx:cs[x]?=some (cs.getD x []):=by rw[bz,aO (by lia)];rfl
      refine⟨h1,?_⟩;rw[av (KG ok (T0.at hz).1 ((hc x _ _ hz hcx).1 hm))];rfl
   have s62:=(s610.trans tG).trans (t1.trans t2);have hW2:=(t1.trans t2) _ _ hWG;grind;refine⟨⟨Zd,Zd,Zd⟩,⟨Zd,Zd⟩,?_⟩;refine grb _ ps q2 _ _ _ s62 hW2 f2' (by lia) hps plt fun Dc cs G3 hDc t3 f3 C dC=>?_;cbv;have s63:=s62.trans t3;have hp3:=t3 _ _ f2';grind;refine dbt Dc cs _ _ _ s63 f3 C fun F4 G4 hF4 t4 f4=>?_;symm;refine⟨_,_,.of f4,.of (t4 _ _ hp3),jG _,jG _,?_⟩;rw[dC,oz _ (jG _),af (by decide)];show nn _ _ _;rw[hN];clear hN nn f4;have s64:=s63.trans t4;have cw:=T0.word C;have cl:=C.1;grind;refine xC (B6.same s64) (c6.same s64) ok hes (t4 _ _ f3) (by lia) (by lia) cw (fun h=>by rw[dC] at h;lia) fun _ Df ts G5 hDf t5 f5 hnd hsrt hmem=>?_;cbv;grind;have ein:inV (V.str (tx (Mk.dM 32 wd))) (ts.map wdV)=true:=by
    have e2:ts.map wdV=(ts.map tx).map V.str:=by rw[aI];rfl
    rw[e2,FK,aw (iw ((hmem _).mpr ⟨_,T0.rd C,txs⟩))]
   refine .inl ⟨_,.l f5,rfl,qo _,?_⟩;rw[ein,af (by decide)];have f5':G5 Df=some (.lst ((ts.map tx).map V.str)):=by rw[f5,aI];rfl
   have tnd:(ts.map tx).Nodup:=fk.mpr (hnd.1.imp fun h e=>h (gJ e));refine⟨ts.map tx,.of f5',by rw[ag];lia,fun q6 G6 hq6 t6 f6=>⟨ts.map tx,f6,by have:=lC (mM (ts.map tx)) (ts.map tx).length;rw[ag] at this ⊢;lia,fun us und umem usrt q7 G7 hq7 t7 f7=>?_⟩⟩;have eus:us=ts.map tx:=zt usrt hsrt und tnd umem;subst eus;have f57:=(t6.trans t7) _ _ f5';refine⟨_,_,.of f57,.of f7,?_,?_,?_⟩
   ·rw[aI];exact qo _
   ·rw[aI];exact qo _
   rw[oz _ (by rw[aI];exact qo _),af (by decide)];have f57':G7 Df=some (.lst (ts.map wdV)):=(t6.trans t7) _ _ f5;refine .inl ⟨⟨_,.of f57'⟩,Au wdV (fun x y e=>gJ (V.str.inj e)) (eP (.of f57')) (aq (by lia)) (fun _=>false) wdV ?_ ?_ ?_⟩
   ·intro z hz G8 t8 R hR;unfold wdV;symm;obtain⟨ns',hR',htx⟩:=(hmem z).mp hz;obtain⟨wd',hwd',ez⟩:∃ wd',kh ((ns'.dropLast.map V.int).map (kOf es))=.inr wd'/\z=Mk.dM 32 wd':=by
     unfold lH at htx;split at htx
     ·split at htx
      ·rename_i wd' hw
       exact⟨wd',hw,(Option.some.inj htx).symm⟩
      ·cases htx
     ·cases htx
    obtain⟨isT,il⟩:=He (fun e he=>(hes e he).1) hwd';rw[←ez] at isT il;refine⟨z,rfl,il,fun G9 t9=>⟨_,rfl,?_⟩⟩;rw[isT];exact hR G9 t9
   ·intro z hz h G t R hR;cases h
   intro D8 G8 hD8 t8 f8;rw[nQ.mpr (fun _ _=>by decide)] at f8;refine⟨bj _,fun q9 G9 hq9 t9 f9=>?_⟩;symm;refine⟨_,_,.of (t9 _ _ f8),.of f9,rfl,rfl,?_⟩;rw[show mR (([]:List (Za)).map wdV) []=true from rfl,af (by decide)];show nn _ _ _;cbv;have s69:=s64.trans (t5.trans (t6.trans (t7.trans (t8.trans t9))));have t29:az G2 G9:=t3.trans (t4.trans (t5.trans (t6.trans (t7.trans (t8.trans t9)))));have hW9:G9 W=some (.lst ((bW al ws r gs).map wdV)):=t29 _ _ hW2;have hq9:=t29 _ _ f2';have tG9:az H10 G9:=tG.trans (t1.trans (t2.trans t29));symm;refine⟨_,.l hW9,?_⟩;rw[ag]
   by_cases h3:2<(bW al ws r gs).length
   ·rw[ah (aw (by lia))]
    by_cases h1:(1:Int)+(i:Int)=1
    ·rw[ah (aw h1)];grind;refine⟨_,.l hW9,?_⟩;rw[ag];have inN:∀ x:Int,0<=x->inV (V.int x) (ps.map mi)=decide (x.toNat∈ps):=fun x hx=>by
      have:∀ l:Za,inV (V.int x) (l.map mi)=decide (x.toNat∈l):=fun l=>by
       induction l with
       | nil=>rfl
       | cons m r ih =>
        show (eqV (mi m) (V.int x)||inV (V.int x) (r.map mi))=_;rw[ih];have e:eqV (mi m) (V.int x)=decide (x.toNat=m):=by
         show decide ((m:Int)=x)=_
         by_cases h:x.toNat=m
         ·rw[aw h,aw (by lia)]
         ·rw[av h,av (by lia)]
        rw[e]
        by_cases h:x.toNat=m
        ·simp [h]
        ·simp [h]
      exact this ps
     refine⟨by lia,by lia,Au V.int iG (tL (bW al ws r gs).length) (by rw[Mk.oF];exact aq (by lia)) (fun x=>!decide (x.toNat∈ps)) V.int ?_ ?_ ?_⟩
     ·intro x hx G10 t10 R hR;obtain⟨x0,x1⟩:=Mk.fG.mp hx;symm;refine .inl ⟨_,.l (t10 _ _ hq9),rfl,jG _,?_⟩;rw[inN x x0];exact hR G10 (az.refl _)
     ·intro x hx _ G10 t10 R hR;symm;exact hR G10 (az.refl _)
     intro D10 G10 hD10 t10 f10;obtain⟨tn,tl,ht,htn,htp⟩:∃ (tn:Nat) (tl:Zb),(Mk.ofN (bW al ws r gs).length).filter (fun x=>!decide (x.toNat∈ps))=(tn:Int)::tl/\tn<(bW al ws r gs).length/\tn∉ps:=by
      cases hf:(Mk.ofN (bW al ws r gs).length).filter (fun x=>!decide (x.toNat∈ps)) with
      | nil =>
       exfalso;have hall:=nQ.mp hf;have hsub:∀ x∈List.range (bW al ws r gs).length,x∈ps:=fun x hx=>by
        have:=hall (x:Int) (Mk.fG.mpr ⟨by lia,by have:=cg.mp hx;lia⟩)
        simpa using this
       have:=Gb List.nodup_range hsub;rw[dy] at this;lia
      | cons x tl =>
       have hx:x∈(Mk.ofN (bW al ws r gs).length).filter (fun x=>!decide (x.toNat∈ps)):=by rw[hf];exact aS
       obtain⟨m1,m2⟩:=cA.mp hx;obtain⟨x0,x1⟩:=Mk.fG.mp m1;refine⟨x.toNat,tl,by rw[nI x0],by lia,by simpa using m2⟩
     rw[ht] at f10;symm;refine⟨_,_,.l f10,cu (j:=0) rfl,?_⟩;cbv;have hq10:=t10 _ _ hq9;grind;refine⟨aQ (aq Zd),fun q11 G11 hq11 t11 f11=>⟨_,_,t11 _ _ hq10,f11,by rw[ag,plen];exact aQ (aq (show 3<=100000 by decide)),fun q12 G12 hq12 t12 f12=>⟨(ps++[tn]).map fun i:Nat=>(i:Int),?_,by rw[ag,aB,plen];exact (show 3<64 by decide),fun us2 hup2 hus2 q13 G13 hq13 t13 f13=>?_⟩⟩⟩
     ·have:G12 q12=some (.lst (((ps++[tn]).map fun i:Nat=>(i:Int)).map V.int)):=by rw[f12,aI,bu];rfl
      exact .of this
     obtain⟨ps2,eps2,hpp2,hps2⟩:=Cr (ps:=ps++[tn]) hup2 hus2 (List.nodup_append.mpr ⟨pnd,by simp,fun x hx y hy e=>htp (by rw[bg.mp hy] at e;rw[←e];exact hx)⟩);rw[eps2,aI] at f13;have f13':G13 q13=some (.lst (ps2.map mi)):=f13;have pl2:ps2.length=3:=by rw[hpp2.length_eq,aB,plen];rfl
     have plt2:∀ x∈ps2,x<(bW al ws r gs).length:=fun x hx=>by
      rcases bE.mp (hpp2.mem_iff.mp hx) with h | h
      ·exact plt x h
      ·rw[bg.mp h];exact htn
     rw[hN];clear hN nn f13 f12;have t913:az G9 G13:=t10.trans (t11.trans (t12.trans t13));have s613:az H6 G13:=s69.trans t913;symm;refine⟨⟨Zd,Zd,Zd⟩,⟨Zd,Zd⟩,?_⟩;refine grb _ ps2 q13 _ _ _ s613 (t913 _ _ hW9) f13' (by lia) hps2 plt2 fun Dc2 cs2 G14 hDc2 t14 f14 C2 dC2=>?_;have s614:=s613.trans t14;have cl2:=C2.1;refine⟨b,ca,dn,de,Dc2,q13,es,al,ws,r,cs2,rfl,B6.same s614,c6.same s614,ok,hes,f14,by lia,by lia,T0.word C2,by rw[dC2];lia,by rw[dC2];exact t14 _ _ f13',fun G15 t15=>⟨_,rfl,?_⟩⟩;rw[af (by decide)];exact hNx _ _ ⟨tG9.trans (t913.trans (t14.trans t15)),_,_,_,_,_,_,_,rfl⟩
    ·rw[af (by rw[av h1];decide)];exact hNx _ _ ⟨tG9,_,_,_,_,_,_,_,rfl⟩
   ·rw[af (by rw[av (by lia)];decide)];exact hNx _ _ ⟨tG9,_,_,_,_,_,_,_,rfl⟩
  rintro σ G ⟨tG,o7,o8,o9,o10,o11,o12,o13,rfl⟩;show nn _ _ _;cbv;symm;refine rdg W _ _ _ _ (s610.trans tG) (tG _ _ hW10) cz (by rw[dz];decide) fun F3 G3 hF3 t3 f3=>?_;refine⟨aQ (aq Zd),fun p4 G4 hp4 t4 f4=>?_⟩;symm;refine⟨_,_,.of (t4 _ _ f3),.of f4,rfl,rfl,?_⟩;rw[show mR [wdV (Mk.dM 32 wd)] [V.str (tx (Mk.dM 32 wd))]=true from oz [wdV (Mk.dM 32 wd)] rfl];exact k G4
end
theorem all_mk {l:PySem.W.OpenLaw}{w:Zi}{K:Zf}{h:Heap}{mg:Zk}{fa:Addr}{k_Code k_Book k_CableError k_NoCode k_NoNumber k_NoWord k_NoEntry k_Twice k_TooMany k_NoReading k_TooGarbled k_cd k_tb:Addr}{f0 f1 f13 f40 f42 f60:Addr} (X:K.In h) (G:h.Ns mainGlobals mg) (hfa:mg "law"=some (.ref fa))
  {od0 an0 od1 an1 od13 an13 od40 an40 od42 an42 od60 an60:Option Addr}{sl0 sl1 sl13 sl40 sl42 sl60:Array (Option Value)}{oc0 kV0 dc0 pm0 cd0 ct0 oc1 kV1 dc1 pm1 cd1 ct1 oc13 kV13 dc13 pm13 cd13 ct13 oc40 kV40 dc40 pm40 cd40 ct40 oc42 kV42 dc42 pm42 ct42 oc60 kV60 dc60 pm60 cd60 ct60:Value}
  (y0:PySem.W.nsIn K mainGlobals "Code"=some (some (.ref k_Code)))
  (y1:PySem.W.nsIn K mainGlobals "Book"=some (some (.ref k_Book)))
  (y2:PySem.W.nsIn K mainGlobals "CableError"=some (some (.ref k_CableError)))
  (y3:PySem.W.nsIn K mainGlobals "NoCode"=some (some (.ref k_NoCode)))
  (y4:PySem.W.nsIn K mainGlobals "NoNumber"=some (some (.ref k_NoNumber)))
  (y5:PySem.W.nsIn K mainGlobals "NoWord"=some (some (.ref k_NoWord)))
  (y6:PySem.W.nsIn K mainGlobals "NoEntry"=some (some (.ref k_NoEntry)))
  (y7:PySem.W.nsIn K mainGlobals "Twice"=some (some (.ref k_Twice)))
  (y8:PySem.W.nsIn K mainGlobals "TooMany"=some (some (.ref k_TooMany)))
  (y9:PySem.W.nsIn K mainGlobals "NoReading"=some (some (.ref k_NoReading)))
  (y10:PySem.W.nsIn K mainGlobals "TooGarbled"=some (some (.ref k_TooGarbled)))
  (a0:PySem.W.findIn K (.ref k_NoReading) "__init__"=some (some (.ref f0)))
  (i0:PySem.W.isFn K (.ref f0)=true)
  (l0:K.lookup f0=some ⟨oc0,od0,.func (PySem.W.fnOf "__init__" "NoReading.__init__" (cY dF) (cP dF) (ay dF) .none kV0 dc0 pm0 an0 cd0 ct0),sl0⟩)
  (c0:PySem.W.codeIn K cd0 "NoReading.__init__"=true)
  (k0:PySem.W.keepIn K (.ref f0)=true)
  (a1:PySem.W.findIn K (.ref k_TooGarbled) "__init__"=some (some (.ref f1)))
  (i1:PySem.W.isFn K (.ref f1)=true)
  (l1:K.lookup f1=some ⟨oc1,od1,.func (PySem.W.fnOf "__init__" "TooGarbled.__init__" (cY df) (cP df) (ay df) .none kV1 dc1 pm1 an1 cd1 ct1),sl1⟩)
  (c1:PySem.W.codeIn K cd1 "TooGarbled.__init__"=true)
  (k1:PySem.W.keepIn K (.ref f1)=true)
  (d2:dD K "is_whole" pL)
  (d3:dD K "common_divisor" iC)
  (d4:dD K "are_safe" pE)
  (d5:dD K "is_alphabet" kL)
  (d6:dD K "is_below" pH)
  (d7:dD K "are_weights" kJ)
  (d8:dD K "is_word" rZ)
  (d9:dD K "places_of" nr)
  (d10:dD K "spelled" se)
  (d11:dD K "are_good" pD)
  (d12:dD K "is_good" rX)
  (a13:PySem.W.findIn K (.ref k_Code) "__init__"=some (some (.ref f13)))
  (i13:PySem.W.isFn K (.ref f13)=true)
  (l13:K.lookup f13=some ⟨oc13,od13,.func (PySem.W.fnOf "__init__" "Code.__init__" (cY gQ) (cP gQ) (ay gQ) .none kV13 dc13 pm13 an13 cd13 ct13),sl13⟩)
  (c13:PySem.W.codeIn K cd13 "Code.__init__"=true)
  (k13:PySem.W.keepIn K (.ref f13)=true)
  (d14:qf K k_Code "alphabet" "Code.alphabet" jq)
  (d15:qf K k_Code "weights" "Code.weights" jK)
  (d16:qf K k_Code "many" "Code.many" mY)
  (d17:qf K k_Code "word" "Code.word" mZ)
  (d18:qf K k_Code "number" "Code.number" kH)
  (d19:qf K k_Code "has_good" "Code.has_good" jr)
  (d20:dD K "by_exchange" kK)
  (d21:dD K "by_swap" rW)
  (d22:dD K "faulty" uL)
  (d23:dD K "nearest" sd)
  (d24:dD K "with_each" nt)
  (d25:dD K "are_letters" kI)
  (d26:dD K "are_words" nc)
  (d27:dD K "is_text" rY)
  (d28:dD K "can_stand" ng)
  (d29:dD K "said" AW)
  (d30:dD K "check_number" jM)
  (d31:dD K "check_of" pF)
  (d32:dD K "telegram" pR)
  (d33:dD K "is_sound" pK)
  (d34:dD K "are_words_of" jL)
  (d35:dD K "doubtful" pG)
  (d36:dD K "may_stand" nq)
  (d37:dD K "text_of" sf)
  (d38:dD K "readings" pQ)
  (d39:dD K "is_entry" pJ)
  (a40:PySem.W.findIn K (.ref k_Book) "__init__"=some (some (.ref f40)))
  (i40:PySem.W.isFn K (.ref f40)=true)
  (l40:K.lookup f40=some ⟨oc40,od40,.func (PySem.W.fnOf "__init__" "Book.__init__" (cY gP) (cP gP) (ay gP) .none kV40 dc40 pm40 an40 cd40 ct40),sl40⟩)
  (c40:PySem.W.codeIn K cd40 "Book.__init__"=true)
  (k40:PySem.W.keepIn K (.ref f40)=true)
  (d41:qf K k_Book "code" "Book.code" mX)
  (a42:PySem.W.findIn K (.ref k_Book) "put"=some (some (.ref f42)))
  (i42:PySem.W.isFn K (.ref f42)=true)
  {dt42:Addr}{tc42:Value}{td42:Option Addr}{tn42:Nat}{ts42:Array (Option Value)}
  (l42:K.lookup f42=some ⟨oc42,od42,.func (PySem.W.fnOf "put" "Book.put" (cY dq) (cP dq) (ay dq) (.ref dt42) kV42 dc42 pm42 an42 (.ref k_cd) ct42),sl42⟩)
  (t42:K.lookup dt42=some ⟨tc42,td42,.seq #[.none] tn42,ts42⟩)
  (c42:PySem.W.codeIn K (.ref k_cd) "Book.put"=true)
  (k42:PySem.W.keepIn K (.ref f42)=true)
  (d43:qf K k_Book "choose" "Book.choose" kF)
  (d44:qf K k_Book "least_free" "Book.least_free" gY)
  (d45:qf K k_Book "entry" "Book.entry" my)
  (d46:dD K "_law_cell_at" kM)
  (d47:dD K "_law_mixed" nj)
  (d48:dD K "_law_apart" nh)
  (d49:dD K "_law_weights" kS)
  (d50:dD K "_law_code_parts" iD)
  (d51:dD K "_law_many" pN)
  (d52:dD K "_law_entries" kN)
  (d53:dD K "_law_book" pM)
  (d54:dD K "_law_said" pP)
  (d55:dD K "_law_group" ni)
  (d56:dD K "_law_groups" m4)
  (d57:dD K "_law_faulty" mz)
  (d58:dD K "_law_garbled" kO)
  (d59:dD K "_law_refused" kP)
  (a60:PySem.W.nsIn K mainGlobals "law"=some (some (.ref f60)))
  (l60:K.lookup f60=some ⟨oc60,od60,.func (PySem.W.fnOf "law" "law" (cY qF) (cP qF) (ay qF) .none kV60 dc60 pm60 an60 cd60 ct60),sl60⟩)
  (c60:PySem.W.codeIn K cd60 "law"=true)
  (k60:PySem.W.keepIn K (.ref f60)=true)
  (y96:PySem.W.plainGet K k_Code Str.empty=true)
  (y97:PySem.W.hasDictIn K k_Code=true)
  (y98:PySem.W.plainOver K k_Code=true)
  (y99:PySem.W.findIn K (.ref k_Code) "__setattr__"=some (some (.builtin "object.__setattr__")))
  (y100:PySem.W.makesIn K k_Code=true)
  (y101:PySem.W.keepIn K (.ref k_Code)=true)
  (y102:PySem.W.findIn K (.ref k_Code) "letters"=some none)
  (y103:PySem.W.findIn K (.ref k_Code) "factors"=some none)
  (y104:PySem.W.findIn K (.ref k_Code) "remainder"=some none)
  (y105:PySem.W.plainGet K k_Book Str.empty=true)
  (y106:PySem.W.hasDictIn K k_Book=true)
  (y107:PySem.W.plainOver K k_Book=true)
  (y108:PySem.W.findIn K (.ref k_Book) "__setattr__"=some (some (.builtin "object.__setattr__")))
  (y109:PySem.W.makesIn K k_Book=true)
  (y110:PySem.W.keepIn K (.ref k_Book)=true)
  (y111:PySem.W.findIn K (.ref k_Book) "basis"=some none)
  (y112:PySem.W.findIn K (.ref k_Book) "by_number"=some none)
  (y113:PySem.W.findIn K (.ref k_Book) "by_entry"=some none)
  (y114:PySem.W.excIn K k_NoCode [.type "ValueError",.type "Exception",.type "BaseException",.type "object"] "ValueError.__new__"=true)
  (y115:PySem.W.excIn K k_NoNumber [.type "ValueError",.type "Exception",.type "BaseException",.type "object"] "ValueError.__new__"=true)
  (y116:PySem.W.excIn K k_NoWord [.type "ValueError",.type "Exception",.type "BaseException",.type "object"] "ValueError.__new__"=true)
  (y117:PySem.W.excIn K k_NoEntry [.type "ValueError",.type "Exception",.type "BaseException",.type "object"] "ValueError.__new__"=true)
  (y118:PySem.W.excIn K k_Twice [.type "ValueError",.type "Exception",.type "BaseException",.type "object"] "ValueError.__new__"=true)
  (y119:PySem.W.excIn K k_TooMany [.type "ValueError",.type "Exception",.type "BaseException",.type "object"] "ValueError.__new__"=true)
  (y120:PySem.W.specialIn K (.ref k_CableError) "__getattribute__"=some (some (.builtin "type.__getattribute__")))
  (y121:PySem.W.readsIn K k_CableError (.type "type")=true)
  (y122:PySem.W.findCls K (.ref k_CableError) (.type "type") "__init__"=some (.val (.builtin "ValueError.__init__")))
  {nm_NoReading nq_NoReading:Str}{nN_NoReading:Addr}{nb_NoReading nr_NoReading nu_NoReading:Zc}{nh_NoReading na_NoReading:Bool}{ns_NoReading:Ze}{nc_NoReading:Option Bool}{nd_NoReading:Option Addr}{n0_NoReading n1_NoReading n2_NoReading n3_NoReading n5_NoReading:Option Value}
  (y123:K.lookup k_NoReading=some (excClassObj nm_NoReading nq_NoReading k_NoReading nN_NoReading nb_NoReading nr_NoReading nh_NoReading ns_NoReading nu_NoReading na_NoReading nc_NoReading nd_NoReading n0_NoReading n1_NoReading n2_NoReading n3_NoReading n5_NoReading "ValueError.__new__"))
  (y124:PySem.W.nsOkIn K nN_NoReading=true)
  (y125:PySem.W.nsIn K nN_NoReading "__init__"=some (some (.ref f0)))
  (y126:PySem.W.tailIn K Ir nr_NoReading=true)
  (y127:PySem.W.keepIn K (.ref k_NoReading)=true)
  (y128:PySem.W.findIn K (.ref k_NoReading) "__setattr__"=some (some (.builtin "object.__setattr__")))
  (y129:((PySem.W.clsIn K k_NoReading).any fun cd=>oZ cd.mro)=true)
  (y130:PySem.W.takerIn K k_NoReading "at"=some none)
  (y131:PySem.W.hasDictIn K k_NoReading=true)
  (y132:PySem.W.findIn K (.ref k_NoReading) "at"=some none)
  {nm_TooGarbled nq_TooGarbled:Str}{nN_TooGarbled:Addr}{nb_TooGarbled nr_TooGarbled nu_TooGarbled:Zc}{nh_TooGarbled na_TooGarbled:Bool}{ns_TooGarbled:Ze}{nc_TooGarbled:Option Bool}{nd_TooGarbled:Option Addr}{n0_TooGarbled n1_TooGarbled n2_TooGarbled n3_TooGarbled n5_TooGarbled:Option Value}
  (y133:K.lookup k_TooGarbled=some (excClassObj nm_TooGarbled nq_TooGarbled k_TooGarbled nN_TooGarbled nb_TooGarbled nr_TooGarbled nh_TooGarbled ns_TooGarbled nu_TooGarbled na_TooGarbled nc_TooGarbled nd_TooGarbled n0_TooGarbled n1_TooGarbled n2_TooGarbled n3_TooGarbled n5_TooGarbled "ValueError.__new__"))
  (y134:PySem.W.nsOkIn K nN_TooGarbled=true)
  (y135:PySem.W.nsIn K nN_TooGarbled "__init__"=some (some (.ref f1)))
  (y136:PySem.W.tailIn K Ir nr_TooGarbled=true)
  (y137:PySem.W.keepIn K (.ref k_TooGarbled)=true)
  (y138:PySem.W.findIn K (.ref k_TooGarbled) "__setattr__"=some (some (.builtin "object.__setattr__")))
  (y139:((PySem.W.clsIn K k_TooGarbled).any fun cd=>oZ cd.mro)=true)
  (y140:PySem.W.takerIn K k_TooGarbled "places"=some none)
  (y141:PySem.W.hasDictIn K k_TooGarbled=true)
  (y142:PySem.W.findIn K (.ref k_TooGarbled) "places"=some none)
  (y143:PySem.W.exmOne K (.ref k_NoReading) (.ref k_NoReading)=some true)
  (y144:PySem.W.exmOne K (.ref k_TooGarbled) (.ref k_TooGarbled)=some true)
  (tab:PySem.W.codeHdIn K k_cd k_tb=true)
  (err:wI K k_CableError [k_NoCode,k_NoNumber,k_NoWord,k_NoEntry,k_Twice,k_TooMany,k_NoReading,k_TooGarbled]=true)
  (ndx:ndB [k_NoCode,k_NoNumber,k_NoWord,k_NoEntry,k_Twice,k_TooMany,k_NoReading,k_TooGarbled]=true)
  {u_SMALL_LETTERS:Value}
  (y148:PySem.W.nsIn K mainGlobals "SMALL_LETTERS"=some (some u_SMALL_LETTERS))
  (y149:RelV (.str "abcdefghijklmnopqrstuvwxyz") u_SMALL_LETTERS)
  {u_LONGEST_WORD:Value}
  (y150:PySem.W.nsIn K mainGlobals "LONGEST_WORD"=some (some u_LONGEST_WORD))
  (y151:RelV (.int 20) u_LONGEST_WORD)
  {u_MOST_WORDS:Value}
  (y152:PySem.W.nsIn K mainGlobals "MOST_WORDS"=some (some u_MOST_WORDS))
  (y153:RelV (.int 60) u_MOST_WORDS)
  {u_FEWEST_CAME:Value}
  (y154:PySem.W.nsIn K mainGlobals "FEWEST_CAME"=some (some u_FEWEST_CAME))
  (y155:RelV (.int 2) u_FEWEST_CAME)
  {u_MOST_CAME:Value}
  (y156:PySem.W.nsIn K mainGlobals "MOST_CAME"=some (some u_MOST_CAME))
  (y157:RelV (.int 1400) u_MOST_CAME)
  {u_MOST_DOUBTFUL:Value}
  (y158:PySem.W.nsIn K mainGlobals "MOST_DOUBTFUL"=some (some u_MOST_DOUBTFUL))
  (y159:RelV (.int 2) u_MOST_DOUBTFUL)
  {u_MOST_ENTRIES:Value}
  (y160:PySem.W.nsIn K mainGlobals "MOST_ENTRIES"=some (some u_MOST_ENTRIES))
  (y161:RelV (.int 300) u_MOST_ENTRIES)
  {u_MOST_PHRASE_WORDS:Value}
  (y162:PySem.W.nsIn K mainGlobals "MOST_PHRASE_WORDS"=some (some u_MOST_PHRASE_WORDS))
  (y163:RelV (.int 6) u_MOST_PHRASE_WORDS)
  {u_MOST_PART_LETTERS:Value}
  (y164:PySem.W.nsIn K mainGlobals "MOST_PART_LETTERS"=some (some u_MOST_PART_LETTERS))
  (y165:RelV (.int 6) u_MOST_PART_LETTERS)
  (y166:PySem.W.nsIn K mainGlobals "list"=some none)
  (y167:PySem.W.nsIn K mainGlobals "isinstance"=some none)
  (y168:PySem.W.nsIn K mainGlobals "bool"=some none)
  (y169:PySem.W.nsIn K mainGlobals "int"=some none)
  (y170:PySem.W.nsIn K mainGlobals "abs"=some none)
  (y171:PySem.W.nsIn K mainGlobals "all"=some none)
  (y172:PySem.W.nsIn K mainGlobals "zip"=some none)
  (y173:PySem.W.nsIn K mainGlobals "len"=some none)
  (y174:PySem.W.nsIn K mainGlobals "set"=some none)
  (y175:PySem.W.nsIn K mainGlobals "str"=some none)
  (y176:PySem.W.nsIn K mainGlobals "sum"=some none)
  (y177:PySem.W.nsIn K mainGlobals "range"=some none)
  (y178:PySem.W.nsIn K mainGlobals "enumerate"=some none)
  (y179:PySem.W.nsIn K mainGlobals "sorted"=some none)
  (y180:PySem.W.nsIn K mainGlobals "tuple"=some none)
  (y181:PySem.W.nsIn K mainGlobals "min"=some none)
  : (∃ c,PySem.W.codeHdIn K c k_tb=true)/\∃ fd:FuncData,(∀ (s:Zg) (v:Value),BindsTo s fd ⟨[v],[]⟩ [("_law_script",v)])/\∀ base:Heap,K.In base->base.Ns mainGlobals mg->bU l.prog w K mg base (CX1 l.prog w) 9 fa fd ["_law_script"] (Bf K k_tb):=by
 have e:=hfa.symm.trans (cC X G a60);cases e;have T:Bl mg:=⟨dB X G y166,dB X G y167,dB X G y168,dB X G y169,dB X G y170,dB X G y171,dB X G y172,dB X G y173,dB X G y174,dB X G y175,dB X G y176,dB X G y177,dB X G y178,dB X G y179,dB X G y180,dB X G y181⟩;have AF:AdF K mg ⟨k_Code,k_Book,k_CableError,k_NoCode,k_NoNumber,k_NoWord,k_NoEntry,k_Twice,k_TooMany,k_NoReading,k_TooGarbled,k_cd,k_tb,()⟩:=⟨cC X G y0,cC X G y1,cC X G y2,cC X G y3,cC X G y4,cC X G y5,cC X G y6,cC X G y7,cC X G y8,cC X G y9,cC X G y10,⟨y96,y97,y98,y99⟩,y102,y103,y104,⟨y105,y106,y107,y108⟩,y111,y112,y113,y114,y115,y116,y117,y118,y119,⟨y120,y121,y122⟩,⟨_,⟨⟨_,_,_,_,_,_,_,_,_,_,_,_,_,_,_,_,y123,y124,y125,y126⟩,i0,y127⟩⟩,⟨y128,y129,y130,y131⟩,y132,⟨_,⟨⟨_,_,_,_,_,_,_,_,_,_,_,_,_,_,_,_,y133,y134,y135,y136⟩,i1,y137⟩⟩,⟨y138,y139,y140,y141⟩,y142,y143,y144,tab,err,ndx,⟨_,cC X G y148,y149⟩,⟨_,cC X G y150,y151⟩,⟨_,cC X G y152,y153⟩,⟨_,cC X G y154,y155⟩,⟨_,cC X G y156,y157⟩,⟨_,cC X G y158,y159⟩,⟨_,cC X G y160,y161⟩,⟨_,cC X G y162,y163⟩,⟨_,cC X G y164,y165⟩⟩;have F0:=pb (st:=dF) l0 c0 k0;have F1:=pb (st:=df) l1 c1 k1;have F13:=pb (st:=gQ) l13 c13 k13;have F40:=pb (st:=gP) l40 c40 k40;have F42:=IE (st:=dq) l42 c42 k42;have F60:=pb (st:=qF) l60 c60 k60;refine⟨⟨_,tab⟩,PySem.W.fnOf "law" "law" (cY qF) (cP qF) (ay qF) .none kV60 dc60 pm60 an60 cd60 ct60,fun s v=>.of_eq rfl,fun base _ _=>?_⟩;have Z {k:Nat}{x:Str}{st:Stmt}{ps:Ze}{sp:Sp}:=@dD.fnc l.prog w K h base mg k x st ps sp X G;have Y {k:Nat}{m q:Str}{st:Stmt}{C:Addr}{ps:Ze}{sp:Sp}:=@qf.mtd l.prog w K base mg k m q st C ps sp;have b0:=F0.binds (ps:=["self","at"]) fun _ _ _ _ _ _=>L2.cX fun _ _=>rfl;have K_NoReading:EB l.prog w K mg base (CX1 l.prog w) k_NoReading "NoReading" 1 ["self","at"] (fK (⟨k_Code,k_Book,k_CableError,k_NoCode,k_NoNumber,k_NoWord,k_NoEntry,k_Twice,k_TooMany,k_NoReading,k_TooGarbled,k_cd,k_tb,()⟩:Ads)):=⟨⟨f0,_,qx F0 T AF ,⟨⟨_,_,_,_,_,_,_,_,_,_,_,_,_,_,_,_,y123,y124,y125,y126⟩,i0,y127⟩,b0⟩,AF.g_NoReading⟩;have b1:=F1.binds (ps:=["self","places"]) fun _ _ _ _ _ _=>L2.cX fun _ _=>rfl;have K_TooGarbled:EB l.prog w K mg base (CX1 l.prog w) k_TooGarbled "TooGarbled" 1 ["self","places"] (fh (⟨k_Code,k_Book,k_CableError,k_NoCode,k_NoNumber,k_NoWord,k_NoEntry,k_Twice,k_TooMany,k_NoReading,k_TooGarbled,k_cd,k_tb,()⟩:Ads)):=⟨⟨f1,_,pz F1 T AF ,⟨⟨_,_,_,_,_,_,_,_,_,_,_,_,_,_,_,_,y133,y134,y135,y136⟩,i1,y137⟩,b1⟩,AF.g_TooGarbled⟩;have C_is_whole:=Z d2 (fun _ _ F=>yJ F T AF ) fun _ _ _ _ _ _=>L2.bind1 fun _=>rfl;have C_common_divisor:=Z d3 (fun _ _ F=>qy F T AF ) fun _ _ _ _ _ _=>L2.cX fun _ _=>rfl;have C_is_alphabet:=Z d5 (fun _ _ F=>u5 F T AF ) fun _ _ _ _ _ _=>L2.bind1 fun _=>rfl;have C_is_word:=Z d8 (fun _ _ F=>AB F T AF ) fun _ _ _ _ _ _=>L2.oT fun _ _ _=>rfl;have C_places_of:=Z d9 (fun _ _ F=>xo F T AF ) fun _ _ _ _ _ _=>L2.cX fun _ _=>rfl;have C_spelled:=Z d10 (fun _ _ F=>AE F T AF ) fun _ _ _ _ _ _=>L2.cX fun _ _=>rfl;have C_are_good:=Z d11 (fun _ _ F=>yC F T AF ) fun _ _ _ _ _ _=>L2.xV fun _ _ _ _=>rfl;have M_Code_alphabet:=Y AF.c_Code d14 (fun _ _ F=>rO F T AF ) fun _ _ _ _ _ _=>L2.bind1 fun _=>rfl;have M_Code_weights:=Y AF.c_Code d15 (fun _ _ F=>sX F T AF ) fun _ _ _ _ _ _=>L2.bind1 fun _=>rfl;have M_Code_many:=Y AF.c_Code d16 (fun _ _ F=>xf F T AF ) fun _ _ _ _ _ _=>L2.bind1 fun _=>rfl;have C_by_exchange:=Z d20 (fun _ _ F=>u4 F T AF ) fun _ _ _ _ _ _=>L2.cX fun _ _=>rfl;have C_by_swap:=Z d21 (fun _ _ F=>A8 F T AF ) fun _ _ _ _ _ _=>L2.bind1 fun _=>rfl;have C_with_each:=Z d24 (fun _ _ F=>xp F T AF ) fun _ _ _ _ _ _=>L2.oT fun _ _ _=>rfl;have C_are_letters:=Z d25 (fun _ _ F=>uy F T AF ) fun _ _ _ _ _ _=>L2.cX fun _ _=>rfl;have C_can_stand:=Z d28 (fun _ _ F=>xj F T AF ) fun _ _ _ _ _ _=>L2.oT fun _ _ _=>rfl;have b40:=F40.binds (ps:=["self","code"]) fun _ _ _ _ _ _=>L2.cX fun _ _=>rfl;have K_Book:Mak l.prog w K mg base (CX1 l.prog w) k_Book "Book" 1 ["self","code"] (m6 (⟨k_Code,k_Book,k_CableError,k_NoCode,k_NoNumber,k_NoWord,k_NoEntry,k_Twice,k_TooMany,k_NoReading,k_TooGarbled,k_cd,k_tb,()⟩:Ads)):=⟨⟨f40,_,xb F40 T AF ,⟨y109,a40,i40,y110⟩,b40⟩,AF.g_Book⟩;have M_Book_code:=Y AF.c_Book d41 (fun _ _ F=>wZ F T AF ) fun _ _ _ _ _ _=>L2.bind1 fun _=>rfl;have C_law_cell_at:=Z d46 (fun _ _ F=>u6 F T AF ) fun _ _ _ _ _ _=>L2.cX fun _ _=>rfl;have C_law_mixed:=Z d47 (fun _ _ F=>xm F T AF ) fun _ _ _ _ _ _=>L2.bind1 fun _=>rfl;have C_law_apart:=Z d48 (fun _ _ F=>xk F T AF ) fun _ _ _ _ _ _=>L2.cX fun _ _=>rfl;have C_law_many:=Z d51 (fun _ _ F=>yL F T AF ) fun _ _ _ _ _ _=>L2.bind1 fun _=>rfl;have C_law_said:=Z d54 (fun _ _ F=>yM F T AF ) fun _ _ _ _ _ _=>L2.cX fun _ _=>rfl;have C_law_group:=Z d55 (fun _ _ F=>xl F T AF ) fun _ _ _ _ _ _=>L2.oT fun _ _ _=>rfl;have C_law_faulty:=Z d57 (fun _ _ F=>vo F T AF ) fun _ _ _ _ _ _=>L2.oT fun _ _ _=>rfl;have C_are_safe:=Z d4 (fun _ _ F=>yD F T AF C_common_divisor) fun _ _ _ _ _ _=>L2.cX fun _ _=>rfl;have C_is_below:=Z d6 (fun _ _ F=>yG F T AF C_is_whole) fun _ _ _ _ _ _=>L2.cX fun _ _=>rfl;have C_is_good:=Z d12 (fun _ _ F=>A9 F T AF C_are_good C_places_of C_is_word) fun _ _ _ _ _ _=>L2.xV fun _ _ _ _=>rfl;have C_faulty:=Z d22 (fun _ _ F=>DZ F T AF C_by_exchange C_by_swap C_spelled C_places_of C_is_word M_Code_weights M_Code_alphabet) fun _ _ _ _ _ _=>L2.cX fun _ _=>rfl;have C_are_words:=Z d26 (fun _ _ F=>xi F T AF C_are_letters) fun _ _ _ _ _ _=>L2.cX fun _ _=>rfl;have C_check_number:=Z d30 (fun _ _ F=>sZ F T AF M_Code_many) fun _ _ _ _ _ _=>L2.cX fun _ _=>rfl;have C_are_words_of:=Z d34 (fun _ _ F=>sY F T AF C_is_word M_Code_alphabet M_Code_weights) fun _ _ _ _ _ _=>L2.cX fun _ _=>rfl;have M_Book_least_free:=Y AF.c_Book d44 (fun _ _ F=>pq F T AF M_Code_many) fun _ _ _ _ _ _=>L2.cX fun _ _=>rfl;have C_law_weights:=Z d49 (fun _ _ F=>uB F T AF C_law_apart) fun _ _ _ _ _ _=>L2.oT fun _ _ _=>rfl;have C_law_entries:=Z d52 (fun _ _ F=>u7 F T AF C_law_many C_law_mixed C_law_cell_at) fun _ _ _ _ _ _=>L2.cX fun _ _=>rfl;have C_law_groups:=Z d56 (fun _ _ F=>vp F T AF C_law_group C_law_mixed) fun _ _ _ _ _ _=>L2.cX fun _ _=>rfl;have C_law_garbled:=Z d58 (fun _ _ F=>u9 F T AF C_law_faulty) fun _ _ _ _ _ _=>L2.xV fun _ _ _ _=>rfl;have C_are_weights:=Z d7 (fun _ _ F=>uz F T AF C_is_below) fun _ _ _ _ _ _=>L2.cX fun _ _=>rfl;have M_Code_word:=Y AF.c_Code d17 (fun _ _ F=>xh F T AF C_spelled C_are_good C_is_below M_Code_many) fun _ _ _ _ _ _=>L2.cX fun _ _=>rfl;have M_Code_has_good:=Y AF.c_Code d19 (fun _ _ F=>rP F T AF C_is_good) fun _ _ _ _ _ _=>L2.cX fun _ _=>rfl;have C_is_text:=Z d27 (fun _ _ F=>AA F T AF C_are_words) fun _ _ _ _ _ _=>L2.bind1 fun _=>rfl;have C_is_entry:=Z d39 (fun _ _ F=>yH F T AF C_are_letters C_are_words) fun _ _ _ _ _ _=>L2.bind1 fun _=>rfl;have M_Book_entry:=Y AF.c_Book d45 (fun _ _ F=>vn F T AF C_is_below M_Code_many) fun _ _ _ _ _ _=>L2.cX fun _ _=>rfl;have C_law_code_parts:=Z d50 (fun _ _ F=>qz F T AF C_law_weights C_law_mixed C_law_cell_at) fun _ _ _ _ _ _=>L2.bind1 fun _=>rfl;have b13:=F13.binds (ps:=["self","alphabet","weights","rest"]) fun _ _ _ _ _ _=>L2.xV fun _ _ _ _=>rfl;have K_Code:Mak l.prog w K mg base (CX1 l.prog w) k_Code "Code" 4 ["self","alphabet","weights","rest"] (hO (⟨k_Code,k_Book,k_CableError,k_NoCode,k_NoNumber,k_NoWord,k_NoEntry,k_Twice,k_TooMany,k_NoReading,k_TooGarbled,k_cd,k_tb,()⟩:Ads)):=⟨⟨f13,_,xc F13 T AF C_are_safe C_is_below C_are_weights C_is_alphabet,⟨y100,a13,i13,y101⟩,b13⟩,AF.g_Code⟩;have M_Code_number:=Y AF.c_Code d18 (fun _ _ F=>ux F T AF C_places_of M_Code_has_good) fun _ _ _ _ _ _=>L2.cX fun _ _=>rfl;have C_nearest:=Z d23 (fun _ _ F=>AD F T AF C_faulty M_Code_has_good) fun _ _ _ _ _ _=>L2.cX fun _ _=>rfl;have C_said:=Z d29 (fun _ _ F=>IS F T AF C_can_stand M_Book_entry K_NoReading) fun _ _ _ _ _ _=>L2.cX fun _ _=>rfl;have C_check_of:=Z d31 (fun _ _ F=>yE F T AF C_check_number M_Code_word) fun _ _ _ _ _ _=>L2.cX fun _ _=>rfl;have M_Book_choose:=Y AF.c_Book d43 (fun _ _ F=>uw F T AF C_is_below C_is_entry M_Book_least_free M_Code_many) fun _ _ _ _ _ _=>L2.xV fun _ _ _ _=>rfl;have C_telegram:=Z d32 (fun _ _ F=>yO F T AF C_check_of C_said M_Code_word M_Book_code) fun _ _ _ _ _ _=>L2.cX fun _ _=>rfl;have C_is_sound:=Z d33 (fun _ _ F=>yI F T AF M_Book_entry M_Code_number M_Code_has_good M_Book_code) fun _ _ _ _ _ _=>L2.oT fun _ _ _=>rfl;have C_text_of:=Z d37 (fun _ _ F=>AG F T AF C_said C_check_number M_Book_code) fun _ _ _ _ _ _=>L2.cX fun _ _=>rfl;have b42:Binds K (PySem.W.fnOf "put" "Book.put" (cY dq) (cP dq) (ay dq) (.ref dt42) kV42 dc42 pm42 an42 (.ref k_cd) ct42) ["self","entry","number"] []:=fun s us hK hl=>by rcases us with _ | ⟨_,_ | ⟨_,_ | ⟨_,_ | _⟩⟩⟩<;>first | (simp at hl;done) | exact .of_defaults rfl (hK _ _ t42) rfl rfl rfl
 have bd42:Binds K (PySem.W.fnOf "put" "Book.put" (cY dq) (cP dq) (ay dq) (.ref dt42) kV42 dc42 pm42 an42 (.ref k_cd) ct42) ["self","entry","number"] [.none]:=fun s us hK hl=>by rcases us with _ | ⟨_,_ | ⟨_,_ | _⟩⟩<;>first | (simp at hl;done) | exact .of_defaults rfl (hK _ _ t42) rfl rfl rfl
 have M_Book_put:Mtd l.prog w K mg base (CX1 l.prog w) k_Book "put" 5 ["self","entry","number"] (iU (⟨k_Code,k_Book,k_CableError,k_NoCode,k_NoNumber,k_NoWord,k_NoEntry,k_Twice,k_TooMany,k_NoReading,k_TooGarbled,k_cd,k_tb,()⟩:Ads)):=⟨⟨f42,_,sE F42 T AF rfl M_Book_choose,⟨a42,i42,k42⟩,b42⟩,AF.c_Book⟩;have D_Book_put:Ng l.prog w K mg base (CX1 l.prog w) k_Book "put" 5 ["self","entry","number"] (iU (⟨k_Code,k_Book,k_CableError,k_NoCode,k_NoNumber,k_NoWord,k_NoEntry,k_Twice,k_TooMany,k_NoReading,k_TooGarbled,k_cd,k_tb,()⟩:Ads)):=⟨⟨f42,_,sE F42 T AF rfl M_Book_choose,⟨a42,i42,k42⟩,bd42⟩,AF.c_Book⟩;have C_doubtful:=Z d35 (fun _ _ F=>yF F T AF C_is_sound C_are_words_of M_Book_code) fun _ _ _ _ _ _=>L2.cX fun _ _=>rfl;have C_may_stand:=Z d36 (fun _ _ F=>xn F T AF C_nearest C_is_sound M_Code_number M_Book_code) fun _ _ _ _ _ _=>L2.oT fun _ _ _=>rfl;have C_law_book:=Z d53 (fun _ _ F=>yK F T AF M_Book_put K_Book) fun _ _ _ _ _ _=>L2.cX fun _ _=>rfl;have C_readings:=Z d38 (fun _ _ F=>yN F T AF C_text_of C_with_each C_may_stand C_doubtful M_Code_has_good M_Code_number M_Book_code K_TooGarbled) fun _ _ _ _ _ _=>L2.cX fun _ _=>rfl;have C_law_refused:=Z d59 (fun _ _ F=>uA F T AF C_readings) fun _ _ _ _ _ _=>L2.oT fun _ _ _=>rfl;exact Lj F60 T AF C_readings C_law_refused C_law_garbled C_is_text C_doubtful C_law_mixed C_law_cell_at C_telegram C_law_said C_law_groups C_law_book C_law_entries C_law_code_parts K_Code
end Kb
open PySem PySem.W PyProof.Rows
local macro_rules | `(tactic| ac_rfl) => `(tactic| first | (refine' L2.Im ?a ?l ?c ?k; (case a => k_is); (case l => k_is); (case c => k_is); (case k => k_is)) | (refine' L2.Io ?a ?i ?l ?c ?k; (case a => k_is); (case i => k_is); (case l => k_is); (case c => k_is); (case k => k_is)))
set_option maxRecDepth 100000 in
set_option maxHeartbeats 0 in
theorem Hk.Na:Hk.top.c:=by
 delta Hk.top
 dsimp only
 k_fill
 refine L2.Hz (l:=PySem.Challenge.rw_cablehouse_k25_whole_two_faults) (n:=63) (k:=9) (x:="_law_script") (CX:=fun w=>L2.CX1 PySem.Challenge.rw_cablehouse_k25_whole_two_faults.prog w) (sp:=fun w=>Kb.Bf _ _) Kb.vk rfl Zd rfl ⟨rfl,Zd,Zd⟩ (fun w h Y=>⟨PySem.W.km_in_of Y,PySem.W.km_tabs_of Y _ (List.Mem.head _)⟩) ?F (fun w=>by ext) (fun _ _ a ns hl hS hT=>⟨a,ns,rfl,hS,hl,hT,fun _=>rfl⟩) fun _ _ _ _ _ z=>L2.vH z
 case F =>
  intro w mg fa h KX G hmg;refine' Kb.all_mk KX G hmg ?y0 ?y1 ?y2 ?y3 ?y4 ?y5 ?y6 ?y7 ?y8 ?y9 ?y10 ?a0 ?i0 ?l0 ?c0 ?k0 ?a1 ?i1 ?l1 ?c1 ?k1 ?d2 ?d3 ?d4 ?d5 ?d6 ?d7 ?d8 ?d9 ?d10 ?d11 ?d12 ?a13 ?i13 ?l13 ?c13 ?k13 ?d14 ?d15 ?d16 ?d17 ?d18 ?d19 ?d20 ?d21 ?d22 ?d23 ?d24 ?d25 ?d26 ?d27 ?d28 ?d29 ?d30 ?d31 ?d32 ?d33 ?d34 ?d35 ?d36 ?d37 ?d38 ?d39 ?a40 ?i40 ?l40 ?c40 ?k40 ?d41 ?a42 ?i42 ?l42 ?t42 ?c42 ?k42 ?d43 ?d44 ?d45 ?d46 ?d47 ?d48 ?d49 ?d50 ?d51 ?d52 ?d53 ?d54 ?d55 ?d56 ?d57 ?d58 ?d59 ?a60 ?l60 ?c60 ?k60 ?y96 ?y97 ?y98 ?y99 ?y100 ?y101 ?y102 ?y103 ?y104 ?y105 ?y106 ?y107 ?y108 ?y109 ?y110 ?y111 ?y112 ?y113 ?y114 ?y115 ?y116 ?y117 ?y118 ?y119 ?y120 ?y121 ?y122 ?y123 ?y124 ?y125 ?y126 ?y127 ?y128 ?y129 ?y130 ?y131 ?y132 ?y133 ?y134 ?y135 ?y136 ?y137 ?y138 ?y139 ?y140 ?y141 ?y142 ?y143 ?y144 ?tab ?err ?ndx ?y148 ?y149 ?y150 ?y151 ?y152 ?y153 ?y154 ?y155 ?y156 ?y157 ?y158 ?y159 ?y160 ?y161 ?y162 ?y163 ?y164 ?y165 ?y166 ?y167 ?y168 ?y169 ?y170 ?y171 ?y172 ?y173 ?y174 ?y175 ?y176 ?y177 ?y178 ?y179 ?y180 ?y181
  (case y0 | y1 | y2 | y3 | y4 | y5 | y6 | y7 | y8 | y9 | y10 | a0 | i0 | l0 | c0 | k0 | a1 | i1 | l1 | c1 | k1=>k_is)
  (case d2 | d3 | d4 | d5 | d6 | d7 | d8 | d9 | d10 | d11 | d12=>ac_rfl)
  (case a13 | i13 | l13 | c13 | k13=>k_is)
  (case d14 | d15 | d16 | d17 | d18 | d19 | d20 | d21 | d22 | d23 | d24 | d25 | d26 | d27 | d28 | d29 | d30 | d31 | d32 | d33 | d34 | d35 | d36 | d37 | d38 | d39=>ac_rfl)
  (case a40 | i40 | l40 | c40 | k40=>k_is)
  (case d41=>ac_rfl)
  (case a42 | i42 | l42 | t42 | c42 | k42=>k_is)
  (case d43 | d44 | d45 | d46 | d47 | d48 | d49 | d50 | d51 | d52 | d53 | d54 | d55 | d56 | d57 | d58 | d59=>ac_rfl)
  (case a60 | l60 | c60 | k60 | y96 | y97 | y98 | y99 | y100 | y101 | y102 | y103 | y104 | y105 | y106 | y107 | y108 | y109 | y110 | y111 | y112 | y113=>k_is)
  (case y114 | y115 | y116 | y117 | y118 | y119 | y120 | y121 | y122=>ext)
  (case y123=>k_is)
  (case y124 | y125 | y126 | y127 | y128 | y129 | y130 | y131 | y132=>ext)
  (case y133=>k_is)
  (case y134 | y135 | y136 | y137 | y138 | y139 | y140 | y141 | y142 | y143 | y144 | tab | err | ndx=>ext)
  (case y148=>k_is)
  (case y149=>exact⟨_,rfl⟩)
  (case y150=>k_is)
  (case y151=>exact⟨_,rfl⟩)
  (case y152=>k_is)
  (case y153=>exact⟨_,rfl⟩)
  (case y154=>k_is)
  (case y155=>exact⟨_,rfl⟩)
  (case y156=>k_is)
  (case y157=>exact⟨_,rfl⟩)
  (case y158=>k_is)
  (case y159=>exact⟨_,rfl⟩)
  (case y160=>k_is)
  (case y161=>exact⟨_,rfl⟩)
  (case y162=>k_is)
  (case y163=>exact⟨_,rfl⟩)
  (case y164=>k_is)
  (case y165=>exact⟨_,rfl⟩)
  (case y166 | y167 | y168 | y169 | y170 | y171 | y172 | y173 | y174 | y175 | y176 | y177 | y178 | y179 | y180 | y181=>k_is)
theorem PySem.Challenge.cw_cablehouse_k25_whole_two_faults_holds : PySem.Challenge.rw_cablehouse_k25_whole_two_faults.Holds :=
 Hk.top.go Hk.MR Hk.MS Hk.MT Hk.MU Hk.MV Hk.MW Hk.MX Hk.MY Hk.MZ Hk.Nb Hk.Na
