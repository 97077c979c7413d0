import PyProof.Rows.All
import Wide.All
import OpenK.AllK
import Wide.FinOn
import Lean
import PyProof.EqAt
import PyProof.EqKinds
import PyProof.TupleCall
import PySem.Challenge.RW_cablehouse_k51_whole_asked_again
set_option Elab.async false
set_option linter.all false
set_option maxRecDepth 100000
local macro_rules | `(tactic| left) => `(tactic| first | assumption | lia | omega)
local macro_rules | `(⋯) => `(by left)
local macro_rules | `(⇑$x) => `(($x).length)
local macro_rules | `(tactic| nofun) => `(tactic| decide +kernel)
local macro_rules | `(tactic| ext) => `(tactic| kernel_rfl)
abbrev Zq:=PySem.Value->PySem.Shared->Prop
abbrev Zf:=PySem.W.Frag
abbrev Zp:=List (PySem.Addr×PySem.Obj)
theorem Zd {p:Prop}[Decidable p] (h:decide p=true:=by rfl):p:=of_decide_eq_true h
abbrev Zk:=PySem.Str->Option PySem.Value
abbrev Za:=List Nat
abbrev Zb:=List Int
abbrev Zc:=List PySem.Value
abbrev Ze:=List PySem.Str
abbrev Zg:=PySem.Shared
abbrev Zh:=PySem.Program
abbrev Zi:=PySem.World
abbrev Zv:List PySem.Value:=[.type "ValueError",.type "Exception",.type "BaseException",.type "object"]
namespace Hd
open PySem PySem.W PyProof.Rows
theorem LY {b1 b2 b3 a:Prop} (main:a) (hl:b1) (hw:b2) (hc:b3):a:=main
structure LB (r:Prop) where
  l1:Prop
  l2:Prop
  l3:Prop
  l4:Prop
  l5:Prop
  l6:Prop
  l7:Prop
  l8:Prop
  l9:Prop
  la:Prop
  lb:Prop
  ld:Prop
  le:Prop
  h:Prop
  c:Prop
  go:l1->l2->l3->l4->l5->l6->l7->l8->l9->la->lb->ld->le->h->c->r
theorem two {σ α β γ:Type}{x:Zi->OsState->Option σ}{as:List α}{f:σ->α->β}{h:σ->γ}{g:Zi->List β}{e:Zi->γ} (n:Nat)
    (h1:∀ w os,(x w os).map (fun s=>(as.take n).map (f s))=some ((g w).take n)) (h2:∀ w os,(x w os).map (fun s=>((as.drop n).map (f s),h s))=some ((g w).drop n,e w)):∀ w os,(x w os).map (fun s=>(as.map (f s),h s))=some (g w,e w):=fun w os=>by
  obtain⟨s,e0,e1⟩:=Option.map_eq_some_iff.mp (h1 w os);have e2:=h2 w os;rw[e0] at e2 ⊢;have e2:=Option.some.inj e2;simp only[Prod.mk.injEq] at e2;refine congrArg some (Prod.ext ?_ e2.2);show as.map (f s)=g w;rw[←List.take_append_drop n as,List.map_append,e1,e2.1,List.take_append_drop]
noncomputable def tree:List Obj->Nat->BT->BT
  | [],_,t=>t
  | o::l,n,t=>tree l (n+1) (t.ins n o)
noncomputable def Ą (st:SharedT->Thread->Option (SharedT×Thread)) (ok:Thread->Bool):Nat->SharedT->Thread->Option SharedT
  | 0,_,_=>none
  | n+1,s,t=>match through t with
    | true=>some s
    | false=>match ok t with
      | false=>none
      | true=>match st s t with
        | some (s',t')=>Ą st ok n s' t'
        | none=>none
theorem Fs {tb:String->Option Builtin}{p:Zh}{w:Zi}{n₀:Nat}{ann:Option Value}:∀ {n:Nat}{s s':SharedT}{t:Thread},Ą (stepT (denote tb) p w) (stepOk n₀ ann) n s t=some s'->topRun tb p w n₀ ann n s.abs t=some s'.abs
  | 0,_,_,_,h=>nomatch h
  | n+1,s,s',t,h=>by
    unfold Ą at h;unfold topRun;cases ht:through t with
    | true=>rw[ht] at h;cases h;rfl
    | false =>
      rw[ht] at h;cases hk:stepOk n₀ ann t with
      | false=>rw[hk] at h;cases h
      | true =>
        rw[hk] at h;cases hs:stepT (denote tb) p w s t with
        | none=>rw[hs] at h;cases h
        | some r=>obtain⟨s₂,t₂⟩:=r;rw[hs] at h;rw[stepT_spec hs];exact Fs h
noncomputable def boot (w:Zi) (os:OsState):SharedT:=⟨tree (boot_heap w.params).objs.toList 0 .nil,(boot_heap w.params).objs.size,(boot_heap w.params).life,#[],boot_drawn,boot_toks,os⟩
noncomputable def ÿ (p:Zh) (N:Nat) (w:Zi) (os:OsState):Option SharedT:=Ą (stepT (denote treeTable) p w) (stepOk 11 (some (.ref 6))) N (boot w os) (topStub p)
theorem CI (P:Params):absHeap (tree (boot_heap P).objs.toList 0 .nil) (boot_heap P).objs.size (boot_heap P).life=boot_heap P:=by ext
theorem CH (P:Params):((boot_heap P).isNs mainGlobals,(boot_heap P).objs.size,(boot_heap P).nsMap mainGlobals "__annotations__")=(true,11,some (.ref 6)):=by ext
theorem six {σ α β γ δ ε ζ η θ ι:Type}{x:Zi->OsState->Option σ}{f1:σ->α}{f2:σ->β}{f3:σ->γ}{f4:σ->δ}{f5:σ->ε}{f6:σ->ζ}{f7:σ->η}{f8:σ->θ}{f9:σ->ι}{g1:α}{g2:β}{g3:γ}{g4:δ}{g5:ε}{g6:ζ}{g7:η}{g8:θ}{g9:ι}
    (h1:∀ w os,(x w os).map (fun s=>f1 s)=some g1) (h2:∀ w os,(x w os).map (fun s=>(f2 s,f3 s))=some (g2,g3)) (h3:∀ w os,(x w os).map (fun s=>(f4 s,f5 s))=some (g4,g5)) (h4:∀ w os,(x w os).map (fun s=>f6 s)=some g6)
    (h5:∀ w os,(x w os).map (fun s=>(f7 s,f8 s))=some (g7,g8)) (h6:∀ w os,(x w os).map (fun s=>f9 s)=some g9):∀ w os,(x w os).map (fun s=>(f1 s,f2 s,f3 s,f4 s,f5 s,f6 s,f7 s,f8 s,f9 s))=some (g1,g2,g3,g4,g5,g6,g7,g8,g9):=fun w os=>by
  obtain⟨s,e,e1⟩:=Option.map_eq_some_iff.mp (h1 w os);have e2:=h2 w os;have e3:=h3 w os;have e4:=h4 w os;have e5:=h5 w os;have e6:=h6 w os;rw[e] at e2 e3 e4 e5 e6 ⊢;have e2:=Option.some.inj e2;have e3:=Option.some.inj e3;have e4:=Option.some.inj e4;have e5:=Option.some.inj e5;have e6:=Option.some.inj e6;simp only[Prod.mk.injEq] at e2 e3 e5;exact congrArg some (Prod.ext e1 (Prod.ext e2.1 (Prod.ext e2.2 (Prod.ext e3.1 (Prod.ext e3.2 (Prod.ext e4 (Prod.ext e5.1 (Prod.ext e5.2 e6))))))))
theorem pair {σ α β:Type}{x:Zi->OsState->Option σ}{f:σ->α}{g:σ->β}{a:α}{b:β} (h1:∀ w os,(x w os).map (fun s=>f s)=some a) (h2:∀ w os,(x w os).map (fun s=>g s)=some b):∀ w os,(x w os).map (fun s=>(f s,g s))=some (a,b):=fun w os=>by obtain⟨s,e,e1⟩:=Option.map_eq_some_iff.mp (h1 w os);have e2:=h2 w os;rw[e] at e2 ⊢;exact congrArg some (Prod.ext e1 (Option.some.inj e2))
theorem both {σ:Type}{x:Zi->OsState->Option σ}{a b c d e f g:σ->Bool} (h1:∀ w os,(x w os).map (fun s=>a s)=some true) (h2:∀ w os,(x w os).map (fun s=>b s&&c s&&d s&&e s&&f s&&g s)=some true):∀ w os,(x w os).map (fun s=>a s&&b s&&c s&&d s&&e s&&f s&&g s)=some true:=fun w os=>by obtain⟨s,z,z1⟩:=Option.map_eq_some_iff.mp (h1 w os);have z2:=h2 w os;rw[z] at z2 ⊢;refine (congrArg some ?_).trans z2;show (a s&&b s&&c s&&d s&&e s&&f s&&g s)=(b s&&c s&&d s&&e s&&f s&&g s);rw[show a s=true from z1,Bool.true_and]
theorem left {p q:Zh}{loose:Ze}{Xt:Zg->Bool}{α:Type}{Yf:Zg->α}{Ya:Zi->α}{N:Nat}{g0:Bool}
    (e:opening p=plainProg p.main.scope.names) (hN:Nat.ble 600 N=true) (f:∀ s,fenceModules? p s=some s)
    (r1:∀ w os,(ÿ p N w os).map (fun s=>staticsOk (importedModules p.main.body) (boot_heap w.params) s.abs.heap&&namesBound p s.abs.heap&&gensDone s.abs&&laidKept (boot_heap w.params) s.abs.heap)=some true)
    (r2:∀ w os,(ÿ p N w os).map (fun s=>openSeen q loose (importedModules p.main.body) Xt g0 s.abs)=some (openGood q loose))
    (r3:∀ w os,(ÿ p N w os).map (fun s=>Yf s.abs)=some (Ya w)):LeftO p q loose Xt Yf Ya N g0:=fun w=>by
  obtain⟨⟨h,gs,d,k,os⟩,e,e'⟩:=Option.map_eq_some_iff.mp (boot_open e hN f w);obtain⟨rfl,rfl,rfl,rfl⟩:h=boot_heap w.params/\gs=#[]/\d=boot_drawn/\k=boot_toks:=by simpa using e'
  obtain⟨z1,z2,z3⟩:_/\_/\_:=by simpa only[Prod.mk.injEq] using CH w.params
  obtain⟨s',r,l1⟩:=Option.map_eq_some_iff.mp (r1 w os);have l2:=r2 w os;have l3:=r3 w os;rw[r] at l2 l3;have l2:=Option.some.inj l2;have l3:=Option.some.inj l3;unfold ÿ at r;have r:=Fs r;have hB:(boot w os).abs=⟨boot_heap w.params,#[],boot_drawn,boot_toks,os⟩:=by unfold boot SharedT.abs;rw[CI]
  rw[hB] at r;have t:topFrom treeTable p w N ⟨boot_heap w.params,#[],boot_drawn,boot_toks,os⟩=some s'.abs:=by unfold topFrom;dsimp only;rw[z1,z2,z3,r];show (match staticsOk (importedModules p.main.body) (boot_heap w.params) s'.abs.heap&&namesBound p s'.abs.heap&&gensDone s'.abs&&laidKept (boot_heap w.params) s'.abs.heap with | true=>_ | false=>_)=_;rw[l1]
  unfold openEnds;rw[e];show (topFrom treeTable p w N _).map _=_;rw[t];exact congrArg some (Prod.ext l2 l3)
theorem jr:@ÿ=fun p N w os=>Ą (PySem.W.Fast.tw10156331382660048174 (denote PySem.W.Fast.tw14364793385576792824) p w) (PySem.W.Fast.tw6613529449190102663 11 (some (.ref 6))) N (boot w os) (topStub p):=by unfold ÿ;rw[PySem.W.Fast.te10156331382660048174,PySem.W.Fast.te6613529449190102663,PySem.W.Fast.te14364793385576792824]
end Hd
section
open PySem PySem.W PyProof.Rows
set_option maxHeartbeats 0
noncomputable def Hk.top:Hd.LB PySem.Challenge.rw_cablehouse_k51_whole_asked_again.Holds:=by
  apply Hd.LB.mk
  case go =>
    intro x1 x2 x3 x4 x5 x6 x7 x8 x9 xa xb xd xe y z
    w_on;refine PySem.W.holds_law (by have e:PySem.Challenge.rw_cablehouse_k51_whole_asked_again.row.wellSaid=true:=xa;unfold PySem.W.OpenLaw.wellSaid;rw[e];exact xb) fun said=>?_
    apply Hd.LY
    case main=>k_head
    case hl=>exact Hd.left (by ext) Zd (fun _=>by ext) x1 (Hd.six x2 (Hd.pair x4 (Hd.both xd xe)) x5 x6 x7 x8) (Hd.two 180 x3 x9)
    case hw=>exact y
    case hc=>exact z
theorem Hk.M9:Hk.top.l1:=by
  delta Hk.top
  dsimp only;intro w os;rw[Hd.jr]
  ext
theorem Hk.MA:Hk.top.l2:=by
  delta Hk.top
  dsimp only;intro w os;rw[Hd.jr]
  ext
theorem Hk.MB:Hk.top.l3:=by
  delta Hk.top
  dsimp only;intro w os;rw[Hd.jr]
  ext
theorem Hk.MC:Hk.top.l4:=by
  delta Hk.top
  dsimp only;intro w os;rw[Hd.jr]
  ext
theorem Hk.MD:Hk.top.l5:=by
  delta Hk.top
  dsimp only;intro w os;rw[Hd.jr]
  ext
theorem Hk.ME:Hk.top.l6:=by
  delta Hk.top
  dsimp only;intro w os;rw[Hd.jr]
  ext
theorem Hk.MF:Hk.top.l7:=by
  delta Hk.top
  dsimp only;intro w os;rw[Hd.jr]
  ext
theorem Hk.MG:Hk.top.l8:=by
  delta Hk.top
  dsimp only;intro w os;rw[Hd.jr]
  ext
theorem Hk.MH:Hk.top.l9:=by
  delta Hk.top
  dsimp only;intro w os;rw[Hd.jr]
  ext
theorem Hk.ML:Hk.top.ld:=by
  delta Hk.top
  dsimp only;intro w os;rw[Hd.jr]
  ext
theorem Hk.MM:Hk.top.le:=by
  delta Hk.top
  dsimp only;intro w os;rw[Hd.jr]
  ext
theorem Hk.MI:Hk.top.la:=by
  delta Hk.top
  dsimp only
  ext
theorem Hk.MJ:Hk.top.lb:=by
  delta Hk.top
  dsimp only
  ext
theorem Hk.MN:Hk.top.h:=by
  delta Hk.top
  dsimp only
  w_witness2
end
theorem mq:type_of%@PySem.Around.under_plainId:=@PySem.Around.under_plainId
theorem jK:type_of%@Array.getElem?_eq_getElem:=@Array.getElem?_eq_getElem
theorem nX:type_of%@Array.getElem?_eq_none:=@Array.getElem?_eq_none
theorem ji:type_of%@Array.getElem?_toList:=@Array.getElem?_toList
theorem eP:type_of%@Array.length_toList:=@Array.length_toList
theorem bV:type_of%@Bool.and_eq_true:=@Bool.and_eq_true
theorem oG:type_of%@Bool.eq_iff_iff:=@Bool.eq_iff_iff
theorem jj:type_of%@Bool.false_and:=@Bool.false_and
theorem i9:type_of%@Bool.false_eq_true:=@Bool.false_eq_true
theorem bP:type_of%@Bool.false_ne_true:=@Bool.false_ne_true
theorem eQ:type_of%@Bool.true_and:=@Bool.true_and
theorem rg:type_of%@PySem.Calls.spliced_cons:=@PySem.Calls.spliced_cons
theorem e7:type_of%@PySem.F.called_set:=@PySem.F.called_set
theorem rj:type_of%@PySem.F.slot_dict_keyiterator_next:=@PySem.F.slot_dict_keyiterator_next
theorem aL:type_of%@PySem.Heap.get?_push_of_some:=@PySem.Heap.get?_push_of_some
theorem bo:type_of%@PySem.Heap.get?_push_size:=@PySem.Heap.get?_push_size
theorem gd:type_of%@PySem.Heap.get?_update_other:=@PySem.Heap.get?_update_other
theorem hZ:type_of%@PySem.Heap.get?_update_self:=@PySem.Heap.get?_update_self
theorem aQ:type_of%@PySem.Heap.lt_size:=@PySem.Heap.lt_size
theorem jB:type_of%@PySem.Heap.size_push:=@PySem.Heap.size_push
theorem kY:type_of%@Int.dvd_of_emod_eq_zero:=@Int.dvd_of_emod_eq_zero
theorem vi:type_of%@Int.emod_eq_emod_iff_emod_sub_eq_zero:=@Int.emod_eq_emod_iff_emod_sub_eq_zero
theorem nH:type_of%@Int.emod_eq_of_lt:=@Int.emod_eq_of_lt
theorem bJ:type_of%@Int.emod_lt_of_pos:=@Int.emod_lt_of_pos
theorem b7:type_of%@Int.emod_nonneg:=@Int.emod_nonneg
theorem dm:type_of%@Int.eq_ofNat_of_zero_le:=@Int.eq_ofNat_of_zero_le
theorem iH:type_of%@Int.le_of_lt:=@Int.le_of_lt
theorem qO:type_of%@Int.mul_ediv_add_emod:=@Int.mul_ediv_add_emod
theorem cC:type_of%@Int.toNat_natCast:=@Int.toNat_natCast
theorem iI:type_of%@Int.toNat_of_nonneg:=@Int.toNat_of_nonneg
theorem fG:type_of%@Int.zero_add:=@Int.zero_add
theorem jC:type_of%@List.all_cons:=@List.all_cons
theorem bY:type_of%@List.all_eq_true:=@List.all_eq_true
theorem ia:type_of%@List.all_map:=@List.all_map
theorem iJ:type_of%@List.any_cons:=@List.any_cons
theorem jD:type_of%@List.any_eq_true:=@List.any_eq_true
theorem cD:type_of%@List.append_assoc:=@List.append_assoc
theorem dQ:type_of%@List.append_nil:=@List.append_nil
theorem kZ:type_of%@List.drop_eq_getElem_cons:=@List.drop_eq_getElem_cons
theorem lh:type_of%@List.drop_of_length_le:=@List.drop_of_length_le
theorem nI:type_of%@List.ext_getElem?:=@List.ext_getElem?
theorem nJ:type_of%@List.filterMap_cons:=@List.filterMap_cons
theorem jE:type_of%@List.filter_append:=@List.filter_append
theorem nK:type_of%@List.filter_cons_of_neg:=@List.filter_cons_of_neg
theorem nL:type_of%@List.filter_cons_of_pos:=@List.filter_cons_of_pos
theorem lq:type_of%@List.filter_eq_nil_iff:=@List.filter_eq_nil_iff
theorem eV:type_of%@List.find?_cons:=@List.find?_cons
theorem qP:type_of%@List.find?_eq_none:=@List.find?_eq_none
theorem lr:type_of%@List.flatten_cons:=@List.flatten_cons
theorem ib:type_of%@List.forall_mem_cons:=@List.forall_mem_cons
theorem aK:type_of%@List.getD_eq_getElem?_getD:=@List.getD_eq_getElem?_getD
theorem fH:type_of%@List.getElem?_append_left:=@List.getElem?_append_left
theorem gg:type_of%@List.getElem?_append_right:=@List.getElem?_append_right
theorem qQ:type_of%@List.getElem?_drop:=@List.getElem?_drop
theorem aC:type_of%@List.getElem?_eq_getElem:=@List.getElem?_eq_getElem
theorem fI:type_of%@List.getElem?_eq_none:=@List.getElem?_eq_none
theorem bL:type_of%@List.getElem?_eq_some_iff:=@List.getElem?_eq_some_iff
theorem aX:type_of%@List.getElem?_map:=@List.getElem?_map
theorem jF:type_of%@List.getElem?_of_mem:=@List.getElem?_of_mem
theorem lx:type_of%@List.getElem?_range:=@List.getElem?_range
theorem qR:type_of%@List.getElem?_set_ne:=@List.getElem?_set_ne
theorem cj:type_of%@List.getElem_mem:=@List.getElem_mem
theorem qS:type_of%@List.getElem_of_mem:=@List.getElem_of_mem
theorem nM:type_of%@List.getLast?_eq_getElem?:=@List.getLast?_eq_getElem?
theorem aE:type_of%@List.length_append:=@List.length_append
theorem bH:type_of%@List.length_cons:=@List.length_cons
theorem cX:type_of%@List.length_drop:=@List.length_drop
theorem iK:type_of%@List.length_eq_zero_iff:=@List.length_eq_zero_iff
theorem ly:type_of%@List.length_filter_le:=@List.length_filter_le
theorem ak:type_of%@List.length_map:=@List.length_map
theorem nN:type_of%@List.length_nil:=@List.length_nil
theorem bZ:type_of%@List.length_range:=@List.length_range
theorem fJ:type_of%@List.length_singleton:=@List.length_singleton
theorem cP:type_of%@List.length_take:=@List.length_take
theorem dR:type_of%@List.lookup_cons:=@List.lookup_cons
theorem bD:type_of%@List.map_append:=@List.map_append
theorem eX:type_of%@List.map_congr_left:=@List.map_congr_left
theorem bI:type_of%@List.map_cons:=@List.map_cons
theorem nO:type_of%@List.map_drop:=@List.map_drop
theorem qT:type_of%@List.map_inj_right:=@List.map_inj_right
theorem bf:type_of%@List.map_map:=@List.map_map
theorem bC:type_of%@List.mem_append:=@List.mem_append
theorem lB:type_of%@List.mem_append_left:=@List.mem_append_left
theorem eD:type_of%@List.mem_append_right:=@List.mem_append_right
theorem aY:type_of%@List.mem_cons:=@List.mem_cons
theorem b8:type_of%@List.mem_cons_of_mem:=@List.mem_cons_of_mem
theorem bu:type_of%@List.mem_cons_self:=@List.mem_cons_self
theorem iL:type_of%@List.mem_filter:=@List.mem_filter
theorem aO:type_of%@List.mem_map:=@List.mem_map
theorem qU:type_of%@List.mem_map_of_mem:=@List.mem_map_of_mem
theorem qV:type_of%@List.mem_of_find?_eq_some:=@List.mem_of_find?_eq_some
theorem bT:type_of%@List.mem_of_getElem?:=@List.mem_of_getElem?
theorem cE:type_of%@List.mem_range:=@List.mem_range
theorem aS:type_of%@List.mem_singleton:=@List.mem_singleton
theorem nQ:type_of%@List.nodup_append:=@List.nodup_append
theorem dD:type_of%@List.nodup_cons:=@List.nodup_cons
theorem dS:type_of%@List.not_mem_nil:=@List.not_mem_nil
theorem jG:type_of%@List.of_mem_zip:=@List.of_mem_zip
theorem nR:type_of%@List.pairwise_map:=@List.pairwise_map
theorem lC:type_of%@List.range_succ:=@List.range_succ
theorem lD:type_of%@List.replicate_succ:=@List.replicate_succ
theorem bc:type_of%@List.size_toArray:=@List.size_toArray
theorem jH:type_of%@List.sum_cons:=@List.sum_cons
theorem lE:type_of%@List.take_add_one:=@List.take_add_one
theorem nS:type_of%@List.take_length:=@List.take_length
theorem eY:type_of%@List.take_of_length_le:=@List.take_of_length_le
theorem aT:type_of%@Nat.le_of_lt:=@Nat.le_of_lt
theorem aw:type_of%@Nat.le_refl:=@Nat.le_refl
theorem ic:type_of%@Nat.le_succ:=@Nat.le_succ
theorem bM:type_of%@Nat.le_trans:=@Nat.le_trans
theorem gh:type_of%@Nat.lt_irrefl:=@Nat.lt_irrefl
theorem eE:type_of%@Nat.lt_of_le_of_lt:=@Nat.lt_of_le_of_lt
theorem bK:type_of%@Nat.lt_of_lt_of_le:=@Nat.lt_of_lt_of_le
theorem qW:type_of%@Nat.lt_succ_iff_lt_or_eq:=@Nat.lt_succ_iff_lt_or_eq
theorem gi:type_of%@Nat.lt_succ_of_lt:=@Nat.lt_succ_of_lt
theorem lF:type_of%@Nat.lt_succ_self:=@Nat.lt_succ_self
theorem iM:type_of%@Nat.min_eq_left:=@Nat.min_eq_left
theorem jI:type_of%@Nat.ne_of_gt:=@Nat.ne_of_gt
theorem bw:type_of%@Nat.ne_of_lt:=@Nat.ne_of_lt
theorem qX:type_of%@Nat.pow_le_pow_left:=@Nat.pow_le_pow_left
theorem nT:type_of%@Nat.pow_le_pow_right:=@Nat.pow_le_pow_right
theorem br:type_of%@Nat.zero_le:=@Nat.zero_le
theorem dU:type_of%@Option.map_eq_some_iff:=@Option.map_eq_some_iff
theorem bU:type_of%@PySem.PassesOwn.leaving:=@PySem.PassesOwn.leaving
theorem qY:type_of%@PyProof.Rows.F.entry_set_update_loop:=@PyProof.Rows.F.entry_set_update_loop
theorem lG:type_of%@PyProof.Rows.F.plain_set_update_loop:=@PyProof.Rows.F.plain_set_update_loop
theorem lH:type_of%@PyProof.Rows.callWith_type1:=@PyProof.Rows.callWith_type1
theorem dW:type_of%@PySem.F.excBase_ValueError:=@PySem.F.excBase_ValueError
theorem eF:type_of%@PySem.F.plainAttrs_list:=@PySem.F.plainAttrs_list
theorem eZ:type_of%@PySem.F.plainAttrs_str:=@PySem.F.plainAttrs_str
theorem fK:type_of%@PySem.F.slot_list_append:=@PySem.F.slot_list_append
theorem nU:type_of%@PySem.F.slot_str_join:=@PySem.F.slot_str_join
theorem qZ:type_of%@PySem.F.slot_str_split:=@PySem.F.slot_str_split
theorem fL:type_of%@PySem.F.type_list_append:=@PySem.F.type_list_append
theorem nV:type_of%@PySem.F.type_str_join:=@PySem.F.type_str_join
theorem rf:type_of%@PySem.F.type_str_split:=@PySem.F.type_str_split
theorem rh:type_of%@PySem.W.callWith_K:=@PySem.W.callWith_K
theorem fM:type_of%@PySem.W.kia_one:=@PySem.W.kia_one
theorem dq:type_of%@PySem.W.mg_none_of:=@PySem.W.mg_none_of
theorem bO:type_of%@PySem.W.mg_of:=@PySem.W.mg_of
theorem jJ:type_of%@PySem.mem_of_lookup:=@PySem.mem_of_lookup
theorem lJ:type_of%@beq_eq_false_iff_ne:=@beq_eq_false_iff_ne
theorem lK:type_of%@beq_false_of_ne:=@beq_false_of_ne
theorem ie:type_of%@beq_iff_eq:=@beq_iff_eq
theorem iN:type_of%@PySem.call_meets:=@PySem.call_meets
theorem fN:type_of%@PySem.codeAny_builtin:=@PySem.codeAny_builtin
theorem fO:type_of%@PySem.codeAny_mono:=@PySem.codeAny_mono
theorem bQ:type_of%@congrArg:=@congrArg
theorem nW:type_of%@decide_eq_decide:=@decide_eq_decide
theorem aF:type_of%@decide_eq_false:=@decide_eq_false
theorem a9:type_of%@decide_eq_true:=@decide_eq_true
theorem bE:type_of%@decide_eq_true_eq:=@decide_eq_true_eq
theorem eG:type_of%@if_false:=@if_false
theorem ai:type_of%@if_neg:=@if_neg
theorem aq:type_of%@if_pos:=@if_pos
theorem ig:type_of%@if_true:=@if_true
theorem gj:type_of%@of_decide_eq_true:=@of_decide_eq_true
theorem dX:type_of%@or_false:=@or_false
theorem jL:type_of%@PySem.plainId_quiet:=@PySem.plainId_quiet
theorem nY:type_of%@PySem.tupleKind_room_in1:=@PySem.tupleKind_room_in1
theorem jM:type_of%@PySem.wpAny_Call_Name_kw:=@PySem.wpAny_Call_Name_kw
theorem lL:type_of%@PySem.wpAny_askSetting:=@PySem.wpAny_askSetting
theorem lM:type_of%@PySem.wpAny_attempt:=@PySem.wpAny_attempt
theorem ae:type_of%@PySem.wpAny_bind:=@PySem.wpAny_bind
theorem lN:type_of%@PySem.wpAny_callSpecial?_slot:=@PySem.wpAny_callSpecial?_slot
theorem gq:type_of%@PySem.wpAny_call_entry:=@PySem.wpAny_call_entry
theorem iO:type_of%@PySem.wpAny_fieldsOf:=@PySem.wpAny_fieldsOf
theorem cQ:type_of%@PySem.wpAny_holding:=@PySem.wpAny_holding
theorem cu:type_of%@PySem.wpAny_mono:=@PySem.wpAny_mono
theorem gr:type_of%@PySem.wpAny_newObj_type:=@PySem.wpAny_newObj_type
theorem jN:type_of%@PySem.wpAny_passesOwn:=@PySem.wpAny_passesOwn
theorem au:type_of%@PySem.wpAny_pure:=@PySem.wpAny_pure
theorem ij:type_of%@PySem.wpAny_rule:=@PySem.wpAny_rule
theorem nZ:type_of%@PySem.wpAny_setEntries_of:=@PySem.wpAny_setEntries_of
theorem lO:type_of%@PySem.wpAny_setState_of:=@PySem.wpAny_setState_of
theorem ik:type_of%@PySem.wpAny_truthy_bool:=@PySem.wpAny_truthy_bool
theorem rl:type_of%@PySem.wpAny_typeNameOfWhole_keyiter:=@PySem.wpAny_typeNameOfWhole_keyiter
theorem rp:type_of%@PySem.wpAny_typeNameOf_keyiter:=@PySem.wpAny_typeNameOf_keyiter
set_option Elab.async false
set_option linter.all false
set_option maxRecDepth 100000
namespace L2
open PySem PySem.Spec PyProof.Rows
variable {A:Around}{C:Addr}{E:Zq}{K:Zf}{M:Model}{P:Zh}{Q:Zq}{a:Addr}{b:Addr}{base:Heap}{body:List Stmt}{c:Expr}{ch:List Addr}{d':Drawn}{e:Expr}{es:List Expr}{f:Value->Value->Sem Value}{fd:FuncData}{fp:List Addr}{g':Array GenState}{h:Heap}{i:Nat}{it:Addr}{kw:List (Str×Value)}{mA:Zk}{mg:Zk}{o:Obj}{op:CmpOp}{outer:List Env}{Yp:Zp}{pl:Sem Bool}{pos:Pos}{ps:Ze}{s:Zg}{scope:Scope}{t':Nat}{tg:Expr}{u:Value}{us:Zc}{w:Zi}{x:Str}
section
abbrev Key:=Sum Int Str
noncomputable def jm:Key->Value->Bool
 | .inl k,v=>Value.isInt k v
 | .inr x,v=>Value.isStrOf x v
noncomputable def MY (w:Zi):Key->Int
 | .inl k=>hashInt k
 | .inr x=>hashStr w x
theorem cJ:∀ {k:Key}{v:Value},jm k v=true->(∃ i t,k=Sum.inl i/\v=Value.int i t)∨(∃ x t,k=Sum.inr x/\v=Value.str x t)
 | .inl i,v,h=>by obtain⟨t,e⟩:=Value.isInt_shape (k:=i) (v:=v) h;exact .inl ⟨i,t,rfl,e⟩
 | .inr x,v,h=>by obtain⟨t,e⟩:=Value.isStrOf_shape (x:=x) (v:=v) h;exact .inr ⟨x,t,rfl,e⟩
theorem DL (i:Int) (t:Tok):jm (.inl i) (.int i t)=true:=by simp [jm,Value.isInt]
theorem ox (x:Str) (t:Tok):jm (.inr x) (.str x t)=true:=by simp [jm,Value.isStrOf]
theorem K4 (a b:Int):decide ((Sum.inl a:Key)=Sum.inl b)=(a==b):=by
 by_cases e:a=b
 ·subst e;simp
 ·have h:¬ (Sum.inl a:Key)=Sum.inl b:=fun q=>e (Sum.inl.inj q);rw[aF h];exact (lJ.mpr e).symm
theorem K7 (a b:Str):decide ((Sum.inr a:Key)=Sum.inr b)=decide (a=b):=by
 by_cases e:a=b
 ·subst e;simp
 ·have h:¬ (Sum.inr a:Key)=Sum.inr b:=fun q=>e (Sum.inr.inj q);rw[aF h,aF e]
theorem K5 (a:Int) (b:Str):decide ((Sum.inl a:Key)=Sum.inr b)=false:=aF (fun q=>nomatch q)
theorem K6 (a:Str) (b:Int):decide ((Sum.inr a:Key)=Sum.inl b)=false:=aF (fun q=>nomatch q)
noncomputable def bj (prog:Zh) (w:Zi):PySem.KeyKind prog w Key where
 is:=jm
 hash:=MY w
 inj:=fun v a b ha hb=>by
  rcases cJ ha with ⟨i,t,rfl,rfl⟩ | ⟨x,t,rfl,rfl⟩
  ·rcases cJ hb with ⟨j,u,rfl,e⟩ | ⟨y,u,rfl,e⟩
   ·injection e with e1 _;rw[e1]
   ·exact nomatch e
  ·rcases cJ hb with ⟨j,u,rfl,e⟩ | ⟨y,u,rfl,e⟩
   ·exact nomatch e
   ·injection e with e1 _;rw[e1]
 byValue:=fun k v h=>by rcases cJ h with ⟨i,t,rfl,rfl⟩ | ⟨x,t,rfl,rfl⟩<;>rfl
 pyHash:=fun hv h=>by
  rcases cJ hv with ⟨i,t,rfl,rfl⟩ | ⟨x,t,rfl,rfl⟩
  ·exact wpAny_pyHash_int h
  ·exact wpAny_pyHash_str h
 eqBool:=fun hu hv h=>by
  rcases cJ hu with ⟨i,t,rfl,rfl⟩ | ⟨x,t,rfl,rfl⟩
  ·rcases cJ hv with ⟨j,u,rfl,rfl⟩ | ⟨y,u,rfl,rfl⟩
   ·rw[K4] at h;exact wpAny_eqBool_int h
   ·rw[K5] at h;exact SeqAt.EqAt.int_str i t y u _ _ _ _ h
  ·rcases cJ hv with ⟨j,u,rfl,rfl⟩ | ⟨y,u,rfl,rfl⟩
   ·rw[K6] at h;exact SeqAt.EqAt.str_int x t j u _ _ _ _ h
   ·rw[K7] at h;exact wpAny_eqBool_str h
 «strs»:=fun k x t v h=>by
  rcases cJ h with ⟨i,u,rfl,e⟩ | ⟨y,u,rfl,e⟩
  ·exact nomatch e
  ·injection e with e1 _
   subst e1;cases v<;>rfl
theorem yJ (prog:Zh) (w:Zi) (i:Int) (t:Tok):(bj prog w).is (.inl i) (.int i t)=true:=DL i t
theorem yK (prog:Zh) (w:Zi) (x:Str) (t:Tok):(bj prog w).is (.inr x) (.str x t)=true:=ox x t
end
section
inductive V where
 | non | bl (b:Bool) | int (i:Int) | str (x:Str) | byt (b:Array UInt8) | flt (b:UInt64) | ref (a:Addr) | ty (n:String)
 deriving DecidableEq
def RelV:V->Value->Prop
 | .non,u=>u=Value.none
 | .bl b,u=>u=Value.bool b
 | .int i,u=>∃ t,u=Value.int i t
 | .str x,u=>∃ t,u=Value.str x t
 | .byt b,u=>∃ t,u=Value.bytes b t
 | .flt b,u=>∃ t,u=Value.float b t
 | .ref a,u=>u=Value.ref a
 | .ty n,u=>u=Value.type n
abbrev Vals:List V->Zc->Prop:=Paired RelV
theorem Vals.length {xs:List V}{us:Zc} (r:Vals xs us):⇑xs=⇑us:=Paired.length r
theorem Vals.get:∀ {xs:List V}{us:Zc}{i:Nat}{x:V},Vals xs us->xs[i]?=some x->∃ u,us[i]?=some u/\RelV x u
 | _,_,_,_,.nil,e=>by simp at e
 | _,_,0,_,.cons r _,e=>by simp at e;subst e;exact⟨_,rfl,r⟩
 | _,_,i+1,x,.cons _ t,e=>by obtain⟨u,h1,h2⟩:=Vals.get (i:=i) (x:=x) t (by simpa using e);exact⟨u,by simpa using h1,h2⟩
theorem Vals.set {x:V}{u:Value} (r:RelV x u):∀ {xs:List V}{us:Zc} (i:Nat),Vals xs us->Vals (xs.set i x) (us.set i u)
 | _,_,_,.nil=>.nil
 | _,_,0,.cons _ t=>.cons r t
 | _,_,i+1,.cons q t=>.cons q (Vals.set r i t)
theorem Vals.append:∀ {xs ys:List V}{us ws:Zc},Vals xs us->Vals ys ws->Vals (xs++ys) (us++ws)
 | _,_,_,_,.nil,s=>s
 | _,_,_,_,.cons r t,s=>.cons r (Vals.append t s)
theorem Vals.take:∀ {xs:List V}{us:Zc} (n:Nat),Vals xs us->Vals (xs.take n) (us.take n)
 | _,_,0,_=>.nil
 | _,_,_+1,.nil=>.nil
 | _,_,n+1,.cons r t=>.cons r (Vals.take n t)
theorem Vals.drop:∀ {xs:List V}{us:Zc} (n:Nat),Vals xs us->Vals (xs.drop n) (us.drop n)
 | _,_,0,r=>r
 | _,_,_+1,.nil=>.nil
 | _,_,n+1,.cons _ t=>Vals.drop n t
theorem Vals.none_of:∀ {xs:List V}{us:Zc}{i:Nat},Vals xs us->xs[i]?=none->us[i]?=none:=fun {xs us i} r e=>by have h1:=⇑r;have h2:⇑xs<=i:=List.getElem?_eq_none_iff.mp e;exact List.getElem?_eq_none_iff.mpr ⋯
def kl:Option V->Option Value->Prop
 | some v,some u=>RelV v u
 | none,none=>True
 | _,_=>False
def KV {κ:Type}:List (κ×V)->List (κ×Value)->Prop:=Paired fun (p:κ×V) (q:κ×Value)=>p.1=q.1/\RelV p.2 q.2
noncomputable def kV:Key->V
 | .inl i=>.int i
 | .inr x=>.str x
inductive HO where
  | lst (xs:List V)
  | tup (xs:List V)
  | dK (kvs:List (Key×V)) | dT (kvs:List (List Key×V))
  | set (S:Int->Bool) (n:Nat)
  | ins (C dx:Addr) (fs:List (Str×V))
  | own (x:Addr)
  | xd (fs:List (Str×V))
  | met (f x:Addr)
  | rng (lo hi:Int)
  | frz (o:Obj) (u:HO)
  | tbl (ps:Array Value)
  | ext (φ:Heap->Prop)
abbrev Hp:=Addr->Option HO
noncomputable def upd (H:Hp) (a:Addr) (o:HO):Hp:=fun b=>if b=a then some o else H b
theorem aI {H:Hp}{o:HO}:upd H a o a=some o:=by unfold upd;rw[aq rfl]
theorem aN {H:Hp}{a b:Addr}{o:HO} (h:b≠a):upd H a o b=H b:=by unfold upd;rw[ai h]
theorem gR {H:Hp}{a b:Addr}{o u:HO} (h:H a=some o) (h':H b=some u) (d:o≠u):a≠b:=by intro e;subst e;rw[h] at h';exact d (Option.some.inj h')
theorem aW {H:Hp}{a b:Addr}{o:HO} (h:H a=some o) (h':H b=none):a≠b:=by intro e;subst e;rw[h] at h';cases h'
section
variable (P:Zh) (w:Zi)
def bX (H:Hp) (h:Heap) (a:Addr):HO->Prop
 | .lst xs=>⇑xs<=sizeLine/\∃ (its:Zc) (n:Nat),Vals xs its/\h.get? a=some { cls:=.type "list",data:=.seq its.toArray n }
 | .tup xs=>⇑xs<=sizeLine/\∃ its:Zc,Vals xs its/\IsTup h a its.toArray
 | .dK kvs=>⇑kvs<=sizeLine/\(a==sysModules)=false/\∃ vs,KV kvs vs/\h.DictOf (bj P w) a vs
 | .dT kvs=>⇑kvs<=sizeLine/\(a==sysModules)=false/\∃ xs:List (List Key×Addr×Value),
   Paired (fun (p:List Key×V) (q:List Key×Addr×Value)=>p.1=q.1/\H q.2.1=some (.tup (p.1.map kV))/\RelV p.2 q.2.2) kvs xs ∧
   ∃ o es ep,h.get? a=some o/\o.ExactDict/\o.data=.dict es ep/\es.toList=xs.map (entryOfKey (tupleKind (bj P w)))/\(xs.map (·.1)).Nodup
 | .set S n=>h.SetOf (intKind P w) a S n
 | .ins C dx fs=>H dx=some (.own a)/\⇑fs<=1000/\dx≠a/\h.get? a=some (PySem.W.instObj C dx) ∧
   ∃ mA,h.Ns1 dx mA/\(∀ f,kl (fs.lookup f) (mA f))/\PySem.Within mA (fs.map (·.1))
 | .own _=>∃ o,h.get? a=some o
 | .xd fs=>∃ mA,h.Ns1 a mA/\∀ f,kl (fs.lookup f) (mA f)
 | .rng lo hi=>∃ t u v,h.get? a=some { cls:=.type "range",data:=.fields #[.int lo t,.int hi u,.int 1 v] }
 | .frz o u=>h.get? a=some o/\bX H h a u
 | .tbl ps=>∃ qs:Array Value,h.get? a=some { cls:=.none,data:=.fields qs }/\TriplesOk qs.toList/\∀ pos c,codeAmong pos qs.toList=some c->∃ c' oc vs t q,c=.ref c'/\H c'=some (.frz oc (.own a))/\oc.data=.fields vs/\vs[1]?=some (.str q t)/\ps=#[.str q 0]
 | .met f x=>h.get? a=some (PySem.W.methodObj (.ref f) (.ref x))
 | .ext φ=>φ h/\(∃ o,h.get? a=some o)/\∀ h1 h2:Heap,φ h1->(∀ o,h1.get? a=some o->h2.get? a=some o)->φ h2
def Î (H:Hp) (h:Heap):Prop:=∀ a o,H a=some o->bX P w H h a o
end
section
variable {P:Zh}{w:Zi}{H H':Hp}{h h':Heap}{a:Addr}{o:HO}
theorem bX.lt (x:bX P w H h a o):a<h.objs.size:=by
 cases o with
 | lst xs=>obtain⟨_,_,_,_,e⟩:=x;exact aQ e
 | tup xs=>obtain⟨_,_,_,p⟩:=x;exact p.lt
 | dK kvs=>obtain⟨_,_,_,_,o,_,_,e,_⟩:=x;exact aQ e
 | dT kvs=>obtain⟨_,_,_,_,o,_,_,e,_⟩:=x;exact aQ e
 | set S n=>obtain⟨o,_,_,_,e,_⟩:=x;exact aQ e
 | ins C dx fs=>obtain⟨_,_,_,e,_⟩:=x;exact aQ e
 | own y=>obtain⟨_,e⟩:=x;exact aQ e
 | xd fs=>obtain⟨_,⟨_,_,_,e,_⟩,_⟩:=x;exact aQ e
 | rng lo hi=>obtain⟨_,_,_,e⟩:=x;exact aQ e
 | frz ob u=>obtain⟨e,_⟩:=x;exact aQ e
 | tbl ps=>obtain⟨_,e,_⟩:=x;exact aQ e
 | met f y=>exact aQ (show h.get? a=some _ from x)
 | ext φ=>obtain⟨_,⟨_,e⟩,_⟩:=x;exact aQ e
theorem Paired.IF {α β:Type}{F G:α->β->Prop}:∀ {l₁:List α}{l₂:List β},Paired F l₁ l₂->(∀ a b,F a b->G a b)->Paired G l₁ l₂
 | _,_,.nil,_=>.nil
 | _,_,.cons r t,f=>.cons (f _ _ r) (Paired.IF t f)
theorem bX.pZ (x:bX P w H h a o) (k:∀ b u,(b=a∨H b=some (.own a))->h.get? b=some u->h'.get? b=some u)
  (ho:∀ b,H b=some (.own a)->H' b=some (.own a)) (ht:∀ b xs,H b=some (.tup xs)->H' b=some (.tup xs))
  (hf:∀ b ob u,H b=some (.frz ob u)->H' b=some (.frz ob u):=by first | exact fun _ _ _ q=>q | exact fun c ob u q=>(aN (aW q (by assumption))).trans q):bX P w H' h' a o:=by
 induction o with
 | lst xs=>obtain⟨z,its,n,r,e⟩:=x;exact⟨z,its,n,r,k _ _ (.inl rfl) e⟩
 | tup xs=>obtain⟨z,its,r,ob,e,c⟩:=x;exact⟨z,its,r,ob,k _ _ (.inl rfl) e,c⟩
 | dK kvs=>obtain⟨z,y,vs,r,ob,es,ep,e,c⟩:=x;exact⟨z,y,vs,r,ob,es,ep,k _ _ (.inl rfl) e,c⟩
 | dT kvs =>obtain⟨z,y,xs,r,ob,es,ep,e,c⟩:=x;exact⟨z,y,xs,Paired.IF r fun p q z=>⟨z.1,ht _ _ z.2.1,z.2.2⟩,ob,es,ep,k _ _ (.inl rfl) e,c⟩
 | set S n=>obtain⟨ob,es,ep,t,e,c⟩:=x;exact⟨ob,es,ep,t,k _ _ (.inl rfl) e,c⟩
 | ins C dx fs =>obtain⟨d,z,ne,e,mA,⟨od,es,ep,e2,c⟩,r⟩:=x;exact⟨ho _ d,z,ne,k _ _ (.inl rfl) e,mA,⟨od,es,ep,k _ _ (.inr d) e2,c⟩,r⟩
 | own y=>obtain⟨ob,e⟩:=x;exact⟨ob,k _ _ (.inl rfl) e⟩
 | xd fs=>obtain⟨mA,⟨od,es,ep,e,c⟩,r⟩:=x;exact⟨mA,⟨od,es,ep,k _ _ (.inl rfl) e,c⟩,r⟩
 | rng lo hi=>obtain⟨t,u,v,e⟩:=x;exact⟨t,u,v,k _ _ (.inl rfl) e⟩
 | frz ob u ih=>obtain⟨e,q⟩:=x;exact⟨k _ _ (.inl rfl) e,ih q⟩
 | tbl ps =>obtain⟨qs,e,t,z⟩:=x;refine⟨qs,k a _ (.inl rfl) e,t,fun pos c q=>?_⟩;obtain⟨c',oc,vs,tk,qq,h1,h2,h3⟩:=z pos c q;exact⟨c',oc,vs,tk,qq,h1,hf _ _ _ h2,h3⟩
 | met f y =>have e:h.get? a=some (PySem.W.methodObj (.ref f) (.ref y)):=x;show h'.get? a=some (PySem.W.methodObj (.ref f) (.ref y));exact k a _ (.inl rfl) e
 | ext φ=>obtain⟨p,⟨o,e⟩,st⟩:=x;exact⟨st _ _ p fun o q=>k _ _ (.inl rfl) q,⟨o,k _ _ (.inl rfl) e⟩,st⟩
theorem Î.lt (x:Î P w H h) (e:H a=some o):a<h.objs.size:=(x a o e).lt
theorem Î.fresh (x:Î P w H h) (e:h.objs.size<=a):H a=none:=by
 cases q:H a with
 | none=>rfl
 | some u=>exact absurd (bK (x.lt q) e) (gh _)
theorem Î.kept (x:Î P w H h) (k:∀ b u,h.get? b=some u->h'.get? b=some u):Î P w H h':=fun a o e =>(x a o e).pZ (fun b u _ q=>k b u q) (fun _ q=>q) fun _ _ q=>q
theorem Î.laid (x:Î P w H h) (k:∀ b u,h.get? b=some u->h'.get? b=some u) (hp:h.objs.size<=a) (new:bX P w (upd H a o) h' a o):Î P w (upd H a o) h':=fun b u e=>by
 have hn:=x.fresh hp
 by_cases hb:b=a
 ·subst hb;rw[aI] at e;cases e;exact new
 ·rw[aN hb] at e;exact (x b u e).pZ (fun c v _ q=>k c v q) (fun c q=>by rw[aN (aW q hn)];exact q) fun c xs q=>by rw[aN (aW q hn)];exact q
end
def Rd (H:Hp) (a:Addr) (u:HO):Prop:=H a=some u∨∃ o,H a=some (.frz o u)
theorem Rd.of {H:Hp}{u:HO} (h:H a=some u):Rd H a u:=.inl h
theorem Rd.ok {H:Hp}{u:HO} (r:Rd H a u) (x:Î P w H h):bX P w H h a u:=by
 rcases r with r | ⟨o,r⟩
 ·exact x a u r
 ·obtain⟨_,q⟩:=x a _ r;exact q
def ā:Option HO->Prop
 | some (.lst _)=>True
 | some (.dK _)=>True
 | some (.dT _)=>True
 | some (.set _ _)=>True
 | some (.ins _ _ _)=>True
 | some (.ext _)=>True
 | _=>False
section
variable {P:Zh}{w:Zi}{H:Hp}{h h':Heap}{x e:Addr}{o':HO}
theorem Î.write (ok:Î P w H h) (mu:ā (H x)) (he:e=x∨H e=some (.own x)) (k:∀ b u,b≠e->h.get? b=some u->h'.get? b=some u) (heo:∃ u,h'.get? e=some u)
  (new:bX P w (upd H x o') h' x o'):Î P w (upd H x o') h':=fun b u q=>by
 have nown:∀ c y,H c=some (.own y)->c≠x:=fun c y r z=>by subst z;rw[r] at mu;exact mu
 have ntup:∀ c xs,H c=some (.tup xs)->c≠x:=fun c xs r z=>by subst z;rw[r] at mu;exact mu
 by_cases hb:b=x
 ·subst hb;rw[aI] at q;cases q;exact new
 ·rw[aN hb] at q
  by_cases hbe:b=e
  ·have q':H b=some (.own x):=by
    rcases he with z | z
    ·exact absurd (hbe.trans z) hb
    ·rw[hbe];exact z
   rw[q] at q';cases q';obtain⟨v,hv⟩:=heo;exact⟨v,by rw[hbe];exact hv⟩
  ·refine (ok b u q).pZ (fun c v hc r=>k c v ?_ r) (fun c r=>by rw[aN (nown c b r)];exact r) (fun c xs r=>by rw[aN (ntup c xs r)];exact r) fun c ob u r=>(aN (fun z=>by subst z;rw[r] at mu;exact mu)).trans r;rcases hc with rfl | hc
   ·exact hbe
   ·rintro rfl;rcases he with z | z
    ·exact nown c b hc z
    ·rw[hc] at z;cases z;exact hb rfl
end
structure Un (fs ex:List Addr) (H H':Hp) (h h':Heap):Prop where
 keep:∀ b o,h.get? b=some o->H b=none->b∉fs->b∉ex->h'.get? b=some o
 slot:∀ b o,h.get? b=some o->H b=none->b∈fs->b∉ex->∃ sl,h'.get? b=some { o with slots:=sl }
 free:∀ b o,h.get? b=some o->H b=none->b∉ex->H' b=none
 there:∀ b o,h.get? b=some o->b∉ex->∃ o',h'.get? b=some o'
 tups:∀ b xs,H b=some (.tup xs)->H' b=some (.tup xs)
 frzs:∀ b o u,H b=some (.frz o u)->H' b=some (.frz o u)
 tbls:∀ b ps,H b=some (.tbl ps)->∃ more,H' b=some (.tbl (ps++more))
section
variable {fs fs' ex ex':List Addr}{H H1 H2:Hp}{h h1 h2 h':Heap}{a x e:Addr}{o:HO}
theorem Un.any (u:Un fs ex H H1 h h1) {ob:Obj} (q:h.get? b=some ob) (n:H b=none) (hx:b∉ex):∃ sl,h1.get? b=some { ob with slots:=sl }:=by
 by_cases hb:b∈fs
 ·exact u.slot b ob q n hb hx
 ·exact⟨ob.slots,u.keep b ob q n hb hx⟩
theorem Un.trans (a:Un fs ex H H1 h h1) (b:Un fs ex H1 H2 h1 h2):Un fs ex H H2 h h2 where
 keep:=fun c ob q n hc hx=>b.keep c ob (a.keep c ob q n hc hx) (a.free c ob q n hx) hc hx
 slot:=fun c ob q n hc hx=>by obtain⟨sl,e1⟩:=a.slot c ob q n hc hx;obtain⟨sl',e2⟩:=b.slot c _ e1 (a.free c ob q n hx) hc hx;exact⟨sl',e2⟩
 free:=fun c ob q n hx=>by obtain⟨o',e1⟩:=a.there c ob q hx;exact b.free c o' e1 (a.free c ob q n hx) hx
 there:=fun c ob q hx=>by obtain⟨o',e1⟩:=a.there c ob q hx;exact b.there c o' e1 hx
 tups:=fun c xs q=>b.tups c xs (a.tups c xs q)
 frzs:=fun c ob xs q=>b.frzs c ob xs (a.frzs c ob xs q)
 tbls:=fun c ps q=>by obtain⟨m1,e1⟩:=a.tbls c ps q;obtain⟨m2,e2⟩:=b.tbls c _ e1;exact⟨m1++m2,by rw[e2,Array.append_assoc]⟩
theorem Un.kept (k:∀ b u,h.get? b=some u->h'.get? b=some u):Un fs ex H H h h' :=
 ⟨fun b ob q _ _ _=>k b ob q,fun b ob q _ _ _=>⟨ob.slots,k b ob q⟩,fun _ _ _ n _=>n,fun b ob q _=>⟨ob,k b ob q⟩,fun _ _ q=>q,fun _ _ _ q=>q,fun _ ps q=>⟨#[],by rw[q];simp⟩⟩
theorem Un.refl:Un fs ex H H h h:=Un.kept fun _ _ q=>q
theorem Un.laid (k:∀ b u,h.get? b=some u->h'.get? b=some u) (hp:h.objs.size<=a) (hn:H a=none):Un fs ex H (upd H a o) h h' where
 keep:=fun b u q _ _ _=>k b u q
 slot:=fun b u q _ _ _=>⟨u.slots,k b u q⟩
 free:=fun b u q n _=>by rw[aN (bw (bK (aQ q) hp))];exact n
 there:=fun b u q _=>⟨u,k b u q⟩
 tups:=fun b xs q=>by rw[aN (aW q hn)];exact q
 frzs:=fun b u xs q=>by rw[aN (aW q hn)];exact q
 tbls:=fun b ps q=>⟨#[],by rw[aN (aW q hn),q];simp⟩
theorem Un.write (mu:ā (H x)) (he:e=x∨H e=some (.own x)) (k:∀ b u,b≠e->h.get? b=some u->h'.get? b=some u) (heo:∃ u,h'.get? e=some u):Un fs ex H (upd H x o) h h':=by
 have hx:∀ b,H b=none->b≠x:=fun b n z=>by subst z;rw[n] at mu;exact mu
 have hb:∀ b,H b=none->b≠e:=fun b n z=>by
  subst z;rcases he with r | r
  ·exact hx b n r
  ·rw[n] at r;cases r
 have hm:∀ b u,H b=some u->¬ ā (some u)->b≠x:=fun b u q nm z=>by subst z;rw[q] at mu;exact nm mu
 refine⟨fun b u q n _ _=>k b u (hb b n) q,fun b u q n _ _=>⟨u.slots,k b u (hb b n) q⟩,fun b u q n _=>by rw[aN (hx b n)];exact n,fun b u q _=>?_,
  fun b xs q=>by rw[aN (hm b _ q fun z=>z)];exact q,fun b u xs q=>by rw[aN (hm b _ q fun z=>z)];exact q,fun b ps q=>⟨#[],by rw[aN (hm b _ q fun z=>z),q];simp⟩⟩
 by_cases hbe:b=e
 ·subst hbe;exact heo
 ·exact⟨u,k b u hbe q⟩
theorem Un.mono (u:Un fs ex H H1 h h1) (hs:∀ b∈fs,b∈fs') (hx:∀ b∈ex,b∈ex'):Un fs' ex' H H1 h h1 :=
 ⟨fun b ob q n hb he=>u.keep b ob q n (fun z=>hb (hs b z)) fun z=>he (hx b z),fun _ _ q n _ he=>u.any q n fun z=>he (hx _ z),fun b ob q n he=>u.free b ob q n fun z=>he (hx b z),fun b ob q he=>u.there b ob q fun z=>he (hx b z),u.tups,u.frzs,u.tbls⟩
end
noncomputable def ø (h:Heap) (H:Hp):List Addr:=(List.range h.objs.size).filter fun a=>(H a).isSome
noncomputable def wU (h:Heap) (H:Hp):Heap:=PySem.W.hideAll h (ø h H)
theorem DE (h:Heap) (H:Hp):(wU h H).objs.size=h.objs.size:=PySem.W.hideAll_size _ _
theorem Fu {H:Hp} (e:h.get? b=some o) (n:H b=none):(wU h H).get? b=some o :=
 PySem.W.hideAll_get _ e fun hm=>by have q:(H b).isSome=true:=(iL.mp hm).2;rw[n] at q;simp at q
theorem IH {H:Hp} (e:(wU h H).get? b=some o):h.get? b=some o/\H b=none:=by
 have e':h.get? b=some o:=PySem.W.of_hideAll (ø h H) e;refine⟨e',?_⟩;cases q:H b with
 | none=>rfl
 | some x =>have hm:b∈ø h H:=iL.mpr ⟨cE.mpr (aQ e'),by simp [q]⟩;have z:(wU h H).get? b=none:=PySem.W.hideAll_none (ø h H) hm;rw[z] at e;cases e
noncomputable def Hs (g h:Heap) (L:Addr):Zp:=(List.range h.objs.size).filterMap fun a=>if a=L∨(g.get? a).isSome=true then none else (h.get? a).map fun o=>(a,o)
noncomputable def rest (g h:Heap) (L d:Addr):Zp:=(Hs g h L).filter fun p=>decide (p.1≠d)
end
section
structure Mod (K:Zf) (mg:Zk) (base:Heap):Prop where
 kin:K.In base
 glob:base.Ns mainGlobals mg
 blt:∃ mb,base.Ns builtinsNs mb/\∀ x:Str,x≠"__name__"->mb x=bootBuiltins x
 nolimit:base.NoLimit
 bmn:∃ bm ob,mg "__builtins__"=some (.ref bm)/\bm≠builtinsNs/\base.get? bm=some ob/\ob.cls=.type "module"/\ob.dict=some builtinsNs/\ob.data=.plain
structure Cx where
 prog:Zh
 w:Zi
 K:Zf
 mg:Zk
 base:Heap
 A:Around
 N:Ze
 s₀:Zg
 H₀:Hp
 env:Env
 outer:List Env
 stack:List Env
 ex:List Addr
 fn:Str->Bool
 calm:Bool
 pn:Zp
 xe:Zq
noncomputable def Ñ (l:List Env):List Addr:=l.filterMap (·.frame)
noncomputable abbrev Cx.fs (X:Cx):List Addr:=Ñ X.outer
def ă (sc:Scope) (x:Str):Prop:=sc.names.lookup x=some .local∨sc.names.lookup x=some .cell∨sc.names.lookup x=some .free
def Loc (sc:Scope) (x:Str):Prop:=sc.names.lookup x=some .local∨sc.names.lookup x=some .cell
def Look (env:Env) (h:Heap) (m:Zk) (x:Str) (u:Value):Prop :=
 (env.kindOf x=some .local/\m x=some u)∨((env.kindOf x=some .cell∨env.kindOf x=some .free)/\∃ c,env.cells.lookup x=some c/\h.IsCell c (some u))
structure Cx.Ok (X:Cx):Prop where
 mod:Mod X.K X.mg X.base
 kind:X.env.scope.kind=.function
 glob:X.env.globals=mainGlobals
 blt:X.env.builtins=builtinsNs
 above:X.s₀.heap.objs.size<=X.env.locals
 inj:∀ x y c,X.env.cells.lookup x=some c->X.env.cells.lookup y=some c->x=y
 has:∀ x,(X.env.kindOf x=some .cell∨X.env.kindOf x=some .free)->∃ c,X.env.cells.lookup x=some c
 cab:∀ x c,X.fn x=true->X.env.cells.lookup x=some c->X.s₀.heap.objs.size<=c
 hd:X.calm=true->X.A.handled=none
 frames:X.A.frames=some X.stack
 stk:X.stack=X.outer∨(X.stack=X.env::X.outer/\X.env.frame=some X.env.locals)
 exf:∀ b∈X.ex,b≠X.env.locals/\∀ x c,X.env.cells.lookup x=some c->c≠b
 bs:∀ b o,X.base.get? b=some o->X.s₀.heap.get? b=some o/\X.H₀ b=none
 bsz:X.base.objs.size<=X.s₀.heap.objs.size
 noex:∀ b o,X.base.get? b=some o->b∉X.ex
 exfs:∀ b∈X.ex,b∉X.fs
 oM:X.s₀.heap.FunFrames X.base X.outer
 frf:∀ b∈X.fs,X.H₀ b=none
structure Inv (X:Cx) (Yp:Zp) (σ:List (Option V)) (H:Hp) (s:Zg):Prop where
 ok:X.Ok
 os:s.os=X.s₀.os
 bare:AllBare s.gens
 base:Un X.fs X.ex X.H₀ H X.s₀.heap s.heap
 loc:∃ m,s.heap.Ns X.env.locals m/\∀ (i:Nat) (x:Str) (v:V),X.N[i]?=some x->σ[i]?=some (some v)->ă X.env.scope x->∃ u,RelV v u/\Look X.env s.heap m x u
 cell:∀ x c,X.env.cells.lookup x=some c->∃ v,s.heap.IsCell c v
 free:H X.env.locals=none
 freeC:∀ x c,X.env.cells.lookup x=some c->H c=none
 pin:∀ p∈X.pn++Yp,s.heap.get? p.1=some p.2/\H p.1=none/\p.1≠X.env.locals/\p.1∉X.fs/\∀ v,p.2.data≠.cell v
 hok:Î X.prog X.w H s.heap
 len:⇑σ=⇑X.N
section
variable {X:Cx}{Yp:Zp}{σ:List (Option V)}{H H':Hp}{s:Zg}{h':Heap}
theorem Cx.Ok.Na (ok:X.Ok)  (e:X.base.get? b=some o):b∉X.fs:=fun hb=>by have:=(ok.oM.mem hb).1;rw[e] at this;cases this
theorem Inv.bs (I:Inv X Yp σ H s):∀ b o,X.base.get? b=some o->s.heap.get? b=some o/\H b=none:=fun b o e =>⟨I.base.keep b o (I.ok.bs b o e).1 (I.ok.bs b o e).2 (I.ok.Na e) (I.ok.noex b o e),I.base.free b o (I.ok.bs b o e).1 (I.ok.bs b o e).2 (I.ok.noex b o e)⟩
theorem Inv.bk (I:Inv X Yp σ H s):∀ b o,X.base.get? b=some o->s.heap.get? b=some o:=fun b o e=>(I.bs b o e).1
theorem Inv.mod (I:Inv X Yp σ H s):Mod X.K X.mg X.base:=I.ok.mod
theorem Inv.Ô (I:Inv X Yp σ H s):X.K.In s.heap:=I.ok.mod.kin.keeps I.bk
theorem Inv.nolimit (I:Inv X Yp σ H s):s.heap.NoLimit:=I.ok.mod.nolimit.keeps I.bk
theorem Inv.lt (I:Inv X Yp σ H s):X.env.locals<s.heap.objs.size:=let ⟨_,hn,_⟩:=I.loc;hn.lt
theorem Inv.sz (I:Inv X Yp σ H s):X.s₀.heap.objs.size<=s.heap.objs.size:=bM I.ok.above (aT I.lt)
theorem Inv.Nb (I:Inv X Yp σ H s)  (h:s.heap.objs.size<=a):a∉X.fs:=fun hb=>by obtain⟨_,o,ho,_⟩:=I.ok.oM.mem hb;exact absurd (bK (aQ ho) (bM I.sz h)) (gh _)
theorem Inv.ô (I:Inv X Yp σ H s):∀ x c,X.env.cells.lookup x=some c->c≠X.env.locals:=fun x c e z=>by obtain⟨v,o,ho,hd⟩:=I.cell x c e;obtain⟨m,⟨o',es,ep,ho',hd',_⟩,_⟩:=I.loc;rw[z,ho'] at ho;cases ho;rw[hd'] at hd;cases hd
theorem Inv.oM (I:Inv X Yp σ H s):s.heap.FunFrames X.base X.outer:=by
 have all:∀ (l:List Env),(∀ b∈Ñ l,b∈X.fs)->X.s₀.heap.FunFrames X.base l->s.heap.FunFrames X.base l:=by
  intro l
  induction l with
  | nil=>intro _ _;trivial
  | cons env r ih =>intro hs hl;obtain⟨hk,⟨L,o,hf,hn,ho,hd⟩,hr⟩:=hl;have hL:L∈X.fs:=hs L (by unfold Ñ;rw[nJ,hf];exact bu);obtain⟨sl,e⟩:=I.base.slot L o ho (I.ok.frf L hL) hL fun z=>I.ok.exfs L z hL;exact⟨hk,⟨L,_,hf,hn,e,hd⟩,ih (fun b hb=>hs b (by unfold Ñ;rw[nJ,hf];exact b8 _ hb)) hr⟩
 exact all X.outer (fun _ hb=>hb) I.ok.oM
theorem Inv.stack (I:Inv X Yp σ H s):s.heap.FunFrames X.base X.stack:=by
 rcases I.ok.stk with e | ⟨e,hf⟩
 ·rw[e];exact I.oM
 ·rw[e];obtain⟨m,hn,_⟩:=I.loc;refine .cons (by rw[I.ok.kind];decide) hf hn ?_ I.oM;exact Heap.get?_none_of_le (bM I.ok.bsz I.ok.above)
theorem Inv.xO (I:Inv X Yp σ H s):∀ b∈Ñ X.stack,b∈X.env.locals::X.fs:=fun b hb=>by
 rcases I.ok.stk with e | ⟨e,hf⟩
 ·rw[e] at hb;exact b8 _ hb
 ·rw[e] at hb;unfold Ñ at hb;rw[nJ,hf] at hb;exact hb
theorem Inv.xN (I:Inv X Yp σ H s):∀ b∈Ñ X.stack,H b=none:=fun b hb=>by
 rcases aY.mp (I.xO b hb) with e | hb
 ·rw[e];exact I.free
 ·obtain⟨_,o,ho,_⟩:=I.ok.oM.mem hb;exact I.base.free b o ho (I.ok.frf b hb) fun z=>I.ok.exfs b z hb
theorem Inv.step {g':Array GenState}{t':Nat}{d':Drawn}{ch:List Addr} (I:Inv X Yp σ H s)
  (hch:∀ b∈ch,(b∈X.ex∨X.s₀.heap.objs.size<=b)/\b≠X.env.locals/\(∀ x c,X.env.cells.lookup x=some c->c≠b)/\∀ p∈X.pn++Yp,p.1≠b)
  (keep:∀ b o,b≠X.env.locals->b∉X.fs->b∉ch->s.heap.get? b=some o->H b=none->h'.get? b=some o)
  (slot:∀ b o,b≠X.env.locals->b∈X.fs->b∉ch->s.heap.get? b=some o->H b=none->∃ sl,h'.get? b=some { o with slots:=sl }) (free:∀ b o,b∉ch->s.heap.get? b=some o->H b=none->H' b=none)
  (there:∀ b o,b∉ch->s.heap.get? b=some o->∃ o',h'.get? b=some o')
  (tups:∀ b xs,H b=some (.tup xs)->H' b=some (.tup xs)) (frzs:∀ b o u,H b=some (.frz o u)->H' b=some (.frz o u)) (tbls:∀ b ps,H b=some (.tbl ps)->∃ more,H' b=some (.tbl (ps++more)))
  (ns:∀ m,s.heap.Ns X.env.locals m->h'.Ns X.env.locals m) (hok:Î X.prog X.w H' h') (hg:AllBare g') :
  Inv X Yp σ H' { s with heap:=h',gens:=g',drawn:=d',toks:=t' }:=by
 have neL:∀ b o,X.s₀.heap.get? b=some o->b≠X.env.locals:=fun b o e=>bw (bK (aQ e) I.ok.above);have neC:∀ b o,X.s₀.heap.get? b=some o->b∉X.ex->b∉ch:=fun b o e hx hb=>by
  rcases (hch b hb).1 with z | z
  ·exact hx z
  ·exact absurd (bK (aQ e) z) (gh _)
 have cellK:∀ x c,X.env.cells.lookup x=some c->∀ v,s.heap.IsCell c v->h'.IsCell c v:=fun x c e v ⟨o,ho,hd⟩=>by
  have nch:c∉ch:=fun z=>(hch c z).2.2.1 x c e rfl
  by_cases hc:c∈X.fs
  ·obtain⟨sl,q⟩:=slot c o (I.ô x c e) hc nch ho (I.freeC x c e);exact⟨_,q,hd⟩
  ·exact⟨o,keep c o (I.ô x c e) hc nch ho (I.freeC x c e),hd⟩
 refine⟨I.ok,I.os,hg,⟨fun b o e n hb hx=>?_,fun b o e n hb hx=>?_,fun b o e n hx=>?_,fun b o e hx=>?_,fun b xs e=>tups b xs (I.base.tups b xs e),fun b o xs e=>frzs b o xs (I.base.frzs b o xs e),fun b ps e=>?_⟩,?_,fun x c e=>?_,?_,fun x c e=>?_,fun p hp=>?_,hok,I.len⟩
 ·exact keep b o (neL b o e) hb (neC b o e hx) (I.base.keep b o e n hb hx) (I.base.free b o e n hx)
 ·obtain⟨sl,e1⟩:=I.base.slot b o e n hb hx;obtain⟨sl',e2⟩:=slot b _ (neL b o e) hb (neC b o e hx) e1 (I.base.free b o e n hx);exact⟨sl',e2⟩
 ·obtain⟨o',e1⟩:=I.base.there b o e hx;exact free b o' (neC b o e hx) e1 (I.base.free b o e n hx)
 ·obtain⟨o',e1⟩:=I.base.there b o e hx;exact there b o' (neC b o e hx) e1
 ·obtain⟨m1,e1⟩:=I.base.tbls b ps e;obtain⟨m2,e2⟩:=tbls b _ e1;exact⟨m1++m2,by rw[e2,Array.append_assoc]⟩
 ·obtain⟨m,hn,hl⟩:=I.loc;refine⟨m,ns m hn,fun i x v e1 e2 e3=>?_⟩;obtain⟨u,r,l⟩:=hl i x v e1 e2 e3;refine⟨u,r,?_⟩;rcases l with l | ⟨k,c,e,z⟩
  ·exact .inl l
  ·exact .inr ⟨k,c,e,cellK x c e _ z⟩
 ·obtain⟨v,z⟩:=I.cell x c e;exact⟨v,cellK x c e v z⟩
 ·obtain⟨m,⟨o,_,_,ho,_⟩,_⟩:=I.loc;exact free _ o (fun z=>(hch _ z).2.1 rfl) ho I.free
 ·obtain⟨v,o,ho,hd⟩:=I.cell x c e;exact free c o (fun z=>(hch c z).2.2.1 x c e rfl) ho (I.freeC x c e)
 ·obtain⟨e,n,ne,nf,d⟩:=I.pin p hp;have nch:p.1∉ch:=fun z=>(hch p.1 z).2.2.2 p hp rfl;exact⟨keep p.1 p.2 ne nf nch e n,free p.1 p.2 nch e n,ne,nf,d⟩
theorem Inv.un {t':Nat} (I:Inv X Yp σ H s) (u:Un X.fs [] H H' s.heap h') (hok:Î X.prog X.w H' h'):Inv X Yp σ H' { s with heap:=h',toks:=t' }:=by obtain⟨m,⟨o,es,ep,ho,r⟩,_⟩:=id I.loc;obtain⟨sl,hL⟩:=u.any ho I.free (by simp);exact I.step (g':=s.gens) (d':=s.drawn) (ch:=[]) (fun _ z=>nomatch z) (fun b o _ hb _ e n=>u.keep b o e n hb (by simp)) (fun b o _ hb _ e n=>u.slot b o e n hb (by simp)) (fun b o _ e n=>u.free b o e n (by simp)) (fun b o _ e=>u.there b o e (by simp)) u.tups u.frzs u.tbls (fun m' hm=>by obtain⟨o',es',ep',ho',r'⟩:=hm;rw[ho] at ho';cases ho';exact⟨_,es',ep',hL,r'⟩) hok I.bare
theorem Inv.call {t':Nat}{d':Drawn} (I:Inv X Yp σ H s) (u:Un (Ñ X.stack) ch H H' s.heap h') (hok:Î X.prog X.w H' h') (hg:AllBare g')
  (hch:∀ b∈ch,(b∈X.ex∨X.s₀.heap.objs.size<=b)/\b≠X.env.locals/\(∀ x c,X.env.cells.lookup x=some c->c≠b)/\∀ p∈X.pn++Yp,p.1≠b) :
  Inv X Yp σ H' { s with heap:=h',gens:=g',drawn:=d',toks:=t' }:=by
 obtain⟨m,⟨o,es,ep,ho,r⟩,_⟩:=id I.loc;obtain⟨sl,hL⟩:=u.any ho I.free fun z=>(hch _ z).2.1 rfl;exact I.step (ch:=ch) hch (fun b o hL hb hc e n=>u.keep b o e n (fun z=>(aY.mp (I.xO b z)).elim hL hb) hc) (fun b o _ _ hc e n=>u.any e n hc) (fun b o hc e n=>u.free b o e n hc) (fun b o hc e=>u.there b o e hc) u.tups u.frzs u.tbls (fun m' hm=>by obtain⟨o',es',ep',ho',r'⟩:=hm;rw[ho] at ho';cases ho';exact⟨_,es',ep',hL,r'⟩) hok hg
theorem Inv.turned {t':Nat} (I:Inv X Yp σ H s) (k:∀ b o,b≠it->s.heap.get? b=some o->h'.get? b=some o) (hn:H it=none) (hL:it≠X.env.locals)
  (h1:it∈X.ex∨X.s₀.heap.objs.size<=it) (h2:∀ x c,X.env.cells.lookup x=some c->c≠it) (h3:∀ p∈X.pn++Yp,p.1≠it):Inv X Yp σ H { s with heap:=h',toks:=t' }:=by
 have nit:∀ b u,H b=some u->b≠it:=fun b u e z=>by rw[z,hn] at e;cases e
 refine I.step (g':=s.gens) (d':=s.drawn) (ch:=[it]) (fun b hb=>?_) (fun b o _ _ hc e _=>k b o (fun z=>hc (by simp [z])) e) (fun b o _ _ hc e _=>⟨o.slots,k b o (fun z=>hc (by simp [z])) e⟩) (fun _ _ _ _ n=>n)
  (fun b o hc e=>⟨o,k b o (fun z=>hc (by simp [z])) e⟩) (fun _ _ e=>e) (fun _ _ _ e=>e) (fun b ps e=>⟨#[],by rw[e];simp⟩) (fun m hm=>?_) (fun b u e=>?_) I.bare
 ·have e:b=it:=by simpa using hb
  subst e;exact⟨h1,hL,h2,h3⟩
 ·obtain⟨o,es,ep,ho,r⟩:=hm;exact⟨o,es,ep,k _ o (Ne.symm hL) ho,r⟩
 ·refine (I.hok b u e).pZ (fun c v hc q=>k c v ?_ q) (fun _ q=>q) fun _ _ q=>q;rcases hc with z | z
  ·rw[z];exact nit b u e
  ·exact nit c _ z
theorem Inv.tok (I:Inv X Yp σ H s) (t:Nat):Inv X Yp σ H { s with toks:=t }:=I.un (h':=s.heap) (t':=t) Un.refl I.hok
theorem Inv.kept {t':Nat} (I:Inv X Yp σ H s) (k:∀ b u,s.heap.get? b=some u->h'.get? b=some u):Inv X Yp σ H { s with heap:=h',toks:=t' }:=I.un (Un.kept k) (I.hok.kept k)
theorem Inv.laid {a:Addr}{o:HO}{t':Nat} (I:Inv X Yp σ H s) (k:∀ b u,s.heap.get? b=some u->h'.get? b=some u) (hp:s.heap.objs.size<=a) (new:bX X.prog X.w (upd H a o) h' a o) :
  Inv X Yp σ (upd H a o) { s with heap:=h',toks:=t' }:=I.un (Un.laid k hp (I.hok.fresh hp)) (I.hok.laid k hp new)
theorem Inv.write {x e:Addr}{o:HO}{t':Nat} (I:Inv X Yp σ H s) (mu:ā (H x)) (he:e=x∨H e=some (.own x)) (k:∀ b u,b≠e->s.heap.get? b=some u->h'.get? b=some u) (heo:∃ u,h'.get? e=some u)
  (new:bX X.prog X.w (upd H x o) h' x o):Inv X Yp σ (upd H x o) { s with heap:=h',toks:=t' }:=I.un (Un.write mu he k heo) (I.hok.write mu he k heo new)
theorem Inv.Cf {pins':Zp} (I:Inv X Yp σ H s) (h:∀ p∈pins',s.heap.get? p.1=some p.2/\H p.1=none/\p.1≠X.env.locals/\p.1∉X.fs/\∀ v,p.2.data≠.cell v):Inv X pins' σ H s :=
 ⟨I.ok,I.os,I.bare,I.base,I.loc,I.cell,I.free,I.freeC,fun p hp=>(bC.mp hp).elim (fun z=>I.pin p (lB _ z)) (h p),I.hok,I.len⟩
theorem yL {N:Ze} (hN:N.Nodup) {i j:Nat} (a:N[i]?=some x) (b:N[j]?=some x):i=j:=by obtain⟨h1,e1⟩:=bL.mp a;obtain⟨h2,e2⟩:=bL.mp b;exact (List.getElem_inj hN).mp (e1.trans e2.symm)
theorem wq {M:Model}{A:Around}{E:Zq}{v:V}{Q:Unit->Zg->Prop} (I:Inv X Yp σ H s) (hN:X.N.Nodup) (hi:X.N[i]?=some x) (hx:Loc X.env.scope x) (r:RelV v u)
  (h:∀ s',Inv X Yp (σ.set i (some v)) H s'->(∃ a,Heap.SameBut a s.heap s'.heap/\(a=X.env.locals∨X.env.cells.lookup x=some a))->Q () s') (hf:X.fn x=true∨X.env.scope.names.lookup x=some .local:=by first | exact .inl rfl | exact .inr rfl | assumption):wpAny M A (storeName X.env x u) Q E s:=by
 obtain⟨m,hn,hl⟩:=id I.loc;have hcls:(X.env.scope.kind==.class||(X.env.scope.kind==.module&&X.env.locals != X.env.globals))=false:=by rw[I.ok.kind];rfl
 have hiσ:i<⇑σ:=by rw[I.len];exact (bL.mp hi).1
 have ô:=I.ô;have tracked:∀ {a:Addr}{h':Heap},(∃ o,s.heap.get? a=some o/\H a=none)->Heap.SameBut a s.heap h'->Î X.prog X.w H h':=fun {a h'} ha hs b ob e=>by
  obtain⟨_,_,hfree⟩:=ha;refine (I.hok b ob e).pZ (fun c w' hc q=>(hs.2 c ?_).trans q) (fun _ q=>q) fun _ _ q=>q;rintro rfl;rcases hc with rfl | hc
  ·rw[hfree] at e;cases e
  ·rw[hfree] at hc;cases hc
 rcases hx with hk | hk
 ·refine wpAny_storeName_local hk hn (fun h' hn' hs=>?_) hcls;obtain⟨oL,_,_,hoL,_⟩:=id hn;refine h _ ⟨I.ok,I.os,I.bare,⟨fun b o e n hb hx=>?_,fun b o e n hb hx=>?_,I.base.free,fun b o e hx=>?_,I.base.tups,I.base.frzs,I.base.tbls⟩,⟨_,hn',fun j y v' e1 e2 e3=>?_⟩,fun y c e=>?_,I.free,I.freeC,fun p hp=>?_,tracked ⟨oL,hoL,I.free⟩ hs,by simpa using I.len⟩ ⟨_,hs,.inl rfl⟩
  ·exact (hs.2 b (bw (bK (aQ e) I.ok.above))).trans (I.base.keep b o e n hb hx)
  ·obtain⟨sl,e1⟩:=I.base.slot b o e n hb hx;exact⟨sl,(hs.2 b (bw (bK (aQ e) I.ok.above))).trans e1⟩
  ·obtain⟨o',e1⟩:=I.base.there b o e hx;exact⟨o',(hs.2 b (bw (bK (aQ e) I.ok.above))).trans e1⟩
  ·by_cases hj:j=i
   ·subst hj;rw[hi] at e1;cases e1;rw[List.getElem?_set_self hiσ] at e2;cases e2;exact⟨u,r,.inl ⟨hk,by simp⟩⟩
   ·rw[qR (Ne.symm hj)] at e2;obtain⟨u',r',q⟩:=hl j y v' e1 e2 e3;refine⟨u',r',?_⟩;rcases q with ⟨k,e⟩ | ⟨k,c,e,z⟩
    ·refine .inl ⟨k,?_⟩;have:y≠x:=fun e=>hj (yL hN e1 (e ▸ hi));simp [this,e]
    ·exact .inr ⟨k,c,e,z.sameBut hs (ô y c e)⟩
  ·obtain⟨w',z⟩:=I.cell y c e;exact⟨w',z.sameBut hs (ô y c e)⟩
  ·obtain⟨e,n,ne,nf,d⟩:=I.pin p hp;exact⟨(hs.2 p.1 ne).trans e,n,ne,nf,d⟩
 ·have hfn:X.fn x=true:=by
   rcases hf with z | z
   ·exact z
   ·rw[z] at hk;cases hk
  obtain⟨c,hc⟩:=I.ok.has x (.inl hk);obtain⟨w',z⟩:=I.cell x c hc;refine wpAny_storeName_cell I.ok.kind hk hc z (fun h' hc' hs=>?_);obtain⟨oc,hoc,hocd⟩:=id z;refine h { s with heap:=h' } ⟨I.ok,I.os,I.bare,⟨fun b o e n hb hx=>?_,fun b o e n hb hx=>?_,I.base.free,fun b o e hx=>?_,I.base.tups,I.base.frzs,I.base.tbls⟩,⟨m,hn.sameBut hs (Ne.symm (ô x c hc)),fun j y v' e1 e2 e3=>?_⟩,fun y c' e=>?_,I.free,I.freeC,fun p hp=>?_,tracked ⟨oc,hoc,I.freeC x c hc⟩ hs,by simpa using I.len⟩ ⟨c,hs,.inr hc⟩
  ·exact (hs.2 b (bw (bK (aQ e) (I.ok.cab x c hfn hc)))).trans (I.base.keep b o e n hb hx)
  ·obtain⟨sl,e1⟩:=I.base.slot b o e n hb hx;exact⟨sl,(hs.2 b (bw (bK (aQ e) (I.ok.cab x c hfn hc)))).trans e1⟩
  ·obtain⟨o',e1⟩:=I.base.there b o e hx;exact⟨o',(hs.2 b (bw (bK (aQ e) (I.ok.cab x c hfn hc)))).trans e1⟩
  ·by_cases hj:j=i
   ·subst hj;rw[hi] at e1;cases e1;rw[List.getElem?_set_self hiσ] at e2;cases e2;exact⟨u,r,.inr ⟨.inl hk,c,hc,hc'⟩⟩
   ·rw[qR (Ne.symm hj)] at e2;obtain⟨u',r',q⟩:=hl j y v' e1 e2 e3;refine⟨u',r',?_⟩;rcases q with q | ⟨k,c',e,z'⟩
    ·exact .inl q
    ·refine .inr ⟨k,c',e,z'.sameBut hs ?_⟩;rintro rfl;exact hj (yL hN e1 (I.ok.inj _ _ _ e hc ▸ hi))
  ·by_cases hcc:c'=c
   ·subst hcc;exact⟨_,hc'⟩
   ·obtain⟨w2,z2⟩:=I.cell y c' e;exact⟨w2,z2.sameBut hs hcc⟩
  ·obtain⟨e,n,ne,nf,d⟩:=I.pin p hp;refine⟨(hs.2 p.1 ?_).trans e,n,ne,nf,d⟩;intro q;rw[q,hoc] at e;have q':oc=p.2:=Option.some.inj e;exact d w' (by rw[←q'];exact hocd)
theorem qI {M:Model}{A:Around}{E:Zq}{v:V}{Q:Unit->Zg->Prop} (I:Inv X Yp σ H s) (hN:X.N.Nodup) (hi:X.N[i]?=some x) (hx:Loc X.env.scope x) (r:RelV v u)
  (h:∀ s',Inv X Yp (σ.set i (some v)) H s'->Q () s') (hf:X.fn x=true∨X.env.scope.names.lookup x=some .local:=by first | exact .inl rfl | exact .inr rfl | assumption):wpAny M A (storeName X.env x u) Q E s :=
 wq I hN hi hx r (fun s' I' _=>h s' I') hf
theorem Inv.J3 {s':Zg} (I:Inv X Yp σ H s) (ho:s'.os=s.os) (u:Un (Ñ X.stack) ch H H' s.heap s'.heap) (hok:Î X.prog X.w H' s'.heap) (hg:AllBare s'.gens)
  (hch:∀ b∈ch,(b∈X.ex∨X.s₀.heap.objs.size<=b)/\b≠X.env.locals/\(∀ x c,X.env.cells.lookup x=some c->c≠b)/\∀ p∈X.pn++Yp,p.1≠b):Inv X Yp σ H' s':=by
 obtain⟨h',g',d',t',o'⟩:=s';have e:o'=s.os:=ho;subst e;exact I.call (g':=g') (t':=t') (d':=d') u hok hg hch
end
abbrev XK:=Value->Option Addr->Hp->Prop
abbrev St:=List (Option V)
abbrev VK:=V->Hp->Prop
abbrev TE:=St->Hp->VK->Prop
abbrev TT:=St->Hp->(Bool->Hp->Prop)->Prop
abbrev TA:=St->Hp->(List V->Hp->Prop)->Prop
structure Ends where
 nx:St->Hp->Prop
 rt:VK
 bk:St->Hp->Prop:=fun _ _=>False
 ct:St->Hp->Prop:=fun _ _=>False
abbrev TS:=Ends->St->Hp->Prop
inductive EP (X:Cx) (Yp:Zp) (σ:St) (Q:VK) (u:Value) (s':Zg):Prop
 | mk (v:V) (H':Hp) (i:Inv X Yp σ H' s') (r:RelV v u) (q:Q v H'):EP X Yp σ Q u s'
inductive TP (X:Cx) (Yp:Zp) (σ:St) (Q:Bool->Hp->Prop) (b:Bool) (s':Zg):Prop
 | mk (H':Hp) (i:Inv X Yp σ H' s') (q:Q b H'):TP X Yp σ Q b s'
inductive AP (X:Cx) (Yp:Zp) (σ:St) (Q:List V->Hp->Prop) (us:Zc) (s':Zg):Prop
 | mk (vs:List V) (H':Hp) (i:Inv X Yp σ H' s') (r:Vals vs us) (q:Q vs H'):AP X Yp σ Q us s'
def SP (X:Cx) (Yp:Zp) (D:Ends) (f:Flow) (s':Zg):Prop :=
 match f with
 | .next=>∃ σ' H',Inv X Yp σ' H' s'/\D.nx σ' H'
 | .brk=>∃ σ' H',Inv X Yp σ' H' s'/\D.bk σ' H'
 | .cont=>∃ σ' H',Inv X Yp σ' H' s'/\D.ct σ' H'
 | .ret u=>∃ v σ' H',Inv X Yp σ' H' s'/\RelV v u/\D.rt v H'
def PE (X:Cx) (e:Expr) (t:TE):Prop :=
 ∀ (Yp:Zp) (s:Zg) (σ:St) (H:Hp) (Q:VK),Inv X Yp σ H s->t σ H Q->wpAny (model X.prog X.w) X.A (eval e X.env) (EP X Yp σ Q) X.xe s
def PT (X:Cx) (e:Expr) (t:TT):Prop :=
 ∀ (Yp:Zp) (s:Zg) (σ:St) (H:Hp) (Q:Bool->Hp->Prop),Inv X Yp σ H s->t σ H Q->wpAny (model X.prog X.w) X.A (isTrue e X.env (eval e X.env)) (TP X Yp σ Q) X.xe s
def PW (X:Cx) (e:Expr) (t:TT):Prop :=
 ∀ (whole:Sem Value) (Yp:Zp) (s:Zg) (σ:St) (H:Hp) (Q:Bool->Hp->Prop),Inv X Yp σ H s->t σ H Q->wpAny (model X.prog X.w) X.A (isTrue e X.env whole) (TP X Yp σ Q) X.xe s
theorem PW.pt {X:Cx}{t:TT} (h:PW X e t):PT X e t:=h _
def PA (X:Cx) (es:List Expr) (t:TA):Prop :=
 ∀ (pos:Pos) (Yp:Zp) (s:Zg) (σ:St) (H:Hp) (Q:List V->Hp->Prop),Inv X Yp σ H s->t σ H Q->wpAny (model X.prog X.w) X.A (spliced (backTo pos (starEach es X.env))) (AP X Yp σ Q) X.xe s
def PS (X:Cx) (st:Stmt) (t:TS):Prop :=
 ∀ (Yp:Zp) (s:Zg) (σ:St) (H:Hp) (D:Ends),Inv X Yp σ H s->t D σ H->wpAny (model X.prog X.w) X.A (exec st X.env) (SP X Yp D) X.xe s
def Ù (X:Cx) (st:List Stmt) (t:TS):Prop :=
 ∀ (Yp:Zp) (s:Zg) (σ:St) (H:Hp) (D:Ends),Inv X Yp σ H s->t D σ H->wpAny (model X.prog X.w) X.A (execs st X.env) (SP X Yp D) X.xe s
theorem Â {α:Type}{t:Sem α}{Q Q':α->Zg->Prop} (h:wpAny M A t Q E s) (hQ:∀ a s,Q a s->Q' a s):wpAny M A t Q' E s:=cu h hQ fun _ _ x=>x
end
section
section
variable {X:Cx}
def vd (i:Nat):TE:=fun σ H Q=>∃ v,σ[i]?=some (some v)/\Q v H
def tC (v:V):TE:=fun _ H Q=>Q v H
theorem xA (hN:X.N[i]?=some x) (hv:ă X.env.scope x) (hd:(x==("__debug__":Str))=false:=by decide) (hcd:(x==("__classdict__":Str))=false:=by decide):PE X (.Name x pos) (vd i):=by
 intro Yp s σ H Q I h;obtain⟨v,e,h⟩:=h;obtain⟨m,hn,hl⟩:=I.loc;obtain⟨u,r,l⟩:=hl i x v hN e hv;have fin:EP X Yp σ Q u s:=⟨v,H,I,r,h⟩;rcases l with ⟨hk,hm⟩ | ⟨hk,c,hc,hcell⟩
 ·exact wpAny_Name (wpAny_loadName_local I.ok.kind hk hn hm fin) hd
 ·rcases hk with hk | hk
  ·exact wpAny_Name (wpAny_loadName_cell I.ok.kind hk hc hcell fin) hd
  ·exact wpAny_Name (wpAny_loadName_free I.ok.kind hk hc hcell fin hcd) hd
theorem aj {i j pos}:PE X (.Constant (.int i) j pos) (tC (.int i)):=fun _ _ _ H _ I h=>wpAny_Constant_int ⟨.int i,H,I.tok _,⟨_,rfl⟩,h⟩
theorem iD {b j pos}:PE X (.Constant (.bool b) j pos) (tC (.bl b)):=fun _ _ _ H _ I h=>Constant_bool ⟨.bl b,H,I,rfl,h⟩
theorem dh {j pos}:PE X (.Constant .none j pos) (tC .non):=fun _ _ _ H _ I h=>Constant_none ⟨.non,H,I,rfl,h⟩
theorem bt {x j pos}:PE X (.Constant (.str x) j pos) (tC (.str x)):=fun _ _ _ H _ I h=>Calls.Constant_str ⟨.str x,H,I.tok _,⟨_,rfl⟩,h⟩
def Gl (X:Cx) (x:Str):Prop:=X.env.kindOf x=some .globalImplicit
theorem ql {E:Zq}{σ:St}{H:Hp}{pos:Pos} (I:Inv X Yp σ H s) (hg:Gl X x) (hm:X.mg x=some u) (h:Q u s)
  (hd:(x==("__debug__":Str))=false:=by decide):wpAny (model X.prog X.w) X.A (eval (.Name x pos) X.env) Q E s :=
 Calls.Name_function_global I.ok.kind hg (Calls.loadGlobal_global (by rw[I.ok.glob];exact I.mod.glob.keeps I.bk) hm h) hd
theorem mG {E:Zq}{σ:St}{H:Hp}{pos:Pos} (I:Inv X Yp σ H s) (hg:Gl X x) (hm:X.mg x=none) (hv:bootBuiltins x=some u) (h:Q u s)
  (hn:x≠"__name__":=by decide) (hd:(x==("__debug__":Str))=false:=by decide):wpAny (model X.prog X.w) X.A (eval (.Name x pos) X.env) Q E s:=by
 obtain⟨mb,h1,h2⟩:=I.mod.blt;exact Calls.Name_function_global I.ok.kind hg (Calls.loadGlobal_builtin (by rw[I.ok.glob];exact I.mod.glob.keeps I.bk) hm (by rw[I.ok.blt];exact h1.keeps I.bk) ((h2 x hn).trans hv) h) hd
theorem IV {v:V} (hg:Gl X x) (hm:X.mg x=some u) (r:RelV v u) (hd:(x==("__debug__":Str))=false:=by decide):PE X (.Name x pos) (tC v) :=
 fun _ _ _ H _ I h=>ql I hg hm ⟨v,H,I,r,h⟩ hd
theorem IS {v:V} (hg:Gl X x) (hm:X.mg x=none) (hv:bootBuiltins x=some u) (r:RelV v u) (hn:x≠"__name__":=by decide) (hd:(x==("__debug__":Str))=false:=by decide):PE X (.Name x pos) (tC v) :=
 fun _ _ _ H _ I h=>mG I hg hm hv ⟨v,H,I,r,h⟩ hn hd
variable {a b:Expr}{ta tb:TE}{pos:Pos}
def tB (t:TE):TT:=fun σ H Q=>t σ H fun x H1=>∃ c,x=.bl c/\Q c H1
theorem cx {t:TE} (h:PE X e t) (he:∀ whole,isTrue e X.env whole=(do let v ←whole;standAt e.pos;holding [v] (truthy v)):=by intro _;rfl):PT X e (tB t):=by intro Yp s σ H Q I hw;refine isTrue_plain (Â (h Yp s σ H _ I hw) fun v s1 ⟨x,H1,I1,r1,q1⟩=>?_) (he _);obtain⟨d,rfl,q⟩:=q1;cases r1;exact ik ⟨H1,I1,q⟩
variable {tA tB':TT}{rest:List Expr}
def M0 (t u:TT):TT:=fun σ H Q=>t σ H fun c H1=>if c=true then u σ H1 Q else Q false H1
def tOr (t u:TT):TT:=fun σ H Q=>t σ H fun c H1=>if c=true then Q true H1 else u σ H1 Q
def M5 (t:TT):TT:=fun σ H Q=>t σ H fun c H1=>Q (!c) H1
theorem tp (ha:PT X a tA):PW X (.BoolOp .And [a] pos) tA:=by
 intro wh Yp s σ H Q I h;refine isTrue_and (Â (ha Yp s σ H Q I h) fun c s1 e=>?_);cases c with
 | true=>exact isTrue_and_nil e
 | false=>exact e
theorem gW (ha:PT X a tA):PW X (.BoolOp .Or [a] pos) tA:=by
 intro wh Yp s σ H Q I h;refine isTrue_or (Â (ha Yp s σ H Q I h) fun c s1 e=>?_);cases c with
 | false=>exact isTrue_or_nil e
 | true=>exact e
theorem uL (ha:PT X a tA) (hb:PW X (.BoolOp .And (b::rest) pos) tB'):PW X (.BoolOp .And (a::b::rest) pos) (M0 tA tB'):=by
 intro wh Yp s σ H Q I h;refine isTrue_and (Â (ha Yp s σ H _ I h) fun c s1 ⟨H1,I1,q1⟩=>?_);cases c with
 | true=>exact hb wh Yp s1 σ H1 Q I1 q1
 | false=>exact⟨H1,I1,q1⟩
theorem iE (ha:PT X a tA) (hb:PW X (.BoolOp .Or (b::rest) pos) tB'):PW X (.BoolOp .Or (a::b::rest) pos) (tOr tA tB'):=by
 intro wh Yp s σ H Q I h;refine isTrue_or (Â (ha Yp s σ H _ I h) fun c s1 ⟨H1,I1,q1⟩=>?_);cases c with
 | true=>exact⟨H1,I1,q1⟩
 | false=>exact hb wh Yp s1 σ H1 Q I1 q1
theorem c8 (ha:PT X a tA):PT X (.UnaryOp .Not a pos) (M5 tA):=by intro Yp s σ H Q I h;exact isTrue_not (Â (ha Yp s σ H (fun c H1=>Q (!c) H1) I h) fun c s1 ⟨H1,I1,q1⟩=>⟨H1,I1,q1⟩)
def JM (ta tb:TE):TE:=fun σ H Q=>ta σ H fun x H1=>∃ c,x=.bl c/\if c=true then tb σ H1 Q else Q (.bl false) H1
def M6 (ta tb:TE):TE:=fun σ H Q=>ta σ H fun x H1=>∃ c,x=.bl c/\if c=true then Q (.bl true) H1 else tb σ H1 Q
def JR (ta:TE):TE:=fun σ H Q=>ta σ H fun x H1=>∃ c,x=.bl c/\Q (.bl (!c)) H1
theorem mP {op}{t:TE} (h:PE X a t):PE X (.BoolOp op [a] pos) t:=fun Yp s σ H Q I hw=>BoolOp_one (h Yp s σ H Q I hw)
theorem pC (ha:PE X a ta) (hb:PE X (.BoolOp .And (b::rest) pos) tb):PE X (.BoolOp .And (a::b::rest) pos) (JM ta tb):=by
 intro Yp s σ H Q I h;refine BoolOp_and (Â (ha Yp s σ H _ I h) fun v s1 ⟨x,H1,I1,r1,q1⟩=>?_);obtain⟨c,rfl,q1⟩:=q1;cases r1;refine ik ?_;cases c with
 | true=>exact hb Yp s1 σ H1 Q I1 q1
 | false=>exact⟨.bl false,H1,I1,rfl,q1⟩
theorem Ml (ha:PE X a ta) (hb:PE X (.BoolOp .Or (b::rest) pos) tb):PE X (.BoolOp .Or (a::b::rest) pos) (M6 ta tb):=by
 intro Yp s σ H Q I h;refine BoolOp_or (Â (ha Yp s σ H _ I h) fun v s1 ⟨x,H1,I1,r1,q1⟩=>?_);obtain⟨c,rfl,q1⟩:=q1;cases r1;refine ik ?_;cases c with
 | false=>exact hb Yp s1 σ H1 Q I1 q1
 | true=>exact⟨.bl true,H1,I1,rfl,q1⟩
theorem Lh (ha:PE X a ta):PE X (.UnaryOp .Not a pos) (JR ta):=by intro Yp s σ H Q I h;refine UnaryOp_ (Â (ha Yp s σ H _ I h) fun v s1 ⟨x,H1,I1,r1,q1⟩=>?_);obtain⟨c,rfl,q1⟩:=q1;cases r1;exact not_of (ik ⟨.bl (!c),H1,I1,rfl,q1⟩)
def Ę (t:TT) (ta tb:TE):TE:=fun σ H Q=>t σ H fun c H1=>if c=true then ta σ H1 Q else tb σ H1 Q
theorem mO (hc:PT X c tA) (ha:PE X a ta) (hb:PE X b tb):PE X (.IfExp c a b pos) (Ę tA ta tb):=by
 intro Yp s σ H Q I h;refine wpAny_IfExp (Â (hc Yp s σ H _ I h) fun d s1 ⟨H1,I1,q1⟩=>?_);cases d with
 | true=>exact ha Yp s1 σ H1 Q I1 q1
 | false=>exact hb Yp s1 σ H1 Q I1 q1
end
end
section
def Ã (K:Zf) (H:Hp) (a:Addr) (xs:List V):Prop :=
 Rd H a (.lst xs) ∨
  ∃ (o:Obj) (its:Array Value) (n:Nat),K.lookup a=some o/\o.cls=.type "list"/\o.dict=none/\o.data=.seq its n/\its.size<=sizeLine/\Vals xs its.toList
def Ó (K:Zf) (H:Hp) (a:Addr) (xs:List V):Prop :=
 Rd H a (.tup xs) ∨
  ∃ (o:Obj) (its:Array Value) (n:Nat),K.lookup a=some o/\o.cls=.type "tuple"/\o.data=.seq its n/\its.size<=sizeLine/\Vals xs its.toList
noncomputable def MT:Value->Option V
 | .none=>some .non
 | .bool b=>some (.bl b)
 | .int i _=>some (.int i)
 | .str x _=>some (.str x)
 | .bytes b _=>some (.byt b)
 | .float b _=>some (.flt b)
 | .ref a=>some (.ref a)
 | .type n=>some (.ty n)
 | _=>none
theorem RelV.abs {x:V} (r:RelV x u):MT u=some x:=by
 cases x with
 | non=>cases r;rfl
 | bl _=>cases r;rfl
 | int _=>obtain⟨t,rfl⟩:=r;rfl
 | str _=>obtain⟨t,rfl⟩:=r;rfl
 | byt _=>obtain⟨t,rfl⟩:=r;rfl
 | flt _=>obtain⟨t,rfl⟩:=r;rfl
 | ref _=>cases r;rfl
 | ty _=>cases r;rfl
theorem RelV.inj {x y:V}{u:Value} (r:RelV x u) (q:RelV y u):x=y:=Option.some.inj (r.abs.symm.trans q.abs)
theorem Vals.inj:∀ {xs ys:List V}{us:Zc},Vals xs us->Vals ys us->xs=ys
 | _,_,_,.nil,.nil=>rfl
 | _,_,_,.cons r t,.cons r' t'=>by rw[r.inj r',Vals.inj t t']
section
variable {X:Cx}{Yp:Zp}{σ:St}{H:Hp}{s:Zg}{a:Addr}{xs ys:List V}
theorem Ã.of (h:H a=some (.lst xs)):Ã K H a xs:=.inl (.inl h)
theorem Ó.of (h:H a=some (.tup xs)):Ó K H a xs:=.inl (.inl h)
theorem Inv.list (I:Inv X Yp σ H s) (h:Ã X.K H a xs):∃ its:Zc,Vals xs its/\PlainL s.heap a its.toArray/\⇑xs<=sizeLine:=by
 rcases h with h | ⟨o,its,n,hk,hc,hd,hs,hz,r⟩
 ·obtain⟨z,its,n,r,e⟩:=h.ok I.hok;exact⟨its,r,⟨_,n,e,rfl,rfl,rfl⟩,z⟩
 ·refine⟨its.toList,r,⟨o,n,I.Ô a o hk,hc,hd,by simpa using hs⟩,?_⟩;have e:=⇑r;simp only[eP] at e;left
theorem Inv.tuple (I:Inv X Yp σ H s) (h:Ó X.K H a xs):∃ its:Zc,Vals xs its/\IsTup s.heap a its.toArray/\⇑xs<=sizeLine:=by
 rcases h with h | ⟨o,its,n,hk,hc,hs,hz,r⟩
 ·obtain⟨z,its,r,p⟩:=h.ok I.hok;exact⟨its,r,p,z⟩
 ·refine⟨its.toList,r,⟨o,I.Ô a o hk,hc,n,by simpa using hs⟩,?_⟩;have e:=⇑r;simp only[eP] at e;left
theorem Inv.qo (I:Inv X Yp σ H s) (h:Ã X.K H a xs) (h':Ã X.K H a ys):xs=ys:=by
 obtain⟨its,r,⟨o,n,e,_,_,d⟩,_⟩:=I.list h;obtain⟨its',r',⟨o',n',e',_,_,d'⟩,_⟩:=I.list h';rw[e] at e';cases e';rw[d] at d'
 injection d' with d1 _
 have:its=its':=by simpa using bQ Array.toList d1
 subst this;exact r.inj r'
theorem Inv.Et (I:Inv X Yp σ H s) (h:Ó X.K H a xs) (h':Ó X.K H a ys):xs=ys:=by
 obtain⟨its,r,⟨o,e,_,n,d⟩,_⟩:=I.tuple h;obtain⟨its',r',⟨o',e',_,n',d'⟩,_⟩:=I.tuple h';rw[e] at e';cases e';rw[d] at d'
 injection d' with d1 _
 have:its=its':=by simpa using bQ Array.toList d1
 subst this;exact r.inj r'
end
noncomputable abbrev Cx.sW (X:Cx) (E:Zq):Cx:={ X with xe:=E }
noncomputable abbrev Cx.ï (X:Cx):Cx:=X.sW fun _ _=>False
theorem Cx.Ok.sW {X:Cx} (ok:X.Ok) (E:Zq):(X.sW E).Ok :=
 ⟨ok.mod,ok.kind,ok.glob,ok.blt,ok.above,ok.inj,ok.has,ok.cab,ok.hd,ok.frames,ok.stk,ok.exf,ok.bs,ok.bsz,ok.noex,ok.exfs,ok.oM,ok.frf⟩
theorem Cx.Ok.kG {X:Cx} (ok:(X.sW E).Ok):X.Ok :=
 ⟨ok.mod,ok.kind,ok.glob,ok.blt,ok.above,ok.inj,ok.has,ok.cab,ok.hd,ok.frames,ok.stk,ok.exf,ok.bs,ok.bsz,ok.noex,ok.exfs,ok.oM,ok.frf⟩
section
variable {X:Cx}{Yp:Zp}{σ:St}{H:Hp}{s:Zg}{E:Zq}
theorem Inv.sW (I:Inv X Yp σ H s) (E:Zq):Inv (X.sW E) Yp σ H s:=⟨I.ok.sW E,I.os,I.bare,I.base,I.loc,I.cell,I.free,I.freeC,I.pin,I.hok,I.len⟩
theorem Inv.kG (I:Inv (X.sW E) Yp σ H s):Inv X Yp σ H s:=⟨I.ok.kG,I.os,I.bare,I.base,I.loc,I.cell,I.free,I.freeC,I.pin,I.hok,I.len⟩
theorem SP.kG {D:Ends}{f:Flow}{s':Zg} (h:SP (X.sW E) Yp D f s'):SP X Yp D f s':=by
 cases f with
 | next=>obtain⟨σ',H',I,q⟩:=h;exact⟨σ',H',I.kG,q⟩
 | brk=>obtain⟨σ',H',I,q⟩:=h;exact⟨σ',H',I.kG,q⟩
 | cont=>obtain⟨σ',H',I,q⟩:=h;exact⟨σ',H',I.kG,q⟩
 | ret u=>obtain⟨v,σ',H',I,r,q⟩:=h;exact⟨v,σ',H',I.kG,r,q⟩
theorem PE.ï {e:Expr}{t:TE} (h:PE X.ï e t):PE X e t:=fun Yp s σ H Q I hw =>cu (h Yp s σ H Q (I.sW _) hw) (fun _ _ ⟨v,H',I',r,q⟩=>⟨v,H',I'.kG,r,q⟩) fun _ _ z=>False.elim z
theorem PT.ï {e:Expr}{t:TT} (h:PT X.ï e t):PT X e t:=fun Yp s σ H Q I hw =>cu (h Yp s σ H Q (I.sW _) hw) (fun _ _ ⟨H',I',q⟩=>⟨H',I'.kG,q⟩) fun _ _ z=>False.elim z
theorem Ù.ï {st:List Stmt}{t:TS} (h:Ù X.ï st t):Ù X st t:=fun Yp s σ H D I hw =>cu (h Yp s σ H D (I.sW _) hw) (fun _ _ q=>q.kG) fun _ _ z=>False.elim z
end
section
variable {X:Cx}{st:Stmt}{rest:List Stmt}{t u:TS}{e:Expr}{te:TE}{pos:Pos}
def Hf:TS:=fun D σ H=>D.nx σ H
def Hg (t u:TS):TS:=fun D σ H=>t { D with nx:=u D } σ H
theorem aV:Ù X [] Hf:=fun _ _ σ H _ I h=>wpAny_execs_nil ⟨σ,H,I,h⟩
theorem ag (h1:PS X st t) (h2:Ù X rest u):Ù X (st::rest) (Hg t u):=by
 intro Yp s σ H D I h;refine wpAny_execs_cons (Â (h1 Yp s σ H { D with nx:=u D } I h) fun f s1 q=>?_);cases f with
 | next =>obtain⟨σ',H',I',q⟩:=q;exact h2 Yp s1 σ' H' D I' q
 | ret v=>exact q
 | brk=>exact q
 | cont=>exact q
theorem ao (h1:PS X st t):Ù X [st] t:=by
 intro Yp s σ H D I h;refine wpAny_execs_cons (Â (h1 Yp s σ H D I h) fun f s1 q=>?_);cases f with
 | next=>exact wpAny_execs_nil q
 | ret v=>exact q
 | brk=>exact q
 | cont=>exact q
theorem Inv.quiet {σ:St}{H:Hp} (I:Inv X Yp σ H s):interactive X.env=false:=by simp [interactive,I.ok.kind]
def JN (te:TE):TS:=fun D σ H=>te σ H fun _ H1=>D.nx σ H1
theorem eM (he:PE X e te) (hs:swapsWith e none pos.line X.env=pure false:=by rfl):PS X (.Expr e pos) (JN te):=by intro Yp s σ H D I h;exact wpAny_Expr_any (Â (he Yp s σ H _ I h) fun v s1 ⟨x,H1,I1,r1,q1⟩=>⟨σ,H1,I1,q1⟩) I.quiet hs
def Lz (te:TE):TS:=fun D σ H=>te σ H D.rt
theorem aG (he:PE X e te):PS X (.Return (some e) pos) (Lz te):=by intro Yp s σ H D I h;exact wpAny_Return_some (Â (he Yp s σ H _ I h) fun v s1 ⟨x,H1,I1,r1,q1⟩=>⟨x,σ,H1,I1,r1,q1⟩)
def Ly (c:TT) (t u:TS):TS:=fun D σ H=>c σ H fun b H1=>if b=true then t D σ H1 else u D σ H1
theorem bG {a b:List Stmt}{tc:TT} (hc:PT X c tc) (ha:Ù X a t) (hb:Ù X b u):PS X (.If c a b pos) (Ly tc t u):=by
 intro Yp s σ H D I h;refine wpAny_If (Â (hc Yp s σ H _ I h) fun d s1 ⟨H1,I1,q1⟩=>?_);cases d with
 | true=>exact ha Yp s1 σ H1 D I1 q1
 | false=>exact hb Yp s1 σ H1 D I1 q1
end
abbrev TG:=V->St->Hp->(St->Hp->Prop)->Prop
abbrev à:=List V->St->Hp->(St->Hp->Prop)->Prop
def PG (X:Cx) (target:Expr) (t:TG):Prop :=
 ∀ (Yp:Zp) (s:Zg) (σ:St) (H:Hp) (v:V) (u:Value) (Q:St->Hp->Prop),Inv X Yp σ H s->RelV v u->t v σ H Q →
  wpAny (model X.prog X.w) X.A (assign target X.env u) (fun _ s'=>∃ σ' H',Inv X Yp σ' H' s'/\Q σ' H') X.xe s
def î (X:Cx) (ts:List Expr) (t:à):Prop :=
 ∀ (Yp:Zp) (s:Zg) (σ:St) (H:Hp) (vs:List V) (us:Zc) (Q:St->Hp->Prop),Inv X Yp σ H s->Vals vs us->t vs σ H Q →
  wpAny (model X.prog X.w) X.A (assignInOrder ((assignEach ts X.env).map (·.2)) us) (fun _ s'=>∃ σ' H',Inv X Yp σ' H' s'/\Q σ' H') X.xe s
abbrev Hq:=V->V->V->Hp->(Hp->Prop)->Prop
def Ka (X:Cx) (t:Hq):Prop :=
 ∀ (Yp:Zp) (s:Zg) (σ:St) (H:Hp) (o i v:V) (ov iv u:Value) (Q:Hp->Prop),Inv X Yp σ H s->RelV o ov->RelV i iv->RelV v u->t o i v H Q →
  wpAny (model X.prog X.w) X.A (setItem ov iv u) (fun _ s'=>∃ H',Inv X Yp σ H' s'/\Q H') X.xe s
section
variable {X:Cx}{pos:Pos}
def eR (i:Nat):TG:=fun v σ H Q=>Q (σ.set i (some v)) H
theorem Cd (hN:X.N.Nodup) (hi:X.N[i]?=some x) (hx:Loc X.env.scope x) (hf:X.fn x=true∨X.env.scope.names.lookup x=some .local:=by first | exact .inl rfl | exact .inr rfl | assumption):PG X (.Name x pos) (eR i):=by intro Yp s σ H v u Q I r h;exact wpAny_assign_Name (qI I hN hi hx r (fun s' I'=>⟨_,H,I',h⟩) hf)
def Au:à:=fun vs σ H Q=>vs=[]/\Q σ H
def mx (t:TG) (u:à):à:=fun vs σ H Q=>∃ v r,vs=v::r/\t v σ H fun σ' H'=>u r σ' H' Q
theorem jc:î X [] Au:=by intro Yp s σ H vs us Q I r h;obtain⟨e,h⟩:=h;subst e;cases r;exact assignInOrder_nil ⟨σ,H,I,h⟩
theorem cA {t:TG}{u:à} (h1:PG X e t) (h2:î X es u)
  (hs:(assignEach (e::es) X.env).map (·.2)=assign e X.env::(assignEach es X.env).map (·.2):=by rfl):î X (e::es) (mx t u):=by
 intro Yp s σ H vs us Q I r h;obtain⟨v,vr,e1,h⟩:=h;subst e1;cases r with
 | cons r rr =>rw[hs];refine assignInOrder_cons (Â (h1 Yp s σ H _ _ _ I r h) fun _ s1 ⟨σ1,H1,I1,q1⟩=>?_);exact h2 Yp s1 σ1 H1 _ _ Q I1 rr q1
def Av (K:Zf) (n:Nat) (t:à):TG:=fun v σ H Q=>∃ a xs,v=.ref a/\Ó K H a xs/\⇑xs=n/\t xs σ H Q
theorem Gk {k:Nat}{t:à}{n:Nat} (hc:X.calm=true) (h:î X es t)
  (hn:⇑(assignEach es X.env)=n:=by rfl) (hst:(assignEach es X.env).findIdx? (·.1)=none:=by rfl):PG X (.Tuple es k pos) (Av X.K n t):=by
 intro Yp s σ H v u Q I r hw;obtain⟨a,xs,e1,hq,hl,hw⟩:=hw;subst e1;cases r;obtain⟨its,rv,ht,hz⟩:=I.tuple hq;refine assign_Tuple_tuple (I.ok.hd hc) ht (by simp [hn,←hl,⇑rv]) hst fun h' hx=>?_;have I1:Inv X Yp σ H { s with heap:=h' }:=I.kept (t':=s.toks) fun b o e=>hx b o (bw (aQ e)) e;exact h Yp _ σ H xs _ Q I1 (by simpa using rv) hw
def LX (to ti:TE) (t:Hq):TG:=fun v σ H Q=>to σ H fun o H1=>ti σ H1 fun i H2=>t o i v H2 fun H3=>Q σ H3
theorem Li {o i:Expr}{to ti:TE}{t:Hq} (ho:PE X o to) (hi:PE X i ti) (hs:Ka X t)
  (ha:∀ v,assign (.Subscript o i pos) X.env v=(do
   let ov ←holding [v] (eval o X.env);let iv ←holding [v,ov] (eval i X.env)
   standAt pos
   holding [v,ov,iv] (setItem ov iv v)
   release [v,ov,iv] []):=by intro _;rfl):PG X (.Subscript o i pos) (LX to ti t):=by
 intro Yp s σ H v u Q I r h;rw[ha];refine ae (cQ (Â (ho Yp s σ H _ I h) fun ov s1 ⟨x,H1,I1,r1,q1⟩=>?_));refine ae (cQ (Â (hi Yp s1 σ H1 _ I1 q1) fun iv s2 ⟨y,H2,I2,r2,q2⟩=>?_));refine ae (wpAny_standAt (ae (cQ (Â (hs Yp s2 σ H2 x y v ov iv u _ I2 r1 r2 r q2) fun _ s3 ⟨H3,I3,q3⟩=>?_))));exact wpAny_release ⟨σ,H3,I3,q3⟩
def Es (te:TE) (g:TG):TS:=fun D σ H=>te σ H fun x H1=>g x σ H1 D.nx
theorem Gp {tg e:Expr}{te:TE}{g:TG} (he:PE X e te) (hg:PG X tg g) (hs:swapsWithSole [tg] e pos.line X.env=pure false:=by rfl) (hw:swappedStores [tg] e X.env=pure none:=by rfl)
  (h1:(assignEach [tg] X.env).map (·.2)=[assign tg X.env]:=by rfl):PS X (.Assign [tg] e pos) (Es te g):=by
 intro Yp s σ H D I h;refine wpAny_Assign_stores (Â (he Yp s σ H _ I h) fun v s1 ⟨x,H1,I1,r1,q1⟩=>?_) hs hw;rw[h1];exact Â (hg Yp s1 σ H1 x v _ I1 r1 q1) fun _ s2 q=>q
theorem Gq {te:TE}{pos':Pos} (hN:X.N.Nodup) (hi:X.N[i]?=some x) (hx:Loc X.env.scope x) (he:PE X e te) (hs:swapsWith e (some (.Name x pos')) pos.line X.env=pure false:=by rfl) (hf:X.fn x=true∨X.env.scope.names.lookup x=some .local:=by first | exact .inl rfl | exact .inr rfl | assumption) :
  PS X (.Assign [.Name x pos'] e pos) (Es te (eR i)):=by
 intro Yp s σ H D I h;refine wpAny_Assign_Name (Â (he Yp s σ H _ I h) fun v s1 ⟨y,H1,I1,r1,q1⟩=>?_) hs;exact qI I1 hN hi hx r1 (fun s2 I2=>⟨_,H1,I2,q1⟩) hf
def M7 (i j:Nat) (ta:TA):TS:=fun D σ H=>ta σ H fun vs H1=>∃ v w,vs=[v,w]/\D.nx ((σ.set i (some v)).set j (some w)) H1
theorem Lo {i j:Nat}{x y:Str}{a b:Expr}{ta:TA}{px py pt:Pos}{kt k2 pt2} (hc:X.calm=true) (hN:X.N.Nodup) (hi:X.N[i]?=some x) (hj:X.N[j]?=some y) (hij:i≠j)
  (hx:X.env.scope.names.lookup x=some .local) (hy:X.env.scope.names.lookup y=some .local) (ha:PA X [a,b] ta)
  (hw:swappedStores [.Tuple [.Name x px,.Name y py] kt pt] (.Tuple [a,b] k2 pt2) X.env=pure (some [x,y]))
  (hs:swapsWithSole [.Tuple [.Name x px,.Name y py] kt pt] (.Tuple [a,b] k2 pt2) pos.line X.env=pure false:=by rfl) :
  PS X (.Assign [.Tuple [.Name x px,.Name y py] kt pt] (.Tuple [a,b] k2 pt2) pos) (M7 i j ta):=by
 intro Yp s σ H D I h;rw[exec_Assign_arm];refine ae (wpAny_standAt ?_);rw[hs];refine ae (au ?_);rw[ai (by decide)];refine ae (Tuple_ (Â (ha _ Yp s σ H _ I h) fun us s1 ⟨vs,H1,I1,r1,q1⟩=>?_));obtain⟨v,w,e1,q1⟩:=q1;subst e1;obtain⟨u1,u2,rfl,rv,rw'⟩:∃ u1 u2,us=[u1,u2]/\RelV v u1/\RelV w u2:=by
  cases r1 with
  | cons p q =>
   cases q with
   | cons p' q' =>
    cases q'
    exact⟨_,_,rfl,p,p'⟩
 refine gr ?_ (by show 2<=sizeLine;decide);have I2:Inv X Yp σ H1 { s1 with heap:=s1.heap.push { cls:=.type "tuple",data:=.seq [u1,u2].toArray } }:=I1.kept (t':=s1.toks) fun b o e=>aL _ e;rw[hw];refine ae (au ?_);show wpAny (model X.prog X.w) X.A (do rule "assign.swapped-stores";let items ←unpackItems (.ref s1.heap.objs.size) 2 none;assignInOrder [fun v=>bindName X.env y v,fun v=>bindName X.env x v] items.reverse;pure Flow.next) _ _ _;refine ae (ij (ae (unpackItems_tuple (items:=#[u1,u2]) (I.ok.hd hc) (IsTup.new s1.heap _) fun h' hx'=>?_)));have I3:=I2.kept (h':=h') (t':=s1.toks) fun b o e=>hx' b o (bw (aQ e)) e;show wpAny _ _ (assignInOrder [fun v=>bindName X.env y v,fun v=>bindName X.env x v] [u2,u1] >>= fun _=>pure Flow.next) _ _ _;refine ae (assignInOrder_cons (wpAny_bindName (qI I3 hN hj (.inl hy) rw' (fun s2 I4=>?_) (.inr hy))));refine assignInOrder_cons (wpAny_bindName (qI I4 hN hi (.inl hx) rv (fun s3 I5=>assignInOrder_nil (au ?_)) (.inr hx)));rw[List.set_comm _ _ (Ne.symm hij)] at I5;exact⟨_,H1,I5,q1⟩
def Bq (c:TT) (tb:TS):TS:=fun D σ H=>∃ W:Nat->St->Hp->Prop,(∃ m,W m σ H)/\∀ m σ H,W m σ H →
 c σ H fun b H1=>if b=true then ∃ N:St->Hp->Prop,(∀ σ' H',N σ' H'->∃ m',m'<m/\W m' σ' H')/\tb { D with nx:=N,ct:=N,bk:=D.nx } σ H1 else D.nx σ H1
theorem mR {tc:TT}{tb:TS} (hp:PassesOwn (model X.prog X.w) X.A X.env X.xe) (hc:PT X c tc) (hb:Ù X body tb):PS X (.While c body [] pos) (Bq tc tb):=by
 intro Yp s σ H D I h;obtain⟨W,⟨m0,w0⟩,turn⟩:=h;refine wpAny_While (codeAny_whileLoop (fun n s'=>∃ σ' H',Inv X Yp σ' H' s'/\W n σ' H') ?_ m0 ⟨σ,H,I,w0⟩);rintro n s1 ⟨σ1,H1,I1,w1⟩;refine jN hp (Â (hc Yp s1 σ1 H1 _ I1 (turn n σ1 H1 w1)) fun b s2 ⟨H2,I2,q2⟩=>?_);cases b with
 | true =>
  obtain⟨N,hN,q2⟩:=q2;rw[aq rfl];refine jN hp (Â (hb Yp s2 σ1 H2 _ I2 q2) fun f s3 q3=>?_);cases f with
  | next =>obtain⟨σ3,H3,I3,n3⟩:=q3;obtain⟨m',hm,w3⟩:=hN σ3 H3 n3;exact⟨m',hm,σ3,H3,I3,w3⟩
  | cont =>obtain⟨σ3,H3,I3,n3⟩:=q3;obtain⟨m',hm,w3⟩:=hN σ3 H3 n3;exact⟨m',hm,σ3,H3,I3,w3⟩
  | brk=>exact q3
  | ret v=>exact q3
 | false =>rw[ai bP];exact wpAny_execs_nil ⟨σ1,H2,I2,q2⟩
end
structure It where
 go:Nat->Hp->Prop
 yld:Nat->Hp->V->Hp->Prop
 stop:Nat->Hp->Prop
def sJ (X:Cx) (Yp:Zp) (H:Hp) (b:Addr):Prop :=
 H b=none/\b≠X.env.locals/\b∉X.fs/\(b∈X.ex∨X.s₀.heap.objs.size<=b)/\(∀ x c,X.env.cells.lookup x=some c->c≠b)/\∀ p∈X.pn++Yp,p.1≠b
theorem Inv.vk {X:Cx}{σ:St}{H H':Hp} (I:Inv X Yp σ H s) (hb:s.heap.objs.size<=b) (hn:H' b=none):sJ X Yp H' b:=by
 refine⟨hn,jI (bK I.lt hb),I.Nb hb,.inr (bM I.sz hb),fun x c e z=>?_,fun p hp z=>?_⟩
 ·obtain⟨v,q⟩:=I.cell x c e;exact absurd (bK q.lt (by rw[z];exact hb)) (gh _)
 ·exact absurd (bK (aQ (I.pin p hp).1) (by rw[z];exact hb)) (gh _)
structure Turn (P:Zh) (w:Zi) (K:Zf) (tg:Expr) (J:It) (fp:List Addr) (it:Addr) (tn:Nat->Heap->Prop):Prop where
 mem:it∈fp
 obj:∀ i h,tn i h->∀ b∈fp,∃ o,h.get? b=some o/\∀ v,o.data≠.cell v
 keep:∀ i h h',tn i h->(∀ b∈fp,∀ o,h.get? b=some o->h'.get? b=some o)->tn i h'
 item:∀ (X:Cx),X.prog=P->X.w=w->X.K=K->X.calm=true->∀ (i:Nat) (Yp:Zp) (s:Zg) (σ:St) (H:Hp) (E:Zq),Inv X Yp σ H s->(∀ b∈fp,sJ X Yp H b)->tn i s.heap->J.go i H →
  wpAny (model P w) X.A (pyNext (.ref it)) (fun r s1=>∃ u,r=some u ∧
   wpAny (model P w) X.A (letOwnedTupleGo tg (.ref it) u) (fun _ s2=>∃ x H',Inv X Yp σ H' s2/\RelV x u/\J.yld i H x H'/\tn (i+1) s2.heap/\∀ b∈fp,H' b=none) E s1) E s
 done:∀ (X:Cx),X.prog=P->X.w=w->X.K=K->X.calm=true->∀ (i:Nat) (Yp:Zp) (s:Zg) (σ:St) (H:Hp) (E:Zq),Inv X Yp σ H s->(∀ b∈fp,sJ X Yp H b)->tn i s.heap->J.stop i H →
  wpAny (model P w) X.A (pyNext (.ref it)) (fun r s1=>r=none/\Inv X Yp σ H s1) E s
 self:∀ (A:Around) (i:Nat) (s:Zg) (Q:Zq) (E:Zq),tn i s.heap->Q (.ref it) s->wpAny (model P w) A (pyIter (.ref it)) Q E s
abbrev TI:=St->Hp->(It->Hp->Prop)->Prop
def đ (X:Cx) (Yp:Zp) (σ:St) (tg:Expr) (R:It->Hp->Prop) (itv:Value) (s2:Zg):Prop :=
 ∃ (it:Addr) (fp:List Addr) (tn:Nat->Heap->Prop) (J:It) (H':Hp),itv=.ref it/\Inv X Yp σ H' s2/\Turn X.prog X.w X.K tg J fp it tn/\tn 0 s2.heap/\(∀ b∈fp,sJ X Yp H' b)/\R J H'
def PI (X:Cx) (tg iter:Expr) (wi:TI):Prop :=
 ∀ (Yp:Zp) (s:Zg) (σ:St) (H:Hp) (R:It->Hp->Prop),Inv X Yp σ H s->wi σ H R →
  wpAny (model X.prog X.w) X.A (eval iter X.env) (fun v s1=>wpAny (model X.prog X.w) X.A (pyIter v) (đ X Yp σ tg R) X.xe s1) X.xe s
theorem vN {M:Model}{A:Around}{E:Zq}{tg:Expr}{u:Value}{n:String}{vs:Array Value}{Q:Unit->Zg->Prop} (ho:s.heap.get? it=some o) (hc:o.cls=.type n) (hd:o.data=.fields vs)
  (hn:["enumerate","zip","dict_itemiterator","dict_reverseitemiterator","odict_iterator","itertools.zip_longest","itertools.pairwise"].contains n=false) (hQ:Q () s):wpAny M A (letOwnedTupleGo tg (.ref it) u) Q E s:=by
 unfold letOwnedTupleGo;cases tg<;>first
  | exact au hQ
  | (cases u<;>first
    | exact au hQ
    | (refine ae (wpAny_load ho ?_)
       rw[hc,hd];show wpAny M A (if (["enumerate","zip","dict_itemiterator","dict_reverseitemiterator","odict_iterator","itertools.zip_longest","itertools.pairwise"].contains n&&vs[0]?==some (rawInt _))=true then _ else _) Q E s;rw[ai (by intro h;rw[hn,jj] at h;cases h)];exact au hQ))
noncomputable def ç (K:Zf) (a:Addr):It :=
 ⟨fun i H=>∃ xs x,Ã K H a xs/\xs[i]?=some x,fun i H x H'=>H'=H/\∀ xs,Ã K H a xs->xs[i]?=some x,fun i H=>∃ xs,Ã K H a xs/\⇑xs<=i⟩
noncomputable def ď (K:Zf) (a:Addr):It :=
 ⟨fun i H=>∃ xs x,Ó K H a xs/\xs[i]?=some x,fun i H x H'=>H'=H/\∀ xs,Ó K H a xs->xs[i]?=some x,fun i H=>∃ xs,Ó K H a xs/\⇑xs<=i⟩
noncomputable def ß (lo:Int) (n:Nat):It:=⟨fun i _=>i<n,fun i H x H'=>H'=H/\x=.int (lo+i),fun i _=>n<=i⟩
theorem Ew (a it:Addr):Turn P w K tg (ç K a) [it] it (fun i h=>h.IsListIter it a i) where
 mem:=by simp
 obj:=fun i h st b hb=>by
  have e:b=it:=by simpa using hb
  subst e;obtain⟨o,e,c,d⟩:=st;exact⟨o,e,fun v z=>by rw[d] at z;cases z⟩
 keep:=fun i h h' st k=>st.at fun o e=>k it (by simp) o e
 item:=by intro X hP hw hK hc i Yp s σ H E I hf st hg;subst hP hw hK;obtain⟨xs,x,hq,hx⟩:=hg;obtain⟨its,rv,p,hz⟩:=I.list hq;obtain⟨u,hu,ru⟩:=rv.get hx;obtain⟨f0,f1,f2,f3,f4,f5⟩:=hf it (by simp);refine wpAny_pyNext_list_item st p.isList (x:=u) (by simpa using hu) fun h' st' sb=>?_;have I1:Inv X Yp σ H { s with heap:=h' }:=I.turned (t':=s.toks) (fun b o hb e=>(sb.2 b hb).trans e) f0 f1 f3 f4 f5;obtain⟨o,e,c,d⟩:=id st';exact⟨u,rfl,vN (s:={ s with heap:=h' }) e c d Zd ⟨x,H,I1,ru,⟨rfl,fun ys hy=>by rw[I.qo hy hq];exact hx⟩,st',fun b hb=>(hf b hb).1⟩⟩
 done:=by intro X hP hw hK hc i Yp s σ H E I hf st hg;subst hP hw hK;obtain⟨xs,hq,hx⟩:=hg;obtain⟨its,rv,p,hz⟩:=I.list hq;obtain⟨f0,f1,f2,f3,f4,f5⟩:=hf it (by simp);have hl:=⇑rv;exact wpAny_pyNext_list_end (I.ok.hd hc) st p.isList (by simp;left) fun h' eb=>⟨rfl,I.turned (t':=s.toks) (fun b o hb e=>eb b o hb e) f0 f1 f3 f4 f5⟩
 self:=fun _ _ _ _ _ st h=>wpAny_pyIter_listiter st h
theorem Bt (a it:Addr):Turn P w K tg (ď K a) [it] it (fun i h=>h.IsTupleIter it a i) where
 mem:=by simp
 obj:=fun i h st b hb=>by
  have e:b=it:=by simpa using hb
  subst e;obtain⟨o,e,c,d⟩:=st;exact⟨o,e,fun v z=>by rw[d] at z;cases z⟩
 keep:=fun i h h' st k=>st.at fun o e=>k it (by simp) o e
 item:=by intro X hP hw hK hc i Yp s σ H E I hf st hg;subst hP hw hK;obtain⟨xs,x,hq,hx⟩:=hg;obtain⟨its,rv,p,hz⟩:=I.tuple hq;obtain⟨u,hu,ru⟩:=rv.get hx;obtain⟨f0,f1,f2,f3,f4,f5⟩:=hf it (by simp);refine wpAny_pyNext_tuple_item st (show s.heap.IsTuple a its.toArray from p) (x:=u) (by simpa using hu) fun h' st' sb=>?_;have I1:Inv X Yp σ H { s with heap:=h' }:=I.turned (t':=s.toks) (fun b o hb e=>(sb.2 b hb).trans e) f0 f1 f3 f4 f5;obtain⟨o,e,c,d⟩:=id st';exact⟨u,rfl,vN (s:={ s with heap:=h' }) e c d Zd ⟨x,H,I1,ru,⟨rfl,fun ys hy=>by rw[I.Et hy hq];exact hx⟩,st',fun b hb=>(hf b hb).1⟩⟩
 done:=by intro X hP hw hK hc i Yp s σ H E I hf st hg;subst hP hw hK;obtain⟨xs,hq,hx⟩:=hg;obtain⟨its,rv,p,hz⟩:=I.tuple hq;obtain⟨f0,f1,f2,f3,f4,f5⟩:=hf it (by simp);have hl:=⇑rv;exact wpAny_pyNext_tuple_end (I.ok.hd hc) st (show s.heap.IsTuple a its.toArray from p) (by simp;left) fun h' eb=>⟨rfl,I.turned (t':=s.toks) (fun b o hb e=>eb b o hb e) f0 f1 f3 f4 f5⟩
 self:=fun _ _ _ _ _ st h=>wpAny_pyIter_tupleiter st h
theorem Bs (it:Addr) (lo:Int) (n:Nat):Turn P w K tg (ß lo n) [it] it (fun i h=>IsRangeIter h it (lo+(i:Nat)*1) ((n:Int)-(i:Nat)) 1) where
 mem:=by simp
 obj:=fun i h st b hb=>by
  have e:b=it:=by simpa using hb
  subst e;exact⟨_,st,fun v z=>by have z':Data.fields _=Data.cell v:=z;cases z'⟩
 keep:=fun i h h' st k=>k it (by simp) _ st
 item:=by intro X hP hw hK hc i Yp s σ H E I hf st hg;subst hP hw hK;obtain⟨f0,f1,f2,f3,f4,f5⟩:=hf it (by simp);have W:=Walks.range (prog:=X.prog) (w:=X.w) (I.ok.hd hc) it lo 1 n;refine W.item i s _ _ hg st fun v h' tk hv st' kk=>?_;obtain⟨t,rfl⟩:=hv;have I1:Inv X Yp σ H { s with heap:=h',toks:=tk }:=I.turned (fun b o hb e=>kk b o (by simpa using hb) e) f0 f1 f3 f4 f5;refine⟨_,rfl,vN (s:={ s with heap:=h',toks:=tk }) (n:="range_iterator") st' rfl rfl Zd ⟨.int (lo+i),H,I1,⟨t,?_⟩,⟨rfl,rfl⟩,st',fun b hb=>(hf b hb).1⟩⟩;rw[Int.mul_one]
 done:=by intro X hP hw hK hc i Yp s σ H E I hf st hg;subst hP hw hK;obtain⟨f0,f1,f2,f3,f4,f5⟩:=hf it (by simp);exact wpAny_pyNext_range_end (I.ok.hd hc) st (by have:n<=i:=hg;left) fun h' eb=>⟨rfl,I.turned (t':=s.toks) (fun b o hb e=>eb b o hb e) f0 f1 f3 f4 f5⟩
 self:=fun _ _ _ _ _ st h=>wpAny_pyIter_rangeiter st h
end
section
section
variable {X:Cx}{tg:Expr}
theorem zi {σ:St}{H:Hp}{R:It->Hp->Prop}{E:Zq}{lo hi:Int}{t u v:Tok}{tk:Nat} (I:Inv X Yp σ H s) (h1:-(2^62)<=lo) (h2:lo<2^62) (h3:-(2^62)<=hi) (h4:hi<2^62)
  (q:R (ß lo (hi-lo).toNat) H):wpAny (model X.prog X.w) X.A (pyIter (.ref s.heap.objs.size)) (đ X Yp σ tg R) E { s with heap:=s.heap.push { cls:=.type "range",data:=.fields #[.int lo t,.int hi u,.int 1 v] },toks:=tk }:=by
 refine wpAny_pyIter_range (IsRange.new ..) (small_one h1 h2 h3 h4) ?_;have I1:Inv X Yp σ H { s with heap:=s.heap.push { cls:=.type "range",data:=.fields #[.int lo t,.int hi u,.int 1 v] },toks:=tk }:=I.kept fun b o e=>aL _ e;refine⟨(s.heap.push { cls:=.type "range",data:=.fields #[.int lo t,.int hi u,.int 1 v] }).objs.size,[(s.heap.push { cls:=.type "range",data:=.fields #[.int lo t,.int hi u,.int 1 v] }).objs.size],_,_,H,rfl,
  I1.kept (t':=tk) fun b o e=>aL _ e,Bs _ lo (hi-lo).toNat,?_,fun b hb=>?_,q⟩
 ·have e1:lo+((0:Nat):Int)*1=lo:=by simp
  have e2:(((hi-lo).toNat:Nat):Int)-((0:Nat):Int)=Builtin.Range.rangeSize lo hi 1:=by rw[rangeSize_one];split<;>left
  show IsRangeIter _ _ (lo+((0:Nat):Int)*1) ((((hi-lo).toNat:Nat):Int)-((0:Nat):Int)) 1;rw[e1,e2];exact bo _ rfl
 ·have e:b=(s.heap.push { cls:=.type "range",data:=.fields #[.int lo t,.int hi u,.int 1 v] }).objs.size:=by simpa using hb
  subst e;exact I1.vk (aw _) (I1.hok.fresh (aw _))
def Fy (ta:TA):TI:=fun σ H R=>ta σ H fun vs H1=>∃ j:Int,vs=[.int j]/\-(2^62)<=j/\j<2^62/\R (ß 0 j.toNat) H1
def Fz (ta:TA):TI:=fun σ H R=>ta σ H fun vs H1=>∃ i j:Int,vs=[.int i,.int j]/\(-(2^62)<=i/\i<2^62/\-(2^62)<=j/\j<2^62)/\R (ß i (j-i).toNat) H1
theorem Eb {a:Expr}{ta:TA}{p pos:Pos} (hg:Gl X "range") (hm:X.mg "range"=none) (ha:PA X [a] ta) (hs:starEach [a] X.env=[(false,eval a X.env)]:=by rfl):PI X tg (.Call (.Name "range" p) [a] [] pos) (Fy ta):=by
 intro Yp s σ H R I h;refine Call_ (mG I hg hm boot_range (lH (Â (ha pos Yp s σ H _ I h) fun us s1 ⟨vs,H1,I1,r1,q1⟩=>?_) hs rfl));obtain⟨j,e,q1,q2,q⟩:=q1;subst e;cases r1 with
 | cons r rr =>
  cases rr
  obtain⟨t,rfl⟩:=r;exact call_range_1 (zi I1 ⋯ ⋯ q1 q2 (by simpa using q))
theorem Ec {a b:Expr}{ta:TA}{p pos:Pos} (hg:Gl X "range") (hm:X.mg "range"=none) (ha:PA X [a,b] ta) (hs:starEach [a,b] X.env=[(false,eval a X.env),(false,eval b X.env)]:=by rfl) (hs2:starEach [b] X.env=[(false,eval b X.env)]:=by rfl) :
  PI X tg (.Call (.Name "range" p) [a,b] [] pos) (Fz ta):=by
 intro Yp s σ H R I h;refine Call_ (mG I hg hm boot_range (lH (Â (ha pos Yp s σ H _ I h) fun us s1 ⟨vs,H1,I1,r1,q1⟩=>?_) (by rw[hs,hs2]) (by rw[hs2];rfl)));obtain⟨i,j,e,⟨q1,q2,q3,q4⟩,q⟩:=q1;subst e;cases r1 with
 | cons r rr =>
  cases rr with
  | cons r' rr =>
   cases rr
   obtain⟨t,rfl⟩:=r;obtain⟨t',rfl⟩:=r';exact call_range_2 (zi I1 q1 q2 q3 q4 q)
def M3 (wi:TI) (g:TG) (tb:TS):TS:=fun D σ H=>wi σ H fun J H1=>∃ W:Nat->Nat->St->Hp->Prop,(∃ m,W 0 m σ H1)/\∀ i m σ H,W i m σ H →
 (J.stop i H/\D.nx σ H)∨(J.go i H/\∃ N:St->Hp->Prop,(∀ σ' H',N σ' H'->∃ m',m'<m/\W (i+1) m' σ' H')/\∀ x H',J.yld i H x H'->g x σ H' fun σ2 H2=>tb { D with nx:=N,ct:=N,bk:=D.nx } σ2 H2)
noncomputable def uH (fp:List Addr) (h:Heap):Zp:=fp.filterMap fun b=>(h.get? b).map fun o=>(b,o)
theorem lT (hb:b∈fp) (e:h.get? b=some o):(b,o)∈uH fp h:=List.mem_filterMap.mpr ⟨b,hb,by rw[e];rfl⟩
theorem DV {p:Addr×Obj} (hp:p∈uH fp h):p.1∈fp/\h.get? p.1=some p.2:=by
 obtain⟨b,hb,e⟩:=List.mem_filterMap.mp hp;cases q:h.get? b with
 | none=>rw[q] at e;cases e
 | some o =>rw[q] at e;have e':(b,o)=p:=Option.some.inj e;subst e';exact⟨hb,q⟩
theorem Inv.pinned {σ:St}{H:Hp} (I:Inv X Yp σ H s) (hf:∀ b∈fp,sJ X Yp H b) (ho:∀ b∈fp,∃ o,s.heap.get? b=some o/\∀ v,o.data≠.cell v):Inv X (Yp++uH fp s.heap) σ H s :=
 I.Cf fun p hp=>(bC.mp hp).elim (fun z=>I.pin p (eD _ z)) fun z=>by obtain⟨hb,e⟩:=DV z;obtain⟨f0,f1,f2,_⟩:=hf p.1 hb;obtain⟨o,e',d⟩:=ho p.1 hb;rw[e] at e';cases e';exact⟨e,f0,f1,f2,d⟩
theorem Inv.qL {Yp pl:Zp}{σ:St}{H:Hp} (I:Inv X (Yp++pl) σ H s):Inv X Yp σ H s:=I.Cf fun p hp=>I.pin p (eD _ (lB _ hp))
theorem eA {iter:Expr}{wi:TI}{g:TG}{tb:TS}{pos:Pos} (hp:PassesOwn (model X.prog X.w) X.A X.env X.xe) (hc:X.calm=true) (hi:PI X tg iter wi) (hg:PG X tg g) (hb:Ù X body tb)
  (hs:∀ x,foldedSetIterable iter X.env x=pure x:=by intro _;rfl):PS X (.For tg iter body [] pos) (M3 wi g tb):=by
 intro Yp s σ H D I h;refine wpAny_For (Â (hi Yp s σ H _ I h) fun v s1 h1=>Â h1 fun itv s2 h2=>?_) hs;obtain⟨it,fp,tn,J,H2,e,I2,T,st2,f2,W,⟨m0,w0⟩,turn⟩:=h2;subst e
 -- what stays true of the iterator's objects through the loop
 have stat:∀ {H':Hp},(∀ b∈fp,H' b=none)->∀ b∈fp,sJ X Yp H' b:=fun hn b hb=>⟨hn b hb,(f2 b hb).2⟩;refine codeAny_forLoop_any (fun n s'=>∃ i σ' H',Inv X Yp σ' H' s'/\tn i s'.heap/\(∀ b∈fp,H' b=none)/\W i n σ' H') ?_ m0 ⟨0,σ,H2,I2,st2,fun b hb=>(f2 b hb).1,w0⟩;rintro n s3 ⟨i,σ3,H3,I3,st3,fr3,w3⟩;rcases turn i n σ3 H3 w3 with ⟨stop,qn⟩ | ⟨go,N,hN,step⟩
 ·refine jN hp (Â (T.done X rfl rfl rfl hc i Yp s3 σ3 H3 X.xe I3 (stat fr3) st3 stop) fun r s4 ⟨hr,I4⟩=>?_);subst hr;exact wpAny_execs_nil ⟨σ3,H3,I4,qn⟩
 ·refine jN hp (Â (T.item X rfl rfl rfl hc i Yp s3 σ3 H3 X.xe I3 (stat fr3) st3 go) fun r s4 ⟨u,hr,h4⟩=>?_);subst hr;refine jN hp (Â h4 fun _ s5 ⟨x,H5,I5,r5,y5,st5,fr5⟩=>?_);have I5':=I5.pinned (stat fr5) (T.obj _ _ st5);refine jN hp (Â (hg _ s5 σ3 H5 x u _ I5' r5 (step x H5 y5)) fun _ s6 ⟨σ6,H6,I6,q6⟩=>?_);refine jN hp (Â (hb _ s6 σ6 H6 _ I6 q6) fun f s7 q7=>?_);have again:∀ {σ7:St}{H7:Hp},Inv X (Yp++uH fp s5.heap) σ7 H7 s7->N σ7 H7->∃ m,m<n/\∃ i σ' H',Inv X Yp σ' H' s7/\tn i s7.heap/\(∀ b∈fp,H' b=none)/\W i m σ' H':=fun {σ7 H7} I7 n7=>by
   obtain⟨m',hm,w7⟩:=hN σ7 H7 n7;refine⟨m',hm,i+1,σ7,H7,I7.qL,T.keep _ _ _ st5 fun b hb o e=>(I7.pin (b,o) (eD _ (eD _ (lT hb e)))).1,fun b hb=>?_,w7⟩;obtain⟨o,e,d⟩:=T.obj _ _ st5 b hb;exact (I7.pin (b,o) (eD _ (eD _ (lT hb e)))).2.1
  cases f with
  | next=>obtain⟨σ7,H7,I7,n7⟩:=q7;exact again I7 n7
  | cont=>obtain⟨σ7,H7,I7,n7⟩:=q7;exact again I7 n7
  | brk=>obtain⟨σ7,H7,I7,q7⟩:=q7;exact⟨σ7,H7,I7.qL,q7⟩
  | ret v=>obtain⟨x7,σ7,H7,I7,r7,q7⟩:=q7;exact⟨x7,σ7,H7,I7.qL,r7,q7⟩
end
theorem Fm {xs:List V}{g:TG}{tb:TS}{D:Ends}{σ:St}{H:Hp} (Pv:Nat->St->Hp->Prop) (h0:Pv 0 σ H) (hl:∀ i σ H,i<=⇑xs->Pv i σ H->Ã K H a xs)
  (hs:∀ i x σ H,xs[i]?=some x->Pv i σ H->g x σ H fun σ2 H2=>tb { D with nx:=Pv (i+1),ct:=Pv (i+1),bk:=D.nx } σ2 H2) (hd:∀ σ H,Pv ⇑xs σ H->D.nx σ H) :
  ∃ W:Nat->Nat->St->Hp->Prop,(∃ m,W 0 m σ H)/\∀ i m σ H,W i m σ H →
   ((ç K a).stop i H/\D.nx σ H)∨((ç K a).go i H/\∃ N:St->Hp->Prop,(∀ σ' H',N σ' H'->∃ m',m'<m/\W (i+1) m' σ' H')/\∀ x H',(ç K a).yld i H x H'->g x σ H' fun σ2 H2=>tb { D with nx:=N,ct:=N,bk:=D.nx } σ2 H2):=by
 refine⟨fun i m σ H=>m=⇑xs-i/\i<=⇑xs/\Pv i σ H,⟨⇑xs,by simp,br _,h0⟩,?_⟩;rintro i m σ H ⟨rfl,hi,p⟩;have q:=hl i σ H hi p
 by_cases hlt:i<⇑xs
 ·refine .inr ⟨⟨xs,xs[i],q,by simp [hlt]⟩,Pv (i+1),fun σ' H' p'=>⟨⇑xs-(i+1),⋯,rfl,hlt,p'⟩,fun x H' y=>?_⟩;obtain⟨e,y⟩:=y;subst e;exact hs i x σ _ (y xs q) p
 ·have e:i=⇑xs:=⋯
  subst e;exact .inl ⟨⟨xs,q,aw _⟩,hd σ H p⟩
theorem DA {lo:Int}{n:Nat}{g:TG}{tb:TS}{D:Ends}{σ:St}{H:Hp} (Pv:Nat->St->Hp->Prop) (h0:Pv 0 σ H)
  (hs:∀ i σ H,i<n->Pv i σ H->g (.int (lo+i)) σ H fun σ2 H2=>tb { D with nx:=Pv (i+1),ct:=Pv (i+1),bk:=D.nx } σ2 H2) (hd:∀ σ H,Pv n σ H->D.nx σ H) :
  ∃ W:Nat->Nat->St->Hp->Prop,(∃ m,W 0 m σ H)/\∀ i m σ H,W i m σ H →
   ((ß lo n).stop i H/\D.nx σ H)∨((ß lo n).go i H/\∃ N:St->Hp->Prop,(∀ σ' H',N σ' H'->∃ m',m'<m/\W (i+1) m' σ' H')/\∀ x H',(ß lo n).yld i H x H'->g x σ H' fun σ2 H2=>tb { D with nx:=N,ct:=N,bk:=D.nx } σ2 H2):=by
 refine⟨fun i m σ H=>m=n-i/\i<=n/\Pv i σ H,⟨n,by simp,br _,h0⟩,?_⟩;rintro i m σ H ⟨rfl,hi,p⟩
 by_cases hlt:i<n
 ·refine .inr ⟨hlt,Pv (i+1),fun σ' H' p'=>⟨n-(i+1),⋯,rfl,hlt,p'⟩,fun x H' y=>?_⟩;obtain⟨e,y⟩:=y;subst e y;exact hs i σ _ hlt p
 ·have e:i=n:=⋯
  subst e;exact .inl ⟨aw _,hd σ H p⟩
end
section
abbrev R2:=V->V->Hp->VK->Prop
def É (X:Cx) (f:Value->Value->Sem Value) (r:R2):Prop :=
 ∀ (Yp:Zp) (s:Zg) (σ:St) (H:Hp) (x y:V) (v u:Value) (Q:VK),Inv X Yp σ H s->RelV x v->RelV y u->r x y H Q →
  wpAny (model X.prog X.w) X.A (f v u) (EP X Yp σ Q) X.xe s
def Ĕ (X:Cx) (f:Value->Sem Value) (r:V->Hp->VK->Prop):Prop :=
 ∀ (Yp:Zp) (s:Zg) (σ:St) (H:Hp) (x:V) (v:Value) (Q:VK),Inv X Yp σ H s->RelV x v->r x H Q →
  wpAny (model X.prog X.w) X.A (f v) (EP X Yp σ Q) X.xe s
def dy (X:Cx) (f:Value) (r:List V->Hp->VK->Prop):Prop :=
 ∀ (Yp:Zp) (s:Zg) (σ:St) (H:Hp) (xs:List V) (us:Zc) (Q:VK),Inv X Yp σ H s->Vals xs us->r xs H Q →
  wpAny (model X.prog X.w) X.A (call f us) (EP X Yp σ Q) X.xe s
def ö (r:R2) (ta tb:TE):TE:=fun σ H Q=>ta σ H fun x H1=>tb σ H1 fun y H2=>r x y H2 Q
def tUn (r:V->Hp->VK->Prop) (ta:TE):TE:=fun σ H Q=>ta σ H fun x H1=>r x H1 Q
def rI (C:Int->Int->Prop) (g:Int->Int->V):R2:=fun x y H Q=>∃ i j,x=.int i/\y=.int j/\C i j/\Q (g i j) H
def ë (g:Int->Int->V):R2:=fun x y H Q=>∃ i j,x=.int i/\y=.int j/\Q (g i j) H
def rU (g:Int->V):V->Hp->VK->Prop:=fun x H Q=>∃ i,x=.int i/\Q (g i) H
section
variable {X:Cx}{a b c:Expr}{ta tb tc:TE}{pos:Pos}
theorem Kq (ha:PE X a ta) (hb:PE X b tb) {σ:St}{H:Hp}{R:V->V->Hp->Prop} (I:Inv X Yp σ H s)
  (h:ta σ H fun x H1=>tb σ H1 fun y H2=>R x y H2) {Q:Zq}{f:Value->Value->Sem Value}
  (hf:∀ v u s2 x y H2,Inv X Yp σ H2 s2->RelV x v->RelV y u->R x y H2->wpAny (model X.prog X.w) X.A (f v u) Q X.xe s2) :
  wpAny (model X.prog X.w) X.A (eval a X.env) (fun v s₁=>wpAny (model X.prog X.w) X.A (eval b X.env) (fun u s₂=>wpAny (model X.prog X.w) X.A (f v u) Q X.xe s₂) X.xe s₁) X.xe s:=by
 refine Â (ha Yp s σ H _ I h) fun v s1 ⟨x,H1,I1,r1,q1⟩=>?_;refine Â (hb Yp s1 σ H1 _ I1 q1) fun u s2 ⟨y,H2,I2,r2,q2⟩=>?_;exact hf v u s2 x y H2 I2 r1 r2 q2
theorem aD {op:Operator}{r:R2} (ho:É X (binaryOp op) r) (ha:PE X a ta) (hb:PE X b tb):PE X (.BinOp a op b pos) (ö r ta tb):=by intro Yp s σ H Q I h;exact wpAny_BinOp (Kq ha hb I h fun v u s2 x y H2 I2 rx ry q=>ho Yp s2 σ H2 x y v u Q I2 rx ry q)
theorem uF {op:UnaryOp}{r:V->Hp->VK->Prop} (ho:Ĕ X (unaryOp op) r) (ha:PE X a ta):PE X (.UnaryOp op a pos) (tUn r ta):=by intro Yp s σ H Q I h;exact UnaryOp_ (Â (ha Yp s σ H _ I h) fun v s1 ⟨x,H1,I1,r1,q1⟩=>ho Yp s1 σ H1 x v Q I1 r1 q1)
theorem ą {f:Value->Value->Sem Value}{C:Int->Int->Prop}{g:Int->Int->Int}
  (rule:∀ (i j:Int) (t u:Tok) (s:Zg) (Q:Zq) (E:Zq),C i j->Q (.int (g i j) s.toks) { s with toks:=s.toks+1 }->wpAny (model X.prog X.w) X.A (f (.int i t) (.int j u)) Q E s) :
  É X f (rI C fun i j=>.int (g i j)):=by
 intro Yp s σ H x y v u Q I rx ry h;obtain⟨i,j,rfl,rfl,hc,q⟩:=h;obtain⟨t,rfl⟩:=rx;obtain⟨t',rfl⟩:=ry;exact rule i j t t' s _ _ hc ⟨.int (g i j),H,I.tok _,⟨_,rfl⟩,q⟩
theorem Md {f:Value->Value->Sem Value}{g:Int->Int->Int}
  (rule:∀ (i j:Int) (t u:Tok) (s:Zg) (Q:Zq) (E:Zq),Q (.int (g i j) s.toks) { s with toks:=s.toks+1 }->wpAny (model X.prog X.w) X.A (f (.int i t) (.int j u)) Q E s) :
  É X f (ë fun i j=>.int (g i j)):=by
 intro Yp s σ H x y v u Q I rx ry h;obtain⟨i,j,rfl,rfl,q⟩:=h;obtain⟨t,rfl⟩:=rx;obtain⟨t',rfl⟩:=ry;exact rule i j t t' s _ _ ⟨.int (g i j),H,I.tok _,⟨_,rfl⟩,q⟩
theorem IJ {f:Value->Value->Sem Value}{g:Int->Int->Bool}
  (rule:∀ (i j:Int) (t u:Tok) (s:Zg) (Q:Zq) (E:Zq),Q (.bool (g i j)) s->wpAny (model X.prog X.w) X.A (f (.int i t) (.int j u)) Q E s) :
  É X f (ë fun i j=>.bl (g i j)):=by
 intro Yp s σ H x y v u Q I rx ry h;obtain⟨i,j,rfl,rfl,q⟩:=h;obtain⟨t,rfl⟩:=rx;obtain⟨t',rfl⟩:=ry;exact rule i j t t' s _ _ ⟨.bl (g i j),H,I,rfl,q⟩
def MO (i j:Int):Prop:=0<=j/\j<=1000000/\i.natAbs<2^64
def L7 (i j:Int):Prop:=(-(2^64)<i/\i<2^64)∨(-(2^64)<j/\j<2^64)
theorem L7.ok {i j:Int} (h:L7 i j):IntMulOk i j:=by
 rcases h with ⟨h1,h2⟩ | ⟨h1,h2⟩
 ·exact .of_left (intBits_le_64 h1 h2)
 ·exact .of_right (intBits_le_64 h1 h2)
theorem KN:É X (binaryOp .Add) (ë fun i j=>.int (i+j)):=Md fun _ _ _ _ _ _ _ q=>add_int q
theorem Ld:É X (binaryOp .Sub) (ë fun i j=>.int (i-j)):=Md fun _ _ _ _ _ _ _ q=>sub_int q
theorem KW:É X (binaryOp .Mod) (rI (fun _ j=>0<j) fun i j=>.int (i%j)):=ą fun i j _ _ _ _ _ hc q=>by have h1:(0:Int)<j:=hc;exact mod_int' ⋯ (by rw[Int.fmod_eq_emod_of_nonneg i ⋯];exact q)
theorem Lb:É X (binaryOp .Pow) (rI MO fun i j=>.int (i^j.toNat)):=ą fun _ _ _ _ _ _ _ hc q=>pow_int_small hc.1 hc.2.1 hc.2.2 q
theorem unI {f:Value->Sem Value}{g:Int->Int}
  (rule:∀ (i:Int) (t:Tok) (s:Zg) (Q:Zq) (E:Zq),Q (.int (g i) s.toks) { s with toks:=s.toks+1 }->wpAny (model X.prog X.w) X.A (f (.int i t)) Q E s) :
  Ĕ X f (rU fun i=>.int (g i)):=by
 intro Yp s σ H x v Q I rx h;obtain⟨i,rfl,q⟩:=h;obtain⟨t,rfl⟩:=rx;exact rule i t s _ _ ⟨.int (g i),H,I.tok _,⟨_,rfl⟩,q⟩
theorem qd:Ĕ X (unaryOp .USub) (rU fun i=>.int (-i)):=unI fun _ _ _ _ _ q=>neg_int q
end
noncomputable def Mz:V->V->Bool
 | .non,.non=>true | .non,.int _=>true | .int _,.non=>true | .non,.bl _=>true | .bl _,.non=>true | .non,.str _=>true | .str _,.non=>true
 | .int _,.int _=>true | .bl _,.bl _=>true | .str _,.str _=>true | .byt _,.byt _=>true
 | .int _,.str _=>true | .str _,.int _=>true | .bl _,.str _=>true | .str _,.bl _=>true
 | _,_=>false
def rEq:R2:=fun x y H Q=>Mz x y=true/\Q (.bl (decide (x=y))) H
def rNe:R2:=fun x y H Q=>Mz x y=true/\Q (.bl (!decide (x=y))) H
theorem BI {i j:Int}:decide (V.int i=V.int j)=(i==j):=by rw[oG];simp
theorem EU {i j:Bool}:decide (V.bl i=V.bl j)=(i==j):=by rw[oG];simp
theorem BJ {i j:Str}:decide (V.str i=V.str j)=(i==j):=by rw[oG];simp
theorem BH {i j:Array UInt8}:decide (V.byt i=V.byt j)=(i.toList==j.toList):=by rw[oG];cases i;cases j;simp
section
variable {X:Cx}{a b c:Expr}{ta tb tc:TE}{pos:Pos}
theorem cg {σ:St}{H:Hp}{Q:VK}{k k':Bool} (I:Inv X Yp σ H s) (q:Q (.bl k) H) (e:k=k'):EP X Yp σ Q (.bool k') s:=by subst e;exact⟨.bl k,H,I,rfl,q⟩
theorem FV:É X (compareOp .Eq) rEq:=by
 intro Yp s σ H x y v u Q I rx ry h;obtain⟨hs,q⟩:=h;cases x with
 | non =>
  cases rx
  cases y with
  | non=>cases ry;exact PySem.EqNone.eq_none_none (cg I q (by simp))
  | bl j=>cases ry;exact PySem.EqNone.eq_none_bool (cg I q (by simp))
  | int j=>obtain⟨t',rfl⟩:=ry;exact PySem.EqNone.eq_none_int (cg I q (by simp))
  | str j=>obtain⟨t',rfl⟩:=ry;exact PySem.EqNone.eq_none_str (cg I q (by simp))
  | _=>exact absurd (show false=true from hs) bP
 | bl i =>
  cases rx
  cases y with
  | non=>cases ry;exact PySem.EqNone.eq_bool_none (cg I q (by simp))
  | bl j=>cases ry;exact eq_bool (cg I q EU)
  | str j=>obtain⟨t',rfl⟩:=ry;exact PySem.EqMixed.eq_bool_str (cg I q (by simp))
  | _=>exact absurd (show false=true from hs) bP
 | int i =>
  obtain⟨t,rfl⟩:=rx;cases y with
  | non=>cases ry;exact PySem.EqNone.eq_int_none (cg I q (by simp))
  | int j=>obtain⟨t',rfl⟩:=ry;exact eq_int (cg I q BI)
  | str j=>obtain⟨t',rfl⟩:=ry;exact PySem.EqMixed.eq_int_str (cg I q (by simp))
  | _=>exact absurd (show false=true from hs) bP
 | str i =>
  obtain⟨t,rfl⟩:=rx;cases y with
  | non=>cases ry;exact PySem.EqNone.eq_str_none (cg I q (by simp))
  | bl j=>cases ry;exact PySem.EqMixed.eq_str_bool (cg I q (by simp))
  | int j=>obtain⟨t',rfl⟩:=ry;exact PySem.EqMixed.eq_str_int (cg I q (by simp))
  | str j=>obtain⟨t',rfl⟩:=ry;exact eq_str (cg I q BJ)
  | _=>exact absurd (show false=true from hs) bP
 | byt i =>
  obtain⟨t,rfl⟩:=rx;cases y with
  | byt j=>obtain⟨t',rfl⟩:=ry;exact PySem.W.eq_bytes (cg I q BH)
  | _=>exact absurd (show false=true from hs) bP
 | _=>cases y<;>exact absurd (show false=true from hs) bP
theorem Ga:É X (compareOp .NotEq) rNe:=by
 intro Yp s σ H x y v u Q I rx ry h;obtain⟨hs,q⟩:=h;cases x with
 | non =>
  cases rx
  cases y with
  | non=>cases ry;exact PySem.EqNone.ne_none_none (cg I q (by simp))
  | bl j=>cases ry;exact PySem.EqNone.ne_none_bool (cg I q (by simp))
  | int j=>obtain⟨t',rfl⟩:=ry;exact PySem.EqNone.ne_none_int (cg I q (by simp))
  | str j=>obtain⟨t',rfl⟩:=ry;exact PySem.EqNone.ne_none_str (cg I q (by simp))
  | _=>exact absurd (show false=true from hs) bP
 | bl i =>
  cases rx
  cases y with
  | non=>cases ry;exact PySem.EqNone.ne_bool_none (cg I q (by simp))
  | bl j=>cases ry;exact ne_bool (cg I q (bQ not EU))
  | str j=>obtain⟨t',rfl⟩:=ry;exact PySem.EqMixed.ne_bool_str (cg I q (by simp))
  | _=>exact absurd (show false=true from hs) bP
 | int i =>
  obtain⟨t,rfl⟩:=rx;cases y with
  | non=>cases ry;exact PySem.EqNone.ne_int_none (cg I q (by simp))
  | int j=>obtain⟨t',rfl⟩:=ry;exact ne_int (cg I q (bQ not BI))
  | str j=>obtain⟨t',rfl⟩:=ry;exact PySem.EqMixed.ne_int_str (cg I q (by simp))
  | _=>exact absurd (show false=true from hs) bP
 | str i =>
  obtain⟨t,rfl⟩:=rx;cases y with
  | non=>cases ry;exact PySem.EqNone.ne_str_none (cg I q (by simp))
  | bl j=>cases ry;exact PySem.EqMixed.ne_str_bool (cg I q (by simp))
  | int j=>obtain⟨t',rfl⟩:=ry;exact PySem.EqMixed.ne_str_int (cg I q (by simp))
  | str j=>obtain⟨t',rfl⟩:=ry;exact ne_str (cg I q (bQ not BJ))
  | _=>exact absurd (show false=true from hs) bP
 | byt i =>
  obtain⟨t,rfl⟩:=rx;cases y with
  | byt j=>obtain⟨t',rfl⟩:=ry;exact PySem.W.ne_bytes (cg I q (bQ not BH))
  | _=>exact absurd (show false=true from hs) bP
 | _=>cases y<;>exact absurd (show false=true from hs) bP
theorem Mh:É X (compareOp .Lt) (ë fun i j=>.bl (decide (i<j))):=IJ fun _ _ _ _ _ _ _ q=>lt_int q
theorem Mg:É X (compareOp .LtE) (ë fun i j=>.bl (decide (i<=j))):=IJ fun _ _ _ _ _ _ _ q=>le_int q
theorem Mf:É X (compareOp .Gt) (ë fun i j=>.bl (decide (j<i))):=IJ fun _ _ _ _ _ _ _ q=>gt_int q
theorem Me:É X (compareOp .GtE) (ë fun i j=>.bl (decide (j<=i))):=IJ fun _ _ _ _ _ _ _ q=>ge_int q
theorem DY:É X (compareOp .In) (fun x y H Q=>∃ i j,x=.str i/\y=.str j/\Q (.bl (!(Builtin.Str.occurrences j i 0 ⇑j 1).isEmpty)) H):=by intro Yp s σ H x y v u Q I rx ry h;obtain⟨i,j,rfl,rfl,q⟩:=h;obtain⟨t,rfl⟩:=rx;obtain⟨t',rfl⟩:=ry;exact in_str (cg I q rfl)
theorem KU:É X (compareOp .Is) (fun x y H Q=>y=.non/\Q (.bl (decide (x=.non))) H):=by
 intro Yp s σ H x y v u Q I rx ry h;obtain⟨rfl,q⟩:=h;cases ry;refine is_none_gen (cg I q ?_);cases x<;>first
  | (cases rx;rfl)
  | (obtain⟨t,rfl⟩:=rx;rfl)
theorem IM:É X (compareOp .IsNot) (fun x y H Q=>y=.non/\Q (.bl (!decide (x=.non))) H):=by
 intro Yp s σ H x y v u Q I rx ry h;obtain⟨rfl,q⟩:=h;cases ry;refine isnot_none_gen (cg I q ?_);cases x<;>first
  | (cases rx;rfl)
  | (obtain⟨t,rfl⟩:=rx;rfl)
theorem aU (b:Expr)  (h:op≠.In:=by decide) (h2:op≠.NotIn:=by decide):behindInMarks op b=false:=by
 have e1:(op==CmpOp.In)=false:=by cases op<;>first | rfl | exact absurd rfl h
 have e2:(op==CmpOp.NotIn)=false:=by cases op<;>first | rfl | exact absurd rfl h2
 cases b<;>simp [behindInMarks,e1,e2]
theorem cT {r:R2} (ho:É X (compareOp op) r) (ha:PE X a ta) (hb:PE X b tb) (hm:behindInMarks op b=false):PE X (.Compare a [op] [b] pos) (ö r ta tb):=by intro Yp s σ H Q I h;exact wpAny_Compare1 (Kq ha hb I h fun v u s2 x y H2 I2 rx ry q=>ho Yp s2 σ H2 x y v u Q I2 rx ry q) hm
def z6 (t:TE):TT:=fun σ H Q=>t σ H fun x H'=>∃ k,x=.bl k/\Q k H'
theorem aR {r:R2} (ho:É X (compareOp op) r) (ha:PE X a ta) (hb:PE X b tb) (hm:behindInMarks op b=false):PT X (.Compare a [op] [b] pos) (z6 (ö r ta tb)):=by intro Yp s σ H Q I h;refine wpAny_isTrue_Compare1 (Â (ha Yp s σ H _ I h) fun v s1 ⟨x,H1,I1,r1,q1⟩=>Â (hb Yp s1 σ H1 _ I1 q1) fun u s2 ⟨y,H2,I2,r2,q2⟩ =>Â (ho Yp s2 σ H2 x y v u _ I2 r1 r2 q2) fun c s3 ⟨z,H3,I3,r3,k,e,q3⟩=>?_) hm;subst e;cases r3;exact ik ⟨H3,I3,q3⟩
def Bn (r r':R2) (ta tb tc:TE):TE:=fun σ H Q=>ta σ H fun x H1=>tb σ H1 fun y H2=>r x y H2 fun z H3=>∃ k,z=.bl k ∧
 (if k=true then tc σ H3 fun w' H4=>r' y w' H4 Q else Q (.bl false) H3)
theorem Ge {op op':CmpOp}{r r':R2} (ho:É X (compareOp op) r) (ho':É X (compareOp op') r') (ha:PE X a ta) (hb:PE X b tb) (hc:PE X c tc)
  (hm:lastMarks [op,op'] [b,c]=false:=by with_unfolding_all rfl):PE X (.Compare a [op,op'] [b,c] pos) (Bn r r' ta tb tc):=by
 intro Yp s σ H Q I h;refine Compare_chain (Â (ha Yp s σ H _ I h) fun v s1 ⟨x,H1,I1,r1,q1⟩=>chain_link (Â (hb Yp s1 σ H1 _ I1 q1) fun u s2 ⟨y,H2,I2,r2,q2⟩ =>Â (ho Yp s2 σ H2 x y v u _ I2 r1 r2 q2) fun d s3 ⟨z,H3,I3,r3,k,e,q3⟩=>?_)) hm;subst e;cases r3;refine ik ?_;cases k with
 | false=>exact ite_ff ⟨.bl false,H3,I3,rfl,q3⟩
 | true=>exact ite_tt (chain_last (Â (hc Yp s3 σ H3 _ I3 q3) fun w' s4 ⟨z',H4,I4,r4,q4⟩=>ho' Yp s4 σ H4 y z' u w' Q I4 r2 r4 q4))
theorem qz {op op':CmpOp}{r r':R2} (ho:É X (compareOp op) r) (ho':É X (compareOp op') r') (ha:PE X a ta) (hb:PE X b tb) (hc:PE X c tc)
  (hm:lastMarks [op,op'] [b,c]=false:=by with_unfolding_all rfl):PT X (.Compare a [op,op'] [b,c] pos) (z6 (Bn r r' ta tb tc)):=by
 intro Yp s σ H Q I h;refine isTrue_chain (Â (ha Yp s σ H _ I h) fun v s1 ⟨x,H1,I1,r1,q1⟩=>test_link (Â (hb Yp s1 σ H1 _ I1 q1) fun u s2 ⟨y,H2,I2,r2,q2⟩ =>Â (ho Yp s2 σ H2 x y v u _ I2 r1 r2 q2) fun d s3 ⟨z,H3,I3,r3,k,e,q3⟩=>?_)) hm;subst e;cases r3;refine ik ?_;cases k with
 | false =>obtain⟨k',e',q'⟩:=q3;cases e';exact ite_ff ⟨H3,I3,q'⟩
 | true =>refine ite_tt (test_last (Â (hc Yp s3 σ H3 _ I3 q3) fun w' s4 ⟨z',H4,I4,r4,q4⟩=>Â (ho' Yp s4 σ H4 y z' u w' _ I4 r2 r4 q4) fun d' s5 ⟨z2,H5,I5,r5,k2,e2,q5⟩=>?_));subst e2;cases r5;exact ik ⟨H5,I5,q5⟩
theorem rH:(sizeLine:Nat)<2^63:=by rw[sizeLine_eq];decide
theorem AM:É X (binaryOp .Add) (fun x y H Q=>∃ i j,x=.str i/\y=.str j/\⇑i+⇑j<=sizeLine/\Q (.str (i++j)) H):=by intro Yp s σ H x y v u Q I rx ry h;obtain⟨i,j,rfl,rfl,hz,q⟩:=h;obtain⟨t,rfl⟩:=rx;obtain⟨t',rfl⟩:=ry;exact add_str (fun t' tk=>⟨.str (i++j),H,I.tok _,⟨_,rfl⟩,q⟩) hz
theorem vals1 {x:V} (r:Vals [x] us):∃ u,us=[u]/\RelV x u:=by
 cases r with
 | cons r1 r2=>cases r2;exact⟨_,rfl,r1⟩
theorem vals2 {x y:V} (r:Vals [x,y] us):∃ u w',us=[u,w']/\RelV x u/\RelV y w':=by
 cases r with
 | cons r1 r2 =>
  cases r2 with
  | cons r3 r4=>cases r4;exact⟨_,_,rfl,r1,r3⟩
theorem EN:dy X (.builtin "abs") (fun xs H Q=>∃ i,xs=[.int i]/\Q (.int (if i<0 then -i else i)) H):=by intro Yp s σ H xs us Q I r h;obtain⟨i,rfl,q⟩:=h;obtain⟨u,rfl,t,rfl⟩:=vals1 r;exact call_abs_int fun u tk=>⟨.int (if i<0 then -i else i),H,I.tok _,⟨_,rfl⟩,q⟩
theorem CO (hc:X.calm=true):dy X (.builtin "max") (fun xs H Q=>∃ i j,xs=[.int i,.int j]/\Q (.int (if j>i then j else i)) H):=by
 intro Yp s σ H xs us Q I r h;obtain⟨i,j,rfl,q⟩:=h;obtain⟨u,w',rfl,⟨t,rfl⟩,⟨t',rfl⟩⟩:=vals2 r;refine max_two_ints (I.ok.hd hc) fun h' tk k=>⟨_,H,I.kept k,?_,q⟩
 by_cases hj:j>i
 ·rw[aq hj,aq hj];exact⟨_,rfl⟩
 ·rw[ai hj,ai hj];exact⟨_,rfl⟩
end
end
section
structure zG (h:Heap) (x dx C:Addr) (mA:Zk):Prop where
 obj:h.get? x=some (PySem.W.instObj C dx)
 ns:h.Ns1 dx mA
 ne:dx≠x
theorem DO {dx:Addr} (n:h.Ns1 dx mA):∃ od,h.get? dx=some od/\∀ name,PySem.W.lookIn name od=some (mA name):=by
 obtain⟨o,es,ep,ho,hd,hk,_,hm⟩:=n;refine⟨o,ho,fun name=>?_⟩;have e:=hm name;unfold nsFind findBy at e;rw[←Array.find?_toList] at e;unfold PySem.W.lookIn;rw[hd];dsimp only;split
 ·rename_i y q
  rw[q] at e;exact bQ some e
 ·rename_i q
  rw[q] at e;have a:es.toList.any (·.refKey)=false:=by rw[List.any_eq_false];intro y hy;obtain⟨z,t,hkey⟩:=hk y (Array.mem_toList_iff.mp hy);simp [DictEntry.refKey,hkey]
  have a':¬ es.toList.any (·.refKey)=true:=by rw[a];exact bP
  rw[ai a'];exact bQ some e
theorem zG.look {x dx C:Addr} (I:zG h x dx C mA):∃ od,PySem.W.InstAt h x (PySem.W.instObj C dx) C (some od)/\∀ name,PySem.W.lookIn name od=some (mA name) :=
 let ⟨od,ho,hl⟩:=DO I.ns
 ⟨od,⟨I.obj,rfl,rfl,ho⟩,hl⟩
section
variable {prog:Zh}{w:Zi}{A:Around}{E:Zq}{s:Zg}{K:Zf}{x dx C f:Addr}{mA:Zk}{name:Str}{v:Value}
theorem get_map {expr:Bool}{Q:Zq} (X:K.In s.heap) (I:zG s.heap x dx C mA) (hg:PySem.W.plainGet K C name=true) (hh:PySem.W.hasDictIn K C=true)
  (ha:PySem.W.findIn K (.ref C) name=some none) (hv:mA name=some v) (hv':PySem.W.handedIn v=true) (h:Q v { s with toks:=s.toks+1 }) :
  wpAny (model prog w) A (getAttr (.ref x) name expr) Q E s:=by
 obtain⟨od,J,hl⟩:=I.look;exact PySem.W.get_value X J (PySem.W.plainGet_of hg).1 (PySem.W.findObj_own hh ha rfl (by rw[hl,hv])) hv' h
theorem Fq {pl:Sem Bool}{Q:Value×Zc->Zg->Prop} (X:K.In s.heap) (I:zG s.heap x dx C mA) (hg:PySem.W.plainGet K C name=true)
  (hf:PySem.W.findIn K (.ref C) name=some (some (.ref f))) (ht:PySem.W.isFn K (.ref f)=true) (hv:mA name=none) (h:Q (.ref f,[.ref x]) s) :
  wpAny (model prog w) A (getMethod (.ref x) name pl) Q E s:=by
 obtain⟨od,J,hl⟩:=I.look;exact PySem.W.method_fn X J (PySem.W.plainGet_of hg).1 (PySem.W.plainGet_of hg).2 hf (ie.mp ht) (by show (PySem.W.lookIn name od).map (·.isSome)=some false;rw[hl,hv];rfl) h
theorem Jq {ns:Ze}{Q:Unit->Zg->Prop} (X:K.In s.heap) (I:zG s.heap x dx C mA)
  (hs:PySem.W.findIn K (.ref C) "__setattr__"=some (some (.builtin "object.__setattr__"))) (hp:PySem.W.plainOver K C=true) (ht:PySem.W.takerIn K C name=some none) (hh:PySem.W.hasDictIn K C=true)
  (hw:PySem.Within mA ns) (hsz:⇑ns<=sizeLine)
  (h:∀ h',zG h' x dx C (fun y=>if y=name then some v else mA y)->Heap.SameBut dx s.heap h'->Q () { s with heap:=h',toks:=s.toks+2 }) :
  wpAny (model prog w) A (setAttr (.ref x) name v) Q E s:=by
 obtain⟨od,J,hl⟩:=I.look;refine PySem.W.set_plain X J hs (PySem.W.osa_open (s:={ s with toks:=s.toks+1 }) (r:=none) X J hp ht fun b=>?_);obtain⟨cd,hc,hd'⟩:=PySem.W.any_some hh;have hx:s.heap.get? x=some ⟨.ref C,some dx,.plain,#[]⟩:=I.obj;refine ae (au (ae (ae (wpAny_loadPart hx (ae (PySem.W.Looks.here (s:={ s with toks:=s.toks+1 }) (PySem.W.looks_clsIn X hc) ?_))))));rw[hd'];refine au (a:=some dx) (ae (au (ae ?_)));refine wpAny_nsSet1 (s:={ s with toks:=s.toks+1 }) I.ns fun h' hn2 hs2=>?_;obtain⟨oD,esD,epD,hoD,hdD,hcD⟩:=hn2.count (PySem.Within.cons name v hw);refine ae (wpAny_lookBehind hoD (by rw[hdD];exact pastItsLine_dict (bM hcD (by rw[bH];left))) ?_);exact au (h _ ⟨(hs2.2 _ (Ne.symm I.ne)).trans I.obj,hn2,I.ne⟩ hs2)
theorem FI {R:Result->Zg->Prop}{vs:Zc}{kw:List (Str×Value)} (X:K.In s.heap) (hm:PySem.W.makesIn K C=true)
  (hi:PySem.W.findIn K (.ref C) "__init__"=some (some (.ref f))) (hf:PySem.W.typeIn K (.ref f)=some (.type "function"))
  (h:codeAny (model prog w) (A.under (.builtin "type.__call__" ⟨.ref C::vs,kw⟩)) (.call (.ref f) ⟨.ref (s.heap.objs.size+1)::vs,kw⟩) (PySem.W.InitBack (s.heap.objs.size+1) R)
   { s with heap:=(s.heap.push PySem.W.emptyDict).push (PySem.W.instObj C s.heap.objs.size) }) :
  codeAny (model prog w) A (.call (.ref C) ⟨vs,kw⟩) R s:=by
 obtain⟨hh,g,d,t,os⟩:=s;exact PySem.W.make_core (PySem.W.makes_of X hm) (PySem.W.looks_findIn X hi) (fun self=>PySem.W.bind_fn X self hf) (.inl rfl) h
end
noncomputable def m9 (f:Str) (v:V):List (Str×V)->List (Str×V)
 | []=>[(f,v)]
 | (g,x)::r=>if g=f then (g,v)::r else (g,x)::m9 f v r
theorem so (f g:Str) (v:V):∀ fs:List (Str×V),(m9 f v fs).lookup g=if g=f then some v else fs.lookup g
 | []=>by
  show List.lookup g [(f,v)]=_
  by_cases h:g=f
  ·have hb:(g==f)=true:=ie.mpr h;simp only[List.lookup,hb,aq h]
  ·have hb:(g==f)=false:=lJ.mpr h;simp only[List.lookup,hb,ai h]
 | (k,x)::r=>by
  have ih:=so f g v r;rw[show m9 f v ((k,x)::r)=(if k=f then (k,v)::r else (k,x)::m9 f v r) from rfl]
  by_cases hk:k=f
  ·rw[aq hk]
   by_cases h:g=k
   ·have hb:(g==k)=true:=ie.mpr h;simp only[List.lookup,hb,aq (h.trans hk)]
   ·have hb:(g==k)=false:=lJ.mpr h;simp only[List.lookup,hb,ai (fun e:g=f=>h (e.trans hk.symm))]
  ·rw[ai hk]
   by_cases h:g=k
   ·have hb:(g==k)=true:=ie.mpr h;simp only[List.lookup,hb,ai (fun e:g=f=>hk (h.symm.trans e))]
   ·have hb:(g==k)=false:=lJ.mpr h;simp only[List.lookup,hb];exact ih
theorem rE (f:Str) (v:V):∀ fs:List (Str×V),f∈(m9 f v fs).map (·.1)/\∀ g,g∈fs.map (·.1)->g∈(m9 f v fs).map (·.1)
 | []=>⟨by simp [m9],fun g h=>by simp at h⟩
 | (k,x)::r=>by
  obtain⟨i1,i2⟩:=rE f v r;rw[show m9 f v ((k,x)::r)=(if k=f then (k,v)::r else (k,x)::m9 f v r) from rfl]
  by_cases hk:k=f
  ·rw[aq hk];subst hk;exact⟨by simp,fun g h=>by simpa using h⟩
  ·rw[ai hk];refine⟨?_,fun g h=>?_⟩
   ·rw[bI];exact b8 _ i1
   ·rw[bI] at h ⊢;rcases aY.mp h with e | e
    ·exact aY.mpr (.inl e)
    ·exact b8 _ (i2 g e)
theorem sk (f:Str) (v:V):∀ fs:List (Str×V),⇑(m9 f v fs)<=⇑fs+1
 | []=>by simp [m9]
 | (k,x)::r=>by
  have ih:=sk f v r;rw[show m9 f v ((k,x)::r)=(if k=f then (k,v)::r else (k,x)::m9 f v r) from rfl]
  by_cases hk:k=f
  ·rw[aq hk,bH,bH];left
  ·rw[ai hk,bH,bH];left
theorem kl.some_of {v:V}{o:Option Value} (r:kl (some v) o):∃ u,o=some u/\RelV v u:=by
 cases o with
 | none=>exact (show False from r).elim
 | some u=>exact⟨u,rfl,r⟩
theorem kl.none_of {o:Option Value} (r:kl none o):o=none:=by
 cases o with
 | none=>rfl
 | some u=>exact (show False from r).elim
theorem DD {v:V} (r:RelV v u):PySem.W.handedIn u=true:=by
 cases v with
 | non=>cases (show u=Value.none from r);rfl
 | bl b=>cases (show u=Value.bool b from r);rfl
 | int i=>obtain⟨t,e⟩:=(show ∃ t,u=Value.int i t from r);cases e;rfl
 | str x=>obtain⟨t,e⟩:=(show ∃ t,u=Value.str x t from r);cases e;rfl
 | byt b=>obtain⟨t,e⟩:=(show ∃ t,u=Value.bytes b t from r);cases e;rfl
 | flt b=>obtain⟨t,e⟩:=(show ∃ t,u=Value.float b t from r);cases e;rfl
 | ref a=>cases (show u=Value.ref a from r);rfl
 | ty n=>cases (show u=Value.type n from r);rfl
section
variable {P:Zh}{w:Zi}{H H':Hp}{h h':Heap}{a C dx:Addr}{fs fs':List (Str×V)}
theorem tf (hok:Î P w H h) (e:H a=some (.ins C dx fs)):∃ mA,zG h a dx C mA/\(∀ f,kl (fs.lookup f) (mA f))/\PySem.Within mA (fs.map (·.1))/\⇑fs<=1000/\H dx=some (.own a):=by obtain⟨d,z,ne,ob,mA,n,r,q⟩:=(show bX P w H h a (.ins C dx fs) from hok a _ e);exact⟨mA,⟨ob,n,ne⟩,r,q,z,d⟩
end
structure Ý (K:Zf) (C:Addr):Prop where
 pg:PySem.W.plainGet K C Str.empty=true
 hd:PySem.W.hasDictIn K C=true
 po:PySem.W.plainOver K C=true
 sa:PySem.W.findIn K (.ref C) "__setattr__"=some (some (.builtin "object.__setattr__"))
theorem Ý.get (c:Ý K C) (f:Str):PySem.W.plainGet K C f=true:=c.pg
def gM (K:Zf) (C:Addr) (f:Str):Prop:=PySem.W.findIn K (.ref C) f=some none
theorem gM.M8 {f:Str} (n:gM K C f):PySem.W.takerIn K C f=some none:=by unfold PySem.W.takerIn;rw[show PySem.W.findIn K (.ref C) f=some none from n];rfl
structure Meth (K:Zf) (C:Addr) (m:Str) (f:Addr):Prop where
 at_:PySem.W.findIn K (.ref C) m=some (some (.ref f))
 fn:PySem.W.isFn K (.ref f)=true
 kp:PySem.W.keepIn K (.ref f)=true
section
variable {X:Cx}{Yp:Zp}{σ:St}{H:Hp}{s:Zg}{a C dx:Addr}{fs:List (Str×V)}{f:Str}{v:V}{A:Around}{E:Zq}
theorem Aw {b:Bool}{Q:Zq} (I:Inv X Yp σ H s) (e:H a=some (.ins C dx fs)) (c:Ý X.K C) (n:gM X.K C f) (l:fs.lookup f=some v)
  (h:∀ u s',Inv X Yp σ H s'->RelV v u->Q u s'):wpAny (model X.prog X.w) A (getAttr (.ref a) f b) Q E s:=by
 obtain⟨mA,O,r,_,_,_⟩:=tf I.hok e;obtain⟨u,hu,ru⟩:=kl.some_of (v:=v) (o:=mA f) (by rw[←l];exact r f);exact get_map I.Ô O (c.get f) c.hd n hu (DD ru) (h u _ (I.tok _) ru)
theorem tV {m:Str}{g:Addr}{pl:Sem Bool}{Q:Value×Zc->Zg->Prop} (I:Inv X Yp σ H s) (e:H a=some (.ins C dx fs)) (c:Ý X.K C) (k:Meth X.K C m g) (l:fs.lookup m=none)
  (h:Q (.ref g,[.ref a]) s):wpAny (model X.prog X.w) A (getMethod (.ref a) m pl) Q E s:=by
 obtain⟨mA,O,r,_,_,_⟩:=tf I.hok e;have hn:mA m=none:=kl.none_of (by rw[←l];exact r m);exact Fq I.Ô O (c.get m) k.at_ k.fn hn h
theorem Bh {y:V}{Q:Unit->Zg->Prop} (I:Inv X Yp σ H s) (e:H a=some (.ins C dx fs)) (c:Ý X.K C) (n:gM X.K C f) (hl:⇑fs<1000) (ry:RelV y u)
  (h:∀ s',Inv X Yp σ (upd H a (.ins C dx (m9 f y fs))) s'->Q () s'):wpAny (model X.prog X.w) A (setAttr (.ref a) f u) Q E s:=by
 obtain⟨mA,O,r,wi,_,ho⟩:=tf I.hok e;have hz:⇑(fs.map (·.1))<=sizeLine:=by rw[ak,sizeLine_eq];left
 refine Jq I.Ô O c.sa c.po n.M8 c.hd wi hz fun h' O' sb=>h _ ?_;have hd:∃ o,h'.get? dx=some o:=let ⟨o,_,_,e',_⟩:=O'.ns;⟨o,e'⟩;refine I.write (x:=a) (e:=dx) (by rw[e];exact True.intro) (.inr ho) (fun b q hb z=>(sb.2 b hb).trans z) hd ?_;refine⟨by rw[aN O.ne];exact ho,?_,O.ne,O'.obj,_,O'.ns,fun g=>?_,fun g hg=>?_⟩
 ·have:=sk f y fs;left
 ·show kl ((m9 f y fs).lookup g) (if g=f then some u else mA g);rw[so]
  by_cases q:g=f
  ·rw[aq q,aq q];exact ry
  ·rw[ai q,ai q];exact r g
 ·by_cases q:g=f
  ·rw[q];exact (rE f y fs).1
  ·refine (rE f y fs).2 g (wi g fun z=>hg ?_);show (if g=f then some u else mA g)=none;rw[ai q];exact z
theorem Inv.made (I:Inv X Yp σ H s):Inv X Yp σ (upd (upd H s.heap.objs.size (.own (s.heap.objs.size+1))) (s.heap.objs.size+1) (.ins C s.heap.objs.size []))
  { s with heap:=(s.heap.push PySem.W.emptyDict).push (PySem.W.instObj C s.heap.objs.size) }:=by
 have e1:(s.heap.push PySem.W.emptyDict).get? s.heap.objs.size=some PySem.W.emptyDict:=bo s.heap rfl;have e2:((s.heap.push PySem.W.emptyDict).push (PySem.W.instObj C s.heap.objs.size)).get? (s.heap.objs.size+1)=some (PySem.W.instObj C s.heap.objs.size):=by
  have:=bo (s.heap.push PySem.W.emptyDict) (o:=PySem.W.instObj C s.heap.objs.size) rfl
  rwa [jB] at this
 have e3:(s.heap.push PySem.W.emptyDict).Ns s.heap.objs.size (fun _=>none):=⟨PySem.W.emptyDict,#[],_,e1,rfl,(fun e he=>absurd he (by simp)),fun _=>rfl⟩;have I1:=I.laid (a:=s.heap.objs.size) (o:=.own (s.heap.objs.size+1)) (h':=s.heap.push PySem.W.emptyDict) (t':=s.toks) (fun b u q=>aL _ q) (aw _) ⟨_,e1⟩;refine I1.laid (a:=s.heap.objs.size+1) (o:=.ins C s.heap.objs.size []) (t':=s.toks) (fun b u q=>aL _ q) (Nat.le_of_eq (jB _ _)) ?_;have ne:s.heap.objs.size≠s.heap.objs.size+1:=bw (lF _);refine⟨by rw[aN ne,aI],br _,ne,e2,fun _=>none,(Heap.Ns1.of_empty e3).at fun o q=>aL _ q,fun _=>True.intro,fun y hy=>absurd rfl hy⟩
theorem HN {prog:Zh}{w:Zi}{env:Env}{f:Str}{pos:Pos}{s:Zg}{Q:Zq} (hb:attributeBase e f env (eval e env)=eval e env)
  (h:wpAny (model prog w) A (eval e env) (fun o s₁=>wpAny (model prog w) A (getAttr o f true) Q E s₁) E s):wpAny (model prog w) A (eval (.Attribute e f pos) env) Q E s :=
 Attribute_any_ h (by rw[arm_eval_Attribute,hb])
end
def Nv (K:Zf) (ta:TE) (f:Str):TE:=fun σ H Q=>ta σ H fun x H1=>∃ a C dx fs v,x=.ref a/\H1 a=some (.ins C dx fs)/\Ý K C/\gM K C f/\fs.lookup f=some v/\Q v H1
def Nr (K:Zf) (ta tv:TE) (f:Str):TS:=fun D σ H=>tv σ H fun y H1=>ta σ H1 fun x H2=>∃ a C dx fs,x=.ref a/\H2 a=some (.ins C dx fs)/\Ý K C/\gM K C f/\⇑fs<1000 ∧
 D.nx σ (upd H2 a (.ins C dx (m9 f y fs)))
section
variable {X:Cx}{o e value:Expr}{f:Str}{pos pos' tpos:Pos}{ta tv:TE}
theorem Lg (he:PE X e ta) (hb:attributeBase e f X.env (eval e X.env)=eval e X.env):PE X (.Attribute e f pos) (Nv X.K ta f):=by intro Yp s σ H Q I h;refine HN hb (Â (he Yp s σ H _ I h) fun u s1 hz=>?_);obtain⟨x,H1,I1,rx,a,C,dx,fs,v,ex,ea,c,n,l,q⟩:=hz;subst ex;obtain rfl:u=Value.ref a:=rx;exact Aw I1 ea c n l fun u' s2 I2 ru=>⟨v,H1,I2,ru,q⟩
theorem Lm (ha:PE X o ta) (hv:PE X value tv) (hs:swapsWith value (some (.Attribute o f pos')) pos.line X.env=pure false):PS X (.Assign [.Attribute o f pos'] value pos) (Nr X.K ta tv f):=by intro Yp s σ H D I h;refine plainObj_wpAny_Assign_Attribute (Â (hv Yp s σ H _ I h) fun u s1 ⟨y,H1,I1,ry,q⟩=>Â (ha Yp s1 σ H1 _ I1 q) fun ov s2 hz=>?_) hs;obtain⟨x,H2,I2,rx,a,C,dx,fs,ex,ea,c,n,l,q2⟩:=hz;subst ex;obtain rfl:ov=Value.ref a:=rx;exact Bh I2 ea c n l ry fun s3 I3=>⟨σ,_,I3,q2⟩
end
section
variable {X:Cx}{Yp:Zp}{σ:St}{H:Hp}{s:Zg}{A:Around}{E:Zq}{Q:Zq}{c:Value}{b:Bool}
inductive oZ (K:Zf) (H:Hp):V->Value->Prop where
 | non:oZ K H .non (.type "NoneType")
 | bl (x:Bool):oZ K H (.bl x) (.type "bool")
 | int (i:Int):oZ K H (.int i) (.type "int")
 | str (x:Str):oZ K H (.str x) (.type "str")
 | flt (x:UInt64):oZ K H (.flt x) (.type "float")
 | lst {a:Addr}{xs:List V} (e:H a=some (.lst xs)):oZ K H (.ref a) (.type "list")
 | frz {a:Addr}{o:Obj}{xs:List V} (e:H a=some (.frz o (.lst xs))):oZ K H (.ref a) (.type "list")
 | tup {a:Addr}{xs:List V} (e:H a=some (.tup xs)):oZ K H (.ref a) (.type "tuple")
 | dK {a:Addr}{kvs:List (Key×V)} (e:H a=some (.dK kvs)):oZ K H (.ref a) (.type "dict")
 | dT {a:Addr}{kvs:List (List Key×V)} (e:H a=some (.dT kvs)):oZ K H (.ref a) (.type "dict")
 | ins {a C dx:Addr}{fs:List (Str×V)} (e:H a=some (.ins C dx fs)) (cl:Ý K C) (ha:PySem.W.findIn K (.ref C) "__class__"=some (some (.builtin "object.__class__")))
   (hn:PySem.W.specialIn K (.builtin "object.__class__") "__get__"=some (some (.builtin "getset_descriptor.__get__"))) (htk:PySem.W.takesIn K (.builtin "object.__class__")=some true)
   (hm:PySem.W.mroIn K C (.type "object")=some true):oZ K H (.ref a) (.ref C)
theorem isinst_ok {x:V}{u t:Value} (I:Inv X Yp σ H s) (rx:RelV x u) (ty:oZ X.K H x t) (e:PySem.W.kitOne X.K t c=some b) (h:∀ tk,Q (.bool b) { s with toks:=tk }) :
  wpAny (model X.prog X.w) A (call (.builtin "isinstance") [u,c]) Q E s:=by
 cases ty with
 | non=>cases (show u=Value.none from rx);exact fM PySem.W.kitx_none I.Ô True.intro e (fun z=>nomatch z) h
 | bl y=>cases (show u=Value.bool y from rx);exact fM PySem.W.kitx_bool I.Ô True.intro e (fun z=>nomatch z) h
 | int i=>obtain⟨t,q⟩:=(show ∃ t,u=Value.int i t from rx);cases q;exact fM PySem.W.kitx_int I.Ô True.intro e (fun z=>nomatch z) h
 | str y=>obtain⟨t,q⟩:=(show ∃ t,u=Value.str y t from rx);cases q;exact fM PySem.W.kitx_str I.Ô True.intro e (fun z=>nomatch z) h
 | flt y=>obtain⟨t,q⟩:=(show ∃ t,u=Value.float y t from rx);cases q;exact fM PySem.W.kitx_float I.Ô True.intro e (fun z=>nomatch z) h
 | @lst a xs ea =>
  cases (show u=Value.ref a from rx)
  obtain⟨_,_,n,_,h1⟩:=(show bX X.prog X.w H s.heap a (.lst xs) from I.hok a _ ea);exact fM PySem.W.kitx_list I.Ô ⟨_,h1,rfl⟩ e (fun z=>nomatch z) h
 | @frz a ob xs ea =>
  cases (show u=Value.ref a from rx)
  obtain⟨_,_,_,n,_,h1⟩:=(show bX X.prog X.w H s.heap a (.frz ob (.lst xs)) from I.hok a _ ea);exact fM PySem.W.kitx_list I.Ô ⟨_,h1,rfl⟩ e (fun z=>nomatch z) h
 | @tup a xs ea =>
  cases (show u=Value.ref a from rx)
  obtain⟨_,_,_,p⟩:=(show bX X.prog X.w H s.heap a (.tup xs) from I.hok a _ ea);obtain⟨o,h1,h2,_⟩:=p;exact fM PySem.W.kitx_tuple I.Ô ⟨o,h1,h2⟩ e (fun z=>nomatch z) h
 | @dK a kvs ea =>
  cases (show u=Value.ref a from rx)
  obtain⟨_,_,vs,_,p⟩:=(show bX X.prog X.w H s.heap a (.dK kvs) from I.hok a _ ea);obtain⟨o,es,ep,h1,h2,_⟩:=p;exact fM PySem.W.kitx_dict I.Ô ⟨o,h1,h2.1⟩ e (fun z=>nomatch z) h
 | @dT a kvs ea =>
  cases (show u=Value.ref a from rx)
  obtain⟨_,_,xs,_,o,es,ep,h1,h2,_⟩:=(show bX X.prog X.w H s.heap a (.dT kvs) from I.hok a _ ea);exact fM PySem.W.kitx_dict I.Ô ⟨o,h1,h2.1⟩ e (fun z=>nomatch z) h
 | @ins a C dx fs ea cl ha hn htk hm =>
  cases (show u=Value.ref a from rx)
  obtain⟨mA,O,_⟩:=tf I.hok ea;obtain⟨od,J,_⟩:=O.look;exact fM (PySem.W.kitx_own (cl.get _) cl.hd ha hn htk hm) I.Ô J e (fun z=>nomatch z) h
end
end
section
structure cU (k:Nat) (A:Around):Prop where
 hd:A.handled=none
 dp:A.depth+3*k+5<recursionLimit
 un:A.units+16*k+200<cLine
theorem cU.mono {j k:Nat} (r:cU k A) (h:j<=k):cU j A:=⟨r.hd,by have:=r.dp;left,by have:=r.un;left⟩
theorem cU.deeper {k:Nat}{A:Around} (r:cU (k+1) A) (env:Env):cU k (A.deeper env) :=
 ⟨r.hd,by have:=r.dp;show A.depth+1+3*k+5<_;left,by have:=r.un;show A.units+3+16*k+200<_;left⟩
theorem cU.in1 {k:Nat}{A:Around} (r:cU (k+1) A):cU k A.in1 :=
 ⟨r.hd,by have:=r.dp;show A.depth+3*k+5<_;left,by have:=r.un;show A.units+1+16*k+200<_;left⟩
theorem A7 :(A.under (.builtin "type.__call__" ⟨.ref C::us,kw⟩)).depth=A.depth+1:=by first | rfl | simp [Around.under,Code.weight,Code.isCreation,Code.isGuard,Code.isCaller,Code.frames,Code.isFrame,guardIds]
theorem A8 :(A.under (.builtin "type.__call__" ⟨.ref C::us,kw⟩)).units=A.units+1:=by first | rfl | simp [Around.under,Code.cUnits,Code.frames,Code.isFrame]
theorem cU.make {k:Nat} (r:cU (k+1) A) (C:Addr) (us:Zc) (kw:List (Str×Value)):cU k (A.under (.builtin "type.__call__" ⟨.ref C::us,kw⟩)) :=
 ⟨r.hd,by have:=r.dp;rw[A7];left,by have:=r.un;rw[A8];left⟩
theorem cU.depth {k:Nat}{A:Around} (r:cU k A):A.depth<recursionLimit:=by have:=r.dp;left
theorem cU.units {k:Nat}{A:Around} (r:cU k A):A.units+64<cLine:=by have:=r.un;left
theorem cU.iX {k:Nat} (r:cU k A):A.units<cLine:=by have:=r.un;left
def Bp:TA:=fun _ H Q=>Q [] H
def wu (ta:TE) (tr:TA):TA:=fun σ H Q=>ta σ H fun x H1=>tr σ H1 fun xs H2=>Q (x::xs) H2
section
variable {X:Cx}{e:Expr}{es:List Expr}{te:TE}{t:TA}{pos:Pos}
theorem af:PA X [] Bp:=fun _ _ _ _ H Q I h=>Calls.spliced_nil ⟨[],H,I,.nil,h⟩
theorem IQ (ha:PE X e te) (hr:PA X es t) (hs:starEach (e::es) X.env=(false,eval e X.env)::starEach es X.env:=by rfl):PA X (e::es) (wu te t):=by intro pos Yp s σ H Q I h;rw[hs];show wpAny _ _ (spliced ((false,eval e X.env)::backTo pos (starEach es X.env))) _ _ s;refine rg (Â (ha Yp s σ H _ I h) fun u s1 ⟨x,H1,I1,r1,q1⟩=>?_);exact Â (hr pos Yp s1 σ H1 _ I1 q1) fun us s2 ⟨xs,H2,I2,r2,q2⟩=>⟨x::xs,H2,I2,.cons r1 r2,q2⟩
end
abbrev Sp:=List V->Hp->VK->XK->Prop
abbrev Ï:=List Env->Hp->Zg->XK->Zq
structure rz (P:Zh) (w:Zi) (K:Zf) (mg:Zk) (base:Heap) (A:Around) (outer:List Env) (s:Zg) (H:Hp):Prop where
 frames:A.frames=some outer
 mod:Mod K mg base
 bs:∀ b o,base.get? b=some o->s.heap.get? b=some o/\H b=none
 bsz:base.objs.size<=s.heap.objs.size
 oM:s.heap.FunFrames base outer
 frf:∀ b∈Ñ outer,H b=none
 hok:Î P w H s.heap
 bare:AllBare s.gens
def CE (outer:List Env) (P:Zh) (w:Zi) (H:Hp) (s:Zg) (Q:VK) (u:Value) (s':Zg):Prop :=
 ∃ v H',s'.os=s.os/\AllBare s'.gens/\Un (Ñ outer) [] H H' s.heap s'.heap/\Î P w H' s'.heap/\RelV v u/\Q v H'
def CR (CX:Ï) (outer:List Env) (P:Zh) (w:Zi) (H:Hp) (s:Zg) (Q:VK) (E:XK) (r:Result) (s':Zg):Prop :=
 match r with
 | .ok (.ret u)=>CE outer P w H s Q u s'
 | .ok _=>False
 | .error e=>CX outer H s E e s'
structure bF (P:Zh) (w:Zi) (K:Zf) (mg:Zk) (base:Heap) (CX:Ï) (k:Nat) (f:Addr) (fd:FuncData) (ps:Ze) (sp:Sp):Prop where
 len:∀ vs H Q E,sp vs H Q E->⇑vs=⇑ps
 run:∀ (A:Around) (outer:List Env) (s:Zg) (H:Hp) (args:Args) (us:Zc) (vs:List V) (Q:VK) (E:XK),cU k A->rz P w K mg base A outer s H->BindsTo s fd args (ps.zip us)->Vals vs us->sp vs H Q E →
  codeAny (model P w) A (.call (.ref f) args) (CR CX outer P w H s Q E) s
theorem bF.mono {P:Zh}{w:Zi}{K:Zf}{mg:Zk}{base:Heap}{CX:Ï}{j k:Nat}{f:Addr}{fd:FuncData}{ps:Ze}{sp:Sp} (F:bF P w K mg base CX j f fd ps sp) (h:j<=k) :
  bF P w K mg base CX k f fd ps sp:=⟨F.len,fun A outer s H args us vs Q E hr=>F.run A outer s H args us vs Q E (hr.mono h)⟩
theorem bF.imp {CX:Ï}{k:Nat}{f:Addr}{sp sp':Sp} (F:bF P w K mg base CX k f fd ps sp)
  (h:∀ vs H Q E,sp' vs H Q E->sp vs H Q E):bF P w K mg base CX k f fd ps sp' :=
 ⟨fun vs H Q E q=>F.len vs H Q E (h _ _ _ _ q),fun A outer s H args us vs Q E hr he hb hv hs=>F.run A outer s H args us vs Q E hr he hb hv (h _ _ _ _ hs)⟩
theorem rz.make {H:Hp} (e:rz P w K mg base A outer s H) (C:Addr) (us:Zc) (kw:List (Str×Value)) :
  rz P w K mg base (A.under (.builtin "type.__call__" ⟨.ref C::us,kw⟩)) outer s H:=⟨by first | exact e.frames | (simpa [Around.under,Code.envs,Code.isFrame,pushEnvs] using e.frames),e.mod,e.bs,e.bsz,e.oM,e.frf,e.hok,e.bare⟩
theorem rz.in1 {P:Zh}{w:Zi}{K:Zf}{mg:Zk}{base:Heap}{A:Around}{outer:List Env}{s:Zg}{H:Hp} (e:rz P w K mg base A outer s H) :
  rz P w K mg base A.in1 outer s H:=⟨e.frames,e.mod,e.bs,e.bsz,e.oM,e.frf,e.hok,e.bare⟩
section
variable {X:Cx}{Yp:Zp}{σ:St}{H:Hp}{s s':Zg}
theorem Inv.HX (I:Inv X Yp σ H s):rz X.prog X.w X.K X.mg X.base X.A X.stack s H :=
 ⟨I.ok.frames,I.ok.mod,I.bs,bM I.ok.bsz I.sz,I.stack,I.xN,I.hok,I.bare⟩
theorem Inv.after {Q:VK} (I:Inv X Yp σ H s) (h:CE X.stack X.prog X.w H s Q u s'):EP X Yp σ Q u s':=by obtain⟨v,H',os,bare,un,hok,r,q⟩:=h;obtain⟨hh,g,d,t,os'⟩:=s';obtain rfl:os'=s.os:=os;exact⟨v,H',I.call (h':=hh) (g':=g) (d':=d) (t':=t) (ch:=[]) un hok bare (fun b z=>absurd z (by simp)),r,q⟩
end
def Cs (sp:Sp) (dvs:List V) (E:St->XK) (t:TA):TE:=fun σ H Q=>t σ H fun vs H1=>sp (vs++dvs) H1 Q (E σ)
def JQ (C:Addr) (m:Str) (sp:Sp) (dvs:List V) (E:St->XK) (ta:TE) (t:TA):TE:=fun σ H Q=>ta σ H fun x H1=>∃ a dx fs,x=.ref a/\H1 a=some (.ins C dx fs)/\fs.lookup m=none ∧
 t σ H1 fun vs H2=>sp (x::(vs++dvs)) H2 Q (E σ)
def M4 (C:Addr) (sp:Sp) (dvs:List V) (E:St->XK) (t:TA):TE:=fun σ H Q=>t σ H fun vs H1=>∀ x dx,H1 x=none->H1 dx=none->dx≠x →
 sp (.ref x::(vs++dvs)) (upd (upd H1 dx (.own x)) x (.ins C dx [])) (fun v H2=>v=.non/\Q (.ref x) H2) (E σ)
def Binds (K:Zf) (fd:FuncData) (ps:Ze) (ds:Zc):Prop :=
 ∀ (s:Zg) (us:Zc),K.In s.heap->⇑(us++ds)=⇑ps->BindsTo s fd ⟨us,[]⟩ (ps.zip (us++ds))
theorem Binds.all (h:∀ us:Zc,⇑us=⇑ps->bindArgs fd ⟨us,[]⟩=pure (ps.zip us)):Binds K fd ps []:=fun s us _ hl=>by rw[dQ] at hl ⊢;exact .of_eq (h us hl)
def Passes (CX:Ï) (X:Cx) (E:St->XK):Prop:=∀ (Yp:Zp) (σ:St) (H:Hp) (s:Zg) (e:Value) (s':Zg),Inv X Yp σ H s->CX X.stack H s (E σ) e s'->X.xe e s'
section
variable {X:Cx}{CX:Ï}{k:Nat}{f C:Addr}{fd:FuncData}{ps:Ze}{sp:Sp}{dvs:List V}{ds:Zc}{E:St->XK}{x m:Str}{p pos apos:Pos}{e o:Expr}{es:List Expr}{ta:TE}{t:TA}
theorem AX {Yp:Zp}{σ:St}{H:Hp}{s:Zg}{Q:VK}{us:Zc}{vs:List V} (F:bF X.prog X.w X.K X.mg X.base CX k f fd ps sp) (hr:cU k X.A) (hb:Binds X.K fd ps ds) (hd:Vals dvs ds) (hx:Passes CX X E)
  (I:Inv X Yp σ H s) (r:Vals vs us) (h:sp (vs++dvs) H Q (E σ)):wpAny (model X.prog X.w) X.A (call (.ref f) us) (EP X Yp σ Q) X.xe s:=by
 have r2:Vals (vs++dvs) (us++ds):=r.append hd;have hl:⇑(us++ds)=⇑ps:=by rw[←⇑r2];exact F.len _ _ _ _ h
 refine wpAny_call (fO (F.run X.A X.stack s H ⟨us,[]⟩ (us++ds) (vs++dvs) Q (E σ) hr I.HX (hb s us I.Ô hl) r2 h) fun r s' hq=>?_);cases r with
 | error e=>exact hx Yp σ H s e s' I hq
 | ok fl =>
  cases fl with
  | ret u=>exact I.after hq
  | next=>exact False.elim hq
  | brk=>exact False.elim hq
  | cont=>exact False.elim hq
theorem IT (F:bF X.prog X.w X.K X.mg X.base CX k f fd ps sp) (hr:cU k X.A) (hg:Gl X x) (hm:X.mg x=some (.ref f)) (hk:PySem.W.keepIn X.K (.ref f)=true) (hb:Binds X.K fd ps ds) (hd:Vals dvs ds) (hx:Passes CX X E)
  (ha:PA X (e::es) t) (hdb:(x==("__debug__":Str))=false:=by decide) (he:starEach (e::es) X.env=(false,eval e X.env)::starEach es X.env:=by rfl) (hpl:(backTo pos (starEach es X.env)).any (·.1)=false:=by rfl) :
  PE X (.Call (.Name x p) (e::es) [] pos) (Cs sp dvs E t):=by
 intro Yp s σ H Q I h;refine jM (ql I hg hm ?_ hdb);refine rh (h₀:=X.base) I.ok.mod.kin hk (Â (ha pos Yp s σ H _ I h) fun us s1 ⟨vs,H1,I1,r,q⟩=>⟨I1.Ô,?_⟩) he hpl;exact AX F hr hb hd hx I1 r q
theorem IZ {pl:Sem Bool} (he:PE X o ta) (c:Ý X.K C) (hm:Meth X.K C m f) (F:bF X.prog X.w X.K X.mg X.base CX k f fd ps sp) (hr:cU k X.A) (hb:Binds X.K fd ps ds) (hd:Vals dvs ds) (hx:Passes CX X E) (ha:PA X (e::es) t)
  (hst:starEach (e::es) X.env=(false,eval e X.env)::starEach es X.env:=by rfl) (hpl:(backTo pos (starEach es X.env)).any (·.1)=false:=by rfl)
  (ht:eval (.Call (.Attribute o m apos) (e::es) [] pos) X.env=(do
   let ov ←eval o X.env
   standAt apos.atName
   let (f,first) ←holding [ov] (getMethod ov m pl)
   callWith pos f first (backTo pos (starEach (e::es) X.env)) (backToKw pos (keywordEach [] X.env))):=by rfl) :
  PE X (.Call (.Attribute o m apos) (e::es) [] pos) (JQ C m sp dvs E ta t):=by
 intro Yp s σ H Q I h;refine PySem.W.methodCall_KW (pl:=pl) (Â (he Yp s σ H _ I h) fun u s1 hz=>?_) ht;obtain⟨x,H1,I1,rx,a,dx,fs,ex,ea,l,q⟩:=hz;subst ex;obtain rfl:u=Value.ref a:=rx;refine tV I1 ea c hm l ?_;refine rh (first:=[.ref a]) (h₀:=X.base) I.ok.mod.kin hm.kp (Â (ha pos Yp s1 σ H1 _ I1 q) fun us s2 ⟨vs,H2,I2,r,q2⟩=>⟨I2.Ô,?_⟩) hst hpl;exact AX (us:=.ref a::us) (vs:=.ref a::vs) F hr hb hd hx I2 (.cons rfl r) q2
theorem Gj {pl:Sem Bool} (he:PE X o ta) (c:Ý X.K C) (hm:Meth X.K C m f) (F:bF X.prog X.w X.K X.mg X.base CX k f fd ps sp) (hr:cU k X.A) (hb:Binds X.K fd ps ds) (hd:Vals dvs ds) (hx:Passes CX X E)
  (ht:eval (.Call (.Attribute o m apos) [] [] pos) X.env=(do
   let ov ←eval o X.env
   standAt apos.atName
   let (f,first) ←holding [ov] (getMethod ov m pl)
   callWith pos f first (backTo pos (starEach [] X.env)) (backToKw pos (keywordEach [] X.env))):=by rfl) :
  PE X (.Call (.Attribute o m apos) [] [] pos) (JQ C m sp dvs E ta Bp):=by
 intro Yp s σ H Q I h;refine PySem.W.methodCall_KW (pl:=pl) (Â (he Yp s σ H _ I h) fun u s1 hz=>?_) ht;obtain⟨x,H1,I1,rx,a,dx,fs,ex,ea,l,q⟩:=hz;subst ex;obtain rfl:u=Value.ref a:=rx;refine tV I1 ea c hm l ?_;exact PySem.W.callWith_K0 (first:=[.ref a]) I1.Ô hm.kp (AX (us:=[.ref a]) (vs:=[.ref a]) F hr hb hd hx I1 (.cons rfl .nil) q)
structure Mk (K:Zf) (C f:Addr):Prop where
 makes:PySem.W.makesIn K C=true
 init:PySem.W.findIn K (.ref C) "__init__"=some (some (.ref f))
 fn:PySem.W.isFn K (.ref f)=true
 kp:PySem.W.keepIn K (.ref C)=true
theorem GH {Yp:Zp}{σ:St}{H:Hp}{s:Zg}{Q:VK}{us:Zc}{vs:List V} (M:Mk X.K C f) (F:bF X.prog X.w X.K X.mg X.base CX k f fd ps sp) (hr:cU (k+1) X.A) (hb:Binds X.K fd ps ds) (hd:Vals dvs ds)
  (hx:Passes CX X E) (I:Inv X Yp σ H s) (r:Vals vs us)
  (h:∀ x dx,H x=none->H dx=none->dx≠x->sp (.ref x::(vs++dvs)) (upd (upd H dx (.own x)) x (.ins C dx [])) (fun v H2=>v=.non/\Q (.ref x) H2) (E σ)) :
  wpAny (model X.prog X.w) X.A (call (.ref C) us) (EP X Yp σ Q) X.xe s:=by
 have hq:=h (s.heap.objs.size+1) s.heap.objs.size (I.hok.fresh (ic _)) (I.hok.fresh (aw _)) (bw (lF _));have I2:=Inv.made (C:=C) I;have r2:Vals (V.ref (s.heap.objs.size+1)::(vs++dvs)) (Value.ref (s.heap.objs.size+1)::(us++ds)):=.cons rfl (r.append hd);have hl:⇑(Value.ref (s.heap.objs.size+1)::us++ds)=⇑ps:=by have e:=⇑r2;rw[F.len _ _ _ _ hq] at e;exact e.symm
 refine wpAny_call (FI (f:=f) I.Ô M.makes M.init (ie.mp M.fn) (fO (F.run _ X.stack _ _ ⟨Value.ref (s.heap.objs.size+1)::us,[]⟩ (Value.ref (s.heap.objs.size+1)::(us++ds)) _ _ (E σ) (hr.make C us [])
  (I2.HX.make C us []) (hb _ (Value.ref (s.heap.objs.size+1)::us) I2.Ô hl) r2 hq) fun r s' hq'=>?_))
 cases r with
 | error e=>exact hx Yp σ _ _ e s' I2 hq'
 | ok fl =>
  cases fl with
  | ret u =>obtain⟨v,H',I3,rv,ev,q3⟩:=I2.after hq';subst ev;exact⟨rv,⟨V.ref (s.heap.objs.size+1),H',I3,rfl,q3⟩⟩
  | next=>exact False.elim hq'
  | brk=>exact False.elim hq'
  | cont=>exact False.elim hq'
theorem IY (M:Mk X.K C f) (F:bF X.prog X.w X.K X.mg X.base CX k f fd ps sp) (hr:cU (k+1) X.A) (hg:Gl X x) (hm:X.mg x=some (.ref C)) (hb:Binds X.K fd ps ds) (hd:Vals dvs ds) (hx:Passes CX X E)
  (ha:PA X (e::es) t) (hdb:(x==("__debug__":Str))=false:=by decide) (he:starEach (e::es) X.env=(false,eval e X.env)::starEach es X.env:=by rfl) (hpl:(backTo pos (starEach es X.env)).any (·.1)=false:=by rfl) :
  PE X (.Call (.Name x p) (e::es) [] pos) (M4 C sp dvs E t):=by
 intro Yp s σ H Q I h;refine jM (ql I hg hm ?_ hdb);refine rh (h₀:=X.base) I.ok.mod.kin M.kp (Â (ha pos Yp s σ H _ I h) fun us s1 ⟨vs,H1,I1,r,q⟩=>⟨I1.Ô,?_⟩) he hpl;exact GH M F hr hb hd hx I1 r q
end
section
variable {X:Cx}{CX:Ï}{k:Nat}{f C:Addr}{fd:FuncData}{ps ks:Ze}{sp:Sp}{E:St->XK}{x m:Str}{p pos apos kpos:Pos}{e o:Expr}{es:List Expr}{kws:List Keyword}{te ta:TE}{t tk:TA}{nm:Option Str}
variable {g:Zc->Zc->Zc}{gV:List V->List V->List V}
end
structure aJ (N P:Ze) (sc:Scope):Prop where
 kind:sc.kind=.function
 co:sc.isCoroutine=false
 gen:sc.isGenerator=false
 nd:N.Nodup
 pre:N.take ⇑P=P
 par:∀ x∈P,sc.names.lookup x=some .local∨sc.names.lookup x=some .cell
 nofree:∀ y∈sc.names,y.2≠.free
theorem vD {kindOf:Str->Option NameKind}{x:Str}:∀ {binds:List (Str×Value)}{m:Zk},(∀ v,(x,v)∉binds)->bindL kindOf binds m x=m x
 | [],_,_=>rfl
 | (n,v)::r,m,h=>by
  unfold bindL;rw[vD fun w hw=>h w (b8 _ hw)];split
  ·have:x≠n:=by rintro rfl;exact h v bu
   simp [this]
  ·rfl
theorem vB {kindOf:Str->Option NameKind}{x:Str}:∀ {binds:List (Str×Value)}{m:Zk},(∀ v,(x,v)∉binds)->bindC kindOf binds m x=m x
 | [],_,_=>rfl
 | (n,v)::r,m,h=>by
  unfold bindC;rw[vB fun w hw=>h w (b8 _ hw)];split
  ·rfl
  ·have:x≠n:=by rintro rfl;exact h v bu
   simp [this]
theorem vC {kindOf:Str->Option NameKind}{x:Str}{v:Value}:∀ {P:Ze}{vs:Zc}{i:Nat}{m:Zk},P.Nodup->P[i]?=some x->vs[i]?=some v->kindOf x=some .local →
  bindL kindOf (P.zip vs) m x=some v
 | [],_,_,_,_,h,_,_=>by simp at h
 | _::_,[],_,_,_,_,h,_=>by simp at h
 | p::P,w::vs,0,m,nd,h1,h2,hk=>by simp at h1 h2;subst h1;subst h2;show bindL kindOf ((p,w)::P.zip vs) m p=_;unfold bindL;rw[vD fun v hv=>(dD.mp nd).1 (jG hv).1,aq hk];simp
 | p::P,w::vs,i+1,m,nd,h1,h2,hk=>by show bindL kindOf ((p,w)::P.zip vs) m x=_;unfold bindL;exact vC (i:=i) (dD.mp nd).2 (by simpa using h1) (by simpa using h2) hk
theorem vA {kindOf:Str->Option NameKind}{x:Str}{v:Value}:∀ {P:Ze}{vs:Zc}{i:Nat}{m:Zk},P.Nodup->P[i]?=some x->vs[i]?=some v->kindOf x≠some .local →
  bindC kindOf (P.zip vs) m x=some v
 | [],_,_,_,_,h,_,_=>by simp at h
 | _::_,[],_,_,_,_,h,_=>by simp at h
 | p::P,w::vs,0,m,nd,h1,h2,hk=>by simp at h1 h2;subst h1;subst h2;show bindC kindOf ((p,w)::P.zip vs) m p=_;unfold bindC;rw[vB fun v hv=>(dD.mp nd).1 (jG hv).1,ai hk];simp
 | p::P,w::vs,i+1,m,nd,h1,h2,hk=>by show bindC kindOf ((p,w)::P.zip vs) m x=_;unfold bindC;exact vA (i:=i) (dD.mp nd).2 (by simpa using h1) (by simpa using h2) hk
noncomputable def start (N:Ze) (vs:List V):St:=vs.map some++List.replicate (⇑N-⇑vs) none
noncomputable def oH (CX:Ï) (P:Zh) (w:Zi) (K:Zf) (mg:Zk) (base:Heap) (N:Ze) (qual:Str) (scope:Scope) (f:Addr) (cd:Value) (A:Around) (outer:List Env) (s:Zg) (H:Hp) (E:XK):Cx where
 prog:=P
 w:=w
 K:=K
 mg:=mg
 base:=base
 A:=A.deeper (envOfC qual scope s.heap.objs.size f cd)
 N:=N
 s₀:=s
 H₀:=H
 env:=envOfC qual scope s.heap.objs.size f cd
 outer:=outer
 stack:=envOfC qual scope s.heap.objs.size f cd::outer
 ex:=[]
 calm:=true
 fn:=fun _=>true
 pn:=[]
 xe:=fun e s'=>wpAny (model P w) (A.deeper (envOfC qual scope s.heap.objs.size f cd)) (leaving (envOfC qual scope s.heap.objs.size f cd) e) (fun _ s''=>CX outer H s E e s'') (fun e' s''=>CX outer H s E e' s'') s'
theorem ya {sc:Scope}{n:Nat} (h:sc.names.lookup x=some .cell):∃ c,(cellsFrom n sc.names []).lookup x=some c:=by have q:=PySem.W.cellsFrom_some sc.names n [] (.inl h);exact Option.isSome_iff_exists.mp q
theorem vQ {CX:Ï}{P:Zh}{w:Zi}{K:Zf}{mg:Zk}{base:Heap}{N ps:Ze}{qual:Str}{scope:Scope}{f:Addr}{cd:Value}{A:Around}{outer:List Env}{s s1:Zg}{H:Hp}{E:XK}{us:Zc}{vs:List V}
  (S:aJ N ps scope) (hd:A.handled=none) (e0:rz P w K mg base A outer s H) (hl:⇑vs=⇑ps) (r:Vals vs us)
  (x:InCallC s s.heap.objs.size (bindL (envOfC qual scope s.heap.objs.size f cd).kindOf (ps.zip us) fun _=>none) (cellsFrom (s.heap.objs.size+1) scope.names []) (bindC (envOfC qual scope s.heap.objs.size f cd).kindOf (ps.zip us) fun _=>none) s1) :
  Inv (oH CX P w K mg base N qual scope f cd A outer s H E) [] (start N vs) H s1:=by
 have hpl:⇑ps<=⇑N:=by have:=bQ List.length S.pre;rw[cP] at this;left
 obtain⟨h1,tk,rfl,hk⟩:=x.done;have noA:∀ b:Addr,b∉(oH CX P w K mg base N qual scope f cd A outer s H E).ex:=fun b z=>absurd (show b∈([]:List Addr) from z) (by simp);refine⟨⟨e0.mod,S.kind,rfl,rfl,aw _,fun y z c h1 h2=>?_,fun y hy=>?_,fun y c _ h=>?_,fun _=>hd,Around.frames_deeper e0.frames,.inr ⟨rfl,rfl⟩,fun b z=>absurd z (noA b),e0.bs,e0.bsz,fun b _ _=>noA b,fun b z=>absurd z (noA b),e0.oM,e0.frf⟩,
  rfl,e0.bare,Un.kept hk,⟨_,x.toInCall.ns,fun i y v h1 h2 h3=>?_⟩,fun y c h=>⟨_,x.cell y c h⟩,e0.hok.fresh (aw _),fun y c h=>?_,fun p hp=>absurd (show p∈([]:Zp) from hp) (by simp),e0.hok.kept hk,?_⟩
 ·exact name_of_addr x.apart (jJ h1) (jJ h2)
 ·have hy:scope.names.lookup y=some .cell∨scope.names.lookup y=some .free:=hy;rcases hy with hy | hy
  ·exact ya hy
  ·exact absurd rfl (S.nofree _ (jJ hy))
 ·exact aT (x.above y c (jJ h))
 ·have hi:i<⇑vs:=by
   unfold start at h2
   by_cases hi:i<⇑vs
   ·exact hi
   ·rw[gg (by simpa using hi)] at h2;rw[List.getElem?_replicate] at h2;split at h2<;>cases h2
  have ha:vs[i]?=some v:=by
   unfold start at h2;rw[fH (by simpa using hi),aX] at h2;cases e:vs[i]? with
   | none=>rw[e] at h2;cases h2
   | some a=>rw[e] at h2;cases h2;rfl
  obtain⟨u,hu,rv⟩:=r.get ha;have hp:ps[i]?=some y:=by rw[←S.pre,List.getElem?_take_of_lt ⋯];exact h1
  have ndP:ps.Nodup:=by rw[←S.pre];exact S.nd.sublist (List.take_sublist _ _)
  refine⟨u,rv,?_⟩;rcases S.par y (bT hp) with k | k
  ·exact .inl ⟨k,vC ndP hp hu k⟩
  ·obtain⟨c,e⟩:=ya (n:=s.heap.objs.size+1) k;refine .inr ⟨.inl k,c,e,?_⟩;have q:=x.cell y c e;rw[vA ndP hp hu (by show scope.names.lookup y≠_;rw[k];decide)] at q;exact q
 ·exact e0.hok.fresh (aT (x.above y c (jJ h)))
 ·unfold start;show _=⇑N;rw[aE,ak,List.length_replicate];left
theorem yw {CX:Ï}{P:Zh}{w:Zi}{K:Zf}{mg:Zk}{base:Heap}{k:Nat}{f:Addr}{name qual:Str}{params:Arguments}{body:List Stmt}{scope:Scope}{dV kV doc pm cdv ct oc:Value}{an od:Option Addr}
  {osl:Array (Option Value)}{N ps:Ze}{sp:Sp} (lk:K.lookup f=some ⟨oc,od,.func (PySem.W.fnOf name qual params body scope dV kV doc pm an cdv ct),osl⟩) (hcd:PySem.W.codeIn K cdv qual=true) (S:aJ N ps scope)
  (len:∀ vs H Q E,sp vs H Q E->⇑vs=⇑ps)
  (hbody:∀ (A:Around) (outer:List Env) (s:Zg) (H:Hp) (vs:List V) (Q:VK) (E:XK),cU k (A.deeper (envOfC qual scope s.heap.objs.size f cdv))->sp vs H Q E →
   ∃ t,Ù (oH CX P w K mg base N qual scope f cdv A outer s H E) body t/\t { nx:=fun _ H'=>Q .non H',rt:=Q } (start N vs) H) :
  bF P w K mg base CX (k+1) f (PySem.W.fnOf name qual params body scope dV kV doc pm an cdv ct) ps sp:=by
 refine⟨len,fun A outer s H args us vs Q E hr e0 hb r hsp=>?_⟩;have hl:=len _ _ _ _ hsp;have KX:K.In s.heap:=e0.mod.kin.keeps fun b o e=>(e0.bs b o e).1;have lim:s.heap.NoLimit:=e0.mod.nolimit.keeps fun b o e=>(e0.bs b o e).1;have hkind:∀ y∈ps.zip us,scope.names.lookup y.1=some .local∨(scope.names.lookup y.1=some .cell/\((cellsFrom (s.heap.objs.size+1) scope.names []).lookup y.1).isSome=true):=fun ⟨n,v⟩ hy=>by
  rcases S.par n (jG hy).1 with q | q
  ·exact .inl q
  ·exact .inr ⟨q,PySem.W.cellsFrom_some _ _ _ (.inl q)⟩
 refine codeAny_call_function hr.depth (KX _ _ lk) rfl S.co S.gen rfl (PySem.W.codeRec_of KX hcd) (hb _ _ _ _ ?_);refine wpAny_newFunctionEnv_cells S.kind hkind fun env he s1 x=>?_;subst he;refine⟨lim.keeps x.toInCall.keep,codeAny_func ?_⟩;obtain⟨t,ht,hq⟩:=hbody A outer s H vs Q E (hr.deeper _) hsp;have I:Inv (oH CX P w K mg base N qual scope f cdv A outer s H E) [] (start N vs) H s1:=vQ S hr.hd e0 hl r x;refine cu (ht [] s1 (start N vs) H _ I hq) (fun fl s' hs=>?_) fun e s' hs=>hs;have fin:∀ {σ':St}{H':Hp}{v:V}{u:Value},Inv (oH CX P w K mg base N qual scope f cdv A outer s H E) [] σ' H' s'->RelV v u->Q v H'->CE outer P w H s Q u s' :=
  fun {σ' H' v u} J rv q=>⟨v,H',J.os,J.bare,J.base,J.hok,rv,q⟩
 cases fl with
 | ret u =>obtain⟨v,σ',H',J,rv,q⟩:=hs;exact fin J rv q
 | next =>obtain⟨σ',H',J,q⟩:=hs;exact fin (v:=V.non) (u:=Value.none) J rfl q
 | brk =>obtain⟨_,_,_,q⟩:=hs;exact False.elim q
 | cont =>obtain⟨_,_,_,q⟩:=hs;exact False.elim q
end
section
section
variable {X:Cx}{x:Str}{p pos:Pos}{e:Expr}{es:List Expr}{t:TA}{id T:String}{r:List V->Hp->VK->Prop}
def Ā (r:List V->Hp->VK->Prop) (t:TA):TE:=fun σ H Q=>t σ H fun vs H1=>r vs H1 Q
theorem Gb (hc:dy X (.builtin id) r) (hg:Gl X x) (hm:X.mg x=none) (hv:bootBuiltins x=some (.builtin id)) (ha:PA X (e::es) t) (hn:x≠"__name__":=by decide) (hdb:(x==("__debug__":Str))=false:=by decide)
  (he:starEach (e::es) X.env=(false,eval e X.env)::starEach es X.env:=by rfl) (hpl:(backTo pos (starEach es X.env)).any (·.1)=false:=by rfl):PE X (.Call (.Name x p) (e::es) [] pos) (Ā r t):=by
 intro Yp s σ H Q I h;refine jM (mG I hg hm hv ?_ hn hdb);exact PyProof.Rows.callWith_builtin1 (Â (ha pos Yp s σ H _ I h) fun us s1 ⟨vs,H1,I1,r1,q1⟩=>hc Yp s1 σ H1 vs us Q I1 r1 q1) he hpl
theorem Ea (hc:dy X (.type T) r) (hg:Gl X x) (hm:X.mg x=none) (hv:bootBuiltins x=some (.type T)) (ha:PA X (e::es) t) (hn:x≠"__name__":=by decide) (hdb:(x==("__debug__":Str))=false:=by decide)
  (he:starEach (e::es) X.env=(false,eval e X.env)::starEach es X.env:=by rfl) (hpl:(backTo pos (starEach es X.env)).any (·.1)=false:=by rfl):PE X (.Call (.Name x p) (e::es) [] pos) (Ā r t):=by
 intro Yp s σ H Q I h;refine jM (mG I hg hm hv ?_ hn hdb);exact lH (Â (ha pos Yp s σ H _ I h) fun us s1 ⟨vs,H1,I1,r1,q1⟩=>hc Yp s1 σ H1 vs us Q I1 r1 q1) he hpl
end
end
end L2
namespace HT
open PySem PyProof.Rows
section
open PySem.SeqAt
open PySem.AutoSeq1 (wpAny_loadPart')
open PySem.MeetsSeq PySem.MeetsSeq2 PySem.MeetsSeq3
end
section
variable {prog:Zh}{w:Zi}{A:Around}{E:Zq}{s:Zg}
noncomputable def Ò (n d:Nat):Option Int->Nat
 | none=>d
 | some v=>if v<0 then (v+(n:Int)).toNat else min v.toNat n
theorem qB (n d:Nat):Ò n d none=d:=rfl
theorem jd (n d k:Nat):Ò n d (some (k:Int))=min k n:=by show (if (k:Int)<0 then ((k:Int)+(n:Int)).toNat else min (k:Int).toNat n)=min k n;rw[ai ⋯,cC]
theorem GK (n d:Nat) (hd:d<=n) (o:Option Int):Ò n d o<=n:=by
 cases o with
 | none=>exact hd
 | some v =>
  show (if v<0 then (v+(n:Int)).toNat else min v.toNat n)<=n
  by_cases hv:v<0
  ·rw[aq hv];left
  ·rw[ai hv];exact Nat.min_le_right _ _
end
end HT
namespace L2
open PySem PySem.Spec PyProof.Rows
variable {A:Around}{H:Hp}{H':Hp}{P:Zh}{Q:Zq}{X:Cx}{a:Addr}{h':Heap}{i:Int}{j:Nat}{kvs:List (List Key×V)}{o:Option V}{Yp:Zp}{s:Zg}{t':Nat}{u:Value}{us:Zc}{w:Zi}{x:V}{xs:List (List Key×Addr×Value)}{y:V}{α:Type}{σ:St}
section
abbrev TO:=St->Hp->(Option Int->Hp->Prop)->Prop
def PO (X:Cx) (e:Option Expr) (t:TO):Prop :=
 ∀ (Yp:Zp) (s:Zg) (σ:St) (H:Hp) (Q:Option Int->Hp->Prop),Inv X Yp σ H s->t σ H Q →
  wpAny (model X.prog X.w) X.A (evalPart e X.env) (fun u s'=>∃ o H',Inv X Yp σ H' s'/\IsPart u o/\Q o H') X.xe s
def Cv:TO:=fun _ H Q=>Q none H
def JS (t:TE):TO:=fun σ H Q=>t σ H fun x H1=>∃ i,x=.int i/\Q (some i) H1
theorem intsAre_of {ns:Zb}:∀ {us:Zc},Vals (ns.map V.int) us->IntsAre us ns:=by
 induction ns with
 | nil=>intro us r;rw[List.map_nil] at r;cases r;exact .nil
 | cons n ns ih =>
  intro us r;rw[bI] at r;cases r with
  | cons r1 r2 =>obtain⟨t,e⟩:=r1;subst e;exact .cons n t (ih r2)
section
variable {X:Cx}{e:Expr}{te:TE}{lo hi:Option Expr}{tl th:TO}{pos p2:Pos}
theorem fk:PO X none Cv:=by intro Yp s σ H Q I h;rw[evalPart_none];exact au ⟨none,H,I,.none,h⟩
theorem cM (h:PE X e te):PO X (some e) (JS te):=by intro Yp s σ H Q I hw;rw[evalPart_some];refine Â (h Yp s σ H _ I hw) fun u s1 ⟨x,H1,I1,r1,q1⟩=>?_;obtain⟨i,rfl,q⟩:=q1;obtain⟨t,rfl⟩:=r1;exact⟨some i,H1,I1,.int i t,q⟩
def Ă (X:Cx) (r:V->Option Int->Option Int->Hp->VK->Prop):Prop :=
 ∀ (Yp:Zp) (s:Zg) (σ:St) (H:Hp) (x:V) (v vl vu:Value) (lo hi:Option Int) (sl:Addr) (Q:VK),Inv X Yp σ H s->RelV x v->s.heap.IsSliceOf sl vl vu .none->IsPart vl lo->IsPart vu hi->r x lo hi H Q →
  ∃ T id,typeLookup (.type T) "__getitem__"=pure (some (.builtin id))/\s.TypeIs v T/\wpAny (model X.prog X.w) X.A (getItem v (.ref sl)) (EP X Yp σ Q) X.xe s
def tSl (r:V->Option Int->Option Int->Hp->VK->Prop) (te:TE) (tl th:TO):TE:=fun σ H Q=>te σ H fun x H1=>tl σ H1 fun l H2=>th σ H2 fun u H3=>r x l u H3 Q
theorem cN {r:V->Option Int->Option Int->Hp->VK->Prop} (hr:Ă X r) (he:PE X e te) (hl:PO X lo tl) (hu:PO X hi th):PE X (.Subscript e (.Slice lo hi none p2) pos) (tSl r te tl th):=by intro Yp s σ H Q I h;refine Subscript_ (Â (he Yp s σ H _ I h) fun v s1 ⟨x,H1,I1,r1,q1⟩=>?_);refine wpAny_Slice (Â (hl Yp s1 σ H1 _ I1 q1) fun vl s2 ⟨l,H2,I2,pl,q2⟩=>Â (hu Yp s2 σ H2 _ I2 q2) fun vu s3 ⟨u,H3,I3,pu,q3⟩=>?_);rw[evalPart_none];refine au ?_;have I4:Inv X Yp σ H3 { s3 with heap:=s3.heap.push { cls:=.type "slice",data:=.fields #[vl,vu,.none] } }:=I3.kept (t':=s3.toks) fun b ob q=>aL _ q;obtain⟨T,id,hT,ht,hg⟩:=hr Yp { s3 with heap:=s3.heap.push { cls:=.type "slice",data:=.fields #[vl,vu,.none] } } σ H3 x v vl vu l u s3.heap.objs.size Q I4 r1 (Heap.IsSliceOf.new ..) pl pu q3;show wpAny (model X.prog X.w) X.A (subscriptTail e (.Slice lo hi none p2) v (.ref s3.heap.objs.size)) (EP X Yp σ Q) X.xe { s3 with heap:=s3.heap.push { cls:=.type "slice",data:=.fields #[vl,vu,.none] } };exact tail_any (ops:=[.ref s3.heap.objs.size,v]) ht hT hg (by with_unfolding_all rfl)
noncomputable def m7 (xs:List V) (lo hi:Option Int):List V:=(xs.drop (HT.Ò ⇑xs 0 lo)).take (HT.Ò ⇑xs ⇑xs hi-HT.Ò ⇑xs 0 lo)
theorem yd (xs:List V) (lo hi:Option Int):⇑(m7 xs lo hi)<=⇑xs:=by unfold m7;rw[cP,cX];left
end
end
section
noncomputable def ê (n:Nat) (i:Int):Option Nat:=if 0<=i then (if i<n then some i.toNat else none) else if -(n:Int)<=i then some (i+n).toNat else none
noncomputable def Õ {α:Type} (xs:List α) (i:Int):Option α:=(ê ⇑xs i).bind fun j=>xs[j]?
theorem BS {n:Nat} (h:ê n i=some j):seqIndex? i n=some j/\j<n/\-(n:Int)<=i/\i<n:=by
 unfold ê at h
 by_cases h0:0<=i
 ·rw[aq h0] at h
  by_cases h1:i<n
  ·rw[aq h1] at h;have e:i.toNat=j:=Option.some.inj h;exact⟨by rw[seqIndex_of h0 h1,e],⋯,⋯,h1⟩
  ·rw[ai h1] at h;cases h
 ·rw[ai h0] at h
  by_cases h1:-(n:Int)<=i
  ·rw[aq h1] at h;have e:(i+n).toNat=j:=Option.some.inj h;exact⟨by rw[seqIndex_neg ⋯ h1,e],⋯,h1,⋯⟩
  ·rw[ai h1] at h;cases h
theorem wI {xs:List α}{v:α} (h:Õ xs i=some v):∃ j,seqIndex? i ⇑xs=some j/\xs[j]?=some v/\j<⇑xs/\-(⇑xs:Int)<=i/\i<⇑xs:=by
 unfold Õ at h;cases e:ê ⇑xs i with
 | none=>rw[e] at h;cases h
 | some j =>rw[e] at h;obtain⟨h1,h2,h3,h4⟩:=BS e;exact⟨j,h1,h,h2,h3,h4⟩
theorem bb {xs:List α}{v:α} (h:xs[j]?=some v):Õ xs (j:Int)=some v:=by
 have hj:j<⇑xs:=(bL.mp h).1;have e:ê ⇑xs (j:Int)=some j:=by unfold ê;rw[aq ⋯,aq ⋯];simp
 unfold Õ;rw[e];exact h
def Ho (b:Expr):Prop:=∀ o i,subscripted b false o i=operate [o,i] (getItem o i)
def û (X:Cx) (r:R2):Prop :=
 ∀ (value slice:Expr) (Yp:Zp) (s:Zg) (σ:St) (H:Hp) (x y:V) (v u:Value) (Q:VK),Inv X Yp σ H s->RelV x v->RelV y u->r x y H Q →
  subscripted slice false v u=operate [v,u] (getItem v u)->wpAny (model X.prog X.w) X.A (subscriptTail value slice v u) (EP X Yp σ Q) X.xe s
def Đ (X:Cx) (id:String) (r:V->List V->Hp->VK->Prop):Prop :=
 ∀ (Yp:Zp) (s:Zg) (σ:St) (H:Hp) (x:V) (xs:List V) (v:Value) (us:Zc) (Q:VK),Inv X Yp σ H s->RelV x v->Vals xs us->r x xs H Q →
  wpAny (model X.prog X.w) X.A (call (.builtin id) (v::us)) (EP X Yp σ Q) X.xe s
section
variable {X:Cx}{a b:Expr}{ta tb:TE}{pos:Pos}
theorem bg {r:R2} (hr:û X r) (ha:PE X a ta) (hb:PE X b tb) (hs:Ho b):PE X (.Subscript a b pos) (ö r ta tb):=by intro Yp s σ H Q I h;exact Subscript_ (Kq ha hb I h fun v u s2 x y H2 I2 rx ry q=>hr a b Yp s2 σ H2 x y v u Q I2 rx ry q (hs _ _))
def Ni (K:Zf):R2:=fun x y H Q=>∃ p xs i v,x=.ref p/\y=.int i/\Ã K H p xs/\Õ xs i=some v/\Q v H
def Nl (K:Zf):R2:=fun x y H Q=>∃ p xs i v,x=.ref p/\y=.int i/\Ó K H p xs/\Õ xs i=some v/\Q v H
def Nj:R2:=fun x y H Q=>∃ z i c,x=.str z/\y=.int i/\⇑z<=sizeLine/\Õ z.cps.toList i=some c/\Q (.str ⟨#[c]⟩) H
theorem Iu:û X (Ni X.K):=by
 intro value slice Yp s σ H x y v u Q I rx ry h hs;obtain⟨p,xs,i,z,rfl,rfl,hq,he,q⟩:=h;cases rx;obtain⟨t,rfl⟩:=ry;obtain⟨its,r,pl,hz⟩:=I.list hq;obtain⟨j,h1,h2,h3,h4,h5⟩:=wI he;obtain⟨w,ew,rw'⟩:=r.get h2;have hl:=⇑r;have hn:=rH;have fin:EP X Yp σ Q w s:=⟨z,H,I,rw',q⟩
 by_cases h0:0<=i
 ·have hj:i.toNat=j:=by
   rw[seqIndex_of h0 h5] at h1;exact Option.some.inj h1
  exact item_listR pl.isList h0 ⋯ (by rw[hj];simpa using ew) fin hs
 ·have hj:(i+(its.toArray.size:Int)).toNat=j:=by
   rw[seqIndex_neg ⋯ h4] at h1;rw[bc,←hl];exact Option.some.inj h1
  exact subscriptTail_builtinR (x:=w) pl.isList.typeIs slot_list_getitem.lookup
   (wpAny_getItem_list_neg (Q:=fun r s'=>r=w/\EP X Yp σ Q r s') pl.isList ⋯ (by rw[bc]<;>left) ⋯ (by rw[hj];simpa using ew) ⟨rfl,fin⟩) hs
theorem K2:û X (Nl X.K):=by
 intro value slice Yp s σ H x y v u Q I rx ry h hs;obtain⟨p,xs,i,z,rfl,rfl,hq,he,q⟩:=h;cases rx;obtain⟨t,rfl⟩:=ry;obtain⟨its,r,pl,hz⟩:=I.tuple hq;obtain⟨j,h1,h2,h3,h4,h5⟩:=wI he;obtain⟨w,ew,rw'⟩:=r.get h2;have hl:=⇑r;have hn:=rH;have fin:EP X Yp σ Q w s:=⟨z,H,I,rw',q⟩;exact subscriptTail_builtinR (x:=w) pl.typeIs slot_tuple_getitem.lookup
  (getItem_tuple (j:=j) (Q:=fun r s'=>r=w/\EP X Yp σ Q r s') pl ⋯ ⋯ (by rw[bc,←hl];exact h1) (by simpa using ew) ⟨rfl,fin⟩) hs
theorem K1:û X Nj:=by
 intro value slice Yp s σ H x y v u Q I rx ry h hs;obtain⟨z,i,c,rfl,rfl,hz,he,q⟩:=h;obtain⟨t,rfl⟩:=rx;obtain⟨t',rfl⟩:=ry;obtain⟨j,h1,h2,h3,h4,h5⟩:=wI he;have hl:⇑z.cps.toList=⇑z:=by simp [Str.length]
 rw[hl] at h1 h4 h5;have hn:=rH;exact tail_any (typeIs_str s z t) slot_str_getitem.lookup (getItem_str (c:=c) (by have e1:decide (i < -(2^63:Int))=false:=aF ⋯;have e2:decide (i≥2^63)=false:=aF ⋯;rw[e1,e2,Bool.or_false]) (by rw[h1];simpa using h2) ⟨.str ⟨#[c]⟩,H,I.tok _,⟨_,rfl⟩,q⟩) hs
theorem A9 (its:Zc) (n j:Nat) (u:Value):Obj.mapSeq (·.setIfInBounds j u) { cls:=.type "list",data:=.seq its.toArray n }={ cls:=.type "list",data:=.seq (its.set j u).toArray n }:=by simp [Obj.mapSeq]
theorem Inv.lst {Yp:Zp}{σ:St}{H:Hp}{s:Zg}{p:Addr}{xs:List V} (I:Inv X Yp σ H s) (h:H p=some (.lst xs)) :
  ∃ (its:Zc) (n:Nat),Vals xs its/\s.heap.get? p=some { cls:=.type "list",data:=.seq its.toArray n }/\⇑xs<=sizeLine:=by
 obtain⟨z,its,n,r,e⟩:=I.hok p _ h;exact⟨its,n,r,e,z⟩
theorem Inv.KH {p:Addr}{xs ys:List V}{its its':Zc}{n n':Nat}{f:Obj->Obj} (I:Inv X Yp σ H s) (h:H p=some (.lst xs))
  (ho:s.heap.get? p=some { cls:=.type "list",data:=.seq its.toArray n }) (hf:f { cls:=.type "list",data:=.seq its.toArray n }={ cls:=.type "list",data:=.seq its'.toArray n' }) (r:Vals ys its') (hz:⇑ys<=sizeLine) (t:Nat) :
  Inv X Yp σ (upd H p (.lst ys)) { s with heap:=s.heap.update p f,toks:=t }:=by
 have e:(s.heap.update p f).get? p=some { cls:=.type "list",data:=.seq its'.toArray n' }:=by rw[hZ f ho (by rw[hf]<;>rfl),hf]
 refine I.write (x:=p) (e:=p) (by rw[h];trivial) (.inl rfl) (fun b u hb q=>(gd _ _ (Ne.symm hb)).trans q) ⟨_,e⟩ ?_;exact⟨hz,its',n',r,e⟩
def Mw:V->V->V->Hp->(Hp->Prop)->Prop:=fun o i v H Q=>∃ p xs k j,o=.ref p/\i=.int k/\H p=some (.lst xs)/\ê ⇑xs k=some j/\Q (upd H p (.lst (xs.set j v)))
theorem set_list:Ka X Mw:=by
 intro Yp s σ H o i v ov iv u Q I ro ri rv h;obtain⟨p,xs,k,j,rfl,rfl,hp,hj,q⟩:=h;cases ro;obtain⟨t,rfl⟩:=ri;obtain⟨its,n,r,ho,hz⟩:=I.lst hp;obtain⟨h1,h2,h3,h4⟩:=BS hj;have hl:=⇑r;have hn:=rH;have I':Inv X Yp σ (upd H p (.lst (xs.set j v))) { s with heap:=s.heap.update p (Obj.mapSeq (·.setIfInBounds j u)) } :=
  I.KH hp ho (A9 its n j u) (r.set rv j) (by rw[List.length_set];exact hz) s.toks
 by_cases h0:0<=k
 ·have hk:k.toNat=j:=by
   rw[seqIndex_of h0 h4] at h1;exact Option.some.inj h1
  exact PySem.W.ki_setAt ho h0 ⋯ (by rw[bc,←hl];exact h4) (by rw[hk];exact⟨_,I',q⟩)
 ·have hk:(k+(its.toArray.size:Int)).toNat=j:=by
   rw[seqIndex_neg ⋯ h3] at h1;rw[bc,←hl];exact Option.some.inj h1
  exact PySem.W.ki_setBack ho ⋯ (by rw[bc,←hl];exact h3) ⋯ (by rw[hk];exact⟨_,I',q⟩)
theorem xJ (lo hi:Option Int) (n:Nat):(sliceBounds lo hi none n).1=((HT.Ò n 0 lo:Nat):Int)/\(sliceBounds lo hi none n).2.1=((HT.Ò n n hi:Nat):Int)/\(sliceBounds lo hi none n).2.2=1:=by
 refine⟨?_,?_,rfl⟩
 ·cases lo with
  | none=>simp [sliceBounds,HT.Ò]
  | some i =>
   simp only[sliceBounds,HT.Ò,Option.getD_none,show (1:Int)>0 by decide,ig]
   by_cases h:i<0
   ·simp only[h,ig]<;>left
   ·simp only[h,eG]<;>left
 ·cases hi with
  | none=>simp [sliceBounds,HT.Ò]
  | some i =>
   simp only[sliceBounds,HT.Ò,Option.getD_none,show (1:Int)>0 by decide,ig]
   by_cases h:i<0
   ·simp only[h,ig]<;>left
   ·simp only[h,eG]<;>left
theorem vy (its:Zc) (lo hi:Option Int):slicePick its.toArray lo hi none=((its.drop (HT.Ò ⇑its 0 lo)).take (HT.Ò ⇑its ⇑its hi-HT.Ò ⇑its 0 lo)).toArray:=by obtain⟨h1,h2,h3⟩:=xJ lo hi its.toArray.size;unfold slicePick;rw[h1,h2,h3];simp only[sliceRange_one,pick_run,bc]<;>rfl
def Nq (K:Zf):V->Option Int->Option Int->Hp->VK->Prop:=fun x lo hi H Q=>∃ a xs,x=.ref a/\Ã K H a xs/\∀ p,H p=none->Q (.ref p) (upd H p (.lst (m7 xs lo hi)))
theorem Js:Ă X (Nq X.K):=by intro Yp s σ H x v vl vu lo hi sl Q I rx hs pl pu h;obtain⟨a,xs,rfl,hx,q⟩:=h;cases rx;obtain⟨its,r,ht,hz⟩:=I.list hx;have hlen:=⇑r;refine⟨"list",_,slot_list_getitem.lookup,ht.isList.typeIs,?_⟩;refine wpAny_getItem_list_slice ht.isList hs pl pu .none (by simp) ?_ (by rw[bc]<;>left);rw[vy,←hlen];refine⟨.ref s.heap.objs.size,_,I.laid (t':=s.toks) (o:=.lst (m7 xs lo hi)) (fun b ob q=>aL _ q) (aw _) ?_,rfl,q _ (I.hok.fresh (aw _))⟩;exact⟨bM (yd xs lo hi) hz,_,0,(r.drop (HT.Ò ⇑xs 0 lo)).take (HT.Ò ⇑xs ⇑xs hi-HT.Ò ⇑xs 0 lo),bo _ rfl⟩
noncomputable def dM:V->Bool
 | .non=>true
 | .bl _=>true
 | .int _=>true
 | .str _=>true
 | _=>false
noncomputable def Ú:V->V->Bool
 | .non,.non=>true
 | .bl a,.bl b=>a==b
 | .bl a,.int b=>(if a then 1 else 0)==b
 | .int a,.bl b=>a==(if b then 1 else 0)
 | .int a,.int b=>a==b
 | .str a,.str b=>a==b
 | _,_=>false
theorem pz {y x:V}{u v:Value} (ry:RelV y u) (rx:RelV x v) (fy:dM y=true) (fx:dM x=true):SeqAt.EqAt A s u v (Ú y x):=by
 cases y with
 | non =>
  cases ry
  cases x with
  | non=>cases rx;exact SeqAt.EqAt.same _
  | bl b=>cases rx;exact SeqAt.EqAt.none_bool b
  | int b=>obtain⟨t,rfl⟩:=rx;exact SeqAt.EqAt.none_int b t
  | str b=>obtain⟨t,rfl⟩:=rx;exact SeqAt.EqAt.none_str b t
  | _=>exact absurd (show false=true from fx) bP
 | bl a =>
  cases ry
  cases x with
  | non=>cases rx;exact SeqAt.EqAt.bool_none a
  | bl b=>cases rx;exact SeqAt.EqAt.bool_bool a b
  | int b=>obtain⟨t,rfl⟩:=rx;exact SeqAt.EqAt.bool_int a b t
  | str b=>obtain⟨t,rfl⟩:=rx;exact SeqAt.EqAt.bool_str a b t
  | _=>exact absurd (show false=true from fx) bP
 | int a =>
  obtain⟨t',rfl⟩:=ry;cases x with
  | non=>cases rx;exact SeqAt.EqAt.int_none a t'
  | bl b=>cases rx;exact SeqAt.EqAt.int_bool a t' b
  | int b=>obtain⟨t,rfl⟩:=rx;exact SeqAt.EqAt.int_int a t' b t
  | str b=>obtain⟨t,rfl⟩:=rx;exact SeqAt.EqAt.int_str a t' b t
  | _=>exact absurd (show false=true from fx) bP
 | str a =>
  obtain⟨t',rfl⟩:=ry;cases x with
  | non=>cases rx;exact SeqAt.EqAt.str_none a t'
  | bl b=>cases rx;exact SeqAt.EqAt.str_bool a t' b
  | int b=>obtain⟨t,rfl⟩:=rx;exact SeqAt.EqAt.str_int a t' b t
  | str b=>obtain⟨t,rfl⟩:=rx;exact SeqAt.EqAt.str_str a t' b t
  | _=>exact absurd (show false=true from fx) bP
 | _=>exact absurd (show false=true from fy) bP
noncomputable def é (x:V) (u:Value):Bool:=match u with
 | .none=>Ú .non x
 | .bool b=>Ú (.bl b) x
 | .int i _=>Ú (.int i) x
 | .str z _=>Ú (.str z) x
 | _=>false
theorem Fc {x y:V} (r:RelV y u) (f:dM y=true):é x u=Ú y x:=by
 cases y with
 | non=>cases r;rfl
 | bl b=>cases r;rfl
 | int i=>obtain⟨t,rfl⟩:=r;rfl
 | str z=>obtain⟨t,rfl⟩:=r;rfl
 | _=>exact absurd (show false=true from f) bP
theorem wH {x:V}:∀ {xs:List V}{us:Zc},Vals xs us->xs.all dM=true->us.any (é x)=xs.any fun y=>Ú y x
 | _,_,.nil,_=>rfl
 | y::xs,u::us,.cons r t,f=>by rw[jC,bV] at f;rw[iJ,iJ,Fc r f.1,wH t f.2]
theorem uf {A:Around}{s:Zg}{x:V}{v:Value} (rx:RelV x v) (fx:dM x=true):∀ {xs:List V}{us:Zc},Vals xs us->xs.all dM=true->∀ u∈us,SeqAt.EqAt A s u v (é x u)
 | _,_,.nil,_=>fun u hu=>by cases hu
 | y::xs,u::us,.cons r t,f=>fun u' hu=>by
  rw[jC,bV] at f;rcases aY.mp hu with rfl | hu
  ·rw[Fc r f.1];exact pz r rx f.1 fx
  ·exact uf rx fx t f.2 u' hu
noncomputable def Ĉ (x:V) (xs:List V):Bool:=xs.any fun y=>Ú y x
def rIn (K:Zf) (neg:Bool):R2:=fun x y H Q=>∃ p xs,y=.ref p/\(Ã K H p xs∨Ó K H p xs)/\dM x=true/\xs.all dM=true/\Q (.bl (if neg then !Ĉ x xs else Ĉ x xs)) H
theorem DX:É X (compareOp .In) (rIn X.K false):=by
 intro Yp s σ H x y v u Q I rx ry h;obtain⟨p,xs,rfl,hq,fx,fs,q⟩:=h;cases ry;rcases hq with hq | hq
 ·obtain⟨its,r,pl,hz⟩:=I.list hq;refine SeqAt.in_listAt (é x) pl.isList (fun w hw=>uf rx fx r fs w (by simpa using hw)) ⟨.bl _,H,I,rfl,?_⟩;rw[show its.toArray.any (é x)=its.any (é x) by simp,wH r fs];exact q
 ·obtain⟨its,r,pl,hz⟩:=I.tuple hq;refine SeqAt.in_tupleAt (é x) pl (fun w hw=>uf rx fx r fs w (by simpa using hw)) ⟨.bl _,H,I,rfl,?_⟩;rw[show its.toArray.any (é x)=its.any (é x) by simp,wH r fs];exact q
theorem wK:dy X (.builtin "len") (fun xs H Q=>∃ p ys,xs=[.ref p]/\(Ã X.K H p ys∨Ó X.K H p ys)/\Q (.int ⇑ys) H):=by
 intro Yp s σ H xs us Q I r h;obtain⟨p,ys,rfl,hq,q⟩:=h;obtain⟨u,rfl,rx⟩:=vals1 r;cases rx;have hn:=rH;rcases hq with hq | hq
 ·obtain⟨its,r',pl,hz⟩:=I.list hq;have hlen:=⇑r';exact Calls.call_len_list pl.isList (by simp only[bc]<;>left) ⟨.int ⇑ys,H,I.tok _,⟨s.toks+1,by rw[bc,hlen]⟩,q⟩
 ·obtain⟨its,r',pl,hz⟩:=I.tuple hq;have hlen:=⇑r';exact len_tuple pl (by simp only[bc]<;>left) ⟨.int ⇑ys,H,I.tok _,⟨s.toks+1,by rw[bc,hlen]⟩,q⟩
theorem wL:dy X (.builtin "len") (fun xs H Q=>∃ z,xs=[.str z]/\⇑z<=sizeLine/\Q (.int ⇑z) H):=by intro Yp s σ H xs us Q I r h;obtain⟨z,rfl,hz,q⟩:=h;obtain⟨u,rfl,t,rfl⟩:=vals1 r;have hn:=rH;exact len_str ⋯ ⟨.int ⇑z,H,I.tok _,⟨_,rfl⟩,q⟩
theorem wN:dy X (.type "list") (fun xs H Q=>∃ p ys,xs=[.ref p]/\(Ã X.K H p ys∨Ó X.K H p ys)/\∀ l,H l=none->Q (.ref l) (upd H l (.lst ys))):=by
 intro Yp s σ H xs us Q I r h;obtain⟨p,ys,rfl,hq,q⟩:=h;obtain⟨u,rfl,rx⟩:=vals1 r;cases rx;have fin:∀ (its:Zc),Vals ys its->⇑ys<=sizeLine->∀ (h':Heap) (c':Nat),(∀ b o',s.heap.get? b=some o'->h'.get? b=some o') →
   h'.get? s.heap.objs.size=some { cls:=.type "list",dict:=none,data:=.seq its.toArray c',slots:=#[] }->EP X Yp σ Q (.ref s.heap.objs.size) { s with heap:=h' }:=fun its r' hz h' c' kp e =>
  ⟨.ref s.heap.objs.size,_,I.laid (t':=s.toks) kp (aw _) (show bX X.prog X.w _ h' _ (.lst ys) from ⟨hz,its,c',r',e⟩),rfl,q _ (I.hok.fresh (aw _))⟩
 rcases hq with hq | hq
 ·obtain⟨its,r',pl,hz⟩:=I.list hq;have hlen:=⇑r';obtain⟨o,ho,hc,n,hd⟩:=pl.isList;exact call_list_seq p (.inl rfl) ho hc hd (fun h' c' kp e=>fin its r' hz h' c' kp e) (by simp only[bc]<;>left)
 ·obtain⟨its,r',pl,hz⟩:=I.tuple hq;have hlen:=⇑r';obtain⟨o,ho,hc,n,hd⟩:=pl;exact call_list_seq p (.inr rfl) ho hc hd (fun h' c' kp e=>fin its r' hz h' c' kp e) (by simp only[bc]<;>left)
def Ě (K:Zf) (T:String) (x:V) (H:Hp):Prop:=match x with
 | .str _=>T="str"
 | .int _=>T="int"
 | .ref p=>(T="list"/\∃ xs,Ã K H p xs)∨(T="tuple"/\∃ o,K.lookup p=some o/\o.cls=.type "tuple"/\o.dict=none) ∨
   (T="dict"/\((∃ kvs,H p=some (.dK kvs))∨∃ kvs,H p=some (.dT kvs)))∨(T="set"/\∃ S n,H p=some (.set S n))
 | _=>False
theorem L3 {T:String}{v:Value} (I:Inv X Yp σ H s) (r:RelV x v) (ty:Ě X.K T x H) :
  s.TypeIs v T/\∀ a,v=.ref a->∃ ob,s.heap.get? a=some ob/\ob.dict=none:=by
 cases x with
 | str z =>obtain⟨t,rfl⟩:=r;cases (show T="str" from ty);exact⟨typeIs_str s z t,fun _ e=>nomatch e⟩
 | int i =>obtain⟨t,rfl⟩:=r;cases (show T="int" from ty);exact⟨typeIs_int s i t,fun _ e=>nomatch e⟩
 | ref p =>
  cases r
  rcases ty with ⟨rfl,xs,hq⟩ | ⟨rfl,o,hk,hc,hd⟩ | ⟨rfl,hk⟩ | ⟨rfl,S,n,hk⟩
  ·obtain⟨its,_,pl,_⟩:=I.list hq;refine⟨pl.isList.typeIs,fun a e=>?_⟩;cases e;obtain⟨o,n,e,c,hd,_⟩:=pl;exact⟨o,e,hd⟩
  ·refine⟨⟨o,I.Ô p o hk,hc⟩,fun a e=>?_⟩;cases e;exact⟨o,I.Ô _ o hk,hd⟩
  ·have z:∃ o,s.heap.get? p=some o/\o.ExactDict:=by
    rcases hk with ⟨kvs,hk⟩ | ⟨kvs,hk⟩
    ·obtain⟨_,_,_,_,o,_,_,e,ex,_⟩:=I.hok p _ hk;exact⟨o,e,ex⟩
    ·obtain⟨_,_,_,_,o,_,_,e,ex,_⟩:=I.hok p _ hk;exact⟨o,e,ex⟩
   obtain⟨o,e,ex⟩:=z;refine⟨⟨o,e,ex.1⟩,fun a e2=>?_⟩;cases e2;exact⟨o,e,ex.2.1⟩
  ·obtain⟨o,_,_,_,e,ex,_⟩:=I.hok p _ hk;refine⟨⟨o,e,ex.1⟩,fun a e2=>?_⟩;cases e2;exact⟨o,e,ex.2.1⟩
 | _=>exact False.elim ty
def ċ (K:Zf) (T:String) (r:V->List V->Hp->VK->Prop) (to:TE) (t:TA):TE:=fun σ H Q=>to σ H fun x H1=>Ě K T x H1/\t σ H1 fun xs H2=>r x xs H2 Q
variable {o e:Expr}{es:List Expr}{to:TE}{t:TA}{name:Str}{apos cpos:Pos}{T id:String}{r:V->List V->Hp->VK->Prop}
theorem Mj (pa:PlainAttrs T) (slot:Slot T name id) (hty:typeOf (.builtin id)=pure (.type "method_descriptor")) (hm:Đ X id r) (ho:PE X o to) (ha:PA X (e::es) t)
  (hbase:attributeBase o name X.env (eval o X.env)=eval o X.env:=by rfl)
  (hfew:((backTo cpos (starEach (e::es) X.env)).all (fun x=>!x.1)&&(backToKw cpos (keywordEach [] X.env)).all (fun x=>x.1.isSome)
   && decide (⇑(e::es)+⇑([]:List Keyword)+(if ([]:List Keyword).isEmpty then 0 else 1)<30))=true:=by rfl)
  (hline:(apos.endLine==cpos.line)=true:=by rfl) (hs:starEach (e::es) X.env=(false,eval e X.env)::starEach es X.env:=by rfl) (hplain:(backTo cpos (starEach es X.env)).any (·.1)=false:=by rfl) :
  PE X (.Call (.Attribute o name apos) (e::es) [] cpos) (ċ X.K T r to t):=by
 intro Yp s σ H Q I h;refine wpAny_Call_method_late hbase hfew hline rfl (Â (ho Yp s σ H _ I h) fun v s1 ⟨x,H1,I1,r1,ty,q1⟩=>?_);obtain⟨h1,h2⟩:=L3 I1 r1 ty;refine⟨T,id,pa,slot,hty,h1,h2,?_⟩;have hA:=ha cpos Yp s1 σ H1 _ I1 q1;rw[hs] at hA ⊢;refine Calls.callWith_builtin (by show (false||(backTo cpos (starEach es X.env)).any (·.1))=false;rw[hplain]<;>rfl) (Calls.evalArgs_plain ?_);exact Â hA fun us s2 ⟨vs,H2,I2,r2,q2⟩=>hm Yp s2 σ H2 x vs v us Q I2 r1 r2 q2
end
end
section
def í (X:Cx) (id:String) (r:V->List V->Hp->VK->Prop):Prop :=
 ∀ (Yp:Zp) (s:Zg) (σ:St) (H:Hp) (x:V) (xs:List V) (v:Value) (us:Zc) (Q:VK),Inv X Yp σ H s->RelV x v->Vals xs us->r x xs H Q →
  wpAny (model X.prog X.w) X.A (call (.builtin id) (v::us)) (EP X Yp σ Q) X.xe s
theorem Vals.one (h:Vals [x] us):∃ u,us=[u]/\RelV x u:=by cases h with | cons r q=>cases q;exact⟨_,rfl,r⟩
theorem Vals.two {x y:V} (h:Vals [x,y] us):∃ u v,us=[u,v]/\RelV x u/\RelV y v:=by cases h with | cons r q=>obtain⟨_,rfl,p⟩:=Vals.one q;exact⟨_,_,rfl,r,p⟩
theorem Vals.dropLast {xs:List V}{us:Zc} (h:Vals xs us):Vals xs.dropLast us.dropLast:=by
 induction h with
 | nil=>exact .nil
 | cons r t ih =>
  cases t with
  | nil=>exact .nil
  | cons q t'=>exact .cons r ih
theorem Vals.eraseIdx:∀ {xs:List V}{us:Zc} (i:Nat),Vals xs us->Vals (xs.eraseIdx i) (us.eraseIdx i)
 | _,_,_,.nil=>.nil
 | _,_,0,.cons _ t=>t
 | _,_,i+1,.cons r t=>.cons r (Vals.eraseIdx i t)
theorem Vals.reverse {xs:List V}{us:Zc} (h:Vals xs us):Vals xs.reverse us.reverse:=by
 induction h with
 | nil=>exact .nil
 | cons r t ih=>rw[List.reverse_cons,List.reverse_cons];exact Vals.append ih (.cons r .nil)
theorem Vals.rep {xs:List V}{us:Zc} (h:Vals xs us):∀ k:Nat,Vals (List.replicate k xs).flatten (List.replicate k us).flatten
 | 0=>.nil
 | k+1=>by rw[lD,lD,lr,lr];exact Vals.append h (Vals.rep h k)
theorem foldl_rep (its:Zc):∀ (k:Nat) (acc:Zc),
  List.foldl (fun x1 x2=>x1++x2) acc.toArray (List.replicate k its.toArray)=(acc++(List.replicate k its).flatten).toArray
 | 0,acc=>by simp
 | k+1,acc=>by
  have e:acc.toArray++its.toArray=(acc++its).toArray:=by simp
  have e2:(acc++its)++(List.replicate k its).flatten=acc++(List.replicate (k+1) its).flatten:=by rw[lD,lr,cD]
  rw[←e2,←foldl_rep its k (acc++its),←e,lD,List.foldl_cons]
section
variable {X:Cx}{Yp:Zp}{σ:St}{H:Hp}{s:Zg}{l b:Addr}{xs ys zs:List V}
theorem Inv.KG {its its':Zc}{n:Nat}{f:Array Value->Array Value}{t':Nat} (I:Inv X Yp σ H s) (hH:H l=some (.lst xs))
  (e:s.heap.get? l=some { cls:=.type "list",data:=.seq its.toArray n }) (hf:f its.toArray=its'.toArray) (hv:Vals ys its') (hz:⇑ys<=sizeLine) :
  Inv X Yp σ (upd H l (.lst ys)) { s with heap:=s.heap.update l (Obj.mapSeq f),toks:=t' }:=by
 have q:=PySem.IsL.update e f;rw[hf] at q;refine I.write (x:=l) (e:=l) (by rw[hH];exact trivial) (.inl rfl) (fun b' u hb hu=>(gd s.heap (Obj.mapSeq f) (Ne.symm hb)).trans hu) ⟨_,q⟩ ?_;exact⟨hz,its',_,hv,q⟩
theorem Inv.Mc {its:Zc}{t':Nat} (I:Inv X Yp σ H s) (hv:Vals ys its) (hz:⇑ys<=sizeLine) :
  Inv X Yp σ (upd H s.heap.objs.size (.lst ys)) { s with heap:=s.heap.push { cls:=.type "list",data:=.seq its.toArray },toks:=t' } :=
 I.laid (fun _ _ q=>aL _ q) (aw _) ⟨hz,its,0,hv,bo _ rfl⟩
theorem Inv.fresh (I:Inv X Yp σ H s):H s.heap.objs.size=none:=I.hok.fresh (aw _)
theorem Inv.A6 (I:Inv X Yp σ H s) (hH:H l=some (.lst xs)):⇑xs<=sizeLine/\∃ (its:Zc) (n:Nat),Vals xs its/\⇑xs=⇑its/\s.heap.get? l=some { cls:=.type "list",data:=.seq its.toArray n }:=by obtain⟨z,its,n,r,e⟩:=I.hok l _ hH;exact⟨z,its,n,r,⇑r,e⟩
theorem yM {n:Nat} (h:n<=sizeLine):Builtin.List.listTooLong n=false:=by unfold Builtin.List.listTooLong;exact aF ⋯
end
section
variable {X:Cx}
def tD:V->List V->Hp->VK->Prop:=fun x vs H Q=>∃ l xs y,x=.ref l/\vs=[y]/\H l=some (.lst xs)/\⇑xs<sizeLine/\Q .non (upd H l (.lst (xs++[y])))
theorem dI:í X "list.append" tD:=by intro Yp s σ H x vs v us Q I rx rv h;obtain⟨l,xs,y,rfl,rfl,hH,hz,q⟩:=h;cases rx;obtain⟨u,rfl,ru⟩:=rv.one;obtain⟨z,its,n,r,hl,e⟩:=I.A6 hH;refine iN F.slot_list_append ⟨_,e,rfl⟩ F.entry_list_append (F.args_list_append_2 _ _) (PySem.list_append l its.toArray n u (by rw[bc];left)) ⟨e,?_⟩;refine⟨.non,_,I.KG (its':=its++[u]) hH e (by simp) (r.append (.cons ru .nil)) ?_,rfl,q⟩;rw[aE,fJ];left
def Jg:V->List V->Hp->VK->Prop:=fun x vs H Q=>∃ l b xs zs,x=.ref l/\vs=[.ref b]/\H l=some (.lst xs)/\H b=some (.lst zs)/\⇑xs+⇑zs<=sizeLine/\Q .non (upd H l (.lst (xs++zs)))
theorem DP:í X "list.extend" Jg:=by
 intro Yp s σ H x vs v us Q I rx rv h;obtain⟨l,b,xs,zs,rfl,rfl,hH,hB,hz,q⟩:=h;cases rx;obtain⟨u,rfl,ru⟩:=rv.one;cases ru;obtain⟨z,its,n,r,hl,e⟩:=I.A6 hH;obtain⟨z2,its2,n2,r2,hl2,e2⟩:=I.A6 hB;have hsz:its.toArray.size+its2.toArray.size<=sizeLine:=by rw[bc,bc];left
 have hlong:¬ (!its.toArray.isEmpty&&Builtin.List.listTooLong (its.toArray.size+its2.toArray.size))=true:=by rw[yM hsz,Bool.and_false];exact bP
 refine iN F.slot_list_extend ⟨_,e,rfl⟩ F.entry_list_extend (F.args_list_extend_2 _ _)
  (AutoSeq1.list_extend_list_list_0 l its.toArray n b its2.toArray n2 hlong (by rw[bc];left) ⋯) ⟨e,e2,?_⟩
 refine⟨.non,_,I.KG (its':=its++its2) hH e (by simp) (r.append r2) ?_,rfl,q⟩;rw[aE];left
def Nd:R2:=fun x y H Q=>∃ l b xs zs,x=.ref l/\y=.ref b/\H l=some (.lst xs)/\H b=some (.lst zs)/\⇑xs+⇑zs<=sizeLine/\∀ p,H p=none->Q (.ref p) (upd H p (.lst (xs++zs)))
theorem KO:É X (binaryOp .Add) Nd:=by
 intro Yp s σ H x y v u Q I rx ry h;obtain⟨l,b,xs,zs,rfl,rfl,hH,hB,hz,q⟩:=h;cases rx;cases ry;obtain⟨z,its,n,r,hl,e⟩:=I.A6 hH;obtain⟨z2,its2,n2,r2,hl2,e2⟩:=I.A6 hB;refine PySem.P.add_list e e2 ?_ (by rw[bc,bc];left);have ea:its.toArray++its2.toArray=(its++its2).toArray:=by simp
 rw[ea];exact⟨.ref _,_,I.Mc (t':=s.toks) (r.append r2) (by rw[aE];left),rfl,q _ I.fresh⟩
def Np:R2:=fun x y H Q=>∃ l k xs,x=.ref l/\y=.int k/\H l=some (.lst xs)/\-(2^63)<=k/\k<2^63/\⇑xs*k.toNat<=sizeLine ∧
 ∀ p,H p=none->Q (.ref p) (upd H p (.lst (List.replicate k.toNat xs).flatten))
theorem len_rep (xs:List α) (k:Nat):(List.replicate k xs).flatten.length=k*⇑xs:=by
 induction k with
 | zero=>simp
 | succ k ih=>rw[lD,lr,aE,ih,Nat.succ_mul,Nat.add_comm]
theorem Lc:É X (binaryOp .Mult) Np:=by
 intro Yp s σ H x y v u Q I rx ry h;obtain⟨l,k,xs,rfl,rfl,hH,h1,h2,hz,q⟩:=h;cases rx;obtain⟨t,rfl⟩:=ry;obtain⟨z,its,n,r,hl,e⟩:=I.A6 hH;have hlen:its.toArray.size*k.toNat<=sizeLine:=by rw[bc,←hl];exact hz
 have hcap:¬ its.toArray.size*k.toNat>(2^63-1)/8:=by
  have:(sizeLine:Nat)<=(2^63-1)/8:=by decide
  left
 have hfit:¬ (!Builtin.List.listFitsIndex k)=true:=by rw[fitsIndex_both h1 h2];exact bP
 have hlong:¬ Builtin.List.listTooLong (its.toArray.size*k.toNat)=true:=by rw[yM hlen];exact bP
 have hnew:List.foldl (fun x1 x2=>x1++x2) #[] (List.replicate (if its.toArray.isEmpty=true then 0 else k.toNat) its.toArray)=(List.replicate k.toNat its).flatten.toArray:=by
  have f0:∀ m:Nat,List.foldl (fun x1 x2=>x1++x2) #[] (List.replicate m its.toArray)=(List.replicate m its).flatten.toArray:=fun m=>by have:=foldl_rep its m [];rw[List.nil_append] at this;exact this
  rw[f0];cases its with
  | nil=>simp
  | cons a r'=>rw[ai (by simp)]
 refine wpAny_binaryOp_repeat_ref (T:="list") (U:="int") Zd ⟨_,e,rfl⟩ (fun s'=>typeIs_int s' k t) noFill_list_mul F.fills_int_mul F.slot_int_rmul repeat_list F.slot_int_index.lookup
  (iN F.slot_int_rmul (typeIs_int s k t) F.entry_int_rmul (F.args_int_rmul_2 _ _) (int___rmul___int_list k t l its.toArray n)
   ⟨e,rfl,⟨_,e,rfl⟩,iN F.slot_list_mul ⟨_,e,rfl⟩ F.entry_list_mul (F.args_list_mul_2 _ _) (AutoListH.list___mul___list_int_3 l its.toArray n k t hfit hcap hlong) ⟨e,?_⟩⟩)
 rw[hnew];exact⟨.ref _,_,I.Mc (t':=s.toks) (r.rep k.toNat) (by rw[len_rep,Nat.mul_comm];exact hz),rfl,q _ I.fresh⟩
end
section
variable {prog:Zh}{w:Zi}{A:Around}{E:Zq}{s:Zg}
end
section
variable {X:Cx}
end
end
section
section
variable {κ:Type} [DecidableEq κ]
noncomputable def eI (kvs:List (κ×V)) (k:κ):Option V:=(kvs.find? fun kv=>decide (kv.1=k)).map (·.2)
noncomputable def putK (kvs:List (κ×V)) (k:κ) (v:V):List (κ×V) :=
 if (kvs.any fun kv=>decide (kv.1=k))=true then kvs.map (fun kv=>if kv.1=k then (kv.1,v) else kv) else kvs++[(k,v)]
noncomputable def J5 (kvs:List (κ×V)) (k:κ):List (κ×V):=kvs.filter fun kv=>decide (kv.1≠k)
theorem fF {p:κ×V}{r:List (κ×V)}{k:κ} (e:p.1=k):eI (p::r) k=some p.2:=by simp [eI,eV,e]
theorem fE {p:κ×V}{r:List (κ×V)}{k:κ} (e:¬ p.1=k):eI (p::r) k=eI r k:=by simp [eI,eV,e]
theorem nG (k:κ):∀ kvs:List (κ×V),(kvs.any fun kv=>decide (kv.1=k))=(eI kvs k).isSome
 | []=>rfl
 | p::r=>by
  rw[iJ]
  by_cases e:p.1=k
  ·simp only[fF e,a9 e,Bool.true_or,Option.isSome_some]
  ·rw[fE e,aF e,Bool.false_or];exact nG k r
theorem zC (k j:κ) (y:V):∀ kvs:List (κ×V),eI (kvs.map fun kv=>if kv.1=k then (kv.1,y) else kv) j=(eI kvs j).map fun x=>if j=k then y else x
 | []=>rfl
 | p::r=>by
  have ih:=zC k j y r;rw[bI]
  by_cases h:p.1=k
  ·rw[aq h]
   by_cases e:p.1=j
   ·rw[fF (p:=(p.1,y)) e,fF e,Option.map_some,aq (e.symm.trans h)]
   ·rw[fE (p:=(p.1,y)) e,fE e,ih]
  ·rw[ai h]
   by_cases e:p.1=j
   ·rw[fF (p:=p) e,fF e,Option.map_some,ai (fun z=>h (e.trans z))]
   ·rw[fE (p:=p) e,fE e,ih]
theorem wy (k j:κ) (y:V):∀ kvs:List (κ×V),eI kvs k=none->eI (kvs++[(k,y)]) j=if j=k then some y else eI kvs j
 | [],_=>by
  by_cases e:k=j
  ·rw[aq e.symm];exact fF (p:=(k,y)) e
  ·rw[ai (fun z=>e z.symm)];exact fE (p:=(k,y)) e
 | p::r,hn=>by
  rw[List.cons_append];have hk:¬ p.1=k:=fun z=>by rw[fF z] at hn;cases hn
  rw[fE hk] at hn;have ih:=wy k j y r hn
  by_cases e:p.1=j
  ·rw[fF e,fF e,ai (fun z=>hk (e.trans z))]
  ·rw[fE e,fE e,ih]
theorem Hj (kvs:List (κ×V)) (k j:κ) (y:V):eI (putK kvs k y) j=if j=k then some y else eI kvs j:=by
 unfold putK
 by_cases a:(kvs.any fun kv=>decide (kv.1=k))=true
 ·rw[aq a,zC];rw[nG] at a
  by_cases e:j=k
  ·obtain⟨x,hx⟩:=Option.isSome_iff_exists.mp a;rw[aq e,e,hx,Option.map_some,aq rfl]
  ·rw[ai e];cases eI kvs j with
   | none=>rfl
   | some x=>rw[Option.map_some,ai e]
 ·rw[ai a];refine wy k j y kvs ?_;rw[nG] at a;cases q:eI kvs k with
  | none=>rfl
  | some x=>rw[q] at a;exact (a rfl).elim
theorem jU (kvs:List (κ×V)) (k:κ) (v:V):⇑(putK kvs k v)<=⇑kvs+1:=by
 unfold putK;split
 ·rw[ak];left
 ·rw[aE,bH,nN];left
theorem kl.rC {u:Option Value} (r:kl o u):o.isSome=u.isSome:=by
 cases o with
 | none=>cases u with
  | none=>rfl
  | some _=>exact (show False from r).elim
 | some _=>cases u with
  | none=>exact (show False from r).elim
  | some _=>rfl
theorem kl.getD {o:Option V}{u:Option Value}{d:V}{d':Value} (r:kl o u) (rd:RelV d d'):RelV (o.getD d) (u.getD d'):=by
 cases o with
 | none=>cases u with
  | none=>exact rd
  | some _=>exact (show False from r).elim
 | some _=>cases u with
  | none=>exact (show False from r).elim
  | some _=>exact r
theorem KV.val {kvs:List (κ×V)}{vs:List (κ×Value)} (r:KV kvs vs) (k:κ):kl (eI kvs k) (valueAt vs k):=by
 unfold KV at r
 induction r with
 | nil=>exact True.intro
 | @cons p q ps qs h t ih =>
  obtain⟨h1,h2⟩:=h
  by_cases e:p.1=k
  ·have e':q.1=k:=h1.symm.trans e;have b:valueAt (q::qs) k=some q.2:=by simp [valueAt,eV,e']
   rw[fF e,b];exact h2
  ·have e':¬ q.1=k:=fun z=>e (h1.trans z);have b:valueAt (q::qs) k=valueAt qs k:=by simp [valueAt,eV,e']
   rw[fE e,b];exact ih
theorem KV.any {kvs:List (κ×V)}{vs:List (κ×Value)} (r:KV kvs vs) (k:κ):(kvs.any fun kv=>decide (kv.1=k))=vs.any fun kv=>decide (kv.1=k):=by
 unfold KV at r
 induction r with
 | nil=>rfl
 | cons h t ih=>rw[iJ,iJ,ih,h.1]
theorem KV.Lr {kvs:List (κ×V)}{vs:List (κ×Value)} (r:KV kvs vs) (k:κ)  (ry:RelV y u) :
  KV (kvs.map fun kv=>if kv.1=k then (kv.1,y) else kv) (vs.map fun kv=>if kv.1=k then (kv.1,u) else kv):=by
 unfold KV at r ⊢
 induction r with
 | nil=>exact .nil
 | @cons p q ps qs h t ih =>
  rw[bI,bI];refine .cons ?_ ih;obtain⟨h1,h2⟩:=h
  by_cases e:p.1=k
  ·rw[aq e,aq (h1.symm.trans e)];exact⟨h1,ry⟩
  ·rw[ai e,ai (fun z=>e (h1.trans z))];exact⟨h1,h2⟩
theorem KV.put {kvs:List (κ×V)}{vs:List (κ×Value)} (r:KV kvs vs) (k:κ)  (ry:RelV y u):KV (putK kvs k y) (stored vs k u):=by
 unfold putK stored;rw[r.any k]
 by_cases e:(vs.any fun kv=>decide (kv.1=k))=true
 ·rw[aq e,aq e];exact r.Lr k ry
 ·rw[ai e,ai e];exact Paired.snoc r ⟨rfl,ry⟩
theorem KV.drop {kvs:List (κ×V)}{vs:List (κ×Value)} (r:KV kvs vs) (k:κ):KV (J5 kvs k) (without vs k):=by
 unfold KV at r ⊢;unfold J5 without
 induction r with
 | nil=>exact .nil
 | @cons p q ps qs h t ih =>
  obtain⟨h1,h2⟩:=h;rw[List.filter_cons,List.filter_cons]
  by_cases e:p.1=k
  ·have a:¬ decide (p.1≠k)=true:=by simp [e]
   have b:¬ decide (q.1≠k)=true:=by simp [h1.symm.trans e]
   rw[ai a,ai b];exact ih
  ·have e':¬ q.1=k:=fun z=>e (h1.trans z);have a:decide (p.1≠k)=true:=by simp [e]
   have b:decide (q.1≠k)=true:=by simp [e']
   rw[aq a,aq b];exact .cons ⟨h1,h2⟩ ih
theorem KV.length {kvs:List (κ×V)}{vs:List (κ×Value)} (r:KV kvs vs):⇑kvs=⇑vs:=Paired.length r
end
theorem yA {k:Key} (r:RelV (kV k) u):(bj P w).is k u=true:=by
 cases k with
 | inl i=>obtain⟨t,e⟩:=(show ∃ t,u=Value.int i t from r);subst e;exact yJ P w i t
 | inr x=>obtain⟨t,e⟩:=(show ∃ t,u=Value.str x t from r);subst e;exact yK P w x t
theorem K3 {a b:Key} (e:kV a=kV b):a=b:=by
 cases a with
 | inl i=>cases b with
  | inl j=>have e':V.int i=V.int j:=e;injection e' with e';rw[e']
  | inr y=>exact nomatch (show V.int i=V.str y from e)
 | inr x=>cases b with
  | inl j=>exact nomatch (show V.str x=V.int j from e)
  | inr y=>have e':V.str x=V.str y:=e;injection e' with e';rw[e']
theorem qk:∀ {a b:List Key},a.map kV=b.map kV->a=b
 | [],[],_=>rfl
 | [],_::_,e=>by simp at e
 | _::_,[],e=>by simp at e
 | x::xs,y::ys,e=>by
  rw[bI,bI] at e
  injection e with e1 e2
  rw[K3 e1,qk e2]
theorem vS {P:Zh}{w:Zi}:∀ {ks:List Key}{us:Zc},Vals (ks.map kV) us->ItemsAre (bj P w) ks us
 | [],_,r=>by rw[List.map_nil] at r;cases r;exact .nil
 | k::ks,_,r=>by
  rw[bI] at r;cases r with
  | cons h t=>exact .cons (yA h) (vS t)
abbrev KT (H:Hp):List (List Key×V)->List (List Key×Addr×Value)->Prop:=Paired fun p q=>p.1=q.1/\H q.2.1=some (.tup (p.1.map kV))/\RelV p.2 q.2.2
theorem KT.val (r:KT H kvs xs) (k:List Key):kl (eI kvs k) ((atKey xs k).map (·.2)):=by
 induction r with
 | nil=>exact True.intro
 | @cons p q ps qs h t ih =>
  obtain⟨h1,_,h2⟩:=h
  by_cases e:p.1=k
  ·have e':q.1=k:=h1.symm.trans e;have b:atKey (q::qs) k=some q.2:=by simp [atKey,eV,e']
   rw[fF e,b];exact h2
  ·have e':¬ q.1=k:=fun z=>e (h1.trans z);have b:atKey (q::qs) k=atKey qs k:=by simp [atKey,eV,e']
   rw[fE e,b];exact ih
theorem KT.Lr (r:KT H kvs xs) (k:List Key)  (ry:RelV y u) :
  KT H (kvs.map fun kv=>if kv.1=k then (kv.1,y) else kv) (xs.map (putAt k u)):=by
 induction r with
 | nil=>exact .nil
 | @cons p q ps qs h t ih =>
  rw[bI,bI];refine .cons ?_ ih;obtain⟨h1,h2,h3⟩:=h;unfold putAt
  by_cases e:p.1=k
  ·rw[aq e,aq (h1.symm.trans e)];exact⟨h1,h2,ry⟩
  ·rw[ai e,ai (fun z=>e (h1.trans z))];exact⟨h1,h2,h3⟩
theorem KT.put (r:KT H kvs xs) (k:List Key) {b:Addr} (hb:H b=some (.tup (k.map kV))) (ry:RelV y u) :
  KT H (putK kvs k y) (storedH xs k b u):=by
 have e:(kvs.any fun kv=>decide (kv.1=k))=(atKey xs k).isSome:=by rw[nG,(r.val k).rC,Option.isSome_map]
 unfold putK storedH;rw[e]
 by_cases q:(atKey xs k).isSome=true
 ·rw[aq q,aq q];exact r.Lr k ry
 ·rw[ai q,ai q];exact Paired.snoc r ⟨rfl,hb,ry⟩
theorem KT.keeps {H H':Hp} (r:KT H kvs xs) (ht:∀ b ys,H b=some (.tup ys)->H' b=some (.tup ys)):KT H' kvs xs :=
 Paired.IF r fun _ _ z=>⟨z.1,ht _ _ z.2.1,z.2.2⟩
section
variable {P:Zh}{w:Zi}{H:Hp}{h:Heap}{a:Addr}
theorem JK {u:HO} (ok:Î P w H h) (e:Rd H a u):bX P w H h a u:=e.ok ok
theorem tO {kvs:List (Key×V)} (ok:Î P w H h) (e:Rd H a (.dK kvs)):⇑kvs<=sizeLine/\(a==sysModules)=false/\∃ vs,KV kvs vs/\h.DictOf (bj P w) a vs :=
 show bX P w H h a (.dK kvs) from JK ok e
theorem J4 {kvs:List (Key×V)} (ok:Î P w H h) (e:H a=some (.dK kvs)):⇑kvs<=sizeLine/\(a==sysModules)=false/\∃ vs,KV kvs vs/\h.DictOf (bj P w) a vs:=tO ok (.inl e)
theorem rD {ks:List Key} (ok:Î P w H h) (e:H a=some (.tup (ks.map kV))):(tupleKind (bj P w)).is h ks a:=by obtain⟨_,its,r,o,h1,h2,n,h3⟩:=(show bX P w H h a (.tup (ks.map kV)) from ok a _ e);exact⟨o,its.toArray,n,h1,h2,h3,by simpa using vS r⟩
theorem vI (ok:Î P w H h) (e:Rd H a (.dT kvs)):⇑kvs<=sizeLine/\(a==sysModules)=false ∧
  ∃ xs,KT H kvs xs/\h.DictOfH (tupleKind (bj P w)) a xs:=by
 obtain⟨z,y,xs,r,o,es,ep,h1,h2,h3,h4,h5⟩:=(show bX P w H h a (.dT kvs) from JK ok e);refine⟨z,y,xs,r,o,es,ep,h1,h2,h3,h4,fun x hx=>?_,h5⟩;have all:∀ {l:List (List Key×V)}{m:List (List Key×Addr×Value)},KT H l m->∀ x∈m,(tupleKind (bj P w)).is h x.1 x.2.1:=by
  intro l m q
  induction q with
  | nil=>intro x hx;exact nomatch hx
  | @cons p q ps qs hq t ih =>
   intro x hx;rcases aY.mp hx with e | hx
   ·subst e;exact rD ok (by rw[←hq.1];exact hq.2.1)
   ·exact ih x hx
 exact all r x hx
theorem J6 (ok:Î P w H h) (e:H a=some (.dT kvs)):⇑kvs<=sizeLine/\(a==sysModules)=false ∧
  ∃ xs,KT H kvs xs/\h.DictOfH (tupleKind (bj P w)) a xs:=vI ok (.inl e)
end
def kj (H:Hp) (a:Addr) (y:V) (r:Option V):Prop :=
 (∃ kvs k,Rd H a (.dK kvs)/\y=kV k/\r=eI kvs k)∨∃ kvs k b,Rd H a (.dT kvs)/\y=.ref b/\H b=some (.tup (k.map kV))/\r=eI kvs k
def xV (H:Hp) (a:Addr) (y v:V) (H':Hp):Prop :=
 (∃ kvs k,H a=some (.dK kvs)/\y=kV k/\⇑kvs<sizeLine/\H'=upd H a (.dK (putK kvs k v))) ∨
 ∃ kvs k b,H a=some (.dT kvs)/\y=.ref b/\H b=some (.tup (k.map kV))/\⇑kvs<sizeLine/\H'=upd H a (.dT (putK kvs k v))
theorem kj.k {H:Hp}{a:Addr}{kvs:List (Key×V)}{k:Key} (e:H a=some (.dK kvs)):kj H a (kV k) (eI kvs k):=.inl ⟨kvs,k,.inl e,rfl,rfl⟩
theorem kj.t {a b:Addr}{k:List Key} (e:H a=some (.dT kvs)) (eb:H b=some (.tup (k.map kV))):kj H a (.ref b) (eI kvs k):=.inr ⟨kvs,k,b,.inl e,rfl,eb,rfl⟩
theorem xV.k {H:Hp}{a:Addr}{kvs:List (Key×V)}{k:Key}{v:V} (e:H a=some (.dK kvs)) (hl:⇑kvs<sizeLine):xV H a (kV k) v (upd H a (.dK (putK kvs k v))):=.inl ⟨kvs,k,e,rfl,hl,rfl⟩
theorem xV.t {a b:Addr}{k:List Key}{v:V} (e:H a=some (.dT kvs)) (eb:H b=some (.tup (k.map kV))) (hl:⇑kvs<sizeLine) :
  xV H a (.ref b) v (upd H a (.dT (putK kvs k v))):=.inr ⟨kvs,k,b,e,rfl,eb,hl,rfl⟩
section
variable {X:Cx}{Yp:Zp}{σ:St}{H:Hp}{s:Zg}{a:Addr}{y v:V}{u r:Value}{o:Option V}{A:Around}{E:Zq}
theorem Inv.big (I:Inv X Yp σ H s):sysModules<s.heap.objs.size:=by have h:mainGlobals<s.heap.objs.size:=(I.mod.glob.keeps I.bk).lt;exact Nat.lt_trans Zd h
theorem Dg (hu:A.units+1<cLine) (I:Inv X Yp σ H s) (g:kj H a y (some v)) (ry:RelV y u) (h:∀ w' s',Inv X Yp σ H s'->RelV v w'->Q w' s') :
  wpAny (model X.prog X.w) A (getItem (.ref a) u) Q E s:=by
 rcases g with ⟨kvs,k,e,ey,l⟩ | ⟨kvs,k,b,e,ey,eb,l⟩
 ·subst ey;obtain⟨z,hd,vs,rel,dd⟩:=tO I.hok e;obtain⟨w',hw,rw'⟩:=kl.some_of (v:=v) (o:=valueAt vs k) (by rw[l];exact rel.val k);exact wpAny_getItem_of (yA ry) dd.mapOf hw (h w' _ (I.tok _) rw')
 ·subst ey;cases (show u=Value.ref b from ry);obtain⟨z,hd,xs,rel,dd⟩:=vI I.hok e;obtain⟨w',hw,rw'⟩:=kl.some_of (v:=v) (o:=(atKey xs k).map (·.2)) (by rw[l];exact rel.val k);obtain⟨p,hp,hp2⟩:=dU.mp hw;refine wpAny_getItem_heap (nY hu) (rD I.hok eb) dd hp ?_;rw[hp2];exact h w' _ (I.tok _) rw'
theorem MW (hu:A.units+1<cLine) (I:Inv X Yp σ H s) (g:kj H a y o) (ry:RelV y u) (h:∀ s',Inv X Yp σ H s'->Q (.bool o.isSome) s') :
  wpAny (model X.prog X.w) A (compareOp .In u (.ref a)) Q E s:=by
 rcases g with ⟨kvs,k,e,ey,l⟩ | ⟨kvs,k,b,e,ey,eb,l⟩
 ·subst ey;obtain⟨z,hd,vs,rel,dd⟩:=tO I.hok e;refine wpAny_in_of (yA ry) hd dd.mapOf ?_;rw[←(rel.val k).rC,←l];exact h _ (I.tok _)
 ·subst ey;cases (show u=Value.ref b from ry);obtain⟨z,hd,xs,rel,dd⟩:=vI I.hok e;refine wpAny_in_heap (nY hu) (rD I.hok eb) hd dd ?_;have q:=(rel.val k).rC;rw[Option.isSome_map] at q;rw[←q,←l];exact h _ (I.tok _)
theorem wO {t':Nat}{ob:HO} (I:Inv X Yp σ H s) (mu:ā (H a)) (hs:Heap.SameBut a s.heap h') (he:∃ q,h'.get? a=some q) (new:bX X.prog X.w (upd H a ob) h' a ob) :
  Inv X Yp σ (upd H a ob) { s with heap:=h',toks:=t' } :=
 I.write (x:=a) (e:=a) mu (.inl rfl) (fun b q hb z=>(hs.2 b hb).trans z) he new
theorem Kt {H':Hp}{kvs:List (Key×V)}{vs:List (Key×Value)} (z:⇑kvs<=sizeLine) (hd:(a==sysModules)=false) (rel:KV kvs vs) (dd:h'.DictOf (bj P w) a vs) :
  bX P w H' h' a (.dK kvs):=⟨z,hd,vs,rel,dd⟩
theorem Dh {Q:Unit->Zg->Prop} (hu:A.units+1<cLine) (I:Inv X Yp σ H s) (g:xV H a y v H') (ry:RelV y u) (rv:RelV v r) (h:∀ s',Inv X Yp σ H' s'->Q () s') :
  wpAny (model X.prog X.w) A (setItem (.ref a) u r) Q E s:=by
 rcases g with ⟨kvs,k,e,ey,l,eH⟩ | ⟨kvs,k,b,e,ey,eb,l,eH⟩
 ·subst ey eH;obtain⟨z,hd,vs,rel,dd⟩:=J4 I.hok e;have hz:⇑vs<=sizeLine:=by rw[←⇑rel];exact z
  have hl:⇑(putK kvs k v)<=sizeLine:=by have:=jU kvs k v;left
  refine wpAny_setItem_pairs (hsz:=hz) (yA ry) dd fun h' dd' hs=>h _ ?_;have he:∃ q,h'.get? a=some q:=let ⟨q,_,_,hq,_⟩:=dd';⟨q,hq⟩;exact wO I (by rw[e];exact True.intro) hs he (Kt hl hd (rel.put k rv) dd')
 ·subst ey eH;cases (show u=Value.ref b from ry);obtain⟨z,hd,xs,rel,dd⟩:=J6 I.hok e;have hz:⇑xs<=sizeLine:=by rw[←Paired.length rel];exact z
  have hl:⇑(putK kvs k v)<=sizeLine:=by have:=jU kvs k v;left
  refine wpAny_setItem_heap (hsz:=hz) (nY hu) (rD I.hok eb) dd fun h' dd' hs=>h _ ?_;obtain⟨q,es,ep,hq,h2,h3,h4,_,h5⟩:=dd';refine wO I (by rw[e];exact True.intro) hs ⟨q,hq⟩ ⟨hl,hd,_,(rel.put k eb rv).keeps fun c ys ec=>?_,q,es,ep,hq,h2,h3,h4,h5⟩;rw[aN (gR ec e (fun z=>nomatch z))];exact ec
end
section
variable {X:Cx}{Yp:Zp}{σ:St}{H:Hp}{s:Zg}{a:Addr}{kvs:List (Key×V)}{k:Key}{u:Value}{A:Around}{E:Zq}
theorem LQ (I:Inv X Yp σ H s) (e:Rd H a (.dK kvs)) (h:∀ t s',Inv X Yp σ H s'->Q (.int ⇑kvs t) s'):wpAny (model X.prog X.w) A (call (.builtin "len") [.ref a]) Q E s:=by obtain⟨z,hd,vs,rel,dd⟩:=tO I.hok e;refine call_len_dict hd dd (by rw[←⇑rel];rw[sizeLine_eq] at z;left) ?_;rw[←⇑rel];exact h _ _ (I.tok _)
end
def JZ (i:Expr):Prop:=∀ ov iv,subscripted i false ov iv=operate [ov,iv] (getItem ov iv)
theorem Jx {prog:Zh}{w:Zi}{A:Around}{E:Zq}{s:Zg}{env:Env}{value slice:Expr}{pos:Pos}{T id:String}{Q:Zq}
  (hl:typeLookup (.type T) "__getitem__"=pure (some (.builtin id))) (hs:JZ slice)
  (h:wpAny (model prog w) A (eval value env) (fun o s₁=>wpAny (model prog w) A (eval slice env) (fun i s₂=>s₂.TypeIs o T/\wpAny (model prog w) A (getItem o i) Q E s₂) E s₁) E s) :
  wpAny (model prog w) A (eval (.Subscript value slice pos) env) Q E s:=by
 refine Subscript_ (cu h (fun o s₁ h₁=>cu h₁ (fun i s₂ h₂=>?_) fun _ _ x=>x) fun _ _ x=>x);obtain⟨hT,h₂⟩:=h₂;unfold subscriptTail;refine ae ?_;rw[getitemInPython_of_ne hT.not_modules];refine ae (wpAny_specialOf hT hl ?_);have fin:wpAny (model prog w) A (subscripted slice false o i) (fun r s₃=>wpAny (model prog w) A (letTemporaryGo value o r >>= fun _=>pure r) Q E s₃) E s₂:=by rw[hs o i];exact wpAny_operating (cu h₂ (fun r s₃ h₃=>ae (wpAny_letTemporaryGo (au h₃))) fun _ _ x=>x)
 first
  | exact au (ae fin)
  | exact ae (au (ae fin))
  | exact ae fin
theorem yi (I:Inv X Yp σ H s) (g:kj H a y o):s.TypeIs (.ref a) "dict":=by
 rcases g with ⟨kvs,k,e,_,_⟩ | ⟨kvs,k,b,e,_,_,_⟩
 ·obtain⟨_,_,vs,_,dd⟩:=tO I.hok e;exact dd.typeIs
 ·obtain⟨_,_,xs,_,dd⟩:=vI I.hok e;exact dd.typeIs
def GY (td ty:TE):TE:=fun σ H Q=>td σ H fun x H1=>ty σ H1 fun y H2=>∃ a v,x=.ref a/\kj H2 a y (some v)/\Q v H2
def GJ (td ty tv:TE):TS:=fun D σ H=>tv σ H fun v H1=>td σ H1 fun x H2=>ty σ H2 fun y H3=>∃ a H4,x=.ref a/\xV H3 a y v H4/\D.nx σ H4
section
variable {X:Cx}{o i e value:Expr}{pos pos' tpos:Pos}{td ty tv:TE}
theorem IU (hu:X.A.units+1<cLine) (ho:PE X o td) (hi:PE X i ty) (hs:JZ i):PE X (.Subscript o i pos) (GY td ty):=by intro Yp s σ H Q I h;refine Jx PySem.F.slot_dict_getitem.lookup hs (Â (ho Yp s σ H _ I h) fun u s1 ⟨x,H1,I1,rx,q1⟩=>Â (hi Yp s1 σ H1 _ I1 q1) fun iv s2 ⟨y,H2,I2,ry,a,v,ex,g,q2⟩=>?_);subst ex;obtain rfl:u=Value.ref a:=rx;exact⟨yi I2 g,Dg hu I2 g ry fun w' s3 I3 rw'=>⟨v,H2,I3,rw',q2⟩⟩
theorem Je (hu:X.A.units+1<cLine) (ho:PE X o td) (hi:PE X i ty) (hv:PE X value tv) (hs:swapsWith value (some (.Subscript o i pos')) pos.line X.env=pure false) :
  PS X (.Assign [.Subscript o i pos'] value pos) (GJ td ty tv):=by
 intro Yp s σ H D I h;refine wpAny_Assign_Subscript (Â (hv Yp s σ H _ I h) fun r s1 ⟨v,H1,I1,rv,q1⟩=>Â (ho Yp s1 σ H1 _ I1 q1) fun u s2 ⟨x,H2,I2,rx,q2⟩=>Â (hi Yp s2 σ H2 _ I2 q2) fun iv s3 ⟨y,H3,I3,ry,a,H4,ex,g,q3⟩=>?_) hs;subst ex;obtain rfl:u=Value.ref a:=rx;exact Dh hu I3 g ry rv fun s4 I4=>⟨σ,H4,I4,q3⟩
end
theorem EV (h:Heap) (hb:sysModules<h.objs.size):bX P w H (h.push { cls:=.type "dict",data:=.dict #[] }) h.objs.size (.dK []) :=
 ⟨br _,lJ.mpr (Ne.symm (bw hb)),[],.nil,Heap.DictOf.new h⟩
theorem EW (h:Heap) (hb:sysModules<h.objs.size):bX P w H (h.push { cls:=.type "dict",data:=.dict #[] }) h.objs.size (.dT []) :=
 ⟨br _,lJ.mpr (Ne.symm (bw hb)),[],.nil,_,#[],0,bo _ rfl,⟨rfl,rfl,rfl⟩,rfl,rfl,List.nodup_nil⟩
def Lw:TE:=fun _ H Q=>∀ p,H p=none->Q (.ref p) (upd H p (.dK []))
def Lx:TE:=fun _ H Q=>∀ p,H p=none->Q (.ref p) (upd H p (.dT []))
section
variable {X:Cx}{pos:Pos}
theorem Gh:PE X (.Dict [] [] pos) Lw:=fun Yp s σ H Q I h =>wpAny_Dict_empty ⟨.ref s.heap.objs.size,_,I.laid (a:=s.heap.objs.size) (o:=.dK []) (t':=s.toks) (fun _ _ q=>aL _ q) (aw _) (EV s.heap I.big),rfl,h _ (I.hok.fresh (aw _))⟩
theorem Gi:PE X (.Dict [] [] pos) Lx:=fun Yp s σ H Q I h =>wpAny_Dict_empty ⟨.ref s.heap.objs.size,_,I.laid (a:=s.heap.objs.size) (o:=.dT []) (t':=s.toks) (fun _ _ q=>aL _ q) (aw _) (EW s.heap I.big),rfl,h _ (I.hok.fresh (aw _))⟩
end
structure M1 (X:Cx) (o:Expr) (m:Str) (apos:Pos) (e:Expr) (cpos:Pos):Prop where
 base:attributeBase o m X.env (eval o X.env)=eval o X.env
 few:((backTo cpos (starEach [e] X.env)).all (fun x=>!x.1)&&(backToKw cpos (keywordEach [] X.env)).all (fun x=>x.1.isSome)
  && decide (⇑([e]:List Expr)+⇑([]:List Keyword)+(if ([]:List Keyword).isEmpty then 0 else 1)<30))=true
 line:(apos.endLine==cpos.line)=true
 trees:backTo cpos (starEach [e] X.env)=[(false,eval e X.env)]
def Ď (H:Hp) (a:Addr):Prop:=(∃ kvs,Rd H a (.dK kvs))∨∃ kvs,Rd H a (.dT kvs)
theorem Kz (I:Inv X Yp σ H s) (d:Ď H a) :
  s.TypeIs (.ref a) "dict"/\(∀ b,Value.ref a=.ref b->∃ ob,s.heap.get? b=some ob/\ob.dict=none)/\(a==sysModules)=false:=by
 rcases d with ⟨kvs,e⟩ | ⟨kvs,e⟩
 ·obtain⟨_,hd,vs,_,dd⟩:=tO I.hok e;refine⟨dd.typeIs,fun b q=>?_,hd⟩;cases q;obtain⟨ob,_,_,h1,h2,_⟩:=dd;exact⟨ob,h1,h2.2.1⟩
 ·obtain⟨_,hd,xs,_,dd⟩:=vI I.hok e;refine⟨dd.typeIs,fun b q=>?_,hd⟩;cases q;obtain⟨ob,_,_,h1,h2,_⟩:=dd;exact⟨ob,h1,h2.2.1⟩
section
variable {X:Cx}{Yp:Zp}{σ:St}{H:Hp}{s:Zg}{a:Addr}{y d:V}{u r:Value}{o:Option V}{A:Around}{E:Zq}
theorem Ks (hu:A.units+1<cLine) (I:Inv X Yp σ H s) (g:kj H a y o) (ry:RelV y u) (h:∀ w' s',Inv X Yp σ H s'->RelV (o.getD .non) w'->Q w' s') :
  wpAny (model X.prog X.w) A (call (.builtin "dict.get") [.ref a,u]) Q E s:=by
 rcases g with ⟨kvs,k,e,ey,l⟩ | ⟨kvs,k,b,e,ey,eb,l⟩
 ·subst ey;obtain⟨z,hd,vs,rel,dd⟩:=tO I.hok e;refine call_meetsIn PySem.F.slot_dict_get dd.typeIs PySem.F.entry_dict_get (PySem.F.args_dict_get_2 _ _) (meets_dict_get (bj X.prog X.w) a (yA ry) hd) ⟨_,dd.mapOf,h _ _ (I.tok _) ?_⟩;rw[l];exact (rel.val k).getD rfl
 ·subst ey;cases (show u=Value.ref b from ry);obtain⟨z,hd,xs,rel,dd⟩:=vI I.hok e;refine call_meetsIn PySem.F.slot_dict_get dd.typeIs PySem.F.entry_dict_get (PySem.F.args_dict_get_2 _ _) (meetsH_dict_get (tupleKind (bj X.prog X.w)) a b hd) ⟨nY hu,k,xs,rD I.hok eb,dd,h _ _ (I.tok _) ?_⟩;rw[l];exact (rel.val k).getD rfl
end
def Bo (td ty:TE):TE:=fun σ H Q=>td σ H fun x H1=>∃ a,x=.ref a/\Ď H1 a/\ty σ H1 fun y H2=>∃ o,kj H2 a y o/\Q (o.getD .non) H2
section
variable {X:Cx}{o e f:Expr}{apos cpos:Pos}{td ty tx:TE}
theorem Gf (hu:X.A.units+1<cLine) (ho:PE X o td) (he:PE X e ty) (m:M1 X o "get" apos e cpos):PE X (.Call (.Attribute o "get" apos) [e] [] cpos) (Bo td ty):=by intro Yp s σ H Q I h;refine wpAny_Call_method m.base m.few m.line PySem.F.plainAttrs_dict PySem.F.slot_dict_get PySem.F.type_dict_get (Â (ho Yp s σ H _ I h) fun u s1 ⟨x,H1,I1,rx,a,ex,d,q1⟩=>?_);subst ex;obtain rfl:u=Value.ref a:=rx;obtain⟨t1,t2,_⟩:=Kz I1 d;refine⟨t1,t2,?_⟩;rw[m.trees];refine Calls.callWith_builtin rfl (Calls.evalArgs_plain (rg (Â (he Yp s1 σ H1 _ I1 q1) fun iv s2 ⟨y,H2,I2,ry,ov,g,q2⟩=>Calls.spliced_nil ?_)));exact Ks hu I2 g ry fun w' s3 I3 rw'=>⟨_,H2,I3,rw',q2⟩
end
section
variable {X:Cx}{Yp:Zp}{σ:St}{H:Hp}{s:Zg}{a:Addr}{kvs:List (Key×V)}{A:Around}{E:Zq}
end
section
variable {X:Cx}{Yp:Zp}{σ:St}{H:Hp}{s:Zg}{a:Addr}{y:V}{u:Value}{A:Around}{E:Zq}
end
end
end L2
namespace Att
open PySem PySem.W PySem.Calls PyProof.Rows
variable {P:Params}{h:Heap}
theorem sL :∀ (ns:Zb) (vs:Zc),WellAll P h vs (ns.map WData.int)->IntsAre vs ns:=by
 intro ns
 induction ns with
 | nil =>intro vs w;rw[List.map_nil] at w;cases w;exact .nil
 | cons n ns ih =>
  intro vs w;rw[bI] at w;cases w with
  | cons a b =>
   cases a
   exact .cons _ _ (ih _ b)
theorem Em {l:OpenLaw}{n:Nat} (hn:l.most=some n) {P:Params}{h:Heap}{args:List WData}{vals:Zc}
  (hpre:l.row.toRowW.claim.pre args=true) (hwl:WellAll P h vals args) :
  ∃ a vs ns,vals=[Value.ref a]/\args=[WData.list (ns.map WData.int)]/\h.get? a=some { cls:=.type "list",data:=.seq vs.toArray }/\IntsAre vs ns/\⇑ns<=n:=by
 have hsh:WShape.hasAll [] args [.list .int]=true:=(pre_splitW hpre).1;have hc:l.pre.holds [] { args:=args }=true:=(pre_splitW hpre).2;obtain⟨d,r,rfl,h1,h2⟩:=hasAllW_cons hsh;obtain rfl:=hasAllW_nil h2;obtain⟨xs,rfl,h3⟩:=hasW_list h1;obtain⟨ns,rfl⟩:=items_int h3;have hlen:⇑ns<=n:=by
  unfold OpenLaw.pre at hc;have h4:(WTm.not (.lt (.lit (.int (n:Int))) (.len (.arg 0)))).holds [] { args:=[.list (ns.map .int)] }=true:=by have h4:=(holds_andW hc).1;rw[hn] at h4;exact h4
  have h5:=condW_of h4 (w_not (w_lt w_lit (w_len_list (w_arg rfl))));rw[ak] at h5;refine Nat.le_of_not_lt fun q=>?_;have q':(n:Int)<((⇑ns:Nat):Int):=⋯
  first
   | (rw[a9 q'] at h5;exact absurd h5 (by decide))
   | (simp at h5;left)
 cases hwl with
 | cons w1 w2 =>
  cases w2
  cases w1 with
  | list ho hall=>exact⟨_,_,ns,rfl,rfl,ho,sL ns _ hall,hlen⟩
theorem Ef (l:OpenLaw) (args:List WData):l.row.toRowW.claim.post args (.bool true) args=true :=
 postW_of (r:=l.row.toRowW) (X:=(true==true))
  (show WShape.has [] (.bool true) .bool=true by first | rfl | decide | simp [WShape.has,WShape.arms,WShape.armsAll])
  (show (WTm.eq .res (.lit (.bool true))).value [] { args:=args,res:=some (.bool true),after:=args }=some (.bool (true==true)) from w_eq_bool (w_res rfl) w_lit) rfl
theorem xW {l:OpenLaw}{n:Nat}{q:Zh}{loose:Ze}{XP:(Zk)->Heap->Prop}{YP:Zi->Heap->Prop}{d:DefRec}
  (hn:l.most=some n) (hdf:d.params.defaults=[])
  (call:∀ (w:Zi) (s₀ s₁:Zg) (mg mb:Zk) (fa:Addr) (o:Obj) (pm cd doc:Value) (a:Addr) (vs:Zc) (ns:Zb),
   Ground q loose [] XP w s₀ mg mb s₁.heap->YP w s₁.heap →
   s₁.heap.get? fa=some o->o.data=.func (docDef d.name d.params d.body d.scope pm cd doc)->s₁.heap.CodeRec cd d.name->mg d.name=some (.ref fa) →
   s₁.heap.get? a=some { cls:=.type "list",data:=.seq vs.toArray }->IntsAre vs ns->⇑ns<=n->s₁.gens=#[] →
   codeAny (model l.prog w) callerA (.call (.ref fa) ⟨[.ref a],[]⟩) (fun r s'=>r=.ok (.ret (.bool true))/\OldK s₁.heap s'.heap/\s'.os=s₁.os/\AllBare s'.gens) s₁) :
  WalkO q loose XP YP l.row.toRowW d [] (fun f vs=>PySem.call f vs):=by
 intro w s₀ s₁ mg mb G Y fa o pm cd doc dV kV ho hd hcd hD hmg hg args vals as hpre hlay hrd hwl hlo;obtain rfl:dV=.none:=Dflts.none hD hdf;obtain rfl:kV=.none:=Dflts.noKw hD;obtain⟨a,vs,ns,rfl,rfl,hobj,hints,hlen⟩:=Em hn hpre hwl;refine enter_call (fO (call w s₀ s₁ mg mb fa o pm cd doc a vs ns G Y ho (fd_plain hd) hcd hmg hobj hints hlen hg) fun r s' hq=>?_);obtain⟨rfl,h2,h3,h4⟩:=hq;exact⟨.inl ⟨.bool true,.bool true,[],rfl,fun _=>rfl,.bool true,Ef l _,fun _=>⟨List.Pairwise.nil,fun _ hm=>(nomatch hm)⟩⟩,h2,h3,h4⟩
section
variable {prog:Zh}{w:Zi}{A:Around}{E:Zq}{s:Zg}{K:Frag}
end
end Att
namespace L2
open PySem PySem.Spec PyProof.Rows
variable {A:Around}{f:Addr}{fd:FuncData}{st:Stmt}
section
theorem wz:∀ {vs:Zc}{ns:Zb},IntsAre vs ns->Vals (ns.map V.int) vs
 | _,_,.nil=>.nil
 | _,_,.cons n t h=>.cons ⟨t,rfl⟩ (wz h)
end
section
end
section
def inClass (s:Stmt) (j:Nat):Stmt:=match s with
 | .ClassDef _ _ _ body _ _ _ _ _ _ _=>body.getD j (.Pass ⟨0,0,0,0⟩)
 | _=>.Pass ⟨0,0,0,0⟩
noncomputable def cS (s:Stmt):Arguments:=match s with
 | .FunctionDef _ a _ _ _ _ _ _ _ _=>a
 | _=>{ posonlyargs:=[],args:=[],vararg:=none,kwonlyargs:=[],kw_defaults:=[],kwarg:=none,defaults:=[] }
noncomputable def cn (s:Stmt):List Stmt:=match s with
 | .FunctionDef _ _ b _ _ _ _ _ _ _=>b
 | _=>[]
noncomputable def ax (s:Stmt):Scope:=match s with
 | .FunctionDef _ _ _ _ _ _ sc _ _ _=>sc
 | _=>{ kind:=.function,names:=[],isGenerator:=false,isCoroutine:=false }
noncomputable abbrev CX0:Ï:=fun _ _ _ _ _ _=>False
abbrev E0:St->XK:=fun _ _ _ _=>False
structure Å (K:Zf) (x qual:Str) (st:Stmt) (f:Addr) (fd:FuncData):Prop where
 ex:∃ (oc:Value) (od:Option Addr) (kV doc pm:Value) (an:Option Addr) (cdv ct:Value) (osl:Array (Option Value)),
  fd=PySem.W.fnOf x qual (cS st) (cn st) (ax st) .none kV doc pm an cdv ct/\K.lookup f=some ⟨oc,od,.func fd,osl⟩/\PySem.W.codeIn K cdv qual=true
 kp:PySem.W.keepIn K (.ref f)=true
section
variable {P:Zh}{w:Zi}{K:Zf}{mg:Zk}{base:Heap}
theorem Å.ok {x qual:Str}{N ps:Ze}{k:Nat}{sp:Sp} (F:Å K x qual st f fd) (S:aJ N ps (ax st)) (len:∀ vs H Q E,sp vs H Q E->⇑vs=⇑ps)
  (hbody:∀ (cdv:Value) (A:Around) (outer:List Env) (s:Zg) (H:Hp) (vs:List V) (Q:VK) (E:XK),cU k (A.deeper (envOfC qual (ax st) s.heap.objs.size f cdv))->sp vs H Q E →
   ∃ t,Ù (oH CX0 P w K mg base N qual (ax st) f cdv A outer s H E).ï (cn st) t/\t { nx:=fun _ H'=>Q .non H',rt:=Q } (start N vs) H):bF P w K mg base CX0 (k+1) f fd ps sp:=by
 obtain⟨oc,od,kV,doc,pm,an,cdv,ct,osl,rfl,lk,hcd⟩:=F.ex;refine yw lk hcd S len fun A outer s H vs Q E hr hsp=>?_;obtain⟨t,h,q⟩:=hbody cdv A outer s H vs Q E hr hsp;exact⟨t,h.ï,q⟩
theorem Å.binds {x qual:Str}{ps:Ze} (F:Å K x qual st f fd)
  (h:∀ (kV doc pm:Value) (an:Option Addr) (cdv ct:Value) (us:Zc),⇑us=⇑ps->bindArgs (PySem.W.fnOf x qual (cS st) (cn st) (ax st) .none kV doc pm an cdv ct) ⟨us,[]⟩=pure (ps.zip us)):Binds K fd ps []:=by
 obtain⟨oc,od,kV,doc,pm,an,cdv,ct,osl,rfl,lk,hcd⟩:=F.ex;exact .all (h kV doc pm an cdv ct)
theorem mE {x qual:Str}{oc:Value}{od an:Option Addr}{osl:Array (Option Value)}{kV doc pm cdv ct:Value} (l:K.lookup f=some ⟨oc,od,.func (PySem.W.fnOf x qual (cS st) (cn st) (ax st) .none kV doc pm an cdv ct),osl⟩)
  (c:PySem.W.codeIn K cdv qual=true) (k:PySem.W.keepIn K (.ref f)=true):Å K x qual st f (PySem.W.fnOf x qual (cS st) (cn st) (ax st) .none kV doc pm an cdv ct):=⟨⟨oc,od,kV,doc,pm,an,cdv,ct,osl,rfl,l,c⟩,k⟩
end
theorem mF {k:Nat} (hr:cU k A):A.units+1<cLine:=eE (Nat.add_le_add_left (by decide:1<=64) _) hr.units
section
variable {X:Cx}
theorem pv (i:Nat) {x:Str}{pos:Pos} (hN:X.N[i]?=some x:=by rfl) (hv:ă X.env.scope x:=by first | exact Or.inl rfl | exact Or.inr (Or.inl rfl) | exact Or.inr (Or.inr rfl)) (hd:(x==("__debug__":Str))=false:=by decide)
  (hcd:(x==("__classdict__":Str))=false:=by decide):PE X (.Name x pos) (vd i):=xA hN hv hd hcd
end
def aB (H H':Hp):Prop:=∀ b o,H b=some o->H' b=some o
theorem aB.refl (H:Hp):aB H H:=fun _ _ h=>h
theorem aB.trans {H H1 H2:Hp} (a:aB H H1) (b:aB H1 H2):aB H H2:=fun c o h=>b c o (a c o h)
theorem aB.free {H H':Hp} (e:aB H H') {l:Addr} (h:H' l=Option.none):H l=Option.none:=by
 cases q:H l with
 | none=>rfl
 | some o =>rw[e l o q] at h;cases h
theorem aB.seq {K:Zf}{H H':Hp}{a:Addr}{xs:List V} (e:aB H H') (h:Ã K H a xs):Ã K H' a xs:=by
 rcases h with (h | ⟨o,h⟩) | h
 ·exact .inl (.inl (e _ _ h))
 ·exact .inl (.inr ⟨o,e _ _ h⟩)
 ·exact .inr h
end
section
section
variable {κ:Type} [DecidableEq κ]
theorem xc:∀ {l:List κ}{k:κ},l.Nodup->¬ k∈l->(l++[k]).Nodup
 | [],k,_,_=>by simp
 | a::r,k,h,hk=>by
  obtain⟨h1,h2⟩:=dD.mp h;show (a::(r++[k])).Nodup;refine dD.mpr ⟨fun m=>?_,xc h2 fun m=>hk (aY.mpr (Or.inr m))⟩;rcases bC.mp m with q | q
  ·exact h1 q
  ·exact hk (aY.mpr (Or.inl (aS.mp q).symm))
end
end
section
def wD (o:Option Value) (H:Hp):Prop:=o=none∨∃ ea φ,o=some (Value.ref ea)/\H ea=some (HO.ext φ)/\∀ h:Heap,φ h->∃ ob vs,h.get? ea=some ob/\ob.data=.fields vs/\vs[2]?=some Value.none
structure jQ (k:Nat) (A:Around):Prop where
 dp:A.depth+3*k+5<recursionLimit
 un:A.units+16*k+200<cLine
theorem jQ.mono {j k:Nat} (r:jQ k A) (h:j<=k):jQ j A:=⟨by have:=r.dp;left,by have:=r.un;left⟩
theorem jQ.deeper {k:Nat}{A:Around} (r:jQ (k+1) A) (env:Env):jQ k (A.deeper env):=⟨by have:=r.dp;show A.depth+1+3*k+5<_;left,by have:=r.un;show A.units+3+16*k+200<_;left⟩
theorem jQ.depth {k:Nat}{A:Around} (r:jQ k A):A.depth<recursionLimit:=by have:=r.dp;left
theorem jQ.iX {k:Nat} (r:jQ k A):A.units<cLine:=by have:=r.un;left
theorem cU.n {k:Nat} (r:cU k A):jQ k A:=⟨r.dp,r.un⟩
structure E3 (P:Zh) (w:Zi) (K:Zf) (mg:Zk) (base:Heap) (CX:Ï) (k:Nat) (f:Addr) (fd:FuncData) (ps:Ze) (sp:Sp):Prop where
 len:∀ vs H Q E,sp vs H Q E->⇑vs=⇑ps
 run:∀ (A:Around) (outer:List Env) (s:Zg) (H:Hp) (args:Args) (us:Zc) (vs:List V) (Q:VK) (E:XK),jQ k A->wD A.handled H->rz P w K mg base A outer s H->BindsTo s fd args (ps.zip us)->Vals vs us->sp vs H Q E →
  codeAny (model P w) A (.call (.ref f) args) (CR CX outer P w H s Q E) s
section
variable {X:Cx}{CX:Ï}{k:Nat}{f C:Addr}{fd:FuncData}{ps:Ze}{sp:Sp}{dvs:List V}{ds:Zc}{E:St->XK}{x m:Str}{p pos apos:Pos}{e o:Expr}{es:List Expr}{ta:TE}{t:TA}
end
end
end L2
set_option Elab.async false
set_option linter.all false
set_option maxRecDepth 100000
set_option maxHeartbeats 4000000
set_option exponentiation.threshold 2000
namespace Mk
variable {al:Za}{i:Nat}{j:Nat}{m:Int}{p:Int}{ps:Zb}{x:Int}
section
noncomputable def Í (m n:Int):Bool:=decide (Int.gcd n m=1)
noncomputable def è (ws:Zb):Zb:=(ws.zip (ws.drop 1)).map fun p=>p.2-p.1
noncomputable def safe (m:Int) (ws:Zb):Bool:=(ws++è ws).all (Í m)
theorem jz {ws:Zb}:safe m ws=true↔(∀ w∈ws,Í m w=true)/\∀ (j:Nat) a b,ws[j]?=some a->ws[j+1]?=some b->Í m (b-a)=true:=by
 unfold safe;rw[List.all_append,bV,bY,bY];refine and_congr Iff.rfl ⟨fun h j a b ha hb=>?_,fun h x hx=>?_⟩
 ·refine h (b-a) (aO.mpr ⟨(a,b),?_,rfl⟩);refine bT (i:=j) ?_;rw[List.getElem?_zip_eq_some];exact⟨ha,by rw[qQ,Nat.add_comm];exact hb⟩
 ·unfold è at hx;obtain⟨⟨a,b⟩,hp,rfl⟩:=aO.mp hx;obtain⟨j,hj⟩:=jF hp;rw[List.getElem?_zip_eq_some] at hj;exact h j a b hj.1 (by have:=hj.2;rw[qQ,Nat.add_comm] at this;exact this)
noncomputable def big:Int:=314159265358979323846264338327950288419716939937510582097494
noncomputable def á (n:Nat):Zb:=(List.range n).map fun (k:Nat)=>(k:Int)
theorem BZ (n:Nat):⇑(á n)=n:=by simp [á]
theorem lS {n:Nat}:x∈á n↔0<=x/\x<n:=by
 unfold á;rw[aO];constructor
 ·rintro⟨k,hk,rfl⟩;have:=cE.mp hk;left
 ·rintro⟨h1,h2⟩;exact⟨x.toNat,cE.mpr ⋯,⋯⟩
noncomputable def pq (m:Int) (found:Zb):Zb:=(á m.toNat).filter fun w=>Í m w&&(found.isEmpty||Í m (w-found.getLastD 0))
noncomputable def Mn (m:Int) (found:Zb):Zb:=if pq m found=[] then á m.toNat else pq m found
noncomputable def JW (m:Int):Nat->Int->Zb->Zb
 | 0,_,found=>found
 | n+1,c,found=>JW m n (c/7) (found++[(Mn m found).getD (c%(⇑(Mn m found):Int)).toNat 0])
noncomputable def wts (c m:Int) (n:Nat):Zb:=JW m n c []
noncomputable def LR (m:Int):Nat->Int->Zb
 | 0,_=>[]
 | n+1,c=>c%m::LR m n (c/31)
noncomputable def w1 (n m:Int):Zb:=wts (n/100) m (3+n%6).toNat
noncomputable def w2 (n m:Int):Zb:=if n/6%4=1 then (w1 n m).set (n/24%(⇑(w1 n m):Int)).toNat (n/200%m) else w1 n m
noncomputable def w3 (n m:Int):Zb:=if n/6%4=2 then LR m ⇑(w2 n m) (n/100) else w2 n m
noncomputable def LF (k:Nat):Int:=if k%2=0 then 1 else 2
noncomputable def alt (n:Nat):Zb:=(List.range n).map LF
theorem Dc:∀ m:Nat,m<27->3<=m->Í (m:Int) 0=false/\Í (m:Int) 1=true/\Í (m:Int) (-1)=true/\Í (m:Int) 2=decide (m%2=1):=by nofun
end
section
noncomputable def dot:Zb->Zb->Int
 | a::r,b::t=>a*b+dot r t
 | _,_=>0
theorem BK:∀ (ws ps:Zb),((ws.zip ps).map fun p=>p.1*p.2).sum=dot ws ps
 | [],_=>by simp [dot]
 | _::_,[]=>by simp [dot]
 | a::r,b::t=>by rw[List.zip_cons_cons,bI,jH,BK r t];rfl
theorem yj:∀ (ws ps:Zb) (a b:Int),⇑ws=⇑ps->dot (ws++[a]) (ps++[b])=dot ws ps+a*b
 | [],[],a,b,_=>by simp [dot]
 | [],_::_,_,_,h=>by simp at h
 | _::_,[],_,_,h=>by simp at h
 | x::r,y::t,a,b,h=>by show x*y+dot (r++[a]) (t++[b])=x*y+dot r t+a*b;rw[yj r t a b (by simpa using h),Int.add_assoc]
noncomputable def Û (al w:Za):Zb:=w.map fun c=>((al.idxOf c:Nat):Int)
noncomputable def dN (al:Za) (n:Int) (z:Za):Bool:=decide ((⇑z:Int)=n)&&z.all fun c=>decide (c∈al)
noncomputable def good (m:Int) (ws:Zb) (r:Int) (ps:Zb):Bool:=decide ((dot ws ps-r)%m=0)
noncomputable def cL (al:Za) (ws:Zb) (r:Int) (z:Za):Bool:=dN al ⇑ws z&&good ⇑al ws r (Û al z)
noncomputable def ef (al:Za) (ps:Zb):Za:=ps.map fun p=>al.getD p.toNat 0
theorem i3 (al:Za) (ps:Zb):⇑(ef al ps)=⇑ps:=by simp [ef]
theorem Jd (al w:Za):⇑(Û al w)=⇑w:=by simp [Û]
theorem getD_at (h:0<=p/\p<⇑al):al[p.toNat]?=some (al.getD p.toNat 0):=by rw[aK,aC ⋯];rfl
theorem getD_mem (h:0<=p/\p<⇑al):al.getD p.toNat 0∈al:=bT (getD_at h)
theorem vO (nd:al.Nodup) {i c:Nat} (h:al[i]?=some c):al.idxOf c=i:=by obtain⟨hi,e⟩:=bL.mp h;subst e;exact List.Nodup.idxOf_getElem nd i hi
theorem rP {al:Za} (nd:al.Nodup):∀ {ps:Zb},(∀ p∈ps,0<=p/\p<⇑al)->Û al (ef al ps)=ps
 | [],_=>rfl
 | p::r,h=>by show ((al.idxOf (al.getD p.toNat 0):Nat):Int)::Û al (ef al r)=p::r;rw[rP nd (fun q hq=>h q (b8 _ hq)),vO nd (getD_at (h p bu))];rw[iI (h p bu).1]
theorem Cg {al w:Za} (h:∀ c∈w,c∈al):∀ p∈Û al w,0<=p/\p<⇑al:=by intro p hp;obtain⟨c,hc,rfl⟩:=aO.mp hp;exact⟨Int.natCast_nonneg _,by exact_mod_cast List.idxOf_lt_length_of_mem (h c hc)⟩
theorem Bk (h:∀ p∈ps,0<=p/\p<⇑al):dN al ⇑ps (ef al ps)=true:=by unfold dN;rw[i3,a9 rfl,eQ,bY];intro c hc;obtain⟨p,hp,rfl⟩:=aO.mp hc;exact a9 (getD_mem (h p hp))
theorem tX {n:Int}{z:Za}:dN al n z=true↔(⇑z:Int)=n/\∀ c∈z,c∈al:=by unfold dN;rw[bV,bE,bY];refine and_congr Iff.rfl ⟨fun h c hc=>gj (h c hc),fun h c hc=>a9 (h c hc)⟩
def ð (xs:Zb):Prop:=∀ x∈xs,0<=x/\x<1000
theorem Ls {xs:Zb} (h:∀ x∈xs,0<=x/\x<m) (hm:m<=1000):ð xs:=fun x hx=>⟨(h x hx).1,Int.lt_of_lt_of_le (h x hx).2 hm⟩
theorem p9 {ws ps:Zb}{r:Int} (nd:al.Nodup) (hl:⇑ps=⇑ws) (h:∀ p∈ps,0<=p/\p<⇑al):cL al ws r (ef al ps)=good ⇑al ws r ps:=by unfold cL;rw[rP nd h,←hl,Bk h,eQ]
end
section
noncomputable def kP (m:Int):Nat->Int->Zb
 | 0,_=>[]
 | n+1,k=>kP m n (k/m)++[k%m]
theorem kR (m:Int):∀ (n:Nat) (k:Int),⇑(kP m n k)=n
 | 0,_=>rfl
 | n+1,k=>by unfold kP;rw[aE,kR];rfl
theorem tR {m:Int} (hm:0<m):∀ (n:Nat) (k:Int),∀ x∈kP m n k,0<=x/\x<m
 | 0,_,x,h=>by cases h
 | n+1,k,x,h=>by
  unfold kP at h;rcases bC.mp h with h | h
  ·exact tR hm n _ x h
  ·rw[aS.mp h];exact⟨b7 _ ⋯,bJ _ hm⟩
theorem vL {m:Int} (hm:0<m):∀ (n:Nat) (k:Int),kP m (n+1) k=(k/m^n)%m::kP m n k
 | 0,k=>by simp [kP]
 | n+1,k=>by show kP m (n+1) (k/m)++[k%m]=_;rw[vL hm n (k/m),Int.ediv_ediv_of_nonneg (iH hm),←Int.pow_succ'];rfl
noncomputable def numOf (m:Int) (ps:Zb):Int:=ps.foldl (fun k p=>k*m+p) 0
theorem pA (m:Int) (ps:Zb) (p:Int):numOf m (ps++[p])=numOf m ps*m+p:=by unfold numOf;rw[List.foldl_append];rfl
theorem uj {m:Int} (hm:0<m):∀ (n:Nat) (k:Int),0<=k->k<m^n->numOf m (kP m n k)=k
 | 0,k,h0,h1=>by
  have:k=0:=by simp at h1;left
  subst this;rfl
 | n+1,k,h0,h1=>by unfold kP;rw[pA,uj hm n (k/m) (Int.ediv_nonneg h0 (iH hm)) (Int.ediv_lt_of_lt_mul hm (by rw[←Int.pow_succ];exact h1))];have:=qO k m;rw[Int.mul_comm];exact this
theorem qt (hm:0<m):∀ (ps:Zb),(∀ p∈ps,0<=p/\p<m)->0<=numOf m ps/\numOf m ps<m^⇑ps:=by
 intro ps;rw[←List.reverse_reverse ps];generalize ps.reverse=rs
 induction rs with
 | nil=>intro _;simp [numOf]
 | cons a r ih =>intro h;rw[List.reverse_cons] at h ⊢;have ih:=ih fun p hp=>h p (lB _ hp);have ha:=h a (eD _ bu);rw[pA,aE,fJ,Int.pow_succ];refine⟨Int.add_nonneg (Int.mul_nonneg ih.1 (iH hm)) ha.1,?_⟩;have h2:(numOf m r.reverse+1)*m<=m^⇑r.reverse*m:=Int.mul_le_mul_of_nonneg_right ⋯ (iH hm);rw[Int.add_mul,Int.one_mul] at h2;left
theorem DF:∀ m:Nat,m<27->0<m->∀ w:Nat,w<m->Nat.gcd w m=1->∃ v:Nat,v<m/\(w*v)%m=1%m:=by nofun
theorem Ky {m w:Int} (h0:0<m) (h26:m<=26) (hw:0<=w/\w<m) (hc:Í m w=true):∃ v t:Int,w*v=1+m*t:=by
 obtain⟨M,rfl⟩:=dm (iH h0);obtain⟨W,rfl⟩:=dm hw.1;have hg:Nat.gcd W M=1:=gj hc;obtain⟨v,_,e⟩:=DF M ⋯ ⋯ W ⋯ hg;refine⟨v,((W*v:Nat):Int)/(M:Int)-(1:Int)/(M:Int),?_⟩;have e1:=qO ((W*v:Nat):Int) (M:Int);have e2:=qO (1:Int) (M:Int);have e3:((W*v:Nat):Int)%(M:Int)=(1:Int)%(M:Int):=by exact_mod_cast e
 rw[e3] at e1;rw[Int.mul_sub];have e4:((W*v:Nat):Int)=(W:Int)*(v:Int):=by push_cast;rfl
 left
noncomputable def BW (m:Int) (ws:Zb) (r:Int) (ps:Zb):Zb:=(á m.toNat).filter fun x=>good m ws r (ps++[x])
noncomputable def sj (m:Int) (ws:Zb) (r:Int) (ps:Zb):Int:=(BW m ws r ps).headD 0
theorem DB {m w r x:Int}{ws ps:Zb} (hl:⇑ws=⇑ps):good m (ws++[w]) r (ps++[x])=decide ((dot ws ps+w*x-r)%m=0):=by unfold good;rw[yj _ _ _ _ hl]
theorem FU {m w r:Int}{ws ps:Zb} (h0:0<m) (h26:m<=26) (hw:0<=w/\w<m) (hc:Í m w=true) (hl:⇑ws=⇑ps):∃ x,0<=x/\x<m/\∀ y,0<=y->y<m->(good m (ws++[w]) r (ps++[y])=true↔y=x):=by
 obtain⟨v,t,hv⟩:=Ky h0 h26 hw hc;have hx0:=b7 ((r-dot ws ps)*v) (show m≠0 by left);have hx1:=bJ ((r-dot ws ps)*v) h0;have hq:=qO ((r-dot ws ps)*v) m;generalize ((r-dot ws ps)*v)%m=x at hx0 hx1 hq;generalize ((r-dot ws ps)*v)/m=q at hq;generalize hd:dot ws ps=d at hq;refine⟨x,hx0,hx1,fun y hy0 hy1=>?_⟩;rw[DB hl,bE,hd];constructor
 ·intro h;obtain⟨s,hs⟩:=kY h;have key:y-x=m*(v*s-t*y+q):=by grind
  have hb:-m<y-x/\y-x<m:=⋯
  generalize v*s-t*y+q=z at key;have hz:z=0:=by
   rcases Int.lt_trichotomy z 0 with hz | hz | hz
   ·have:m*z<=m*(-1):=Int.mul_le_mul_of_nonneg_left ⋯ (iH h0);left
   ·exact hz
   ·have:m*1<=m*z:=Int.mul_le_mul_of_nonneg_left ⋯ (iH h0);left
  rw[hz,Int.mul_zero] at key;left
 ·intro h;subst h;have:d+w*y-r=m*(t*(r-d)-w*q):=by grind
  rw[this];exact Int.mul_emod_right _ _
theorem Aq {l:Zb} (hn:l.Nodup) {p:Int->Bool} (hx:x∈l) (h:∀ y∈l,(p y=true↔y=x)):l.filter p=[x]:=by
 induction l with
 | nil=>cases hx
 | cons a r ih =>
  rw[dD] at hn;rw[List.filter_cons]
  by_cases e:a=x
  ·subst e;rw[aq ((h a bu).mpr rfl)]
   congr 1
   rw[lq];intro y hy hp;exact hn.1 ((h y (b8 _ hy)).mp hp ▸ hy)
  ·rw[ai (fun z=>e ((h a bu).mp z))];refine ih hn.2 ?_ fun y hy=>h y (b8 _ hy);rcases aY.mp hx with z | z
   ·exact absurd z.symm e
   ·exact z
theorem DU (n:Nat):(á n).Nodup:=by unfold á;refine nR.mpr (List.Pairwise.imp ?_ List.pairwise_lt_range);intro a b h e;left
theorem rF {m r:Int}{ws ps:Zb} (h0:0<m) (h26:m<=26) (hm:∀ x∈ws,0<=x/\x<m) (hc:∀ x∈ws,Í m x=true) (hl:⇑ps+1=⇑ws) :
  BW m ws r ps=[sj m ws r ps]/\0<=sj m ws r ps/\sj m ws r ps<m/\∀ y,0<=y->y<m->(good m ws r (ps++[y])=true↔y=sj m ws r ps):=by
 have hne:ws≠[]:=fun e=>by rw[e] at hl;simp at hl
 obtain⟨wi,w,rfl⟩:∃ wi w,ws=wi++[w]:=⟨ws.dropLast,ws.getLast hne,(List.dropLast_concat_getLast hne).symm⟩;have hl2:⇑wi=⇑ps:=by simp at hl;left
 obtain⟨x,x0,x1,hx⟩:=FU (r:=r) h0 h26 (hm w (by simp)) (hc w (by simp)) hl2;have e:BW m (wi++[w]) r ps=[x]:=by unfold BW;refine Aq (DU _) (lS.mpr ⟨x0,⋯⟩) fun y hy=>?_;have:=lS.mp hy;exact hx y this.1 ⋯
 have e2:sj m (wi++[w]) r ps=x:=by unfold sj;rw[e];rfl
 rw[e2];exact⟨e,x0,x1,hx⟩
noncomputable def ki (m:Int) (ws:Zb) (r k:Int):Zb:=kP m (⇑ws-1) k++[sj m ws r (kP m (⇑ws-1) k)]
end
section
theorem El {m x:Int}{l:Zb} (h:safe m l=true) (hx:Í m x=true) (hl:l=[]∨Í m (x-l.getLastD 0)=true):safe m (l++[x])=true:=by
 rw[jz] at h ⊢;refine⟨fun w hw=>?_,fun j a b ha hb=>?_⟩
 ·rcases bC.mp hw with hw | hw
  ·exact h.1 w hw
  ·rw[aS.mp hw];exact hx
 ·by_cases h1:j+1<⇑l
  ·rw[fH ⋯] at ha;rw[fH h1] at hb;exact h.2 j a b ha hb
  ·have hj:=(bL.mp hb).1;rw[aE,fJ] at hj;have e:j+1=⇑l:=⋯
   rw[fH ⋯] at ha;rw[gg ⋯,e,Nat.sub_self] at hb;have hne:l≠[]:=fun e2=>by rw[e2] at e;simp at e
   have e3:l.getLastD 0=a:=by rw[List.getLastD_eq_getLast?,nM,show ⇑l-1=j by left,ha];rfl
   have e4:x=b:=by simpa using hb
   subst e4;rw[←e3];exact hl.resolve_left hne
theorem FQ:∀ m:Nat,m<27->3<=m->m%2=1->∀ w:Nat,w<m->Í (m:Int) (w:Int)=true->(Í (m:Int) (((2*w)%m:Nat):Int)&&Í (m:Int) ((((2*w)%m:Nat):Int)-(w:Int)))=true:=by nofun
theorem ER (h3:3<=m) (h26:m<=26) (ho:m%2=1) {l:Zb} (hb:∀ x∈l,0<=x/\x<m) (hc:∀ x∈l,Í m x=true):pq m l≠[]:=by
 obtain⟨M,rfl⟩:=dm (show 0<=m by left);intro e;unfold pq at e;rw[lq] at e
 by_cases hl:l=[]
 ·subst hl;exact e 1 (lS.mpr ⟨Zd,⋯⟩) (by rw[(Dc M ⋯ ⋯).2.1];rfl)
 ·have hm:l.getLastD 0∈l:=by
   rw[List.getLastD_eq_getLast?,List.getLast?_eq_some_getLast hl];exact List.getLast_mem hl
  have h1:=hb _ hm;have h2:=hc _ hm;generalize l.getLastD 0=w at e h1 h2;obtain⟨W,rfl⟩:=dm h1.1;have h4:=FQ M ⋯ ⋯ ⋯ W ⋯ h2;rw[bV] at h4;refine e (((2*W)%M:Nat):Int) (lS.mpr ⟨⋯,?_⟩) ?_
  ·have:=Nat.mod_lt (2*W) (show 0<M by left);left
  ·rw[h4.1,h4.2,Bool.or_true];rfl
theorem BD {m d y:Int} (hc:Í m d=true) (h:m ∣ d*y):m ∣ y:=by have hg:Nat.gcd d.natAbs m.natAbs=1:=gj hc;have h1:=Int.natAbs_dvd_natAbs.mpr h;rw[Int.natAbs_mul] at h1;exact Int.natAbs_dvd_natAbs.mp (Nat.Coprime.dvd_of_dvd_mul_left (Nat.Coprime.symm hg) h1)
theorem vJ {m x y:Int} (h:m ∣ x-y) (hx:0<=x/\x<m) (hy:0<=y/\y<m):x=y:=by have:=vi.mpr (Int.emod_eq_zero_of_dvd h);rw[nH hx.1 hx.2,nH hy.1 hy.2] at this;exact this
theorem sX:∀ (ws ps:Zb) (i:Nat) (w p x:Int),ws[i]?=some w->ps[i]?=some p->dot ws (ps.set i x)=dot ws ps+w*(x-p)
 | [],_,_,_,_,_,h,_=>by simp at h
 | _::_,[],_,_,_,_,_,h=>by simp at h
 | a::ws,b::ps,0,w,p,x,h1,h2=>by simp at h1 h2;subst h1 h2;show dot (a::ws) (x::ps)=dot (a::ws) (b::ps)+a*(x-b);unfold dot;grind
 | a::ws,b::ps,i+1,w,p,x,h1,h2=>by have:=sX ws ps i w p x (by simpa using h1) (by simpa using h2);show dot (a::ws) (b::ps.set i x)=dot (a::ws) (b::ps)+w*(x-p);unfold dot;grind
theorem Ft {m r w p x:Int}{ws ps:Zb} (hw:ws[i]?=some w) (hp:ps[i]?=some p) (hc:Í m w=true) (bp:0<=p/\p<m) (bx:0<=x/\x<m) (hne:x≠p) (hg:good m ws r ps=true):good m ws r (ps.set i x)=false:=by unfold good at hg ⊢;rw[bE] at hg;refine aF fun h=>hne ?_;rw[sX ws ps i w p x hw hp] at h;refine vJ (BD hc ?_) bx bp;have:=Int.dvd_sub (kY h) (kY hg);rw[show dot ws ps+w*(x-p)-r-(dot ws ps-r)=w*(x-p) by left] at this;exact this
theorem DC {m r w v p q:Int}{ws ps:Zb} (hw:ws[i]?=some w) (hv:ws[i+1]?=some v) (hp:ps[i]?=some p) (hq:ps[i+1]?=some q) (hc:Í m (v-w)=true) (bp:0<=p/\p<m) (bq:0<=q/\q<m) (hne:q≠p) (hg:good m ws r ps=true):good m ws r ((ps.set i q).set (i+1) p)=false:=by unfold good at hg ⊢;rw[bE] at hg;refine aF fun h=>hne ?_;rw[sX ws (ps.set i q) (i+1) v q p hv (by rw[qR ⋯];exact hq),sX ws ps i w p q hw hp] at h;refine (vJ (BD hc ?_) bp bq).symm;have:=Int.dvd_sub (kY h) (kY hg);rw[show dot ws ps+w*(q-p)+v*(p-q)-r-(dot ws ps-r)=(v-w)*(p-q) by grind] at this;exact this
section
variable {m r k:Int}{ws:Zb} (h0:0<m) (h26:m<=26) (hm:∀ x∈ws,0<=x/\x<m) (hs:safe m ws=true) (hl:1<=⇑ws)
theorem Ez (hl:1<=⇑ws):⇑(ki m ws r k)=⇑ws:=by unfold ki;rw[aE,kR,fJ];left
include h0 h26 hm hs hl
theorem wB:∀ x∈ki m ws r k,0<=x/\x<m:=by
 obtain⟨_,l2,l3,-⟩:=rF (r:=r) h0 h26 hm (jz.mp hs).1 (show ⇑(kP m (⇑ws-1) k)+1=⇑ws by rw[kR];left);unfold ki;intro x hx;rcases bC.mp hx with hx | hx
 ·exact tR h0 _ _ x hx
 ·rw[aS.mp hx];exact⟨l2,l3⟩
theorem By:good m ws r (ki m ws r k)=true:=by obtain⟨_,l2,l3,l4⟩:=rF (r:=r) h0 h26 hm (jz.mp hs).1 (show ⇑(kP m (⇑ws-1) k)+1=⇑ws by rw[kR];left);exact (l4 _ l2 l3).mpr rfl
omit h26 hm hs hl in
theorem E1 (hk:0<=k) (hk2:k<m^(⇑ws-1)):numOf m (ki m ws r k).dropLast=k:=by unfold ki;rw[List.dropLast_concat,uj h0 _ _ hk hk2]
end
theorem Ep (hj:j<⇑ps):(ef al ps).take j++[al.getD x.toNat 0]++(ef al ps).drop (j+1)=ef al (ps.set j x):=by unfold ef;rw[List.map_set,List.set_eq_take_append_cons_drop,aq (by rw[ak];exact hj),cD];rfl
theorem uW {m x:Int} (h:∀ p∈ps,0<=p/\p<m) (hx:0<=x/\x<m):∀ p∈ps.set i x,0<=p/\p<m:=by
 intro p hp;rcases List.mem_or_eq_of_mem_set hp with hp | hp
 ·exact h p hp
 ·rw[hp];exact hx
end
section
theorem Cq {α:Type}:∀ (l:List α) (j:Nat) (x y:α),j+1<⇑l->(l.set j x).set (j+1) y=l.take j++(x::y::l.drop (j+2))
 | [],_,_,_,h=>by simp at h
 | [_],_,_,_,h=>by simp at h
 | a::b::l,0,x,y,_=>rfl
 | a::b::l,j+1,x,y,h=>by have:=Cq (b::l) j x y (by simpa using h);simp only[List.set_cons_succ,List.take_succ_cons,List.drop_succ_cons,List.cons_append];rw[this];rfl
theorem Bj {p q:Int} (hj:j+1<⇑ps):(ef al ps).take j++([al.getD q.toNat 0]++[al.getD p.toNat 0])++(ef al ps).drop (j+2)=ef al ((ps.set j q).set (j+1) p):=by unfold ef;rw[List.map_set,List.map_set,Cq _ _ _ _ (by rw[ak];exact hj),cD];rfl
end
section
noncomputable def bB (c:Nat):Za->List Za
 | []=>[[]]
 | a::l=>if a=c then []::bB c l else match bB c l with
  | []=>[[a]]
  | w::ws=>(a::w)::ws
noncomputable def bR (c:Nat):List (Za)->Za
 | []=>[]
 | [w]=>w
 | w::v::ws=>w++c::bR c (v::ws)
theorem m5 {c:Nat}:∀ (w l:Za),c∉w->bB c (w++c::l)=w::bB c l
 | [],l,_=>by simp [bB]
 | a::w,l,h=>by have ha:a≠c:=fun e=>h (by rw[e];exact bu);have ih:=m5 w l fun hc=>h (b8 _ hc);show (if a=c then _ else match bB c (w++c::l) with | []=>[[a]] | w::ws=>(a::w)::ws)=_;rw[ai ha,ih]
theorem wo {c:Nat}:∀ (w:Za),c∉w->bB c w=[w]
 | [],_=>rfl
 | a::w,h=>by have ha:a≠c:=fun e=>h (by rw[e];exact bu);have ih:=wo w fun hc=>h (b8 _ hc);show (if a=c then _ else match bB c w with | []=>[[a]] | w::ws=>(a::w)::ws)=_;rw[ai ha,ih]
theorem iG {c:Nat}:∀ (ws:List Za),ws≠[]->(∀ w∈ws,c∉w)->bB c (bR c ws)=ws
 | [],h,_=>absurd rfl h
 | [w],_,h=>wo w (h w bu)
 | w::v::ws,_,h=>by show bB c (w++c::bR c (v::ws))=_;rw[m5 w _ (h w bu),iG (v::ws) (by simp) fun x hx=>h x (b8 _ hx)]
theorem va {c:Nat}:∀ (l:Za),⇑(bB c l)<=⇑l+1/\∀ w∈bB c l,⇑w<=⇑l
 | []=>by simp [bB]
 | a::l=>by
  obtain⟨h1,h2⟩:=va (c:=c) l;have e:bB c (a::l)=if a=c then []::bB c l else match bB c l with | []=>[[a]] | w::ws=>(a::w)::ws:=rfl
  by_cases ha:a=c
  ·rw[e,aq ha,bH,bH];refine⟨⋯,fun w hw=>?_⟩;rcases aY.mp hw with rfl | hw
   ·exact br _
   ·have:=h2 w hw;left
  ·rw[e,ai ha,bH];cases hs:bB c l with
   | nil=>exact⟨by simp,fun w hw=>by rw[aS.mp hw];simp⟩
   | cons v vs =>
    rw[hs] at h1 h2;refine⟨by simp only[bH] at h1 ⊢;left,fun w hw=>?_⟩;rcases aY.mp hw with rfl | hw
    ·have:=h2 v bu;rw[bH];left
    ·have:=h2 w (b8 _ hw);left
theorem vT {c:Nat}:∀ (ws:List Za),⇑(bR c ws)<=(ws.map fun w=>⇑w+1).sum
 | []=>by simp [bR]
 | [w]=>by simp [bR]
 | w::v::ws=>by have ih:=vT (c:=c) (v::ws);show ⇑(w++c::bR c (v::ws))<=_;rw[aE,bH,bI,jH];left
end
section
end
section
end
end Mk
namespace L2
open PySem PySem.Spec PyProof.Rows
variable {A:Around}{C:Addr}{CX:Ï}{D:Ends}{E:Zq}{H:Hp}{H1:Hp}{J:It}{K:Zf}{P:Zh}{Q:VK}{T:String}{X:Cx}{a:Addr}{bmB:Zc}{ch:List Addr}{cl:List (Str×Addr)}{e:Expr}{elts:List Expr}{env:Env}{es:List Expr}{f:Addr}{fd:FuncData}{fp:List Addr}{frn:Ze}{g:TG}{h:Heap}{h':Heap}{i:Nat}{ifs:List Expr}{js:Za}{kvs:List (Key×V)}{lo:Int}{m:Str}{o:HO}{Yp:Zp}{pl:Sem Bool}{pos:Pos}{prog:Zh}{ps:Ze}{r:V->List V->Hp->VK->Prop}{s:Zg}{scope:Scope}{sp:Sp}{t':Nat}{ta:TA}{tb:TS}{tc:TT}{te:TE}{tg:Expr}{tl:TE}{to:TE}{tpos:Pos}{w:Zi}{wi:TI}{x:Str}{xe:Zq}{xs:List V}{α:Type}{σ:St}
section
noncomputable def Ö (cells:List (Str×Addr)):List (Str×NameKind)->List (Str×Addr)->Option (List (Str×Addr))
 | [],acc=>some acc
 | (n,k)::r,acc=>if k==.free then (match cells.lookup n with | some c=>Ö cells r ((n,c)::acc) | none=>none) else Ö cells r acc
theorem tM {env:Env}:∀ (names:List (Str×NameKind)) (acc cl:List (Str×Addr)),Ö env.cells names acc=some cl →
  (forIn names acc fun (x:Str×NameKind) (cs:List (Str×Addr))=>(if x.2==.free then do let c ←cellOf env x.1;pure (ForInStep.yield ((x.1,c)::cs)) else pure (ForInStep.yield cs):Sem (ForInStep (List (Str×Addr)))))=pure cl
 | [],acc,cl,h=>by have e:acc=cl:=Option.some.inj h;subst e;rfl
 | (n,k)::r,acc,cl,h=>by
  rw[List.forIn_cons];unfold Ö at h
  by_cases hk:(k==NameKind.free)=true
  ·rw[aq hk] at h;cases hc:env.cells.lookup n with
   | none=>rw[hc] at h;cases h
   | some c =>
    rw[hc] at h;have ih:=tM (env:=env) r ((n,c)::acc) cl h;have e1:cellOf env n=pure c:=by unfold cellOf;rw[hc]
    simp only[hk,ig,e1,pure_bind];exact ih
  ·rw[ai hk] at h;have ih:=tM (env:=env) r acc cl h;simp only[hk,eG,pure_bind,i9];exact ih
theorem jk (h:Ö env.cells scope.names []=some cl):closureFor scope env=pure cl:=by
 have e:=tM (env:=env) scope.names [] cl h;unfold closureFor;simp only[bind_pure]
 first
  | exact e
  | (simp only[bind_pure_comp,map_pure] at e ⊢;exact e)
  | (rw[show (fun (x:Str×NameKind) (r:List (Str×Addr))=>_)=_ from rfl];exact e)
theorem qg {cells:List (Str×Addr)}:∀ (names:List (Str×NameKind)) (acc cl:List (Str×Addr)),Ö cells names acc=some cl →
  (∀ x c,acc.lookup x=some c->cells.lookup x=some c)->∀ x c,cl.lookup x=some c->cells.lookup x=some c
 | [],acc,cl,h,ha=>by have e:acc=cl:=Option.some.inj h;subst e;exact ha
 | (n,k)::r,acc,cl,h,ha=>by
  unfold Ö at h
  by_cases hk:(k==NameKind.free)=true
  ·rw[aq hk] at h;cases hc:cells.lookup n with
   | none=>rw[hc] at h;cases h
   | some c =>
    rw[hc] at h;refine qg r ((n,c)::acc) cl h fun x c' e=>?_;rw[dR] at e
    by_cases hx:(x==n)=true
    ·rw[hx] at e;have e':c=c':=Option.some.inj e;subst e';have:x=n:=eq_of_beq hx;subst this;exact hc
    ·rw[Bool.not_eq_true] at hx;rw[hx] at e;exact ha x c' e
  ·rw[ai hk] at h;exact qg r acc cl h ha
theorem tL {cells:List (Str×Addr)}:∀ (names:List (Str×NameKind)) (acc cl:List (Str×Addr)),Ö cells names acc=some cl->∀ x,(∃ c,acc.lookup x=some c)->∃ c,cl.lookup x=some c
 | [],acc,cl,h,x,hx=>by have e:acc=cl:=Option.some.inj h;subst e;exact hx
 | (n,k)::r,acc,cl,h,x,hx=>by
  unfold Ö at h
  by_cases hk:(k==NameKind.free)=true
  ·rw[aq hk] at h;cases hc:cells.lookup n with
   | none=>rw[hc] at h;cases h
   | some c =>
    rw[hc] at h;refine tL r ((n,c)::acc) cl h x ?_;rw[dR]
    by_cases hxn:(x==n)=true
    ·rw[hxn];exact⟨c,rfl⟩
    ·rw[Bool.not_eq_true] at hxn;rw[hxn];exact hx
  ·rw[ai hk] at h;exact tL r acc cl h x hx
theorem oh {cells:List (Str×Addr)}:∀ (names:List (Str×NameKind)) (acc cl:List (Str×Addr)),Ö cells names acc=some cl->∀ x,(x,NameKind.free)∈names->∃ c,cl.lookup x=some c
 | [],_,_,_,x,hx=>by cases hx
 | (n,k)::r,acc,cl,h,x,hx=>by
  unfold Ö at h
  by_cases hk:(k==NameKind.free)=true
  ·rw[aq hk] at h;cases hc:cells.lookup n with
   | none=>rw[hc] at h;cases h
   | some c =>
    rw[hc] at h;rcases aY.mp hx with e | hx
    ·have e1:x=n:=bQ Prod.fst e;subst e1;exact tL r ((x,c)::acc) cl h x ⟨c,by rw[dR,beq_self_eq_true]⟩
    ·exact oh r _ cl h x hx
  ·rw[ai hk] at h;rcases aY.mp hx with e | hx
   ·cases e
    exact absurd (by rfl) hk
   ·exact oh r acc cl h x hx
theorem lV {env:Env}:∀ {names:List (Str×NameKind)}{x:Str}{k':NameKind},
  (names.map fun (n,k)=>if (k==NameKind.free&&env.scope.kind==.function&&env.kindOf n==some .cell) then (n,NameKind.cell) else (n,k)).lookup x=some k'->(x,k')∈names∨(k'=.cell/\(x,NameKind.free)∈names)
 | [],_,_,h=>by cases h
 | (n,k)::r,x,k',h=>by
  have ih:=@lV env r x k'
  by_cases hc:(k==NameKind.free&&env.scope.kind==.function&&env.kindOf n==some .cell)=true
  ·have h2:(((n,NameKind.cell)::(r.map fun (n,k)=>if (k==NameKind.free&&env.scope.kind==.function&&env.kindOf n==some .cell) then (n,NameKind.cell) else (n,k))).lookup x)=some k':=by
    rw[←h,bI];simp only[hc,ig]
   rw[dR] at h2
   by_cases hx:(x==n)=true
   ·rw[hx] at h2;have e:NameKind.cell=k':=Option.some.inj h2;have e2:x=n:=eq_of_beq hx;have e3:k=.free:=by
     simp only[bV] at hc;exact eq_of_beq hc.1.1
    subst e e2 e3;exact .inr ⟨rfl,bu⟩
   ·rw[Bool.not_eq_true] at hx;rw[hx] at h2;rcases ih h2 with q | ⟨e,q⟩
    ·exact .inl (b8 _ q)
    ·exact .inr ⟨e,b8 _ q⟩
  ·have h2:(((n,k)::(r.map fun (n,k)=>if (k==NameKind.free&&env.scope.kind==.function&&env.kindOf n==some .cell) then (n,NameKind.cell) else (n,k))).lookup x)=some k':=by
    rw[←h,bI];simp only[hc,eG,i9]
   rw[dR] at h2
   by_cases hx:(x==n)=true
   ·rw[hx] at h2;have e:k=k':=Option.some.inj h2;have e2:x=n:=eq_of_beq hx;subst e e2;exact .inl bu
   ·rw[Bool.not_eq_true] at hx;rw[hx] at h2;rcases ih h2 with q | ⟨e,q⟩
    ·exact .inl (b8 _ q)
    ·exact .inr ⟨e,b8 _ q⟩
noncomputable abbrev Cx.Ü (X:Cx) (N':Ze) (scope:Scope) (cl:List (Str×Addr)) (C:Addr) (s₀:Zg) (H₀:Hp) (ex:List Addr):Cx :=
 { X with N:=N',s₀:=s₀,H₀:=H₀,env:=compEnvC scope cl C X.env,outer:=X.stack,stack:=X.stack,ex:=ex,fn:=fun _=>false,pn:=[],xe:=fun _ _=>False }
inductive tF (X:Cx):Ze->Za->Prop
 | nil:tF X [] []
 | cons {x:Str}{j:Nat}{xs:Ze}{js:Za}:X.N[j]?=some x->(X.env.kindOf x=some .cell∨X.env.kindOf x=some .free)->tF X xs js->tF X (x::xs) (j::js)
theorem tF.get {X:Cx}:∀ {xs:Ze}{js:Za}{i:Nat}{x:Str},tF X xs js->xs[i]?=some x->∃ j,js[i]?=some j/\X.N[j]?=some x/\(X.env.kindOf x=some .cell∨X.env.kindOf x=some .free)
 | _,_,_,_,.nil,e=>by simp at e
 | _,_,0,_,.cons a b _,e=>by simp at e;subst e;exact⟨_,rfl,a,b⟩
 | _,_,i+1,x,.cons _ _ t,e=>by obtain⟨j,h1,h2⟩:=tF.get (i:=i) (x:=x) t (by simpa using e);exact⟨j,by simpa using h1,h2⟩
theorem tF.len {X:Cx}:∀ {xs:Ze}{js:Za},tF X xs js->⇑xs=⇑js
 | _,_,.nil=>rfl
 | _,_,.cons _ _ t=>by rw[bH,bH,t.len]
noncomputable def ip (k:Nat) (js:Za) (σ:St):St:=List.replicate k none++js.map fun j=>(σ[j]?).join
def ý (X:Cx) (ifs:List Expr) (t:TT):Prop :=
 ∀ (Yp:Zp) (s:Zg) (σ:St) (H:Hp) (Q:Bool->Hp->Prop),Inv X Yp σ H s->t σ H Q →
  wpAny (model X.prog X.w) X.A (forIn ifs true fun c r=>if r=true then do let ok ←isTrue c X.env (eval c X.env);pure (ForInStep.yield ok) else pure (ForInStep.yield r)) (TP X Yp σ Q) X.xe s
def xQ:TT:=fun _ H Q=>Q true H
theorem cZ :ý X [] xQ:=fun _ _ _ H _ I h=>wpAny_tests_nil ⟨H,I,h⟩
theorem oz {c:Expr}{t:TT} (h:PT X c t):ý X [c] t:=fun Yp s σ H Q I q=>wpAny_tests_one (h Yp s σ H Q I q)
section
variable {prog:Zh}{w:Zi}{A:Around}{R:Result->Zg->Prop}{s:Zg}
theorem yb {elt target iter:Expr}{ifs:List Expr}{scope:Scope}{pos:Pos}{it acc:Value}{env:Env} (I:Nat->Zg->Prop)
  (turn:∀ n s,I n s->wpAny (model prog w) A (pyNext it) (fun r s₁=>match r with
   | none=>R (.ok .next) s₁
   | some v=>wpAny (model prog w) A (letOwnedTupleGo target it v) (fun _ s₀=>wpAny (model prog w) A (assign target env v) (fun _ s₂ =>
     wpAny (model prog w) A (forIn ifs true fun c r=>if r=true then do let ok ←isTrue c env (eval c env);pure (ForInStep.yield ok) else pure (ForInStep.yield r)) (fun ok s₃ =>
      if ok=true then wpAny (model prog w) A (eval elt env) (fun x s₄ =>wpAny (model prog w) A (call (.builtin "list.append") [acc,x]) (fun _ s₅=>∃ m,m<n/\I m s₅) (fun _ _=>False) s₄) (fun _ _=>False) s₃
      else ∃ m,m<n/\I m s₃) (fun _ _=>False) s₂) (fun _ _=>False) s₀) (fun _ _=>False) s₁) (fun _ _=>False) s)
  (n:Nat) (h:I n s) :
  codeAny (model prog w) A (.compLoop (.ListComp elt [⟨target,iter,ifs,0⟩] scope pos) 0 it acc env) R s:=by
 refine codeAny_loop rfl I (fun n s hI=>?_) n h;show wpAny _ A ((compTurn (.ListComp elt [⟨target,iter,ifs,0⟩] scope pos) 0 it acc env).onRaise (fun x=>do noteFrame x env;theTreesLotGoes x)) _ _ s;refine wpAny_noted ?_;rw[compTurn_list];refine ae (wpAny_standAt (ae (cu (turn n s hI) (fun r s₁ h₁=>?_) fun _ _ h'=>h'.elim)));cases r with
 | none=>exact au h₁
 | some v =>
  refine ae (cu h₁ (fun _ s₀ h₀=>?_) fun _ _ h'=>h'.elim);refine ae (cu h₀ (fun _ s₂ h₂=>ae (cu h₂ (fun ok s₃ h₃=>?_) fun _ _ h'=>h'.elim)) fun _ _ h'=>h'.elim);cases ok with
  | false=>exact au ⟨rfl,h₃⟩
  | true =>exact ae (ae (cu h₃ (fun x s₄ h₄=>ae (cu h₄ (fun _ s₅ h₅=>au (au ⟨rfl,h₅⟩)) fun _ _ h'=>h'.elim)) fun _ _ h'=>h'.elim))
end
def eK (g:TG) (tc:TT) (te:TE) (σ':St) (J:It) (H1:Hp) (Q:VK):Prop :=
 ∀ D,H1 D=none->∃ W:Nat->Nat->List V->St->Hp->Prop,(∃ m,W 0 m [] σ' (upd H1 D (.lst [])))/\∀ i m ys σ1 H,W i m ys σ1 H->H D=some (.lst ys)/\⇑ys<sizeLine ∧
  ((J.stop i H/\Q (.ref D) H)∨(J.go i H/\∀ x H',J.yld i H x H'->g x σ1 H' fun σ2 H2=>tc σ2 H2 fun b H3 =>if b=true then te σ2 H3 fun v H4=>H4 D=some (.lst ys)/\∃ m',m'<m/\W (i+1) m' (ys++[v]) σ2 (upd H4 D (.lst (ys++[v]))) else ∃ m',m'<m/\W (i+1) m' ys σ2 H3))
structure Bz (X:Cx) (scope:Scope) (cl:List (Str×Addr)):Prop where
 Ö:L2.Ö X.env.cells scope.names []=some cl
 cell:∀ y∈scope.names,y.2≠.cell
 kind:scope.kind=.function
 names:∀ y∈scope.names,y.2=.local->scope.names.lookup y.1=some .local
section
variable {X:Cx}{Yp:Zp}{σ:St}{H1:Hp}{s₂:Zg}{E:Zq}
theorem Inv.LP {N':Ze} (I:Inv X Yp σ H1 s₂) (B:Bz X scope cl) (hC:s₂.heap.objs.size<=C) (hf:∀ b∈fp,sJ X Yp H1 b)
  (ho:∀ b∈fp,∃ o,s₂.heap.get? b=some o):(X.Ü N' scope cl C s₂ H1 fp).Ok:=by
 have sub:=qg scope.names [] cl B.Ö (fun x c e=>by cases e);refine⟨I.ok.mod,B.kind,I.ok.glob,I.ok.blt,hC,fun x y c h1 h2=>I.ok.inj x y c (sub x c h1) (sub y c h2),fun x hx=>?_,fun x c h=>?_,I.ok.hd,I.ok.frames,.inl rfl,fun b hb=>⟨?_,fun x c e=>?_⟩,I.bs,
  bM I.ok.bsz I.sz,fun b o e hb=>?_,fun b hb hs=>?_,I.stack,I.xN⟩
 ·have hx':(compEnvC scope cl C X.env).kindOf x=some .cell∨(compEnvC scope cl C X.env).kindOf x=some .free:=hx;have key:∀ k',(compEnvC scope cl C X.env).kindOf x=some k'->(k'=.cell∨k'=.free)->∃ c,cl.lookup x=some c:=fun k' e hk=>by
   have e':(scope.names.map fun (n,k)=>if (k==NameKind.free&&X.env.scope.kind==.function&&X.env.kindOf n==some .cell) then (n,NameKind.cell) else (n,k)).lookup x=some k':=e;rcases lV e' with q | ⟨_,q⟩
   ·rcases hk with rfl | rfl
    ·exact absurd rfl (B.cell _ q)
    ·exact oh scope.names [] cl B.Ö x q
   ·exact oh scope.names [] cl B.Ö x q
  rcases hx' with hx' | hx'
  ·exact key _ hx' (.inl rfl)
  ·exact key _ hx' (.inr rfl)
 ·exact absurd h bP
 ·obtain⟨o,e⟩:=ho b hb;exact bw (bK (aQ e) hC)
 ·exact (hf b hb).2.2.2.2.1 x c (sub x c e)
 ·rcases (hf b hb).2.2.2.1 with z | z
  ·exact I.ok.noex b o e z
  ·exact absurd (bK (aQ e) (bM I.ok.bsz z)) (gh _)
 ·rcases aY.mp (I.xO b hs) with z | z
  ·exact (hf b hb).2.1 z
  ·exact (hf b hb).2.2.1 z
theorem BA {elt target iter:Expr}{ifs:List Expr}{scope:Scope}{pos:Pos}{cl:List (Str×Addr)}{own frn:Ze}{js:Za}{g:TG}{tc:TT}{te:TE}{Q:VK}{it:Addr}{fp:List Addr}{tn:Nat->Heap->Prop}{J:It}
  {RR:Value->Addr->Result->Zg->Prop} (hc:X.calm=true) (B:Bz X scope cl) (hfr:tF X frn js) (hloc:∀ x∈frn,scope.names.lookup x≠some .local)
  (hg:∀ C s₀ H₀ ex,PG (X.Ü (own++frn) scope cl C s₀ H₀ ex) target g) (hi:∀ C s₀ H₀ ex,ý (X.Ü (own++frn) scope cl C s₀ H₀ ex) ifs tc) (he:∀ C s₀ H₀ ex,PE (X.Ü (own++frn) scope cl C s₀ H₀ ex) elt te)
  (I:Inv X Yp σ H1 s₂) (T:Turn X.prog X.w X.K target J fp it tn) (st0:tn 0 s₂.heap) (hf:∀ b∈fp,sJ X Yp H1 b) (hq:eK g tc te (ip ⇑own js σ) J H1 Q)
  (fin:∀ D C s' H' m,s₂.heap.objs.size<=C->Inv X Yp σ H' s'->s'.heap.Ns C m->sJ X Yp H' C->Q (.ref D) H'->RR (.ref D) C (.ok .next) s') :
  wpAny (model X.prog X.w) X.A (newList []) (fun acc s₃=>wpAny (model X.prog X.w) X.A (newFunctionEnv scope X.env.globals cl [] X.env.qual none .none (some X.env)) (fun cenv s₄ =>codeAny (model X.prog X.w) X.A (.compStart (.ListComp elt [⟨target,iter,ifs,0⟩] scope pos) 0 (.ref it) acc { cenv with scope:=relabel scope X.env }) (RR acc cenv.locals) s₄) E s₃) E s₂:=by
 have sub:=qg scope.names [] cl B.Ö (fun x c e=>by cases e);refine gr (wpAny_newFunctionEnv B.cell (by intro y hy;simp at hy) (fun h₁ hns₁ hsb₁=>?_) B.kind);dsimp only at hns₁ hsb₁ ⊢;generalize hH2:s₂.heap.push { cls:=.type "list",dict:=none,data:=.seq ([]:Zc).toArray }=H2 at hns₁ hsb₁ ⊢;have hC:H2.objs.size=s₂.heap.objs.size+1:=by rw[←hH2,jB]
 have hDC:s₂.heap.objs.size≠H2.objs.size:=by rw[hC];exact bw (lF _)
 have hCle:s₂.heap.objs.size<=H2.objs.size:=by rw[hC];exact ic _
 have below:∀ b,b<s₂.heap.objs.size->b≠H2.objs.size/\b≠s₂.heap.objs.size:=fun b hb=>⟨by rw[hC];exact bw (gi hb),bw hb⟩;have old:∀ b o,s₂.heap.get? b=some o->h₁.get? b=some o:=fun b o e=>hsb₁.extBut b o (below b (aQ e)).1 (aL _ (hH2 ▸ aL _ e));have hacc:h₁.get? s₂.heap.objs.size=some { cls:=.type "list",dict:=none,data:=.seq ([]:Zc).toArray }:=hsb₁.extBut _ _ hDC (aL _ (hH2 ▸ bo _ rfl));have hfo:∀ b∈fp,∃ o,s₂.heap.get? b=some o/\∀ v,o.data≠.cell v:=T.obj 0 _ st0;have D0:H1 s₂.heap.objs.size=none:=I.hok.fresh (aw _);have C0:H1 H2.objs.size=none:=I.hok.fresh hCle;obtain⟨W,⟨m0,w0⟩,turn⟩:=hq _ D0;have â:(X.Ü (own++frn) scope cl H2.objs.size s₂ H1 fp).Ok:=I.LP (N':=own++frn) B hCle hf fun b hb=>let ⟨o,e,_⟩:=hfo b hb;⟨o,e⟩;have I0:Inv (X.Ü (own++frn) scope cl H2.objs.size s₂ H1 fp) [] (ip ⇑own js σ) (upd H1 s₂.heap.objs.size (.lst [])) { s₂ with heap:=h₁,toks:=s₂.toks+⇑([]:List (Str×Value)) }:=by
  obtain⟨m,hn,hl⟩:=id I.loc;refine⟨â,rfl,I.bare,Un.laid old (aw _) D0,⟨_,hns₁,fun i x v e1 e2 e3=>?_⟩,fun x c e=>?_,?_,fun x c e=>?_,fun p hp=>?_,?_,?_⟩
  ·have e1:(own++frn)[i]?=some x:=e1;unfold ip at e2
   by_cases hik:i<⇑own
   ·rw[fH (by simpa using hik),List.getElem?_replicate,aq hik] at e2;cases e2
   ·rw[gg (by simpa using hik),List.length_replicate,aX] at e2;rw[gg ⋯] at e1;obtain⟨j,hj,hNj,hk⟩:=hfr.get e1;rw[hj] at e2;have e2':(σ[j]?).join=some v:=Option.some.inj e2;have e2'':σ[j]?=some (some v):=by
     cases q:σ[j]? with
     | none=>rw[q] at e2';cases e2'
     | some o=>rw[q] at e2';cases o with
      | none=>cases e2'
      | some y=>have:y=v:=Option.some.inj e2';rw[this]
    obtain⟨u,r,lk⟩:=hl j x v hNj e2'' (hk.elim (fun z=>.inr (.inl z)) fun z=>.inr (.inr z));refine⟨u,r,?_⟩;rcases lk with ⟨k1,_⟩ | ⟨_,c,hcl,hcell⟩
    ·rcases hk with z | z<;>(rw[k1] at z;cases z)
    ·have hx3:(compEnvC scope cl H2.objs.size X.env).kindOf x=some .local∨(compEnvC scope cl H2.objs.size X.env).kindOf x=some .cell∨(compEnvC scope cl H2.objs.size X.env).kindOf x=some .free:=e3;rcases hx3 with z | z
     ·exfalso;have z':(scope.names.map fun (n,k)=>if (k==NameKind.free&&X.env.scope.kind==.function&&X.env.kindOf n==some .cell) then (n,NameKind.cell) else (n,k)).lookup x=some .local:=z;rcases lV z' with q | ⟨q,_⟩
      ·exact hloc x (bT e1) (B.names _ q rfl)
      ·cases q
     ·obtain⟨c',hc'⟩:=â.has x z;have q:=sub x c' hc';rw[hcl] at q;have q':c=c':=Option.some.inj q;subst q';refine .inr ⟨z,c,hc',?_⟩;obtain⟨o,ho,hd⟩:=hcell;exact⟨o,old _ _ ho,hd⟩
  ·obtain⟨v,o,ho,hd⟩:=I.cell x c (sub x c e);exact⟨v,o,old _ _ ho,hd⟩
  ·show upd H1 _ _ H2.objs.size=none;rw[aN (Ne.symm hDC)];exact C0
  ·obtain⟨v,o,ho,hd⟩:=I.cell x c (sub x c e);rw[aN (below c (aQ ho)).2];exact I.freeC x c (sub x c e)
  ·cases hp
  ·exact I.hok.laid old (aw _) ⟨br _,[],_,.nil,hacc⟩
  ·unfold ip;show _=⇑(own++frn);rw[aE,aE,List.length_replicate,ak,hfr.len]
 -- the iterator's objects in the block
 have fpx:∀ {H:Hp},(∀ b∈fp,H b=none)->∀ b∈fp,sJ (X.Ü (own++frn) scope cl H2.objs.size s₂ H1 fp) [] H b:=fun {H} hn b hb=>by
  obtain⟨f0,f1,f2,f3,f4,f5⟩:=hf b hb;obtain⟨o,e,_⟩:=hfo b hb;refine⟨hn b hb,(below b (aQ e)).1,fun z=>?_,.inl hb,fun x c e=>f4 x c (sub x c e),fun p hp=>by cases hp⟩;rcases aY.mp (I.xO b z) with z | z
  ·exact f1 z
  ·exact f2 z
 have st1:tn 0 h₁:=T.keep _ _ _ st0 fun b _ o e=>old b o e;have fr0:∀ b∈fp,upd H1 s₂.heap.objs.size (.lst []) b=none:=fun b hb=>by obtain⟨o,e,_⟩:=hfo b hb;rw[aN (below b (aQ e)).2];exact (hf b hb).1
 have loop:codeAny (model X.prog X.w) X.A (.compLoop (.ListComp elt [⟨target,iter,ifs,0⟩] scope pos) 0 (.ref it) (.ref s₂.heap.objs.size) (compEnvC scope cl H2.objs.size X.env))
   (RR (.ref s₂.heap.objs.size) H2.objs.size) { s₂ with heap:=h₁,toks:=s₂.toks+⇑([]:List (Str×Value)) }:=by
  refine yb (fun n s'=>∃ i ys σ1 H,Inv (X.Ü (own++frn) scope cl H2.objs.size s₂ H1 fp) [] σ1 H s'/\tn i s'.heap/\(∀ b∈fp,H b=none)/\W i n ys σ1 H) ?_ m0 ⟨0,[],_,_,I0,st1,fr0,w0⟩;rintro n s3 ⟨i,ys,σ3,H3,I3,st3,fr3,w3⟩;obtain⟨hD3,hsz,alt⟩:=turn i n ys σ3 H3 w3;rcases alt with ⟨stop,qn⟩ | ⟨go,step⟩
  ·refine Â (T.done (X.Ü (own++frn) scope cl H2.objs.size s₂ H1 fp) rfl rfl rfl hc i [] s3 σ3 H3 _ I3 (fpx fr3) st3 stop) fun r s4 ⟨hr,I4⟩=>?_;subst hr;obtain⟨m,hn,_⟩:=id I4.loc;have hch:∀ b∈fp,(b∈X.ex∨X.s₀.heap.objs.size<=b)/\b≠X.env.locals/\(∀ x c,X.env.cells.lookup x=some c->c≠b)/\∀ p∈X.pn++Yp,p.1≠b:=fun b hb=>by
    obtain⟨f0,f1,f2,f3,f4,f5⟩:=hf b hb;exact⟨f3,f1,f4,f5⟩
   have IX:Inv X Yp σ H3 s4:=I.J3 I4.os I4.base I4.hok I4.bare hch;exact fin _ _ s4 H3 m hCle IX hn (I.vk hCle I4.free) qn
  ·refine Â (T.item (X.Ü (own++frn) scope cl H2.objs.size s₂ H1 fp) rfl rfl rfl hc i [] s3 σ3 H3 _ I3 (fpx fr3) st3 go) fun r s4 ⟨u,hr,h4⟩=>?_;subst hr;refine Â h4 fun _ s5 ⟨x,H5,I5,r5,y5,st5,fr5⟩=>?_;have I5':=I5.pinned (fpx fr5) (T.obj _ _ st5);refine Â (hg _ _ _ _ _ s5 σ3 H5 x u _ I5' r5 (step x H5 y5)) fun _ s6 ⟨σ6,H6,I6,q6⟩=>?_;refine Â (hi _ _ _ _ _ s6 σ6 H6 _ I6 q6) fun b s7 ⟨H7,I7,q7⟩=>?_;have again:∀ {ys':List V}{H8:Hp}{s8:Zg}{m':Nat},Inv (X.Ü (own++frn) scope cl H2.objs.size s₂ H1 fp) ([]++uH fp s5.heap) σ6 H8 s8->m'<n->W (i+1) m' ys' σ6 H8 →
     ∃ m,m<n/\∃ i ys σ1 H,Inv (X.Ü (own++frn) scope cl H2.objs.size s₂ H1 fp) [] σ1 H s8/\tn i s8.heap/\(∀ b∈fp,H b=none)/\W i m ys σ1 H:=fun {ys' H8 s8 m'} I8 hm w8=>by
    refine⟨m',hm,i+1,ys',σ6,H8,I8.qL,T.keep _ _ _ st5 fun b hb o e=>(I8.pin (b,o) (eD _ (eD _ (lT hb e)))).1,fun b hb=>?_,w8⟩;obtain⟨o,e,d⟩:=T.obj _ _ st5 b hb;exact (I8.pin (b,o) (eD _ (eD _ (lT hb e)))).2.1
   cases b with
   | false =>rw[ai bP] at q7 ⊢;obtain⟨m',hm,w7⟩:=q7;exact again I7 hm w7
   | true =>rw[aq rfl] at q7 ⊢;refine Â (he _ _ _ _ _ s7 σ6 H7 _ I7 q7) fun v s8 ⟨y,H8,I8,r8,hD8,m',hm,w8⟩=>?_;refine Â (dI (X:=X.Ü (own++frn) scope cl H2.objs.size s₂ H1 fp) _ s8 σ6 H8 (.ref s₂.heap.objs.size) [y] _ [v] (fun _ H9=>W (i+1) m' (ys++[y]) σ6 H9) I8 rfl (.cons r8 .nil) ⟨_,ys,y,rfl,rfl,hD8,hsz,w8⟩) fun _ s9 ⟨_,H9,I9,_,w9⟩=>?_;exact again I9 hm w9
 exact codeAny_compStart_list loop (T.self X.A 0 _ _ _ st1 loop)
end
def ę (k:Nat) (js:Za) (wi:TI) (g:TG) (tc:TT) (te:TE):TE:=fun σ H Q=>wi σ H fun J H1=>eK g tc te (ip k js σ) J H1 Q
section
variable {X:Cx}
theorem fZ {elt target iter:Expr}{ifs:List Expr}{pos:Pos}{wi:TI}{g:TG}{tc:TT}{te:TE} (own:Ze) (hc:X.calm=true) (B:Bz X scope cl) (hfr:tF X frn js)
  (hloc:∀ x∈frn,scope.names.lookup x≠some .local) (hi:PI X target iter wi)
  (hg:∀ C s₀ H₀ ex,PG (X.Ü (own++frn) scope cl C s₀ H₀ ex) target g) (hif:∀ C s₀ H₀ ex,ý (X.Ü (own++frn) scope cl C s₀ H₀ ex) ifs tc) (he:∀ C s₀ H₀ ex,PE (X.Ü (own++frn) scope cl C s₀ H₀ ex) elt te)
  (hs:∀ x,foldedSetIterable iter X.env x=pure x:=by intro _;rfl):PE X (.ListComp elt [⟨target,iter,ifs,0⟩] scope pos) (ę ⇑own js wi g tc te):=by
 intro Yp s σ H Q I h;rw[eval_ListComp];refine wpAny_comprehension_free (use:=none) rfl hs (jk B.Ö) B.kind B.names (Â (hi Yp s σ H _ I h) fun v s1 h1=>Â h1 fun itv s2 h2=>?_);obtain⟨it,fp,tn,J,H2,e,I2,T,st2,f2,hq⟩:=h2;subst e;refine BA (RR:=fun acc C=>compPost (model X.prog X.w) X.A X.xe none (EP X Yp σ Q) acc C) hc B hfr hloc hg hif he I2 T st2 f2 hq ?_;intro D C s' H' m hC I' hn fC q;exact⟨m,hn,fun h' sb=>⟨.ref D,H',I'.turned (t':=s'.toks) (fun b o hb e=>(sb.2 b hb).trans e) fC.1 fC.2.1 fC.2.2.2.1 fC.2.2.2.2.1 fC.2.2.2.2.2,rfl,q⟩⟩
theorem mQ {elt target iter:Expr}{ifs:List Expr}{scope:Scope}{pos py spos:Pos}{y:Str}{cl:List (Str×Addr)}{frn:Ze}{js:Za}{wi:TI}{g:TG}{tc:TT}{te:TE} (own:Ze) (hN:X.N.Nodup) (hiy:X.N[i]?=some y)
  (hy:Loc X.env.scope y) (hc:X.calm=true) (B:Bz X scope cl) (hfr:tF X frn js)
  (hloc:∀ x∈frn,scope.names.lookup x≠some .local) (hi:PI X target iter wi)
  (hg:∀ C s₀ H₀ ex,PG (X.Ü (own++frn) scope cl C s₀ H₀ ex) target g) (hif:∀ C s₀ H₀ ex,ý (X.Ü (own++frn) scope cl C s₀ H₀ ex) ifs tc) (he:∀ C s₀ H₀ ex,PE (X.Ü (own++frn) scope cl C s₀ H₀ ex) elt te)
  (hsw:swapsWith (.ListComp elt [⟨target,iter,ifs,0⟩] scope pos) (some (.Name y py)) spos.line X.env=pure true:=by rfl)
  (hs:∀ x,foldedSetIterable iter X.env x=pure x:=by intro _;rfl)
  (hf:X.fn y=true∨X.env.scope.names.lookup y=some .local:=by first | exact .inl rfl | exact .inr rfl | assumption) :
  PS X (.Assign [.Name y py] (.ListComp elt [⟨target,iter,ifs,0⟩] scope pos) spos) (Es (ę ⇑own js wi g tc te) (eR i)):=by
 intro Yp s σ H D I h;rw[exec_Assign_Name_used _ _ _ _ hsw];refine ae (wpAny_standAt (ae ?_));show wpAny _ X.A (do let _ ←comprehension (.ListComp elt [⟨target,iter,ifs,0⟩] scope pos) scope X.env _ (newList []) false (eval iter X.env) (some (assign (.Name y py) X.env))) _ _ s;refine ae (cu (wpAny_comprehension_free (use:=some (assign (.Name y py) X.env)) (Q:=fun _ s'=>SP X Yp D .next s') rfl hs (jk B.Ö) B.kind B.names
  (Â (hi Yp s σ H _ I h) fun v s1 h1=>Â h1 fun itv s2 h2=>?_)) (fun _ s' hq=>au (au hq)) fun _ _ e=>e)
 obtain⟨it,fp,tn,J,H2,e,I2,T,st2,f2,hq⟩:=h2;subst e;refine BA (Q:=fun x H1=>D.nx (σ.set i (some x)) H1) (RR:=fun acc C=>compPost (model X.prog X.w) X.A X.xe (some (assign (.Name y py) X.env)) (fun _ s'=>SP X Yp D .next s') acc C) hc B hfr hloc hg hif he I2 T st2 f2 hq ?_;intro L C s' H' m hC I' hn fC q;show wpAny _ X.A (assign (.Name y py) X.env (.ref L)) _ _ _;refine wpAny_assign_Name (wq (v:=.ref L) I' hN hiy hy rfl (fun s'' I'' ⟨a,sb,ha⟩=>?_) hf);have hCa:C≠a:=by
  rcases ha with z | z
  ·rw[z];exact fC.2.1
  ·exact fun e=>fC.2.2.2.2.1 y a z e.symm
 exact⟨m,hn.sameBut sb hCa,fun h' sb'=>⟨_,H',I''.turned (t':=s''.toks) (fun b o hb e=>(sb'.2 b hb).trans e) fC.1 fC.2.1 fC.2.2.2.1 fC.2.2.2.2.1 fC.2.2.2.2.2,q⟩⟩
end
def It.Seq (J:It) (H1:Hp) (xs:List V):Prop :=
 ∀ H,aB H1 H->(∀ i x,xs[i]?=some x->J.go i H/\∀ y H',J.yld i H y H'->H'=H/\y=x)/\∀ i,⇑xs<=i->J.stop i H
theorem eU (h:Ã K H1 a xs):(ç K a).Seq H1 xs:=fun H s =>⟨fun i x e=>⟨⟨xs,x,s.seq h,e⟩,fun y H' ⟨e1,e2⟩=>⟨e1,Option.some.inj ((e2 xs (s.seq h)).symm.trans e)⟩⟩,fun i hi=>⟨xs,s.seq h,hi⟩⟩
theorem wj {n:Nat}:(ß lo n).Seq H1 ((List.range n).map fun (k:Nat)=>V.int (lo+(k:Int))):=fun H s=>by
 refine⟨fun i x e=>?_,fun i hi=>?_⟩
 ·have hi:i<n:=by
   have:=(bL.mp e).1
   simpa using this
  rw[aX,lx hi] at e;have e':V.int (lo+(i:Int))=x:=Option.some.inj e;exact⟨hi,fun y H' ⟨e1,e2⟩=>⟨e1,by rw[e2,e']⟩⟩
 ·show n<=i
  simpa using hi
theorem aB.cf {H H':Hp} (h:aB H H') (hn:H a=none):aB H (upd H' a o):=fun b u e=>by rw[aN (aW e hn)];exact h b u e
theorem wW {js:Za}{σ:St}{tc:TT}{te:TE}{Q:VK} (hJ:J.Seq H1 xs) (hl:⇑xs<sizeLine) (p:V->Bool) (f:V->V)
  (hc:∀ x∈xs,∀ H,aB H1 H->∀ R:Bool->Hp->Prop,(∀ H',aB H H'->R (p x) H')->tc (some x::js.map fun j=>(σ[j]?).join) H R)
  (he:∀ x∈xs,p x=true->∀ H,aB H1 H->∀ R:VK,(∀ H',aB H H'->R (f x) H')->te (some x::js.map fun j=>(σ[j]?).join) H R)
  (q:∀ D H,H1 D=none->aB H1 H->H D=some (.lst ((xs.filter p).map f))->Q (.ref D) H):eK (eR 0) tc te (ip 1 js σ) J H1 Q:=by
 intro D hD;refine⟨fun i m ys σ1 H=>m=⇑xs-i/\i<=⇑xs/\(∃ o,σ1=o::js.map fun j=>(σ[j]?).join)/\ys=((xs.take i).filter p).map f/\aB H1 H/\H D=some (.lst ys),
  ⟨⇑xs,by simp,br _,⟨none,rfl⟩,by simp,(aB.refl H1).cf hD,aI⟩,?_⟩
 rintro i m ys σ1 H ⟨rfl,hi,⟨o,rfl⟩,rfl,sH,hL⟩;have hlen:⇑(((xs.take i).filter p).map f)<sizeLine:=by
  rw[ak];have h1:=ly p (xs.take i);have h2:⇑(xs.take i)<=⇑xs:=by rw[cP];left
  left
 refine⟨hL,hlen,?_⟩
 by_cases hlt:i<⇑xs
 ·have e:xs[i]?=some xs[i]:=by simp [hlt]
  obtain⟨go,yl⟩:=(hJ H sH).1 i xs[i] e;refine .inr ⟨go,fun x H' y=>?_⟩;obtain⟨e1,e2⟩:=yl x H' y;subst e1 e2;have hm:xs[i]∈xs:=cj hlt;have htk:xs.take (i+1)=xs.take i++[xs[i]]:=by rw[lE,e];rfl
  show tc (some xs[i]::js.map fun j=>(σ[j]?).join) H' _;refine hc xs[i] hm H' sH _ fun H3 s3=>?_;cases hp:p xs[i] with
  | false =>rw[ai bP];refine⟨⇑xs-(i+1),⋯,rfl,hlt,⟨_,rfl⟩,?_,sH.trans s3,s3 _ _ hL⟩;rw[htk,jE];simp [hp]
  | true =>rw[aq rfl];refine he xs[i] hm hp H3 (sH.trans s3) _ fun H4 s4=>?_;refine⟨s4 _ _ (s3 _ _ hL),⇑xs-(i+1),⋯,rfl,hlt,⟨_,rfl⟩,?_,((sH.trans s3).trans s4).cf hD,aI⟩;rw[htk,jE];simp [hp]
 ·have e:i=⇑xs:=⋯
  subst e;refine .inl ⟨(hJ H sH).2 _ (aw _),q D H hD sH ?_⟩;rw[nS] at hL;exact hL
theorem A3 {js:Za}{σ:St}{te:TE}{Q:VK} (hJ:J.Seq H1 xs) (hl:⇑xs<sizeLine) (f:V->V)
  (he:∀ x∈xs,∀ H,aB H1 H->∀ R:VK,(∀ H',aB H H'->R (f x) H')->te (some x::js.map fun j=>(σ[j]?).join) H R)
  (q:∀ D H,H1 D=none->aB H1 H->H D=some (.lst (xs.map f))->Q (.ref D) H):eK (eR 0) xQ te (ip 1 js σ) J H1 Q :=
 wW hJ hl (fun _=>true) f (fun x _ H _ R hR=>hR H (aB.refl H)) (fun x hx _ H s R hR=>he x hx H s R hR) fun D H h1 h2 h3=>q D H h1 h2 (by rw[List.filter_eq_self.mpr (fun _ _=>rfl)] at h3;exact h3)
end
section
section
variable {X:Cx}
def Hm (i j:Int):Prop:=i.natAbs<2^1000/\j.natAbs<2^1000
theorem IL:É X (binaryOp .Mult) (rI Hm fun i j=>.int (i*j)):=ą fun _ _ _ _ _ _ _ hc q =>mul_int q (IntMulOk.of_bits (bM (intBits_le_iff.mpr hc.1) Zd) (bM (intBits_le_iff.mpr hc.2) Zd))
def L6 (_ j:Int):Prop:=0<j/\j<2^1000
theorem FW:É X (binaryOp .FloorDiv) (rI L6 fun i j=>.int (i/j)):=ą fun i j _ _ _ _ _ hc q=>by
 have h1:(0:Int)<j:=hc.1;have h2:j<2^1000:=hc.2;have h3:j.natAbs<2^1000:=by
  have e:((j.natAbs:Nat):Int)=j:=Int.natAbs_of_nonneg ⋯;have e2:((2^1000:Nat):Int)=(2:Int)^1000:=by rw[Int.natCast_pow];rfl
  left
 refine floordiv_int ⋯ (by rw[Int.fdiv_eq_ediv_of_nonneg i ⋯];exact q) (.inl (PyProof.noPylong_of_log2 ?_));have h4:j.natAbs≠0:=⋯
 exact bK ((Nat.log2_lt h4).mpr h3) Zd
theorem FY:É X (compareOp .Is) (fun x y H Q=>∃ a b,x=.bl a/\y=.bl b/\Q (.bl (a==b)) H):=by intro Yp s σ H x y v u Q I rx ry h;obtain⟨a,b,rfl,rfl,q⟩:=h;cases rx;cases ry;exact is_bool (cg I q rfl)
theorem zc:É X (compareOp .IsNot) (fun x y H Q=>∃ a b,x=.bl a/\y=.bl b/\Q (.bl (a != b)) H):=by intro Yp s σ H x y v u Q I rx ry h;obtain⟨a,b,rfl,rfl,q⟩:=h;cases rx;cases ry;exact isnot_bool (cg I q rfl)
def Nh (K:Zf):List V->Hp->VK->Prop:=fun xs H Q=>∃ x t c b,xs=[x,.ty c]/\oZ K H x t/\PySem.W.kitOne K t (.type c)=some b/\Q (.bl b) H
theorem EO:dy X (.builtin "isinstance") (Nh X.K):=by intro Yp s σ H xs us Q I r h;obtain⟨x,t,c,b,rfl,ty,e,q⟩:=h;obtain⟨u,w',rfl,ru,rw'⟩:=vals2 r;obtain rfl:w'=Value.type c:=rw';exact isinst_ok I ru ty e fun tk=>⟨.bl b,H,I.tok tk,rfl,q⟩
noncomputable def oK:List V->List V->Bool
 | [],[]=>true
 | x::xs,y::ys=>Ú x y&&oK xs ys
 | _,_=>false
theorem tQ:∀ {xs ys:List V},⇑xs≠⇑ys->oK xs ys=false
 | [],[],h=>absurd rfl h
 | [],_::_,_=>rfl
 | _::_,[],_=>rfl
 | x::xs,y::ys,h=>by have h':⇑xs≠⇑ys:=fun e=>h (by rw[bH,bH,e]);show (Ú x y&&oK xs ys)=false;rw[tQ h',Bool.and_false]
theorem lQ:∀ {xs ys:List V},⇑xs=⇑ys->(List.range ⇑xs).all (fun j=>Ú (xs.getD j .non) (ys.getD j .non))=oK xs ys
 | [],[],_=>rfl
 | [],_::_,h=>by cases h
 | _::_,[],h=>by cases h
 | x::xs,y::ys,h=>by
  have h':⇑xs=⇑ys:=by simpa using h
  rw[bH,List.range_succ_eq_map,jC,ia];show (Ú x y&&(List.range ⇑xs).all (fun j=>Ú (xs.getD j .non) (ys.getD j .non)))=(Ú x y&&oK xs ys);rw[lQ h']
def Mq (K:Zf) (neg:Bool):R2:=fun x y H Q=>∃ a b xs ys,x=.ref a/\y=.ref b/\Ã K H a xs/\Ã K H b ys/\xs.all dM=true/\ys.all dM=true/\Q (.bl (if neg then !oK xs ys else oK xs ys)) H
theorem tP {A:Around}{s:Zg}{xs ys:List V}{us vs:Zc} (r1:Vals xs us) (r2:Vals ys vs) (f1:xs.all dM=true) (f2:ys.all dM=true) (j:Nat) (h1:j<us.toArray.size) (h2:j<vs.toArray.size) :
  SeqAt.EqAt A s us.toArray[j] vs.toArray[j] (Ú (xs.getD j .non) (ys.getD j .non)):=by
 have l1:=⇑r1;have l2:=⇑r2;rw[bc] at h1 h2;have e1:xs[j]?=some (xs[j]'⋯):=by simp [show j<⇑xs by left]
 have e2:ys[j]?=some (ys[j]'⋯):=by simp [show j<⇑ys by left]
 obtain⟨u,hu,ru⟩:=r1.get e1;obtain⟨v,hv,rv⟩:=r2.get e2;have hu':us.toArray[j]=u:=by
  have:=bL.mp hu
  simpa using this.2
 have hv':vs.toArray[j]=v:=by
  have:=bL.mp hv
  simpa using this.2
 rw[hu',hv',aK,aK,e1,e2];exact pz ru rv (bY.mp f1 _ (cj _)) (bY.mp f2 _ (cj _))
theorem KP (hu:X.A.units<cLine):É X (compareOp .Eq) (Mq X.K false):=by
 intro Yp s σ H x y v u Q I rx ry h;obtain⟨a,b,xs,ys,rfl,rfl,ha,hb,f1,f2,q⟩:=h;cases rx;cases ry;obtain⟨us,r1,p1,_⟩:=I.list ha;obtain⟨vs,r2,p2,_⟩:=I.list hb;have l1:=⇑r1;have l2:=⇑r2
 by_cases hl:⇑xs=⇑ys
 ·refine SeqAt.eq_listAt p1.isList p2.isList (by simp only[bc];left) hu (fun j h1 h2=>tP r1 r2 f1 f2 j h1 h2) ⟨.bl _,H,I,rfl,?_⟩;rw[bc,←l1,lQ hl];exact q
 ·refine SeqAt.eq_list_lengthsAt p1.isList p2.isList (by simp only[bc,bne_iff_ne,ne_eq];left) hu ⟨.bl _,H,I,rfl,?_⟩;have e:=tQ hl;rw[ai bP,e] at q;exact q
theorem KZ (hu:X.A.units<cLine):É X (compareOp .NotEq) (Mq X.K true):=by
 intro Yp s σ H x y v u Q I rx ry h;obtain⟨a,b,xs,ys,rfl,rfl,ha,hb,f1,f2,q⟩:=h;cases rx;cases ry;obtain⟨us,r1,p1,_⟩:=I.list ha;obtain⟨vs,r2,p2,_⟩:=I.list hb;have l1:=⇑r1;have l2:=⇑r2
 by_cases hl:⇑xs=⇑ys
 ·refine SeqAt.RcNeAt.lists p1.isList p2.isList (by simp only[bc];left) hu (fun j h1 h2=>tP r1 r2 f1 f2 j h1 h2) _ _ _ _ ⟨.bl _,H,I,rfl,?_⟩;rw[bc,←l1,lQ hl];exact q
 ·refine SeqAt.RcNeAt.lists_lengths p1.isList p2.isList (by simp only[bc,bne_iff_ne,ne_eq];left) hu _ _ _ _ ⟨.bl _,H,I,rfl,?_⟩;have e:=tQ hl;rw[aq rfl,e] at q;exact q
theorem Vals.bools:∀ {bs:List Bool}{us:Zc},Vals (bs.map V.bl) us->us=bs.map Value.bool
 | [],_,.nil=>rfl
 | b::bs,_::_,.cons r t=>by
  cases (show _=Value.bool b from r)
  rw[bI,Vals.bools t]
theorem all_range (bs:List Bool):(List.range ⇑bs).all (fun i=>bs.getD i false)=bs.all id:=by
 induction bs with
 | nil=>rfl
 | cons b r ih =>rw[bH,List.range_succ_eq_map,jC,ia,jC];show (b&&(List.range ⇑r).all (fun i=>r.getD i false))=_;rw[ih];rfl
theorem z7 (bs:List Bool) (A:Around) (P:Zh) (w:Zi):TruthOf P w A (fun i v=>(bs.map Value.bool).toArray[i]?=some v) (fun i=>bs.getD i false):=fun i v s Q E hP hQ=>by
 have e:(bs[i]?).map Value.bool=some v:=by simpa using hP
 cases q:bs[i]? with
 | none=>rw[q] at e;cases e
 | some b =>
  rw[q] at e;have e':Value.bool b=v:=Option.some.inj e;subst e';have hb:bs.getD i false=b:=by rw[aK,q];rfl
  have hQ':Q (bs.getD i false) s:=hQ;rw[hb] at hQ';exact ik hQ'
def Mo (K:Zf):List V->Hp->VK->Prop:=fun vs H Q=>∃ (a:Addr) (bs:List Bool),vs=[.ref a]/\Ã K H a (bs.map V.bl)/\Q (.bl (bs.all id)) H
theorem CK (hc:X.calm=true):dy X (.builtin "all") (Mo X.K):=by
 intro Yp s σ H xs us Q I r h;obtain⟨a,bs,rfl,hq,q⟩:=h;obtain⟨u,rfl,ru⟩:=vals1 r;cases ru;obtain⟨its,rv,p,hz⟩:=I.list hq;obtain rfl:=rv.bools;have ha:a<s.heap.objs.size:=by obtain⟨o,e,_⟩:=p.isList;exact aQ e
 refine call_all_walk (wpAny_pyIter_list p.isList ⟨s.heap.objs.size,_,_,_,_,_,fun i=>bs.getD i false,rfl,Walks.list (A:=X.A.in1) (I.ok.hd hc) _ a (bw ha) _,⟨⟨_,bo _ rfl,rfl,rfl⟩,p.isList.push _⟩,z7 bs _ _ _,fun h' tk hk=>?_⟩);refine⟨.bl (bs.all id),H,I.kept fun b o e=>hk b o (fun z=>?_) (aL _ e),?_,q⟩
 ·have z':b=s.heap.objs.size:=by simpa using z
  exact absurd (aQ e) (by rw[z'];exact gh _)
 ·show Value.bool _=Value.bool _;rw[←all_range bs];simp
def Mx (K:Zf):List V->Hp->VK->Prop:=fun vs H Q=>∃ (a:Addr) (ns:Zb),vs=[.ref a]/\Ã K H a (ns.map V.int)/\Q (.int ns.sum) H
theorem CV (hc:X.calm=true):dy X (.builtin "sum") (Mx X.K):=by intro Yp s σ H xs us Q I r h;obtain⟨a,ns,rfl,hq,q⟩:=h;obtain⟨u,rfl,ru⟩:=vals1 r;cases ru;obtain⟨its,rv,p,hz⟩:=I.list hq;have hi:IntsAre its ns:=intsAre_of rv;obtain⟨zs,hzs⟩:=hi.allInts.items;have hl:=p.isList;rw[hzs] at hl;refine sum_intListG (I.ok.hd hc) hl fun h' tk t' hk=>⟨.int ns.sum,H,I.kept hk,⟨t',?_⟩,q⟩;have e1:numsOf (intItems zs).toList=zs.toList.map (·.1):=nums_intItems zs;rw[←hzs] at e1;have e2:numsOf its=ns:=hi.numsOf;rw[preSum_eq,eY (by simp),←e1];show Value.int (numsOf its).sum t'=_;rw[e2]
def Mv:List V->Hp->VK->Prop:=fun vs H Q=>∃ j:Int,vs=[.int j]/\∀ p,H p=none->Q (.ref p) (upd H p (.rng 0 j))
theorem CQ:dy X (.type "range") Mv:=by intro Yp s σ H xs us Q I r h;obtain⟨j,rfl,q⟩:=h;obtain⟨u,rfl,t,rfl⟩:=vals1 r;refine call_range_1 ?_;exact⟨.ref s.heap.objs.size,_,I.laid (fun b ob e=>aL _ e) (aw _) (show bX X.prog X.w _ _ _ (.rng 0 j) from ⟨_,_,_,bo _ rfl⟩),rfl,q _ (I.hok.fresh (aw _))⟩
noncomputable def uM (lo:Int) (n:Nat):List V:=(List.range n).map fun (k:Nat)=>V.int (lo+(k:Int))
theorem Bw {n:Nat}{acc:Array Value} (h:ItemsOf (fun (i:Nat) v=>∃ t,v=Value.int (lo+(i:Int)*1) t) acc n):Vals (uM lo n) acc.toList:=by
 obtain⟨hs,hi⟩:=h;have key:∀ (xs:Zc) (m:Nat),(∀ j v,xs[j]?=some v->∃ t,v=Value.int (lo+((m+j:Nat):Int)) t)->Vals ((List.range' m ⇑xs).map fun (k:Nat)=>V.int (lo+(k:Int))) xs:=by
  intro xs
  induction xs with
  | nil=>intro m _;exact .nil
  | cons x r ih =>
   intro m hx;rw[bH,List.range'_succ,bI];refine .cons ?_ (ih (m+1) fun j v e=>?_)
   ·obtain⟨t,e⟩:=hx 0 x rfl;exact⟨t,by simpa using e⟩
   ·obtain⟨t,e'⟩:=hx (j+1) v (by simpa using e);exact⟨t,by rw[e'];congr 2;left⟩
 have:=key acc.toList 0 fun j v e=>by obtain⟨t,e'⟩:=hi j v (by simpa using e);exact⟨t,by rw[e',Int.mul_one,Nat.zero_add]⟩
 rw[eP,hs,←List.range_eq_range'] at this;exact this
def Gx:List V->Hp->VK->Prop:=fun vs H Q=>∃ a lo hi,vs=[.ref a]/\H a=some (.rng lo hi)/\(-(2^62)<=lo/\lo<2^62/\-(2^62)<=hi/\hi<2^62)/\(hi-lo).toNat<=2^20/\∀ p,H p=none->Q (.ref p) (upd H p (.lst (uM lo (hi-lo).toNat)))
theorem wM (hc:X.calm=true):dy X (.type "list") Gx:=by
 intro Yp s σ H xs us Q I r h;obtain⟨a,lo,hi,rfl,ha,⟨h1,h2,h3,h4⟩,hn,q⟩:=h;obtain⟨u,rfl,ru⟩:=vals1 r;cases ru;obtain⟨t,u,v,e⟩:=(show bX X.prog X.w H s.heap a (.rng lo hi) from I.hok a _ ha);refine call_list_range (n:=(hi-lo).toNat) (I.ok.hd hc) e (small_one h1 h2 h3 h4) (by rw[rangeSize_one];split<;>left) ⋯ fun h' tk acc c hk hS hacc=>?_;have hv:=Bw hacc;have hlen:⇑(uM lo (hi-lo).toNat)<=sizeLine:=by unfold uM;rw[ak,bZ];exact bM hn Zd
 exact⟨.ref s.heap.objs.size,_,I.laid hk (aw _) (show bX X.prog X.w _ _ _ (.lst (uM lo (hi-lo).toNat)) from ⟨hlen,acc.toList,c,hv,by simpa using hS⟩),rfl,q _ (I.hok.fresh (aw _))⟩
theorem Inv.Cy {t':Nat} (I:Inv X Yp σ H s) (hf:∀ b∈ch,sJ X Yp H b) (k:∀ b o,b∉ch->s.heap.get? b=some o->h'.get? b=some o) :
  Inv X Yp σ H { s with heap:=h',toks:=t' }:=by
 have nch:∀ b u,H b=some u->b∉ch:=fun b u e z=>by rw[(hf b z).1] at e;cases e
 refine I.step (g':=s.gens) (d':=s.drawn) (ch:=ch) (fun b hb=>?_) (fun b o _ _ hc e _=>k b o hc e) (fun b o _ _ hc e _=>⟨o.slots,k b o hc e⟩) (fun _ _ _ _ n=>n) (fun b o hc e=>⟨o,k b o hc e⟩) (fun _ _ e=>e) (fun _ _ _ e=>e)
  (fun b ps e=>⟨#[],by rw[e];simp⟩) (fun m hm=>?_) (fun b u e=>?_) I.bare
 ·obtain⟨_,f1,_,f3,f4,f5⟩:=hf b hb;exact⟨f3,f1,f4,f5⟩
 ·obtain⟨o,es,ep,ho,r⟩:=hm;exact⟨o,es,ep,k _ o (fun z=>(hf _ z).2.1 rfl) ho,r⟩
 ·refine (I.hok b u e).pZ (fun c v hc q=>k c v ?_ q) (fun _ q=>q) fun _ _ q=>q;rcases hc with z | z
  ·rw[z];exact nch b u e
  ·exact nch c _ z
theorem Inv.Cz {h':Heap}{t':Nat}{T:Addr}{o':HO} (I:Inv X Yp σ H s) (hf:∀ b∈ch,sJ X Yp H b)
  (k:∀ b o,b∉ch->s.heap.get? b=some o->h'.get? b=some o) (hk2:∀ b o,s.heap.get? b=some o->∃ o',h'.get? b=some o') (hT:s.heap.objs.size<=T) (new:bX X.prog X.w (upd H T o') h' T o') :
  Inv X Yp σ (upd H T o') { s with heap:=h',toks:=t' }:=by
 have nch:∀ b u,H b=some u->b∉ch:=fun b u e z=>by rw[(hf b z).1] at e;cases e
 have hTn:H T=none:=I.hok.fresh hT;have neT:∀ b o,s.heap.get? b=some o->b≠T:=fun b o e=>bw (bK (aQ e) hT);refine I.step (g':=s.gens) (d':=s.drawn) (ch:=ch) (fun b hb=>?_) (fun b o _ _ hc e _=>k b o hc e) (fun b o _ _ hc e _=>⟨o.slots,k b o hc e⟩) (fun b o _ e n=>by rw[aN (neT b o e)];exact n) (fun b o hc e=>⟨o,k b o hc e⟩)
  (fun b xs e=>by rw[aN (aW e hTn)];exact e) (fun b u xs e=>by rw[aN (aW e hTn)];exact e) (fun b ps e=>⟨#[],by rw[aN (aW e hTn),e];simp⟩) (fun m hm=>?_) (fun b u e=>?_) I.bare
 ·obtain⟨_,f1,_,f3,f4,f5⟩:=hf b hb;exact⟨f3,f1,f4,f5⟩
 ·obtain⟨o,es,ep,ho,r⟩:=hm;exact⟨o,es,ep,k _ o (fun z=>(hf _ z).2.1 rfl) ho,r⟩
 ·by_cases hb:b=T
  ·subst hb;rw[aI] at e;cases e;exact new
  ·rw[aN hb] at e;refine (I.hok b u e).pZ (fun c v hc q=>k c v ?_ q) (fun c q=>by rw[aN (aW q hTn)];exact q) fun c xs q=>by rw[aN (aW q hTn)];exact q
   rcases hc with z | z
   ·rw[z];exact nch b u e
   ·exact nch c _ z
end
noncomputable def ó (K:Zf) (a b:Addr):It :=
 ⟨fun i H=>∃ xs ys x y,Ã K H a xs/\Ã K H b ys/\xs[i]?=some x/\ys[i]?=some y,
  fun i H v H'=>∃ x y p,(∀ xs,Ã K H a xs->xs[i]?=some x)/\(∀ ys,Ã K H b ys->ys[i]?=some y)/\v=.ref p/\H p=none/\H'=upd H p (.tup [x,y]),
  fun i H=>∃ xs ys,Ã K H a xs/\Ã K H b ys/\(⇑xs<=i∨⇑ys<=i)⟩
theorem C6 {a b z TI TO i1 i2:Addr} (st:IsZip h z TI TO .none/\IsPair h TI (.ref i1) (.ref i2)/\(∃ x y,IsPair h TO x y)/\h.IsListIter i1 a i/\h.IsListIter i2 b i):∀ c∈[z,TI,TO,i1,i2],∃ o,h.get? c=some o/\∀ v,o.data≠.cell v:=fun c hc=>by
 obtain⟨hz,hTI,⟨x,y,hTO⟩,⟨o1,e1,c1,d1⟩,⟨o2,e2,c2,d2⟩⟩:=st;simp only[aY,dS,dX] at hc;rcases hc with rfl | rfl | rfl | rfl | rfl
 ·exact⟨_,hz,fun v q=>by have q':Data.fields _=Data.cell v:=q;cases q'⟩
 ·exact⟨_,hTI,fun v q=>by have q':Data.seq _ _=Data.cell v:=q;cases q'⟩
 ·exact⟨_,hTO,fun v q=>by have q':Data.seq _ _=Data.cell v:=q;cases q'⟩
 ·exact⟨o1,e1,fun v q=>by rw[d1] at q;cases q⟩
 ·exact⟨o2,e2,fun v q=>by rw[d2] at q;cases q⟩
theorem Hh {k:Nat} (a b z TI TO i1 i2:Addr) (D:ZipApart z TI TO i1 i2 a b):Turn P w K (.Tuple elts k pos) (ó K a b) [z,TI,TO,i1,i2] z
  (fun i h=>IsZip h z TI TO .none/\IsPair h TI (.ref i1) (.ref i2)/\(∃ x y,IsPair h TO x y)/\h.IsListIter i1 a i/\h.IsListIter i2 b i) where
 mem:=by simp
 obj:=fun i h st=>C6 st
 keep:=fun i h h' st k=>by obtain⟨hz,hTI,⟨x,y,hTO⟩,h1,h2⟩:=st;exact⟨k z (by simp) _ hz,k TI (by simp) _ hTI,⟨x,y,k TO (by simp) _ hTO⟩,h1.at fun o e=>k i1 (by simp) o e,h2.at fun o e=>k i2 (by simp) o e⟩
 item:=by
  intro X hP hw hK hc i Yp s σ H E I hf st hg;subst hP hw hK;obtain⟨xs,ys,x,y,hx,hy,ex,ey⟩:=hg;obtain⟨us,r1,p1,_⟩:=I.list hx;obtain⟨vs,r2,p2,_⟩:=I.list hy;obtain⟨u,hu,ru⟩:=r1.get ex;obtain⟨v,hv,rv⟩:=r2.get ey;obtain⟨hz,hTI,⟨ta,tb,hTO⟩,h1,h2⟩:=id st;refine wpAny_pyNext_zip_item D hz hTI hTO h1 h2 p1.isList p2.isList (x:=u) (y:=v) (by simpa using hu) (by simpa using hv) fun h' a1 a2 a3 a4 a5 a6 a7=>?_;refine⟨_,rfl,wpAny_letOwnedTupleGo_zip (s:={ s with heap:=h' }) a1 fun h'' b1 b2=>?_⟩;have b2':Heap.SameBut z h' h'':=b2;have ne:∀ c∈[z,TI,TO,i1,i2],c<s.heap.objs.size:=fun c hc=>by obtain⟨o,e,_⟩:=C6 st c hc;exact aQ e
  have kk:∀ c o,c∉[z,TI,TO,i1,i2]->s.heap.get? c=some o->h''.get? c=some o:=fun c o hc e=>by simp only[aY,dS,dX,not_or] at hc;exact (b2'.2 c hc.1).trans (a7 c o hc.1 hc.2.2.1 hc.2.2.2.1 hc.2.2.2.2 e)
  have hT:h''.get? s.heap.objs.size=some { cls:=.type "tuple",data:=.seq #[u,v] }:=(b2'.2 _ (jI (ne z (by simp)))).trans a5;have I1:Inv X Yp σ (upd H s.heap.objs.size (.tup [x,y])) { s with heap:=h'' }:=by
   refine I.Cz (t':=s.toks) (ch:=[z,TI,TO,i1,i2]) hf kk (fun c o e=>?_) (aw _) (show bX X.prog X.w _ h'' _ (.tup [x,y]) from ⟨by show 2<=sizeLine;decide,[u,v],.cons ru (.cons rv .nil),⟨_,hT,rfl,_,rfl⟩⟩)
   by_cases hc:c∈[z,TI,TO,i1,i2]
   ·simp only[aY,dS,dX] at hc;rcases hc with rfl | rfl | rfl | rfl | rfl
    ·exact⟨_,b1⟩
    ·exact⟨_,(b2'.2 _ D.TIz).trans (a7 _ _ D.TIz D.TITO D.TIi1 D.TIi2 hTI)⟩
    ·exact⟨_,(b2'.2 _ D.TOz).trans a2⟩
    ·obtain⟨o1,e1,_⟩:=a3;exact⟨_,(b2'.2 _ D.i1z).trans e1⟩
    ·obtain⟨o2,e2,_⟩:=a4;exact⟨_,(b2'.2 _ D.i2z).trans e2⟩
   ·exact⟨_,kk c o hc e⟩
  refine⟨.ref s.heap.objs.size,_,I1,rfl,⟨x,y,_,fun zs hz=>by rw[I.qo hz hx];exact ex,fun zs hz=>by rw[I.qo hz hy];exact ey,rfl,I.hok.fresh (aw _),rfl⟩,⟨b1,(b2'.2 _ D.TIz).trans (a7 _ _ D.TIz D.TITO D.TIi1 D.TIi2 hTI),⟨u,v,(b2'.2 _ D.TOz).trans a2⟩,a3.at fun o e=>(b2'.2 _ D.i1z).trans e,a4.at fun o e=>(b2'.2 _ D.i2z).trans e⟩,fun c hc=>?_⟩;rw[aN (bw (ne c hc))];exact (hf c hc).1
 done:=by
  intro X hP hw hK hc i Yp s σ H E I hf st hg;subst hP hw hK;obtain⟨xs,ys,hx,hy,hl⟩:=hg;obtain⟨us,r1,p1,_⟩:=I.list hx;obtain⟨vs,r2,p2,_⟩:=I.list hy;obtain⟨hz,hTI,⟨ta,tb,hTO⟩,h1,h2⟩:=id st;have l1:=⇑r1;have l2:=⇑r2;refine wpAny_pyNext_zip_end (I.ok.hd hc) D hz hTI hTO h1 h2 p1.isList p2.isList ?_ fun h' kk=>⟨rfl,I.Cy (t':=s.toks) (ch:=[z,TI,TO,i1,i2]) hf fun c o hc e=>?_⟩
  ·rcases hl with hl | hl
   ·exact .inl (by simp;left)
   ·exact .inr (by simp;left)
  ·simp only[aY,dS,dX,not_or] at hc;exact kk c o hc.1 hc.2.2.1 hc.2.2.2.1 hc.2.2.2.2 e
 self:=fun _ _ _ _ _ st h=>wpAny_pyIter_zip st.1 h
section
variable {X:Cx}
def Iq (K:Zf) (ta:TA):TI:=fun σ H R=>ta σ H fun vs H1=>∃ a b,vs=[.ref a,.ref b]/\(∃ xs,Ã K H1 a xs)/\(∃ ys,Ã K H1 b ys)/\R (ó K a b) H1
theorem boot_zip:bootBuiltins "zip"=some (.type "zip"):=by ext
theorem Ll {elts:List Expr}{k:Nat}{tpos:Pos}{a b:Expr}{p pos:Pos} (hg:Gl X "zip") (hm:X.mg "zip"=none) (ha:PA X [a,b] ta) (hs:starEach [a,b] X.env=[(false,eval a X.env),(false,eval b X.env)]:=by rfl)
  (hs2:starEach [b] X.env=[(false,eval b X.env)]:=by rfl):PI X (.Tuple elts k tpos) (.Call (.Name "zip" p) [a,b] [] pos) (Iq X.K ta):=by
 intro Yp s σ H R I h;refine Call_ (mG I hg hm boot_zip (lH (Â (ha pos Yp s σ H _ I h) fun us s1 ⟨vs,H1,I1,r1,q1⟩=>?_) (by rw[hs,hs2]) (by rw[hs2];rfl)));obtain⟨l1,l2,e,⟨xs,hx⟩,⟨ys,hy⟩,q⟩:=q1;subst e;cases r1 with
 | cons r rr =>
  cases rr with
  | cons r' rr =>
   cases rr
   cases r
   cases r'
   obtain⟨us,_,p1,_⟩:=I1.list hx;obtain⟨vs,_,p2,_⟩:=I1.list hy;have a1:l1<s1.heap.objs.size:=by obtain⟨o,e,_⟩:=p1.isList;exact aQ e
   have a2:l2<s1.heap.objs.size:=by obtain⟨o,e,_⟩:=p2.isList;exact aQ e
   refine call_zip_2 p1.isList p2.isList fun h' hz hTI hTO hi1 hi2 hsz hk=>wpAny_pyIter_zip (s:={ s1 with heap:=h' }) hz ?_;have I2:Inv X Yp σ H1 { s1 with heap:=h' }:=I1.kept (t':=s1.toks) hk;refine⟨_,[s1.heap.objs.size+4,s1.heap.objs.size+2,s1.heap.objs.size+3,s1.heap.objs.size,s1.heap.objs.size+1],_,_,H1,rfl,I2,Hh l1 l2 _ _ _ _ _ (zipApart_new a1 a2),⟨hz,hTI,⟨_,_,hTO⟩,hi1,hi2⟩,fun c hc=>?_,q⟩;have hle:s1.heap.objs.size<=c:=by simp only[aY,dS,dX] at hc;rcases hc with rfl | rfl | rfl | rfl | rfl<;>left
   exact I1.vk hle (I1.hok.fresh hle)
end
theorem KC {a b:Addr}{xs ys:List V}{js:Za}{σ:St}{te:TE}{Q:VK} (hx:Ã K H1 a xs) (hy:Ã K H1 b ys) (hl:⇑xs<sizeLine) (f:V->V->V)
  (he:∀ x y,(x,y)∈xs.zip ys->∀ H,aB H1 H->∀ R:VK,(∀ H',aB H H'->R (f x y) H')->te (some x::some y::js.map fun j=>(σ[j]?).join) H R)
  (q:∀ D H,H1 D=none->aB H1 H->H D=some (.lst ((xs.zip ys).map fun p=>f p.1 p.2))->Q (.ref D) H):eK (Av K 2 (mx (eR 0) (mx (eR 1) Au))) xQ te (ip 2 js σ) (ó K a b) H1 Q:=by
 intro D hD;refine⟨fun i m zs σ1 H=>m=⇑(xs.zip ys)-i/\i<=⇑(xs.zip ys)/\(∃ o1 o2,σ1=o1::o2::js.map fun j=>(σ[j]?).join)/\zs=((xs.zip ys).take i).map (fun p=>f p.1 p.2)/\aB H1 H/\H D=some (.lst zs),
  ⟨⇑(xs.zip ys),by simp,br _,⟨none,none,rfl⟩,by simp,(aB.refl H1).cf hD,aI⟩,?_⟩
 rintro i m zs σ1 H ⟨rfl,hi,⟨o1,o2,rfl⟩,rfl,sH,hL⟩;have hzl:⇑(xs.zip ys)=min ⇑xs ⇑ys:=List.length_zip;have hlen:⇑(((xs.zip ys).take i).map fun p=>f p.1 p.2)<sizeLine:=by rw[ak,cP];left
 refine⟨hL,hlen,?_⟩
 by_cases hlt:i<⇑(xs.zip ys)
 ·have h1:i<⇑xs:=⋯
  have h2:i<⇑ys:=⋯
  refine .inr ⟨⟨xs,ys,xs[i],ys[i],sH.seq hx,sH.seq hy,by simp [h1],by simp [h2]⟩,fun v H' hyl=>?_⟩;obtain⟨x,y,p,hx',hy',rfl,hp,rfl⟩:=hyl;have ex:=hx' xs (sH.seq hx);have ey:=hy' ys (sH.seq hy);have ez:(xs.zip ys)[i]?=some (x,y):=zip_get ex ey;have hm:(x,y)∈xs.zip ys:=bT ez;have htk:(xs.zip ys).take (i+1)=(xs.zip ys).take i++[(x,y)]:=by rw[lE,ez];rfl
  have hpD:D≠p:=aW hL hp;refine⟨p,[x,y],rfl,Ó.of aI,rfl,x,[y],rfl,y,[],rfl,rfl,?_⟩;show te (some x::some y::js.map fun j=>(σ[j]?).join) _ _;have s1:aB H1 (upd H p (.tup [x,y])):=sH.cf (sH.free hp);refine he x y hm _ s1 _ fun H4 s4=>?_;refine⟨s4 _ _ (by rw[aN hpD];exact hL),⇑(xs.zip ys)-(i+1),⋯,rfl,hlt,⟨_,_,rfl⟩,?_,(s1.trans s4).cf hD,aI⟩;rw[htk,bD];rfl
 ·have e:i=⇑(xs.zip ys):=⋯
  subst e;refine .inl ⟨⟨xs,ys,sH.seq hx,sH.seq hy,⋯⟩,q D H hD sH ?_⟩;rw[nS] at hL;exact hL
end
section
section
variable {X:Cx}
def nw (H:Hp) (o:HO) (Q:VK):Prop:=∀ p H',H p=none->aB H H'->H' p=some o->Q (.ref p) H'
theorem eT (hn:H a=none):aB H (upd H a o):=fun b u e=>by rw[aN (aW e hn)];exact e
theorem nw.go (h:nw H o Q) (p:Addr) (hp:H p=none):Q (.ref p) (upd H p o):=h p _ hp (eT hp) aI
def Ci:R2:=fun x y H Q=>match x,y with
 | .int i,.int j=>Q (.int (i+j)) H
 | .str a,.str b=>⇑a+⇑b<=sizeLine/\Q (.str (a++b)) H
 | .ref l,.ref b=>∃ xs zs,H l=some (.lst xs)/\H b=some (.lst zs)/\⇑xs+⇑zs<=sizeLine/\nw H (.lst (xs++zs)) Q
 | _,_=>False
theorem aZ:É X (binaryOp .Add) Ci:=by
 intro Yp s σ H x y v u Q I rx ry h;cases x with
 | int i=>cases y with
  | int j=>exact KN Yp s σ H _ _ v u Q I rx ry ⟨_,_,rfl,rfl,h⟩
  | _=>exact False.elim h
 | str a=>cases y with
  | str b=>exact AM Yp s σ H _ _ v u Q I rx ry ⟨_,_,rfl,rfl,h.1,h.2⟩
  | _=>exact False.elim h
 | ref l=>cases y with
  | ref b =>obtain⟨xs,zs,h1,h2,h3,h4⟩:=h;exact KO Yp s σ H _ _ v u Q I rx ry ⟨_,_,xs,zs,rfl,rfl,h1,h2,h3,h4.go⟩
  | _=>exact False.elim h
 | _=>exact False.elim h
def JJ:R2:=fun x y H Q=>match x,y with
 | .int i,.int j=>Q (.int (i-j)) H
 | _,_=>False
theorem fi:É X (binaryOp .Sub) JJ:=by
 intro Yp s σ H x y v u Q I rx ry h;cases x with
 | int i=>cases y with
  | int j=>exact Ld Yp s σ H _ _ v u Q I rx ry ⟨_,_,rfl,rfl,h⟩
  | _=>exact False.elim h
 | _=>exact False.elim h
def Gz:R2:=fun x y H Q=>match x,y with
 | .int i,.int j=>Hm i j/\Q (.int (i*j)) H
 | .ref l,.int k=>∃ xs,H l=some (.lst xs)/\-(2^63)<=k/\k<2^63/\⇑xs*k.toNat<=sizeLine/\nw H (.lst (List.replicate k.toNat xs).flatten) Q
 | _,_=>False
theorem lU:É X (binaryOp .Mult) Gz:=by
 intro Yp s σ H x y v u Q I rx ry h;cases x with
 | int i=>cases y with
  | int j=>exact IL Yp s σ H _ _ v u Q I rx ry ⟨_,_,rfl,rfl,h.1,h.2⟩
  | _=>exact False.elim h
 | ref l=>cases y with
  | int k =>obtain⟨xs,h1,h2,h3,h4,h5⟩:=h;exact Lc Yp s σ H _ _ v u Q I rx ry ⟨_,_,xs,rfl,rfl,h1,h2,h3,h4,h5.go⟩
  | _=>exact False.elim h
 | _=>exact False.elim h
def Gs:R2:=fun x y H Q=>match x,y with
 | .int i,.int j=>(0<j/\j<2^1000)/\Q (.int (i/j)) H
 | _,_=>False
theorem eS:É X (binaryOp .FloorDiv) Gs:=by
 intro Yp s σ H x y v u Q I rx ry h;cases x with
 | int i=>cases y with
  | int j=>exact FW Yp s σ H _ _ v u Q I rx ry ⟨_,_,rfl,rfl,h.1,h.2⟩
  | _=>exact False.elim h
 | _=>exact False.elim h
def JE:R2:=fun x y H Q=>match x,y with
 | .int i,.int j=>0<j/\Q (.int (i%j)) H
 | _,_=>False
theorem b0:É X (binaryOp .Mod) JE:=by
 intro Yp s σ H x y v u Q I rx ry h;cases x with
 | int i=>cases y with
  | int j=>exact KW Yp s σ H _ _ v u Q I rx ry ⟨_,_,rfl,rfl,h.1,h.2⟩
  | _=>exact False.elim h
 | _=>exact False.elim h
def JG:R2:=fun x y H Q=>match x,y with
 | .int i,.int j=>(0<=j/\j<=1000000/\i.natAbs<2^64)/\Q (.int (i^j.toNat)) H
 | _,_=>False
theorem jb:É X (binaryOp .Pow) JG:=by
 intro Yp s σ H x y v u Q I rx ry h;cases x with
 | int i=>cases y with
  | int j=>exact Lb Yp s σ H _ _ v u Q I rx ry ⟨_,_,rfl,rfl,h.1,h.2⟩
  | _=>exact False.elim h
 | _=>exact False.elim h
def wg (f:Int->Int->Bool):R2:=fun x y H Q=>match x,y with
 | .int i,.int j=>Q (.bl (f i j)) H
 | _,_=>False
theorem tj {op:CmpOp}{f:Int->Int->Bool} (h0:É X (compareOp op) (ë fun i j=>.bl (f i j))):É X (compareOp op) (wg f):=by
 intro Yp s σ H x y v u Q I rx ry h;cases x with
 | int i=>cases y with
  | int j=>exact h0 Yp s σ H _ _ v u Q I rx ry ⟨_,_,rfl,rfl,h⟩
  | _=>exact False.elim h
 | _=>exact False.elim h
abbrev Nn:R2:=wg fun i j=>decide (i<j)
abbrev Nm:R2:=wg fun i j=>decide (i<=j)
abbrev Ng:R2:=wg fun i j=>decide (j<i)
abbrev Nf:R2:=wg fun i j=>decide (j<=i)
theorem rM:É X (compareOp .Lt) Nn:=tj Mh
theorem iQ:É X (compareOp .LtE) Nm:=tj Mg
theorem AN:É X (compareOp .Gt) Ng:=tj Mf
theorem FX:É X (compareOp .GtE) Nf:=tj Me
def Gr (K:Zf):R2:=fun x y H Q=>match x,y with
 | .int i,.int j=>Q (.bl (decide (i=j))) H
 | .bl i,.bl j=>Q (.bl (decide (i=j))) H
 | .str i,.str j=>Q (.bl (decide (i=j))) H
 | .ref a,.ref b=>∃ xs ys,Ã K H a xs/\Ã K H b ys/\xs.all dM=true/\ys.all dM=true/\Q (.bl (oK xs ys)) H
 | _,_=>False
def Eh (K:Zf):R2:=fun x y H Q=>match x,y with
 | .int i,.int j=>Q (.bl (!decide (i=j))) H
 | .bl i,.bl j=>Q (.bl (!decide (i=j))) H
 | .str i,.str j=>Q (.bl (!decide (i=j))) H
 | .ref a,.ref b=>∃ xs ys,Ã K H a xs/\Ã K H b ys/\xs.all dM=true/\ys.all dM=true/\Q (.bl (!oK xs ys)) H
 | _,_=>False
theorem yg (i j:Int):decide (V.int i=V.int j)=decide (i=j):=by
 by_cases e:i=j
 ·subst e;simp
 ·rw[aF e];exact aF fun h=>e (V.int.inj h)
theorem BG (i j:Bool):decide (V.bl i=V.bl j)=decide (i=j):=by
 by_cases e:i=j
 ·subst e;simp
 ·rw[aF e];exact aF fun h=>e (V.bl.inj h)
theorem yh (i j:Str):decide (V.str i=V.str j)=decide (i=j):=by
 by_cases e:i=j
 ·subst e;simp
 ·rw[aF e];exact aF fun h=>e (V.str.inj h)
theorem KR (hu:X.A.units<cLine):É X (compareOp .Eq) (Gr X.K):=by
 intro Yp s σ H x y v u Q I rx ry h;cases x with
 | int i=>cases y with
  | int j=>exact FV Yp s σ H _ _ v u Q I rx ry ⟨rfl,by rw[yg];exact h⟩
  | _=>exact False.elim h
 | bl i=>cases y with
  | bl j=>exact FV Yp s σ H _ _ v u Q I rx ry ⟨rfl,by rw[BG];exact h⟩
  | _=>exact False.elim h
 | str i=>cases y with
  | str j=>exact FV Yp s σ H _ _ v u Q I rx ry ⟨rfl,by rw[yh];exact h⟩
  | _=>exact False.elim h
 | ref a=>cases y with
  | ref b =>obtain⟨xs,ys,h1,h2,h3,h4,h5⟩:=h;exact KP hu Yp s σ H _ _ v u Q I rx ry ⟨_,_,xs,ys,rfl,rfl,h1,h2,h3,h4,h5⟩
  | _=>exact False.elim h
 | _=>exact False.elim h
theorem La (hu:X.A.units<cLine):É X (compareOp .NotEq) (Eh X.K):=by
 intro Yp s σ H x y v u Q I rx ry h;cases x with
 | int i=>cases y with
  | int j=>exact Ga Yp s σ H _ _ v u Q I rx ry ⟨rfl,by rw[yg];exact h⟩
  | _=>exact False.elim h
 | bl i=>cases y with
  | bl j=>exact Ga Yp s σ H _ _ v u Q I rx ry ⟨rfl,by rw[BG];exact h⟩
  | _=>exact False.elim h
 | str i=>cases y with
  | str j=>exact Ga Yp s σ H _ _ v u Q I rx ry ⟨rfl,by rw[yh];exact h⟩
  | _=>exact False.elim h
 | ref a=>cases y with
  | ref b =>obtain⟨xs,ys,h1,h2,h3,h4,h5⟩:=h;exact KZ hu Yp s σ H _ _ v u Q I rx ry ⟨_,_,xs,ys,rfl,rfl,h1,h2,h3,h4,h5⟩
  | _=>exact False.elim h
 | _=>exact False.elim h
noncomputable def ĉ:V->V->Option Bool
 | .non,.non=>some true
 | .bl _,.non=>some false
 | .int _,.non=>some false
 | .str _,.non=>some false
 | .ref _,.non=>some false
 | .bl a,.bl b=>some (a==b)
 | _,_=>none
def Eg (neg:Bool):R2:=fun x y H Q=>match ĉ x y with
 | some b=>Q (.bl (b != neg)) H
 | none=>False
theorem jq:É X (compareOp .Is) (Eg false):=by
 intro Yp s σ H x y v u Q I rx ry h;cases x<;>cases y<;>first
  | exact False.elim h
  | exact KU Yp s σ H _ _ v u Q I rx ry ⟨rfl,h⟩
  | exact FY Yp s σ H _ _ v u Q I rx ry ⟨_,_,rfl,rfl,by simpa [Eg,ĉ] using h⟩
theorem oy:É X (compareOp .IsNot) (Eg true):=by
 intro Yp s σ H x y v u Q I rx ry h;cases x<;>cases y<;>first
  | exact False.elim h
  | exact IM Yp s σ H _ _ v u Q I rx ry ⟨rfl,h⟩
  | exact zc Yp s σ H _ _ v u Q I rx ry ⟨_,_,rfl,rfl,by simpa [Eg,ĉ,bne] using h⟩
def Sq (K:Zf) (H:Hp) (a:Addr) (xs:List V):Prop:=Ã K H a xs∨Ó K H a xs
theorem Sq.l (h:H a=some (.lst xs)):Sq K H a xs:=.inl (.of h)
theorem Sq.t (h:H a=some (.tup xs)):Sq K H a xs:=.inr (.of h)
def Jh (K:Zf):R2:=fun x y H Q=>match x,y with
 | .ref p,.int i=>∃ xs v,Sq K H p xs/\Õ xs i=some v/\Q v H
 | .str z,.int i=>⇑z<=sizeLine/\∃ c,Õ z.cps.toList i=some c/\Q (.str ⟨#[c]⟩) H
 | _,_=>False
theorem MX:û X (Jh X.K):=by
 intro value slice Yp s σ H x y v u Q I rx ry h hs;cases x with
 | ref p=>cases y with
  | int i =>
   obtain⟨xs,w',h1 | h1,h2,h3⟩:=h
   ·exact Iu value slice Yp s σ H _ _ v u Q I rx ry ⟨_,xs,_,w',rfl,rfl,h1,h2,h3⟩ hs
   ·exact K2 value slice Yp s σ H _ _ v u Q I rx ry ⟨_,xs,_,w',rfl,rfl,h1,h2,h3⟩ hs
  | _=>exact False.elim h
 | str z=>cases y with
  | int i =>obtain⟨h1,c,h2,h3⟩:=h;exact K1 value slice Yp s σ H _ _ v u Q I rx ry ⟨z,i,c,rfl,rfl,h1,h2,h3⟩ hs
  | _=>exact False.elim h
 | _=>exact False.elim h
def Cm (K:Zf):List V->Hp->VK->Prop:=fun vs H Q=>match vs with
 | [.str z]=>⇑z<=sizeLine/\Q (.int ⇑z) H
 | [.ref p]=>∃ xs,Sq K H p xs/\Q (.int ⇑xs) H
 | _=>False
theorem CN:dy X (.builtin "len") (Cm X.K):=by
 intro Yp s σ H xs us Q I r h
 match xs,h with
 | [.str z],h=>exact wL Yp s σ H _ us Q I r ⟨z,rfl,h.1,h.2⟩
 | [.ref p],h =>obtain⟨ys,h1,h2⟩:=h;exact wK Yp s σ H _ us Q I r ⟨p,ys,rfl,h1,h2⟩
def JA:List V->Hp->VK->Prop:=fun vs H Q=>match vs with
 | [.int i]=>Q (.int (i.natAbs:Int)) H
 | _=>False
theorem kM:dy X (.builtin "abs") JA:=by
 intro Yp s σ H xs us Q I r h;rcases xs with _ | ⟨x0,t⟩
 ·exact h.elim
 cases x0<;>try exact h.elim
 cases t<;>try exact h.elim
 next i =>
  refine EN Yp s σ H _ us Q I r ⟨i,rfl,?_⟩;have e:(if i<0 then -i else i)=((i.natAbs:Nat):Int):=by split<;>left
  rw[e];exact h
def JD:List V->Hp->VK->Prop:=fun vs H Q=>match vs with
 | [.int i,.int j]=>Q (.int (max i j)) H
 | _=>False
theorem CP (hc:X.calm=true):dy X (.builtin "max") JD:=by
 intro Yp s σ H xs us Q I r h;rcases xs with _ | ⟨x0,t⟩
 ·exact h.elim
 cases x0<;>try exact h.elim
 rcases t with _ | ⟨x1,t⟩
 ·exact h.elim
 cases x1<;>try exact h.elim
 cases t<;>try exact h.elim
 next i j =>
  refine CO hc Yp s σ H _ us Q I r ⟨i,j,rfl,?_⟩;have e:(if j>i then j else i)=max i j:=by rw[Int.max_def];split<;>split<;>left
  rw[e];exact h
def AV (K:Zf):List V->Hp->VK->Prop:=fun vs H Q=>match vs with
 | [.ref a]=>∃ ys,(Sq K H a ys∨∃ lo hi,H a=some (.rng lo hi)/\(-(2^62)<=lo/\lo<2^62/\-(2^62)<=hi/\hi<2^62)/\(hi-lo).toNat<=2^20/\ys=uM lo (hi-lo).toNat)/\nw H (.lst ys) Q
 | _=>False
theorem zK (hc:X.calm=true):dy X (.type "list") (AV X.K):=by
 intro Yp s σ H xs us Q I r h;rcases xs with _ | ⟨x0,t⟩
 ·exact h.elim
 cases x0<;>try exact h.elim
 cases t<;>try exact h.elim
 next a =>
  obtain⟨ys,h1 | ⟨lo,hi,h1,h2,h3,rfl⟩,h4⟩:=h
  ·exact wN Yp s σ H _ us Q I r ⟨a,ys,rfl,h1,h4.go⟩
  ·exact wM hc Yp s σ H _ us Q I r ⟨a,lo,hi,rfl,h1,h2,h3,h4.go⟩
def JH:List V->Hp->VK->Prop:=fun vs H Q=>match vs with
 | [.int j]=>nw H (.rng 0 j) Q
 | _=>False
theorem CS:dy X (.type "range") JH:=by
 intro Yp s σ H xs us Q I r h;rcases xs with _ | ⟨x0,t⟩
 ·exact h.elim
 cases x0<;>try exact h.elim
 cases t<;>try exact h.elim
 next j=>exact CQ Yp s σ H _ us Q I r ⟨j,rfl,nw.go h⟩
theorem bt_isinstance:bootBuiltins "isinstance"=some (.builtin "isinstance"):=by ext
theorem tJ:bootBuiltins "abs"=some (.builtin "abs"):=by ext
theorem bz:bootBuiltins "len"=some (.builtin "len"):=by ext
theorem pj:bootBuiltins "all"=some (.builtin "all"):=by ext
theorem EM:bootBuiltins "sum"=some (.builtin "sum"):=by ext
theorem Kr:bootBuiltins "max"=some (.builtin "max"):=by ext
theorem CJ:bootBuiltins "sorted"=some (.builtin "sorted"):=by ext
theorem EK:bootBuiltins "range"=some (.type "range"):=by ext
theorem fP:bootBuiltins "list"=some (.type "list"):=by ext
theorem xX:bootBuiltins "tuple"=some (.type "tuple"):=by ext
theorem zI:bootBuiltins "int"=some (.type "int"):=by ext
theorem tK:bootBuiltins "str"=some (.type "str"):=by ext
theorem HP:bootBuiltins "bool"=some (.type "bool"):=by ext
theorem EL:bootBuiltins "set"=some (.type "set"):=by ext
theorem wJ:bootBuiltins "enumerate"=some (.type "enumerate"):=by ext
theorem Mm (hg:Gl X x) (hm:X.mg x=none) (hv:bootBuiltins x=some (.type T)) (hn:x≠"__name__":=by decide) (hd:(x==("__debug__":Str))=false:=by decide):PE X (.Name x pos) (tC (.ty T)) :=
 IS hg hm hv rfl hn hd
structure Ä (P:Zh) (w:Zi) (K:Zf) (mg:Zk) (base:Heap) (CX:Ï) (k:Nat) (x:Str) (ps:Ze) (sp:Sp):Prop where
 ex:∃ (f:Addr) (fd:FuncData),bF P w K mg base CX k f fd ps sp/\mg x=some (.ref f)/\PySem.W.keepIn K (.ref f)=true/\Binds K fd ps []
theorem Gd {E:St->XK}{k:Nat}{t:TA}{p pos:Pos} (C:Ä X.prog X.w X.K X.mg X.base CX k x ps sp) (hx:Passes CX X E) (hr:cU k X.A) (hg:Gl X x) (ha:PA X (e::es) t)
  (hd:(x==("__debug__":Str))=false:=by decide)
  (he:starEach (e::es) X.env=(false,eval e X.env)::starEach es X.env:=by rfl) (hpl:(backTo pos (starEach es X.env)).any (·.1)=false:=by rfl):PE X (.Call (.Name x p) (e::es) [] pos) (Cs sp [] E t):=by
 obtain⟨f,fd,F,hm,hk,hb⟩:=C.ex;exact IT F hr hg hm hk hb .nil hx ha hd he hpl
end
def gK (g:TG) (tb:TS) (D:Ends) (J:It) (σ:St) (H:Hp):Prop:=∃ W:Nat->Nat->St->Hp->Prop,(∃ m,W 0 m σ H)/\∀ i m σ H,W i m σ H →
 (J.stop i H/\D.nx σ H)∨(J.go i H/\∃ N:St->Hp->Prop,(∀ σ' H',N σ' H'->∃ m',m'<m/\W (i+1) m' σ' H')/\∀ x H',J.yld i H x H'->g x σ H' fun σ2 H2=>tb { D with nx:=N,ct:=N,bk:=D.nx } σ2 H2)
theorem Im {lo:Int}{n:Nat}{g:TG}{tb:TS}{D:Ends} (Pv:Nat->St->Hp->Prop) (h0:Pv 0 σ H)
  (hs:∀ i σ H,i<n->Pv i σ H->g (.int (lo+i)) σ H fun σ2 H2=>tb { D with nx:=Pv (i+1),ct:=Pv (i+1),bk:=D.nx } σ2 H2) (hd:∀ σ H,Pv n σ H->D.nx σ H):gK g tb D (ß lo n) σ H:=DA Pv h0 hs hd
theorem sY {g:TG}{tb:TS}{D:Ends} (Pv:Nat->St->Hp->Prop) (h0:Pv 0 σ H) (hl:∀ i σ H,i<=⇑xs->Pv i σ H->Ã K H a xs)
  (hs:∀ i x σ H,xs[i]?=some x->Pv i σ H->g x σ H fun σ2 H2=>tb { D with nx:=Pv (i+1),ct:=Pv (i+1),bk:=D.nx } σ2 H2) (hd:∀ σ H,Pv ⇑xs σ H->D.nx σ H):gK g tb D (ç K a) σ H:=Fm Pv h0 hl hs hd
def JP (t:TA):TE:=fun σ H Q=>t σ H fun xs H1=>⇑xs<=sizeLine/\nw H1 (.lst xs) Q
def JT (t:TA):TE:=fun σ H Q=>t σ H fun xs H1=>⇑xs<=sizeLine/\nw H1 (.tup xs) Q
def GZ:TE:=fun _ H Q=>nw H (.dK []) Q
theorem cb {t:TA} (h:PA X es t):PE X (.List es pos) (JP t):=by intro Yp s σ H Q I hq;refine wpAny_List_spliced (Â (h pos Yp s σ H _ I hq) fun us s1 ⟨xs,H1,I1,r,z,q⟩=>⟨by rw[←⇑r];exact z,?_⟩);have hf:H1 s1.heap.objs.size=none:=I1.hok.fresh (aw _);refine⟨.ref s1.heap.objs.size,upd H1 s1.heap.objs.size (.lst xs),I1.laid (t':=s1.toks) (fun b u e=>aL _ e) (aw _) ?_,rfl,nw.go q _ hf⟩;exact⟨z,us,0,r,bo _ rfl⟩
theorem dw {t:TA}{x1} (h:PA X es t):PE X (.Tuple es x1 pos) (JT t):=by intro Yp s σ H Q I hq;refine wpAny_Tuple_spliced (Â (h pos Yp s σ H _ I hq) fun us s1 ⟨xs,H1,I1,r,z,q⟩=>⟨by rw[←⇑r];exact z,?_⟩);have hf:H1 s1.heap.objs.size=none:=I1.hok.fresh (aw _);refine⟨.ref s1.heap.objs.size,upd H1 s1.heap.objs.size (.tup xs),I1.laid (t':=s1.toks) (fun b u e=>aL _ e) (aw _) ?_,rfl,nw.go q _ hf⟩;exact⟨z,us,r,⟨_,bo _ rfl,rfl,_,rfl⟩⟩
theorem ze :PE X (.Dict [] [] pos) GZ:=fun Yp s σ H Q I h=>Gh Yp s σ H Q I (nw.go h)
section
variable {σ:St}{H:Hp}{Q:VK}{D:Ends}
theorem dF {t u:TS}:Hg t u D σ H=t { D with nx:=u D } σ H:=propext Iff.rfl
theorem Kd {te:TE}{g:TG}:Es te g D σ H=te σ H fun x H1=>g x σ H1 D.nx:=propext Iff.rfl
theorem fX {i:Nat}{v:V}{R:St->Hp->Prop}:eR i v σ H R=R (σ.set i (some v)) H:=propext Iff.rfl
theorem Kp {i:Nat}:vd i σ H Q=∃ v,σ[i]?=some (some v)/\Q v H:=propext Iff.rfl
theorem MV {v:V}:tC v σ H Q=Q v H:=propext Iff.rfl
theorem LK {r:R2}{ta tb:TE}:ö r ta tb σ H Q=ta σ H fun x H1=>tb σ H1 fun y H2=>r x y H2 Q:=propext Iff.rfl
theorem LN {r:V->Hp->VK->Prop}{ta:TE}:tUn r ta σ H Q=ta σ H fun x H1=>r x H1 Q:=propext Iff.rfl
theorem LH {r:List V->Hp->VK->Prop}{t:TA}:Ā r t σ H Q=t σ H fun vs H1=>r vs H1 Q:=propext Iff.rfl
theorem Hv {ta:TE}{tr:TA}{R:List V->Hp->Prop}:wu ta tr σ H R=ta σ H fun x H1=>tr σ H1 fun xs H2=>R (x::xs) H2:=propext Iff.rfl
theorem Ki {R:List V->Hp->Prop}:Bp σ H R=R [] H:=propext Iff.rfl
theorem Hu {sp:Sp}{E:St->XK}{t:TA}:Cs sp [] E t σ H Q=t σ H fun vs H1=>sp vs H1 Q (E σ):=by show (t σ H fun vs H1=>sp (vs++[]) H1 Q (E σ))=_;simp only[dQ]
theorem Km {te:TE}:Lz te D σ H=te σ H D.rt:=propext Iff.rfl
theorem LI {c:TT}{t u:TS}:Ly c t u D σ H=c σ H fun b H1=>if b=true then t D σ H1 else u D σ H1:=propext Iff.rfl
theorem HG:Hf D σ H=D.nx σ H:=propext Iff.rfl
theorem Hz {te:TE}:JN te D σ H=te σ H fun _ H1=>D.nx σ H1:=propext Iff.rfl
theorem HK {t:TE}{R:Bool->Hp->Prop}:z6 t σ H R=t σ H fun x H'=>∃ k,x=.bl k/\R k H':=propext Iff.rfl
theorem MU {t:TE}{R:Bool->Hp->Prop}:tB t σ H R=t σ H fun x H'=>∃ k,x=.bl k/\R k H':=propext Iff.rfl
theorem Kj {t:TT}{R:Bool->Hp->Prop}:M5 t σ H R=t σ H fun c H1=>R (!c) H1:=propext Iff.rfl
theorem Kc {t u:TT}{R:Bool->Hp->Prop}:M0 t u σ H R=t σ H fun c H1=>if c=true then u σ H1 R else R false H1:=propext Iff.rfl
theorem LL {t u:TT}{R:Bool->Hp->Prop}:tOr t u σ H R=t σ H fun c H1=>if c=true then R true H1 else u σ H1 R:=propext Iff.rfl
theorem Ht {ta tb:TE}:JM ta tb σ H Q=ta σ H fun x H1=>∃ c,x=.bl c/\if c=true then tb σ H1 Q else Q (.bl false) H1:=propext Iff.rfl
theorem Kk {ta tb:TE}:M6 ta tb σ H Q=ta σ H fun x H1=>∃ c,x=.bl c/\if c=true then Q (.bl true) H1 else tb σ H1 Q:=propext Iff.rfl
theorem HH {ta:TE}:JR ta σ H Q=ta σ H fun x H1=>∃ c,x=.bl c/\Q (.bl (!c)) H1:=propext Iff.rfl
theorem Kg {t:TT}{ta tb:TE}:Ę t ta tb σ H Q=t σ H fun c H1=>if c=true then ta σ H1 Q else tb σ H1 Q:=propext Iff.rfl
theorem Kh {t:TA}:JP t σ H Q=t σ H fun xs H1=>⇑xs<=sizeLine/\nw H1 (.lst xs) Q:=propext Iff.rfl
theorem Kn {t:TA}:JT t σ H Q=t σ H fun xs H1=>⇑xs<=sizeLine/\nw H1 (.tup xs) Q:=propext Iff.rfl
theorem Hx:GZ σ H Q=nw H (.dK []) Q:=propext Iff.rfl
theorem LJ {k:Nat}{js:Za}{wi:TI}{g:TG}{tc:TT}{te:TE}:ę k js wi g tc te σ H Q=wi σ H fun J H1=>eK g tc te (ip k js σ) J H1 Q:=propext Iff.rfl
theorem LM {r:V->Option Int->Option Int->Hp->VK->Prop}{te:TE}{tl th:TO}:tSl r te tl th σ H Q=te σ H fun x H1=>tl σ H1 fun l H2=>th σ H2 fun u H3=>r x l u H3 Q:=propext Iff.rfl
theorem CF {R:Option Int->Hp->Prop}:Cv σ H R=R none H:=propext Iff.rfl
theorem HI {t:TE}{R:Option Int->Hp->Prop}:JS t σ H R=t σ H fun x H1=>∃ i,x=.int i/\R (some i) H1:=propext Iff.rfl
theorem EE {ta:TA}{R:It->Hp->Prop}:Fy ta σ H R=ta σ H fun vs H1=>∃ j:Int,vs=[.int j]/\-(2^62)<=j/\j<2^62/\R (ß 0 j.toNat) H1:=propext Iff.rfl
theorem EF {ta:TA}{R:It->Hp->Prop}:Fz ta σ H R=ta σ H fun vs H1=>∃ i j:Int,vs=[.int i,.int j]/\(-(2^62)<=i/\i<2^62/\-(2^62)<=j/\j<2^62)/\R (ß i (j-i).toNat) H1:=propext Iff.rfl
theorem HC {K:Zf}{ta:TA}{R:It->Hp->Prop}:Iq K ta σ H R=ta σ H fun vs H1=>∃ a b,vs=[.ref a,.ref b]/\(∃ xs,Ã K H1 a xs)/\(∃ ys,Ã K H1 b ys)/\R (ó K a b) H1:=propext Iff.rfl
theorem Kf {wi:TI}{g:TG}{tb:TS}:M3 wi g tb D σ H=wi σ H fun J H1=>gK g tb D J σ H1:=propext Iff.rfl
theorem Kl {i j:Nat}{ta:TA}:M7 i j ta D σ H=ta σ H fun vs H1=>∃ v w,vs=[v,w]/\D.nx ((σ.set i (some v)).set j (some w)) H1:=propext Iff.rfl
theorem HA {to ti:TE}{t:Hq}{v:V}{R:St->Hp->Prop}:LX to ti t v σ H R=to σ H fun o H1=>ti σ H1 fun i H2=>t o i v H2 fun H3=>R σ H3:=propext Iff.rfl
theorem LG {K:Zf}{T:String}{r:V->List V->Hp->VK->Prop}{to:TE}{t:TA}:ċ K T r to t σ H Q=to σ H fun x H1=>Ě K T x H1/\t σ H1 fun xs H2=>r x xs H2 Q:=propext Iff.rfl
theorem E9 {r r':R2}{ta tb tc:TE}:Bn r r' ta tb tc σ H Q=ta σ H fun x H1=>tb σ H1 fun y H2=>r x y H2 fun z H3=>∃ k,z=.bl k/\if k=true then tc σ H3 fun v H4=>r' y v H4 Q else Q (.bl false) H3:=propext Iff.rfl
theorem J7 {b:Bool}{P:Bool->Prop}:(∃ k,V.bl b=V.bl k/\P k)=P b:=propext ⟨fun ⟨k,e,h⟩=>by cases e;exact h,fun h=>⟨b,rfl,h⟩⟩
theorem Fh {b:Int}{P:Int->Prop}:(∃ k,V.int b=V.int k/\P k)=P b:=propext ⟨fun ⟨k,e,h⟩=>by cases e;exact h,fun h=>⟨b,rfl,h⟩⟩
theorem Fi {b:Addr}{P:Addr->Prop}:(∃ k,V.ref b=V.ref k/\P k)=P b:=propext ⟨fun ⟨k,e,h⟩=>by cases e;exact h,fun h=>⟨b,rfl,h⟩⟩
theorem Ii {b:Int}{P:Int->Prop}:(∃ k,[V.int b]=[V.int k]/\P k)=P b:=propext ⟨fun ⟨k,e,h⟩=>by cases e;exact h,fun h=>⟨b,rfl,h⟩⟩
theorem Ij {b c:Int}{P:Int->Int->Prop}:(∃ k l,[V.int b,V.int c]=[V.int k,V.int l]/\P k l)=P b c:=propext ⟨fun ⟨k,l,e,h⟩=>by cases e;exact h,fun h=>⟨b,c,rfl,h⟩⟩
theorem Ik {b c:Addr}{P:Addr->Addr->Prop}:(∃ k l,[V.ref b,V.ref c]=[V.ref k,V.ref l]/\P k l)=P b c:=propext ⟨fun ⟨k,l,e,h⟩=>by cases e;exact h,fun h=>⟨b,c,rfl,h⟩⟩
theorem Ku {b c:V}{P:V->V->Prop}:(∃ k l,[b,c]=[k,l]/\P k l)=P b c:=propext ⟨fun ⟨k,l,e,h⟩=>by cases e;exact h,fun h=>⟨b,c,rfl,h⟩⟩
theorem Il {v:V}{P:V->Prop}:(∃ k,some (some v)=some (some k)/\P k)=P v:=propext ⟨fun ⟨k,e,h⟩=>by cases e;exact h,fun h=>⟨v,rfl,h⟩⟩
theorem GS {N:Ze}{vs:List V}:start N vs=vs.map some++List.replicate (⇑N-⇑vs) none:=rfl
end
inductive Tg where
 | non | bl | int | str | lst | tup | dct
 deriving DecidableEq
noncomputable def Tg.name:Tg->String
 | .non=>"NoneType" | .bl=>"bool" | .int=>"int" | .str=>"str" | .lst=>"list" | .tup=>"tuple" | .dct=>"dict"
noncomputable def Tg.sub:Tg->Tg->Bool
 | .non,.non=>true | .bl,.bl=>true | .int,.int=>true | .str,.str=>true | .lst,.lst=>true | .tup,.tup=>true | .dct,.dct=>true
 | .bl,.int=>true
 | _,_=>false
noncomputable def mn:Option HO->Option Tg
 | some (.lst _)=>some .lst | some (.frz _ (.lst _))=>some .lst | some (.tup _)=>some .tup | some (.dK _)=>some .dct | some (.dT _)=>some .dct
 | _=>none
noncomputable def gb (H:Hp):V->Option Tg
 | .non=>some .non | .bl _=>some .bl | .int _=>some .int | .str _=>some .str | .ref a=>mn (H a)
 | _=>none
theorem FC (K:Zf):∀ t c:Tg,c≠.non->PySem.W.kitOne K (.type t.name) (.type c.name)=some (t.sub c):=by
 intro t c h;cases t<;>cases c<;>first
  | exact absurd rfl h
  | rfl
  | ext
  | nofun
theorem L0 {x:V}{t:Tg} (h:gb H x=some t):oZ K H x (.type t.name):=by
 cases x with
 | non=>cases h;exact .non
 | bl b=>cases h;exact .bl b
 | int i=>cases h;exact .int i
 | str z=>cases h;exact .str z
 | ref a =>
  have h':mn (H a)=some t:=h;cases e:H a with
  | none=>rw[e] at h';cases h'
  | some o =>
   rw[e] at h';cases o with
   | lst xs=>cases h';exact .lst e
   | tup xs=>cases h';exact .tup e
   | dK kvs=>cases h';exact .dK e
   | dT kvs=>cases h';exact .dT e
   | frz ob u=>cases u with
    | lst xs=>cases h';exact .frz e
    | _=>cases h'
   | _=>cases h'
 | _=>cases h
def JC (c:Tg):List V->Hp->VK->Prop:=fun vs H Q=>match vs with
 | [x,.ty n]=>n=c.name/\∃ t,gb H x=some t/\Q (.bl (t.sub c)) H
 | _=>False
theorem dG (c:Tg) (hc:c≠.non:=by decide):dy X (.builtin "isinstance") (JC c):=by
 intro Yp s σ H xs us Q I r h;rcases xs with _ | ⟨x,t⟩
 ·exact h.elim
 rcases t with _ | ⟨x1,t⟩
 ·exact h.elim
 cases x1<;>try exact h.elim
 cases t<;>try exact h.elim
 next n =>obtain⟨rfl,t,ht,q⟩:=h;exact EO Yp s σ H _ us Q I r ⟨x,_,_,_,rfl,L0 ht,FC X.K t c hc,q⟩
theorem xU {c:TT}{tb:TS}{D:Ends} (Pv:St->Hp->Prop) (μ:St->Hp->Nat) (h0:Pv σ H)
  (hs:∀ σ H,Pv σ H->c σ H fun b H1=>if b=true then ∃ N:St->Hp->Prop,(∀ σ' H',N σ' H'->Pv σ' H'/\μ σ' H'<μ σ H)/\tb { D with nx:=N,ct:=N,bk:=D.nx } σ H1 else D.nx σ H1):Bq c tb D σ H :=
 ⟨fun m σ H=>m=μ σ H/\Pv σ H,⟨_,rfl,h0⟩,fun m σ H ⟨e,p⟩=>by
  subst e;have q:=hs σ H p;have e:(fun (b:Bool) (H1:Hp)=>if b=true then ∃ N:St->Hp->Prop,(∀ σ' H',N σ' H'->Pv σ' H'/\μ σ' H'<μ σ H)/\tb { D with nx:=N,ct:=N,bk:=D.nx } σ H1 else D.nx σ H1) =
    fun (b:Bool) (H1:Hp)=>if b=true then ∃ N:St->Hp->Prop,(∀ σ' H',N σ' H'->∃ m',m'<μ σ H/\m'=μ σ' H'/\Pv σ' H')/\tb { D with nx:=N,ct:=N,bk:=D.nx } σ H1 else D.nx σ H1:=by
   funext b H1
   cases b with
   | false=>rfl
   | true =>simp only[ig];refine propext ⟨fun ⟨N,h1,h2⟩=>⟨N,fun σ' H' n=>⟨_,(h1 σ' H' n).2,rfl,(h1 σ' H' n).1⟩,h2⟩,fun ⟨N,h1,h2⟩=>⟨N,fun σ' H' n=>?_,h2⟩⟩;obtain⟨m',h3,h4,h5⟩:=h1 σ' H' n;exact⟨h5,by rw[←h4];exact h3⟩
  rw[e] at q;exact q⟩
theorem rA (xs:List V) (k:Nat):m7 xs (some (k:Int)) none=xs.drop k:=by
 unfold m7;rw[HT.jd,HT.qB];rw[eY (by rw[cX];left)]
 by_cases h:k<=⇑xs
 ·rw[iM h]
 ·rw[Nat.min_eq_right ⋯,lh (aw _),lh ⋯]
theorem zQ (xs:List V):m7 xs none (some (-1))=xs.take (⇑xs-1):=by
 unfold m7;have e:HT.Ò ⇑xs ⇑xs (some (-1))=⇑xs-1:=by show (if (-1:Int)<0 then ((-1:Int)+(⇑xs:Int)).toNat else min (-1:Int).toNat ⇑xs)=_;rw[aq (by decide)];left
 rw[e,HT.qB,Nat.sub_zero,List.drop_zero]
theorem Ek (n:Nat):uM 0 n=(Mk.á n).map V.int:=by unfold uM Mk.á;rw[bf];refine eX fun k _=>?_;show V.int (0+(k:Int))=V.int (k:Int);rw[fG]
theorem Cp (n:Nat):(ß 0 n).Seq H1 ((Mk.á n).map V.int):=by rw[←Ek];exact wj
theorem av {n:Nat} (h:n<=100000):n<sizeLine:=eE h Zd
section
variable {X:Cx}{K:Zf}
theorem c6 (hK:X.K=K) (hu:X.A.units<cLine):É X (compareOp .Eq) (Gr K):=hK ▸ KR hu
theorem gS (hK:X.K=K) (hu:X.A.units<cLine):É X (compareOp .NotEq) (Eh K):=hK ▸ La hu
theorem bN (hK:X.K=K):û X (Jh K):=hK ▸ MX
theorem aH (hK:X.K=K):dy X (.builtin "len") (Cm K):=hK ▸ CN
theorem ir (hK:X.K=K) (hc:X.calm=true):dy X (.builtin "all") (Mo K):=hK ▸ CK hc
theorem vF (hK:X.K=K) (hc:X.calm=true):dy X (.builtin "sum") (Mx K):=hK ▸ CV hc
theorem dY (hK:X.K=K) (hc:X.calm=true):dy X (.type "list") (AV K):=hK ▸ zK hc
theorem Jc {elts:List Expr}{k:Nat}{tpos:Pos}{a b:Expr}{p pos:Pos} (hK:X.K=K) (hg:Gl X "zip") (hm:X.mg "zip"=none) (ha:PA X [a,b] ta) (hs:starEach [a,b] X.env=[(false,eval a X.env),(false,eval b X.env)]:=by rfl)
  (hs2:starEach [b] X.env=[(false,eval b X.env)]:=by rfl):PI X (.Tuple elts k tpos) (.Call (.Name "zip" p) [a,b] [] pos) (Iq K ta):=hK ▸ Ll hg hm ha hs hs2
theorem jW {k:Nat}{t:à}{n:Nat}{pos:Pos} (hK:X.K=K) (hc:X.calm=true) (h:î X es t)
  (hn:⇑(assignEach es X.env)=n:=by rfl) (hst:(assignEach es X.env).findIdx? (·.1)=none:=by rfl):PG X (.Tuple es k pos) (Av K n t):=hK ▸ Gk hc h hn hst
theorem Le {o e:Expr}{es:List Expr}{to:TE}{t:TA}{name:Str}{apos cpos:Pos}{T id:String}{r:V->List V->Hp->VK->Prop} (hK:X.K=K) (pa:PlainAttrs T) (slot:Slot T name id) (hty:typeOf (.builtin id)=pure (.type "method_descriptor"))
  (hm:Đ X id r) (ho:PE X o to) (ha:PA X (e::es) t)
  (hbase:attributeBase o name X.env (eval o X.env)=eval o X.env:=by rfl)
  (hfew:((backTo cpos (starEach (e::es) X.env)).all (fun x=>!x.1)&&(backToKw cpos (keywordEach [] X.env)).all (fun x=>x.1.isSome)
   && decide (⇑(e::es)+⇑([]:List Keyword)+(if ([]:List Keyword).isEmpty then 0 else 1)<30))=true:=by rfl)
  (hline:(apos.endLine==cpos.line)=true:=by rfl) (hs:starEach (e::es) X.env=(false,eval e X.env)::starEach es X.env:=by rfl) (hplain:(backTo cpos (starEach es X.env)).any (·.1)=false:=by rfl) :
  PE X (.Call (.Attribute o name apos) (e::es) [] cpos) (ċ K T r to t):=hK ▸ Mj pa slot hty hm ho ha hbase hfew hline hs hplain
end
end
section
noncomputable def noStar:Expr->Bool
 | .Starred _ _=>false
 | _=>true
noncomputable def eh (es:List Expr):Bool:=es.all noStar
theorem aP (h:noStar e=true):starEach (e::es) env=(false,eval e env)::starEach es env:=by
 cases e<;>first
  | rfl
  | cases h
theorem b9 (h:eh (e::es)=true):noStar e=true/\eh es=true:=by unfold eh at h ⊢;rw[jC,bV] at h;exact h
theorem dA {pos:Pos}{env:Env}:∀ {es:List Expr},eh es=true->(backTo pos (starEach es env)).any (·.1)=false
 | [],_=>rfl
 | e::es,h=>by obtain⟨h1,h2⟩:=b9 h;rw[aP h1];show (false||(backTo pos (starEach es env)).any (·.1))=false;rw[dA h2];rfl
theorem pd {pos:Pos}{env:Env}:∀ {es:List Expr},eh es=true->(backTo pos (starEach es env)).all (fun x=>!x.1)=true
 | [],_=>rfl
 | e::es,h=>by obtain⟨h1,h2⟩:=b9 h;rw[aP h1];show (true&&(backTo pos (starEach es env)).all (fun x=>!x.1))=true;rw[pd h2];rfl
section
variable {X:Cx}{K:Zf}
theorem À (i:Nat) {pos:Pos} (hN:X.N[i]?=some x:=by ext) (hv:X.env.scope.names.lookup x=some .local:=by ext) (hd:(x==("__debug__":Str))=false:=by ext)
  (hcd:(x==("__classdict__":Str))=false:=by ext):PE X (.Name x pos) (vd i):=xA hN (.inl hv) hd hcd
theorem Ê (i:Nat) {pos:Pos} (hN:X.N[i]?=some x:=by ext) (hv:X.env.scope.names.lookup x=some .cell:=by ext) (hd:(x==("__debug__":Str))=false:=by ext)
  (hcd:(x==("__classdict__":Str))=false:=by ext):PE X (.Name x pos) (vd i):=xA hN (.inr (.inl hv)) hd hcd
theorem ah {t:TA} (ha:PE X e te) (hr:PA X es t) (hs:noStar e=true:=by ext):PA X (e::es) (wu te t):=IQ ha hr (aP hs)
theorem a8 {E:St->XK}{k:Nat}{t:TA}{p pos:Pos} (C:Ä X.prog X.w X.K X.mg X.base CX k x ps sp) (hx:Passes CX X E) (hr:cU k X.A) (ha:PA X (e::es) t)
  (hg:X.env.kindOf x=some .globalImplicit:=by ext) (hd:(x==("__debug__":Str))=false:=by ext) (hs:eh (e::es)=true:=by ext):PE X (.Call (.Name x p) (e::es) [] pos) (Cs sp [] E t) :=
 Gd C hx hr hg ha hd (aP (b9 hs).1) (dA (b9 hs).2)
theorem ay {p pos:Pos}{t:TA}{id:String}{r:List V->Hp->VK->Prop} (hc:dy X (.builtin id) r) (hm:X.mg x=none) (hv:bootBuiltins x=some (.builtin id)) (ha:PA X (e::es) t)
  (hg:X.env.kindOf x=some .globalImplicit:=by ext) (hn:x≠"__name__":=by nofun) (hd:(x==("__debug__":Str))=false:=by ext) (hs:eh (e::es)=true:=by ext):PE X (.Call (.Name x p) (e::es) [] pos) (Ā r t) :=
 Gb hc hg hm hv ha hn hd (aP (b9 hs).1) (dA (b9 hs).2)
theorem c7 {p pos:Pos}{t:TA}{r:List V->Hp->VK->Prop} (hc:dy X (.type T) r) (hm:X.mg x=none) (hv:bootBuiltins x=some (.type T)) (ha:PA X (e::es) t)
  (hg:X.env.kindOf x=some .globalImplicit:=by ext) (hn:x≠"__name__":=by nofun) (hd:(x==("__debug__":Str))=false:=by ext) (hs:eh (e::es)=true:=by ext):PE X (.Call (.Name x p) (e::es) [] pos) (Ā r t) :=
 Ea hc hg hm hv ha hn hd (aP (b9 hs).1) (dA (b9 hs).2)
theorem iR {pos:Pos} (hm:X.mg x=none) (hv:bootBuiltins x=some (.type T)) (hg:X.env.kindOf x=some .globalImplicit:=by ext) (hn:x≠"__name__":=by nofun) (hd:(x==("__debug__":Str))=false:=by ext) :
  PE X (.Name x pos) (tC (.ty T)):=Mm hg hm hv hn hd
theorem aA {pos pos':Pos} (hN:X.N.Nodup) (he:PE X e te) (hi:X.N[i]?=some x:=by ext) (hx:X.env.scope.names.lookup x=some .local:=by ext)
  (hs:swapsWith e (some (.Name x pos')) pos.line X.env=pure false:=by ext):PS X (.Assign [.Name x pos'] e pos) (Es te (eR i)):=Gq hN hi (.inl hx) he hs (.inr hx)
theorem i6 {pos pos':Pos} (hN:X.N.Nodup) (he:PE X e te) (hi:X.N[i]?=some x:=by ext) (hx:X.env.scope.names.lookup x=some .cell:=by ext) (hf:X.fn x=true:=by ext)
  (hs:swapsWith e (some (.Name x pos')) pos.line X.env=pure false:=by ext):PS X (.Assign [.Name x pos'] e pos) (Es te (eR i)):=Gq hN hi (.inr hx) he hs (.inl hf)
theorem aM (hN:X.N.Nodup) (hi:X.N[i]?=some x:=by ext) (hx:X.env.scope.names.lookup x=some .local:=by ext):PG X (.Name x pos) (eR i):=Cd hN hi (.inl hx) (.inr hx)
theorem zf (hN:X.N.Nodup) (hi:X.N[i]?=some x:=by ext) (hx:X.env.scope.names.lookup x=some .cell:=by ext) (hf:X.fn x=true:=by ext):PG X (.Name x pos) (eR i):=Cd hN hi (.inr hx) (.inl hf)
theorem dC {tg a:Expr}{p pos:Pos} (hm:X.mg "range"=none) (ha:PA X [a] ta) (hg:X.env.kindOf "range"=some .globalImplicit:=by ext) (hs:noStar a=true:=by ext):PI X tg (.Call (.Name "range" p) [a] [] pos) (Fy ta) :=
 Eb hg hm ha (aP hs)
theorem pE {tg a b:Expr}{p pos:Pos} (hm:X.mg "range"=none) (ha:PA X [a,b] ta) (hg:X.env.kindOf "range"=some .globalImplicit:=by ext) (hs:noStar a=true:=by ext) (hs2:noStar b=true:=by ext) :
  PI X tg (.Call (.Name "range" p) [a,b] [] pos) (Fz ta):=Ec hg hm ha (by rw[aP hs,aP hs2];rfl) (aP hs2)
theorem tm {elts:List Expr}{k:Nat}{tpos:Pos}{a b:Expr}{p pos:Pos} (hK:X.K=K) (hm:X.mg "zip"=none) (ha:PA X [a,b] ta) (hg:X.env.kindOf "zip"=some .globalImplicit:=by ext) (hs:noStar a=true:=by ext) (hs2:noStar b=true:=by ext) :
  PI X (.Tuple elts k tpos) (.Call (.Name "zip" p) [a,b] [] pos) (Iq K ta):=Jc hK hg hm ha (by rw[aP hs,aP hs2];rfl) (aP hs2)
theorem cV {o e:Expr}{es:List Expr}{to:TE}{t:TA}{name:Str}{apos cpos:Pos}{T id:String}{r:V->List V->Hp->VK->Prop} (hK:X.K=K) (pa:PlainAttrs T) (slot:Slot T name id) (hty:typeOf (.builtin id)=pure (.type "method_descriptor"))
  (hm:Đ X id r) (ho:PE X o to) (ha:PA X (e::es) t)
  (hbase:attributeBase o name X.env (eval o X.env)=eval o X.env:=by ext) (hs:eh (e::es)=true:=by ext) (hlen:decide (⇑(e::es)<30)=true:=by ext)
  (hline:(apos.endLine==cpos.line)=true:=by ext):PE X (.Call (.Attribute o name apos) (e::es) [] cpos) (ċ K T r to t):=by
 refine Le hK pa slot hty hm ho ha hbase ?_ hline (aP (b9 hs).1) (dA (b9 hs).2);rw[pd hs];show (true&&true&&decide (⇑(e::es)+0+0<30))=true;rw[eQ,eQ];exact hlen
end
end
section
noncomputable def tx (l:Za):Str:=⟨l.toArray⟩
theorem bW (l:Za):(tx l).cps.toList=l:=by unfold tx;simp
theorem bh (l:Za):⇑(tx l)=⇑l:=by show l.toArray.size=_;simp
theorem wx (x:Str):tx x.cps.toList=x:=by unfold tx;simp
theorem iW (a b:Za):tx a++tx b=tx (a++b):=by show Str.mk (a.toArray++b.toArray)=Str.mk (a++b).toArray;simp
theorem vg {a b:Za} (h:tx a=tx b):a=b:=by have:=bQ (fun x:Str=>x.cps.toList) h;simpa [tx] using this
theorem Hi (a b:Za):decide (tx a=tx b)=decide (a=b):=by
 by_cases e:a=b
 ·subst e;simp
 ·rw[aF e,aF (fun z=>e (vg z))]
theorem dE (x:Str):⇑x=⇑x.cps.toList:=by show x.cps.size=_;simp
noncomputable def ú (z:Str):It:=⟨fun i _=>i<z.cps.size,fun i H v H'=>H'=H/\∃ c,z.cps[i]?=some c/\v=.str ⟨#[c]⟩,fun i _=>z.cps.size<=i⟩
theorem zA (n:String) (hn:n="str_ascii_iterator"∨n="str_iterator") (z:Str) (t:Tok) (it:Addr):Turn P w K tg (ú z) [it] it (fun i h=>h.IsStrIter it n z t i) where
 mem:=by simp
 obj:=fun i h st b hb=>by
  have e:b=it:=by simpa using hb
  subst e;obtain⟨o,e,c,d⟩:=st;exact⟨o,e,fun v z=>by rw[d] at z;cases z⟩
 keep:=fun i h h' st k=>by obtain⟨o,e,c,d⟩:=st;exact⟨o,k it (by simp) o e,c,d⟩
 item:=by
  intro X hP hw hK hc i Yp s σ H E I hf st hg;subst hP hw hK;have hg':i<z.cps.size:=hg;have hx:z.cps[i]?=some z.cps[i]:=jK hg';obtain⟨f0,f1,f2,f3,f4,f5⟩:=hf it (by simp);have go:∀ h',h'.IsStrIter it n z t (i+1)->Heap.SameBut it s.heap h'->∃ u,some (Value.str ⟨#[z.cps[i]]⟩ s.toks)=some u ∧
    wpAny (model X.prog X.w) X.A (letOwnedTupleGo tg (.ref it) u) (fun _ s2=>∃ x H',Inv X Yp σ H' s2/\RelV x u/\(ú z).yld i H x H'/\s2.heap.IsStrIter it n z t (i+1)/\∀ b∈[it],H' b=none) E { s with heap:=h',toks:=s.toks+1 }:=fun h' st' sb=>by
   have I1:Inv X Yp σ H { s with heap:=h',toks:=s.toks+1 }:=I.turned (t':=s.toks+1) (fun b o hb e=>(sb.2 b hb).trans e) f0 f1 f3 f4 f5;obtain⟨o,e,c,d⟩:=id st';exact⟨_,rfl,vN (s:={ s with heap:=h',toks:=s.toks+1 }) e c d (by rcases hn with rfl | rfl<;>decide) ⟨.str ⟨#[z.cps[i]]⟩,H,I1,⟨_,rfl⟩,⟨rfl,_,hx,rfl⟩,st',fun b hb=>(hf b hb).1⟩⟩
  rcases hn with rfl | rfl
  ·exact wpAny_pyNext_ascii_item st hx go
  ·exact wpAny_pyNext_wide_item st hx go
 done:=by
  intro X hP hw hK hc i Yp s σ H E I hf st hg;subst hP hw hK;have hx:z.cps[i]?=none:=nX hg;obtain⟨f0,f1,f2,f3,f4,f5⟩:=hf it (by simp);have go:∀ h',Heap.ExtBut it s.heap h'->(none:Option Value)=none/\Inv X Yp σ H { s with heap:=h' }:=fun h' eb =>⟨rfl,I.turned (t':=s.toks) (fun b o hb e=>eb b o hb e) f0 f1 f3 f4 f5⟩;rcases hn with rfl | rfl
  ·exact wpAny_pyNext_ascii_end (I.ok.hd hc) st hx go
  ·exact wpAny_pyNext_wide_end (I.ok.hd hc) st hx go
 self:=fun _ _ _ _ _ st h=>by
  rcases hn with rfl | rfl
  ·exact wpAny_pyIter_striter_ascii st h
  ·exact wpAny_pyIter_striter_wide st h
def BR (K:Zf) (x:V) (H:Hp) (R:It->Hp->Prop):Prop:=match x with
 | .ref a=>((∃ xs,Ã K H a xs)/\R (ç K a) H)∨((∃ xs,Ó K H a xs)/\R (ď K a) H)
 | .str z=>R (ú z) H
 | _=>False
def F1 (K:Zf) (te:TE):TI:=fun σ H R=>te σ H fun x H1=>BR K x H1 R
theorem Lk {tg l:Expr} (hl:PE X l tl):PI X tg l (F1 X.K tl):=by
 intro Yp s σ H R I h;refine Â (hl Yp s σ H _ I h) fun v s1 ⟨x,H1,I1,r1,q1⟩=>?_;cases x with
 | ref a =>
  cases r1
  rcases q1 with ⟨⟨xs,hq⟩,q⟩ | ⟨⟨xs,hq⟩,q⟩
  ·obtain⟨its,rv,p,hz⟩:=I1.list hq;refine wpAny_pyIter_list p.isList ?_;refine⟨s1.heap.objs.size,[s1.heap.objs.size],_,_,H1,rfl,I1.kept (t':=s1.toks) fun b o e=>aL _ e,Ew a _,⟨_,bo _ rfl,rfl,rfl⟩,fun b hb=>?_,q⟩;have e:b=s1.heap.objs.size:=by simpa using hb
   subst e;exact I1.vk (aw _) (I1.hok.fresh (aw _))
  ·obtain⟨its,rv,p,hz⟩:=I1.tuple hq;refine wpAny_pyIter_tuple (show s1.heap.IsTuple a its.toArray from p) ?_;refine⟨s1.heap.objs.size,[s1.heap.objs.size],_,_,H1,rfl,I1.kept (t':=s1.toks) fun b o e=>aL _ e,Bt a _,⟨_,bo _ rfl,rfl,rfl⟩,fun b hb=>?_,q⟩;have e:b=s1.heap.objs.size:=by simpa using hb
   subst e;exact I1.vk (aw _) (I1.hok.fresh (aw _))
 | str z =>
  obtain⟨t,rfl⟩:=r1;cases ha:z.cps.all (·<128) with
  | true =>
   refine wpAny_pyIter_ascii ha ?_;refine⟨s1.heap.objs.size,[s1.heap.objs.size],_,_,H1,rfl,I1.kept (t':=s1.toks) fun b o e=>aL _ e,zA "str_ascii_iterator" (.inl rfl) z t _,⟨_,bo _ rfl,rfl,rfl⟩,fun b hb=>?_,q1⟩;have e:b=s1.heap.objs.size:=by simpa using hb
   subst e;exact I1.vk (aw _) (I1.hok.fresh (aw _))
  | false =>
   refine wpAny_pyIter_wide ha ?_;refine⟨s1.heap.objs.size,[s1.heap.objs.size],_,_,H1,rfl,I1.kept (t':=s1.toks) fun b o e=>aL _ e,zA "str_iterator" (.inr rfl) z t _,⟨_,bo _ rfl,rfl,rfl⟩,fun b hb=>?_,q1⟩;have e:b=s1.heap.objs.size:=by simpa using hb
   subst e;exact I1.vk (aw _) (I1.hok.fresh (aw _))
 | _=>exact False.elim q1
theorem cG {tg l:Expr} (hK:X.K=K) (hl:PE X l tl):PI X tg l (F1 K tl):=hK ▸ Lk hl
theorem HB {σ:St}{H:Hp}{K:Zf}{tl:TE}{R:It->Hp->Prop}:F1 K tl σ H R=tl σ H fun x H1=>BR K x H1 R:=propext Iff.rfl
noncomputable def ė (z:Str):List V:=z.cps.toList.map fun c=>V.str ⟨#[c]⟩
theorem Jn (z:Str):(ú z).Seq H1 (ė z):=fun H s=>by
 refine⟨fun i x e=>?_,fun i hi=>?_⟩
 ·unfold ė at e;rw[aX,ji] at e;cases hc:z.cps[i]? with
  | none=>rw[hc] at e;cases e
  | some c =>
   rw[hc] at e;have e':V.str ⟨#[c]⟩=x:=Option.some.inj e;have hi:i<z.cps.size:=by
    rcases Nat.lt_or_ge i z.cps.size with h | h
    ·exact h
    ·rw[nX h] at hc;cases hc
   exact⟨hi,fun y H' ⟨e1,d,e2,e3⟩=>⟨e1,by rw[hc] at e2;cases e2;rw[e3,e']⟩⟩
 ·show z.cps.size<=i;unfold ė at hi
  simpa using hi
def Lp (K:Zf) (neg:Bool):R2:=fun x y H Q=>match y with
 | .str j=>match x with
  | .str i=>Q (.bl (neg != !(Builtin.Str.occurrences j i 0 ⇑j 1).isEmpty)) H
  | _=>False
 | .ref p=>(∃ xs,Sq K H p xs/\dM x=true/\xs.all dM=true/\Q (.bl (neg != Ĉ x xs)) H)∨∃ o:Option V,kj H p x o/\Q (.bl (neg != o.isSome)) H
 | _=>False
theorem KS (hu:X.A.units+1<cLine):É X (compareOp .In) (Lp X.K false):=by
 intro Yp s σ H x y v u Q I rx ry h;cases y with
 | str j=>cases x with
  | str i =>
   refine DY Yp s σ H _ _ v u Q I rx ry ⟨i,j,rfl,rfl,?_⟩;have h':Q (.bl (false != !(Builtin.Str.occurrences j i 0 ⇑j 1).isEmpty)) H:=h
   rwa [Bool.false_bne] at h'
  | _=>exact False.elim h
 | ref p =>
  rcases h with ⟨xs,hs,fx,fxs,q⟩ | ⟨o,hg,q⟩
  ·rw[Bool.false_bne] at q;exact DX Yp s σ H _ _ v u Q I rx ry ⟨p,xs,rfl,hs,fx,fxs,q⟩
  ·rw[Bool.false_bne] at q;cases ry;exact MW hu I hg rx fun s' I'=>⟨.bl _,H,I',rfl,q⟩
 | _=>exact False.elim h
theorem mL (hK:X.K=K) (hu:X.A.units+1<cLine):É X (compareOp .In) (Lp K false):=hK ▸ KS hu
theorem Ax (x:Str) (c:Nat):(!(Builtin.Str.occurrences x ⟨#[c]⟩ 0 ⇑x 1).isEmpty)=decide (c∈x.cps.toList):=StrLaws.found_one x c
theorem zE {c i:Nat}:StrLaws.At x ⟨#[c]⟩ ⇑x i↔x.cps.toList[i]?=some c:=by
 unfold StrLaws.At Builtin.Str.subAt;show i+1<=x.cps.size/\(x.cps.extract i (i+1)==#[c])=true↔_;rw[ji];constructor
 ·rintro⟨h1,h2⟩;have e:=eq_of_beq h2;have:x.cps[i]?=(x.cps.extract i (i+1))[0]?:=by
   rw[Array.getElem?_extract];simp;left
  rw[this,e];rfl
 ·intro h;have hi:i<x.cps.size:=by
   rcases Nat.lt_or_ge i x.cps.size with h' | h'
   ·exact h'
   ·rw[nX h'] at h;cases h
  refine⟨hi,?_⟩;have:x.cps.extract i (i+1)=#[c]:=by
   apply Array.ext
   ·simp;left
   ·intro j h1 h2;have hj:j=0:=by simp at h2;left
    subst hj;have e:=jK hi;rw[h] at e;simp [Option.some.inj e]
  rw[this];exact beq_self_eq_true _
theorem tS {c:Nat} (h:c∈x.cps.toList):Txt.find x ⟨#[c]⟩=((x.cps.toList.idxOf c:Nat):Int):=by
 have hi:x.cps.toList.idxOf c<⇑x.cps.toList:=List.idxOf_lt_length_of_mem h;have hg:x.cps.toList[x.cps.toList.idxOf c]?=some c:=by rw[aC hi,List.getElem_idxOf]
 rcases find_whole x ⟨#[c]⟩ with ⟨_,hn⟩ | ⟨i,e,hi2,hn⟩
 ·exact absurd (zE.mpr hg) (hn _)
 ·rw[e];have h1:¬ x.cps.toList.idxOf c<i:=fun z=>hn _ z (zE.mpr hg);have h2:=zE.mp hi2;have h3:x.cps.toList.idxOf c<=i:=by
   rcases Nat.lt_or_ge i (x.cps.toList.idxOf c) with z | z
   ·obtain⟨hl,e2⟩:=bL.mp h2;have h5:=List.not_of_lt_findIdx (p:=(·==c)) (xs:=x.cps.toList) (i:=i) z;rw[e2] at h5;simp at h5
   ·exact z
  congr 1
  left
def Cj:V->List V->Hp->VK->Prop:=fun x vs H Q=>match x,vs with
 | .str z,[.str y]=>0<=Txt.find z y/\Q (.int (Txt.find z y)) H
 | _,_=>False
theorem rJ :í X "str.index" Cj:=by
 intro Yp s σ H x vs v us Q I rx rv h;cases x<;>try exact h.elim
 rcases vs with _ | ⟨x0,t⟩
 ·exact h.elim
 cases x0<;>try exact h.elim
 cases t<;>try exact h.elim
 next z y =>
  obtain⟨t,rfl⟩:=rx;obtain⟨u,rfl,t',rfl⟩:=rv.one;cases ho:Builtin.Str.occurrences z y 0 ⇑z 1 with
  | nil =>
   have e:Txt.find z y=-1:=by simp [Txt.find,ho]
   have h1:=h.1;rw[e] at h1;exact absurd h1 (by decide)
  | cons i rest =>
   have e:Txt.find z y=(i:Int):=by simp [Txt.find,ho]
   refine SC.index ho ?_;have h2:=h.2;rw[e] at h2;exact⟨.int _,H,I.tok _,⟨_,rfl⟩,h2⟩
theorem Jw {ys:Ze}:∀ {us:Zc},Vals (ys.map V.str) us->StrsAre us ys:=by
 induction ys with
 | nil=>intro us r;cases r;exact .nil
 | cons y r ih =>
  intro us h;cases h with
  | cons h1 h2 =>obtain⟨t,rfl⟩:=h1;exact .cons _ _ (ih h2)
def AU (K:Zf):V->List V->Hp->VK->Prop:=fun x vs H Q=>match x,vs with
 | .str z,[.ref p]=>∃ ys:Ze,Ã K H p (ys.map V.str)/\(ys.map (·.length)).sum+⇑ys*⇑z<=16777216/\Q (.str (Txt.join z ys)) H
 | _,_=>False
theorem FL :í X "str.join" (AU X.K):=by
 intro Yp s σ H x vs v us Q I rx rv h;cases x<;>try exact h.elim
 rcases vs with _ | ⟨x0,t⟩
 ·exact h.elim
 cases x0<;>try exact h.elim
 cases t<;>try exact h.elim
 next z p =>obtain⟨ys,hs,hl,q⟩:=h;obtain⟨t,rfl⟩:=rx;obtain⟨u,rfl,ru⟩:=rv.one;cases ru;obtain⟨its,rv2,pl,hz⟩:=I.list hs;exact join_list pl.isList (by simpa using Jw rv2) hl fun t' k=>⟨.str _,H,I.tok _,⟨_,rfl⟩,q⟩
theorem mJ (hK:X.K=K):í X "str.join" (AU K):=hK ▸ FL
theorem tY (ls:List Za):Txt.join (tx []) (ls.map tx)=tx ls.flatten:=by
 have go:∀ (r:List Za) (acc:Za),(r.map tx).foldl (fun acc p=>acc++(tx []).cps++p.cps) acc.toArray=(acc++r.flatten).toArray:=by
  intro r
  induction r with
  | nil=>intro acc;simp
  | cons a r ih =>
   intro acc;rw[bI,List.foldl_cons];have e:acc.toArray++(tx []).cps++(tx a).cps=(acc++a).toArray:=by simp [tx]
   rw[e,ih];simp
 unfold Txt.join Builtin.Str.glued;cases ls with
 | nil=>rfl
 | cons a r =>have:=go r a;show Str.mk ((r.map tx).foldl (fun acc p=>acc++(tx []).cps++p.cps) a.toArray)=tx (a::r).flatten;rw[this];rfl
theorem Ay (l:Za):Txt.join (tx []) (l.map fun c=>tx [c])=tx l:=by
 have:=tY (l.map fun c=>[c]);rw[bf] at this;rw[show (l.map fun c=>tx [c])=l.map (tx ∘ fun c=>[c]) from rfl,this]
 congr 1
 induction l with
 | nil=>rfl
 | cons a r ih=>rw[bI,lr,ih (by have:=tY (r.map fun c=>[c]);rw[bf] at this;exact this)];rfl
section
variable {α β:Type}
noncomputable def pull {γ:Type} (e:α->V) (f:α->γ) (d:γ) (v:V):γ:=open Classical in if h:∃ a,e a=v then f (Classical.choose h) else d
theorem jX {γ:Type}{e:α->V} (inj:∀ a b,e a=e b->a=b) (f:α->γ) (d:γ) (a:α):pull e f d (e a)=f a:=by unfold pull;have h:∃ b,e b=e a:=⟨a,rfl⟩;rw[dif_pos h,inj _ _ (Classical.choose_spec h)]
theorem ja:∀ a b:Int,V.int a=V.int b->a=b:=fun _ _ h=>by cases h;rfl
theorem tW:∀ a b:Nat,V.str ⟨#[a]⟩=V.str ⟨#[b]⟩->a=b:=fun _ _ h=>by cases h;rfl
theorem KA {xs:List α}{js:Za}{σ:St}{tc:TT}{te:TE}{Q:VK} (e:α->V) (inj:∀ a b,e a=e b->a=b) (hJ:J.Seq H1 (xs.map e)) (hl:⇑xs<sizeLine) (p:α->Bool) (f:α->V)
  (hc:∀ x∈xs,∀ H,aB H1 H->∀ R:Bool->Hp->Prop,(∀ H',aB H H'->R (p x) H')->tc (some (e x)::js.map fun j=>(σ[j]?).join) H R)
  (he:∀ x∈xs,p x=true->∀ H,aB H1 H->∀ R:VK,(∀ H',aB H H'->R (f x) H')->te (some (e x)::js.map fun j=>(σ[j]?).join) H R)
  (q:∀ D H,H1 D=none->aB H1 H->H D=some (.lst ((xs.filter p).map f))->Q (.ref D) H):eK (eR 0) tc te (ip 1 js σ) J H1 Q:=by
 refine wW hJ (by rw[ak];exact hl) (pull e p false) (pull e f .non) ?_ ?_ ?_
 ·intro v hv H s R hR;obtain⟨x,hx,rfl⟩:=aO.mp hv;rw[jX inj] at hR;exact hc x hx H s R hR
 ·intro v hv hp H s R hR;obtain⟨x,hx,rfl⟩:=aO.mp hv;rw[jX inj] at hR hp;exact he x hx hp H s R hR
 ·intro D H h1 h2 h3;refine q D H h1 h2 ?_;rw[h3,List.filter_map,bf]
  congr 2
  have e1:pull e f .non ∘ e=f:=funext fun a=>jX inj f .non a;have e2:pull e p false ∘ e=p:=funext fun a=>jX inj p false a;rw[e1,e2]
theorem ud {xs:List α}{js:Za}{σ:St}{te:TE}{Q:VK} (e:α->V) (inj:∀ a b,e a=e b->a=b) (hJ:J.Seq H1 (xs.map e)) (hl:⇑xs<sizeLine) (f:α->V)
  (he:∀ x∈xs,∀ H,aB H1 H->∀ R:VK,(∀ H',aB H H'->R (f x) H')->te (some (e x)::js.map fun j=>(σ[j]?).join) H R)
  (q:∀ D H,H1 D=none->aB H1 H->H D=some (.lst (xs.map f))->Q (.ref D) H):eK (eR 0) xQ te (ip 1 js σ) J H1 Q :=
 KA e inj hJ hl (fun _=>true) f (fun x _ H _ R hR=>hR H (aB.refl H)) (fun x hx _ H s R hR=>he x hx H s R hR) fun D H h1 h2 h3=>q D H h1 h2 (by rw[List.filter_eq_self.mpr (fun _ _=>rfl)] at h3;exact h3)
theorem Mb {K:Zf}{a b:Addr}{H1:Hp}{xs:List α}{ys:List β}{js:Za}{σ:St}{te:TE}{Q:VK} (e:α->V) (e':β->V) (inj:∀ a b,e a=e b->a=b) (inj':∀ a b,e' a=e' b->a=b)
  (hx:Ã K H1 a (xs.map e)) (hy:Ã K H1 b (ys.map e')) (hl:⇑xs<sizeLine) (f:α->β->V)
  (he:∀ x y,(x,y)∈xs.zip ys->∀ H,aB H1 H->∀ R:VK,(∀ H',aB H H'->R (f x y) H')->te (some (e x)::some (e' y)::js.map fun j=>(σ[j]?).join) H R)
  (q:∀ D H,H1 D=none->aB H1 H->H D=some (.lst ((xs.zip ys).map fun p=>f p.1 p.2))->Q (.ref D) H):eK (Av K 2 (mx (eR 0) (mx (eR 1) Au))) xQ te (ip 2 js σ) (ó K a b) H1 Q:=by
 refine KC hx hy (by rw[ak];exact hl) (fun v u=>pull e (fun x=>pull e' (f x) .non u) .non v) ?_ ?_
 ·intro v u hvu H s R hR;rw[List.zip_map,aO] at hvu;obtain⟨⟨x,y⟩,hxy,e2⟩:=hvu;cases e2;have e3:pull e (fun x=>pull e' (f x) .non (e' y)) .non (e x)=f x y:=by rw[jX inj,jX inj']
  exact he x y hxy H s R (fun H' s'=>by have:=hR H' s';rwa [e3] at this)
 ·intro D H h1 h2 h3;refine q D H h1 h2 ?_;rw[h3,List.zip_map,bf]
  congr 2
  refine eX fun ⟨x,y⟩ _=>?_;show pull e (fun x=>pull e' (f x) .non (e' y)) .non (e x)=f x y;rw[jX inj,jX inj']
end
theorem sd (z:Str):(ú z).Seq H1 (z.cps.toList.map fun c=>V.str ⟨#[c]⟩):=Jn z
theorem qJ {x:V}{t:Tg} (ht:gb H x=some t) (hs:∀ z,x≠.str z):t≠.str:=fun e=>by
 subst e;cases x with
 | str z=>exact hs z rfl
 | ref a =>
  have h':mn (H a)=some .str:=ht;cases e:H a with
  | none=>rw[e] at h';cases h'
  | some o=>rw[e] at h';cases o with
   | frz ob u=>cases u<;>cases h'
   | _=>cases h'
 | _=>cases ht
theorem zN {a b:Int} (ha:0<=a/\a<1000) (hb:0<=b/\b<1000):Hm a b :=
 ⟨bK (show a.natAbs<1000 by left) Zd,bK (show b.natAbs<1000 by left) Zd⟩
theorem BE {t u:TS} (R:St->Hp->Prop) (h2:∀ σ' H',R σ' H'->u D σ' H') (h1:∀ U:St->Hp->Prop,(∀ σ' H',R σ' H'->U σ' H')->t { D with nx:=U } σ H):Hg t u D σ H:=h1 _ h2
theorem e8 {l:List α}{i:Int}{v:α} (h0:0<=i) (h1:l[i.toNat]?=some v):Õ l i=some v:=by
 have:=bb h1
 rwa [iI h0] at this
theorem v5:(Str.ofString "abcdefghijklmnopqrstuvwxyz").cps.toList=List.range' 97 26:=by nofun
theorem EX:Str.ofString ""=tx []:=by nofun
theorem F6 {D:Addr}{l:Za} (h:H D=some (.lst (l.map fun c=>V.str (tx [c])))):Ã K H D ((l.map fun c=>tx [c]).map V.str):=.of (by rw[h,bf];rfl)
theorem F5 {l:Za} (hl:⇑l<=100000):((l.map fun c=>tx [c]).map (·.length)).sum+⇑(l.map fun c=>tx [c])*(Str.ofString "").length<=16777216:=by
 have e2:(Str.ofString "").length=0:=by nofun
 rw[e2,Nat.mul_zero,Nat.add_zero,bf];have e:∀ l:Za,(l.map ((fun x:Str=>⇑x) ∘ fun x=>tx [x])).sum=⇑l:=by
  intro l
  induction l with
  | nil=>rfl
  | cons a r ih=>rw[bI,jH,ih,bH];show ⇑(tx [a])+_=_;rw[bh];simp;left
 rw[e];left
theorem BU (l:Za):Txt.join (Str.ofString "") (l.map fun c=>tx [c])=tx l:=by rw[EX,Ay]
end
section
def DK (h h':Heap):Prop:=∀ b o,h.get? b=some o->∃ o',h'.get? b=some o'/\o'.cls=o.cls/\o'.dict=o.dict/\(∀ vs,o.data=.fields vs->∃ vs',o'.data=.fields vs'/\vs'[2]?=vs[2]?)
theorem DK.refl (h:Heap):DK h h:=fun b o e=>⟨o,e,rfl,rfl,fun vs q=>⟨vs,q,rfl⟩⟩
theorem DK.trans {h1 h2 h3:Heap} (x:DK h1 h2) (y:DK h2 h3):DK h1 h3:=fun b o e=>by obtain⟨o1,e1,c1,d1,f1⟩:=x b o e;obtain⟨o2,e2,c2,d2,f2⟩:=y b o1 e1;exact⟨o2,e2,c2.trans c1,d2.trans d1,fun vs q=>by obtain⟨v1,q1,g1⟩:=f1 vs q;obtain⟨v2,q2,g2⟩:=f2 v1 q1;exact⟨v2,q2,g2.trans g1⟩⟩
theorem DK.push (h:Heap) (o:Obj):DK h (h.push o):=fun b u e=>⟨u,aL _ e,rfl,rfl,fun vs q=>⟨vs,q,rfl⟩⟩
structure KD {α:Type} (m:Sem α):Prop where
 out:∀ (M:Model) (Γ:PySem.Ctx) (P:α->Pos->Zg->Prop) (Ee:Value->Pos->Zg->Prop) (p:Pos) (s:Zg),Sem.wp M Γ m P Ee p s →
  Sem.wp M Γ m (fun a p' s'=>P a p' s'/\DK s.heap s'.heap) (fun e p' s'=>Ee e p' s'/\DK s.heap s'.heap) p s
namespace KD
variable {α β:Type}
theorem pure (a:α):KD (Pure.pure a:Sem α):=⟨fun _ _ _ _ _ s h=>⟨h,DK.refl _⟩⟩
theorem unsupported (w:String):KD (PySem.unsupported w:Sem α):=⟨fun _ _ _ _ _ _ h=>h⟩
theorem bind {m:Sem α}{f:α->Sem β} (hm:KD m) (hf:∀ a,KD (f a)):KD (m >>= f):=⟨fun M Γ P Ee p s h=>by rw[Sem.wp_bind'] at h ⊢;refine Sem.wp_mono M Γ m (fun a p' s' h'=>?_) (fun _ _ _ x=>x) p s (hm.out M Γ _ _ p s h);refine Sem.wp_mono M Γ (f a) (fun b p2 s2 h2=>⟨h2.1,h'.2.trans h2.2⟩) (fun e p2 s2 h2=>⟨h2.1,h'.2.trans h2.2⟩) p' s' ((hf a).out M Γ P Ee p' s' h'.1)⟩
theorem ite {c:Prop} [Decidable c] {t u:Sem α} (ht:KD t) (hu:KD u):KD (if c then t else u):=by split<;>assumption
theorem load (a:Addr):KD (PySem.load a):=⟨fun _ _ _ _ _ s h=>by obtain⟨o,e,q⟩:=h;exact⟨o,e,q,DK.refl _⟩⟩
theorem stack:KD PySem.stack:=⟨fun M Γ P Ee p s h=>by unfold PySem.stack at h ⊢;rw[Sem.wp_stack] at h ⊢;exact⟨h,DK.refl _⟩⟩
theorem alloc (o:Obj):KD (PySem.alloc o):=⟨fun _ _ _ _ _ s h=>⟨h,DK.push _ _⟩⟩
theorem field (v:Value) (i:Nat):KD (PySem.field v i):=⟨fun _ Γ P Ee p s h=>by rw[wp_field_iff] at h ⊢;obtain⟨a,o,vs,x,e1,e2,e3,e4,q⟩:=h;exact⟨a,o,vs,x,e1,e2,e3,e4,q,DK.refl _⟩⟩
theorem update {a:Addr}{f:Obj->Obj} (hf:∀ o,(f o).cls=o.cls/\(f o).dict=o.dict/\(f o).isFreed=o.isFreed/\∀ vs,o.data=.fields vs->∃ vs',(f o).data=.fields vs'/\vs'[2]?=vs[2]?):KD (PySem.update a f):=⟨fun _ _ _ _ _ s h=>by
 refine⟨h.1,h.2,fun b o e=>?_⟩
 by_cases hb:b=a
 ·subst hb;obtain⟨h1,h2,h3,h4⟩:=hf o;have hfr:o.isFreed=false:=(Heap.get?_some_iff.mp e).2;exact⟨f o,hZ _ e (by rw[h3];exact hfr),h1,h2,h4⟩
 ·exact⟨o,(gd _ _ (Ne.symm hb)).trans e,rfl,rfl,fun vs q=>⟨vs,q,rfl⟩⟩⟩
theorem setField (v:Value) (i:Nat) (x:Value) (hi:i≠2):KD (PySem.setField v i x):=⟨fun _ Γ P Ee p s h=>by
 rw[wp_setField_iff] at h ⊢;obtain⟨a,o,vs,e1,e2,e3,e4,q⟩:=h;refine⟨a,o,vs,e1,e2,e3,e4,q,fun b u e=>?_⟩
 by_cases hb:b=a
 ·subst hb;rw[e2] at e;cases e;have hd:=Obj.data_mapFields e3 (·.setIfInBounds i x);exact⟨_,hZ _ e2 (Obj.isFreed_of_fields hd),Obj.cls_mapFields ..,by cases o with | mk c d dt sl=>cases dt<;>first | rfl,fun vs' q=>⟨_,hd,by rw[e3] at q;cases q;exact Array.getElem?_setIfInBounds_ne hi⟩⟩
 ·exact⟨u,(gd _ _ (Ne.symm hb)).trans e,rfl,rfl,fun vs q=>⟨vs,q,rfl⟩⟩⟩
theorem slots {a:Addr}{g:Obj->Array (Option Value)}:KD (PySem.update a fun o=>{ o with slots:=g o }):=update fun o=>⟨rfl,rfl,by cases o with | mk c d dt sl=>cases dt<;>rfl,fun vs q=>⟨vs,q,rfl⟩⟩
end KD
theorem DH (env:Env) (outer:List Env):KD (behindIsImport env outer):=by
 unfold behindIsImport
 repeat' with_reducible first | exact KD.pure _ | exact KD.field _ _ | apply KD.ite | apply KD.bind | intro _
theorem DI:KD underTheClaimsCaller:=by
 unfold underTheClaimsCaller
 repeat' with_reducible first | exact KD.pure _ | exact KD.stack | exact KD.unsupported _ | exact KD.field _ _ | apply KD.ite | apply KD.bind | intro _ | split
theorem Iw (env:Env) (i:Bool) (l:List Env):KD (keptBack env i l):=by have:=DI;cases l<;>unfold keptBack<;>repeat' with_reducible first | assumption | exact KD.pure _ | apply KD.ite | apply KD.bind | intro _
theorem yB:∀ l:List Env,KD (readyFrames l)
 | []=>KD.pure _
 | env::outer=>by
  have ih:=yB outer;have h1:=DH env outer;have h2:=fun i=>Iw env i outer;unfold readyFrames;split
  ·refine KD.bind (KD.load _) fun o=>KD.ite (KD.pure _) (KD.bind h1 fun b=>KD.bind (h2 b) fun v=>KD.bind KD.slots fun _=>ih)
  ·exact KD.unsupported _
theorem tZ (l:List Env):KD (frameObject l):=by
 cases l with
 | nil=>exact KD.pure _
 | cons a r=>unfold frameObject;exact KD.bind (yB _) fun _=>KD.pure _
theorem Az (env:Env):KD (PySem.frameOf env):=by
 unfold PySem.frameOf frameEnvs;refine KD.bind (KD.bind KD.stack fun _=>KD.pure _) fun l=>KD.bind (tZ _) fun o=>?_;cases o with
 | none=>exact KD.unsupported _
 | some v=>exact KD.pure _
theorem F9 (f:Addr) (b:Bool):KD (entryPlaceOf f b):=by
 unfold entryPlaceOf
 repeat' with_reducible first | exact KD.pure _ | exact KD.stack | exact KD.unsupported _ | apply KD.ite | apply KD.bind | intro _ | split
theorem F8 (a b c d e:Value) (l:Zc):KD (EntryCells.newEntry a b c d e l):=by
 unfold EntryCells.newEntry newFields newObj newObjAsIs
 repeat' first | exact KD.pure _ | exact KD.alloc _ | exact KD.unsupported _ | apply KD.ite | apply KD.bind | intro _ | split
theorem Iy (e:Value) (env:Env):KD (noteFrame e env):=by
 unfold noteFrame;have h1:=Az env;have h2:=F9;have h3:=F8;split
 ·repeat' with_reducible first | exact KD.pure _ | exact KD.field _ _ | exact KD.setField _ _ _ (by decide) | exact h1 | exact h2 _ _ | exact h3 _ _ _ _ _ _ | apply KD.ite | apply KD.bind | intro _
 ·exact KD.unsupported _
theorem DJ (e:Value) (o:Option Addr):KD (setFlight e o):=by
 unfold setFlight
 repeat' with_reducible first | exact KD.pure _ | exact KD.field _ _ | exact KD.setField _ _ _ (by decide) | apply KD.ite | apply KD.bind | intro _
theorem ua (env:Env) (e:Value):KD (leaving env e):=by unfold leaving;exact KD.bind (Iy _ _) fun _=>DJ _ _
theorem KD.any {M:Model}{t:Sem α}{Q:α->Zg->Prop} (k:KD t) (h:wpAny M A t Q E s) :
  wpAny M A t (fun a s'=>Q a s'/\DK s.heap s'.heap) (fun e s'=>E e s'/\DK s.heap s'.heap) s:=fun Γ p hΓ=>k.out M Γ _ _ p s (h Γ p hΓ)
theorem AD (x:bX P w H h a o):∃ u,h.get? a=some u:=by
 cases o with
 | lst xs=>obtain⟨_,_,_,_,e⟩:=x;exact⟨_,e⟩
 | tup xs=>obtain⟨_,_,_,ob,e,_⟩:=x;exact⟨_,e⟩
 | dK kvs=>obtain⟨_,_,_,_,ob,_,_,e,_⟩:=x;exact⟨_,e⟩
 | dT kvs=>obtain⟨_,_,_,_,ob,_,_,e,_⟩:=x;exact⟨_,e⟩
 | set S n=>obtain⟨ob,_,_,_,e,_⟩:=x;exact⟨_,e⟩
 | ins C dx fs=>obtain⟨_,_,_,e,_⟩:=x;exact⟨_,e⟩
 | own y=>exact x
 | xd fs=>obtain⟨_,⟨od,_,_,e,_⟩,_⟩:=x;exact⟨_,e⟩
 | rng lo hi=>obtain⟨_,_,_,e⟩:=x;exact⟨_,e⟩
 | frz ob u=>exact⟨_,x.1⟩
 | tbl ps=>obtain⟨_,e,_⟩:=x;exact⟨_,e⟩
 | met f y=>exact⟨_,x⟩
 | ext φ=>exact x.2.1
def XD (o:Obj) (d:Option Addr):Prop:=o.dict=d/\∃ vs,o.data=.fields vs/\vs[2]?=some .none
theorem XD.dk {o o':Obj}{d:Option Addr} (x:XD o d) (h:o'.dict=o.dict) (f:∀ vs,o.data=.fields vs->∃ vs',o'.data=.fields vs'/\vs'[2]?=vs[2]?):XD o' d:=by obtain⟨x1,vs,x2,x3⟩:=x;obtain⟨vs',y1,y2⟩:=f vs x2;exact⟨h.trans x1,vs',y1,y2.trans x3⟩
noncomputable def Á (P:Zh) (w:Zi):Ï:=fun outer H s E e s'=>∃ (ea C t:Addr) (B:Heap) (H':Hp) (d:Option Addr),e=.ref ea/\s'.os=s.os/\AllBare s'.gens/\Un (Ñ outer) [] H H' s.heap s'.heap/\Î P w H' s'.heap ∧
 Heap.FlyingW B outer ea (.ref C) (.ref t) s'.heap/\(∃ oe,s'.heap.get? ea=some oe/\XD oe d)/\(∀ dx,d=some dx->∃ fs,H' dx=some (.xd fs)) ∧
 (∀ b o,s'.heap.get? b=some o->b∉Ñ outer->(H' b≠none∨∃ u,s.heap.get? b=some u)->B.get? b=some o)/\E (.ref C) d H'
section
variable {X:Cx}{Yp:Zp}{σ:St}{H:Hp}{s:Zg}
theorem yf {B h':Heap} (I:Inv X Yp σ H s) (hst:X.stack=X.env::X.outer) (hf:X.env.frame=some X.env.locals) (hex:X.ex=[]) (hB:B.StaysIn h') (hsm:s.heap.UpToSlots h')
  (hk:∀ b o,s.heap.get? b=some o->b∉Ñ X.stack->(H b≠none∨∃ u,X.s₀.heap.get? b=some u)->B.get? b=some o) :
  Un (Ñ X.outer) [] X.H₀ H X.s₀.heap h'/\Î X.prog X.w H h'/\∀ b o,h'.get? b=some o->b∉Ñ X.outer->(H b≠none∨∃ u,X.s₀.heap.get? b=some u)->B.get? b=some o:=by
 have hfs:Ñ X.stack=X.env.locals::Ñ X.outer:=by rw[hst];unfold Ñ;rw[nJ,hf]
 have old:∀ b u,X.s₀.heap.get? b=some u->b≠X.env.locals:=fun b u e z=>absurd (bK (aQ e) (by rw[z];exact I.ok.above)) (gh _);have nstk:∀ b,b≠X.env.locals->b∉Ñ X.outer->b∉Ñ X.stack:=fun b h1 h2 z=>by rw[hfs] at z;rcases aY.mp z with z | z;exact h1 z;exact h2 z
 have ø:∀ b,H b≠none->b∉Ñ X.stack:=fun b h1 z=>h1 (I.xN b z);have nx:∀ b:Addr,b∉X.ex:=fun b=>by rw[hex];simp
 have fr:∀ b,b∈Ñ X.outer->∃ o,s.heap.get? b=some o/\∀ vs,o.data≠.fields vs:=fun b hb=>(I.stack.mem (show b∈Ñ X.stack by rw[hfs];exact b8 _ hb)).2;have tkeep:∀ b o,H b≠none->s.heap.get? b=some o->h'.get? b=some o:=fun b o h1 e=>hB b o (hk b o e (ø b h1) (.inl h1));have okeep:∀ b o u,X.s₀.heap.get? b=some u->b∉Ñ X.outer->s.heap.get? b=some o->h'.get? b=some o:=fun b o u e0 h2 e=>hB b o (hk b o e (nstk b (old b u e0) h2) (.inr ⟨u,e0⟩));refine⟨⟨fun b o e n hb _=>?_,fun b o e n hb _=>?_,fun b o e n _=>I.base.free b o e n (nx b),fun b o e _=>?_,I.base.tups,I.base.frzs,I.base.tbls⟩,fun a o e=>?_,fun b o e hb hc=>?_⟩
 ·exact okeep b o o e hb (I.base.keep b o e n hb (nx b))
 ·obtain⟨sl,e1⟩:=I.base.slot b o e n hb (nx b);obtain⟨o1,e2,hd⟩:=fr b hb;rw[e1] at e2;cases e2;obtain⟨sl',e3⟩:=hsm b _ e1 hd;exact⟨sl',e3⟩
 ·obtain⟨o1,e1⟩:=I.base.there b o e (nx b)
  by_cases hb:b∈Ñ X.outer
  ·obtain⟨o2,e2,hd⟩:=fr b hb;obtain⟨sl',e3⟩:=hsm b _ e2 hd;exact⟨_,e3⟩
  ·exact⟨o1,okeep b o1 o e hb e1⟩
 ·refine (I.hok a o e).pZ (fun c v hc q=>tkeep c v ?_ q) (fun _ q=>q) fun _ _ q=>q;rcases hc with z | z
  ·rw[z,e];simp
  ·rw[z];simp
 ·rcases hc with h1 | ⟨u,e0⟩
  ·cases q:H b with
   | none=>exact absurd q h1
   | some ob =>obtain⟨o1,e1⟩:=AD (I.hok b ob q);have:=tkeep b o1 h1 e1;rw[e] at this;cases this;exact hk b o e1 (ø b h1) (.inl h1)
  ·obtain⟨o1,e1⟩:=I.base.there b u e0 (nx b);have:=okeep b o1 u e0 hb e1;rw[e] at this;cases this;exact hk b o e1 (nstk b (old b u e0) hb) (.inr ⟨u,e0⟩)
def E4 (X:Cx) (E:St->XK):Prop:=∀ (Yp:Zp) (σ:St) (H:Hp) (s:Zg) (h1:Heap) (e C:Addr) (vs:Zc),Inv X Yp σ H s->Heap.MadeExcOf s.heap h1 e (.ref C) vs->E σ (.ref C) none H->X.xe (.ref e) { s with heap:=h1 }
end
section
variable {P:Zh}{w:Zi}{K:Zf}{mg:Zk}{base:Heap}{N:Ze}{qual:Str}{scope:Scope}{f:Addr}{cd:Value}{A:Around}{outer:List Env}{s:Zg}{H:Hp}{E:XK}
theorem az:Passes (Á P w) (oH (Á P w) P w K mg base N qual scope f cd A outer s H E) (fun _=>E):=by intro Yp σ H1 s1 e s' I h;obtain⟨ea,C,t,B,H',d,rfl,os,bare,un,hok,fl,⟨oe,hoe,hdo⟩,hdx,hkb,hE⟩:=h;have I':=I.J3 (ch:=[]) os un hok bare (fun b z=>absurd z (by simp));show wpAny _ _ _ _ _ _;refine cu (KD.any (E:=fun _ _=>False) (ua _ _) (wpAny_leaves_onW (Q:=fun _ s''=>∃ h',s''={ s' with heap:=h' }/\Heap.FlyingW B outer ea (.ref C) (.ref t) h'/\s'.heap.UpToSlots h') I.ok.frames rfl fl fun h' x1 x2=>⟨h',rfl,x1,x2⟩)) ?_ (fun _ _ z=>False.elim z.1);rintro _ s'' ⟨⟨h',rfl,x1,x2⟩,dk⟩;obtain⟨u1,u2,u3⟩:=yf (B:=B) (h':=h') I' rfl rfl rfl x1.1 x2 (fun b o e1 e2 e3=>hkb b o e1 e2 (e3.elim .inl fun ⟨u,e0⟩=>.inr (I.base.there b u e0 (by show b∉([]:List Addr);simp))));obtain⟨oe',hoe',_,hd',hg'⟩:=dk ea oe hoe;exact⟨ea,C,t,B,H',d,rfl,I'.os,I'.bare,u1,u2,x1,⟨oe',hoe',hdo.dk hd' hg'⟩,hdx,u3,hE⟩
theorem da:E4 (oH (Á P w) P w K mg base N qual scope f cd A outer s H E) (fun _=>E):=by intro Yp σ H1 s1 h1 e C vs I hx hE;show wpAny _ _ _ _ _ _;have hin:∀ env∈(envOfC qual scope s.heap.objs.size f cd::outer),∀ b,env.frame=some b->b∈Ñ (envOfC qual scope s.heap.objs.size f cd::outer):=fun env he b hb=>List.mem_filterMap.mpr ⟨env,he,hb⟩;have st:(PySem.W.hideAll s1.heap (Ñ (envOfC qual scope s.heap.objs.size f cd::outer))).StaysIn s1.heap:=fun b o q=>PySem.W.of_hideAll _ q;have ff:s1.heap.FunFrames (PySem.W.hideAll s1.heap (Ñ (envOfC qual scope s.heap.objs.size f cd::outer))) (envOfC qual scope s.heap.objs.size f cd::outer):=PySem.W.funFrames_hide I.stack hin;obtain⟨tt,het,_,_⟩:=hx.there;refine cu (KD.any (E:=fun _ _=>False) (ua _ _) (wpAny_leaves_madeW (s:={ s1 with heap:=h1 }) (Q:=fun _ s''=>∃ h' t,s''={ s1 with heap:=h' }/\Heap.FlyingW (PySem.W.hideAll s1.heap (Ñ (envOfC qual scope s.heap.objs.size f cd::outer))) outer e (.ref C) (.ref t) h'/\h1.UpToSlots h') I.ok.frames rfl st ff hx fun h' t x1 _ _ x4=>⟨h',t,rfl,x1,x4⟩)) ?_ (fun _ _ z=>False.elim z.1);rintro _ s'' ⟨⟨h',t,rfl,x1,x4⟩,dk⟩;obtain⟨u1,u2,u3⟩:=yf (h':=h') I rfl rfl rfl x1.1 ((Heap.UpToSlots.of_keeps hx.keeps).trans x4) (fun b o e1 e2 _=>PySem.W.hideAll_get _ e1 e2);obtain⟨oe',hoe',_,hd',hg'⟩:=dk e _ het;exact⟨e,C,t,_,H1,none,rfl,I.os,I.bare,u1,u2,x1,⟨oe',hoe',XD.dk ⟨rfl,_,rfl,rfl⟩ hd' hg'⟩,(fun dx z=>by cases z),u3,hE⟩
end
theorem fg :Passes (Á P w) X E0:=fun _ _ _ _ _ _ _ h=>by obtain⟨_,_,_,_,_,_,_,_,_,_,_,_,_,_,_,z⟩:=h;exact z.elim
theorem vH {outer:List Env}{e:Value}{s':Zg} (h:Á P w outer H s (fun _ _ _=>False) e s'):False:=by obtain⟨_,_,_,_,_,_,_,_,_,_,_,_,_,_,_,z⟩:=h;exact z
section
variable {P:Zh}{w:Zi}{K:Zf}{mg:Zk}{base:Heap}
theorem Å.â {x qual:Str}{st:Stmt}{N ps:Ze}{k:Nat} (F:Å K x qual st f fd) (S:aJ N ps (ax st)) (len:∀ vs H Q E,sp vs H Q E->⇑vs=⇑ps)
  (hbody:∀ (cdv:Value) (A:Around) (outer:List Env) (s:Zg) (H:Hp) (vs:List V) (Q:VK) (E:XK),cU k (A.deeper (envOfC qual (ax st) s.heap.objs.size f cdv))->sp vs H Q E →
   ∃ t,Ù (oH (Á P w) P w K mg base N qual (ax st) f cdv A outer s H E) (cn st) t/\t { nx:=fun _ H'=>Q .non H',rt:=Q } (start N vs) H):bF P w K mg base (Á P w) (k+1) f fd ps sp:=by
 obtain⟨oc,od,kV,doc,pm,an,cdv,ct,osl,rfl,lk,hcd⟩:=F.ex;exact yw lk hcd S len fun A outer s H vs Q E hr hsp=>hbody cdv A outer s H vs Q E hr hsp
theorem E3.ok {k:Nat} (F:E3 P w K mg base CX k f fd ps sp):bF P w K mg base CX k f fd ps sp :=
 ⟨F.len,fun A outer s H args us vs Q E hr=>F.run A outer s H args us vs Q E hr.n (.inl hr.hd)⟩
end
theorem Dy {newId:String} (XK:K.In h) (q:PySem.W.excIn K C bmB newId=true) :
  ∃ bm N nm qn bs hd sn sub ab col dd k0 k1 k2 k3 k5 mN,h.get? C=some (excClassObj nm qn C N bs bm hd sn sub ab col dd k0 k1 k2 k3 k5 newId)/\h.Ns N mN/\mN "__init__"=none/\OwnTail h bmB bm:=by
 unfold PySem.W.excIn at q;split at q;next dd cd sl ho =>
  split at q;next C' bm k0 k1 k2 k3 n k5 hm hs =>
   simp only[bV,ie,Bool.not_eq_true'] at q;obtain⟨⟨⟨⟨⟨e1,e2⟩,e3⟩,e4⟩,e5⟩,e6⟩:=q;subst e1 e2;cases cd with
   | mk nm bs mro ns qn hd sn sub ab col del =>
    simp only at hm e3 e5 e6;subst hm e3;have z:sl=#[k0,k1,k2,k3,some (.builtin n),k5]:=by
     cases sl with
     | mk l=>simp only at hs;rw[hs]
    subst z;exact⟨bm,ns,nm,qn,bs,hd,sn,sub,ab,col,dd,k0,k1,k2,k3,k5,_,XK _ _ ho,.of_isNs (PySem.W.isNs_of_in XK e5),PySem.W.nsMap_none_of_in XK e5 e6,PySem.W.tail_of_in XK e4⟩
  next=>cases q
 next=>cases q
def AY (C:Addr) (E:St->XK) (t:TA):TS:=fun _ σ H=>t σ H fun vs H1=>⇑vs<=sizeLine/\E σ (.ref C) none H1
theorem EH {C:Addr}{E:St->XK}{t:TA}{D:Ends}{σ:St}{H:Hp}:AY C E t D σ H=t σ H fun vs H1=>⇑vs<=sizeLine/\E σ (.ref C) none H1:=propext Iff.rfl
section
variable {X:Cx}
theorem dO {E:St->XK}{B newId initId:String}{e₀:Expr}{rest:List Expr}{t:TA}{np cpos pos:Pos} (FB:ExcBaseFacts B newId initId bmB) (hq:PySem.W.excIn X.K C bmB newId=true) (hm:X.mg x=some (.ref C))
  (hrx:E4 X E) (hc:X.calm=true) (ha:PA X (e₀::rest) t) (hg:X.env.kindOf x=some .globalImplicit:=by ext) (hd:(x==("__debug__":Str))=false:=by ext) (hs:eh (e₀::rest)=true:=by ext) :
  PS X (.Raise (some (.Call (.Name x np) (e₀::rest) [] cpos)) none pos) (AY C E t):=by
 intro Yp s σ H D I h;obtain⟨bm,N,nm,qn,bs,hdct,sn,sub,ab,col,dd,k0,k1,k2,k3,k5,mN,g1,g2,g3,g4⟩:=Dy I.ok.mod.kin hq;have he:=aP (es:=rest) (env:=X.env) (b9 hs).1;refine wpAny_Raise_call_subT (C:=C) (nm:=nm) (q:=qn) (N:=N) (bs:=bs) (bm:=bm) (hdct:=hdct) (sn:=sn) (sub:=sub) (ab:=ab) (col:=col) (dd:=dd) (k0:=k0) (k1:=k1) (k2:=k2) (k3:=k3) (k5:=k5)
  FB (mN:=mN) (g4.hasType FB.hasBase) (I.ok.hd hc) (dA hs) g3 (ql I hg hm ⟨rfl,?_⟩ hd)
 have ha':=ha cpos Yp s σ H _ I h;rw[he] at ha' ⊢;refine Calls.evalArgs_plain (cu ha' (fun vs s2 h2=>?_) fun _ _ y=>y);obtain⟨xs,H2,I2,r,z,q⟩:=h2;exact⟨rfl,by rw[←⇑r];exact z,I2.bk _ _ g1,g2.keeps I2.bk,g4.keeps I2.bk,fun h' e hx=>hrx Yp σ H2 s2 h' e C vs I2 hx q⟩
end
end
section
noncomputable def LV (a:Addr) (c:Value) (d:Option Addr):HO:=.ext fun h=>∃ o,h.get? a=some o/\o.cls=c/\XD o d
section
variable {X:Cx}{Yp:Zp}{σ:St}{H:Hp}{s:Zg}
noncomputable def Ends.un (D:Ends) (i:Nat):Ends:=⟨fun σ H=>D.nx (σ.set i none) H,D.rt,fun σ H=>D.bk (σ.set i none) H,fun σ H=>D.ct (σ.set i none) H⟩
theorem Inv.Nc {xe:Zq} (I:Inv X Yp σ H s):Inv { X with pn:=X.pn++Yp,xe:=xe } [] σ H s :=
 ⟨⟨I.ok.mod,I.ok.kind,I.ok.glob,I.ok.blt,I.ok.above,I.ok.inj,I.ok.has,I.ok.cab,I.ok.hd,I.ok.frames,I.ok.stk,I.ok.exf,I.ok.bs,I.ok.bsz,I.ok.noex,I.ok.exfs,I.ok.oM,I.ok.frf⟩,I.os,I.bare,I.base,I.loc,I.cell,I.free,I.freeC,
  fun p h=>I.pin p (by simpa using h),I.hok,I.len⟩
theorem Inv.xB {pins':Zp} (I:Inv { X with pn:=X.pn++Yp,xe:=xe } pins' σ H s):Inv X Yp σ H s :=
 ⟨⟨I.ok.mod,I.ok.kind,I.ok.glob,I.ok.blt,I.ok.above,I.ok.inj,I.ok.has,I.ok.cab,I.ok.hd,I.ok.frames,I.ok.stk,I.ok.exf,I.ok.bs,I.ok.bsz,I.ok.noex,I.ok.exfs,I.ok.oM,I.ok.frf⟩,I.os,I.bare,I.base,I.loc,I.cell,I.free,I.freeC,
  fun p h=>I.pin p (lB _ h),I.hok,I.len⟩
end
end
section
structure JY (K:Zf) (C:Addr):Prop where
 ga:PySem.W.findIn K (.ref C) "__getattribute__"=some (some (.builtin "BaseException.__getattribute__"))
 gn:PySem.W.findIn K (.ref C) "__getattr__"=some none
 sb:PySem.W.subIn K (.ref C) (.type "BaseException")=some true
 cl:(PySem.W.clsIn K C).isSome=true
 ha:PySem.W.findIn K (.ref C) "__class__"=some (some (.builtin "object.__class__"))
 hn:PySem.W.specialIn K (.builtin "object.__class__") "__get__"=some (some (.builtin "getset_descriptor.__get__"))
 htk:PySem.W.takesIn K (.builtin "object.__class__")=some true
 hm:PySem.W.mroIn K C (.type "object")=some true
def ē (K:Zf) (H:Hp) (x:V) (t:Value):Prop:=oZ K H x t∨∃ a C,x=.ref a/\t=.ref C/\H a=some (LV a (.ref C) none)/\JY K C
def Mu (K:Zf):List V->Hp->VK->Prop:=fun vs H Q=>match vs with
 | [x,.ty n]=>∃ t b,ē K H x t/\PySem.W.kitOne K t (.type n)=some b/\Q (.bl b) H
 | [x,.ref c]=>∃ t b,ē K H x t/\(PySem.W.kitOne K t (.ref c)=some b∨∃ (a C:Addr) (cs:List Addr),x=.ref a/\t=.ref C/\H a=some (LV a (.ref C) none)/\JY K C/\H c=some (.tup (cs.map V.ref))/\PySem.W.kitAny K t (cs.map Value.ref)=some b)/\Q (.bl b) H
 | _=>False
noncomputable def LW (K:Zf) (C:Addr):Bool :=
 PySem.W.findIn K (.ref C) "__getattribute__"==some (some (.builtin "BaseException.__getattribute__"))&&PySem.W.findIn K (.ref C) "__getattr__"==some none&&PySem.W.subIn K (.ref C) (.type "BaseException")==some true&&(PySem.W.clsIn K C).isSome&&PySem.W.findIn K (.ref C) "__class__"==some (some (.builtin "object.__class__")) &&
 PySem.W.specialIn K (.builtin "object.__class__") "__get__"==some (some (.builtin "getset_descriptor.__get__"))&&PySem.W.takesIn K (.builtin "object.__class__")==some true&&PySem.W.mroIn K C (.type "object")==some true
noncomputable def Fd (K:Zf) (b:Addr) (cs:List Addr):Bool :=
 cs.all fun c=>LW K c&&PySem.W.exmOne K (.ref c) (.ref b)==some true&&PySem.W.kitOne K (.ref c) (.type "ValueError")==some true&&PySem.W.kitOne K (.ref c) (.ref b)==some true &&
  cs.all fun d=>PySem.W.kitOne K (.ref c) (.ref d)==some (c==d)
structure Č (K:Zf) (b:Addr) (cs:List Addr) (c:Addr):Prop where
 ex:JY K c
 em:PySem.W.exmOne K (.ref c) (.ref b)=some true
 ve:PySem.W.kitOne K (.ref c) (.type "ValueError")=some true
 ba:PySem.W.kitOne K (.ref c) (.ref b)=some true
 kd:∀ d∈cs,PySem.W.kitOne K (.ref c) (.ref d)=some (c==d)
theorem Č.any {K:Zf}{b:Addr}{cs:List Addr}{c:Addr} (E:Č K b cs c):∀ {ds:List Addr},(∀ d∈ds,d∈cs)->PySem.W.kitAny K (.ref c) (ds.map Value.ref)=some (ds.contains c)
 | [],_=>rfl
 | d::r,h=>by show (match PySem.W.kitOne K (.ref c) (.ref d) with | some true=>some true | some false=>PySem.W.kitAny K (.ref c) (r.map Value.ref) | none=>none)=_;rw[E.kd d (h d bu),Č.any E (fun x hx=>h x (b8 _ hx)),List.contains_cons];cases (c==d)<;>rfl
theorem dB {v:V} (h:∃ u,X.mg x=some u/\RelV v u) (hg:X.env.kindOf x=some .globalImplicit:=by ext) (hd:(x==("__debug__":Str))=false:=by ext):PE X (.Name x pos) (tC v):=by obtain⟨u,h1,h2⟩:=h;exact IV hg h1 h2 hd
structure L8 (P:Zh) (w:Zi) (K:Zf) (mg:Zk) (base:Heap) (CX:Ï) (k:Nat) (x:Str) (ps:Ze) (sp:Sp):Prop where
 ex:∃ (f:Addr) (fd:FuncData),E3 P w K mg base CX k f fd ps sp/\mg x=some (.ref f)/\PySem.W.keepIn K (.ref f)=true/\Binds K fd ps []
theorem L8.fnc {P:Zh}{w:Zi}{K:Zf}{mg:Zk}{base:Heap}{CX:Ï}{k:Nat}{x:Str}{ps:Ze}{sp:Sp} (C:L8 P w K mg base CX k x ps sp):Ä P w K mg base CX k x ps sp:=by obtain⟨f,fd,F,h⟩:=C.ex;exact⟨f,fd,F.ok,h⟩
theorem wD.same {o:Option Value}{H H':Hp} (h:wD o H) (s:aB H H'):wD o H':=by
 rcases h with h | ⟨ea,φ,e1,e2,e3⟩
 ·exact .inl h
 ·exact .inr ⟨ea,φ,e1,s _ _ e2,e3⟩
end
section
def up (t:TE):TE:=fun σ H R=>∃ R',t σ H R'/\∀ x H,R' x H->R x H
def upA (t:TA):TA:=fun σ H R=>∃ R',t σ H R'/\∀ x H,R' x H->R x H
theorem PE.up {X:Cx}{e:Expr}{t:TE} (h:PE X e t):PE X e (up t):=fun Yp s σ H Q I ⟨R',h1,h2⟩=>Â (h Yp s σ H R' I h1) fun _ _ ⟨v,H',I',r,q⟩=>⟨v,H',I',r,h2 v H' q⟩
theorem PA.up {t:TA} (h:PA X es t):PA X es (upA t):=fun pos Yp s σ H Q I ⟨R',h1,h2⟩=>Â (h pos Yp s σ H R' I h1) fun _ _ ⟨v,H',I',r,q⟩=>⟨v,H',I',r,h2 v H' q⟩
def Gu (K:Zf) (f:Str) (x:V) (H:Hp) (Q:VK):Prop:=match x with
 | .ref a=>∃ C dx fs v,H a=some (.ins C dx fs)/\Ý K C/\gM K C f/\fs.lookup f=some v/\Q v H
 | _=>False
def Hc (K:Zf) (ta:TE) (f:Str):TE:=fun σ H Q=>ta σ H fun x H1=>Gu K f x H1 Q
theorem Ke {K:Zf}{ta:TE}{f:Str}{σ:St}{H:Hp}{Q:VK}:Hc K ta f σ H Q=ta σ H fun x H1=>Gu K f x H1 Q:=propext Iff.rfl
def GB (K:Zf) (f:Str) (y x:V) (H:Hp) (Q:Hp->Prop):Prop:=match x with
 | .ref a=>∃ C dx fs,H a=some (.ins C dx fs)/\Ý K C/\gM K C f/\⇑fs<1000/\Q (upd H a (.ins C dx (m9 f y fs)))
 | _=>False
def JL (K:Zf) (ta tv:TE) (f:Str):TS:=fun D σ H=>tv σ H fun y H1=>ta σ H1 fun x H2=>GB K f y x H2 fun H3=>D.nx σ H3
theorem HJ {K:Zf}{ta tv:TE}{f:Str}{D:Ends}{σ:St}{H:Hp}:JL K ta tv f D σ H=tv σ H fun y H1=>ta σ H1 fun x H2=>GB K f y x H2 fun H3=>D.nx σ H3:=propext Iff.rfl
section
variable {X:Cx}{K:Zf}
theorem cz {ta:TE}{f:Str} (hK:X.K=K) (he:PE X e ta) (hb:attributeBase e f X.env (eval e X.env)=eval e X.env:=by ext):PE X (.Attribute e f pos) (Hc K ta f):=by
 subst hK;intro Yp s σ H Q I h;refine Lg (ta:=up ta) he.up hb Yp s σ H Q I ⟨_,h,fun x H1 hx=>?_⟩;cases x with
 | ref a=>obtain⟨C,dx,fs,v,h1,h2,h3,h4,h5⟩:=hx;exact⟨a,C,dx,fs,v,rfl,h1,h2,h3,h4,h5⟩
 | _=>exact False.elim hx
theorem oA {o value:Expr}{ta tv:TE}{f:Str}{pos pos':Pos} (hK:X.K=K) (ha:PE X o ta) (hv:PE X value tv) (hs:swapsWith value (some (.Attribute o f pos')) pos.line X.env=pure false:=by ext) :
  PS X (.Assign [.Attribute o f pos'] value pos) (JL K ta tv f):=by
 subst hK;intro Yp s σ H D I h;refine Lm (ta:=up ta) (tv:=up tv) ha.up hv.up hs Yp s σ H D I ⟨_,h,fun y H1 hy=>⟨_,hy,fun x H2 hx=>?_⟩⟩;cases x with
 | ref a=>obtain⟨C,dx,fs,h1,h2,h3,h4,h5⟩:=hx;exact⟨a,C,dx,fs,rfl,h1,h2,h3,h4,h5⟩
 | _=>exact False.elim hx
end
structure Ð (P:Zh) (w:Zi) (K:Zf) (mg:Zk) (base:Heap) (CX:Ï) (C:Addr) (m:Str) (k:Nat) (ps:Ze) (sp:Sp):Prop where
 ex:∃ (f:Addr) (fd:FuncData),bF P w K mg base CX k f fd ps sp/\Meth K C m f/\Binds K fd ps []
 cl:Ý K C
def AW (C:Addr) (m:Str) (x:V) (H:Hp) (Q:Hp->Prop):Prop:=match x with
 | .ref a=>∃ dx fs,H a=some (.ins C dx fs)/\fs.lookup m=none/\Q H
 | _=>False
def xP (C:Addr) (m:Str) (sp:Sp) (E:St->XK) (ta:TE) (t:TA):TE:=fun σ H Q=>ta σ H fun x H1=>AW C m x H1 fun H1=>t σ H1 fun vs H2=>sp (x::vs) H2 Q (E σ)
theorem HF {C:Addr}{m:Str}{sp:Sp}{E:St->XK}{ta:TE}{t:TA}{σ:St}{H:Hp}{Q:VK}:xP C m sp E ta t σ H Q=ta σ H fun x H1=>AW C m x H1 fun H1=>t σ H1 fun vs H2=>sp (x::vs) H2 Q (E σ):=propext Iff.rfl
section
variable {X:Cx}{CX:Ï}{E:St->XK}
theorem e9 {pl:Sem Bool}{k:Nat}{o e:Expr}{ta:TE}{t:TA}{apos pos:Pos} (M:Ð X.prog X.w X.K X.mg X.base CX C m k ps sp) (hx:Passes CX X E) (hr:cU k X.A) (he:PE X o ta) (ha:PA X (e::es) t)
  (hs:eh (e::es)=true:=by ext)
  (ht:eval (.Call (.Attribute o m apos) (e::es) [] pos) X.env=(do
   let ov ←eval o X.env
   standAt apos.atName
   let (f,first) ←holding [ov] (getMethod ov m pl)
   callWith pos f first (backTo pos (starEach (e::es) X.env)) (backToKw pos (keywordEach [] X.env))):=by rfl) :
  PE X (.Call (.Attribute o m apos) (e::es) [] pos) (xP C m sp E ta t):=by
 obtain⟨f,fd,F,hm,hb⟩:=M.ex;intro Yp s σ H Q I h;refine IZ (ta:=up ta) (t:=t) he.up M.cl hm F hr hb .nil hx ha (aP (b9 hs).1) (dA (b9 hs).2) ht Yp s σ H Q I ⟨_,h,fun x H1 q=>?_⟩;cases x with
 | ref a =>obtain⟨dx,fs,h1,h2,h3⟩:=q;refine⟨a,dx,fs,rfl,h1,h2,?_⟩;simp only[dQ];exact h3
 | _=>exact False.elim q
theorem cY {pl:Sem Bool}{k:Nat}{o:Expr}{ta:TE}{apos pos:Pos} (M:Ð X.prog X.w X.K X.mg X.base CX C m k ps sp) (hx:Passes CX X E) (hr:cU k X.A) (he:PE X o ta)
  (ht:eval (.Call (.Attribute o m apos) [] [] pos) X.env=(do
   let ov ←eval o X.env
   standAt apos.atName
   let (f,first) ←holding [ov] (getMethod ov m pl)
   callWith pos f first (backTo pos (starEach [] X.env)) (backToKw pos (keywordEach [] X.env))):=by rfl) :
  PE X (.Call (.Attribute o m apos) [] [] pos) (xP C m sp E ta Bp):=by
 obtain⟨f,fd,F,hm,hb⟩:=M.ex;intro Yp s σ H Q I h;refine Gj (ta:=up ta) he.up M.cl hm F hr hb .nil hx ht Yp s σ H Q I ⟨_,h,fun x H1 q=>?_⟩;cases x with
 | ref a =>obtain⟨dx,fs,h1,h2,h3⟩:=q;exact⟨a,dx,fs,rfl,h1,h2,h3⟩
 | _=>exact False.elim q
end
structure ü (P:Zh) (w:Zi) (K:Zf) (mg:Zk) (base:Heap) (CX:Ï) (C:Addr) (x:Str) (k:Nat) (ps:Ze) (sp:Sp):Prop where
 ex:∃ (f:Addr) (fd:FuncData),bF P w K mg base CX k f fd ps sp/\Mk K C f/\Binds K fd ps []
 mg:mg x=some (.ref C)
def He (C:Addr) (sp:Sp) (E:St->XK) (t:TA):TE:=fun σ H Q=>t σ H fun vs H1=>∀ x dx H2,H1 x=none->H1 dx=none->dx≠x->aB H1 H2->H2 x=some (.ins C dx [])->H2 dx=some (.own x)->sp (.ref x::vs) H2 (fun v H3=>v=.non/\Q (.ref x) H3) (E σ)
theorem HE {C:Addr}{sp:Sp}{E:St->XK}{t:TA}{σ:St}{H:Hp}{Q:VK}:He C sp E t σ H Q=t σ H fun vs H1=>∀ x dx H2,H1 x=none->H1 dx=none->dx≠x->aB H1 H2->H2 x=some (.ins C dx [])->H2 dx=some (.own x)->sp (.ref x::vs) H2 (fun v H3=>v=.non/\Q (.ref x) H3) (E σ):=propext Iff.rfl
section
variable {X:Cx}{CX:Ï}{E:St->XK}
theorem uE {k:Nat}{t:TA}{p pos:Pos} (M:ü X.prog X.w X.K X.mg X.base CX C x k ps sp) (hx:Passes CX X E) (hr:cU (k+1) X.A) (ha:PA X (e::es) t)
  (hg:X.env.kindOf x=some .globalImplicit:=by ext) (hd:(x==("__debug__":Str))=false:=by ext) (hs:eh (e::es)=true:=by ext) :
  PE X (.Call (.Name x p) (e::es) [] pos) (He C sp E t):=by
 obtain⟨f,fd,F,hm,hb⟩:=M.ex;intro Yp s σ H Q I h;refine IY (t:=upA t) hm F hr hg M.mg hb .nil hx ha.up hd (aP (b9 hs).1) (dA (b9 hs).2) Yp s σ H Q I ⟨_,h,fun vs H1 q x dx h1 h2 h3=>?_⟩;simp only[dQ];refine q x dx _ h1 h2 h3 ((eT h2).cf h1) aI ?_;rw[aN h3,aI]
end
end
section
theorem vR {h g:Heap}{l c:Addr}{xs:Array Value} (x:h.IsList l xs) (s:Heap.SameBut c h g) (ne:l≠c):g.IsList l xs:=by obtain⟨o,h1,h2⟩:=x;exact⟨o,(s.2 l ne).trans h1,h2⟩
section
variable {prog:Zh}{w:Zi}{A:Around}{E:Zq}
theorem ym {c l:Addr}{xs:Array Value} (ne:l≠c):∀ (k j:Nat) (s:Zg) (R:Zc->Zg->Prop),s.heap.IsListIter c l j->s.heap.IsList l xs->j+k<=xs.size →
  (∀ g,g.IsListIter c l (j+k)->Heap.SameBut c s.heap g->R ((xs.toList.drop j).take k) { s with heap:=g })->wpAny (model prog w) A (draw (.ref c) k) R E s
 | 0,j,s,R,i0,_,_,q=>au (by simpa using q s.heap i0 (Heap.SameBut.refl ..))
 | k+1,j,s,R,i0,l0,hb,q=>by
  have lt:j<xs.size:=⋯
  show wpAny _ _ (pyNext (.ref c) >>= _) R E s;refine ae (wpAny_pyNext_list_item i0 l0 (x:=xs[j]) (by simp [lt]) fun g1 i1 s1=>?_);refine ae (cQ (ym ne k (j+1) _ _ i1 (vR l0 s1 ne) ⋯ fun g2 i2 s2=>au ?_));have z:=q g2 (by rw[show j+(k+1)=j+1+k by left];exact i2) (s1.trans s2);rw[show xs.toList.drop j=xs[j]::xs.toList.drop (j+1) by simp [kZ,lt],List.take_succ_cons] at z;exact z
theorem Bu {l:Addr}{xs:Array Value}{ts:List (Bool×(Value->Sem Unit))}{R:Unit->Zg->Prop} (hh:A.handled=none) (l0:s.heap.IsList l xs) (hn:⇑ts=xs.size) (hs:ts.findIdx? (·.1)=none)
  (q:∀ g,Heap.ExtBut s.heap.objs.size s.heap g->wpAny (model prog w) A (assignInOrder (ts.map (·.2)) xs.toList) R E { s with heap:=g }):wpAny (model prog w) A (unpack (.ref l) ts) R E s:=by
 have ne:l≠s.heap.objs.size:=by obtain⟨o,ho,_⟩:=l0;exact bw (aQ ho)
 unfold unpack;rw[hn,hs];refine ae (cQ ?_);unfold unpackItems;refine ae ?_;unfold notIterableAtAll;refine ae (wpAny_specialOf l0.typeIs F.slot_list_iter.lookup ?_);refine au ?_;simp only[i9,eG];refine ae (cQ (wpAny_pyIter_list l0 ?_));refine ae (cQ (ym ne xs.size 0 _ _ ⟨_,bo _ rfl,rfl,rfl⟩ (l0.push _) ⋯ fun g1 i1 s1=>?_));rw[show List.take xs.size (List.drop 0 xs.toList)=xs.toList by rw[List.drop_zero];exact eY (by simp)];rw[ai (by simp)];refine ae (cQ (wpAny_pyNext_list_end hh i1 (vR (l0.push _) s1 ne) (by simp) fun g2 e2=>?_));simp only[Option.isSome_none,i9,eG];exact au (q g2 fun b o hb e=>e2 b o hb (s1.extBut b o hb (aL _ e)))
end
def Kw (K:Zf) (n:Nat) (t:à):TG:=fun v σ H Q=>match v with
 | .ref a=>∃ xs,Sq K H a xs/\⇑xs=n/\t xs σ H Q
 | _=>False
theorem Lj {k:Nat}{t:à}{n:Nat}{pos:Pos} (hc:X.calm=true) (h:î X es t)
  (hn:⇑(assignEach es X.env)=n:=by rfl) (hst:(assignEach es X.env).findIdx? (·.1)=none:=by rfl):PG X (.Tuple es k pos) (Kw X.K n t):=by
 intro Yp s σ H v u Q I r hw;cases v with
 | ref a =>
  obtain⟨xs,hq | hq,hl,hw⟩:=hw
  ·cases r
   obtain⟨its,rv,p,hz⟩:=I.list hq;rw[assign_Tuple];refine ae (wpAny_standAt (Bu (I.ok.hd hc) p.isList (by simp [hn,←hl,⇑rv]) hst fun g hx=>?_));have I1:Inv X Yp σ H { s with heap:=g }:=I.kept (t':=s.toks) fun b o e=>hx b o (bw (aQ e)) e;exact h Yp _ σ H xs _ Q I1 (by simpa using rv) hw
  ·exact Gk (pos:=pos) (k:=k) hc h hn hst Yp s σ H _ u Q I r ⟨a,xs,rfl,hq,hl,hw⟩
 | _=>exact False.elim hw
theorem Ja {k:Nat}{t:à}{n:Nat}{pos:Pos} (hK:X.K=K) (hc:X.calm=true) (h:î X es t)
  (hn:⇑(assignEach es X.env)=n:=by rfl) (hst:(assignEach es X.env).findIdx? (·.1)=none:=by rfl):PG X (.Tuple es k pos) (Kw K n t):=hK ▸ Lj hc h hn hst
theorem Ko {K:Zf}{n:Nat}{t:à}{a:Addr}{σ:St}{H:Hp}{Q:St->Hp->Prop}:Kw K n t (.ref a) σ H Q=∃ xs,Sq K H a xs/\⇑xs=n/\t xs σ H Q:=propext Iff.rfl
theorem EC {t:TG}{u:à}{v:V}{r:List V}{σ:St}{H:Hp}{Q:St->Hp->Prop}:mx t u (v::r) σ H Q=t v σ H fun σ' H'=>u r σ' H' Q:=propext ⟨fun ⟨_,_,e,h⟩=>by cases e;exact h,fun h=>⟨v,r,rfl,h⟩⟩
theorem H0 {σ:St}{H:Hp}{Q:St->Hp->Prop}:Au [] σ H Q=Q σ H:=propext ⟨fun h=>h.2,fun h=>⟨rfl,h⟩⟩
noncomputable def lP (l:Za) (lo hi:Option Int):Za:=(l.drop (HT.Ò ⇑l 0 lo)).take (HT.Ò ⇑l ⇑l hi-HT.Ò ⇑l 0 lo)
theorem yc (l:Za) (lo hi:Option Int):⇑(lP l lo hi)<=⇑l:=by unfold lP;rw[cP,cX];left
theorem AQ (l:List α) (a k:Nat):((List.range k).map fun j=>a+j).filterMap (l[·]?)=(l.drop a).take k:=by
 induction k with
 | zero=>simp
 | succ k ih =>
  rw[lC,bD,List.filterMap_append,ih,List.take_succ]
  congr 1
  simp only[bI,List.map_nil,nJ,List.filterMap_nil,qQ];cases l[a+k]?<;>rfl
noncomputable def gU:Option Int->Tok->Option (Int×Tok)
 | some i,t=>some (i,t)
 | none,_=>none
noncomputable def BC (n d:Nat):Option Int->Int
 | none=>d
 | some i=>max 0 (min (if i<0 then i+(n:Int) else i) (n:Int))
theorem zk (n d:Nat) (o:Option Int):BC n d o=((HT.Ò n d o:Nat):Int):=by
 cases o with
 | none=>rfl
 | some v =>
  show max 0 (min (if v<0 then v+(n:Int) else v) (n:Int))=((if v<0 then (v+(n:Int)).toNat else min v.toNat n:Nat):Int)
  by_cases h:v<0
  ·rw[aq h,aq h];left
  ·rw[ai h,ai h];left
theorem wV (lo hi:Option Int) (n:Nat):Builtin.Str.strSliceIndices lo hi 1 n=sliceRange (BC n 0 lo) (BC n n hi) 1:=by unfold Builtin.Str.strSliceIndices BC;cases lo<;>cases hi<;>simp
theorem range_one (a b:Nat):sliceRange (a:Int) (b:Int) 1=(List.range (b-a)).map fun j=>a+j:=by
 unfold sliceRange;have e3:(if (1:Int)>0 then (if (a:Int)<(b:Int) then ((b:Int)-(a:Int)+1-1)/1 else 0) else (if (a:Int)>(b:Int) then ((a:Int)-(b:Int)-1-1)/(-1) else 0)).toNat=b-a:=by rw[aq (by decide)];split<;>left
 show ((List.range (if (1:Int)>0 then (if (a:Int)<(b:Int) then ((b:Int)-(a:Int)+1-1)/1 else 0) else (if (a:Int)>(b:Int) then ((a:Int)-(b:Int)-1-1)/(-1) else 0)).toNat).map fun (k:Nat)=>((a:Int)+1*(k:Int)).toNat)=_;rw[e3];exact eX fun k _=>⋯
theorem qy (x:Str) (lo hi:Option Int) (t u:Tok):slicePicked x (gU lo t) (gU hi u) none=(List.range (HT.Ò ⇑x ⇑x hi-HT.Ò ⇑x 0 lo)).map fun j=>HT.Ò ⇑x 0 lo+j:=by
 unfold slicePicked;have e1:(gU lo t).map (·.1)=lo:=by cases lo<;>rfl
 have e2:(gU hi u).map (·.1)=hi:=by cases hi<;>rfl
 rw[e1,e2];show Builtin.Str.strSliceIndices lo hi 1 ⇑x=_;rw[wV,zk,zk,range_one]
theorem AR (x:Str) (lo hi:Option Int) (t u:Tok):(slicePicked x (gU lo t) (gU hi u) none).filterMap (x.cps[·]?)=lP x.cps.toList lo hi:=by
 have e5:(fun i:Nat=>x.cps[i]?)=fun i:Nat=>x.cps.toList[i]?:=by funext i;rw[ji]
 rw[qy,e5,AQ];unfold lP;rw[←dE]
theorem Jt :Ă X (fun x lo hi H Q=>∃ z,x=.str z/\⇑z<=sizeLine/\Q (.str (tx (lP z.cps.toList lo hi))) H):=by
 intro Yp s σ H x v vl vu lo hi sl Q I rx hs pl pu h;obtain⟨z,rfl,hz,q⟩:=h;obtain⟨t,rfl⟩:=rx;refine⟨"str",_,F.slot_str_getitem.lookup,typeIs_str s z t,?_⟩;have h1:∃ tl,vl=partValue (gU lo tl):=by cases pl with | none=>exact⟨0,rfl⟩ | int i t=>exact⟨t,rfl⟩
 have h2:∃ tu,vu=partValue (gU hi tu):=by cases pu with | none=>exact⟨0,rfl⟩ | int i t=>exact⟨t,rfl⟩
 obtain⟨tl,rfl⟩:=h1;obtain⟨tu,rfl⟩:=h2;refine wpAny_getItem_str_slice (l:=gU lo tl) (u:=gU hi tu) (st:=none) hs rfl ?_;have ec:=AR z lo hi tl tu;have key:tx (lP z.cps.toList lo hi)=⟨((slicePicked z (gU lo tl) (gU hi tu) none).filterMap (z.cps[·]?)).toArray⟩:=by rw[ec];rfl
 unfold sliceMade;split;next hh =>
  have hl:⇑(slicePicked z (gU lo tl) (gU hi tu) none)=⇑z:=by simpa using hh
  rw[qy,ak,bZ] at hl;have b1:=HT.GK ⇑z 0 (br _) lo;have b2:=HT.GK ⇑z ⇑z (aw _) hi;have e:tx (lP z.cps.toList lo hi)=z:=by
   unfold lP;rw[←dE,hl]
   by_cases hz0:⇑z=0
   ·have:z.cps.toList=[]:=by rw[←iK,←dE];exact hz0
    rw[this];have:=wx z;rw[‹z.cps.toList=[]›] at this
    simpa using this
   ·rw[show HT.Ò ⇑z 0 lo=0 by left,List.drop_zero,eY (by rw[←dE];exact aw _)];exact wx z
  rw[e] at q;exact⟨.str z,H,I,⟨t,rfl⟩,q⟩
 next =>rw[←key];refine⟨?_,.str _,H,I.tok _,⟨_,rfl⟩,q⟩;rw[bh];have:=yc z.cps.toList lo hi;rw[←dE] at this;left
def Ji (K:Zf):V->Option Int->Option Int->Hp->VK->Prop:=fun x lo hi H Q=>match x with
 | .ref a=>∃ xs,Ã K H a xs/\nw H (.lst (m7 xs lo hi)) Q
 | .str z=>⇑z<=sizeLine/\Q (.str (tx (lP z.cps.toList lo hi))) H
 | _=>False
theorem Nu :Ă X (Ji X.K):=by
 intro Yp s σ H x v vl vu lo hi sl Q I rx hs pl pu h;cases x with
 | ref a =>obtain⟨xs,h1,h2⟩:=h;exact Js Yp s σ H _ v vl vu lo hi sl Q I rx hs pl pu ⟨a,xs,rfl,h1,h2.go⟩
 | str z=>exact Jt Yp s σ H _ v vl vu lo hi sl Q I rx hs pl pu ⟨z,rfl,h.1,h.2⟩
 | _=>exact False.elim h
theorem iq (hK:X.K=K):Ă X (Ji K):=hK ▸ Nu
end
section
noncomputable def fR (x:Key) (l:List Key):Bool:=l.any fun y=>decide (y=x)
theorem jo {x:Key}{l:List Key}:fR x l=true↔x∈l:=by unfold fR;rw[jD];exact⟨fun ⟨y,h,e⟩=>gj e ▸ h,fun h=>⟨x,h,a9 rfl⟩⟩
theorem vX (x y:Key) (l:List Key):fR x (l++[y])=(fR x l||decide (y=x)):=by unfold fR;rw[List.any_append];simp
noncomputable def ck (val:Nat->Key):Nat->List Key
 | 0=>[]
 | i+1=>if fR (val i) (ck val i)=true then ck val i else ck val i++[val i]
theorem mI (val:Nat->Key):∀ i,⇑(ck val i)<=i
 | 0=>aw _
 | i+1=>by
  have ih:=mI val i;unfold ck;split
  ·left
  ·rw[aE,fJ];left
theorem zv {S S':Key->Bool}{n n':Nat} (x:h.SetOf (bj P w) a S n) (e:∀ k,S k=S' k) (en:n=n'):h.SetOf (bj P w) a S' n':=by have z:S=S':=funext e;subst z;subst en;exact x
section
variable {prog:Zh}{w:Zi}{A:Around}{R:Result->Zg->Prop}{c:Addr}{fp wr:List Addr}{G:Array GenState->Array GenState->Prop}{n:Nat}{Pv:Nat->Value->Prop}{Sv:Nat->Zg->Prop}
theorem zB (W:WalksS prog w A.in1 c fp wr G n Pv Sv) (a:Addr) (na:a∉fp) (val:Nat->Key) (hv:∀ i v,Pv i v->jm (val i) v=true/\v.scannable=true) (hb:n+1<scanBound) :
  ∀ (k i:Nat) (s:Zg),n-i=k->i<=n->Sv i s->s.heap.SetOf (bj prog w) a (fun x=>fR x (ck val i)) ⇑(ck val i) →
   (∀ s',Moved (a::wr) G s s'->s'.heap.SetOf (bj prog w) a (fun x=>fR x (ck val n)) ⇑(ck val n)->R (.ok (.ret .none)) s') →
   codeAny (model prog w) A (.builtin "set.update.loop" ⟨[.ref a,.ref c],[]⟩) R s:=by
 have nw':a∉wr:=fun z=>na (W.sub _ z);have sb:∀ b∈wr,b∈a::wr:=fun b h=>b8 _ h;have pZ:∀ {s s':Zg}{S:Key->Bool}{m:Nat},Moved wr G s s'->s.heap.SetOf (bj prog w) a S m->s'.heap.SetOf (bj prog w) a S m:=fun mv x=>by obtain⟨o,es,ep,t,ho,r⟩:=x;exact⟨o,es,ep,t,mv.heap a _ nw' ho,r⟩
 intro k
 induction k with
 | zero =>
  intro i s hk hi st x q;have e:i=n:=⋯
  subst e;refine fN qY ?_;rw[mq lG _];show wpAny _ A.in1 (pyNext (.ref c) >>= _) _ _ s;refine ae (W.done s _ _ st fun s' mv=>?_);exact au (q s' (mv.mono sb) (pZ mv x))
 | succ k ih =>
  intro i s hk hi st x q;have lt:i<n:=⋯
  refine fN qY ?_;rw[mq lG _];show wpAny _ A.in1 (pyNext (.ref c) >>= _) _ _ s;refine ae (W.item i s _ _ lt st fun v s' pv st' mv=>?_);obtain⟨hk1,hk2⟩:=hv i v pv;have x':=pZ mv x;show wpAny _ A.in1 (holding [v] (setAdd a v) >>= _) _ _ s';refine ae (cQ ?_);unfold setAdd;refine cQ ?_;refine ae ((bj prog w).pyHash (k:=val i) hk1 ?_);have room:⇑(ck val i)+1<scanBound:=by have:=mI val i;left
  refine wpAny_setAddHashed_of (knd:=bj prog w) (s:={ s' with toks:=s'.toks+1 }) hk1 hk2 x' room fun g sg xg=>?_;have x2:g.SetOf (bj prog w) a (fun y=>fR y (ck val (i+1))) ⇑(ck val (i+1)):=by
   refine zv xg (fun y=>?_) ?_
   ·show (fR y (ck val i)||decide (y=val i))=fR y (if fR (val i) (ck val i)=true then ck val i else ck val i++[val i])
    by_cases hc:fR (val i) (ck val i)=true
    ·rw[aq hc]
     by_cases e:y=val i
     ·subst e;rw[hc,Bool.true_or]
     ·rw[aF e,Bool.or_false]
    ·rw[ai hc,vX]
     congr 1
     by_cases e:y=val i
     ·rw[a9 e,a9 e.symm]
     ·rw[aF e,aF (Ne.symm e)]
   ·show (if fR (val i) (ck val i)=true then ⇑(ck val i) else ⇑(ck val i)+1)=⇑(if fR (val i) (ck val i)=true then ck val i else ck val i++[val i])
    by_cases hc:fR (val i) (ck val i)=true
    ·rw[aq hc,aq hc]
    ·rw[ai hc,ai hc,aE];rfl
  refine au ⟨jL lG _,ih (i+1) _ ⋯ lt (W.frame _ s' _ _ st' (ic _) fun b hb o e=>?_) x2 fun s'' mv2 x3=>?_⟩
  ·rw[sg.2 b (fun z:b=a=>na (by rw[←z];exact hb))];exact e
  ·refine q s'' (Moved.trans W.gtrans ((mv.mono sb).then_heap (ic _) fun b o hb e=>?_) mv2) x3;rw[sg.2 b (fun z:b=a=>hb (by rw[z];exact bu))];exact e
end
noncomputable def kH (z:Str) (i:Nat):Key:=Sum.inr ⟨#[z.cps.toList.getD i 0]⟩
theorem sub_str_set:isSubtype (.type "str") (.type "set")=pure false:=by rw[isSubtype_type];ext
theorem vc:isSubtype (.type "str") (.type "frozenset")=pure false:=by rw[isSubtype_type];ext
set_option maxRecDepth 100000 in
set_option maxHeartbeats 4000000 in
theorem zw {prog:Zh}{w:Zi}{E:Zq}{s:Zg}{z:Str}{t:Tok}{Q:Zq} (hh:A.handled=none) (hb:z.cps.size+1<scanBound)
  (q:∀ (g:Heap) (tk:Nat),g.SetOf (bj prog w) s.heap.objs.size (fun x=>fR x (ck (kH z) z.cps.size)) ⇑(ck (kH z) z.cps.size)->(∀ b o,b<s.heap.objs.size->s.heap.get? b=some o->g.get? b=some o) →
   Q (.ref s.heap.objs.size) { s with heap:=g,toks:=tk }):wpAny (model prog w) A (call (.type "set") [.str z t]) Q E s:=by
 obtain⟨c,tl,hmro⟩:=e7.mro;have hmade:=e7.made;have hsub:=e7.sub;refine wpAny_call (codeAny_of_tree ?_);show wpAny _ _ (callAny (.type "set") _) _ _ _;refine au ⟨Code.quiet_builtin _ (by nofun),fN F.entry_type_call ?_⟩;rw[Around.under_plain (weight_type_call_type "set" [.str z t] []) rfl];have h1:=e7.notType;have h2:=e7.canCreate;have hct:=F.typeCall_set_1 (.str z t)
 repeat (any_goals (first | assumption | wp_step))
 refine fO (code_set_new_1 (.str z t) (E:=E) (Q₁:=fun ob s1=>∃ led:Bool,ob=.ref s.heap.objs.size/\s1={ s with heap:=s.heap.push { cls:=.type "set",dict:=none,data:=.set #[] 0 (.fresh 0 0 led) } }) fun led=>⟨led,rfl,rfl⟩) fun r s1 hr=>?_;cases r with
 | error e=>exact hr
 | ok fl =>
  cases fl with
  | ret ob =>
   obtain⟨led,rfl,rfl⟩:=hr;generalize hg1:s.heap.push { cls:=.type "set",dict:=none,data:=.set #[] 0 (.fresh 0 0 led) }=g1;have hS:g1.get? s.heap.objs.size=some { cls:=.type "set",dict:=none,data:=.set #[] 0 (.fresh 0 0 led) }:=by rw[←hg1];exact bo _ rfl
   have hsz:g1.objs.size=s.heap.objs.size+1:=by rw[←hg1,jB]
   have hkp:∀ b o,s.heap.get? b=some o->g1.get? b=some o:=fun b o e=>by rw[←hg1];exact aL _ e
   have hT:Shared.TypeIs { s with heap:=g1 } (.ref s.heap.objs.size) "set":=⟨_,hS,rfl⟩;have hli:=e7.init.lookup;have hbi:=e7.init.bind (.ref s.heap.objs.size)
   repeat (any_goals (first | assumption | wp_step))
   refine fO (codeAny_call_builtin (R:=wants (fun r s2=>r=.none/\∃ g tk,s2={ s with heap:=g,toks:=tk }/\g.SetOf (bj prog w) s.heap.objs.size (fun x=>fR x (ck (kH z) z.cps.size)) ⇑(ck (kH z) z.cps.size) ∧
     (∀ b o,b<s.heap.objs.size->s.heap.get? b=some o->g.get? b=some o)) E) e7.init.plain F.entry_set_init (check_set_init_1 hT ?_)) fun r2 s2 hr2=>?_
   ·have k1:=sub_str_set;have k2:=vc;have k3:(Value.type "str"==Value.type "dict")=false:=by decide
    have hh3:A.in1.in1.in1.handled=none:=by simp [hh]
    have hval:∀ i v,SignAt z i v->jm (kH z i) v=true/\v.scannable=true:=by
     rintro i v ⟨ch,u,e,rfl⟩;refine⟨?_,rfl⟩;have e2:z.cps.toList.getD i 0=ch:=by rw[aK,ji,e];rfl
     unfold kH;rw[e2];exact ox _ _
    have fin:∀ (g2:Heap),(∀ b o,g1.get? b=some o->g2.get? b=some o)->∀ s',Moved (s.heap.objs.size::[g1.objs.size]) (fun a b=>b=a) { s with heap:=g2 } s' →
      s'.heap.SetOf (bj prog w) s.heap.objs.size (fun x=>fR x (ck (kH z) z.cps.size)) ⇑(ck (kH z) z.cps.size) →
      ∃ g tk,s'={ s with heap:=g,toks:=tk }/\g.SetOf (bj prog w) s.heap.objs.size (fun x=>fR x (ck (kH z) z.cps.size)) ⇑(ck (kH z) z.cps.size)/\(∀ b o,b<s.heap.objs.size->s.heap.get? b=some o->g.get? b=some o):=by
     intro g2 k4 s' mv x;obtain⟨g,ge,d,tk,os⟩:=s';have eg:ge=s.gens:=mv.gens;have ed:d=s.drawn:=mv.drawn;have eo:os=s.os:=mv.os;subst eg;subst ed;subst eo;refine⟨g,tk,rfl,x,fun b o hb e=>mv.heap b o ?_ (k4 b o (hkp b o e))⟩;simp only[aY,dS,dX,not_or];rw[hsz];exact⟨bw hb,bw (gi hb)⟩
    have start:∀ g2:Heap,(∀ b o,g1.get? b=some o->g2.get? b=some o)->g2.SetOf (bj prog w) s.heap.objs.size (fun x=>fR x (ck (kH z) 0)) ⇑(ck (kH z) 0):=fun g2 k4 =>
     letI:BEq Key:=instBEqOfDecidableEq
     zv ((PyProof.Rows.setObjOf_fresh (knd:=bj prog w) led).setOf (k4 _ _ hS) (by unfold scanBound;left)) (fun _=>rfl) rfl
    have na:s.heap.objs.size∉[g1.objs.size]:=by simp only[aY,dS,dX];left
    unfold Builtin.«set.__init__» noKeywords Builtin.Frozenset.updateFrom;generalize hPI:pyIter=PI
    wp_walk
    subst hPI;cases ha:z.cps.all (·<128) with
    | true =>refine wpAny_pyIter_ascii ha ?_;refine ae (wpAny_runValue ?_);refine zB ((Walks.strAscii hh3 g1.objs.size z t).toS) s.heap.objs.size na (kH z) hval hb (z.cps.size-0) 0 _ ⋯ (br _) ⟨_,bo _ rfl,rfl,rfl⟩ (start _ fun b o e=>aL _ e) fun s' mv x=>?_;obtain⟨g,tk,e,r1,r2⟩:=fin _ (fun b o e=>aL _ e) s' mv x;refine au ?_;show wpAny _ _ (ret Value.none) _ _ _;exact au ⟨rfl,g,tk,e,r1,r2⟩
    | false =>refine wpAny_pyIter_wide ha ?_;refine ae (wpAny_runValue ?_);refine zB ((Walks.strWide hh3 g1.objs.size z t).toS) s.heap.objs.size na (kH z) hval hb (z.cps.size-0) 0 _ ⋯ (br _) ⟨_,bo _ rfl,rfl,rfl⟩ (start _ fun b o e=>aL _ e) fun s' mv x=>?_;obtain⟨g,tk,e,r1,r2⟩:=fin _ (fun b o e=>aL _ e) s' mv x;refine au ?_;show wpAny _ _ (ret Value.none) _ _ _;exact au ⟨rfl,g,tk,e,r1,r2⟩
   ·cases r2 with
    | error e=>exact hr2
    | ok fl2 =>
     cases fl2 with
     | ret v =>
      obtain⟨rfl,g,tk,rfl,x1,x2⟩:=hr2
      repeat (any_goals (first | assumption | wp_step))
      exact q _ _ x1 x2
     | _=>exact hr2.elim
  | _=>exact hr.elim
end
section
noncomputable def Bg (P:Zh) (w:Zi) (a:Addr) (l:List Key):HO:=.ext fun h=>h.SetOf (bj P w) a (fun x=>fR x l) ⇑l
theorem Jp {l:List Key} (x:h.SetOf (bj P w) a (fun x=>fR x l) ⇑l):bX P w H h a (Bg P w a l):=by
 refine⟨x,?_,fun h1 h2 y k=>?_⟩
 ·obtain⟨o,_,_,_,e,_⟩:=x;exact⟨o,e⟩
 ·obtain⟨o,es,ep,t,e,r⟩:=y;exact⟨o,es,ep,t,k o e,r⟩
def GA (P:Zh) (w:Zi):List V->Hp->VK->Prop:=fun vs H Q=>match vs with
 | [.str z]=>⇑z<=4000/\∀ p H',H p=none->aB H H'->H' p=some (Bg P w p (ck (kH z) ⇑z))->Q (.ref p) H'
 | _=>False
theorem CU (hc:X.calm=true):dy X (.type "set") (GA X.prog X.w):=by
 intro Yp s σ H xs us Q I r h;rcases xs with _ | ⟨x0,t⟩
 ·exact h.elim
 cases x0<;>try exact h.elim
 cases t<;>try exact h.elim
 next z =>obtain⟨u,rfl,t,rfl⟩:=vals1 r;have hf:H s.heap.objs.size=none:=I.hok.fresh (aw _);have hz:z.cps.size<=4000:=h.1;refine zw (I.ok.hd hc) (by unfold scanBound;left) fun g tk x k=>?_;have kk:∀ b o,s.heap.get? b=some o->g.get? b=some o:=fun b o e=>k b o (aQ e) e;exact⟨.ref s.heap.objs.size,upd H s.heap.objs.size (Bg X.prog X.w s.heap.objs.size (ck (kH z) ⇑z)),I.laid (t':=tk) kk (aw _) (Jp x),rfl,h.2 _ _ hf (eT hf) aI⟩
def Gw (P:Zh) (w:Zi):List V->Hp->VK->Prop:=fun vs H Q=>match vs with
 | [.ref p]=>∃ l,H p=some (Bg P w p l)/\Q (.int ⇑l) H
 | _=>False
theorem CM :dy X (.builtin "len") (Gw X.prog X.w):=by
 intro Yp s σ H xs us Q I r h;rcases xs with _ | ⟨x0,t⟩
 ·exact h.elim
 cases x0<;>try exact h.elim
 cases t<;>try exact h.elim
 next p =>obtain⟨l,e,q⟩:=h;obtain⟨u,rfl,ru⟩:=vals1 r;cases ru;obtain⟨⟨o,es,ep,t,e1,e2,e3,_,_,e4,e5,e6⟩,_⟩:=(show bX X.prog X.w H s.heap p (Bg X.prog X.w p l) from I.hok p _ e);refine call_len_set e1 e2 e3 e5 (by have:es.size<4096:=e4;left) ⟨.int es.size,H,I.tok _,⟨_,rfl⟩,?_⟩;rw[e6];exact q
theorem CT (hP:X.prog=P) (hw:X.w=w) (hc:X.calm=true):dy X (.type "set") (GA P w):=by subst hP hw;exact CU hc
theorem zJ (hP:X.prog=P) (hw:X.w=w):dy X (.builtin "len") (Gw P w):=by subst hP hw;exact CM
theorem uh (val:Nat->Key):∀ (n:Nat) (x:Key),x∈ck val n↔∃ i,i<n/\val i=x
 | 0,x=>⟨fun h=>(by cases h),fun ⟨i,h,_⟩=>absurd h (Nat.not_lt_zero _)⟩
 | n+1,x=>by
  have ih:=uh val n;unfold ck
  by_cases hc:fR (val n) (ck val n)=true
  ·rw[aq hc,ih x];obtain⟨j,hj,ej⟩:=(ih (val n)).mp (jo.mp hc);constructor
   ·rintro⟨i,h,e⟩;exact⟨i,gi h,e⟩
   ·rintro⟨i,h,e⟩;rcases qW.mp h with h | h
    ·exact⟨i,h,e⟩
    ·exact⟨j,hj,by rw[ej,←h,e]⟩
  ·rw[ai hc,bC,aS,ih x];constructor
   ·rintro (⟨i,h,e⟩ | e)
    ·exact⟨i,gi h,e⟩
    ·exact⟨n,lF _,e.symm⟩
   ·rintro⟨i,h,e⟩;rcases qW.mp h with h | h
    ·exact .inl ⟨i,h,e⟩
    ·exact .inr (by rw[←e,h])
theorem vY (val:Nat->Key):∀ n,⇑(ck val n)=n↔∀ i j,i<n->j<n->val i=val j->i=j
 | 0=>⟨fun _ i _ h=>absurd h (Nat.not_lt_zero _),fun _=>rfl⟩
 | n+1=>by
  have ih:=vY val n;have hl:=mI val n;unfold ck
  by_cases hc:fR (val n) (ck val n)=true
  ·rw[aq hc];obtain⟨j,hj,ej⟩:=(uh val n (val n)).mp (jo.mp hc);constructor
   ·intro h;left
   ·intro h;have:=h j n (gi hj) (lF _) ej;left
  ·rw[ai hc,aE,fJ];have nm:∀ i,i<n->val i≠val n:=fun i hi e=>hc (jo.mpr ((uh val n (val n)).mpr ⟨i,hi,e⟩));constructor
   ·intro h i j hi hj e;have h2:=ih.mp ⋯;rcases qW.mp hi with hi | hi<;>rcases qW.mp hj with hj | hj
    ·exact h2 i j hi hj e
    ·subst hj;exact absurd e (nm i hi)
    ·subst hi;exact absurd e.symm (nm j hj)
    ·left
   ·intro h;have:=ih.mpr fun i j hi hj=>h i j (gi hi) (gi hj);left
theorem vZ (z:Str):⇑(ck (kH z) ⇑z)=⇑z↔z.cps.toList.Nodup:=by
 rw[vY,List.nodup_iff_pairwise_ne,List.pairwise_iff_getElem];have hl:=dE z;constructor
 ·intro h i j hi hj hij e;have:=h i j ⋯ ⋯ (by unfold kH;rw[aK,aK,aC hi,aC hj,e]);left
 ·intro h i j hi hj e;have hi':i<⇑z.cps.toList:=⋯
  have hj':j<⇑z.cps.toList:=⋯
  have e2:z.cps.toList[i]=z.cps.toList[j]:=by
   unfold kH at e;rw[aK,aK,aC hi',aC hj'] at e;have e4:=bQ Str.cps (Sum.inr.inj e)
   simpa using e4
  rcases Nat.lt_trichotomy i j with z1 | z1 | z1
  ·exact absurd e2 (h i j hi' hj' z1)
  ·exact z1
  ·exact absurd e2.symm (h j i hj' hi' z1)
def Ck:V->List V->Hp->VK->Prop:=fun x vs H Q=>match x,vs with
 | .ref l,[.int i,y]=>∃ xs,H l=some (.lst xs)/\0<=i/\i<2^62/\⇑xs<sizeLine/\Q .non (upd H l (.lst (xs.take i.toNat++y::xs.drop i.toNat)))
 | _,_=>False
theorem DQ :í X "list.insert" Ck:=by
 intro Yp s σ H x vs v us Q I rx rv h;cases x<;>try exact h.elim
 rcases vs with _ | ⟨x0,t⟩
 ·exact h.elim
 cases x0<;>try exact h.elim
 rcases t with _ | ⟨y,t⟩
 ·exact h.elim
 cases t<;>try exact h.elim
 next l i =>
  obtain⟨xs,hH,h0,h1,hz,q⟩:=h;cases rx;obtain⟨u1,u2,rfl,⟨t,rfl⟩,ry⟩:=rv.two;obtain⟨z,its,n,r,hl,e⟩:=I.A6 hH;have hfit:¬(!Builtin.List.listFitsIndex i)=true:=by unfold Builtin.List.listFitsIndex;simp;left
  refine iN F.slot_list_insert ⟨_,e,rfl⟩ F.entry_list_insert (F.args_list_insert_3 _ _ _) (AutoListH.list_insert_list_int_val_1 l its.toArray n i t u2 hfit (by rw[bc];left)) ⟨e,?_⟩;refine⟨.non,_,I.KG (ys:=xs.take i.toNat++y::xs.drop i.toNat) (its':=its.take i.toNat++u2::its.drop i.toNat) hH e ?_ ((r.take i.toNat).append (.cons ry (r.drop i.toNat))) ?_,rfl,q⟩
  ·have e0:(if i<0 then (i+((its.toArray.size:Nat):Int)).toNat else min i.toNat its.toArray.size)=min i.toNat ⇑its:=by rw[ai ⋯,bc]
   show (its.toArray.extract 0 (if i<0 then (i+((its.toArray.size:Nat):Int)).toNat else min i.toNat its.toArray.size)).push u2++its.toArray.extract (if i<0 then (i+((its.toArray.size:Nat):Int)).toNat else min i.toNat its.toArray.size)=_;rw[e0];apply Array.toList_inj.mp
   by_cases hb:i.toNat<=⇑its
   ·rw[iM hb];simp;rw[eY (by rw[cX];left)]
   ·rw[Nat.min_eq_right ⋯];simp [eY (show ⇑its<=i.toNat by left),lh (show ⇑its<=i.toNat by left)]
  ·rw[aE,bH,cP,cX];left
theorem Dd (l:Za):lP l none (some (-1))=l.dropLast:=by
 unfold lP;rw[List.dropLast_eq_take];have e1:HT.Ò ⇑l 0 none=0:=rfl;have e2:HT.Ò ⇑l ⇑l (some (-1))=⇑l-1:=by unfold HT.Ò;simp;left
 rw[e1,e2];rfl
noncomputable def Ė:List Addr->Bool
 | []=>true
 | a::r=>!r.contains a&&Ė r
theorem kO (l:Za) (j:Nat):lP l none (some (j:Int))=l.take j:=by unfold lP;rw[HT.qB,HT.jd,Nat.sub_zero,List.drop_zero,List.take_eq_take_iff];left
theorem oj (l:Za) (j:Nat):lP l (some (j:Int)) none=l.drop j:=by
 unfold lP;rw[HT.qB,HT.jd]
 by_cases h:j<=⇑l
 ·rw[iM h];exact eY (by rw[cX];exact aw _)
 ·rw[Nat.min_eq_right ⋯,lh (aw _),lh ⋯,List.take_nil]
theorem kX {H H':Hp} (s:aB H H') {x:V}{t:Tg} (h:gb H x=some t):gb H' x=some t:=by
 cases x with
 | ref a =>
  have h':mn (H a)=some t:=h;cases e:H a with
  | none=>rw[e] at h';cases h'
  | some o =>show mn (H' a)=some t;rw[s a o e,←e];exact h'
 | _=>exact h
end
section
noncomputable def J9:Zb->Zb->Bool
 | [],[]=>true
 | [],_::_=>false
 | _::_,[]=>true
 | a::x,c::y=>if a=c then J9 x y else decide (c<=a)
section
variable {X:Cx}{K:Zf}
def Ms (K:Zf):R2:=fun x y H Q=>match x,y with
 | .int i,.int j=>Q (.bl (decide (j<=i))) H
 | .ref a,.ref b=>∃ ns ms,Ã K H a (ns.map V.int)/\Ã K H b (ms.map V.int)/\Q (.bl (J9 ns ms)) H
 | _,_=>False
end
theorem cK {t u:TS} (h:∀ nn:TS,nn=u->t { D with nx:=fun σ' H'=>nn D σ' H' } σ H):Hg t u D σ H:=h u rfl
theorem fz {lo:Int}{n:Nat}{g:TG}{tb:TS}{D:Ends} (Pv:Nat->St->Hp->Prop) (h0:Pv 0 σ H)
  (hs:∀ i σ H,i<n->Pv i σ H->∀ N:St->Hp->Prop,(∀ σ' H',Pv (i+1) σ' H'->N σ' H')->g (.int (lo+i)) σ H fun σ2 H2=>tb { D with nx:=N,ct:=N,bk:=D.nx } σ2 H2) (hd:∀ σ H,Pv n σ H->D.nx σ H):gK g tb D (ß lo n) σ H :=
 Im Pv h0 (fun i σ H hi hp=>hs i σ H hi hp _ fun _ _ h=>h) hd
theorem yx {g:TG}{tb:TS}{D:Ends} (Pv:Nat->St->Hp->Prop) (h0:Pv 0 σ H) (hl:∀ i σ H,i<=⇑xs->Pv i σ H->Ã K H a xs)
  (hs:∀ i x σ H,xs[i]?=some x->Pv i σ H->∀ N:St->Hp->Prop,(∀ σ' H',Pv (i+1) σ' H'->N σ' H')->g x σ H fun σ2 H2=>tb { D with nx:=N,ct:=N,bk:=D.nx } σ2 H2) (hd:∀ σ H,Pv ⇑xs σ H->D.nx σ H):gK g tb D (ç K a) σ H :=
 sY Pv h0 hl (fun i x σ H hi hp=>hs i x σ H hi hp _ fun _ _ h=>h) hd
end
section
theorem vb (c:Nat):∀ (ls:List Za),(tx [c]).join (ls.map tx)=tx (Mk.bR c ls)
 | []=>rfl
 | [w]=>by rfl
 | w::v::ws=>by have ih:=vb c (v::ws);show tx w++tx [c]++(tx [c]).join ((v::ws).map tx)=tx (w++c::Mk.bR c (v::ws));rw[ih,iW,iW,cD];rfl
theorem L1 (ls:Ze):(ls.map fun z=>z.cps.toList).map tx=ls:=by
 rw[bf]
 conv=>rhs;rw[←List.map_id ls]
 exact eX fun z _=>wx z
theorem GR (l:Za) (c:Nat):Txt.split (tx l) (tx [c])=(Mk.bB c l).map tx:=by
 have h1:=StrLaws.join_split (tx l) (tx [c]);have h2:∀ p∈Txt.split (tx l) (tx [c]),c∉p.cps.toList:=fun p hp=>StrLaws.split_free (tx l) c p hp;have h3:=PyProof.Rows.split_pos (tx l) (tx [c]);generalize Txt.split (tx l) (tx [c])=ps at h1 h2 h3;rw[←L1 ps] at h1 ⊢;rw[vb] at h1;rw[←vg h1,Mk.iG]
 ·intro e;have:=bQ List.length e;simp at this;rw[this] at h3;simp at h3
 ·intro w hw;obtain⟨p,hp,rfl⟩:=aO.mp hw;exact h2 p hp
theorem sf (c:Nat) (ls:List Za):Txt.join (tx [c]) (ls.map tx)=tx (Mk.bR c ls):=by
 have go:∀ (r:List Za) (acc:Za),(r.map tx).foldl (fun acc p=>acc++(tx [c]).cps++p.cps) acc.toArray=(acc++(r.map fun w=>c::w).flatten).toArray:=by
  intro r
  induction r with
  | nil=>intro acc;simp
  | cons a r ih =>
   intro acc;rw[bI,List.foldl_cons];have e:acc.toArray++(tx [c]).cps++(tx a).cps=(acc++c::a).toArray:=by simp [tx]
   rw[e,ih];simp
 have jl:∀ (a:Za) (r:List Za),Mk.bR c (a::r)=a++(r.map fun w=>c::w).flatten:=by
  intro a r
  induction r generalizing a with
  | nil=>simp [Mk.bR]
  | cons b r ih =>show a++c::Mk.bR c (b::r)=_;rw[ih b];simp
 unfold Txt.join Builtin.Str.glued;cases ls with
 | nil=>rfl
 | cons a r =>have:=go r a;show Str.mk ((r.map tx).foldl (fun acc p=>acc++(tx [c]).cps++p.cps) a.toArray)=tx (Mk.bR c (a::r));rw[this,jl];rfl
def GD:V->List V->Hp->VK->Prop:=fun x vs H Q=>match x,vs with
 | .str z,[.str y]=>⇑z<=100000/\∃ c,y=tx [c]/\nw H (.lst ((Mk.bB c z.cps.toList).map fun w=>.str (tx w))) Q
 | _,_=>False
theorem w4:∀ (l:List (Str×Tok)),Vals ((l.map fun p=>p.1).map V.str) (strValues l)
 | []=>.nil
 | p::l=>.cons ⟨p.2,rfl⟩ (w4 l)
theorem Bm {prog:Zh}{w:Zi}{A:Around}{E:Zq}{s:Zg}{x y:Str}{t u:Tok}{Q:Zq} (hy:(⇑y==0)=false) (hsz:⇑x+2<=sizeLine)
  (h:∀ (l:List (Str×Tok)) (k:Nat),l.map (fun p=>p.1)=Txt.split x y->Q (.ref s.heap.objs.size) { s with heap:=s.heap.push { cls:=.type "list",data:=.seq (strValues l).toArray },toks:=k }) :
  wpAny (model prog w) A (call (.builtin "str.split") [.str x t,.str y u]) Q E s:=by
 have ex:Txt.split x y=if (decide (⇑x<⇑y)||decide (Builtin.Str.strKind x<Builtin.Str.strKind y))=true then [x] else if (Builtin.Str.occurrences x y 0 ⇑x (⇑x+1)).isEmpty=true then [x] else Builtin.Str.partsBetween x (Builtin.Str.occurrences x y 0 ⇑x (⇑x+1)) ⇑y:=rfl
 cases h1:(decide (⇑x<⇑y)||decide (Builtin.Str.strKind x<Builtin.Str.strKind y)) with
 | true =>rw[h1,aq rfl] at ex;refine iN F.slot_str_split (typeIs_str s x t) F.entry_str_split (F.args_str_split_2 (Value.str x t) (Value.str y u)) (meets_str_split_cannot_occur x y t u h1) ?_;exact h [(x,_)] _ ex.symm
 | false =>
  rw[h1,ai (by decide)] at ex;cases hf:(Builtin.Str.occurrences x y 0 ⇑x (⇑x+1)).isEmpty with
  | true =>rw[hf,aq rfl] at ex;refine iN F.slot_str_split (typeIs_str s x t) F.entry_str_split (F.args_str_split_2 (Value.str x t) (Value.str y u)) (meets_str_split_not_found x y t u h1 hy hf) ?_;exact h [(x,_)] _ ex.symm
  | false =>rw[hf,ai (by decide)] at ex;have hl:=PyProof.Rows.split_le x y;rw[ex] at hl;refine iN F.slot_str_split (typeIs_str s x t) F.entry_str_split (F.args_str_split_2 (Value.str x t) (Value.str y u)) (meets_str_split_sep x y t u h1 hy hf ⋯ ⋯) ?_;show Q _ _;rw[strsFrom_eq];exact h _ _ ((numbered_texts _ _).trans ex.symm)
theorem qp :í X "str.split" GD:=by
 intro Yp s σ H x vs v us Q I rx rv h;cases x<;>try exact h.elim
 rcases vs with _ | ⟨x0,t⟩
 ·exact h.elim
 cases x0<;>try exact h.elim
 cases t<;>try exact h.elim
 next z y =>
  obtain⟨hz,c,rfl,q⟩:=h;obtain⟨t,rfl⟩:=rx;obtain⟨u,rfl,ru⟩:=rv.one;obtain⟨t2,rfl⟩:=ru;have hb:⇑z+2<=sizeLine:=by rw[sizeLine_eq];left
  refine Bm rfl hb fun l k e=>?_;have e2:l.map (fun p=>p.1)=(Mk.bB c z.cps.toList).map tx:=by rw[e,←GR,wx]
  have hl:⇑(strValues l)<=⇑z+2:=by have:=PyProof.Rows.split_le z (tx [c]);rw[←e,ak] at this;rw[show ⇑(strValues l)=⇑l from ak ..];exact this
  have r:=w4 l;rw[e2,bf] at r;refine⟨.ref s.heap.objs.size,_,I.laid (t':=k) (o:=.lst ((Mk.bB c z.cps.toList).map fun w=>.str (tx w))) (fun b ob q=>aL _ q) (aw _) ?_,rfl,q.go _ (I.hok.fresh (aw _))⟩;refine⟨?_,_,0,r,bo _ rfl⟩;have:=⇑r;rw[show ((Mk.bB c z.cps.toList).map fun w=>V.str (tx w))=(Mk.bB c z.cps.toList).map (V.str ∘ tx) from rfl,this];left
def JF:R2:=fun x y H Q=>match x,y with
 | .int i,.int j=>(i.natAbs<2^60∨j.natAbs<2^60)/\Q (.int (i*j)) H
 | _,_=>False
theorem IK :É X (binaryOp .Mult) JF:=by
 intro Yp s σ H x y v u Q I rx ry h;cases x with
 | int i=>cases y with
  | int j =>
   refine (ą (X:=X) (f:=binaryOp .Mult) (C:=fun i j=>i.natAbs<2^60∨j.natAbs<2^60) (g:=fun i j=>i*j) fun i j _ _ _ _ _ hc q=>mul_int q ?_) Yp s σ H _ _ v u Q I rx ry ⟨_,_,rfl,rfl,h.1,h.2⟩;rcases hc with hc | hc
   ·exact IntMulOk.of_left (bM (intBits_le_iff.mpr hc) Zd)
   ·exact IntMulOk.of_right (bM (intBits_le_iff.mpr hc) Zd)
  | _=>exact False.elim h
 | _=>exact False.elim h
end
section
theorem zY {i j}{H:Hp}{Q:VK}:Ci (.int i) (.int j) H Q=(Q (.int (i+j)) H):=propext Iff.rfl
theorem zZ {a b}{H:Hp}{Q:VK}:Ci (.str a) (.str b) H Q=(⇑a+⇑b<=sizeLine/\Q (.str (a++b)) H):=propext Iff.rfl
theorem Aa {l b}{H:Hp}{Q:VK}:Ci (.ref l) (.ref b) H Q=(∃ xs zs,H l=some (.lst xs)/\H b=some (.lst zs)/\⇑xs+⇑zs<=sizeLine/\nw H (.lst (xs++zs)) Q):=propext Iff.rfl
theorem Ap {i j}{H:Hp}{Q:VK}:JJ (.int i) (.int j) H Q=(Q (.int (i-j)) H):=propext Iff.rfl
theorem Ak {i j}{H:Hp}{Q:VK}:Gz (.int i) (.int j) H Q=(Hm i j/\Q (.int (i*j)) H):=propext Iff.rfl
theorem Al {l k}{H:Hp}{Q:VK}:Gz (.ref l) (.int k) H Q=(∃ xs,H l=some (.lst xs)/\-(2^63)<=k/\k<2^63/\⇑xs*k.toNat<=sizeLine/\nw H (.lst (List.replicate k.toNat xs).flatten) Q):=propext Iff.rfl
theorem yq {i j}{H:Hp}{Q:VK}:Gs (.int i) (.int j) H Q=((0<j/\j<2^1000)/\Q (.int (i/j)) H):=propext Iff.rfl
theorem Ai {i j}{H:Hp}{Q:VK}:JE (.int i) (.int j) H Q=(0<j/\Q (.int (i%j)) H):=propext Iff.rfl
theorem Am {i j}{H:Hp}{Q:VK}:JG (.int i) (.int j) H Q=((0<=j/\j<=1000000/\i.natAbs<2^64)/\Q (.int (i^j.toNat)) H):=propext Iff.rfl
theorem Ab {f:Int->Int->Bool}{i j}{H:Hp}{Q:VK}:wg f (.int i) (.int j) H Q=(Q (.bl (f i j)) H):=propext Iff.rfl
theorem Dn {K:Zf}{i j}{H:Hp}{Q:VK}:Ms K (.int i) (.int j) H Q=(Q (.bl (decide (j<=i))) H):=propext Iff.rfl
theorem Dk {K:Zf}{i j}{H:Hp}{Q:VK}:Gr K (.int i) (.int j) H Q=(Q (.bl (decide (i=j))) H):=propext Iff.rfl
theorem Dl {K:Zf}{i j}{H:Hp}{Q:VK}:Gr K (.str i) (.str j) H Q=(Q (.bl (decide (i=j))) H):=propext Iff.rfl
theorem Dm {K:Zf}{a b}{H:Hp}{Q:VK}:Gr K (.ref a) (.ref b) H Q=(∃ xs ys,Ã K H a xs/\Ã K H b ys/\xs.all dM=true/\ys.all dM=true/\Q (.bl (oK xs ys)) H):=propext Iff.rfl
theorem Ds {K:Zf}{i j}{H:Hp}{Q:VK}:Eh K (.int i) (.int j) H Q=(Q (.bl (!decide (i=j))) H):=propext Iff.rfl
theorem Dt {K:Zf}{i j}{H:Hp}{Q:VK}:Eh K (.str i) (.str j) H Q=(Q (.bl (!decide (i=j))) H):=propext Iff.rfl
theorem Du {K:Zf}{a b}{H:Hp}{Q:VK}:Eh K (.ref a) (.ref b) H Q=(∃ xs ys,Ã K H a xs/\Ã K H b ys/\xs.all dM=true/\ys.all dM=true/\Q (.bl (!oK xs ys)) H):=propext Iff.rfl
theorem Dp {K:Zf}{p i}{H:Hp}{Q:VK}:Jh K (.ref p) (.int i) H Q=(∃ xs v,Sq K H p xs/\Õ xs i=some v/\Q v H):=propext Iff.rfl
theorem Dq {K:Zf}{z i}{H:Hp}{Q:VK}:Jh K (.str z) (.int i) H Q=(⇑z<=sizeLine/\∃ c,Õ z.cps.toList i=some c/\Q (.str ⟨#[c]⟩) H):=propext Iff.rfl
theorem Af {K:Zf}{z}{H:Hp}{Q:VK}:Cm K [.str z] H Q=(⇑z<=sizeLine/\Q (.int ⇑z) H):=propext Iff.rfl
theorem Ag {K:Zf}{p}{H:Hp}{Q:VK}:Cm K [.ref p] H Q=(∃ xs,Sq K H p xs/\Q (.int ⇑xs) H):=propext Iff.rfl
theorem zX {i}{H:Hp}{Q:VK}:JA [.int i] H Q=(Q (.int (i.natAbs:Int)) H):=propext Iff.rfl
theorem Ah {i j}{H:Hp}{Q:VK}:JD [.int i,.int j] H Q=(Q (.int (max i j)) H):=propext Iff.rfl
theorem yt {K:Zf}{a}{H:Hp}{Q:VK}:AV K [.ref a] H Q=(∃ ys,(Sq K H a ys∨∃ lo hi,H a=some (.rng lo hi)/\(-(2^62)<=lo/\lo<2^62/\-(2^62)<=hi/\hi<2^62)/\(hi-lo).toNat<=2^20/\ys=uM lo (hi-lo).toNat)/\nw H (.lst ys) Q):=propext Iff.rfl
theorem An {j}{H:Hp}{Q:VK}:JH [.int j] H Q=(nw H (.rng 0 j) Q):=propext Iff.rfl
theorem Ac {c:Tg}{x n}{H:Hp}{Q:VK}:JC c [x,.ty n] H Q=(n=c.name/\∃ t,gb H x=some t/\Q (.bl (t.sub c)) H):=propext Iff.rfl
theorem Dv {K:Zf}{a}{lo}{hi}{H:Hp}{Q:VK}:Ji K (.ref a) lo hi H Q=(∃ xs,Ã K H a xs/\nw H (.lst (m7 xs lo hi)) Q):=propext Iff.rfl
theorem Dw {K:Zf}{z}{lo}{hi}{H:Hp}{Q:VK}:Ji K (.str z) lo hi H Q=(⇑z<=sizeLine/\Q (.str (tx (lP z.cps.toList lo hi))) H):=propext Iff.rfl
theorem wR {l i y}{H:Hp}{Q:VK}:Ck (.ref l) [.int i,y] H Q=(∃ xs,H l=some (.lst xs)/\0<=i/\i<2^62/\⇑xs<sizeLine/\Q .non (upd H l (.lst (xs.take i.toNat++y::xs.drop i.toNat)))):=propext Iff.rfl
theorem wQ {z y}{H:Hp}{Q:VK}:Cj (.str z) [.str y] H Q=(0<=Txt.find z y/\Q (.int (Txt.find z y)) H):=propext Iff.rfl
theorem yr {K:Zf}{z p}{H:Hp}{Q:VK}:AU K (.str z) [.ref p] H Q=(∃ ys:Ze,Ã K H p (ys.map V.str)/\(ys.map (·.length)).sum+⇑ys*⇑z<=16777216/\Q (.str (Txt.join z ys)) H):=propext Iff.rfl
theorem yv {z y}{H:Hp}{Q:VK}:GD (.str z) [.str y] H Q=(⇑z<=100000/\∃ c,y=tx [c]/\nw H (.lst ((Mk.bB c z.cps.toList).map fun w=>.str (tx w))) Q):=propext Iff.rfl
theorem Aj {i j}{H:Hp}{Q:VK}:JF (.int i) (.int j) H Q=((i.natAbs<2^60∨j.natAbs<2^60)/\Q (.int (i*j)) H):=propext Iff.rfl
theorem Ao {P:Zh}{w:Zi}{z}{H:Hp}{Q:VK}:GA P w [.str z] H Q=(⇑z<=4000/\∀ p H',H p=none->aB H H'->H' p=some (Bg P w p (ck (kH z) ⇑z))->Q (.ref p) H'):=propext Iff.rfl
theorem Ae {P:Zh}{w:Zi}{p}{H:Hp}{Q:VK}:Gw P w [.ref p] H Q=(∃ l,H p=some (Bg P w p l)/\Q (.int ⇑l) H):=propext Iff.rfl
theorem zV {K:Zf}{a:Addr}{H:Hp}{R:It->Hp->Prop}:BR K (.ref a) H R=(((∃ xs,Ã K H a xs)/\R (ç K a) H)∨((∃ xs,Ó K H a xs)/\R (ď K a) H)):=propext Iff.rfl
theorem zW {K:Zf}{z:Str}{H:Hp}{R:It->Hp->Prop}:BR K (.str z) H R=R (ú z) H:=propext Iff.rfl
end
section
noncomputable def ù (K:Zf) (a:Addr):It :=
 ⟨fun i H=>∃ xs x,Ã K H a xs/\xs[i]?=some x,
  fun i H v H'=>∃ x p,(∀ xs,Ã K H a xs->xs[i]?=some x)/\v=.ref p/\H p=none/\H'=upd H p (.tup [.int (i:Int),x]),
  fun i H=>∃ xs,Ã K H a xs/\⇑xs<=i⟩
theorem yp {a e it:Addr} (st:(∃ old,IsEnum h e it (i:Int) old)/\h.IsListIter it a i):∀ c∈[e,it],∃ o,h.get? c=some o/\∀ v,o.data≠.cell v:=fun c hc=>by
 obtain⟨⟨old,he⟩,⟨o1,e1,c1,d1⟩⟩:=st;simp only[aY,dS,dX] at hc;rcases hc with rfl | rfl
 ·exact⟨_,he,fun v q=>by have q':Data.fields _=Data.cell v:=q;cases q'⟩
 ·exact⟨o1,e1,fun v q=>by rw[d1] at q;cases q⟩
theorem Eu {k:Nat} (a e it:Addr) (D:e≠it):Turn P w K (.Tuple elts k pos) (ù K a) [e,it] e
  (fun i h=>(∃ old,IsEnum h e it (i:Int) old)/\h.IsListIter it a i) where
 mem:=by simp
 obj:=fun i h st=>yp st
 keep:=fun i h h' st k=>by obtain⟨⟨old,he⟩,h1⟩:=st;exact⟨⟨old,k e (by simp) _ he⟩,h1.at fun o e=>k it (by simp) o e⟩
 item:=by
  intro X hP hw hK hc i Yp s σ H E I hf st hg;subst hP hw hK;obtain⟨xs,x,hx,ex⟩:=hg;obtain⟨us,r1,p1,_⟩:=I.list hx;obtain⟨u,hu,ru⟩:=r1.get ex;obtain⟨⟨old,he⟩,h1⟩:=id st;refine wpAny_pyNext_enum_item he h1 p1.isList (x:=u) (by simpa using hu) D fun h' a1 a2 a3 a4 a5=>?_;refine⟨_,rfl,wpAny_letOwnedTupleGo_enum (s:={ s with heap:=h',toks:=s.toks+1 }) a1 fun h'' b1 b2=>?_⟩;have b2':Heap.SameBut e h' h'':=b2;have ne:∀ c∈[e,it],c<s.heap.objs.size:=fun c hc=>by obtain⟨o,e,_⟩:=yp st c hc;exact aQ e
  have kk:∀ c o,c∉[e,it]->s.heap.get? c=some o->h''.get? c=some o:=fun c o hc e=>by simp only[aY,dS,dX,not_or] at hc;exact (b2'.2 c hc.1).trans (a5 c o hc.1 hc.2 e)
  have hT:h''.get? s.heap.objs.size=some { cls:=.type "tuple",data:=.seq #[.int (i:Int) s.toks,u] }:=(b2'.2 _ (jI (ne e (by simp)))).trans a3;have I1:Inv X Yp σ (upd H s.heap.objs.size (.tup [.int (i:Int),x])) { s with heap:=h'',toks:=s.toks+1 }:=by
   refine I.Cz (t':=s.toks+1) (ch:=[e,it]) hf kk (fun c o ee=>?_) (aw _) (show bX X.prog X.w _ h'' _ (.tup [.int (i:Int),x]) from ⟨by show 2<=sizeLine;decide,[.int (i:Int) s.toks,u],.cons ⟨_,rfl⟩ (.cons ru .nil),⟨_,hT,rfl,_,rfl⟩⟩)
   by_cases hc:c∈[e,it]
   ·simp only[aY,dS,dX] at hc;rcases hc with rfl | rfl
    ·exact⟨_,b1⟩
    ·obtain⟨o1,e1,_⟩:=a2;exact⟨_,(b2'.2 _ (Ne.symm D)).trans e1⟩
   ·exact⟨_,kk c o hc ee⟩
  refine⟨.ref s.heap.objs.size,_,I1,rfl,⟨x,_,fun zs hz=>by rw[I.qo hz hx];exact ex,rfl,I.hok.fresh (aw _),rfl⟩,⟨⟨_,by have:=b1;rw[show ((i+1:Nat):Int)=(i:Int)+1 from rfl];exact this⟩,a2.at fun o e=>(b2'.2 _ (Ne.symm D)).trans e⟩,fun c hc=>?_⟩;rw[aN (bw (ne c hc))];exact (hf c hc).1
 done:=by intro X hP hw hK hc i Yp s σ H E I hf st hg;subst hP hw hK;obtain⟨xs,hx,hl⟩:=hg;obtain⟨us,r1,p1,_⟩:=I.list hx;obtain⟨⟨old,he⟩,h1⟩:=id st;have l1:=⇑r1;refine wpAny_pyNext_enum_end (I.ok.hd hc) he h1 p1.isList (by simp;left) fun h' kk=>⟨rfl,I.Cy (t':=s.toks) (ch:=[e,it]) hf fun c o hc e=>?_⟩;simp only[aY,dS,dX,not_or] at hc;exact kk c o hc.2 e
 self:=fun _ _ _ _ _ st h=>by obtain⟨⟨old,he⟩,_⟩:=st;exact wpAny_pyIter_enum he h
section
variable {X:Cx}
def Fw (K:Zf) (ta:TA):TI:=fun σ H R=>ta σ H fun vs H1=>∃ a,vs=[.ref a]/\(∃ xs,Ã K H1 a xs)/\R (ù K a) H1
theorem ED {K:Zf}{ta:TA}{σ:St}{H:Hp}{R:It->Hp->Prop}:Fw K ta σ H R=ta σ H fun vs H1=>∃ a,vs=[.ref a]/\(∃ xs,Ã K H1 a xs)/\R (ù K a) H1:=propext Iff.rfl
theorem Jb {elts:List Expr}{k:Nat}{tpos:Pos}{a:Expr}{p pos:Pos} (hg:Gl X "enumerate") (hm:X.mg "enumerate"=none) (ha:PA X [a] ta) (hs:starEach [a] X.env=[(false,eval a X.env)]:=by rfl) :
  PI X (.Tuple elts k tpos) (.Call (.Name "enumerate" p) [a] [] pos) (Fw X.K ta):=by
 intro Yp s σ H R I h;refine Call_ (mG I hg hm wJ (lH (Â (ha pos Yp s σ H _ I h) fun us s1 ⟨vs,H1,I1,r1,q1⟩=>?_) hs (by rfl)));obtain⟨l1,e,⟨xs,hx⟩,q⟩:=q1;subst e;cases r1 with
 | cons r rr =>
  cases rr
  cases r
  obtain⟨us,_,p1,_⟩:=I1.list hx;refine call_enumerate_list p1.isList fun h' he hi hsz hk=>wpAny_pyIter_enum (s:={ s1 with heap:=h' }) he ?_;have I2:Inv X Yp σ H1 { s1 with heap:=h' }:=I1.kept (t':=s1.toks) hk;refine⟨_,[s1.heap.objs.size+1,s1.heap.objs.size],_,_,H1,rfl,I2,Eu l1 (s1.heap.objs.size+1) s1.heap.objs.size (Nat.succ_ne_self _),⟨⟨_,he⟩,hi⟩,fun c hc=>?_,q⟩;have hle:s1.heap.objs.size<=c:=by simp only[aY,dS,dX] at hc;rcases hc with rfl | rfl<;>left
  exact I1.vk hle (I1.hok.fresh hle)
theorem uG {elts:List Expr}{k:Nat}{tpos:Pos}{a:Expr}{p pos:Pos} (hK:X.K=K) (hm:X.mg "enumerate"=none) (ha:PA X [a] ta) (hg:X.env.kindOf "enumerate"=some .globalImplicit:=by ext) (hs:noStar a=true:=by ext) :
  PI X (.Tuple elts k tpos) (.Call (.Name "enumerate" p) [a] [] pos) (Fw K ta):=hK ▸ Jb hg hm ha (aP hs)
end
theorem D8 {g:TG}{tb:TS}{D:Ends} (Pv:Nat->St->Hp->Prop) (h0:Pv 0 σ H) (hl:∀ i σ H,i<=⇑xs->Pv i σ H->Ã K H a xs)
  (hs:∀ i x σ H,xs[i]?=some x->Pv i σ H->∀ N:St->Hp->Prop,(∀ σ' H',Pv (i+1) σ' H'->N σ' H')->∀ p H',H p=none->aB H H'->H' p=some (.tup [.int (i:Int),x])->g (.ref p) σ H' fun σ2 H2=>tb { D with nx:=N,ct:=N,bk:=D.nx } σ2 H2) (hd:∀ σ H,Pv ⇑xs σ H->D.nx σ H):gK g tb D (ù K a) σ H:=by
 refine⟨fun i m σ H=>i+m=⇑xs/\Pv i σ H,⟨⇑xs,⋯,h0⟩,fun i m σ H hw=>?_⟩;obtain⟨e,hp⟩:=hw;have hL:=hl i σ H ⋯ hp
 by_cases hm:m=0
 ·subst hm;have:i=⇑xs:=⋯
  subst this;exact .inl ⟨⟨xs,hL,aw _⟩,hd σ H hp⟩
 ·have hi:xs[i]?=some xs[i]:=aC ⋯;refine .inr ⟨⟨xs,_,hL,hi⟩,Pv (i+1),fun σ' H' n=>⟨m-1,⋯,⋯,n⟩,fun v H' hy=>?_⟩;obtain⟨x,p,h1,rfl,h2,rfl⟩:=hy;have hx:=h1 xs hL;exact hs i x σ H hx hp _ (fun _ _ h=>h) p _ h2 (eT h2) aI
noncomputable def ć (lo st:Int) (n:Nat):It:=⟨fun i _=>i<n,fun i H x H'=>H'=H/\x=.int (lo+(i:Nat)*st),fun i _=>n<=i⟩
theorem z9 (it:Addr) (lo st:Int) (n:Nat):Turn P w K tg (ć lo st n) [it] it (fun i h=>IsRangeIter h it (lo+(i:Nat)*st) ((n:Int)-(i:Nat)) st) where
 mem:=by simp
 obj:=fun i h sti b hb=>by
  obtain rfl:b=it:=by simpa using hb
  exact⟨_,sti,fun v z=>by have z':Data.fields _=Data.cell v:=z;cases z'⟩
 keep:=fun i h h' sti k=>k it (by simp) _ sti
 item:=by intro X hP hw hK hc i Yp s σ H E I hf sti hg;subst hP hw hK;obtain⟨f0,f1,f2,f3,f4,f5⟩:=hf it (by simp);refine (Walks.range (prog:=X.prog) (w:=X.w) (I.ok.hd hc) it lo st n).item i s _ _ hg sti fun v h' tk hv st' kk=>?_;obtain⟨t,rfl⟩:=hv;have I1:Inv X Yp σ H { s with heap:=h',toks:=tk }:=I.turned (fun b o hb e=>kk b o (by simpa using hb) e) f0 f1 f3 f4 f5;exact⟨_,rfl,vN (s:={ s with heap:=h',toks:=tk }) (n:="range_iterator") st' rfl rfl Zd ⟨.int (lo+(i:Nat)*st),H,I1,⟨t,rfl⟩,⟨rfl,rfl⟩,st',fun b hb=>(hf b hb).1⟩⟩
 done:=by intro X hP hw hK hc i Yp s σ H E I hf sti hg;subst hP hw hK;obtain⟨f0,f1,f2,f3,f4,f5⟩:=hf it (by simp);refine wpAny_pyNext_range_end (I.ok.hd hc) sti (by have:n<=i:=hg;left) fun h' eb=>⟨rfl,I.turned (t':=s.toks) (fun b o hb e=>eb b o hb e) f0 f1 f3 f4 f5⟩
 self:=fun _ _ _ _ _ sti h=>wpAny_pyIter_rangeiter sti h
noncomputable def vw (lo hi st:Int):Nat:=if lo<hi then ((hi-lo-1)/st+1).toNat else 0
theorem Ej {lo hi st:Int} (hs:0<st):((vw lo hi st:Nat):Int)=Builtin.Range.rangeSize lo hi st:=by
 unfold vw Builtin.Range.rangeSize;rw[aq hs]
 by_cases h:lo<hi
 ·rw[aq h,aq h];have:0<=(hi-lo-1)/st:=Int.ediv_nonneg ⋯ ⋯;left
 ·rw[ai h,ai h];rfl
theorem Ju {lo hi st:Int} (h1:0<=lo/\lo<=1000) (h2:-1000<=hi/\hi<=1000) (h3:0<st/\st<=1000):Builtin.Range.small lo hi st=true:=by
 have hz:0<=Builtin.Range.rangeSize lo hi st/\Builtin.Range.rangeSize lo hi st<=1001:=by
  unfold Builtin.Range.rangeSize;rw[aq h3.1]
  by_cases h:lo<hi
  ·rw[aq h];have a1:0<=(hi-lo-1)/st:=Int.ediv_nonneg ⋯ ⋯;have a2:(hi-lo-1)/st<=hi-lo-1:=Int.ediv_le_self _ ⋯;left
  ·rw[ai h];left
 have hf:∀ x:Int,-1000<=x->x<=5000->Builtin.Range.rangeFitsLong x=true:=fun x a b=>by unfold Builtin.Range.rangeFitsLong;simp only[bV,bE];left
 unfold Builtin.Range.small;rw[hf lo ⋯ ⋯,hf hi ⋯ ⋯,hf st ⋯ ⋯,hf _ ⋯ ⋯,aq h3.1,hf (hi+(st-1)) ⋯ ⋯,Bool.or_true];rfl
section
variable {X:Cx}{tg:Expr}
def F0 (ta:TA):TI:=fun σ H R=>ta σ H fun vs H1=>∃ i j k:Int,vs=[.int i,.int j,.int k]/\(0<=i/\i<=1000)/\(-1000<=j/\j<=1000)/\(0<k/\k<=1000)/\R (ć i k (vw i j k)) H1
theorem EG {ta:TA}{σ:St}{H:Hp}{R:It->Hp->Prop}:F0 ta σ H R=ta σ H fun vs H1=>∃ i j k:Int,vs=[.int i,.int j,.int k]/\(0<=i/\i<=1000)/\(-1000<=j/\j<=1000)/\(0<k/\k<=1000)/\R (ć i k (vw i j k)) H1:=propext Iff.rfl
theorem Ed {a b c:Expr}{p pos:Pos} (hg:Gl X "range") (hm:X.mg "range"=none) (ha:PA X [a,b,c] ta) (hs:starEach [a,b,c] X.env=[(false,eval a X.env),(false,eval b X.env),(false,eval c X.env)]) (hs2:starEach [b,c] X.env=[(false,eval b X.env),(false,eval c X.env)]) :
  PI X tg (.Call (.Name "range" p) [a,b,c] [] pos) (F0 ta):=by
 intro Yp s σ H R I h;refine Call_ (mG I hg hm boot_range (lH (Â (ha pos Yp s σ H _ I h) fun us s1 ⟨vs,H1,I1,r1,q1⟩=>?_) (by rw[hs,hs2]) (by rw[hs2];rfl)));obtain⟨i,j,k,e,b1,b2,b3,q⟩:=q1;subst e;cases r1 with
 | cons r rr =>
  cases rr with
  | cons r' rr =>
   cases rr with
   | cons r'' rr =>
    cases rr
    obtain⟨t,rfl⟩:=r;obtain⟨t',rfl⟩:=r';obtain⟨t'',rfl⟩:=r'';refine call_range_3 ⋯ ?_ (.inl (PyProof.noPylong_of_log2 ?_))
    ·refine wpAny_pyIter_range (IsRange.new ..) (Ju b1 b2 b3) ?_;have I2:Inv X Yp σ H1 { s1 with heap:=s1.heap.push { cls:=.type "range",data:=.fields #[.int i t,.int j t',.int k t''] } }:=I1.kept (t':=s1.toks) fun b o e=>aL _ e;refine⟨(s1.heap.push { cls:=.type "range",data:=.fields #[.int i t,.int j t',.int k t''] }).objs.size,[(s1.heap.push { cls:=.type "range",data:=.fields #[.int i t,.int j t',.int k t''] }).objs.size],_,_,H1,rfl,
      I2.kept (t':=s1.toks) fun b o e=>aL _ e,z9 _ i k (vw i j k),?_,fun b hb=>?_,q⟩
     ·show IsRangeIter _ _ (i+((0:Nat):Int)*k) (((vw i j k:Nat):Int)-((0:Nat):Int)) k;rw[Ej b3.1,show i+((0:Nat):Int)*k=i by simp,show Builtin.Range.rangeSize i j k-((0:Nat):Int)=Builtin.Range.rangeSize i j k by simp];exact bo _ rfl
     ·obtain rfl:b=(s1.heap.push { cls:=.type "range",data:=.fields #[.int i t,.int j t',.int k t''] }).objs.size:=by simpa using hb
      exact I2.vk (aw _) (I2.hok.fresh (aw _))
    ·have h4:k.natAbs≠0:=⋯
     exact bK ((Nat.log2_lt h4).mpr (show k.natAbs<2^10 by left)) Zd
theorem AO {a b c:Expr}{p pos:Pos} (hm:X.mg "range"=none) (ha:PA X [a,b,c] ta) (hg:X.env.kindOf "range"=some .globalImplicit:=by ext) (hs:noStar a=true:=by ext) (hs2:noStar b=true:=by ext) (hs3:noStar c=true:=by ext) :
  PI X tg (.Call (.Name "range" p) [a,b,c] [] pos) (F0 ta):=Ed hg hm ha (by rw[aP hs,aP hs2,aP hs3];rfl) (by rw[aP hs2,aP hs3];rfl)
end
theorem Fn {lo st:Int}{n:Nat}{g:TG}{tb:TS}{D:Ends} (Pv:Nat->St->Hp->Prop) (h0:Pv 0 σ H)
  (hs:∀ i σ H,i<n->Pv i σ H->∀ N:St->Hp->Prop,(∀ σ' H',Pv (i+1) σ' H'->N σ' H')->g (.int (lo+(i:Nat)*st)) σ H fun σ2 H2=>tb { D with nx:=N,ct:=N,bk:=D.nx } σ2 H2) (hd:∀ σ H,Pv n σ H->D.nx σ H):gK g tb D (ć lo st n) σ H:=by
 refine⟨fun i m σ H=>i+m=n/\Pv i σ H,⟨n,⋯,h0⟩,fun i m σ H hw=>?_⟩;obtain⟨e,hp⟩:=hw
 by_cases hm:m=0
 ·subst hm;have:i=n:=⋯
  subst this;exact .inl ⟨aw _,hd σ H hp⟩
 ·refine .inr ⟨by show i<n;left,Pv (i+1),fun σ' H' h=>⟨m-1,⋯,⋯,h⟩,fun v H' hy=>?_⟩;obtain⟨rfl,rfl⟩:=hy;exact hs i σ H' ⋯ hp _ fun _ _ h=>h
theorem Jk {k:Key}{v:Value} (h:jm k v=true):RelV (kV k) v:=by
 rcases cJ h with ⟨i,t,rfl,rfl⟩ | ⟨x,t,rfl,rfl⟩
 ·exact⟨t,rfl⟩
 ·exact⟨t,rfl⟩
theorem K9 {vs:List (Key×Value)} (r:KV kvs vs):∀ {i:Nat}{p:Key×V},kvs[i]?=some p->∃ q,vs[i]?=some q/\p.1=q.1/\RelV p.2 q.2:=by
 unfold KV at r
 induction r with
 | nil=>intro i p h;simp at h
 | @cons a b as bs h t ih =>
  intro i p hp;cases i with
  | zero =>rw[List.getElem?_cons_zero] at hp;cases hp;exact⟨b,rfl,h⟩
  | succ i=>exact ih (by simpa using hp)
theorem Fp {ob:Obj}{es:Array DictEntry}{ep:Nat} (x:Î P w H h) (e:H a=some (.frz ob (.dK kvs))) (hd:ob.data=.dict es ep) :
  ∃ vs,KV kvs vs/\h.DictAt (bj P w) a vs ep:=by
 obtain⟨h1,_,_,vs,r,o,es',ep',h2,h3,h4,h5⟩:=(show bX P w H h a (.frz ob (.dK kvs)) from x a _ e);have:o=ob:=Option.some.inj (h2.symm.trans h1);subst this;rw[hd] at h4
 injection h4 with e1 e2
 subst e1 e2;exact⟨vs,r,o,es,h2,h3,hd,h5⟩
section
variable {X:Cx}
theorem Hw {td ty:TE}{σ:St}{H:Hp}{Q:VK}:GY td ty σ H Q=td σ H fun x H1=>ty σ H1 fun y H2=>∃ a v,x=.ref a/\kj H2 a y (some v)/\Q v H2:=propext Iff.rfl
theorem EA {td ty:TE}{σ:St}{H:Hp}{Q:VK}:Bo td ty σ H Q=td σ H fun x H1=>∃ a,x=.ref a/\Ď H1 a/\ty σ H1 fun y H2=>∃ o,kj H2 a y o/\Q (o.getD .non) H2:=propext Iff.rfl
theorem Gg {o i:Expr}{td ty:TE} (hu:X.A.units+1<cLine) (ho:PE X o td) (hi:PE X i ty) (hs:JZ i:=by exact fun _ _=>rfl):PE X (.Subscript o i pos) (GY td ty):=IU hu ho hi hs
theorem rN {o e:Expr}{td ty:TE}{apos cpos:Pos} (hu:X.A.units+1<cLine) (ho:PE X o td) (he:PE X e ty) (hbase:attributeBase o "get" X.env (eval o X.env)=eval o X.env:=by ext) (hs:eh [e]=true:=by ext)
  (hline:(apos.endLine==cpos.line)=true:=by ext) (htr:backTo cpos (starEach [e] X.env)=[(false,eval e X.env)]:=by rfl):PE X (.Call (.Attribute o "get" apos) [e] [] cpos) (Bo td ty):=by
 refine Gf hu ho he ⟨hbase,?_,hline,htr⟩;rw[pd hs];rfl
end
def JB:List V->Hp->VK->Prop:=fun vs H Q=>match vs with
 | [.bl b]=>Q (.int (if b then 1 else 0)) H
 | _=>False
theorem Fe {b:Bool}{H:Hp}{Q:VK}:JB [.bl b] H Q=Q (.int (if b then 1 else 0)) H:=propext Iff.rfl
theorem vE :dy X (.type "int") JB:=by
 intro Yp s σ H xs us Q I r h;rcases xs with _ | ⟨x0,t⟩
 ·exact h.elim
 cases x0<;>try exact h.elim
 cases t<;>try exact h.elim
 next b =>obtain⟨u,rfl,ru⟩:=Vals.one r;cases (show u=Value.bool b from ru);exact call_int_bool ⟨.int _,H,I.tok _,⟨_,rfl⟩,h⟩
end
section
noncomputable def oQ (zs:Ze) (i:Nat):Key:=Sum.inr (zs.getD i (tx []))
noncomputable def yF:V->Bool
 | .ref _=>true
 | x=>dM x
theorem mD:∀ {x:V},dM x=true->Ú x x=true
 | .non,_=>rfl
 | .bl b,_=>by show (b==b)=true;simp
 | .int i,_=>by show (i==i)=true;simp
 | .str z,_=>by show (z==z)=true;simp
theorem vK {x:V}{u v:Value} (ru:RelV x u) (rv:RelV x v) (h:yF x=true):SeqAt.EqAt A s u v true:=by
 cases x with
 | ref a=>cases ru;cases rv;exact SeqAt.EqAt.same _
 | non=>have:=pz (A:=A) (s:=s) ru rv rfl rfl;rwa [mD rfl] at this
 | bl b=>have:=pz (A:=A) (s:=s) ru rv rfl rfl;rwa [mD rfl] at this
 | int b=>have:=pz (A:=A) (s:=s) ru rv rfl rfl;rwa [mD rfl] at this
 | str b=>have:=pz (A:=A) (s:=s) ru rv rfl rfl;rwa [mD rfl] at this
 | _=>cases h
theorem dH {us:Zc} (r:Vals xs us) {j:Nat} (h:j<us.toArray.size):∃ x,xs[j]?=some x/\RelV x us.toArray[j]:=by
 have l:=⇑r;rw[bc] at h;have e1:xs[j]?=some (xs[j]'⋯):=aC _;obtain⟨u,hu,ru⟩:=r.get e1;refine⟨_,e1,?_⟩;have:us.toArray[j]=u:=by
  have:=bL.mp hu
  simpa using this.2
 rw[this];exact ru
def JX (K:Zf) (H:Hp) (x y:V):Prop:=∃ p q zs,x=.ref p/\y=.ref q/\Ã K H p zs/\Ã K H q zs/\zs.all yF=true
def Mp (K:Zf) (neg:Bool):R2:=fun x y H Q=>match x,y with
 | .ref a,.ref b=>∃ xs ys,Ã K H a xs/\Ã K H b ys/\⇑xs=⇑ys/\(∀ (i:Nat) x y,xs[i]?=some x->ys[i]?=some y->JX K H x y)/\Q (.bl (!neg)) H
 | _,_=>False
theorem Ic {K:Zf}{neg:Bool}{a b:Addr}{H:Hp}{Q:VK}:Mp K neg (.ref a) (.ref b) H Q=(∃ xs ys,Ã K H a xs/\Ã K H b ys/\⇑xs=⇑ys/\(∀ (i:Nat) x y,xs[i]?=some x->ys[i]?=some y->JX K H x y)/\Q (.bl (!neg)) H):=propext Iff.rfl
theorem all_true (n:Nat):(List.range n).all (fun _=>true)=true:=by rw[bY];exact fun _ _=>rfl
section
variable {X:Cx}
theorem EZ (I:Inv X Yp σ H s) (hu:X.A.units+1<cLine) {x y:V}{u v:Value} (ru:RelV x u) (rv:RelV y v) (h:JX X.K H x y):SeqAt.EqAt X.A.in1 s u v true:=by
 obtain⟨p,q,zs,rfl,rfl,h1,h2,hl⟩:=h;cases ru;cases rv
 by_cases e:p=q
 ·subst e;exact SeqAt.EqAt.same _
 obtain⟨us,r1,p1,_⟩:=I.list h1;obtain⟨vs,r2,p2,_⟩:=I.list h2;have l1:=⇑r1;have l2:=⇑r2;have:=SeqAt.RcAt.lists (A:=X.A.in1) (s:=s) (e:=fun _=>true) p1.isList p2.isList (by simp only[bc];left) (by simpa using hu) fun j j1 j2=>by obtain⟨x,ex,rx⟩:=dH r1 j1;obtain⟨y,ey,ry⟩:=dH r2 j2;rw[ex] at ey;cases ey;exact vK rx ry (bY.mp hl x (bT ex))
 rw[all_true] at this;exact SeqAt.EqAt.of_refs e this
theorem KY (hK:X.K=K) (hu:X.A.units+1<cLine):É X (compareOp .NotEq) (Mp K true):=by
 subst hK;intro Yp s σ H x y v u Q I rx ry h
 match x,y,h with
 | .ref a,.ref b,h =>
  obtain⟨xs,ys,ha,hb,hl,he,q⟩:=h;cases rx;cases ry;obtain⟨us,r1,p1,_⟩:=I.list ha;obtain⟨vs,r2,p2,_⟩:=I.list hb;have l1:=⇑r1;have l2:=⇑r2;refine SeqAt.RcNeAt.lists (e:=fun _=>true) p1.isList p2.isList (by simp only[bc];left) ⋯ (fun j h1 h2=>?_) _ _ _ _ ⟨.bl _,H,I,rfl,?_⟩
  ·obtain⟨x,ex,rx⟩:=dH r1 h1;obtain⟨y,ey,ry⟩:=dH r2 h2;exact EZ I hu rx ry (he j x y ex ey)
  ·rw[all_true];exact q
end
theorem IB {js:Za}{te:TE}{Q:VK} (hc:∀ σ H R,R true H->tc σ H R) (hJ:J.Seq H1 xs) (hl:⇑xs<sizeLine) (G:HO->Prop) (hG:∀ ys,¬ G (.lst ys))
  (he:∀ x∈xs,∀ H,aB H1 H->∀ R:VK,(∀ p o H',aB H H'->H' p=some o->G o->R (.ref p) H')->te (some x::js.map fun j=>(σ[j]?).join) H R)
  (q:∀ D vs H,H1 D=none->aB H1 H->H D=some (.lst vs)->⇑vs=⇑xs->(∀ v∈vs,∃ p o,v=.ref p/\H p=some o/\G o)->Q (.ref D) H):eK (eR 0) tc te (ip 1 js σ) J H1 Q:=by
 intro D hD;refine⟨fun i m ys σ1 H=>m=⇑xs-i/\i<=⇑xs/\(∃ o,σ1=o::js.map fun j=>(σ[j]?).join)/\⇑ys=i/\(∀ v∈ys,∃ p o,v=.ref p/\H p=some o/\G o)/\aB H1 H/\H D=some (.lst ys),
  ⟨⇑xs,by simp,br _,⟨none,rfl⟩,rfl,(fun v hv=>nomatch hv),(aB.refl H1).cf hD,aI⟩,?_⟩
 rintro i m ys σ1 H ⟨rfl,hi,⟨o,rfl⟩,hy,hg,sH,hL⟩;refine⟨hL,⋯,?_⟩
 by_cases hlt:i<⇑xs
 ·have e:xs[i]?=some xs[i]:=aC hlt;obtain⟨go,yl⟩:=(hJ H sH).1 i xs[i] e;refine .inr ⟨go,fun x H' y=>?_⟩;obtain⟨e1,e2⟩:=yl x H' y;subst e1 e2;have hm:xs[i]∈xs:=cj hlt;show tc (some xs[i]::js.map fun j=>(σ[j]?).join) H' _;refine hc _ _ _ ?_;rw[aq rfl];refine he xs[i] hm H' sH _ fun p o' H4 s4 hp hgo=>?_;have hL4:=s4 _ _ hL;have nD:∀ {b:Addr}{u:HO},H4 b=some u->G u->b≠D:=fun hb hu ee=>by
   subst ee;rw[hL4] at hb;cases hb;exact hG _ hu
  refine⟨hL4,⇑xs-(i+1),⋯,rfl,hlt,⟨_,rfl⟩,by rw[aE,hy];rfl,fun v hv=>?_,((sH.trans s4)).cf hD,aI⟩;rcases bC.mp hv with hv | hv
  ·obtain⟨b,u,rfl,hb,hu⟩:=hg v hv;have hb4:=s4 _ _ hb;exact⟨b,u,rfl,by rw[aN (nD hb4 hu)];exact hb4,hu⟩
  ·rw[aS.mp hv];exact⟨p,o',rfl,by rw[aN (nD hp hgo)];exact hp,hgo⟩
 ·have e:i=⇑xs:=⋯
  subst e;exact .inl ⟨(hJ H sH).2 _ (aw _),q D ys H hD sH hL hy hg⟩
theorem FG {js:Za}{σ:St}{te:TE}{Q:VK} (hJ:J.Seq H1 xs) (hl:⇑xs<sizeLine) (G:HO->Prop) (hG:∀ ys,¬ G (.lst ys))
  (he:∀ x∈xs,∀ H,aB H1 H->∀ R:VK,(∀ p o H',aB H H'->H' p=some o->G o->R (.ref p) H')->te (some x::js.map fun j=>(σ[j]?).join) H R)
  (q:∀ D vs H,H1 D=none->aB H1 H->H D=some (.lst vs)->⇑vs=⇑xs->(∀ v∈vs,∃ p o,v=.ref p/\H p=some o/\G o)->Q (.ref D) H):eK (eR 0) xQ te (ip 1 js σ) J H1 Q :=
 IB (fun _ _ _ h=>h) hJ hl G hG he q
end
end L2
namespace L2
variable {w:Int}
section
variable {α:Type} [DecidableEq α]
abbrev Nk (α:Type):=α×Bool
structure Ent (α:Type) where
 key:Nk α
 d:Int
 par:Option (Nk α)
 t:Nat
noncomputable def AS (fs:List (Ent α)) (e:Ent α):List (Ent α):=if fs.any (fun x=>x.key==e.key) then fs.map (fun x=>if x.key==e.key then e else x) else fs++[e]
theorem iB {fs:List (Ent α)}{e x:Ent α}:x∈AS fs e↔x=e∨(x∈fs/\x.key≠e.key):=by
 unfold AS;split
 ·rename_i h
  obtain⟨y,hy,hk⟩:=jD.mp h;rw[aO];constructor
  ·rintro⟨z,hz,rfl⟩;split
   ·exact .inl rfl
   ·rename_i hn
    exact .inr ⟨hz,fun q=>hn (by simp [q])⟩
  ·rintro (rfl | ⟨hx,hn⟩)
   ·exact⟨y,hy,by rw[aq hk]⟩
   ·exact⟨x,hx,by rw[ai (by simpa using hn)]⟩
 ·rename_i h
  have h':∀ y∈fs,y.key≠e.key:=fun y hy q=>h (jD.mpr ⟨y,hy,by simp [q]⟩);rw[bC,aS];constructor
  ·rintro (hx | rfl)
   ·exact .inr ⟨hx,h' x hx⟩
   ·exact .inl rfl
  ·rintro (rfl | ⟨hx,_⟩)
   ·exact .inr rfl
   ·exact .inl hx
theorem DM (fs:List (Ent α)) (e:Ent α):(AS fs e).map Ent.key=fs.map Ent.key∨((AS fs e).map Ent.key=fs.map Ent.key++[e.key]/\e.key∉fs.map Ent.key):=by
 unfold AS;split
 ·left;rw[bf];apply eX;intro x _;show (if x.key==e.key then e else x).key=x.key;split
  ·rename_i h;exact (eq_of_beq h).symm
  ·rfl
 ·rename_i h
  right;refine⟨by simp,fun q=>?_⟩;obtain⟨y,hy,hk⟩:=aO.mp q;exact h (jD.mpr ⟨y,hy,by simp [hk]⟩)
theorem AB {fs:List (Ent α)}{e:Ent α} (h:(fs.map Ent.key).Nodup):((AS fs e).map Ent.key).Nodup:=by
 rcases DM fs e with q | ⟨q,n⟩
 ·rw[q];exact h
 ·rw[q,nQ];exact⟨h,by simp,fun a ha b hb=>by rw[aS.mp hb];exact fun z=>n (z ▸ ha)⟩
structure ì (St:Nk α->List (Nk α×Int)) (C:Nk α->Nk α×Int->Prop) (u0:Nk α) (fs ss:List (Ent α)):Prop where
 nf:(fs.map Ent.key).Nodup
 sub:∀ e∈ss,e∈fs
 ns:(ss.map Ent.key).Nodup
 st:∃ e∈fs,e.key=u0/\e.d=0
 nn:∀ e∈fs,0<=e.d
 cl:∀ e∈ss,∀ p,C e.key p->∃ e'∈fs,e'.key=p.1/\e'.d<=e.d+p.2
 pa:∀ e∈fs,(e.par=none/\e.key=u0/\e.d=0)∨∃ u∈ss,∃ c,e.par=some u.key/\(e.key,c)∈St u.key/\e.d=u.d+c
 od:∀ e∈ss,∀ e'∈fs,e'∉ss->e.d<=e'.d
 rk:∀ pre e post,ss=pre++e::post->(e.par=none/\e.key=u0/\e.d=0)∨∃ u∈pre,∃ c,e.par=some u.key/\(e.key,c)∈St u.key/\e.d=u.d+c
theorem Iz {fs:List (Ent α)} (h:(fs.map Ent.key).Nodup) {x y:Ent α} (hx:x∈fs) (hy:y∈fs) (e:x.key=y.key):x=y:=by
 induction fs with
 | nil=>cases hx
 | cons z r ih =>
  rw[bI,dD] at h;rcases aY.mp hx with rfl | hx
  ·rcases aY.mp hy with rfl | hy
   ·rfl
   ·exact absurd (aO.mpr ⟨y,hy,e.symm⟩) h.1
  ·rcases aY.mp hy with q | hy
   ·exact absurd (aO.mpr ⟨x,hx,by rw[←q];exact e⟩) h.1
   ·exact ih h.2 hx hy
theorem ì.put {St:Nk α->List (Nk α×Int)}{C:Nk α->Nk α×Int->Prop}{u0:Nk α}{fs ss:List (Ent α)} (D:ì St C u0 fs ss) {e:Ent α} (he:e∈ss) (hm:∀ x∈ss,x.d<=e.d) {q:Nk α×Int} (hq:q∈St e.key) (hc:0<=q.2)
  (hl:∀ x∈fs,x.key=q.1->e.d+q.2<x.d) (t:Nat):ì St (fun k p=>C k p∨(k=e.key/\p=q)) u0 (AS fs ⟨q.1,e.d+q.2,some e.key,t⟩) ss:=by
 have hns:∀ x∈ss,x.key≠q.1:=fun x hx hk=>by have h1:=hl x (D.sub x hx) hk;have h2:=hm x hx;left
 have h0:=D.nn e (D.sub e he);refine⟨AB D.nf,fun x hx=>iB.mpr (.inr ⟨D.sub x hx,hns x hx⟩),D.ns,?_,fun x hx=>?_,fun x hx p hp=>?_,fun x hx=>?_,fun x hx y hy hyn=>?_,D.rk⟩
 ·obtain⟨x,hx,hk,hd⟩:=D.st;refine⟨x,iB.mpr (.inr ⟨hx,fun z=>?_⟩),hk,hd⟩;have:=hl x hx z;left
 ·rcases iB.mp hx with rfl | ⟨h,_⟩
  ·show 0<=e.d+q.2;left
  ·exact D.nn x h
 ·rcases hp with hp | ⟨h1,rfl⟩
  ·obtain⟨y,hy,hyk,hyd⟩:=D.cl x hx p hp
   by_cases z:y.key=q.1
   ·refine⟨_,iB.mpr (.inl rfl),?_,?_⟩
    ·show q.1=p.1;rw[←z,hyk]
    ·show e.d+q.2<=_;have:=hl y hy z;left
   ·exact⟨y,iB.mpr (.inr ⟨hy,z⟩),hyk,hyd⟩
  ·have:x=e:=Iz D.nf (D.sub x hx) (D.sub e he) h1;subst this;exact⟨_,iB.mpr (.inl rfl),rfl,Int.le_refl _⟩
 ·rcases iB.mp hx with rfl | ⟨h,_⟩
  ·exact .inr ⟨e,he,q.2,rfl,hq,rfl⟩
  ·exact D.pa x h
 ·rcases iB.mp hy with rfl | ⟨h,_⟩
  ·have:=hm x hx;show x.d<=e.d+q.2;left
  ·exact D.od x hx y h hyn
theorem ì.imp {St:Nk α->List (Nk α×Int)}{C C':Nk α->Nk α×Int->Prop}{u0:Nk α}{fs ss:List (Ent α)} (D:ì St C u0 fs ss) (h:∀ k p,C' k p->C k p):ì St C' u0 fs ss :=
 ⟨D.nf,D.sub,D.ns,D.st,D.nn,fun x hx p hp=>D.cl x hx p (h _ _ hp),D.pa,D.od,D.rk⟩
inductive Wk (St:Nk α->List (Nk α×Int)) (u:Nk α):Nk α->Int->Prop
 | nil:Wk St u u 0
 | snoc {v x:Nk α}{w c:Int}:Wk St u v w->(x,c)∈St v->Wk St u x (w+c)
theorem Wk.mono {St St':Nk α->List (Nk α×Int)}{u v:Nk α} (h:∀ k p,p∈St k->p∈St' k) (x:Wk St u v w):Wk St' u v w:=by
 induction x with
 | nil=>exact .nil
 | snoc _ m ih=>exact ih.snoc (h _ _ m)
theorem Wk.cons {St:Nk α->List (Nk α×Int)}{u v y:Nk α}{w c:Int} (m:(v,c)∈St u) (x:Wk St v y w):Wk St u y (c+w):=by
 induction x with
 | nil =>have:=Wk.snoc (Wk.nil (St:=St) (u:=u)) m;rw[fG] at this;rw[Int.add_zero];exact this
 | snoc _ m2 ih =>have:=ih.snoc m2;rw[Int.add_assoc] at this;exact this
theorem Wk.symm {St:Nk α->List (Nk α×Int)}{u v:Nk α} (h:∀ k x c,(x,c)∈St k->(k,c)∈St x) (x:Wk St u v w):Wk St v u w:=by
 induction x with
 | nil=>exact .nil
 | snoc _ m ih=>rw[Int.add_comm];exact Wk.cons (h _ _ _ m) ih
structure MR (St:Nk α->List (Nk α×Int)) (u0:Nk α) (ss:List (Ent α)):Prop where
 ns:(ss.map Ent.key).Nodup
 le:∀ v w,Wk St u0 v w->∃ e∈ss,e.key=v/\e.d<=w
 wk:∀ e∈ss,Wk St u0 e.key e.d
 rk:∀ pre e post,ss=pre++e::post->(e.par=none/\e.key=u0/\e.d=0)∨∃ u∈pre,∃ c,e.par=some u.key/\(e.key,c)∈St u.key/\e.d=u.d+c
theorem Hl {St:Nk α->List (Nk α×Int)}{u0:Nk α}:∀ (n:Nat) (ss:List (Ent α)),⇑ss=n →
  (∀ pre e post,ss=pre++e::post->(e.par=none/\e.key=u0/\e.d=0)∨∃ u∈pre,∃ c,e.par=some u.key/\(e.key,c)∈St u.key/\e.d=u.d+c)->∀ e∈ss,Wk St u0 e.key e.d
 | 0,ss,hl,_,e,he=>by rw[iK.mp hl] at he;cases he
 | n+1,ss,hl,h,e,he=>by
  obtain⟨pre,post,q⟩:=List.append_of_mem he;rcases h pre e post q with ⟨_,hk,hd⟩ | ⟨u,hu,c,_,hm,hd⟩
  ·rw[hk,hd];exact .nil
  ·have lp:⇑pre<=n:=by
    have:=bQ List.length q;simp at this;left
   have ih:∀ e∈pre,Wk St u0 e.key e.d:=wk_pre_le ⇑pre n lp pre rfl fun p1 e1 p2 q1=>h p1 e1 (p2++e::post) (by rw[q,q1];simp);rw[hd];exact (ih u hu).snoc hm
where
 wk_pre_le (m n:Nat) (hmn:m<=n) (ss:List (Ent α)) (hl:⇑ss=m) (h:∀ pre e post,ss=pre++e::post->(e.par=none/\e.key=u0/\e.d=0)∨∃ u∈pre,∃ c,e.par=some u.key/\(e.key,c)∈St u.key/\e.d=u.d+c):∀ e∈ss,Wk St u0 e.key e.d :=
  Hl m ss hl h
theorem ì.done {St:Nk α->List (Nk α×Int)}{u0:Nk α}{fs ss:List (Ent α)} (D:ì St (fun k p=>p∈St k) u0 fs ss) (h:∀ e∈fs,e∈ss):MR St u0 ss:=by
 refine⟨D.ns,fun v w x=>?_,fun e he=>Hl ⇑ss ss rfl D.rk e he,D.rk⟩
 induction x with
 | nil =>obtain⟨e,he,hk,hd⟩:=D.st;exact⟨e,h e he,hk,⋯⟩
 | @snoc v x w c _ m ih =>obtain⟨e,he,hk,hd⟩:=ih;obtain⟨e',he',hk',hd'⟩:=D.cl e he (x,c) (by rw[hk];exact m);exact⟨e',h e' he',hk',by have:(x,c).2=c:=rfl;left⟩
structure Ln (α:Type) where
 a:α
 b:α
 p:Option Int
 c:Option Int
def Up (x:Option Int) (w:Int):Prop:=∃ a,x=some a/\a<=w
theorem Up.mono {x:Option Int}{w w':Int} (h:Up x w) (l:w<=w'):Up x w':=by obtain⟨a,e,q⟩:=h;exact⟨a,e,⋯⟩
section
variable {zs bs:List α}{ls:List (Ln α)}{p g:Int}
end
end
end L2
namespace L2
open PySem PySem.Spec PyProof.Rows
variable {A:Around}{CX:Ï}{D:Ends}{E:Zq}{H:Hp}{H1:Hp}{K:Zf}{P:Zh}{Q:Option Value->Zg->Prop}{X:Cx}{a:Addr}{base:Heap}{body:Expr}{cl:List (Str×Addr)}{e:Expr}{ep:Nat}{es:Array (Int×Value)}{f:Addr}{fd:FuncData}{g:TG}{h:Heap}{it:Addr}{js:Za}{kvs:List (Key×V)}{lb:Bool}{mg:Zk}{o:Obj}{ob:Obj}{params:Arguments}{Yp:Zp}{pos:Pos}{prog:Zh}{ps:Array Value}{q:Str}{s:Zg}{scope:Scope}{sp:Sp}{spA:Sp->Sp}{st:Stmt}{tb:TS}{tc:TT}{te:TE}{tk:Tok}{ts:List (Addr×Str)}{tv:TE}{u:Value}{vs:Zc}{w:Zi}{x:Str}{xs:List V}{zs:Ze}{σ:St}
section
noncomputable abbrev il (q:Str):HO:=.tbl #[.str q 0]
section
variable {X:Cx}{Yp:Zp}{σ:St}{H:Hp}{s:Zg}
theorem tab_of {P:Addr} (I:Inv X Yp σ H s) (e:H P=some (il q)):∃ qs:Array Value,s.heap.get? P=some { cls:=.none,data:=.fields qs }/\TriplesOk qs.toList ∧
  ∀ pos c,codeAmong pos qs.toList=some c->∃ c' oc vs t,c=.ref c'/\H c'=some (.frz oc (.own P))/\s.heap.get? c'=some oc/\oc.data=.fields vs/\vs[1]?=some (.str q t):=by
 obtain⟨qs,h1,h2,h3⟩:=(show bX X.prog X.w H s.heap P (il q) from I.hok P _ e);refine⟨qs,h1,h2,fun pos c z=>?_⟩;obtain⟨c',oc,vs,t,q',a1,a2,a4,a5,a6⟩:=h3 pos c z;have a7:q=q':=by have:=bQ Array.toList a6;simp at this;exact this
 subst a7;exact⟨c',oc,vs,t,a1,a2,(I.hok c' _ a2).1,a4,a5⟩
theorem Inv.tabled {P c':Addr}{h':Heap}{ps more:Array Value}{tk:Nat}{oc:Obj}{vs:Array Value}{tq:Tok} (I:Inv X Yp σ H s) (e:H P=some (il q)) (hx:∀ b o,b≠P->s.heap.get? b=some o->h'.get? b=some o) (hc:s.heap.objs.size<=c')
  (h1:h'.get? P=some { cls:=.none,data:=.fields more }) (h2:TriplesOk more.toList) (h3:∀ pos c,codeAmong pos more.toList=some c->codeAmong pos ps.toList=some c∨c=.ref c') (h0:s.heap.get? P=some { cls:=.none,data:=.fields ps })
  (c1:h'.get? c'=some oc) (c2:oc.data=.fields vs) (c3:vs[1]?=some (.str q tq)):Inv X Yp σ (upd H c' (.frz oc (.own P))) { s with heap:=h',toks:=tk }:=by
 have hn:=I.hok.fresh hc;have nP:∀ b,H b=none->b≠P:=fun b hb z=>by rw[z,e] at hb;cases hb
 have lt:∀ b o,s.heap.get? b=some o->b≠c':=fun b o z=>bw (bK (aQ z) hc);obtain⟨qs,g1,g2,g3⟩:=tab_of I e;have eq:qs=ps:=by
  rw[h0] at g1;have:=Option.some.inj g1
  injection this with _ _ z
  injection z with z
  exact z.symm
 subst eq;refine I.un ⟨fun b o z n _ _=>hx b o (nP b n) z,fun b o z n _ _=>⟨o.slots,hx b o (nP b n) z⟩,fun b o z n _=>by rw[aN (lt b o z)];exact n,fun b o z _=>?_,fun b xs z=>by rw[aN (aW z hn)];exact z,fun b u xs z=>by rw[aN (aW z hn)];exact z,
  fun b xs z=>⟨#[],by rw[aN (aW z hn),z];simp⟩⟩ fun b u z=>?_
 ·by_cases hb:b=P
  ·rw[hb];exact⟨_,h1⟩
  ·exact⟨o,hx b o hb z⟩
 ·by_cases hb:b=c'
  ·subst hb;rw[aI] at z;cases z;exact⟨c1,_,c1⟩
  ·rw[aN hb] at z
   by_cases hp:b=P
   ·subst hp;rw[e] at z;cases z;refine⟨more,h1,h2,fun pos c w=>?_⟩;rcases h3 pos c w with w | rfl
    ·obtain⟨c2',oc2,vs2,t2,a1,a2,a3,a4,a5⟩:=g3 pos c w;exact⟨c2',oc2,vs2,t2,q,a1,by rw[aN (aW a2 hn)];exact a2,a4,a5,rfl⟩
    ·exact⟨c',oc,vs,tq,q,rfl,aI,c2,c3,rfl⟩
   ·refine (I.hok b u z).pZ (fun c v hc2 w=>hx c v ?_ w) (fun c w=>by rw[aN (aW w hn)];exact w) fun c xs w=>by rw[aN (aW w hn)];exact w
    rcases hc2 with rfl | w2
    ·exact hp
    ·exact gR w2 e (by intro z;cases z)
end
theorem zH {pos p2:Pos}{c:Value}:∀ (l:Zc),TriplesOk l->∀ x,codeAmong pos (l++[rawInt p2.line,rawInt p2.col,c])=some x->codeAmong pos l=some x∨x=c:=by
 intro l h
 fun_induction TriplesOk l with
 | case1 =>
  intro x e;simp only[List.nil_append,codeAmong,rawInt] at e;split at e
  ·exact .inr (Option.some.inj e).symm
  ·cases e
 | case2 a t b u y rest ih =>
  intro x e;simp only[List.cons_append,codeAmong] at e ⊢;split at e
  ·rename_i hc
   rw[aq hc];exact .inl e
  ·rename_i hc
   rw[ai hc];exact ih h x e
 | case3=>exact h.elim
section
variable {X:Cx}{Yp:Zp}{σ:St}{H:Hp}{s:Zg}{a:Addr}{y v:V}{u:Value}{A:Around}{E:Zq}
end
section
variable {X:Cx}{Yp:Zp}{σ:St}{H:Hp}{s:Zg}
def oR (H:Hp) (P:Addr) (q:Str) (c':Addr):Prop:=∃ oc vs t,H c'=some (.frz oc (.own P))/\oc.data=.fields vs/\vs[1]?=some (.str q t)
theorem oR.same {H H':Hp}{P c':Addr} (h:oR H P q c') (s:aB H H'):oR H' P q c':=by obtain⟨oc,vs,t,h1,h2⟩:=h;exact⟨oc,vs,t,s _ _ h1,h2⟩
theorem oR.rec {P c':Addr} (I:Inv X Yp σ H s) (h:oR H P q c'):s.heap.CodeRec (.ref c') q:=by obtain⟨oc,vs,t,h1,h2,h3⟩:=h;exact⟨c',oc,vs,t,rfl,(I.hok c' _ h1).1,h2,h3⟩
end
section
variable {prog:Zh}{w:Zi}{A:Around}{E:Zq}{s:Zg}{d it:Addr}{D J:Obj}{es:Array DictEntry}{ep i:Nat}
theorem GF {Q:Zq} (n0:(d==sysModules)=false) (g1:s.heap.get? d=some D) (g2:D.ExactDict) (g3:D.data=.dict es ep)
  (k:Q (.ref s.heap.objs.size) { s with heap:=s.heap.push { cls:=.type "dict_keyiterator",data:=.fields #[.ref d,.int 0 0,.int es.size 0,.int ep 0] } }):wpAny (model prog w) A (pyIter (.ref d)) Q E s:=by
 have ty:s.TypeIs (.ref d) "dict":=⟨D,g1,g2.1⟩;refine wpAny_pyIter_slot ty F.slot_dict_iter (gq F.slot_dict_iter ty F.entry_dict_iter ?_ (F.args_dict_iter_1 _));unfold Builtin.«dict.__iter__» Builtin.Dict.dictSlotNone;refine ae (ae (wpAny_notOrdered_dict ty ?_));refine au (show wpAny _ _ (Builtin.Dict.showsAll d >>= _) _ _ s from ?_);unfold Builtin.Dict.showsAll;rw[ai (fun z=>by rw[n0] at z;cases z)];refine ae (au (ae (wpAny_dictEntries g1 g3 (ae (wpAny_dictEpoch g1 g3 ?_)))));refine ae (gr (au ⟨_,rfl,"dict_keyiterator",_,⟨_,bo _ rfl,rfl⟩,rj.lookup,?_⟩))
 simpa [rawInt] using k
theorem GG {Q:Option Value->Zg->Prop} (j:s.heap.IsKeyIter it d i es.size ep) (g1:s.heap.get? d=some D) (g3:D.data=.dict es ep) (hi:i<es.size)
  (k:∀ h',h'.IsKeyIter it d (i+1) es.size ep->Heap.SameBut it s.heap h'->Q (some es[i].key) { s with heap:=h' }):wpAny (model prog w) A (pyNext (.ref it)) Q E s:=by
 obtain⟨J,j1,j2,j3⟩:=id j;unfold pyNext;refine ae (lM (lN (name:=Str.ofString "__next__") j.typeIs rj (gq rj j.typeIs F.entry_dict_keyiterator_next ?_ (F.args_dict_keyiterator_next_1 _))));refine ae (au (ae (ae ?_)))
 first | refine ae (rl j.typeIs (au (ae (iO j1 j3 ?_)))) | refine ae (rp j.typeIs (au (ae (iO j1 j3 ?_))))
 have ow:Builtin.Dict_items.ownsTuple "dict_keyiterator"=false:=by decide
 simp only[ow,i9,eG];show wpAny _ _ (if (Value.ref d==Value.none)=true then _ else _) _ _ _;rw[ai (fun z:(Value.ref d==Value.none)=true=>bP z)];refine ae (au (ae (wpAny_dictEntries g1 g3 ?_)));rw[ai (by simp)];refine ae (au (ae (wpAny_dictEpoch g1 g3 ?_)));rw[ai (by simp)];refine au ?_;simp only[show ¬ ((i:Int)<0) from by left,eG,cC,jK hi];refine ae ?_
 first | refine ae (rl j.typeIs (au (ae (wpAny_isOneOf_keyiter j.typeIs ?_)))) | refine ae (rp j.typeIs (au (ae (wpAny_isOneOf_keyiter j.typeIs ?_))))
 refine show wpAny _ _ (setField (.ref it) 1 (rawInt ((i:Int)+1)) >>= _) _ _ s from ae (wpAny_setField j1 j3 (by simp) ?_)
 have jn:(s.heap.update it (Obj.mapFields (·.setIfInBounds 1 (rawInt ((i:Int)+1))))).IsKeyIter it d (i+1) es.size ep :=
  ⟨_,hZ _ j1 (Obj.isFreed_of_fields (Obj.data_mapFields j3 _)),(Obj.cls_mapFields ..).trans j2,by rw[Obj.data_mapFields j3];simp [rawInt]⟩
 refine ae (cQ (ae (wpAny_isOneOf_keyiter (s:={ s with heap:=s.heap.update it (Obj.mapFields (·.setIfInBounds 1 (rawInt ((i:Int)+1)))) }) jn.typeIs ?_)));refine show wpAny _ _ (pure es[i].key) _ _ _ from ?_
 exact au (au ⟨_,rfl,au (k _ jn (Heap.SameBut.update ..))⟩)
theorem Jj {Q:Option Value->Zg->Prop} (ha:A.handled=none) (j:s.heap.IsKeyIter it d i es.size ep) (hi:es.size<=i) (g1:s.heap.get? d=some D) (g3:D.data=.dict es ep)
  (k:∀ h',Heap.ExtBut it s.heap h'->Q none { s with heap:=h' }):wpAny (model prog w) A (pyNext (.ref it)) Q E s:=by
 obtain⟨J,j1,j2,j3⟩:=id j;unfold pyNext;refine ae (lM (lN (name:=Str.ofString "__next__") j.typeIs rj (gq rj j.typeIs F.entry_dict_keyiterator_next ?_ (F.args_dict_keyiterator_next_1 _))));refine ae (au (ae (ae ?_)))
 first | refine ae (rl j.typeIs (au (ae (iO j1 j3 ?_)))) | refine ae (rp j.typeIs (au (ae (iO j1 j3 ?_))))
 have ow:Builtin.Dict_items.ownsTuple "dict_keyiterator"=false:=by decide
 simp only[ow,i9,eG];show wpAny _ _ (if (Value.ref d==Value.none)=true then _ else _) _ _ _;rw[ai (fun z:(Value.ref d==Value.none)=true=>bP z)];refine ae (au (ae (wpAny_dictEntries g1 g3 ?_)));rw[ai (by simp)];refine ae (au (ae (wpAny_dictEpoch g1 g3 ?_)));rw[ai (by simp)];refine au ?_;simp only[show ¬ ((i:Int)<0) from by left,eG,cC,nX hi];refine ae ?_
 first | refine ae (rl j.typeIs (au ?_)) | refine ae (rp j.typeIs (au ?_))
 refine show wpAny _ _ (setField (.ref it) 0 .none >>= _) _ _ s from ae (wpAny_setField j1 j3 (by simp) ?_)
 refine show wpAny _ _ (newExc (.type "StopIteration") [] >>= _) _ _ _ from ae ?_
 simp only[newExc,newTuple];refine ae (gr (ae (m:=firstArgMember _ _) (wpAny_of_eq (a:=Value.none) (by first | rfl | (simp only[firstArgMember];rfl)) ?_)) (by size_fits));refine gr ?_ (by size_fits);simp only[raiseNew];refine ae (wpAny_handled ?_);rw[show A.in1.handled=none from ha];refine ae (au (wpAny_throw ?_));refine ae (wpAny_isInstance (T:="StopIteration") (b:=true) ⟨_,bo _ rfl,rfl⟩ isSubtype_stop (au ?_));exact (k _ (((Heap.SameBut.update ..).extBut.push _).push _))
end
section
variable {X:Cx}{Yp:Zp}{σ:St}{H:Hp}{A:Around}{s0:Zg}{l q I S:Addr}{vs:Zc}{R:Result->Zg->Prop}
end
theorem kj.same {H H':Hp}{y:V}{o:Option V} (s:aB H H') (g:kj H a y o):kj H' a y o:=by
 rcases g with ⟨kvs,k,e,h⟩ | ⟨kvs,k,b,e,h1,h2,h3⟩
 ·exact .inl ⟨kvs,k,e.elim (fun z=>.inl (s _ _ z)) fun ⟨o,z⟩=>.inr ⟨o,s _ _ z⟩,h⟩
 ·exact .inr ⟨kvs,k,b,e.elim (fun z=>.inl (s _ _ z)) fun ⟨o,z⟩=>.inr ⟨o,s _ _ z⟩,h1,s _ _ h2,h3⟩
section
variable {X:Cx}
end
def Cu:TE:=fun _ H Q=>nw H (.dT []) Q
theorem EB {σ:St}{H:Hp}{Q:VK}:Cu σ H Q=nw H (.dT []) Q:=propext Iff.rfl
theorem we :PE X (.Dict [] [] pos) Cu:=fun Yp s σ H Q I h=>Gi Yp s σ H Q I (nw.go h)
theorem Hy {td ty tv:TE}{D:Ends}{σ:St}{H:Hp}:GJ td ty tv D σ H=tv σ H fun v H1=>td σ H1 fun x H2=>ty σ H2 fun y H3=>∃ a H4,x=.ref a/\xV H3 a y v H4/\D.nx σ H4:=propext Iff.rfl
theorem uK {o i value:Expr}{pos pos':Pos}{td ty tv:TE} (hu:X.A.units+1<cLine) (ho:PE X o td) (hi:PE X i ty) (hv:PE X value tv) (hs:swapsWith value (some (.Subscript o i pos')) pos.line X.env=pure false:=by ext) :
  PS X (.Assign [.Subscript o i pos'] value pos) (GJ td ty tv):=Je hu ho hi hv hs
theorem fb {α β:Type}{F:α->β->Prop}:∀ {l₁:List α}{l₂:List β},Paired F l₁ l₂->∀ {i:Nat}{x:α},l₁[i]?=some x->∃ y,l₂[i]?=some y/\F x y
 | _,_,.nil,i,x,e=>by simp at e
 | _,_,.cons r t,0,x,e=>by simp at e;subst e;exact⟨_,rfl,r⟩
 | _,_,.cons r t,i+1,x,e=>fb t (by simpa using e)
section
variable {P:Zh}{w:Zi}{K:Zf}{mg:Zk}{base:Heap}
theorem Å.õ {x qual:Str}{f c:Addr}{N ps:Ze}{k:Nat} (F:Å K x qual st f fd) (hc:fd.code=.ref c) (S:aJ N ps (ax st)) (len:∀ vs H Q E,sp vs H Q E->⇑vs=⇑ps)
  (hbody:∀ (A:Around) (outer:List Env) (s:Zg) (H:Hp) (vs:List V) (Q:VK) (E:XK),cU k (A.deeper (envOfC qual (ax st) s.heap.objs.size f (.ref c)))->sp vs H Q E →
   ∃ t,Ù (oH (Á P w) P w K mg base N qual (ax st) f (.ref c) A outer s H E) (cn st) t/\t { nx:=fun _ H'=>Q .non H',rt:=Q } (start N vs) H):bF P w K mg base (Á P w) (k+1) f fd ps sp:=by
 obtain⟨oc,od,kV,doc,pm,an,cdv,ct,osl,rfl,lk,hcd⟩:=F.ex;have e:cdv=.ref c:=hc;subst e;exact yw lk hcd S len fun A outer s H vs Q E hr hsp=>hbody A outer s H vs Q E hr hsp
end
end
section
theorem jh:∀ {zs:Ze}{us:Zc},StrsAre us zs->Vals (zs.map V.str) us
 | _,_,.nil=>.nil
 | _,_,.cons z t h=>.cons ⟨t,rfl⟩ (jh h)
section
variable {prog:Zh}{w:Zi}{A:Around}{E:Zq}{s:Zg}
end
section
variable {α:Type}
theorem LO {p:List α->Prop} (h:p []) (us:List α) (e:⇑us=0):p us:=by
 cases us with
 | nil=>exact h
 | cons _ _=>cases e
theorem bind1 {p:List α->Prop} (h:∀ a,p [a]) (us:List α) (e:⇑us=1):p us:=by
 cases us with
 | nil=>cases e
 | cons a r=>exact LO (p:=fun r=>p (a::r)) (h a) r (Nat.succ.inj e)
theorem cI {p:List α->Prop} (h:∀ a b,p [a,b]) (us:List α) (e:⇑us=2):p us:=by
 cases us with
 | nil=>cases e
 | cons a r=>exact bind1 (p:=fun r=>p (a::r)) (h a) r (Nat.succ.inj e)
theorem mB {p:List α->Prop} (h:∀ a b c,p [a,b,c]) (us:List α) (e:⇑us=3):p us:=by
 cases us with
 | nil=>cases e
 | cons a r=>exact cI (p:=fun r=>p (a::r)) (h a) r (Nat.succ.inj e)
theorem qf {p:List α->Prop} (h:∀ a b c d,p [a,b,c,d]) (us:List α) (e:⇑us=4):p us:=by
 cases us with
 | nil=>cases e
 | cons a r=>exact mB (p:=fun r=>p (a::r)) (h a) r (Nat.succ.inj e)
end
end
section
end
section
theorem cU.æ {k:Nat} (r:cU k A):A.units+9<cLine:=by have:=r.un;left
theorem jQ.æ {k:Nat} (r:jQ k A):A.units+9<cLine:=by have:=r.un;left
inductive Þ (K:Zf) (H:Hp):Nat->V->V->Bool->Prop
 | same {n:Nat}{x:V} (h:yF x=true):Þ K H n x x true
 | flat {n:Nat}{x y:V} (h1:dM x=true) (h2:dM y=true):Þ K H n x y (Ú x y)
 | lst {n:Nat}{p q:Addr}{xs ys:List V} (e:Nat->Bool) (hne:p≠q) (h1:Ã K H p xs) (h2:Ã K H q ys) (hl:⇑xs=⇑ys) (h:∀ (i:Nat) x y,xs[i]?=some x->ys[i]?=some y->Þ K H n x y (e i)):Þ K H (n+1) (.ref p) (.ref q) ((List.range ⇑xs).all e)
 | tup {n:Nat}{p q:Addr}{xs ys:List V} (e:Nat->Bool) (hne:p≠q) (h1:Ó K H p xs) (h2:Ó K H q ys) (h:∀ (i:Nat) x y,xs[i]?=some x->ys[i]?=some y->Þ K H n x y (e i)):Þ K H (n+1) (.ref p) (.ref q) ((List.range (min ⇑xs ⇑ys)).all e&&⇑xs==⇑ys)
theorem Þ.at {X:Cx}{Yp:Zp}{s:Zg}{σ:St}{H:Hp} (I:Inv X Yp σ H s) {n:Nat}{x y:V}{b:Bool} (h:Þ X.K H n x y b):∀ {A:Around}{u v:Value},A.units+n<cLine->RelV x u->RelV y v->SeqAt.EqAt A s u v b:=by
 induction h with
 | same h=>intro A u v _ ru rv;exact vK ru rv h
 | flat h1 h2=>intro A u v _ ru rv;exact pz ru rv h1 h2
 | @lst n p q xs ys e hne h1 h2 hl _ ih =>
  intro A u v hu ru rv;cases ru;cases rv;obtain⟨us,r1,p1,_⟩:=I.list h1;obtain⟨vs,r2,p2,_⟩:=I.list h2;have l1:=⇑r1;have l2:=⇑r2;have:=SeqAt.RcAt.lists (A:=A) (s:=s) (e:=e) p1.isList p2.isList (by simp only[bc];left) ⋯ fun j j1 j2=>by obtain⟨x,ex,rx⟩:=dH r1 j1;obtain⟨y,ey,ry⟩:=dH r2 j2;exact ih j x y ex ey (show A.units+1+n<cLine by left) rx ry
  rw[bc,←l1] at this;exact SeqAt.EqAt.of_refs hne this
 | @tup n p q xs ys e hne h1 h2 _ ih =>
  intro A u v hu ru rv;cases ru;cases rv;obtain⟨us,r1,p1,_⟩:=I.tuple h1;obtain⟨vs,r2,p2,_⟩:=I.tuple h2;have l1:=⇑r1;have l2:=⇑r2;have:=SeqAt.RcAt.tuples (A:=A) (s:=s) (e:=e) p1 p2 ⋯ fun j j1 j2=>by obtain⟨x,ex,rx⟩:=dH r1 j1;obtain⟨y,ey,ry⟩:=dH r2 j2;exact ih j x y ex ey (show A.units+1+n<cLine by left) rx ry
  rw[bc,bc,←l1,←l2] at this;exact SeqAt.EqAt.of_refs hne this
def Ē (K:Zf) (H:Hp) (n:Nat) (x y:V) (b:Bool):Prop:=∃ p q,x=.ref p/\y=.ref q ∧
 ((∃ xs ys,Ã K H p xs/\Ã K H q ys/\((⇑xs≠⇑ys/\b=false)∨(⇑xs=⇑ys/\∃ e:Nat->Bool,(∀ (i:Nat) x y,xs[i]?=some x->ys[i]?=some y->Þ K H n x y (e i))/\b=(List.range ⇑xs).all e))) ∨
  ∃ xs ys,Ó K H p xs/\Ó K H q ys/\∃ e:Nat->Bool,(∀ (i:Nat) x y,xs[i]?=some x->ys[i]?=some y->Þ K H n x y (e i))/\b=((List.range (min ⇑xs ⇑ys)).all e&&⇑xs==⇑ys))
def Mr (K:Zf):R2:=fun x y H Q=>∃ n b,n<=6/\Ē K H n x y b/\Q (.bl b) H
theorem Ie {K:Zf}{x y:V}{H:Hp}{Q:VK}:Mr K x y H Q=(∃ n b,n<=6/\Ē K H n x y b/\Q (.bl b) H):=propext Iff.rfl
section
variable {X:Cx}
theorem KQ (hK:X.K=K) (hu:X.A.units+9<cLine):É X (compareOp .Eq) (Mr K):=by
 subst hK;intro Yp s σ H x y v u Q I rx ry h;obtain⟨n,b,hn,⟨p,q,rfl,rfl,h⟩,k⟩:=h;cases rx;cases ry;rcases h with ⟨xs,ys,h1,h2,h⟩ | ⟨xs,ys,h1,h2,e,h,rfl⟩
 ·obtain⟨us,r1,p1,_⟩:=I.list h1;obtain⟨vs,r2,p2,_⟩:=I.list h2;have l1:=⇑r1;have l2:=⇑r2;rcases h with ⟨hl,rfl⟩ | ⟨hl,e,h,rfl⟩
  ·exact SeqAt.eq_list_lengthsAt p1.isList p2.isList (by simp only[bc];simpa using (by left:⇑us≠⇑vs)) ⋯ ⟨.bl _,H,I,rfl,k⟩
  ·refine SeqAt.eq_listAt (e:=e) p1.isList p2.isList (by simp only[bc];left) ⋯ (fun j j1 j2=>?_) ⟨.bl _,H,I,rfl,?_⟩
   ·obtain⟨x,ex,rx⟩:=dH r1 j1;obtain⟨y,ey,ry⟩:=dH r2 j2;exact (h j x y ex ey).at I (show X.A.units+1+n<cLine by left) rx ry
   ·rw[bc,←l1];exact k
 ·obtain⟨us,r1,p1,_⟩:=I.tuple h1;obtain⟨vs,r2,p2,_⟩:=I.tuple h2;have l1:=⇑r1;have l2:=⇑r2;refine SeqAt.eq_tupleAt (e:=e) p1 p2 ⋯ (fun j j1 j2=>?_) ⟨.bl _,H,I,rfl,?_⟩
  ·obtain⟨x,ex,rx⟩:=dH r1 j1;obtain⟨y,ey,ry⟩:=dH r2 j2;exact (h j x y ex ey).at I (show X.A.units+1+n<cLine by left) rx ry
  ·rw[bc,bc,←l1,←l2];exact k
end
noncomputable def My (e:V->Bool):Value->Bool
 | .ref a=>e (.ref a)
 | _=>false
section
variable {X:Cx}
end
theorem Lq {p q:Addr} (h1:Ã K H p xs) (h2:Ã K H q []):Ē K H 0 (.ref p) (.ref q) (decide (xs=[])):=by
 refine⟨p,q,rfl,rfl,.inl ⟨xs,[],h1,h2,?_⟩⟩;cases xs with
 | nil=>exact .inr ⟨rfl,fun _=>true,fun i x y e=>by simp at e,rfl⟩
 | cons x r=>exact .inl ⟨by simp,by simp⟩
theorem all_strs (us vs:Ze) (h:⇑us=⇑vs):((List.range ⇑us).all fun i=>Ú ((us.map V.str).getD i .non) ((vs.map V.str).getD i .non))=decide (us=vs):=by
 rw[oG,bY,bE];constructor
 ·intro k;apply List.ext_getElem h;intro i h1 h2;have:=k i (cE.mpr h1);rw[aK,aK,aX,aX,aC h1,aC h2] at this;have this':(us[i]==vs[i])=true:=this;exact eq_of_beq this'
 ·rintro rfl i hi;have h1:=cE.mp hi;rw[aK,aX,aC h1];show (us[i]==us[i])=true;simp
theorem wY (us vs:Ze):(((List.range (min ⇑(us.map V.str) ⇑(vs.map V.str))).all fun i=>Ú ((us.map V.str).getD i .non) ((vs.map V.str).getD i .non))&&⇑(us.map V.str)==⇑(vs.map V.str))=decide (us=vs):=by
 rw[ak,ak]
 by_cases h:⇑us=⇑vs
 ·rw[h,Nat.min_self,beq_self_eq_true,Bool.and_true,←h,all_strs us vs h]
 ·rw[show (⇑us==⇑vs)=false from by simpa using h,Bool.and_false,eq_comm,decide_eq_false_iff_not];exact fun e=>h (by rw[e])
theorem Er {n:Nat} (us vs:Ze):∀ (i:Nat) x y,(us.map V.str)[i]?=some x->(vs.map V.str)[i]?=some y->Þ K H n x y (Ú ((us.map V.str).getD i .non) ((vs.map V.str).getD i .non)):=fun i x y e1 e2=>by
 rw[aK,aK,e1,e2];have f:∀ {ws:Ze}{z:V},(ws.map V.str)[i]?=some z->dM z=true:=fun {ws z} e=>by obtain⟨w,_,rfl⟩:=aO.mp (bT e);rfl
 exact .flat (f e1) (f e2)
theorem HZ {p q:Addr}{us vs:Ze} (h1:Ó K H p (us.map V.str)) (h2:Ó K H q (vs.map V.str)) (hs:p=q->us=vs):Þ K H 1 (.ref p) (.ref q) (decide (us=vs)):=by
 by_cases e:p=q
 ·have:=hs e;subst e this;rw[a9 rfl];exact .same rfl
 ·rw[←wY us vs];exact .tup _ e h1 h2 (Er us vs)
end
section
section
variable {prog:Zh}{w:Zi}{K:Type} [DecidableEq K] {knd:HeapKind prog w K}{A:Around}{E:Zq}{s:Zg}{d a:Addr}{xs:List (K×Addr×Value)}{k:K}
theorem zx {dflt:Value}{Q:Zq} (hu:knd.room A) (hkey:knd.is s.heap k a) (hm:s.heap.DictOfH knd d xs) (hsz:⇑xs<=sizeLine) (h1:∀ p,atKey xs k=some p->Q p.2 { s with toks:=s.toks+knd.draws k })
  (h2:atKey xs k=none->∀ h',h'.DictOfH knd d (storedH xs k a dflt)->Heap.SameBut d s.heap h'->Q dflt { s with heap:=h',toks:=s.toks+knd.draws k }):wpAny (model prog w) A (dictSetDefault d (.ref a) dflt) Q E s:=by
 obtain⟨o,es,ep,g1,g2,g3,g4,g5,g6⟩:=hm;unfold dictSetDefault
 try with_reducible refine cQ ?_
 refine ae (knd.pyHash hu hkey (ae (wpAny_dictFind_heap (s:={ s with toks:=s.toks+knd.draws k }) hu hkey g1 g3 g4 g5 g6 (fun hno=>?_) fun j p hj=>?_)))
 ·have nk:k∉xs.map (·.1):=not_mem_keys_of_get hno;have nw':=storedH_new (atKey_none_of_get hno) a dflt;have ez:=size_of_entries g4;refine ae (ij (ae (wpAny_updateDictKeys (hz:=⋯) (s:={ s with toks:=s.toks+knd.draws k }) g1 g3 (au (h2 (atKey_none_of_get hno) _ ⟨_,_,ep+1,hZ _ g1 (Obj.isFreed_of_dict (Obj.data_mapDictKeys g3 _)),g2.mapDictKeys _,Obj.data_mapDictKeys g3 _,?_,?_,?_⟩ (Heap.SameBut.update ..))))))
  ·rw[nw'];simp [g4,entryOfKey]
  ·rw[nw'];intro x hx;rcases bC.mp hx with z | z
   ·exact knd.keeps (g5 x z) g1 g3 (Heap.SameBut.update ..)
   ·rw[aS.mp z];exact knd.keeps hkey g1 g3 (Heap.SameBut.update ..)
  ·rw[nw',bD,nQ];refine⟨g6,by simp,fun x hx y hy z=>?_⟩;have hy':y=k:=by simpa using hy
   exact nk (hy' ▸ z ▸ hx)
 ·refine ae (wpAny_dictEntries (s:={ s with toks:=s.toks+knd.draws k }) g1 g3 ?_);rw[entry_at g4 j,hj];exact ae (ij (au (h1 _ (atKey_of_get g6 hj))))
theorem vm (hd:(d==sysModules)=false) (dflt:Value):MeetsIn prog w (Builtin.«dict.setdefault» ⟨[.ref d,.ref a,dflt],[]⟩) (fun A R s=>knd.room A.in1/\∃ k xs,knd.is s.heap k a/\s.heap.DictOfH knd d xs/\⇑xs<=sizeLine ∧
  (∀ p,atKey xs k=some p->R (.ok (.ret p.2)) { s with toks:=s.toks+knd.draws k })/\(atKey xs k=none->∀ h',h'.DictOfH knd d (storedH xs k a dflt)->Heap.SameBut d s.heap h'->R (.ok (.ret dflt)) { s with heap:=h',toks:=s.toks+knd.draws k })) :=
 .of_wp fun A R s ⟨hu,k,xs,hkey,hm,hz,h1,h2⟩=>by
  unfold Builtin.«dict.setdefault» Builtin.Dict.keyAndDefault;refine ae (ae (wpAny_notOrdered_dict hm.typeIs ?_));refine show wpAny _ _ (pure (d,Value.ref a,some dflt)) _ _ s from au ?_
  show wpAny _ _ (if (d==sysModules)=true then _ else (dictSetDefault d (.ref a) dflt >>= _)) _ _ s;rw[ai (fun z=>by rw[hd] at z;cases z)];exact ae (zx hu hkey hm hz (fun p hp=>au ⟨p.2,rfl,h1 p hp⟩) fun hn h' m' s'=>au ⟨dflt,rfl,h2 hn h' m' s'⟩)
end
def zh:V->List V->Hp->VK->Prop:=fun x vs H Q=>match x,vs with
 | .ref d,[.ref b,v]=>∃ kvs k,H d=some (.dT kvs)/\H b=some (.tup (k.map kV))/\⇑kvs<sizeLine/\(∀ u,eI kvs k=some u->Q u H)/\(eI kvs k=none->Q v (upd H d (.dT (putK kvs k v))))
 | _,_=>False
theorem yu {d b:Addr}{v:V}{H:Hp}{Q:VK}:zh (.ref d) [.ref b,v] H Q=(∃ kvs k,H d=some (.dT kvs)/\H b=some (.tup (k.map kV))/\⇑kvs<sizeLine/\(∀ u,eI kvs k=some u->Q u H)/\(eI kvs k=none->Q v (upd H d (.dT (putK kvs k v))))):=propext Iff.rfl
theorem AA (hu:X.A.units+1<cLine):í X "dict.setdefault" zh:=by
 intro Yp s σ H x vs v us Q I rx rv h;cases x<;>try exact h.elim
 rcases vs with _ | ⟨x0,t⟩
 ·exact h.elim
 cases x0<;>try exact h.elim
 rcases t with _ | ⟨dv,t⟩
 ·exact h.elim
 cases t<;>try exact h.elim
 next d b =>
  obtain⟨kvs,k,hd,hb,hz,q1,q2⟩:=h;cases rx;obtain⟨u1,u2,rfl,ry,rd⟩:=rv.two;cases ry;obtain⟨z,hs,xs,rel,dd⟩:=J6 I.hok hd;have hxl:⇑xs<=sizeLine:=by rw[←Paired.length rel];exact z
  refine call_meetsIn F.slot_dict_setdefault dd.typeIs F.entry_dict_setdefault (F.args_dict_setdefault_3 _ _ _) (vm (knd:=tupleKind (bj X.prog X.w)) hs u2) ⟨nY hu,k,xs,rD I.hok hb,dd,hxl,fun p hp=>?_,fun hn h' dd' hsb=>?_⟩
  ·cases hv:eI kvs k with
   | none =>have:=kl.none_of (o:=(atKey xs k).map (·.2)) (by rw[←hv];exact rel.val k);rw[hp] at this;cases this
   | some u =>obtain⟨w2,hw2,rw2⟩:=kl.some_of (v:=u) (o:=(atKey xs k).map (·.2)) (by rw[←hv];exact rel.val k);rw[hp] at hw2;cases hw2;exact⟨u,H,I.tok _,rw2,q1 u hv⟩
  ·cases hv:eI kvs k with
   | some u =>obtain⟨w2,hw2,rw2⟩:=kl.some_of (v:=u) (o:=(atKey xs k).map (·.2)) (by rw[←hv];exact rel.val k);rw[hn] at hw2;cases hw2
   | none =>
    have hl:⇑(putK kvs k dv)<=sizeLine:=by have:=jU kvs k dv;left
    obtain⟨q,es,ep,e1,e2,e3,e4,_,e5⟩:=dd';refine⟨dv,upd H d (.dT (putK kvs k dv)),wO I (by rw[hd];exact True.intro) hsb ⟨q,e1⟩ ⟨hl,hs,_,(rel.put k hb rd).keeps fun c ys ec=>?_,q,es,ep,e1,e2,e3,e4,e5⟩,rd,q2 hv⟩;rw[aN (gR ec hd (fun z=>nomatch z))];exact ec
theorem FE {js:Za}{σ:St}{te:TE}{Q:VK} (hx:Ã K H1 a xs) (hl:⇑xs<sizeLine) (g:Nat->V)
  (he:∀ (i:Nat) x,xs[i]?=some x->∀ H,aB H1 H->∀ R:VK,(∀ H',aB H H'->R (g i) H')->te (some (.int (i:Int))::some x::js.map fun j=>(σ[j]?).join) H R)
  (q:∀ D H,H1 D=none->aB H1 H->H D=some (.lst ((List.range ⇑xs).map g))->Q (.ref D) H):eK (Av K 2 (mx (eR 0) (mx (eR 1) Au))) xQ te (ip 2 js σ) (ù K a) H1 Q:=by
 intro D hD;refine⟨fun i m ys σ1 H=>m=⇑xs-i/\i<=⇑xs/\(∃ o1 o2,σ1=o1::o2::js.map fun j=>(σ[j]?).join)/\ys=(List.range i).map g/\aB H1 H/\H D=some (.lst ys),
  ⟨⇑xs,by simp,br _,⟨none,none,rfl⟩,by simp,(aB.refl H1).cf hD,aI⟩,?_⟩
 rintro i m ys σ1 H ⟨rfl,hi,⟨o1,o2,rfl⟩,rfl,sH,hL⟩;refine⟨hL,by rw[ak,bZ];left,?_⟩
 by_cases hlt:i<⇑xs
 ·have e:xs[i]?=some xs[i]:=aC hlt;refine .inr ⟨⟨xs,xs[i],sH.seq hx,e⟩,fun v H' hyl=>?_⟩;obtain⟨x,p,hx',rfl,hp,rfl⟩:=hyl;have ex:=hx' xs (sH.seq hx);have hpD:D≠p:=aW hL hp;refine⟨p,[.int (i:Int),x],rfl,Ó.of aI,rfl,.int (i:Int),[x],rfl,x,[],rfl,rfl,?_⟩;have s1:aB H1 (upd H p (.tup [.int (i:Int),x])):=sH.cf (sH.free hp);show xQ (some (.int (i:Int))::some x::js.map fun j=>(σ[j]?).join) _ _;refine he i x ex _ s1 _ fun H5 s5=>⟨s5 _ _ (by rw[aN hpD];exact hL),⇑xs-(i+1),⋯,rfl,hlt,⟨_,_,rfl⟩,?_,(s1.trans s5).cf hD,aI⟩;rw[lC,bD];rfl
 ·have e:i=⇑xs:=⋯
  subst e;exact .inl ⟨⟨xs,sH.seq hx,aw _⟩,q D H hD sH hL⟩
end
section
section
variable {X:Cx}
end
section
variable {prog:Zh}{w:Zi}{A:Around}{E:Zq}{s:Zg}
end
section
variable {X:Cx}
end
end
section
structure C7 (K:Zf) (x qual:Str) (st:Stmt) (f:Addr) (fd:FuncData):Prop where
 ex:∃ (oc:Value) (od:Option Addr) (dV kV doc pm:Value) (an:Option Addr) (cdv ct:Value) (osl:Array (Option Value)),
  fd=PySem.W.fnOf x qual (cS st) (cn st) (ax st) dV kV doc pm an cdv ct/\K.lookup f=some ⟨oc,od,.func fd,osl⟩/\PySem.W.codeIn K cdv qual=true
 kp:PySem.W.keepIn K (.ref f)=true
section
variable {P:Zh}{w:Zi}{K:Zf}{mg:Zk}{base:Heap}
theorem Ip {x qual:Str}{oc:Value}{od an:Option Addr}{osl:Array (Option Value)}{dV kV doc pm cdv ct:Value} (l:K.lookup f=some ⟨oc,od,.func (PySem.W.fnOf x qual (cS st) (cn st) (ax st) dV kV doc pm an cdv ct),osl⟩)
  (c:PySem.W.codeIn K cdv qual=true) (k:PySem.W.keepIn K (.ref f)=true):C7 K x qual st f (PySem.W.fnOf x qual (cS st) (cn st) (ax st) dV kV doc pm an cdv ct):=⟨⟨oc,od,dV,kV,doc,pm,an,cdv,ct,osl,rfl,l,c⟩,k⟩
theorem C7.â {x qual:Str}{N ps:Ze}{k:Nat} (F:C7 K x qual st f fd) (S:aJ N ps (ax st)) (len:∀ vs H Q E,sp vs H Q E->⇑vs=⇑ps)
  (hbody:∀ (cdv:Value) (A:Around) (outer:List Env) (s:Zg) (H:Hp) (vs:List V) (Q:VK) (E:XK),cU k (A.deeper (envOfC qual (ax st) s.heap.objs.size f cdv))->sp vs H Q E →
   ∃ t,Ù (oH (Á P w) P w K mg base N qual (ax st) f cdv A outer s H E) (cn st) t/\t { nx:=fun _ H'=>Q .non H',rt:=Q } (start N vs) H):bF P w K mg base (Á P w) (k+1) f fd ps sp:=by
 obtain⟨oc,od,dV,kV,doc,pm,an,cdv,ct,osl,rfl,lk,hcd⟩:=F.ex;exact yw lk hcd S len fun A outer s H vs Q E hr hsp=>hbody cdv A outer s H vs Q E hr hsp
theorem C7.õ {x qual:Str}{f c:Addr}{N ps:Ze}{k:Nat} (F:C7 K x qual st f fd) (hc:fd.code=.ref c) (S:aJ N ps (ax st)) (len:∀ vs H Q E,sp vs H Q E->⇑vs=⇑ps)
  (hbody:∀ (A:Around) (outer:List Env) (s:Zg) (H:Hp) (vs:List V) (Q:VK) (E:XK),cU k (A.deeper (envOfC qual (ax st) s.heap.objs.size f (.ref c)))->sp vs H Q E →
   ∃ t,Ù (oH (Á P w) P w K mg base N qual (ax st) f (.ref c) A outer s H E) (cn st) t/\t { nx:=fun _ H'=>Q .non H',rt:=Q } (start N vs) H):bF P w K mg base (Á P w) (k+1) f fd ps sp:=by
 obtain⟨oc,od,dV,kV,doc,pm,an,cdv,ct,osl,rfl,lk,hcd⟩:=F.ex;have e:cdv=.ref c:=hc;subst e;exact yw lk hcd S len fun A outer s H vs Q E hr hsp=>hbody A outer s H vs Q E hr hsp
end
structure MP (P:Zh) (w:Zi) (K:Zf) (mg:Zk) (base:Heap) (CX:Ï) (C:Addr) (m:Str) (k:Nat) (ps:Ze) (sp:Sp):Prop where
 ex:∃ (f:Addr) (fd:FuncData),bF P w K mg base CX k f fd ps sp/\Meth K C m f/\Binds K fd ps [.none]
 cl:Ý K C
section
variable {X:Cx}{CX:Ï}{E:St->XK}
end
section
variable {X:Cx}{Yp:Zp}{σ:St}{H:Hp}{s:Zg}
noncomputable abbrev ub (q:Str) (params:Arguments) (body:Expr) (scope:Scope) (cl:List (Str×Addr)) (pm cd ctv:Value):Obj :=
 { cls:=.type "function",data:=.func (PySem.W.kla_fn "<lambda>" q params body scope cl pm cd ctv) }
theorem vV {A:Around}{E:Zq}{Q:Zq}{P c:Addr}{params:Arguments}{body:Expr}{scope:Scope}{lpos:Pos}{cl:List (Str×Addr)} (I:Inv X Yp σ H s) (e:H P=some (il q))
  (hcd:X.env.code=.ref c) (hC:PySem.W.codeHdIn X.K c P=true) (hq:X.env.qual++"<lambda>"=q) (hd:defaultsOf params X.env=([],[])) (hcl:Ö X.env.cells scope.names []=some cl)
  (k:∀ f c' ctv H' s',Inv X Yp σ H' s'->aB H H'->H f=none->H' f=some (.frz (ub q params body scope cl ((X.mg "__name__").getD .none) (.ref c') ctv) (.own P))->oR H' P q c'->Q (.ref f) s') :
  wpAny (model X.prog X.w) A (eval (.Lambda params body scope lpos) X.env) Q E s:=by
 refine PySem.W.kla_eval hd ?_;rw[hq];have C:=PySem.W.codeHd_of_K I.Ô hC;obtain⟨qs,g1,g2,g3⟩:=tab_of I e;have hg:=I.mod.glob.keeps I.bk;obtain⟨bm,ob,b1,b2,b3,b4,b5,b6⟩:=I.mod.bmn;have hgP:mainGlobals≠P:=fun z=>by obtain⟨o,es,ep,w1,w2,_⟩:=I.mod.glob;have:=(I.bs _ _ w1).2;rw[z,e] at this;cases this
 have hbP:bm≠P:=fun z=>by have:=(I.bs _ _ b3).2;rw[z,e] at this;cases this
 have hbG:bm≠mainGlobals:=fun z=>by obtain⟨o,es,ep,w1,w2,_⟩:=I.mod.glob;rw[z,w1] at b3;cases b3;rw[w2] at b6;cases b6
 have hb:s.heap.BuiltinsAt X.mg P:=⟨bm,ob,b1,b2,hbG,hbP,I.bk _ _ b3,b4,b5,b6⟩;have hcl':=jk hcl;cases hf:codeAmong lpos qs.toList with
 | none =>refine PySem.W.kla_makeFunction (mg:=X.mg) hcl' I.ok.glob hg hcd C g1 g2 hf hgP hb fun c' ctv h' tk hx hge hlt hrec htb=>?_;obtain⟨c2,oc,vs,t,z1,z2,z3,z4⟩:=id hrec;cases z1;have I1:Inv X Yp σ (upd H c' (.frz oc (.own P))) { s with heap:=h',toks:=tk }:=I.tabled (ps:=qs) e (fun b o hb z=>hx b o hb z) hge htb (by simpa using TriplesOk_snoc _ _ _ _ g2) (fun pos x z=>zH qs.toList g2 x (by simpa using z)) g1 z2 z3 z4;have hn:=I.hok.fresh hge;have kp:∀ b o,h'.get? b=some o->(h'.push (PySem.W.kla_obj "<lambda>" q params body scope cl ((X.mg "__name__").getD .none) c' ctv)).get? b=some o:=fun b o z=>aL _ z;have hf1:=I1.hok.fresh (aw h'.objs.size);have hfH:H h'.objs.size=none:=I.hok.fresh (aT (eE hge hlt));refine k h'.objs.size c' ctv _ _ (I1.laid (a:=h'.objs.size) (o:=.frz (ub q params body scope cl ((X.mg "__name__").getD .none) (.ref c') ctv) (.own P)) (t':=tk) kp (aw _) ⟨bo _ rfl,_,bo _ rfl⟩) ((eT hn).trans (eT hf1)) hfH aI ?_;exact oR.same ⟨oc,vs,t,aI,z3,z4⟩ (eT hf1)
 | some cv =>obtain⟨c',oc,vs,t,a1,a2,a3,a4,a5⟩:=g3 lpos cv hf;subst a1;refine PySem.W.kla_makeFunctionHit (mg:=X.mg) hcl' I.ok.glob hg hcd C g1 g2 hf hb fun ctv h' tk hx hsz=>?_;have kp:∀ b o,s.heap.get? b=some o->(h'.push { cls:=.type "function",data:=.func (PySem.W.kla_fn "<lambda>" q params body scope cl ((X.mg "__name__").getD .none) (.ref c') ctv) }).get? b=some o:=fun b o z=>aL _ (hx b o z);have hf1:=I.hok.fresh hsz;refine k h'.objs.size c' ctv _ _ (I.laid (a:=h'.objs.size) (o:=.frz (ub q params body scope cl ((X.mg "__name__").getD .none) (.ref c') ctv) (.own P)) (t':=tk) kp hsz ⟨bo _ rfl,_,bo _ rfl⟩) (eT hf1) hf1 aI ?_;exact oR.same ⟨oc,vs,t,a2,a4,a5⟩ (eT hf1)
def rq (q:Str) (Pt:Addr) (H:Hp) (f:Addr):Prop:=∃ (pm ctv:Value) (c':Addr) (params:Arguments) (scope:Scope) (x:Str) (j:Nat) (p:Pos),
 H f=some (.frz (ub q params (.Constant (.bool false) j p) scope [] pm (.ref c') ctv) (.own Pt))/\oR H Pt q c' ∧
 (∀ u:Value,bindArgs (PySem.W.kla_fn "<lambda>" q params (.Constant (.bool false) j p) scope [] pm (.ref c') ctv) ⟨[u],[]⟩=pure [(x,u)]) ∧
 scope.isCoroutine=false/\scope.isGenerator=false/\scope.kind=.function/\(∀ y∈scope.names,y.2≠.cell)/\scope.names.lookup x=some .local
theorem rq.same {q:Str}{Pt f:Addr}{H H':Hp} (h:rq q Pt H f) (s:aB H H'):rq q Pt H' f:=by obtain⟨pm,ctv,c',params,scope,x,j,p,h1,h2,h3⟩:=h;exact⟨pm,ctv,c',params,scope,x,j,p,s _ _ h1,h2.same s,h3⟩
theorem EJ {R:Zq}{E:Zq}{Pt f:Addr}{u:Value} (I:Inv X Yp σ H s) (hr:A.depth<recursionLimit) (B:rq q Pt H f) (k:∀ s',Inv X Yp σ H s'->R (.bool false) s') :
  wpAny (model X.prog X.w) A (call (.ref f) [u]) R E s:=by
 obtain⟨pm,ctv,c',params,scope,x,j,p,hf,hc,hbind,hco,hgen,hk,hcell,hx⟩:=B;have hf':=(I.hok f _ hf).1;refine wpAny_call (PySem.W.kla_callFunE hr hf' rfl hco hgen rfl (hc.rec I) ?_);rw[hbind];refine au (wpAny_newFunctionEnv hcell (fun y hy=>by rw[aS.mp hy];exact hx) (fun h₁ hns hsb=>⟨(I.nolimit).fresh _ hsb,?_⟩) hk);show codeAny _ _ (.expr _ (PySem.W.envX q scope s.heap.objs.size f (.ref c') [])) _ _;have k1:∀ b o,s.heap.get? b=some o->h₁.get? b=some o:=fun b o z=>hsb.extBut b o (bw (aQ z)) (aL _ z);have I1:Inv X Yp σ H { s with heap:=h₁,toks:=s.toks+1 }:=I.kept (t':=s.toks+1) k1;refine PySem.W.kla_codeExpr ?_;exact Constant_bool (k _ I1)
end
def JO (q:Str) (Pt:Addr):TE:=fun _ H Q=>H Pt=some (il q)/\∀ f H',H f=none->aB H H'->rq q Pt H' f->Q (.ref f) H'
theorem HD {q:Str}{Pt:Addr}{σ:St}{H:Hp}{Q:VK}:JO q Pt σ H Q=(H Pt=some (il q)/\∀ f H',H f=none->aB H H'->rq q Pt H' f->Q (.ref f) H'):=propext Iff.rfl
def GW (q:Str) (Pt:Addr) (tv:TE) (t:TA):TE:=fun σ H Q=>tv σ H fun x H1=>∃ f,x=.ref f/\rq q Pt H1 f/\t σ H1 fun vs H2=>rq q Pt H2 f/\⇑vs=1/\Q (.bl false) H2
theorem E7 {q:Str}{Pt:Addr}{tv:TE}{t:TA}{σ:St}{H:Hp}{Q:VK}:GW q Pt tv t σ H Q=tv σ H fun x H1=>∃ f,x=.ref f/\rq q Pt H1 f/\t σ H1 fun vs H2=>rq q Pt H2 f/\⇑vs=1/\Q (.bl false) H2:=propext Iff.rfl
section
variable {X:Cx}
theorem IW {Pt c:Addr}{q x:Str}{params:Arguments}{j:Nat}{p lpos:Pos} (hcd:X.env.code=.ref c) (hC:PySem.W.codeHdIn X.K c Pt=true) (hq:X.env.qual++"<lambda>"=q) (hcl:Ö X.env.cells scope.names []=some [])
  (hx:scope.names.lookup x=some .local)
  (hbind:∀ (pm ctv:Value) (c':Addr) (u:Value),bindArgs (PySem.W.kla_fn "<lambda>" q params (.Constant (.bool false) j p) scope [] pm (.ref c') ctv) ⟨[u],[]⟩=pure [(x,u)])
  (hd:defaultsOf params X.env=([],[]):=by rfl)
  (hco:scope.isCoroutine=false:=by rfl) (hgen:scope.isGenerator=false:=by rfl) (hk:scope.kind=.function:=by rfl) (hcell:∀ y∈scope.names,y.2≠.cell:=by nofun) :
  PE X (.Lambda params (.Constant (.bool false) j p) scope lpos) (JO q Pt):=by
 intro Yp s σ H Q I h;obtain⟨h1,h2⟩:=h;exact vV I h1 hcd hC hq hd hcl fun f c' ctv H' s' I' sm hn hf hc=>⟨.ref f,H',I',rfl,h2 f H' hn sm ⟨_,ctv,c',params,scope,x,j,p,hf,hc,fun u=>hbind _ _ _ u,hco,hgen,hk,hcell,hx⟩⟩
theorem uD {Pt:Addr}{q x:Str}{t:TA}{p pos:Pos}{k:Nat} (hv:PE X (.Name x p) tv) (hr:cU k X.A) (ha:PA X [e] t) (hs:eh [e]=true:=by ext):PE X (.Call (.Name x p) [e] [] pos) (GW q Pt tv t):=by
 intro Yp s σ H Q I h;refine jM (Â (hv Yp s σ H _ I h) fun u s1 ⟨v,H1,I1,r,f,ev,B1,q1⟩=>?_);subst ev;cases r;have fnA:∀ {H:Hp}{s:Zg},Inv X Yp σ H s->rq q Pt H f->PySem.W.FnAt f s.heap:=fun I B=>by obtain⟨pm,ctv,c',params,scope,x,j,p,hf,_⟩:=B;exact⟨_,_,_,_,(I.hok f _ hf).1⟩
 refine PySem.W.callWith_F (fnA I1 B1) (Â (ha pos Yp s1 σ H1 _ I1 q1) fun us s2 ⟨vs,H2,I2,r2,B2,l2,q2⟩=>⟨fnA I2 B2,?_⟩) (aP (b9 hs).1) (dA (b9 hs).2);obtain⟨u,rfl⟩:∃ u,us=[u]:=by have:=⇑r2;rw[l2] at this;exact List.length_eq_one_iff.mp this.symm
 exact EJ I2 hr.depth B2 fun s3 I3=>⟨.bl false,H2,I3,rfl,q2⟩
end
def Gv:List V->Hp->VK->Prop:=fun vs H Q=>match vs with
 | [.ref a]=>∃ kvs,Rd H a (.dK kvs)/\Q (.int ⇑kvs) H
 | _=>False
theorem Ff {a:Addr}{H:Hp}{Q:VK}:Gv [.ref a] H Q=(∃ kvs,Rd H a (.dK kvs)/\Q (.int ⇑kvs) H):=propext Iff.rfl
theorem CL :dy X (.builtin "len") Gv:=by
 intro Yp s σ H xs us Q I r h;rcases xs with _ | ⟨x0,t⟩
 ·exact h.elim
 cases x0<;>try exact h.elim
 cases t<;>try exact h.elim
 next a =>obtain⟨kvs,ha,q⟩:=h;obtain⟨u,rfl,r2⟩:=vals1 r;cases r2;exact LQ I ha fun t s' I'=>⟨.int ⇑kvs,H,I',⟨t,rfl⟩,q⟩
section
variable {prog:Zh}{w:Zi}{A:Around}{E:Zq}{s:Zg}
end
end
section
theorem Fo {a b:Addr}{xs ys:List V}{g:TG}{tb:TS}{D:Ends} (Pv:Nat->St->Hp->Prop) (hl:⇑ys=⇑xs) (h0:Pv 0 σ H) (hx:∀ i σ H,Pv i σ H->Ã K H a xs/\Ã K H b ys)
  (hs:∀ i x y p σ H,xs[i]?=some x->ys[i]?=some y->H p=none->Pv i σ H->∀ N:St->Hp->Prop,(∀ σ' H',Pv (i+1) σ' H'->N σ' H')->g (.ref p) σ (upd H p (.tup [x,y])) fun σ2 H2=>tb { D with nx:=N,ct:=N,bk:=D.nx } σ2 H2) (hd:∀ σ H,Pv ⇑xs σ H->D.nx σ H):gK g tb D (ó K a b) σ H:=by
 refine⟨fun i m σ H=>i+m=⇑xs/\Pv i σ H,⟨⇑xs,⋯,h0⟩,fun i m σ H hw=>?_⟩;obtain⟨e,hp⟩:=hw;obtain⟨hxa,hyb⟩:=hx i σ H hp
 by_cases hm:m=0
 ·subst hm;have:i=⇑xs:=⋯
  subst this;exact .inl ⟨⟨xs,ys,hxa,hyb,.inl (aw _)⟩,hd σ H hp⟩
 ·refine .inr ⟨⟨xs,ys,xs[i]'⋯,ys[i]'⋯,hxa,hyb,aC _,aC _⟩,Pv (i+1),fun σ' H' n=>⟨m-1,⋯,⋯,n⟩,fun v H' hyl=>?_⟩;obtain⟨x,y,p,hx',hy',rfl,hp',rfl⟩:=hyl;exact hs i x y p σ H (hx' xs hxa) (hy' ys hyb) hp' hp _ fun _ _ h=>h
theorem IC {a b:Addr}{xs ys:List V}{js:Za}{σ:St}{tc:TT}{te:TE}{Q:VK} (hx:Ã K H1 a xs) (hy:Ã K H1 b ys) (hl:⇑xs<sizeLine) (hll:⇑ys=⇑xs) (g:Nat->V) (pr:Nat->Bool)
  (hc:∀ (i:Nat) x y,xs[i]?=some x->ys[i]?=some y->∀ H,aB H1 H->∀ R:Bool->Hp->Prop,(∀ H',aB H H'->R (pr i) H')->tc (some x::some y::js.map fun j=>(σ[j]?).join) H R)
  (he:∀ (i:Nat) x y,xs[i]?=some x->ys[i]?=some y->pr i=true->∀ H,aB H1 H->∀ R:VK,(∀ H',aB H H'->R (g i) H')->te (some x::some y::js.map fun j=>(σ[j]?).join) H R)
  (q:∀ D H,H1 D=none->aB H1 H->H D=some (.lst (((List.range ⇑xs).filter pr).map g))->Q (.ref D) H):eK (Av K 2 (mx (eR 0) (mx (eR 1) Au))) tc te (ip 2 js σ) (ó K a b) H1 Q:=by
 intro D hD;refine⟨fun i m zs σ1 H=>m=⇑xs-i/\i<=⇑xs/\(∃ o1 o2,σ1=o1::o2::js.map fun j=>(σ[j]?).join)/\zs=((List.range i).filter pr).map g/\aB H1 H/\H D=some (.lst zs),
  ⟨⇑xs,by simp,br _,⟨none,none,rfl⟩,by simp,(aB.refl H1).cf hD,aI⟩,?_⟩
 rintro i m zs σ1 H ⟨rfl,hi,⟨o1,o2,rfl⟩,rfl,sH,hL⟩;have hyl:⇑(((List.range i).filter pr).map g)<=i:=by
  rw[ak];have:=ly pr (List.range i)
  rwa [bZ] at this
 refine⟨hL,⋯,?_⟩
 by_cases hlt:i<⇑xs
 ·refine .inr ⟨⟨xs,ys,xs[i],ys[i]'⋯,sH.seq hx,sH.seq hy,aC _,aC _⟩,fun v H' hyl=>?_⟩;obtain⟨x,y,p,hx',hy',rfl,hp,rfl⟩:=hyl;have ex:=hx' xs (sH.seq hx);have ey:=hy' ys (sH.seq hy);have hpD:D≠p:=aW hL hp;refine⟨p,[x,y],rfl,Ó.of aI,rfl,x,[y],rfl,y,[],rfl,rfl,?_⟩;show tc (some x::some y::js.map fun j=>(σ[j]?).join) _ _;have s1:aB H1 (upd H p (.tup [x,y])):=sH.cf (sH.free hp);refine hc i x y ex ey _ s1 _ fun H4 s4=>?_;have hL4:H4 D=some (.lst (((List.range i).filter pr).map g)):=s4 _ _ (by rw[aN hpD];exact hL);have rs:List.range (i+1)=List.range i++[i]:=lC;cases hpr:pr i with
  | false =>rw[ai bP];exact⟨⇑xs-(i+1),⋯,rfl,hlt,⟨_,_,rfl⟩,by rw[rs,jE];simp [hpr],s1.trans s4,hL4⟩
  | true =>rw[aq rfl];refine he i x y ex ey hpr H4 (s1.trans s4) _ fun H5 s5=>⟨s5 _ _ hL4,⇑xs-(i+1),⋯,rfl,hlt,⟨_,_,rfl⟩,?_,((s1.trans s4).trans s5).cf hD,aI⟩;rw[rs,jE];simp [hpr]
 ·have e:i=⇑xs:=⋯
  subst e;exact .inl ⟨⟨xs,ys,sH.seq hx,sH.seq hy,.inl (aw _)⟩,q D H hD sH hL⟩
section
variable {prog:Zh}{w:Zi}{A:Around}{E:Zq}{s:Zg}
end
section
variable {X:Cx}
end
end
section
end
section
def tNo:TS:=fun _ _ _=>False
theorem zg :PS X st tNo:=fun _ _ _ _ _ _ h=>h.elim
noncomputable def ñ (p d:Addr):HO:=.ext fun h=>h.IsValuesView p d
theorem L4 {p d:Addr} (x:h.IsValuesView p d):bX P w H h p (ñ p d):=by
 refine⟨x,?_,fun h1 h2 y k=>?_⟩
 ·obtain⟨o,e,_⟩:=x;exact⟨o,e⟩
 ·obtain⟨o,e,r⟩:=y;exact⟨o,k o e,r⟩
noncomputable def IP {κ:Type} [DecidableEq κ] (kvs:List (κ×V)) (k:κ):List (κ×V):=kvs.filter fun q=>decide (q.1≠k)
theorem KV.out {xs:List (Key×Value)} (r:KV kvs xs) (k:Key):KV (IP kvs k) (without xs k):=by
 induction r with
 | nil=>exact .nil
 | @cons a b l₁ l₂ f t ih =>
  obtain⟨e,rv⟩:=f;unfold IP without at *
  by_cases h:a.1=k
  ·rw[nK (by simp [h]),nK (by simp [←e,h])];exact ih
  ·rw[nL (by simp [h]),nL (by simp [←e,h])];exact .cons ⟨e,rv⟩ ih
section
variable {prog:Zh}{w:Zi}{K:Type} [DecidableEq K] {knd:HeapKind prog w K}{A:Around}{E:Zq}{s:Zg}{d a:Addr}{xs:List (K×Addr×Value)}{k:K}
noncomputable def Mi (xs:List (K×Addr×Value)) (k:K):List (K×Addr×Value):=xs.filter fun q=>decide (q.1≠k)
end
theorem KT.out {kvs:List (List Key×V)}{xs:List (List Key×Addr×Value)} (r:KT H kvs xs) (k:List Key):KT H (IP kvs k) (Mi xs k):=by
 unfold KT at *
 induction r with
 | nil=>exact .nil
 | @cons a b l₁ l₂ f t ih =>
  have e:a.1=b.1:=f.1;unfold IP Mi at *
  by_cases h:a.1=k
  ·rw[nK (by simp [h]),nK (by simp [←e,h])];exact ih
  ·rw[nL (by simp [h]),nL (by simp [←e,h])];exact .cons f ih
end
section
section
variable {prog:Zh}{w:Zi}{A:Around}{E:Zq}{s:Zg}
end
section
variable {X:Cx}
end
end
section
def þ (H H':Hp) (h h':Heap):Prop:=∃ fs,Un fs [] H H' h h'
theorem Un.JV {fs fs':List Addr}{H H':Hp}{h h':Heap} (u:Un fs [] H H' h h') (hs:∀ b∈fs,b∈fs'):Un fs' [] H H' h h' where
 keep:=fun b o e n hb he=>u.keep b o e n (fun z=>hb (hs b z)) he
 slot:=fun b o e n _ he=>u.any e n he
 free:=u.free
 there:=u.there
 tups:=u.tups
 frzs:=u.frzs
 tbls:=u.tbls
theorem þ.trans {H H1 H2:Hp}{h h1 h2:Heap} (a:þ H H1 h h1) (b:þ H1 H2 h1 h2):þ H H2 h h2:=by obtain⟨f,a⟩:=a;obtain⟨g,b⟩:=b;exact⟨f++g,(a.JV fun x hx=>lB _ hx).trans (b.JV fun x hx=>eD _ hx)⟩
def jP (H:Hp) (f:Addr):Prop:=∃ (q:Str) (params:Arguments) (body:Expr) (scope:Scope) (cl:List (Str×Addr)) (pm cd ctv:Value) (u:HO),H f=some (.frz (ub q params body scope cl pm cd ctv) u)
theorem jP.same {H H':Hp} (h:jP H f) (s:aB H H'):jP H' f:=by obtain⟨q,a,b,c,d,e,g,i,u,h⟩:=h;exact⟨q,a,b,c,d,e,g,i,u,s _ _ h⟩
theorem jP.fn (I:Inv X Yp σ H s) (h:jP H f):PySem.W.FnAt f s.heap:=by obtain⟨q,a,b,c,d,e,g,i,u,h⟩:=h;exact⟨_,_,_,_,(I.hok f _ h).1⟩
abbrev XF:XK:=fun _ _ _=>False
section
variable {P:Zh}{w:Zi}{K:Zf}{mg:Zk}{base:Heap}
def tH (P:Zh) (w:Zi) (K:Zf) (mg:Zk) (base:Heap) (k n:Nat) (f:Addr) (sp:Sp) (s₀:Zg) (H₀:Hp):Prop :=
 ∀ (A:Around) (outer:List Env) (s:Zg) (H:Hp) (us:Zc) (vs:List V) (Q:VK),cU k A->rz P w K mg base A outer s H->þ H₀ H s₀.heap s.heap->Vals vs us->⇑vs=n->sp vs H Q XF →
  codeAny (model P w) A (.call (.ref f) ⟨us,[]⟩) (CR (Á P w) outer P w H s Q XF) s
structure B3 (P:Zh) (w:Zi) (K:Zf) (mg:Zk) (base:Heap) (CX:Ï) (k:Nat) (f:Addr) (fd:FuncData) (ps:Ze) (sp:Zg->Sp):Prop where
 len:∀ s vs H Q E,sp s vs H Q E->⇑vs=⇑ps
 run:∀ (A:Around) (outer:List Env) (s:Zg) (H:Hp) (args:Args) (us:Zc) (vs:List V) (Q:VK) (E:XK),cU k A->rz P w K mg base A outer s H->BindsTo s fd args (ps.zip us)->Vals vs us->sp s vs H Q E →
  codeAny (model P w) A (.call (.ref f) args) (CR CX outer P w H s Q E) s
end
theorem Kv {CX:Ï}{P:Zh}{w:Zi}{K:Zf}{mg:Zk}{base:Heap}{k:Nat}{f:Addr}{name qual:Str}{params:Arguments}{body:List Stmt}{scope:Scope}{dV kV doc pm cdv ct oc:Value}{an od:Option Addr}
  {osl:Array (Option Value)}{N ps:Ze}{sp:Zg->Sp} (lk:K.lookup f=some ⟨oc,od,.func (PySem.W.fnOf name qual params body scope dV kV doc pm an cdv ct),osl⟩) (hcd:PySem.W.codeIn K cdv qual=true) (S:aJ N ps scope)
  (len:∀ s vs H Q E,sp s vs H Q E->⇑vs=⇑ps)
  (hbody:∀ (A:Around) (outer:List Env) (s:Zg) (H:Hp) (vs:List V) (Q:VK) (E:XK),cU k (A.deeper (envOfC qual scope s.heap.objs.size f cdv))->sp s vs H Q E →
   ∃ t,Ù (oH CX P w K mg base N qual scope f cdv A outer s H E) body t/\t { nx:=fun _ H'=>Q .non H',rt:=Q } (start N vs) H) :
  B3 P w K mg base CX (k+1) f (PySem.W.fnOf name qual params body scope dV kV doc pm an cdv ct) ps sp:=by
 refine⟨len,fun A outer s H args us vs Q E hr e0 hb r hsp=>?_⟩;have hl:=len _ _ _ _ _ hsp;have KX:K.In s.heap:=e0.mod.kin.keeps fun b o e=>(e0.bs b o e).1;have lim:s.heap.NoLimit:=e0.mod.nolimit.keeps fun b o e=>(e0.bs b o e).1;have hkind:∀ y∈ps.zip us,scope.names.lookup y.1=some .local∨(scope.names.lookup y.1=some .cell/\((cellsFrom (s.heap.objs.size+1) scope.names []).lookup y.1).isSome=true):=fun ⟨n,v⟩ hy=>by
  rcases S.par n (jG hy).1 with q | q
  ·exact .inl q
  ·exact .inr ⟨q,PySem.W.cellsFrom_some _ _ _ (.inl q)⟩
 refine codeAny_call_function hr.depth (KX _ _ lk) rfl S.co S.gen rfl (PySem.W.codeRec_of KX hcd) (hb _ _ _ _ ?_);refine wpAny_newFunctionEnv_cells S.kind hkind fun env he s1 x=>?_;subst he;refine⟨lim.keeps x.toInCall.keep,codeAny_func ?_⟩;obtain⟨t,ht,hq⟩:=hbody A outer s H vs Q E (hr.deeper _) hsp;have I:Inv (oH CX P w K mg base N qual scope f cdv A outer s H E) [] (start N vs) H s1:=vQ S hr.hd e0 hl r x;refine cu (ht [] s1 (start N vs) H _ I hq) (fun fl s' hs=>?_) fun e s' hs=>hs;have fin:∀ {σ':St}{H':Hp}{v:V}{u:Value},Inv (oH CX P w K mg base N qual scope f cdv A outer s H E) [] σ' H' s'->RelV v u->Q v H'->CE outer P w H s Q u s' :=
  fun {σ' H' v u} J rv q=>⟨v,H',J.os,J.bare,J.base,J.hok,rv,q⟩
 cases fl with
 | ret u =>obtain⟨v,σ',H',J,rv,q⟩:=hs;exact fin J rv q
 | next =>obtain⟨σ',H',J,q⟩:=hs;exact fin (v:=V.non) (u:=Value.none) J rfl q
 | brk =>obtain⟨_,_,_,q⟩:=hs;exact False.elim q
 | cont =>obtain⟨_,_,_,q⟩:=hs;exact False.elim q
noncomputable def BF (P:Zh) (w:Zi) (K:Zf) (mg:Zk) (base:Heap) (N:Ze) (q:Str) (scope:Scope) (f:Addr) (cd:Value) (cl:List (Str×Addr)) (A:Around) (outer:List Env) (s:Zg) (H:Hp):Cx where
 prog:=P
 w:=w
 K:=K
 mg:=mg
 base:=base
 A:=A.deeper (PySem.W.envX q scope s.heap.objs.size f cd cl)
 N:=N
 s₀:=s
 H₀:=H
 env:=PySem.W.envX q scope s.heap.objs.size f cd cl
 outer:=outer
 stack:=PySem.W.envX q scope s.heap.objs.size f cd cl::outer
 ex:=[]
 calm:=true
 fn:=fun _=>false
 pn:=[]
 xe:=fun _ _=>False
theorem vW {x:Str}{u:Value}:∀ {l:List (Str×Value)},(l.map (·.1)).Nodup->(x,u)∈l->l.lookup x=some u
 | [],_,h=>by cases h
 | (y,v)::l,hn,h=>by
  rw[dR];rcases aY.mp h with e | e
  ·cases e
   simp
  ·have hne:x≠y:=fun z=>(dD.mp hn).1 (by rw[←z];exact aO.mpr ⟨_,e,rfl⟩);rw[show (x==y)=false by simpa using hne];exact vW (dD.mp hn).2 e
theorem IsCell.on {H H':Hp}{h h':Heap}{c:Addr}{v:Option Value} (u:þ H H' h h') (n:H c=none) (e:h.IsCell c v):h'.IsCell c v:=by obtain⟨fs,u⟩:=u;obtain⟨o,e1,e2⟩:=e;obtain⟨sl,z⟩:=u.any e1 n (by simp);exact⟨_,z,e2⟩
def Hn (X:Cx) (scope:Scope) (fr:Ze) (js:Za):Prop:=Paired (fun (x:Str) (j:Nat)=>X.N[j]?=some x/\ă X.env.scope x/\scope.names.lookup x=some .free/\(x,NameKind.free)∈scope.names/\X.env.kindOf x=some .cell) fr js
noncomputable abbrev xY (js:Za) (σ:St):St:=js.map fun j=>σ[j]?.join
theorem BB {X:Cx}{scope:Scope}:∀ {fr:Ze}{js:Za},Hn X scope fr js->∀ {i:Nat}{x:Str},fr[i]?=some x->∃ j,js[i]?=some j/\X.N[j]?=some x/\ă X.env.scope x/\scope.names.lookup x=some .free/\(x,NameKind.free)∈scope.names/\X.env.kindOf x=some .cell
 | _,_,.nil,i,x,e=>by simp at e
 | _,_,.cons h r,0,x,e=>by simp at e;subst e;exact⟨_,rfl,h⟩
 | _,_,.cons h r,i+1,x,e=>BB r (by simpa using e)
theorem xZ {X:Cx}{scope:Scope}:∀ {fr:Ze}{js:Za},Hn X scope fr js->⇑fr=⇑js
 | _,_,.nil=>rfl
 | _,_,.cons h r=>bQ (·+1) (xZ r)
theorem FD {X:Cx}{Yp:Zp}{σ:St}{H:Hp}{s:Zg}{ps fr:Ze}{js:Za}{q:Str}{params:Arguments}{body:Expr}{scope:Scope}{cl:List (Str×Addr)}{pm ctv:Value}{c' Pt f:Addr}{te:TE}{k:Nat}
  (I:Inv X Yp σ H s) (hf:H f=some (.frz (ub q params body scope cl pm (.ref c') ctv) (.own Pt))) (hc:oR H Pt q c') (hcl:Ö X.env.cells scope.names []=some cl)
  (hbind:∀ us:Zc,⇑us=⇑ps->bindArgs (PySem.W.kla_fn "<lambda>" q params body scope cl pm (.ref c') ctv) ⟨us,[]⟩=pure (ps.zip us))
  (hco:scope.isCoroutine=false) (hgen:scope.isGenerator=false) (hk:scope.kind=.function) (hcell:∀ y∈scope.names,y.2≠.cell) (hps:∀ x∈ps,scope.names.lookup x=some .local) (hnd:ps.Nodup) (hcap:Hn X scope fr js)
  (hbody:∀ (A:Around) (outer:List Env) (s:Zg) (H:Hp),cU k (A.deeper (PySem.W.envX q scope s.heap.objs.size f (.ref c') cl))->PE (BF X.prog X.w X.K X.mg X.base (ps++fr) q scope f (.ref c') cl A outer s H) body te) :
  tH X.prog X.w X.K X.mg X.base (k+1) ⇑ps f (fun vs H Q _=>te (vs.map some++xY js σ) H Q) s H:=by
 intro A outer s' H' us vs Q hr e0 u r hl hq;have hf':H' f=some (.frz (ub q params body scope cl pm (.ref c') ctv) (.own Pt)):=by obtain⟨fs,u⟩:=u;exact u.frzs _ _ _ hf
 have lus:⇑us=⇑ps:=by rw[←⇑r];exact hl
 have hrec:s'.heap.CodeRec (.ref c') q:=by obtain⟨oc,vs',t,h1,h2,h3⟩:=hc;obtain⟨fs,u⟩:=u;exact⟨c',oc,vs',t,rfl,(e0.hok c' _ (u.frzs _ _ _ h1)).1,h2,h3⟩
 have sub:=qg scope.names [] cl hcl (fun x c e=>by cases e);have cells:∀ x c,cl.lookup x=some c->(∀ v,s.heap.IsCell c v->s'.heap.IsCell c v)/\H' c=none:=fun x c e=>by have n:=I.freeC x c (sub x c e);obtain⟨v,o,o1,o2⟩:=I.cell x c (sub x c e);refine⟨fun v hv=>IsCell.on u n hv,?_⟩;obtain⟨fs,u⟩:=u;exact u.free c o o1 n (by simp)
 refine PySem.W.kla_callFunE hr.depth (e0.hok f _ hf').1 rfl hco hgen rfl hrec ?_;rw[hbind us lus];refine au (wpAny_newFunctionEnv hcell (fun y hy=>?_) (fun h₁ hns hsb=>⟨?_,?_⟩) hk)
 ·exact hps _ (jG hy).1
 ·exact (e0.mod.nolimit.keeps fun b o e=>(e0.bs b o e).1).fresh _ hsb
 show codeAny _ _ (.expr _ (PySem.W.envX q scope s'.heap.objs.size f (.ref c') cl)) _ _;have k1:∀ b o,s'.heap.get? b=some o->h₁.get? b=some o:=fun b o z=>hsb.extBut b o (bw (aQ z)) (aL _ z);have noA:∀ b:Addr,b∉(BF X.prog X.w X.K X.mg X.base (ps++fr) q scope f (.ref c') cl A outer s' H').ex:=fun b z=>absurd (show b∈([]:List Addr) from z) (by simp);have cl1:∀ c v,s'.heap.IsCell c v->h₁.IsCell c v:=fun c v ⟨o,z1,z2⟩=>⟨o,k1 _ _ z1,z2⟩;have J:Inv (BF X.prog X.w X.K X.mg X.base (ps++fr) q scope f (.ref c') cl A outer s' H') [] (vs.map some++xY js σ) H' { heap:=h₁,gens:=s'.gens,drawn:=s'.drawn,toks:=s'.toks+⇑(ps.zip us),os:=s'.os }:=by
  refine⟨⟨e0.mod,hk,rfl,rfl,aw _,fun y z c h1 h2=>I.ok.inj y z c (sub y c h1) (sub z c h2),fun y hy=>?_,fun y c z h=>?_,fun _=>hr.hd,Around.frames_deeper e0.frames,.inr ⟨rfl,rfl⟩,fun b z=>absurd z (noA b),e0.bs,e0.bsz,fun b _ _=>noA b,fun b z=>absurd z (noA b),e0.oM,e0.frf⟩,
   rfl,e0.bare,Un.kept k1,⟨_,hns,fun i y v h1 h2 h3=>?_⟩,fun y c h=>?_,e0.hok.fresh (aw _),fun y c h=>(cells y c h).2,fun p hp=>absurd (show p∈([]:Zp) from hp) (by simp),e0.hok.kept k1,?_⟩
  ·have hy:scope.names.lookup y=some .cell∨scope.names.lookup y=some .free:=hy;rcases hy with hy | hy
   ·exact absurd rfl (hcell _ (jJ hy))
   ·exact oh scope.names [] cl hcl y (jJ hy)
  ·cases z
  ·have h1':(ps++fr)[i]?=some y:=h1
   by_cases hi:i<⇑ps
   ·rw[fH hi] at h1';rw[fH (by rw[ak];left),aX] at h2;cases ev:vs[i]? with
    | none=>rw[ev] at h2;cases h2
    | some a =>
     rw[ev] at h2;cases h2;obtain⟨u',hu',rv⟩:=r.get ev;refine⟨u',rv,.inl ⟨hps y (bT h1'),?_⟩⟩;have hz:(ps.zip us)[i]?=some (y,u'):=by rw[List.getElem?_zip_eq_some];exact⟨h1',hu'⟩
     refine vW ?_ (List.mem_reverse.mpr (bT hz));rw[List.map_reverse];refine List.pairwise_reverse.mpr ?_;rw[show (fun x:Str×Value=>x.1)=Prod.fst from rfl,List.map_fst_zip ⋯];exact hnd.imp fun h=>h.symm
   ·rw[gg ⋯] at h1';rw[gg (by rw[ak];left),ak,hl] at h2;obtain⟨j,hj,hN,hv,hfree,hmem,hkd⟩:=BB hcap h1';unfold xY at h2;rw[aX,hj] at h2;have h2':σ[j]?=some (some v):=by
     have h2:some (σ[j]?.join)=some (some v):=h2;cases es:σ[j]? with
     | none=>rw[es] at h2;cases h2
     | some o=>rw[es] at h2;cases o with
      | none=>cases h2
      | some v'=>cases h2;rfl
    obtain⟨m,_,hlk⟩:=I.loc;obtain⟨u',rv,lk⟩:=hlk j y v hN h2' hv;refine⟨u',rv,.inr ⟨.inr hfree,?_⟩⟩;obtain⟨c,hcy⟩:=oh scope.names [] cl hcl y hmem;refine⟨c,hcy,?_⟩;rcases lk with ⟨z,_⟩ | ⟨_,c2,z1,z2⟩
    ·rw[hkd] at z;cases z
    ·rw[sub y c hcy] at z1;cases z1;exact cl1 _ _ ((cells y c hcy).1 _ z2)
  ·obtain⟨v,hv⟩:=I.cell y c (sub y c h);exact⟨v,cl1 _ _ ((cells y c h).1 _ hv)⟩
  ·show _=⇑(ps++fr);rw[aE,ak,aE,hl,ak,xZ hcap]
 refine PySem.W.kla_codeExpr (cu (hbody A outer s' H' (hr.deeper _) [] _ _ _ Q J hq) (fun u2 s2 h2=>?_) fun _ _ z=>z.elim);obtain⟨v,H2,J2,rv,q2⟩:=h2;exact⟨v,H2,J2.os,J2.bare,J2.base,J2.hok,rv,q2⟩
def GX (f:Addr) (n:Nat) (sp:Sp) (tv:TE) (t:TA):TE:=fun σ H Q=>tv σ H fun x H1=>x=.ref f/\jP H1 f/\t σ H1 fun vs H2=>jP H2 f/\⇑vs=n/\sp vs H2 Q XF
theorem E8 {f:Addr}{n:Nat}{sp:Sp}{tv:TE}{t:TA}{σ:St}{H:Hp}{Q:VK}:GX f n sp tv t σ H Q=tv σ H fun x H1=>x=.ref f/\jP H1 f/\t σ H1 fun vs H2=>jP H2 f/\⇑vs=n/\sp vs H2 Q XF:=propext Iff.rfl
section
variable {X:Cx}
theorem Ċ (i:Nat) {pos:Pos} (hN:X.N[i]?=some x:=by ext) (hv:X.env.scope.names.lookup x=some .free:=by ext) (hd:(x==("__debug__":Str))=false:=by ext)
  (hcd:(x==("__classdict__":Str))=false:=by ext):PE X (.Name x pos) (vd i):=xA hN (.inr (.inr hv)) hd hcd
theorem GI {k n:Nat}{Q:VK}{us:Zc}{vs:List V} (S:tH X.prog X.w X.K X.mg X.base k n f sp X.s₀ X.H₀) (hex:X.ex=[]) (hr:cU k X.A) (I:Inv X Yp σ H s) (r:Vals vs us) (hl:⇑vs=n) (h:sp vs H Q XF) :
  wpAny (model X.prog X.w) X.A (call (.ref f) us) (EP X Yp σ Q) X.xe s:=by
 have u:=I.base;rw[hex] at u;refine wpAny_call (fO (S X.A X.stack s H us vs Q hr I.HX ⟨_,u⟩ r hl h) fun r s' hq=>?_);cases r with
 | error e=>exact (vH hq).elim
 | ok fl =>
  cases fl with
  | ret u=>exact I.after hq
  | next=>exact False.elim hq
  | brk=>exact False.elim hq
  | cont=>exact False.elim hq
theorem zd {k n:Nat}{es:List Expr}{t:TA}{p pos:Pos} (S:tH X.prog X.w X.K X.mg X.base k n f sp X.s₀ X.H₀) (hex:X.ex=[]) (hr:cU k X.A) (hv:PE X (.Name x p) tv) (ha:PA X (e::es) t) (hs:eh (e::es)=true:=by ext) :
  PE X (.Call (.Name x p) (e::es) [] pos) (GX f n sp tv t):=by
 intro Yp s σ H Q I h;refine jM (Â (hv Yp s σ H _ I h) fun u s1 ⟨v,H1,I1,r,ev,B1,q1⟩=>?_);subst ev;cases r;refine PySem.W.callWith_F (B1.fn I1) (Â (ha pos Yp s1 σ H1 _ I1 q1) fun us s2 ⟨vs,H2,I2,r2,B2,l2,q2⟩=>⟨B2.fn I2,?_⟩) (aP (b9 hs).1) (dA (b9 hs).2);exact GI S hex hr I2 r2 l2 q2
end
noncomputable def Lu (P:Zh) (w:Zi) (K:Zf) (mg:Zk) (base:Heap) (k n:Nat) (spA:Sp->Sp):Zg->Sp:=fun s vs H Q E=>∃ (f:Addr) (spf:Sp),vs.getLast?=some (.ref f)/\jP H f/\tH P w K mg base k n f spf s H/\spA spf vs H Q E
structure B4 (P:Zh) (w:Zi) (K:Zf) (mg:Zk) (base:Heap) (CX:Ï) (n:Nat) (x:Str) (ps:Ze) (spA:Sp->Sp):Prop where
 ex:∃ (f:Addr) (fd:FuncData),(∀ k,B3 P w K mg base CX (k+1) f fd ps (Lu P w K mg base k n spA))/\mg x=some (.ref f)/\PySem.W.keepIn K (.ref f)=true/\Binds K fd ps []
theorem Å.okS {P:Zh}{w:Zi}{mg:Zk}{base:Heap}{x qual:Str}{N ps:Ze}{k n:Nat} (F:Å K x qual st f fd) (S:aJ N ps (ax st)) (len:∀ spf vs H Q E,spA spf vs H Q E->⇑vs=⇑ps)
  (hbody:∀ (cdv:Value) (A:Around) (outer:List Env) (s:Zg) (H:Hp) (vs:List V) (Q:VK) (E:XK),cU k (A.deeper (envOfC qual (ax st) s.heap.objs.size f cdv))->∀ (lf:Addr) (spf:Sp),vs.getLast?=some (.ref lf)->jP H lf->tH P w K mg base k n lf spf s H->spA spf vs H Q E →
   ∃ t,Ù (oH (Á P w) P w K mg base N qual (ax st) f cdv A outer s H E) (cn st) t/\t { nx:=fun _ H'=>Q .non H',rt:=Q } (start N vs) H):B3 P w K mg base (Á P w) (k+1) f fd ps (Lu P w K mg base k n spA):=by
 obtain⟨oc,od,kV,doc,pm,an,cdv,ct,osl,rfl,lk,hcd⟩:=F.ex;exact Kv lk hcd S (fun s vs H Q E ⟨_,_,_,_,_,h⟩=>len _ _ _ _ _ h) fun A outer s H vs Q E hr ⟨lf,spf,h1,h2,h3,h4⟩=>hbody cdv A outer s H vs Q E hr lf spf h1 h2 h3 h4
def Ct (spA:Sp->Sp) (q:Str) (Pt:Addr) (js:Za) (te:TE) (E:St->XK) (t1 t2:TE):TE:=fun σ H Q=>t1 σ H fun x H1=>t2 σ H1 fun y H2=>H2 Pt=some (il q)/\∀ f H',H2 f=none->aB H2 H'->jP H' f->spA (fun vs H Q _=>te (vs.map some++xY js σ) H Q) [x,y,.ref f] H' Q (E σ)
theorem CB {spA:Sp->Sp}{q:Str}{Pt:Addr}{js:Za}{te:TE}{E:St->XK}{t1 t2:TE}{σ:St}{H:Hp}{Q:VK}:Ct spA q Pt js te E t1 t2 σ H Q=t1 σ H fun x H1=>t2 σ H1 fun y H2=>H2 Pt=some (il q)/\∀ f H',H2 f=none->aB H2 H'->jP H' f->spA (fun vs H Q _=>te (vs.map some++xY js σ) H Q) [x,y,.ref f] H' Q (E σ):=propext Iff.rfl
section
variable {X:Cx}
theorem wc {E:St->XK}{k n:Nat}{x q:Str}{gps ps fr:Ze}{js:Za}{spA:Sp->Sp}{e1 e2:Expr}{t1 t2 te:TE}{p pos lpos:Pos}{params:Arguments}{body:Expr}{scope:Scope}{cl:List (Str×Addr)}{c Pt:Addr}
  (C:B4 X.prog X.w X.K X.mg X.base (Á X.prog X.w) n x gps spA) (hn:⇑ps=n) (hg3:⇑gps=3) (hx:Passes (Á X.prog X.w) X E) (hr:cU (k+2) X.A) (h1:PE X e1 t1) (h2:PE X e2 t2)
  (hcd:X.env.code=.ref c) (hC:PySem.W.codeHdIn X.K c Pt=true) (hq:X.env.qual++"<lambda>"=q) (hcl:Ö X.env.cells scope.names []=some cl) (hcap:Hn X scope fr js)
  (hbind:∀ (pm ctv:Value) (c':Addr) (us:Zc),⇑us=⇑ps->bindArgs (PySem.W.kla_fn "<lambda>" q params body scope cl pm (.ref c') ctv) ⟨us,[]⟩=pure (ps.zip us))
  (hbody:∀ (f c':Addr) (A:Around) (outer:List Env) (s:Zg) (H:Hp),cU k (A.deeper (PySem.W.envX q scope s.heap.objs.size f (.ref c') cl))->PE (BF X.prog X.w X.K X.mg X.base (ps++fr) q scope f (.ref c') cl A outer s H) body te)
  (hps:∀ y∈ps,scope.names.lookup y=some .local) (hnd:ps.Nodup)
  (hd:defaultsOf params X.env=([],[]):=by rfl)
  (hco:scope.isCoroutine=false:=by rfl) (hgen:scope.isGenerator=false:=by rfl) (hk:scope.kind=.function:=by rfl) (hcell:∀ y∈scope.names,y.2≠.cell:=by nofun)
  (hg:X.env.kindOf x=some .globalImplicit:=by ext) (hdb:(x==("__debug__":Str))=false:=by ext) (hs:eh [e1,e2,.Lambda params body scope lpos]=true:=by ext) :
  PE X (.Call (.Name x p) [e1,e2,.Lambda params body scope lpos] [] pos) (Ct spA q Pt js te E t1 t2):=by
 obtain⟨g,fd,F,hm,hkp,hb⟩:=C.ex;have s1:=b9 hs;have s2:=b9 s1.2;have s3:=b9 s2.2;intro Yp s σ H Q I h;refine jM (ql I hg hm ?_ hdb);refine rh (h₀:=X.base) I.ok.mod.kin hkp ?_ (aP s1.1) (dA s1.2);rw[aP s1.1,aP s2.1,aP s3.1];refine rg (Â (h1 Yp s σ H _ I h) fun u1 sa ⟨x1,Ha,Ia,ra,qa⟩=>?_);refine rg (Â (h2 Yp sa σ Ha _ Ia qa) fun u2 sb ⟨x2,Hb,Ib,rb,hP,qb⟩=>?_);refine rg (vV Ib hP hcd hC hq hd hcl fun f c' ctv H' s' I' sm hn' hf hc=>?_);refine Calls.spliced_nil ⟨I'.Ô,?_⟩;have la:jP H' f:=⟨_,_,_,_,_,_,_,_,_,hf⟩;have st:=FD (k:=k) I' hf hc hcl (hbind _ _ _) hco hgen hk hcell hps hnd hcap (fun A outer s H hr=>hbody f c' A outer s H hr);rw[hn] at st;have r:Vals [x1,x2,.ref f] [u1,u2,.ref f]:=.cons ra (.cons rb (.cons rfl .nil));refine wpAny_call (fO ((F (k+1)).run X.A X.stack s' H' ⟨[u1,u2,.ref f],[]⟩ [u1,u2,.ref f] [x1,x2,.ref f] Q (E σ) hr I'.HX (by have:=hb s' [u1,u2,.ref f] I'.Ô (by rw[hg3];rfl);simpa using this) r ⟨f,_,rfl,la,st,qb f H' hn' sm la⟩) fun r s'' hq=>?_);cases r with
 | error e=>exact hx Yp σ H' s' e s'' I' hq
 | ok fl =>
  cases fl with
  | ret u=>exact I'.after hq
  | next=>exact False.elim hq
  | brk=>exact False.elim hq
  | cont=>exact False.elim hq
end
noncomputable def nE (ts:List (Addr×Str)):Hp:=fun b=>(ts.lookup b).map il
theorem xR:∀ {ts:List (Addr×Str)},(ts.map (·.1)).Nodup->∀ p∈ts,nE ts p.1=some (il p.2)
 | [],_,p,h=>by cases h
 | t::r,hn,p,h=>by
  unfold nE;rw[dR];rcases aY.mp h with e | e
  ·subst e;simp
  ·have hne:p.1≠t.1:=fun z=>(dD.mp hn).1 (aO.mpr ⟨_,e,z⟩);rw[show (p.1==t.1)=false by simpa using hne];exact xR (dD.mp hn).2 p e
theorem FK {b:Addr}{q:Str}:∀ {ts:List (Addr×Str)},ts.lookup b=some q->(b,q)∈ts
 | [],h=>by cases h
 | (c,r)::ts,h=>by
  rw[dR] at h
  by_cases e:b=c
  ·subst e;simp at h;subst h;exact bu
  ·rw[show (b==c)=false by simpa using e] at h;exact b8 _ (FK h)
theorem qK {b:Addr}{o:HO} (h:nE ts b=some o):∃ p∈ts,p.1=b/\o=il p.2:=by unfold nE at h;obtain⟨q,e,rfl⟩:=dU.mp h;exact⟨(b,q),FK e,rfl,rfl⟩
theorem A0 {P:Zh}{w:Zi}{K:Zf}{mg mb:Zk}{CX:Ï}{k:Nat}{fa a:Addr}{ts:List (Addr×Str)}{fd:FuncData}{x:Str}{sp:Sp}{s₁:Zg}{vs:Zc}{ns:Zb}
  (KX:K.In s₁.heap) (hns:s₁.heap.Ns mainGlobals mg) (hb:s₁.heap.Ns builtinsNs mb) (hbb:∀ x:Str,x≠"__name__"->mb x=bootBuiltins x) (hlim:s₁.heap.NoLimit)
  (hbm:∃ bm ob,mg "__builtins__"=some (.ref bm)/\bm≠builtinsNs/\s₁.heap.get? bm=some ob/\ob.cls=.type "module"/\ob.dict=some builtinsNs/\ob.data=.plain) (hg:s₁.gens=#[])
  (ha:s₁.heap.get? a=some { cls:=.type "list",data:=.seq vs.toArray }) (hi:IntsAre vs ns) (hl:⇑ns<=sizeLine) (hr:cU k callerA) (hnd:(ts.map (·.1)).Nodup) (hC:∀ p∈ts,∃ c,PySem.W.codeHdIn K c p.1=true) (hPt:∀ p∈ts,s₁.heap.get? p.1=some { cls:=.none,data:=.fields #[] }) (hKP:∀ p∈ts,K.lookup p.1=none)
  (F:∀ base:Heap,K.In base->base.Ns mainGlobals mg->bF P w K mg base CX k fa fd [x] sp) (hbind:∀ (s:Zg) (u:Value),BindsTo s fd ⟨[u],[]⟩ [(x,u)])
  (hsp:∀ H:Hp,Ã K H a (ns.map V.int)->(∀ p∈ts,H p.1=some (il p.2))->sp [.ref a] H (fun v _=>v=.bl true) fun _ _ _=>False)
  (hCX:∀ H e s',CX [] H s₁ (fun _ _ _=>False) e s'->False) :
  codeAny (model P w) callerA (.call (.ref fa) ⟨[.ref a],[]⟩) (fun r s'=>r=.ok (.ret (.bool true))/\OldK s₁.heap s'.heap/\s'.os=s₁.os/\AllBare s'.gens) s₁:=by
 have rv:=wz hi;have lenV:=⇑hi;have nPa:∀ p∈ts,p.1≠a:=fun p hp z=>by have:=hPt p hp;rw[z,ha] at this;cases this
 have core:∀ H:Hp,Ã K H a (ns.map V.int)->Î P w H s₁.heap->(∀ p∈ts,H p.1=some (il p.2))->(∀ b,H b≠none->(∃ p∈ts,b=p.1)∨(b=a/\∃ o xs,H b=some (.frz o (.lst xs))))->(H a≠none->K.lookup a=none) →
   codeAny (model P w) callerA (.call (.ref fa) ⟨[.ref a],[]⟩) (fun r s'=>r=.ok (.ret (.bool true))/\OldK s₁.heap s'.heap/\s'.os=s₁.os/\AllBare s'.gens) s₁:=by
  intro H hS hok hT hA hK;have base_of:∀ {b:Addr}{o:Obj},s₁.heap.get? b=some o->H b=none->(wU s₁.heap H).get? b=some o:=fun e n=>Fu e n;have noO:∀ {b:Addr}{o:Obj},s₁.heap.get? b=some o->(∀ xs n,o.data≠.seq xs n)->(∀ xs,o.data≠.fields xs)->H b=none:=fun {b o} e d1 d2=>by
   cases qb:H b with
   | none=>rfl
   | some u =>
    rcases hA b (by rw[qb];simp) with ⟨p,hp,z⟩ | ⟨z,_⟩
    ·subst z;rw[hPt p hp] at e;cases e;exact absurd rfl (d2 _)
    ·subst z;rw[ha] at e;cases e;exact absurd rfl (d1 _ _)
  have nsK:∀ {b:Addr}{m:Zk},s₁.heap.Ns b m->(wU s₁.heap H).Ns b m:=fun {b m} ⟨o,es,ep,e,d,r⟩=>⟨o,es,ep,base_of e (noO e (fun _ _ z=>by rw[d] at z;cases z) fun _ z=>by rw[d] at z;cases z),d,r⟩;have hKb:K.In (wU s₁.heap H):=fun b o e=>base_of (KX b o e) (by
   cases qb:H b with
   | none=>rfl
   | some u =>
    rcases hA b (by rw[qb];simp) with ⟨p,hp,z⟩ | ⟨z,_⟩
    ·subst z;rw[hKP p hp] at e;cases e
    ·subst z;rw[hK (by rw[qb];simp)] at e;cases e)
  have hM:Mod K mg (wU s₁.heap H):=⟨hKb,nsK hns,⟨mb,nsK hb,hbb⟩,let ⟨mc,h1,h2⟩:=hlim;⟨mc,nsK h1,h2⟩,let ⟨bm,ob,b1,b2,b3,b4,b5,b6⟩:=hbm;⟨bm,ob,b1,b2,base_of b3 (noO b3 (fun _ _ z=>by rw[b6] at z;cases z) fun _ z=>by rw[b6] at z;cases z),b4,b5,b6⟩⟩;have e0:rz P w K mg (wU s₁.heap H) callerA [] s₁ H:=⟨rfl,hM,fun b o e=>IH e,Nat.le_of_eq (DE _ _),trivial,fun b hb=>absurd (show b∈([]:List Addr) from hb) (by simp),hok,.of_eq hg⟩;refine fO ((F _ hKb (nsK hns)).run callerA [] s₁ H ⟨[.ref a],[]⟩ [.ref a] [.ref a] _ _ hr e0 (hbind s₁ (.ref a)) (.cons rfl .nil) (hsp H hS hT)) fun r s' h=>?_;cases r with
  | error e=>exact (hCX H e s' h).elim
  | ok fl =>
   cases fl with
   | next=>exact False.elim h
   | brk=>exact False.elim h
   | cont=>exact False.elim h
   | ret u =>
    obtain⟨v,H',os,bare,un,hok',r',qv⟩:=h;have qv':v=.bl true:=qv;subst qv';obtain rfl:u=Value.bool true:=r';refine⟨rfl,⟨fun b o e=>?_,fun b o e=>un.there b o e (by simp)⟩,os,bare⟩;cases qb:H b with
    | none=>exact .inl (un.keep b o e qb (by intro z;exact absurd (show b∈([]:List Addr) from z) (by simp)) (by simp))
    | some u =>
     rcases hA b (by rw[qb];simp) with ⟨p,hp,z⟩ | ⟨z,ob,xs,z1⟩
     ·subst z;obtain⟨c,hc⟩:=hC p hp;have hCd:=PySem.W.codeHd_of_K KX hc;rw[hPt p hp] at e;cases e;obtain⟨more,z2⟩:=un.tbls p.1 _ (hT p hp);obtain⟨qs,z3,_⟩:=(show bX P w H' s'.heap p.1 _ from hok' p.1 _ z2);exact .inr (.inl ⟨(hCd.tab (hPt p hp)).isCodeTable,rfl,#[],qs,rfl,by simpa using z3⟩)
     ·have z2:=un.frzs b ob _ z1;obtain⟨e1,_⟩:=hok b _ z1;obtain⟨e2,_⟩:=hok' b _ z2;rw[e] at e1;cases e1;exact .inl e2
 have õ:∀ (H:Hp),∀ p∈ts,bX P w H s₁.heap p.1 (il p.2):=fun H p hp=>⟨#[],hPt p hp,trivial,fun pos c z=>by simp [codeAmong] at z⟩;have noa:nE ts a=none:=by
  cases q:nE ts a with
  | none=>rfl
  | some o =>obtain⟨p,hp,z,_⟩:=qK q;exact absurd z (nPa p hp)
 cases hk:K.lookup a with
 | some o =>
  have e:=KX a o hk;rw[ha] at e;cases e;refine core (nE ts) (.inr ⟨_,vs.toArray,_,hk,rfl,rfl,rfl,by rw[bc,lenV];exact hl,by simpa using rv⟩) (fun b u z=>?_) (xR hnd) (fun b z=>?_) fun z=>absurd noa z
  ·obtain⟨p,hp,rfl,rfl⟩:=qK z;exact õ _ p hp
  ·cases q:nE ts b with
   | none=>exact absurd q z
   | some o =>obtain⟨p,hp,e,_⟩:=qK q;exact .inl ⟨p,hp,e.symm⟩
 | none =>
  have hT:∀ p∈ts,upd (nE ts) a (.frz { cls:=.type "list",data:=.seq vs.toArray } (.lst (ns.map V.int))) p.1=some (il p.2):=fun p hp=>(aN (nPa p hp)).trans (xR hnd p hp);refine core (upd (nE ts) a (.frz { cls:=.type "list",data:=.seq vs.toArray } (.lst (ns.map V.int)))) (.inl (.inr ⟨{ cls:=.type "list",data:=.seq vs.toArray },aI⟩)) (fun b u z=>?_) hT (fun b z=>?_) fun _=>hk
  ·by_cases hb2:b=a
   ·subst hb2;rw[aI] at z;cases z;exact⟨ha,by rw[ak];exact hl,vs,_,rv,ha⟩
   ·rw[aN hb2] at z;obtain⟨p,hp,rfl,rfl⟩:=qK z;exact õ _ p hp
  ·by_cases hb2:b=a
   ·exact .inr ⟨hb2,_,_,by rw[hb2];exact aI⟩
   ·rw[aN hb2] at z;cases q:nE ts b with
    | none=>exact absurd q z
    | some o =>obtain⟨p,hp,e,_⟩:=qK q;exact .inl ⟨p,hp,e.symm⟩
theorem Ey {l:PySem.W.OpenLaw}{n k:Nat}{qq:Zh}{loose:Ze}{XP:(Zk)->Heap->Prop}{YP:Zi->Heap->Prop}{d:DefRec}{K:Params->Zf}{CX:Zi->Ï}{sp:Zi->Sp}{x:Str} (ts:List (Addr×Str))
  (hn:l.most=some n) (hn2:n<=sizeLine) (hdf:d.params.defaults=[]) (hr:cU k callerA) (hnd:(ts.map (·.1)).Nodup)
  (hY:∀ (w:Zi) (h:Heap),YP w h->(K w.params).In h/\∀ p∈ts,h.get? p.1=some { cls:=.none,data:=.fields #[] })
  (F:∀ (w:Zi) (mg:Zk) (fa:Addr) (h:Heap),(K w.params).In h->h.Ns mainGlobals mg->mg d.name=some (.ref fa) →
   (∀ p∈ts,∃ c,PySem.W.codeHdIn (K w.params) c p.1=true)/\∃ fd:FuncData,(∀ (s:Zg) (u:Value),BindsTo s fd ⟨[u],[]⟩ [(x,u)]) ∧
    ∀ base:Heap,(K w.params).In base->base.Ns mainGlobals mg->bF l.prog w (K w.params) mg base (CX w) k fa fd [x] (sp w))
  (hKP:∀ w:Zi,∀ p∈ts,(K w.params).lookup p.1=none)
  (hsp:∀ (w:Zi) (H:Hp) (a:Addr) (ns:Zb),⇑ns<=n->Ã (K w.params) H a (ns.map V.int)->(∀ p∈ts,H p.1=some (il p.2))->sp w [.ref a] H (fun v _=>v=.bl true) fun _ _ _=>False)
  (hCX:∀ (w:Zi) (H:Hp) (s:Zg) (e:Value) (s':Zg),CX w [] H s (fun _ _ _=>False) e s'->False) :
  PySem.W.WalkO qq loose XP YP l.row.toRowW d [] (fun f vs=>PySem.call f vs):=by
 refine Att.xW hn hdf fun w s₀ s₁ mg mb fa o pm cd doc a vs ns G Y ho hd hcd hmg hobj hints hlen hg=>?_;obtain⟨KX,hPt⟩:=hY w _ Y;obtain⟨hC,fd,hb,hF⟩:=F w mg fa _ KX G.T.g hmg;exact A0 KX G.T.g G.T.b G.T.builtins G.T.nolimit G.T.bmain hg hobj hints (bM hlen hn2) hr hnd hC hPt (hKP w) hF hb (fun H hS hT=>hsp w H a ns hlen hS hT) fun H e s'=>hCX w H s₁ e s'
end
section
section
variable {prog:Zh}{w:Zi}{A:Around}{E:Zq}{h:Heap}{g:Array GenState}{d:Drawn}{t:Nat}{os:OsState}
variable {nm q:Str}{C N:Addr}{bs bm bmB:Zc}{hdct:Bool}{sn:Ze}{sub:Zc}{ab:Bool}{col:Option Bool}{dd:Option Addr}{k0 k1 k2 k3 k5:Option Value}{B newId initId:String}
end
section
variable {prog:Zh}{w:Zi}{A:Around}{E:Zq}{s:Zg}{K:Zf}{x C t:Addr}{name:Str}{v:Value}
end
noncomputable abbrev LS:Zc:=Zv
theorem KJ {N:Addr}{m:Zk}{v:Value} (X:K.In h) (G:h.Ns N m) (q:PySem.W.nsIn K N x=some (some v)):m x=some v:=by
 obtain⟨ob,ents,pp,h1,h2,_,h3⟩:=G;unfold PySem.W.nsIn at q;split at q;next c d l n sl e1 =>
  have e2:=(X _ _ e1).symm.trans h1;cases e2;cases h2;split at q;next u e3 =>
   cases q
   rw[←h3];unfold nsFind findBy;rw[←Array.find?_toList,e3];rfl
  next=>split at q<;>cases q
 next=>cases q
structure LA (K:Zf) (C f:Addr):Prop where
 ex:∃ nm q N bs bm hdct sn sub ab col dd k0 k1 k2 k3 k5,K.lookup C=some (excClassObj nm q C N bs bm hdct sn sub ab col dd k0 k1 k2 k3 k5 "ValueError.__new__")/\PySem.W.nsOkIn K N=true/\PySem.W.nsIn K N "__init__"=some (some (.ref f))/\PySem.W.tailIn K LS bm=true
 fn:PySem.W.isFn K (.ref f)=true
 kp:PySem.W.keepIn K (.ref C)=true
theorem LA.at {C f:Addr} (O:LA K C f) (X:K.In h) :
  ∃ nm q N bs bm hdct sn sub ab col dd k0 k1 k2 k3 k5 mN oI,h.get? C=some (excClassObj nm q C N bs bm hdct sn sub ab col dd k0 k1 k2 k3 k5 "ValueError.__new__")/\h.Ns N mN/\mN "__init__"=some (.ref f)/\OwnTail h LS bm/\h.get? f=some oI/\oI.cls=.type "function":=by
 obtain⟨nm,q,N,bs,bm,hdct,sn,sub,ab,col,dd,k0,k1,k2,k3,k5,h1,h2,h3,h4⟩:=O.ex;have hns:h.Ns N _:=.of_isNs (PySem.W.isNs_of_in X h2);have hf:PySem.W.typeIn K (.ref f)=some (.type "function"):=ie.mp O.fn;have:∃ oI,h.get? f=some oI/\oI.cls=.type "function":=by have hf':(K.lookup f).map (fun o=>o.cls)=some (.type "function"):=hf;obtain⟨o,q1,q2⟩:=dU.mp hf';exact⟨o,X _ _ q1,q2⟩
 obtain⟨oI,i1,i2⟩:=this;exact⟨nm,q,N,bs,bm,hdct,sn,sub,ab,col,dd,k0,k1,k2,k3,k5,_,oI,X _ _ h1,hns,KJ X hns h3,PySem.W.tail_of_in X h4,i1,i2⟩
noncomputable def ĕ (e:Addr) (H:Hp):Hp:=fun b=>if b=e then none else H b
section
variable {X:Cx}{Yp:Zp}{σ:St}{H:Hp}{s:Zg}
end
section
variable {P:Zh}{w:Zi}{K:Zf}{mg:Zk}{base:Heap}{N:Ze}{qual:Str}{scope:Scope}{f:Addr}{cd:Value}{A:Around}{outer:List Env}{s:Zg}{H:Hp}{E:XK}
end
section
variable {X:Cx}
end
def Gy:R2:=fun x y H Q=>match x,y with
 | .str z,.int n=>∃ b:Bool,n=(if b=true then 1 else 0)/\1<=⇑z/\⇑z<=100/\Q (.str (if b=true then z else tx [])) H
 | _,_=>False
theorem Dr {z:Str}{n:Int}{H:Hp}{Q:VK}:Gy (.str z) (.int n) H Q=(∃ b:Bool,n=(if b=true then 1 else 0)/\1<=⇑z/\⇑z<=100/\Q (.str (if b=true then z else tx [])) H):=propext Iff.rfl
theorem FZ :É X (binaryOp .Mult) Gy:=by
 intro Yp s σ H x y v u Q I rx ry h;cases x<;>try exact h.elim
 cases y<;>try exact h.elim
 next z n =>
 obtain⟨b,rfl,h3,h4,q⟩:=h;obtain⟨t,rfl⟩:=rx;obtain⟨t2,rfl⟩:=ry;cases b with
 | true =>refine PySem.P.mul_str rfl (fun _ h=>by cases h) (fun _ h=>by cases h) ?_;show (Made.val (Value.str z t)).post _ s;exact⟨.str z,H,I,⟨t,rfl⟩,q⟩
 | false =>refine PySem.P.mul_str rfl (fun h=>absurd (by decide) h) (fun h=>absurd (by decide) h) ?_;show (Made.str Str.empty).post _ s;exact⟨Zd,⟨.str _,H,I.tok _,⟨_,rfl⟩,q⟩⟩
theorem FF {js:Za}{σ:St}{tc:TT}{te:TE}{Q:VK} (hx:Ã K H1 a xs) (hl:⇑xs<sizeLine) (pr:Nat->Bool) (g:Nat->V)
  (hc:∀ (i:Nat) x,xs[i]?=some x->∀ H,aB H1 H->∀ R:Bool->Hp->Prop,(∀ H',aB H H'->R (pr i) H')->tc (some (.int (i:Int))::some x::js.map fun j=>(σ[j]?).join) H R)
  (he:∀ (i:Nat) x,xs[i]?=some x->pr i=true->∀ H,aB H1 H->∀ R:VK,(∀ H',aB H H'->R (g i) H')->te (some (.int (i:Int))::some x::js.map fun j=>(σ[j]?).join) H R)
  (q:∀ D H,H1 D=none->aB H1 H->H D=some (.lst (((List.range ⇑xs).filter pr).map g))->Q (.ref D) H):eK (Av K 2 (mx (eR 0) (mx (eR 1) Au))) tc te (ip 2 js σ) (ù K a) H1 Q:=by
 intro D hD;refine⟨fun i m ys σ1 H=>m=⇑xs-i/\i<=⇑xs/\(∃ o1 o2,σ1=o1::o2::js.map fun j=>(σ[j]?).join)/\ys=((List.range i).filter pr).map g/\aB H1 H/\H D=some (.lst ys),
  ⟨⇑xs,by simp,br _,⟨none,none,rfl⟩,by simp,(aB.refl H1).cf hD,aI⟩,?_⟩
 rintro i m ys σ1 H ⟨rfl,hi,⟨o1,o2,rfl⟩,rfl,sH,hL⟩;have hyn:⇑(((List.range i).filter pr).map g)<=i:=by
  rw[ak];have:=ly pr (List.range i)
  rwa [bZ] at this
 refine⟨hL,⋯,?_⟩
 by_cases hlt:i<⇑xs
 ·have e:xs[i]?=some xs[i]:=aC hlt;refine .inr ⟨⟨xs,xs[i],sH.seq hx,e⟩,fun v H' hyl=>?_⟩;obtain⟨x,p,hx',rfl,hp,rfl⟩:=hyl;have ex:=hx' xs (sH.seq hx);have hpD:D≠p:=aW hL hp;refine⟨p,[.int (i:Int),x],rfl,Ó.of aI,rfl,.int (i:Int),[x],rfl,x,[],rfl,rfl,?_⟩;have s1:aB H1 (upd H p (.tup [.int (i:Int),x])):=sH.cf (sH.free hp);have hL1:upd H p (.tup [.int (i:Int),x]) D=some (.lst (((List.range i).filter pr).map g)):=by rw[aN hpD];exact hL
  have rs:List.range (i+1)=List.range i++[i]:=lC;show tc (some (.int (i:Int))::some x::js.map fun j=>(σ[j]?).join) _ _;refine hc i x ex _ s1 _ fun H4 s4=>?_;have hL4:=s4 _ _ hL1;cases hpr:pr i with
  | false =>rw[ai bP];exact⟨⇑xs-(i+1),⋯,rfl,hlt,⟨_,_,rfl⟩,by rw[rs,jE];simp [hpr],s1.trans s4,hL4⟩
  | true =>rw[aq rfl];refine he i x ex hpr _ (s1.trans s4) _ fun H5 s5=>⟨s5 _ _ hL4,⇑xs-(i+1),⋯,rfl,hlt,⟨_,_,rfl⟩,?_,((s1.trans s4).trans s5).cf hD,aI⟩;rw[rs,jE,bD];simp [hpr]
 ·have e:i=⇑xs:=⋯
  subst e;exact .inl ⟨⟨xs,sH.seq hx,aw _⟩,q D H hD sH hL⟩
end
section
theorem IA (t:SetTable) (es:Array (Int×Value)) (h:Int) (x:Value):(layNew t es h x).2.1.led=t.led:=by
 unfold layNew;split
 ·show (SetTable.orStandIn _ _).led=_;unfold SetTable.orStandIn;split<;>rfl
 ·rfl
theorem Ei (t:SetTable) (es:Array (Int×Value)) (n:Nat):(relayAll t es n).2.1.led=t.led/\(t.plain=false->(relayAll t es n).2.1.plain=false):=by
 unfold relayAll;split
 ·rename_i t' order e
  have e2:t'.led=t.led/\t'.plain=t.plain:=by
   unfold SetTable.relaid SetTable.laid at e;cases hL:SetTable.layClean (SetTable.sizeAbove n-1) (es.map (·.1)) with
   | none=>rw[hL] at e;cases e
   | some o=>rw[hL] at e;cases e;exact⟨rfl,rfl⟩
  dsimp only;split
  ·exact⟨e2.1,fun h=>e2.2.trans h⟩
  ·exact⟨rfl,fun _=>rfl⟩
 ·exact⟨rfl,fun _=>rfl⟩
def r0 (P:Zh) (w:Zi) (lb:Bool) (h:Heap) (a:Addr) (l:List Key):Prop:=∃ o es ep t,h.get? a=some o/\o.ExactSet/\o.data=.set es ep t/\ElemsOf (bj P w) es.toList/\(∀ k,fR k l=true↔∃ e∈es.toList,jm k e.2=true) ∧
 es.size<scanBound/\t.fits es.size=true/\es.size=⇑l/\t.led=lb/\(es.size≠0->t.plain=false)
section
variable {prog:Zh}{w:Zi}{A:Around}{E:Zq}{s:Zg}
theorem LD {l:List Key}{z:Str}{tk:Tok}{Q:Bool->Zg->Prop} (hS:r0 prog w lb s.heap a l) (hroom:⇑l+1<scanBound)
  (h:∀ h',Heap.SameBut a s.heap h'->r0 prog w lb h' a (if fR (.inr z) l=true then l else l++[.inr z])->Q (!fR (.inr z) l) { s with heap:=h' }) :
  wpAny (model prog w) A (setAddHashed a (.str z tk) ((bj prog w).hash (.inr z))) Q E s:=by
 obtain⟨o,es,ep,t,ho,hex,hd,hel,hmem,hb,hf,hn,hled,hpl⟩:=hS;have hkey:(bj prog w).is (.inr z) (.str z tk)=true:=ox z tk;have hsc:(Value.str z tk).scannable=true:=rfl;have hb1:es.size+1<scanBound:=by rw[hn];exact hroom
 unfold setAddHashed setAddHashedIn;refine cQ (ae (lO ho hd hf ?_));dsimp only;rw[byScan_of hsc hb hel];simp only[↓reduceIte];unfold setAddByScan;refine ae (ae (ij (ae (wpAny_setScan_of hkey ho hd hf hel ?_))));cases hr:List.findIdx? (fun e=>(bj prog w).is (.inr z) e.2) es.toList with
 | some j =>dsimp only;obtain⟨hj,hpj,_⟩:=List.findIdx?_eq_some_iff_getElem.mp hr;have hSk:fR (.inr z) l=true:=(hmem _).mpr ⟨es.toList[j],cj hj,hpj⟩;refine au (au ?_);have:=h s.heap (Heap.SameBut.refl a s.heap);rw[hSk,aq rfl] at this;exact this ⟨o,es,ep,t,ho,hex,hd,hel,hmem,hb,hf,hn,hled,hpl⟩
 | none =>
  dsimp only;have hSk:fR (.inr z) l=false:=by
   cases hk:fR (.inr z) l with
   | false=>rfl
   | true=>obtain⟨e,he,hp⟩:=(hmem _).mp hk;have:=List.findIdx?_eq_none_iff.mp hr e he;rw[show (bj prog w).is (.inr z) e.2=jm (.inr z) e.2 from rfl,hp] at this;cases this
  rw[hSk,ai (by decide)] at h;have hgw:∀ (b:Bool) {s₁:Zg}{Q':Unit->Zg->Prop},Q' () s₁->wpAny (model prog w) A (match b with | true=>rule "set.scan.the-table-gave-way" | false=>pure ()) Q' E s₁:=fun b s₁ Q' hq=>by
   cases b
   ·exact au hq
   ·exact ij hq
  have hperm:=layNew_perm t es ((bj prog w).hash (.inr z)) (.str z tk);have hfits:=layNew_fits t es ((bj prog w).hash (.inr z)) (.str z tk);have hl1:=IA t es ((bj prog w).hash (.inr z)) (.str z tk);generalize layNew t es ((bj prog w).hash (.inr z)) (.str z tk)=L at hperm hfits hl1 ⊢;obtain⟨es1,t1,wasDummy,gave⟩:=L;dsimp only at hperm hfits hl1 ⊢;rw[Array.toList_push] at hperm;have hel1:ElemsOf (bj prog w) es1.toList:=(hel.push hkey hsc).perm hperm;have hmem1:∀ k',fR k' (l++[.inr z])=true↔∃ e∈es1.toList,jm k' e.2=true:=fun k'=>by have:=mem_push_iff (knd:=bj prog w) hkey hmem hperm k';rw[vX,show decide (Sum.inr z=k')=decide (k'=Sum.inr z) from nW.mpr ⟨Eq.symm,Eq.symm⟩];exact this
  have hsz1:es1.size=⇑(l++[(Sum.inr z:Key)]):=by rw[←eP,hperm.length_eq,aE,eP,hn,aE];rfl
  have hb1':es1.size<scanBound:=by rw[hsz1,aE];exact hroom
  refine ae (hgw _ ?_);have tail:∀ t2:SetTable,t2.fits es1.size=true->t2.led=lb->t2.plain=false->wpAny (model prog w) A (do
    storeSet a es1 t2
    if (!wasDummy&&t2.tooFull)=true then do
      (match (relayAll t2 es1 (SetTable.grown es1.size)).2.2 with | true=>rule "set.scan.the-table-gave-way" | false=>pure ())
      storeSet a (relayAll t2 es1 (SetTable.grown es1.size)).1 (relayAll t2 es1 (SetTable.grown es1.size)).2.1
      pure (some true)
     else pure (some true)) (fun r s'=>r=some true/\Q true s') E s:=fun t2 hf2 hl2 hp2=>by
   refine ae (wpAny_storeSet_of ho hd ?_ (fits_of_scanBound hb1'));have ho1:(s.heap.update a (Obj.putSet es1 t2)).get? a=some { o with data:=.set es1 (ep+1) t2 }:=by have:=hZ (Obj.putSet es1 t2) ho (by rw[putSet_of es1 t2 hd];rfl);rw[putSet_of es1 t2 hd] at this;exact this
   have hsb1:=Heap.SameBut.update s.heap a (Obj.putSet es1 t2);split
   ·have hp:=relayAll_perm t2 es1 (SetTable.grown es1.size);have hfr:=relayAll_fits t2 es1 (SetTable.grown es1.size);have hlr:=Ei t2 es1 (SetTable.grown es1.size);generalize relayAll t2 es1 (SetTable.grown es1.size)=Rl at hp hfr hlr ⊢;obtain⟨es2,t3,gave2⟩:=Rl;dsimp only at hp hfr hlr ⊢;have hsz:es2.size=es1.size:=by rw[←eP,hp.length_eq,eP]
    refine ae (hgw _ ?_);refine ae (wpAny_storeSet_of ho1 rfl ?_ (fits_of_scanBound (by rw[hsz];exact hb1')));have ho2:((s.heap.update a (Obj.putSet es1 t2)).update a (Obj.putSet es2 t3)).get? a=some { o with data:=.set es2 (ep+1+1) t3 }:=by have:=hZ (Obj.putSet es2 t3) ho1 (by rw[putSet_of es2 t3 rfl];rfl);rw[putSet_of es2 t3 rfl] at this;exact this
    exact au ⟨rfl,h _ (hsb1.trans (Heap.SameBut.update _ a _)) ⟨_,es2,_,t3,ho2,hex,rfl,hel1.perm hp,fun k'=>(hmem1 k').trans ⟨fun ⟨e,he,q⟩=>⟨e,hp.mem_iff.mpr he,q⟩,fun ⟨e,he,q⟩=>⟨e,hp.mem_iff.mp he,q⟩⟩,by rw[hsz];exact hb1',hfr,hsz.trans hsz1,hlr.1.trans hl2,fun _=>hlr.2 hp2⟩⟩
   ·exact au ⟨rfl,h _ hsb1 ⟨_,es1,_,t2,ho1,hex,rfl,hel1,hmem1,hb1',hf2,hsz1,hl2,fun _=>hp2⟩⟩
  have fin:∀ {m:Sem (Option Bool)},wpAny (model prog w) A m (fun r s'=>r=some true/\Q true s') E s->wpAny (model prog w) A m (fun r s'=>wpAny (model prog w) A (match r with | some added=>pure added | none=>setAddHashedIn a (.str z tk) ((bj prog w).hash (.inr z)) 99999) Q E s') E s:=fun hm=>cu hm (fun r s' ⟨e,q⟩=>by rw[e];exact au q) fun _ _ x=>x;split
  ·refine ae ?_;rw[hashByValue_scannable 8 hsc];refine au ?_;exact fin (tail _ (SetTable.fits_plain_off hfits) (hl1.trans hled) rfl)
  ·rename_i hnp
   refine ae (au ?_);simp only[↓reduceIte];exact fin (tail _ hfits (hl1.trans hled) (by simpa using hnp))
theorem CW (a:Value) {Q₁:Zq}
  (h:Q₁ (.ref s.heap.objs.size) { s with heap:=s.heap.push { cls:=.type "set",dict:=none,data:=.set #[] 0 (.fresh 0 0 (!w.params.followText "set-order")) } }) :
  codeAny (model prog w) A (.call (.builtin "set.__new__") ⟨[.type "set",a],[]⟩) (wants Q₁ E) s:=by
 refine codeAny_of_tree ?_;show wpAny _ A.in1 (do checkBuiltinCall "set.__new__" ⟨[.type "set",a],[]⟩;again (.builtin "set.__new__" ⟨[.type "set",a],[]⟩)) _ _ s;refine ae (wpAny_of_eq (F.newCall_set_1 a) (au ⟨jL F.plain_set_new _,fN F.entry_set_new ?_⟩));rw[mq F.plain_set_new _];unfold Builtin.«set.__new__» Builtin.Frozenset.newClass;have hsub:=sub_set_self;obtain⟨hp,g,d,tk,os⟩:=s;dsimp only
 wp_walk
 refine lL (au ?_);dsimp only;simp only[newObj];refine ae (wpAny_alloc (au ?_));exact au h
end
section
variable {prog:Zh}{w:Zi}{A:Around}{R:Result->Zg->Prop}{c:Addr}{fp wr:List Addr}{G:Array GenState->Array GenState->Prop}{n:Nat}{Pv:Nat->Value->Prop}{Sv:Nat->Zg->Prop}
theorem Ex (W:WalksS prog w A.in1 c fp wr G n Pv Sv) (a:Addr) (na:a∉fp) (val:Nat->Key) {lb:Bool} (hv:∀ i v,Pv i v->∃ z tk,v=Value.str z tk/\val i=Sum.inr z) (hb:n+1<scanBound) :
  ∀ (k i:Nat) (s:Zg),n-i=k->i<=n->Sv i s->r0 prog w lb s.heap a (ck val i) →
   (∀ s',Moved (a::wr) G s s'->r0 prog w lb s'.heap a (ck val n)->R (.ok (.ret .none)) s') →
   codeAny (model prog w) A (.builtin "set.update.loop" ⟨[.ref a,.ref c],[]⟩) R s:=by
 have nw':a∉wr:=fun z=>na (W.sub _ z);have sb:∀ b∈wr,b∈a::wr:=fun b h=>b8 _ h;have pZ:∀ {s s':Zg}{l:List Key},Moved wr G s s'->r0 prog w lb s.heap a l->r0 prog w lb s'.heap a l:=fun mv x=>by obtain⟨o,es,ep,t,ho,r⟩:=x;exact⟨o,es,ep,t,mv.heap a _ nw' ho,r⟩
 intro k
 induction k with
 | zero =>
  intro i s hk hi st x q;have e:i=n:=⋯
  subst e;refine fN qY ?_;rw[mq lG _];show wpAny _ A.in1 (pyNext (.ref c) >>= _) _ _ s;refine ae (W.done s _ _ st fun s' mv=>?_);exact au (q s' (mv.mono sb) (pZ mv x))
 | succ k ih =>
  intro i s hk hi st x q;have lt:i<n:=⋯
  refine fN qY ?_;rw[mq lG _];show wpAny _ A.in1 (pyNext (.ref c) >>= _) _ _ s;refine ae (W.item i s _ _ lt st fun v s' pv st' mv=>?_);obtain⟨z,tk,rfl,hvi⟩:=hv i v pv;have x':=pZ mv x;show wpAny _ A.in1 (holding [.str z tk] (setAdd a (.str z tk)) >>= _) _ _ s';refine ae (cQ ?_);unfold setAdd;refine cQ ?_;refine ae ((bj prog w).pyHash (k:=.inr z) (ox z tk) ?_);have room:⇑(ck val i)+1<scanBound:=by have:=mI val i;left
  refine LD (s:={ s' with toks:=s'.toks+1 }) x' room fun g sg xg=>?_;have x2:r0 prog w lb g a (ck val (i+1)):=by show r0 prog w lb g a (if fR (val i) (ck val i)=true then ck val i else ck val i++[val i]);rw[hvi];exact xg
  refine au ⟨jL lG _,ih (i+1) _ ⋯ lt (W.frame _ s' _ _ st' (ic _) fun b hb o e=>?_) x2 fun s'' mv2 x3=>?_⟩
  ·rw[sg.2 b (fun z:b=a=>na (by rw[←z];exact hb))];exact e
  ·refine q s'' (Moved.trans W.gtrans ((mv.mono sb).then_heap (ic _) fun b o hb e=>?_) mv2) x3;rw[sg.2 b (fun z:b=a=>hb (by rw[z];exact bu))];exact e
end
set_option maxRecDepth 100000 in
set_option maxHeartbeats 4000000 in
theorem xH {prog:Zh}{w:Zi}{E:Zq}{l:Addr}{items:Array Value}{val:Nat->Key}{Q:Zq} (hh:A.handled=none) (hl:s.heap.IsList l items)
  (hval:∀ (i:Nat) (v:Value),items[i]?=some v->∃ z tk,v=Value.str z tk/\val i=Sum.inr z) (hb:items.size+1<scanBound)
  (q:∀ (g:Heap) (tk:Nat),r0 prog w (!w.params.followText "set-order") g s.heap.objs.size (ck val items.size)->(∀ b o,b<s.heap.objs.size->s.heap.get? b=some o->g.get? b=some o) →
   Q (.ref s.heap.objs.size) { s with heap:=g,toks:=tk }):wpAny (model prog w) A (call (.type "set") [.ref l]) Q E s:=by
 obtain⟨c,tl,hmro⟩:=e7.mro;have hmade:=e7.made;have hsub:=e7.sub;refine wpAny_call (codeAny_of_tree ?_);show wpAny _ _ (callAny (.type "set") _) _ _ _;refine au ⟨Code.quiet_builtin _ (by nofun),fN F.entry_type_call ?_⟩;rw[Around.under_plain (weight_type_call_type "set" [.ref l] []) rfl];have h1:=e7.notType;have h2:=e7.canCreate;have hct:=F.typeCall_set_1 (.ref l)
 repeat (any_goals (first | assumption | wp_step))
 refine fO (CW (.ref l) (E:=E) (Q₁:=fun ob s1=>ob=.ref s.heap.objs.size/\s1={ s with heap:=s.heap.push { cls:=.type "set",dict:=none,data:=.set #[] 0 (.fresh 0 0 (!w.params.followText "set-order")) } }) ⟨rfl,rfl⟩) fun r s1 hr=>?_;cases r with
 | error e=>exact hr
 | ok fl =>
  cases fl with
  | ret ob =>
   obtain⟨rfl,rfl⟩:=hr;generalize hg1:s.heap.push { cls:=.type "set",dict:=none,data:=.set #[] 0 (.fresh 0 0 (!w.params.followText "set-order")) }=g1;have hS:g1.get? s.heap.objs.size=some { cls:=.type "set",dict:=none,data:=.set #[] 0 (.fresh 0 0 (!w.params.followText "set-order")) }:=by rw[←hg1];exact bo _ rfl
   have hsz:g1.objs.size=s.heap.objs.size+1:=by rw[←hg1,jB]
   have hkp:∀ b o,s.heap.get? b=some o->g1.get? b=some o:=fun b o e=>by rw[←hg1];exact aL _ e
   have hT:Shared.TypeIs { s with heap:=g1 } (.ref s.heap.objs.size) "set":=⟨_,hS,rfl⟩;have hli:=e7.init.lookup;have hbi:=e7.init.bind (.ref s.heap.objs.size)
   repeat (any_goals (first | assumption | wp_step))
   refine fO (codeAny_call_builtin (R:=wants (fun r s2=>r=.none/\∃ g tk,s2={ s with heap:=g,toks:=tk }/\r0 prog w (!w.params.followText "set-order") g s.heap.objs.size (ck val items.size) ∧
     (∀ b o,b<s.heap.objs.size->s.heap.get? b=some o->g.get? b=some o)) E) e7.init.plain F.entry_set_init (check_set_init_1 hT ?_)) fun r2 s2 hr2=>?_
   ·obtain⟨ol,hol,hcl,nl,hdl⟩:=id hl;obtain⟨ocls,odict,odata,oslots⟩:=ol;simp only at hcl hdl;subst hcl;subst hdl;have hol':=hkp _ _ hol;have hsls:=F.sub_list_set;have hslf:=F.sub_list_frozenset;have hne:(Value.type "list"==Value.type "dict")=false:=by decide
    have hl1:g1.IsList l items:=⟨_,hol',rfl,nl,rfl⟩;have hh3:A.in1.in1.in1.handled=none:=by simp [hh]
    have hlS:l<s.heap.objs.size:=aQ hol;have hneI:l≠g1.objs.size:=by rw[hsz];exact bw (gi hlS)
    have na:s.heap.objs.size∉[g1.objs.size,l]:=by simp only[aY,dS,dX,not_or];exact⟨⋯,jI hlS⟩
    unfold Builtin.«set.__init__» noKeywords Builtin.Frozenset.updateFrom;generalize hPI:pyIter=PI
    wp_walk
    subst hPI;refine wpAny_pyIter_list hl1 ?_;refine ae (wpAny_runValue ?_);refine Ex (lb:=!w.params.followText "set-order") ((Walks.list hh3 _ l hneI items).toS) s.heap.objs.size na val hval hb (items.size-0) 0 _ ⋯ (br _) ⟨⟨_,bo _ rfl,rfl,rfl⟩,(hl1.push _)⟩ ?_ fun s' mv x=>?_
    ·exact⟨_,#[],0,_,aL _ hS,⟨rfl,rfl,rfl⟩,rfl,(fun e he=>by simp at he),(fun k=>by show (false=true)↔_;simp),Zd,by rfl,rfl,rfl,fun z=>absurd rfl z⟩
    ·obtain⟨g,ge,d,tk,os⟩:=s';have eg:ge=s.gens:=mv.gens;have ed:d=s.drawn:=mv.drawn;have eo:os=s.os:=mv.os;subst eg;subst ed;subst eo;refine au ?_;show wpAny _ _ (ret Value.none) _ _ _;refine au ⟨rfl,g,tk,rfl,x,fun b o hb e=>mv.heap b o ?_ (aL _ (hkp b o e))⟩;simp only[aY,dS,dX,not_or];rw[hsz];exact⟨bw hb,bw (gi hb)⟩
   ·cases r2 with
    | error e=>exact hr2
    | ok fl2 =>
     cases fl2 with
     | ret v =>
      obtain⟨rfl,g,tk,rfl,x1,x2⟩:=hr2
      repeat (any_goals (first | assumption | wp_step))
      exact q _ _ x1 x2
     | _=>exact hr2.elim
  | _=>exact hr.elim
end
section
theorem fD:Slot "set_iterator" "__next__" "set_iterator.__next__" :=
 .of (owner:="set_iterator") (n:="__next__") (by rw[typeLookup_type,builtinLookup_eq_fast];ext) (by nofun) (by nofun) (by nofun)
  (by first | exact .inl (by nofun) | exact .inr (by nofun)) (by rw[isSubtype_type];ext)
theorem om:entryFor table "set_iterator.__next__"=some Builtin.«set_iterator.__next__»:=entryFor_of_tree (by ext)
theorem Cb:Manifest.owners.lookup (String.ofList ['r','o','t','a','r','e','t','i','_','t','e','s'].reverse)=some Manifest.sig_set_iterator:=by ext
theorem qe (a:Value):argsOk "set_iterator.__next__" ⟨[a],[]⟩:=by unfold argsOk;rw[signature?_of (id:="set_iterator.__next__") (n:=['_','_','t','x','e','n','_','_']) (o:=['r','o','t','a','r','e','t','i','_','t','e','s']) (by ext) Cb];ext
theorem yo:entryFor table "set.__iter__"=some Builtin.«frozenset.__iter__»:=entryFor_alias (id':="frozenset.__iter__") (by ext) rfl (by nofun) (by ext)
noncomputable def mf (f:Value) (i:Nat) (a:Addr) (n ep:Nat):Obj:={ cls:=.type "set_iterator",data:=.fields #[f,.int i 0,.ref a,.int n 0,.int ep 0] }
theorem pD {α:Type}:∀ {l:List α}{j:Nat} (h:j<⇑l),(l[j]::l.eraseIdx j).Perm l
 | a::l,0,_=>List.Perm.refl _
 | a::l,j+1,h=>(List.Perm.swap a _ _).trans ((pD (l:=l) (j:=j) (by simpa using h)).cons a)
section
variable {prog:Zh}{w:Zi}{A:Around}{E:Zq}{s:Zg}
theorem Fv {r:Addr}{Q:Bool->Zg->Prop} (hT:s.TypeIs (.ref r) "set") (h:Q false s):wpAny (model prog w) A (Builtin.List.listLengthHint (.ref r)) Q E s:=by
 unfold Builtin.List.listLengthHint;refine ae (wpAny_specialOf hT F.slot_set_len.lookup ?_);generalize ĕ:("set.__len__":String)=id0
 wp_delta
 rw[show splitId id0=some ("set","__len__") from by subst ĕ;nofun];subst ĕ;refine ae (wpAny_isInstance (T:="set") (b:=true) hT (by rw[isSubtype_type];ext) ?_);refine wpAny_ite_split (fun hab=>absurd hab (by decide)) (fun _=>?_);refine wpAny_ite_split (fun _=>?_) (fun hab=>absurd (by nofun) hab);refine ae (wpAny_typeOf hT ?_);exact au h
theorem Cr {it a:Addr}{ep i slot nx:Nat}{t:SetTable}{x:Value}{Q:Option Value->Zg->Prop} (hi:s.heap.get? it=some (mf (.int slot 0) i a es.size ep)) (ho:s.heap.get? a=some o) (hd:o.data=.set es ep t) (hf:t.fits es.size=true)
  (hN:∀ {A':Around}{E':Zq}{Q':Option (Value×Nat)->Zg->Prop},Q' (some (x,nx)) s->wpAny (model prog w) A' (setNext a slot i ep) Q' E' s)
  (k:∀ h',h'.get? it=some (mf (.int nx 0) (i+1) a es.size ep)->Heap.SameBut it s.heap h'->Q (some x) { s with heap:=h' }):wpAny (model prog w) A (pyNext (.ref it)) Q E s:=by
 have ty:s.TypeIs (.ref it) "set_iterator":=⟨_,hi,rfl⟩;unfold pyNext;refine ae (lM (lN (name:=Str.ofString "__next__") ty fD (gq fD ty om ?_ (qe _))));unfold Builtin.«set_iterator.__next__» slotArgs;refine show wpAny _ _ (fieldsOf (.ref it) >>= _) _ _ s from ae (iO hi rfl ?_)
 refine show wpAny _ _ (setEntries a >>= _) _ _ s from ae (nZ ho hd hf ?_)
 rw[ai (by simp)];refine show wpAny _ _ (setNext a ((slot:Nat):Int).toNat ((i:Nat):Int).toNat ((ep:Nat):Int).toNat >>= _) _ _ s from ?_
 rw[cC,cC,cC];refine ae (hN ?_);refine show wpAny _ _ (setField (.ref it) 0 (rawInt (nx:Int)) >>= _) _ _ s from ae (wpAny_setField_rec hi (by simp) fun h1 g1 b1=>?_)
 refine show wpAny _ _ (setField (.ref it) 1 (rawInt ((i:Int)+1)) >>= _) _ _ { s with heap:=h1 } from ae (wpAny_setField_rec g1 (by simp) fun h2 g2 b2=>?_)
 exact au ⟨_,rfl,au (k h2 (by rw[g2];rfl) (b1.trans b2))⟩
theorem zz {f v1 v2 v3 v4:Value} (hh:A.handled=none) (hi:s.heap.get? it=some { cls:=.type "set_iterator",data:=.fields #[f,v1,v2,v3,v4] }) (k:∀ h',Heap.ExtBut it s.heap h'->Q none { s with heap:=h' }) :
  wpAny (model prog w) A.in1 (do
    setField (.ref it) 2 .none
    let e ←newExc (.type "StopIteration") []
    raiseNew e) (fun (fin:PySem.Fin) s'=>∃ v,fin=.done (.ret v)/\wpAny (model prog w) A (pure (some v)) Q E s')
   (fun e s'=>wpAny (model prog w) A (do if (←isInstance e (.type "StopIteration"))=true then pure none else throw e) Q E s') s:=by
 refine ae (wpAny_setField_rec hi (by simp) fun h1 g1 b1=>?_);refine show wpAny _ _ (newExc (.type "StopIteration") [] >>= _) _ _ _ from ae ?_
 simp only[newExc,newTuple];refine ae (gr (ae (m:=firstArgMember _ _) (wpAny_of_eq (a:=Value.none) (by first | rfl | (simp only[firstArgMember];rfl)) ?_)) (by size_fits));refine gr ?_ (by size_fits);simp only[raiseNew];refine ae (wpAny_handled ?_);rw[show A.in1.handled=none from hh];refine ae (au (wpAny_throw ?_));refine ae (wpAny_isInstance (T:="StopIteration") (b:=true) ⟨_,bo _ rfl,rfl⟩ isSubtype_stop (au ?_));exact (k _ ((b1.extBut.push _).push _))
theorem sD {it a:Addr}{ep i slot:Nat}{t:SetTable}{Q:Option Value->Zg->Prop} (hh:A.handled=none) (hi:s.heap.get? it=some (mf (.int slot 0) i a es.size ep)) (ho:s.heap.get? a=some o) (hd:o.data=.set es ep t) (hf:t.fits es.size=true)
  (hN:∀ {A':Around}{E':Zq}{Q':Option (Value×Nat)->Zg->Prop},Q' none s->wpAny (model prog w) A' (setNext a slot i ep) Q' E' s)
  (k:∀ h',Heap.ExtBut it s.heap h'->Q none { s with heap:=h' }):wpAny (model prog w) A (pyNext (.ref it)) Q E s:=by
 have ty:s.TypeIs (.ref it) "set_iterator":=⟨_,hi,rfl⟩;unfold pyNext;refine ae (lM (lN (name:=Str.ofString "__next__") ty fD (gq fD ty om ?_ (qe _))));unfold Builtin.«set_iterator.__next__» slotArgs;refine show wpAny _ _ (fieldsOf (.ref it) >>= _) _ _ s from ae (iO hi rfl ?_)
 refine show wpAny _ _ (setEntries a >>= _) _ _ s from ae (nZ ho hd hf ?_)
 rw[ai (by simp)];refine show wpAny _ _ (setNext a ((slot:Nat):Int).toNat ((i:Nat):Int).toNat ((ep:Nat):Int).toNat >>= _) _ _ s from ?_
 rw[cC,cC,cC];exact ae (hN (zz hh hi k))
theorem Jr {it a pt:Addr}{o ot:Obj}{ps:Array Value}{ep i pl e1:Nat}{tk:Tok}{t:SetTable}{h0:Int}{x:Value}{Q:Option Value->Zg->Prop} (hi:s.heap.get? it=some (mf (.ref pt) i a es.size ep)) (ho:s.heap.get? a=some o) (hd:o.data=.set es ep t) (hf:t.fits es.size=true)
  (hp:s.heap.get? pt=some ot) (hpd:ot.data=.seq ps e1) (hpi:ps[i]?=some (.int pl tk)) (hx:es[pl]?=some (h0,x))
  (k:∀ h',h'.get? it=some (mf (.ref pt) (i+1) a es.size ep)->Heap.SameBut it s.heap h'->Q (some x) { s with heap:=h' }):wpAny (model prog w) A (pyNext (.ref it)) Q E s:=by
 have ty:s.TypeIs (.ref it) "set_iterator":=⟨_,hi,rfl⟩;unfold pyNext;refine ae (lM (lN (name:=Str.ofString "__next__") ty fD (gq fD ty om ?_ (qe _))));unfold Builtin.«set_iterator.__next__» slotArgs;refine show wpAny _ _ (fieldsOf (.ref it) >>= _) _ _ s from ae (iO hi rfl ?_)
 refine show wpAny _ _ (setEntries a >>= _) _ _ s from ae (nZ ho hd hf ?_)
 rw[ai (by simp)];refine show wpAny _ _ (seqItems? (.ref pt) >>= _) _ _ s from ae (wpAny_seqItems hp hpd ?_)
 simp only[cC,hpi];refine ae ?_;unfold setNextDrawn;refine ae (lO ho hd hf ?_);dsimp only;rw[ai (by simp),hx];refine au ?_;refine show wpAny _ _ (setField (.ref it) 1 (rawInt ((i:Int)+1)) >>= _) _ _ s from ae (wpAny_setField_rec hi (by simp) fun h2 g2 b2=>?_)
 exact au ⟨_,rfl,au (k h2 (by rw[g2];rfl) b2)⟩
theorem zy {it a pt:Addr}{o ot:Obj}{ps:Array Value}{ep i e1:Nat}{t:SetTable}{Q:Option Value->Zg->Prop} (hh:A.handled=none) (hi:s.heap.get? it=some (mf (.ref pt) i a es.size ep)) (ho:s.heap.get? a=some o) (hd:o.data=.set es ep t) (hf:t.fits es.size=true)
  (hp:s.heap.get? pt=some ot) (hpd:ot.data=.seq ps e1) (hpi:ps[i]?=none) (k:∀ h',Heap.ExtBut it s.heap h'->Q none { s with heap:=h' }):wpAny (model prog w) A (pyNext (.ref it)) Q E s:=by
 have ty:s.TypeIs (.ref it) "set_iterator":=⟨_,hi,rfl⟩;unfold pyNext;refine ae (lM (lN (name:=Str.ofString "__next__") ty fD (gq fD ty om ?_ (qe _))));unfold Builtin.«set_iterator.__next__» slotArgs;refine show wpAny _ _ (fieldsOf (.ref it) >>= _) _ _ s from ae (iO hi rfl ?_)
 refine show wpAny _ _ (setEntries a >>= _) _ _ s from ae (nZ ho hd hf ?_)
 rw[ai (by simp)];refine show wpAny _ _ (seqItems? (.ref pt) >>= _) _ _ s from ae (wpAny_seqItems hp hpd ?_)
 simp only[cC,hpi];refine ae (wpAny_setField_rec hi (by simp) fun h1 g1 b1=>?_);exact zz (s:={ s with heap:=h1 }) hh (g1.trans rfl) fun h' x=>k h' (b1.extBut.trans x)
theorem zO {M:Model}{src:Source}{n:Nat}{Q:Nat->Zg->Prop} (hn:n≠0) (k:∀ j d,j<n->Q j { s with drawn:=d }):wpAny M A (choose src n) Q E s:=fun _ _ _=>⟨hn,k _ _ (Nat.mod_lt _ (Nat.pos_of_ne_zero hn))⟩
theorem yk {M:Model}{α:Type}:∀ (n:Nat) (xs:List α) (s:Zg) {Q:List α->Zg->Prop},n=⇑xs->(∀ ys d,ys.Perm xs->Q ys { s with drawn:=d })->wpAny M A (drawOrder n xs) Q E s
 | 0,xs,s,Q,e,k=>by have:=k [] s.drawn (by rw[iK.mp e.symm]);unfold drawOrder;exact au this
 | n+1,[],s,Q,e,k=>by cases e
 | n+1,x::xs,s,Q,e,k=>by unfold drawOrder;refine ae (zO (by simp) fun j d hj=>?_);rw[aC hj];dsimp only;refine ae (yk n _ _ (by rw[List.length_eraseIdx_of_lt hj];simp at e ⊢;left) fun ys d2 hp=>au (k _ _ ?_));exact (hp.cons _).trans (pD hj)
theorem Ce {α:Type} (nx:Nat->Nat):∀ (f k:Nat) (l:List α) (out:Array α),f=⇑l->(pickOrder.go nx f k l out).toList.Perm (out.toList++l)
 | 0,k,l,out,e=>by rw[iK.mp e.symm,dQ];unfold pickOrder.go;exact List.Perm.refl _
 | f+1,k,l,out,e=>by
  have hl:0<⇑l:=⋯
  have hj:nx k%⇑l<⇑l:=Nat.mod_lt _ hl;unfold pickOrder.go;rw[aC hj];dsimp only;refine (Ce nx f (k+1) _ _ (by rw[List.length_eraseIdx_of_lt hj];left)).trans ?_;rw[Array.toList_push,cD];exact (pD hj).append_left _
theorem rO {α:Type} (nx:Nat->Nat) (xs:Array α):(pickOrder nx xs).toList.Perm xs.toList:=by
 have:=Ce nx xs.size 0 xs.toList #[] (by simp);show (pickOrder.go nx xs.size 0 xs.toList #[]).toList.Perm xs.toList
 simpa using this
theorem FP {ep i slot:Nat}{t:SetTable}{Q:Option (Value×Nat)->Zg->Prop} (hT:w.params.followText "set-order"=true) (ho:s.heap.get? a=some o) (hd:o.data=.set es ep t) (hf:t.fits es.size=true)
  (k:Q (((pickOrder (w.params.setOrder a ep) es)[i]?).map fun e=>(e.2,slot)) s):wpAny (model prog w) A (setNext a slot i ep) Q E s:=by
 unfold setNext;refine ae (lO ho hd hf ?_);dsimp only;refine ae (show wpAny (model prog w) A (do return (←ask).params.followText "set-order") _ _ s from ae (lL (au ?_)));rw[aq (show (Setting.params ⟨(model prog w).prog,(model prog w).w.params⟩).followText "set-order"=true from hT),ai (by simp)];refine ae ?_;unfold setWalk;refine ae (lO ho hd hf ?_);dsimp only;refine ae (show wpAny (model prog w) A (do return (←ask).params.followText "set-order") _ _ s from ae (lL (au ?_)));rw[aq (show (Setting.params ⟨(model prog w).prog,(model prog w).w.params⟩).followText "set-order"=true from hT)];refine ae (lL (au ?_));exact au k
theorem FO {ep i slot:Nat}{t:SetTable}{Q:Option (Value×Nat)->Zg->Prop} (hT:w.params.followText "set-order"=false) (ho:s.heap.get? a=some o) (hd:o.data=.set es ep t) (hf:t.fits es.size=true) (h1:es.size<=1) (hl:t.led=true)
  (k:Q (match es[SetTable.below t.place slot]?,t.place[SetTable.below t.place slot]? with | some (_,x),some j=>some (x,j+1) | _,_=>none) s):wpAny (model prog w) A (setNext a slot i ep) Q E s:=by
 unfold setNext;refine ae (lO ho hd hf ?_);dsimp only;refine ae (show wpAny (model prog w) A (do return (←ask).params.followText "set-order") _ _ s from ae (lL (au ?_)));rw[ai (by rw[show (Setting.params ⟨(model prog w).prog,(model prog w).w.params⟩).followText "set-order"=w.params.followText "set-order" from rfl,hT];decide)];split
 ·rename_i hdr
  exact absurd hdr (by show ¬ (!t.plain&&decide (es.size>1))=true;rw[aF ⋯,Bool.and_false];decide)
 ·refine ae (show wpAny (model prog w) A (if (!t.led&&!es.isEmpty)=true then unsupported "set:maker-not-led" else pure ()) _ _ s from ?_);rw[hl,ai (by simp)];exact au (au k)
theorem K0 {t:SetTable}{Q:Zq} (ho:s.heap.get? a=some o) (hex:o.ExactSet) (hd:o.data=.set es ep t) (hf:t.fits es.size=true) (hb:es.size<scanBound) (hpl:es.size≠0->t.plain=false)
  (k1:(w.params.followText "set-order"=true∨es.size<=1)->Q (.ref s.heap.objs.size) { s with heap:=s.heap.push (mf (.int ((0:Nat):Int) 0) 0 a es.size ep) })
  (k2:w.params.followText "set-order"=false->∀ (ps:Za) d,ps.Perm (List.range es.size)->Q (.ref (s.heap.objs.size+1)) { s with heap:=(s.heap.push { cls:=.type "tuple",data:=.seq (ps.map fun i:Nat=>Value.int (i:Int) 0).toArray }).push (mf (.ref s.heap.objs.size) 0 a es.size ep),drawn:=d }) :
  wpAny (model prog w) A (pyIter (.ref a)) Q E s:=by
 have ty:s.TypeIs (.ref a) "set":=⟨o,ho,hex.1⟩;refine wpAny_pyIter_slot ty F.slot_set_iter (gq F.slot_set_iter ty yo ?_ (F.args_set_iter_1 _));unfold Builtin.«frozenset.__iter__» Builtin.Frozenset.slot0 slotArgs;simp only[List.isEmpty_nil,Bool.not_true,i9,↓reduceIte,bind_assoc,nN,bne_self_eq_false];unfold Builtin.Frozenset.addrOf Builtin.Frozenset.sizeOf;refine ae (au ?_)
 try dsimp only
 refine ae (au ?_);refine ae (ae (nZ ho hd hf (au ?_)));unfold setDrawn;refine ae (ae (lO ho hd hf ?_));dsimp only;refine ae (show wpAny (model prog w) A.in1 (do return (←ask).params.followText "set-order") _ _ s from ae (lL (au ?_)));refine au ?_;have done:(w.params.followText "set-order"=true∨es.size<=1)->wpAny (model prog w) A.in1 (do
   let first ←pure (rawInt 0);let e ←setEpoch a;let f ←newFields "set_iterator" [first,rawInt 0,Value.ref a,rawInt (es.size:Int),rawInt (e:Int)]
   ret f) (fun fin s'=>∃ v,fin=PySem.Fin.done (Flow.ret v)/\∃ T' r,s'.TypeIs v T'/\typeLookup (Value.type T') (Str.ofString "__next__")=pure (some r)/\Q v s') E s:=fun hc=>by
  refine ae (au (ae (wpAny_setEpoch_of ho hd hf ?_)));refine ae (gr (au ⟨_,rfl,"set_iterator",_,⟨_,bo _ rfl,rfl⟩,fD.lookup,?_⟩));exact k1 hc
 split
 ·rename_i hc
  have hc':(!w.params.followText "set-order"&&(!t.plain&&decide (es.size>1)))=true:=hc;rw[bV,bV,bE] at hc';have hT:w.params.followText "set-order"=false:=by simpa using hc'.1
  refine ae (yk es.size (List.range es.size) _ (by simp) fun ps d hp=>?_);have hz:⇑(ps.map fun i:Nat=>rawInt (i:Int))<=sizeLine:=by rw[ak,hp.length_eq,bZ];exact fits_of_scanBound hb
  refine ae (wpAny_newTuple ?_ hz);have ho1:=aL (seqObj "tuple" (ps.map fun i:Nat=>rawInt (i:Int)).toArray 0) ho;refine ae (wpAny_setEpoch_of ho1 hd hf ?_);refine ae (gr (au ⟨_,rfl,"set_iterator",_,⟨_,bo _ rfl,rfl⟩,fD.lookup,?_⟩));have:=k2 hT ps d hp;rw[←size_push' s.heap (seqObj "tuple" (ps.map fun i:Nat=>rawInt (i:Int)).toArray 0)] at this;exact this
 ·rename_i hc
  have hc':¬ (!w.params.followText "set-order"&&(!t.plain&&decide (es.size>1)))=true:=hc;refine done ?_
  by_cases h1:es.size<=1
  ·exact .inr h1
  ·apply Or.inl;rw[hpl ⋯,a9 (show es.size>1 by left)] at hc'
   simpa using hc'
end
end
section
theorem z0:Slot "set_iterator" "__iter__" "set_iterator.__iter__" :=
 .of (owner:="set_iterator") (n:="__iter__") (by rw[typeLookup_type,builtinLookup_eq_fast];ext) (by nofun) (by nofun) (by nofun)
  (by first | exact .inl (by nofun) | exact .inr (by nofun)) (by rw[isSubtype_type];ext)
theorem Dj:entryFor table "set_iterator.__iter__"=some Builtin.«dict_keyiterator.__iter__»:=entryFor_alias (id':="dict_keyiterator.__iter__") (by ext) rfl (by nofun) (by ext)
theorem EI (a:Value):argsOk "set_iterator.__iter__" ⟨[a],[]⟩:=by unfold argsOk;rw[signature?_of (id:="set_iterator.__iter__") (n:=['_','_','r','e','t','i','_','_']) (o:=['r','o','t','a','r','e','t','i','_','t','e','s']) (by ext) Cb];ext
section
variable {prog:Zh}{w:Zi}{A:Around}{E:Zq}{s:Zg}
theorem Bf {f:Value}{i n ep:Nat}{Q:Zq} (hi:s.heap.get? it=some (mf f i a n ep)) (h:Q (.ref it) s):wpAny (model prog w) A (pyIter (.ref it)) Q E s:=by have ty:s.TypeIs (.ref it) "set_iterator":=⟨_,hi,rfl⟩;refine wpAny_pyIter_slot ty z0 (gq z0 ty Dj ?_ (EI _));show wpAny _ _ (ret (.ref it)) _ _ s;exact au ⟨_,rfl,"set_iterator",_,ty,fD.lookup,h⟩
theorem J1 {I a:Addr}{t:SetTable} (hh:A.handled=none) (hne:a≠I) (hT:w.params.followText "set-order"=true) (hd:o.data=.set es ep t) (hf:t.fits es.size=true) :
  Walks prog w A I [I,a] [I] es.size (fun i v=>((pickOrder (w.params.setOrder a ep) es).toList.map (·.2))[i]?=some v) (fun i h=>h.get? I=some (mf (.int ((0:Nat):Int) 0) i a es.size ep)/\h.get? a=some o) where
 sub:=fun b hb=>by simp at hb;simp [hb]
 frame:=fun _ _ _ st hk=>⟨hk I (by simp) _ st.1,hk a (by simp) _ st.2⟩
 item:=fun i s Q E hi st hQ=>by
  have hl:i<(pickOrder (w.params.setOrder a ep) es).size:=by rw[←eP,(rO _ es).length_eq,eP];exact hi
  refine Cr st.1 st.2 hd hf (x:=(pickOrder (w.params.setOrder a ep) es)[i].2) (nx:=0) (fun q=>FP hT st.2 hd hf (by rw[jK hl];exact q)) fun h' g b=>?_;refine hQ _ h' s.toks ?_ ⟨g,(b.2 a hne).trans st.2⟩ fun c u hc e=>(b.2 c (by simpa using hc)).trans e;rw[aX,ji,jK hl];rfl
 done:=fun s Q E st hQ=>by
  have hl:(pickOrder (w.params.setOrder a ep) es).size=es.size:=by rw[←eP,(rO _ es).length_eq,eP]
  exact sD hh st.1 st.2 hd hf (fun q=>FP hT st.2 hd hf (by rw[nX ⋯];exact q)) fun h' x=>hQ h' s.toks fun b u hb e=>x b u (by simpa using hb) e
 self:=fun _ _ _ _ st hQ=>Bf st.1 hQ
theorem Jz {I a pt:Addr}{o ot:Obj}{ep e1:Nat}{t:SetTable}{ps:Za} (hh:A.handled=none) (hne:a≠I) (hnp:pt≠I) (hd:o.data=.set es ep t) (hf:t.fits es.size=true) (hpd:ot.data=.seq (ps.map fun i:Nat=>Value.int (i:Int) 0).toArray e1) (hp:ps.Perm (List.range es.size)) :
  Walks prog w A I [I,a,pt] [I] es.size (fun i v=>(ps.map fun j=>(es.getD j (0,.none)).2)[i]?=some v) (fun i h=>h.get? I=some (mf (.ref pt) i a es.size ep)/\h.get? a=some o/\h.get? pt=some ot) where
 sub:=fun b hb=>by simp at hb;simp [hb]
 frame:=fun _ _ _ st hk=>⟨hk I (by simp) _ st.1,hk a (by simp) _ st.2.1,hk pt (by simp) _ st.2.2⟩
 item:=fun i s Q E hi st hQ=>by
  have hl:i<⇑ps:=by rw[hp.length_eq,bZ];exact hi
  have hm:ps[i]<es.size:=cE.mp (hp.mem_iff.mp (cj hl));refine Jr (pl:=ps[i]) (tk:=0) (h0:=es[ps[i]].1) (x:=es[ps[i]].2) st.1 st.2.1 hd hf st.2.2 hpd (by rw[List.getElem?_toArray,aX,aC hl];rfl) (by rw[jK hm]) fun h' g b=>?_;refine hQ _ h' s.toks ?_ ⟨g,(b.2 a hne).trans st.2.1,(b.2 pt hnp).trans st.2.2⟩ fun c u hc e=>(b.2 c (by simpa using hc)).trans e;rw[aX,aC hl];simp [Array.getD,hm]
 done:=fun s Q E st hQ=>by
  have hl:⇑ps=es.size:=by rw[hp.length_eq,bZ]
  exact zy hh st.1 st.2.1 hd hf st.2.2 hpd (by rw[List.getElem?_toArray,aX,fI ⋯];rfl) fun h' x=>hQ h' s.toks fun b u hb e=>x b u (by simpa using hb) e
 self:=fun _ _ _ _ st hQ=>Bf st.1 hQ
theorem B6 {xs:Array Nat} (h:xs.size=1):∃ p,xs=#[p]:=⟨xs[0],Array.ext (by simp [h]) fun j h1 h2=>by
 have:j=0:=⋯
 subst this;rfl⟩
theorem v8 (p:Nat):SetTable.below #[p] 0=0/\SetTable.below #[p] (p+1)=1:=by
 constructor
 ·simp [SetTable.below,SetTable.below.go]
 ·simp [SetTable.below,SetTable.below.go]
theorem J0 {I a:Addr}{t:SetTable} (hh:A.handled=none) (hne:a≠I) (hT:w.params.followText "set-order"=false) (hd:o.data=.set es ep t) (hf:t.fits es.size=true) (h1:es.size<=1) (hled:t.led=true) :
  Walks prog w A I [I,a] [I] es.size (fun i v=>(es.toList.map (·.2))[i]?=some v) (fun i h=>h.get? I=some (mf (.int (((if i=0 then 0 else t.place.getD 0 0+1):Nat):Int) 0) i a es.size ep)/\h.get? a=some o) where
 sub:=fun b hb=>by simp at hb;simp [hb]
 frame:=fun _ _ _ st hk=>⟨hk I (by simp) _ st.1,hk a (by simp) _ st.2⟩
 item:=fun i s Q E hi st hQ=>by
  obtain rfl:i=0:=⋯
  have hz:t.place.size=1:=by simp only[SetTable.fits,bV,ie] at hf;left
  obtain⟨p,hp⟩:=B6 hz;have h0:0<es.size:=hi;refine Cr (slot:=0) st.1 st.2 hd hf (x:=es[0].2) (nx:=p+1) (fun q=>FO hT st.2 hd hf h1 hled (by rw[hp,(v8 p).1,jK h0];exact q)) fun h' g b=>?_;refine hQ _ h' s.toks ?_ ⟨by rw[g,hp];rfl,(b.2 a hne).trans st.2⟩ fun c u hc e=>(b.2 c (by simpa using hc)).trans e;rw[aX,ji,jK h0];rfl
 done:=fun s Q E st hQ=>by
  have hz:t.place.size=es.size:=by simp only[SetTable.fits,bV,ie] at hf;exact hf.1
  refine sD hh st.1 st.2 hd hf (fun q=>FO hT st.2 hd hf h1 hled ?_) fun h' x=>hQ h' s.toks fun b u hb e=>x b u (by simpa using hb) e
  by_cases h0:es.size=0
  ·rw[nX ⋯];exact q
  ·obtain⟨p,hp⟩:=B6 (xs:=t.place) ⋯;rw[ai h0,hp];rw[show (#[p]:Array Nat).getD 0 0=p from rfl,(v8 p).2,nX ⋯];exact q
 self:=fun _ _ _ _ st hQ=>Bf st.1 hQ
theorem DG {t:SetTable}{Q:Zq} (hh:A.handled=none) (ho:s.heap.get? a=some o) (hex:o.ExactSet) (hd:o.data=.set es ep t) (hf:t.fits es.size=true) (hb:es.size<scanBound) (hled:t.led=!w.params.followText "set-order") (hpl:es.size≠0->t.plain=false)
  (k:∀ (I:Addr) (fp:List Addr) (St:Nat->Heap->Prop) (vs:Zc) (h':Heap) (d:Drawn),vs.Perm (es.toList.map (·.2))->Walks prog w A I fp [I] es.size (fun i v=>vs[i]?=some v) St->St 0 h'->(∀ b u,s.heap.get? b=some u->h'.get? b=some u)->(∀ b∈fp,b=a∨s.heap.objs.size<=b)->s.heap.objs.size<=I->Q (.ref I) { s with heap:=h',drawn:=d }) :
  wpAny (model prog w) A (pyIter (.ref a)) Q E s:=by
 have la:a<s.heap.objs.size:=aQ ho;refine K0 ho hex hd hf hb hpl (fun hc=>?_) fun hT ps d hp=>?_
 ·have gI:(s.heap.push (mf (.int ((0:Nat):Int) 0) 0 a es.size ep)).get? s.heap.objs.size=some (mf (.int ((0:Nat):Int) 0) 0 a es.size ep):=bo _ rfl;have ga:=aL (mf (.int ((0:Nat):Int) 0) 0 a es.size ep) ho;have fpo:∀ b∈[s.heap.objs.size,a],b=a∨s.heap.objs.size<=b:=fun b hb=>by
   rcases aY.mp hb with rfl | hb
   ·exact .inr (aw _)
   ·exact .inl (aS.mp hb)
  cases hT:w.params.followText "set-order" with
  | true=>exact k _ _ _ _ _ s.drawn ((rO _ es).map _) (J1 hh (bw la) hT hd hf) ⟨gI,ga⟩ (fun b u e=>aL _ e) fpo (aw _)
  | false =>
   have h1:es.size<=1:=hc.resolve_left fun z=>by rw[hT] at z;cases z
   rw[hT] at hled;exact k _ _ _ _ _ s.drawn (List.Perm.refl _) (J0 hh (bw la) hT hd hf h1 hled) ⟨gI,ga⟩ (fun b u e=>aL _ e) fpo (aw _)
 ·have sz:(s.heap.push { cls:=.type "tuple",data:=.seq (ps.map fun i:Nat=>Value.int (i:Int) 0).toArray }).objs.size=s.heap.objs.size+1:=jB ..;have gI:((s.heap.push { cls:=.type "tuple",data:=.seq (ps.map fun i:Nat=>Value.int (i:Int) 0).toArray }).push (mf (.ref s.heap.objs.size) 0 a es.size ep)).get? (s.heap.objs.size+1)=some (mf (.ref s.heap.objs.size) 0 a es.size ep):=by
   rw[←sz];exact bo _ rfl
  have gp:((s.heap.push { cls:=.type "tuple",data:=.seq (ps.map fun i:Nat=>Value.int (i:Int) 0).toArray }).push (mf (.ref s.heap.objs.size) 0 a es.size ep)).get? s.heap.objs.size=some { cls:=.type "tuple",data:=.seq (ps.map fun i:Nat=>Value.int (i:Int) 0).toArray }:=aL _ (bo _ rfl);have ga:=aL (mf (.ref s.heap.objs.size) 0 a es.size ep) (aL { cls:=.type "tuple",data:=.seq (ps.map fun i:Nat=>Value.int (i:Int) 0).toArray } ho);refine k _ _ _ (ps.map fun j=>(es.getD j (0,.none)).2) _ d ?_ (Jz hh (bw (gi la)) (bw (lF _)) hd hf rfl hp) ⟨gI,ga,gp⟩ (fun b u e=>aL _ (aL _ e)) (fun b hb=>?_) (ic _)
  ·refine (hp.map _).trans (List.Perm.of_eq ?_);apply nI;intro i;rw[aX,aX]
   by_cases hi:i<es.size
   ·rw[lx hi,ji,jK hi];simp [Array.getD,hi]
   ·rw[fI (by rw[bZ];exact Nat.le_of_not_lt hi),fI (by rw[eP];exact Nat.le_of_not_lt hi)];rfl
  ·rcases aY.mp hb with rfl | hb
   ·exact .inr (ic _)
   ·rcases aY.mp hb with rfl | hb
    ·exact .inl rfl
    ·rw[aS.mp hb];exact .inr (aw _)
theorem CY {t:SetTable}{R:Zc->Zg->Prop} (hh:A.handled=none) (ho:s.heap.get? a=some o) (hex:o.ExactSet) (hd:o.data=.set es ep t) (hf:t.fits es.size=true) (hb:es.size<scanBound) (hled:t.led=!w.params.followText "set-order") (hpl:es.size≠0->t.plain=false)
  (h:∀ (h':Heap) (tk:Nat) (d:Drawn) (vs:Zc),(∀ b u,s.heap.get? b=some u->h'.get? b=some u)->vs.Perm (es.toList.map (·.2))->R vs { s with heap:=h',toks:=tk,drawn:=d }) :
  wpAny (model prog w) A (collect (.ref a)) R E s:=by
 have la:a<s.heap.objs.size:=aQ ho;unfold collect;refine ae (wpAny_runValue (fN entry_proto_collect' ?_));rw[mq PySem.F.plain_proto_collect _];show wpAny _ A.in1 (newList [] >>= fun l=>again (.builtin "list.__iadd__" ⟨[l,.ref a],[]⟩)) _ _ s;refine ae (gr ?_);refine au ⟨jL PySem.F.plain_list_iadd _,fN entry_list_iadd' ?_⟩;rw[mq PySem.F.plain_list_iadd _];have hS:(s.heap.push { cls:=.type "list",data:=.seq ([]:Zc).toArray }).get? s.heap.objs.size=some { cls:=.type "list",data:=.seq #[] }:=bo _ rfl;have szS:(s.heap.push { cls:=.type "list",data:=.seq ([]:Zc).toArray }).objs.size=s.heap.objs.size+1:=jB ..;have ho1:=aL { cls:=.type "list",data:=.seq ([]:Zc).toArray } ho;have kp1:∀ b u,s.heap.get? b=some u->(s.heap.push { cls:=.type "list",data:=.seq ([]:Zc).toArray }).get? b=some u:=fun b u e=>aL _ e;generalize s.heap.push { cls:=.type "list",data:=.seq ([]:Zc).toArray }=h1 at hS szS ho1 kp1;show wpAny _ A.in1 (Builtin.List.listExtendWith (.ref s.heap.objs.size) (.ref a) (.ref s.heap.objs.size)) _ _ _;unfold Builtin.List.listExtendWith;refine ae (wpAny_typeOf (T:="set") ⟨o,ho1,hex.1⟩ ?_);have e1:Builtin.List.listSameRef (.ref s.heap.objs.size) (.ref a)=false:=by simp [Builtin.List.listSameRef,jI la]
 have e2:(Value.type "set"==Value.type "list")=false:=by decide
 have e3:(Value.type "set"==Value.type "tuple")=false:=by decide
 simp only[e1,e2,e3,Bool.or_false,i9,eG];refine ae (DG (A:=A.in1) (s:={ s with heap:=h1 }) hh ho1 hex hd hf hb hled hpl fun I fp St vs h2 d hperm W st kp2 fpo lI=>?_);have hsf:s.heap.objs.size∉fp:=fun hm=>by
  rcases fpo _ hm with e | e
  ·exact absurd e (jI la)
  ·exact absurd (bM (Nat.le_of_eq szS.symm) e) (Nat.not_succ_le_self _)
 have lI':h1.objs.size<=I:=lI;have lv:⇑vs=es.size:=by rw[hperm.length_eq,ak,eP]
 have key:∀ (h3:Heap) (c₁ tk:Nat),St 0 h3->(∀ b u,s.heap.get? b=some u->h3.get? b=some u)->h3.get? s.heap.objs.size=some { cls:=.type "list",data:=.seq #[] c₁ } →
   codeAny (model prog w) A (.builtin "list.extend.loop" ⟨[.ref s.heap.objs.size,.ref I,.ref s.heap.objs.size],[]⟩) (fun (q:Result) (s':Zg)=>∃ (h':Heap) (tk:Nat) (c':Nat),q=.ok (.ret (.ref s.heap.objs.size))/\s'={ s with heap:=h',toks:=tk,drawn:=d } ∧
    (∀ b u,s.heap.get? b=some u->h'.get? b=some u)/\h'.get? s.heap.objs.size=some { cls:=.type "list",dict:=none,data:=.seq vs.toArray c',slots:=#[] }) { s with heap:=h3,toks:=tk,drawn:=d }:=fun h3 c₁ tk hst hk hS1=>by
  refine codeAny_extend_loopS W.toS (fits_of_scanBound hb) s.heap.objs.size hsf (.ref s.heap.objs.size) es.size 0 _ #[] c₁ rfl (br _) hst hS1 (ItemsOf.nil _) fun s' acc' c' hm hS' hacc=>?_;have ea:acc'=vs.toArray:=by
   apply Array.toList_inj.mp;apply nI;intro i
   by_cases hi:i<es.size
   ·have hi2:i<acc'.size:=by rw[hacc.1];exact hi
    rw[ji,jK hi2];exact (hacc.2 i _ (jK hi2)).symm
   ·rw[ji,nX (by rw[hacc.1];left)];exact (fI (show ⇑vs<=i by rw[lv];exact Nat.le_of_not_lt hi)).symm
  subst ea;rw[Moved.eq_with hm];refine⟨s'.heap,s'.toks,c',rfl,rfl,fun b u e=>hm.heap b u (fun hmem=>?_) (hk b u e),hS'⟩;have lb:=aQ e;rcases aY.mp hmem with e' | hmem
  ·exact absurd e' (bw lb)
  ·rw[aS.mp hmem] at lb;exact absurd (bK lb (bM (ic _) (bM (Nat.le_of_eq szS.symm) lI'))) (gh _)
 have hS2:=kp2 _ _ hS;have k02:∀ b u,s.heap.get? b=some u->h2.get? b=some u:=fun b u e=>kp2 b u (kp1 b u e);refine ae (cQ (Fv (s:={ s with heap:=h2,drawn:=d }) ⟨o,kp2 _ _ ho1,hex.1⟩ ?_));have fin:∀ {h3:Heap}{c₁ tk:Nat},St 0 h3->(∀ b u,s.heap.get? b=some u->h3.get? b=some u)->h3.get? s.heap.objs.size=some { cls:=.type "list",data:=.seq #[] c₁ }->_:=fun {h3 c₁ tk} a1 a2 a3=>fO (key h3 c₁ tk a1 a2 a3) (R':=fun r s'=>match r with
   | Except.ok (Flow.ret v)=>wpAny (model prog w) A (match v with
      | Value.ref a=>do
       let o ←load a
       match o.data with
        | Data.seq xs epoch=>pure xs.toList
        | x=>unsupported "internal:collect"
      | x=>unsupported "internal:collect") R E s'
   | Except.ok a=>False
   | Except.error e=>E e s') fun q s' ⟨h',tk',c',e1,e2,hk,hS'⟩=>by
  subst e1 e2;show wpAny _ A (load s.heap.objs.size >>= _) _ _ _;refine ae (wpAny_load hS' ?_);exact au (h h' tk' d vs hk hperm)
 refine wpAny_ite_split (fun _=>?_) (fun _=>au ⟨jL PySem.F.plain_extend_loop _,fin st k02 hS2⟩);refine ae (ij ?_);refine ae ?_;show wpAny _ _ (updateSeq s.heap.objs.size (·.push .none) >>= fun _=>updateSeq s.heap.objs.size (·.pop)) _ _ _;refine ae (wpAny_updateSeq hS2 rfl ?_);have hS3:=hZ (Obj.mapSeq (·.push Value.none)) hS2 rfl;refine wpAny_updateSeq (hz:=by seq_fits) hS3 rfl ?_;have hS4:=hZ (Obj.mapSeq (·.pop)) hS3 rfl;refine au ⟨jL PySem.F.plain_extend_loop _,fin ?_ (fun b u e=>?_) hS4⟩
 ·refine W.frame 0 _ _ st fun b hb o e=>?_;have hbS:b≠s.heap.objs.size:=fun h=>hsf (h ▸ hb);exact (gd _ _ (Ne.symm hbS)).trans ((gd _ _ (Ne.symm hbS)).trans e)
 ·have hbS:b≠s.heap.objs.size:=bw (aQ e);exact (gd _ _ (Ne.symm hbS)).trans ((gd _ _ (Ne.symm hbS)).trans (k02 b u e))
end
end
section
theorem ug {val:Nat->Key}{x:Key}:∀ {n:Nat},x∈ck val n↔∃ i,i<n/\val i=x
 | 0=>⟨(fun h=>by cases h),fun ⟨i,h,_⟩=>absurd h (Nat.not_lt_zero i)⟩
 | n+1=>by
  have ih:=ug (val:=val) (x:=x) (n:=n);unfold ck;split
  ·rename_i hm
   rw[jo] at hm;refine ih.trans ⟨fun ⟨i,h,e⟩=>⟨i,⋯,e⟩,fun ⟨i,h,e⟩=>?_⟩
   by_cases hi:i=n
   ·subst hi;rw[←e];exact ug.mp hm
   ·exact⟨i,⋯,e⟩
  ·rw[bC,aS,ih];refine⟨fun h=>h.elim (fun ⟨i,h,e⟩=>⟨i,⋯,e⟩) fun e=>⟨n,⋯,e.symm⟩,fun ⟨i,h,e⟩=>?_⟩
   by_cases hi:i=n
   ·subst hi;exact .inr e.symm
   ·exact .inl ⟨i,⋯,e⟩
theorem wZ (val:Nat->Key):∀ n,(ck val n).Nodup
 | 0=>List.nodup_nil
 | n+1=>by
  have ih:=wZ val n;unfold ck;split
  ·exact ih
  ·rename_i hm
   rw[jo] at hm;rw[nQ];exact⟨ih,by simp,fun a ha b hb e=>hm (by rw[aS.mp hb] at e;rw[←e];exact ha)⟩
theorem z5 {α:Type} [DecidableEq α]:∀ {l us:List α},l.Nodup->(∀ x∈l,x∈us)->⇑us=⇑l->l.Perm us
 | [],us,_,_,e=>by rw[iK.mp e]
 | a::l,us,nd,h,e=>by
  rw[dD] at nd;have hm:=h a bu;have hp:=List.perm_cons_erase hm;refine ((z5 (us:=us.erase a) nd.2 (fun x hx=>?_) ?_).cons a).trans hp.symm
  ·exact (List.mem_erase_of_ne (fun z=>nd.1 (by rw[←z];exact hx))).mpr (h x (b8 _ hx))
  ·rw[List.length_erase_of_mem hm,e];rfl
noncomputable def setM (P:Zh) (w:Zi) (a:Addr) (l:List Key):HO:=.ext fun h=>r0 P w (!w.params.followText "set-order") h a l
theorem Jo {l:List Key} (x:r0 P w (!w.params.followText "set-order") h a l):bX P w H h a (setM P w a l):=by
 refine⟨x,?_,fun h1 h2 y k=>?_⟩
 ·obtain⟨o,_,_,_,e,_⟩:=x;exact⟨o,e⟩
 ·obtain⟨o,es,ep,t,e,r⟩:=y;exact⟨o,es,ep,t,k o e,r⟩
def JI (K:Zf) (P:Zh) (w:Zi):List V->Hp->VK->Prop:=fun vs H Q=>match vs with
 | [.ref a]=>∃ zs:Ze,Ã K H a (zs.map V.str)/\⇑zs<=4000/\∀ p H',H p=none->aB H H'->H' p=some (setM P w p (ck (oQ zs) ⇑zs))->Q (.ref p) H'
 | _=>False
theorem Fg {K:Zf}{P:Zh}{w:Zi}{a:Addr}{H:Hp}{Q:VK}:JI K P w [.ref a] H Q=(∃ zs:Ze,Ã K H a (zs.map V.str)/\⇑zs<=4000/\∀ p H',H p=none->aB H H'->H' p=some (setM P w p (ck (oQ zs) ⇑zs))->Q (.ref p) H'):=propext Iff.rfl
theorem zL (hK:X.K=K) (hP:X.prog=P) (hw:X.w=w) (hc:X.calm=true):dy X (.type "set") (JI K P w):=by
 subst hK hP hw;intro Yp s σ H xs us Q I r h;rcases xs with _ | ⟨x0,t⟩
 ·exact h.elim
 cases x0<;>try exact h.elim
 cases t<;>try exact h.elim
 next a =>
  obtain⟨zs,h1,h2,h3⟩:=h;obtain⟨u,rfl,ru⟩:=vals1 r;cases ru;obtain⟨vs,r1,p1,_⟩:=I.list h1;have l1:=⇑r1;rw[ak] at l1;have hf:H s.heap.objs.size=none:=I.hok.fresh (aw _);have hs:vs.toArray.size=⇑zs:=by rw[bc];left
  refine xH (val:=oQ zs) (I.ok.hd hc) p1.isList (fun i v e=>?_) (by rw[hs];unfold scanBound;left) fun g tk x k=>?_
  ·have e':vs[i]?=some v:=by simpa using e
   have hi:i<⇑zs:=by have:=(bL.mp e').1;left
   have ez:zs[i]?=some zs[i]:=aC hi;obtain⟨u,hu,ru⟩:=r1.get (i:=i) (x:=V.str zs[i]) (by rw[aX,ez];rfl);rw[e'] at hu;cases hu;obtain⟨t,rfl⟩:=ru;refine⟨zs[i],t,rfl,?_⟩;unfold oQ;rw[aK,ez];rfl
  ·rw[hs] at x;have kk:∀ b o,s.heap.get? b=some o->g.get? b=some o:=fun b o e=>k b o (aQ e) e;exact⟨.ref s.heap.objs.size,upd H s.heap.objs.size (setM X.prog X.w s.heap.objs.size (ck (oQ zs) ⇑zs)),I.laid (t':=tk) kk (aw _) (Jo x),rfl,h3 _ _ hf (eT hf) aI⟩
theorem vh {k:Key}:k∈ck (oQ zs) ⇑zs↔∃ z∈zs,k=.inr z:=by
 rw[ug];constructor
 ·rintro⟨i,hi,rfl⟩;refine⟨zs[i],cj hi,?_⟩;unfold oQ;rw[aK,aC hi];rfl
 ·rintro⟨z,hz,rfl⟩;obtain⟨i,hi,rfl⟩:=qS hz;refine⟨i,hi,?_⟩;unfold oQ;rw[aK,aC hi];rfl
theorem Eo (hel:ElemsOf (bj P w) es.toList) (hmem:∀ k,fR k (ck (oQ zs) ⇑zs)=true↔∃ e∈es.toList,jm k e.2=true) (hn:es.size=⇑(ck (oQ zs) ⇑zs))  (hp:vs.Perm (es.toList.map (·.2))) :
  ∃ us:Ze,StrsAre vs us/\us.Nodup/\∀ z,z∈us↔z∈zs:=by
 have hst:∀ v∈vs,∃ z t,v=Value.str z t/\z∈zs:=fun v hv=>by
  obtain⟨e,he,rfl⟩:=aO.mp (hp.mem_iff.mp hv);obtain⟨⟨k,hk,_⟩,_⟩:=hel e he;have hk':jm k e.2=true:=hk;obtain⟨z,hz,rfl⟩:=vh.mp (jo.mp ((hmem k).mpr ⟨e,he,hk'⟩));rcases cJ hk' with ⟨n,t,e3,e4⟩ | ⟨y,t,e3,e4⟩
  ·cases e3
  ·cases e3;exact⟨z,t,e4,hz⟩
 have mk:∀ {vs:Zc},(∀ v∈vs,∃ z t,v=Value.str z t/\z∈zs)->∃ us:Ze,StrsAre vs us/\(∀ z∈us,z∈zs)/\∀ z,(∃ t,Value.str z t∈vs)->z∈us:=by
  intro vs
  induction vs with
  | nil=>intro _;exact⟨[],.nil,(fun z h=>by cases h),fun z ⟨t,h⟩=>by cases h⟩
  | cons v vs ih =>
   intro h;obtain⟨us,a1,a2,a3⟩:=ih fun u hu=>h u (b8 _ hu);obtain⟨z,t,rfl,hz⟩:=h v bu;refine⟨z::us,.cons z t a1,fun y hy=>?_,fun y ⟨t',hy⟩=>?_⟩
   ·rcases aY.mp hy with rfl | hy
    ·exact hz
    ·exact a2 y hy
   ·rcases aY.mp hy with e | hy
    ·injection e with e _;rw[e];exact bu
    ·exact b8 _ (a3 y ⟨t',hy⟩)
 obtain⟨us,a1,a2,a3⟩:=mk hst;have lu:∀ {vs:Zc}{us:Ze},StrsAre vs us->⇑us=⇑vs:=fun h=>by
  induction h with
  | nil=>rfl
  | cons z t _ ih=>rw[bH,bH,ih]
 have hin:∀ z∈zs,z∈us:=fun z hz=>by
  obtain⟨e,he,hk⟩:=(hmem (.inr z)).mp (jo.mpr (vh.mpr ⟨z,hz,rfl⟩));rcases cJ hk with ⟨n,t,e3,e4⟩ | ⟨y,t,e3,e4⟩
  ·cases e3
  ·cases e3
   exact a3 z ⟨t,by rw[←e4];exact hp.mem_iff.mpr (aO.mpr ⟨e,he,rfl⟩)⟩
 have hperm:(ck (oQ zs) ⇑zs).Perm (us.map (Sum.inr:Str->Key)):=z5 (wZ _ _) (fun k hk=>by obtain⟨z,hz,rfl⟩:=vh.mp hk;exact aO.mpr ⟨z,hin z hz,rfl⟩) (by rw[ak,lu a1,hp.length_eq,ak,eP,hn]);have hnd:=hperm.nodup_iff.mp (wZ _ _);refine⟨us,a1,?_,fun z=>⟨a2 z,hin z⟩⟩;exact (nR.mp hnd).imp fun h e=>h (by rw[e])
def GC (P:Zh) (w:Zi):List V->Hp->VK->Prop:=fun vs H Q=>match vs with
 | [.ref a]=>∃ zs:Ze,H a=some (setM P w a (ck (oQ zs) ⇑zs))/\⇑(ck (oQ zs) ⇑zs)<64/\∀ ws:Ze,ws.Nodup->(∀ z,z∈ws↔z∈zs)->sortedS ws=true->nw H (.lst (ws.map V.str)) Q
 | _=>False
theorem Dx {P:Zh}{w:Zi}{a:Addr}{H:Hp}{Q:VK}:GC P w [.ref a] H Q=(∃ zs:Ze,H a=some (setM P w a (ck (oQ zs) ⇑zs))/\⇑(ck (oQ zs) ⇑zs)<64/\∀ ws:Ze,ws.Nodup->(∀ z,z∈ws↔z∈zs)->sortedS ws=true->nw H (.lst (ws.map V.str)) Q):=propext Iff.rfl
theorem zM (hP:X.prog=P) (hw:X.w=w) (hc:X.calm=true):dy X (.builtin "sorted") (GC P w):=by
 subst hP hw;intro Yp s σ H xs us Q I r h;rcases xs with _ | ⟨x0,t⟩
 ·exact h.elim
 cases x0<;>try exact h.elim
 cases t<;>try exact h.elim
 next a =>
  obtain⟨zs,ha,h64,k⟩:=h;obtain⟨u,rfl,r2⟩:=vals1 r;cases r2;obtain⟨o,es,ep,t,ho,hex,hd,hel,hmem,hb,hf,hn,hled,hpl⟩:r0 X.prog X.w (!X.w.params.followText "set-order") s.heap a (ck (oQ zs) ⇑zs):=(show bX X.prog X.w H s.heap a (setM X.prog X.w a _) from I.hok a _ ha).1;refine Calls.call_function_entry kind_sorted plain_sorted entry_sorted (args_sorted1 _) ?_;unfold Builtin.«sorted»;refine ae (m:=checkCount "sorted" 1 1 _) (au (ae (CY (A:=X.A.in1) (I.ok.hd hc) ho hex hd hf hb hled hpl fun h1 tk d vs k1 hp=>?_)));obtain⟨us,hS,hnd,hmz⟩:=Eo hel hmem hn hp;have lv:⇑vs<64:=by rw[hp.length_eq,ak,eP,hn];exact h64
  have hz:⇑vs<=sizeLine:=aT (bK lv (by rw[sizeLine_eq];left));refine ae (wpAny_newList ?_ hz);have gL:(h1.push (seqObj "list" vs.toArray 0)).get? h1.objs.size=some (seqObj "list" vs.toArray 0):=bo _ rfl;refine ae (cQ (gq slot_list_sort ⟨_,gL,rfl⟩ entry_list_sort (list_sort_treeK strKind_oneLt gL hS.keysOf (fun v₁ v₂ rest e=>keyKind_strs (by rw[←e];exact hS)) lv fun st' a1 a2=>⟨_,rfl,au ⟨_,rfl,?_⟩⟩) (args_list_sort _)));obtain⟨ws,b1,b2,b3⟩:=sorted_out_str hS a1 a2;obtain⟨e1,g1⟩:∃ e1,((h1.push (seqObj "list" vs.toArray 0)).update h1.objs.size (Obj.mapSeq fun _=>#[])).get? h1.objs.size=some (seqObj "list" #[] e1):=⟨_,get?_update_seq gL fun _=>#[]⟩;have g2:((((h1.push (seqObj "list" vs.toArray 0)).update h1.objs.size (Obj.mapSeq fun _=>#[])).push (seqObj "tuple" vs.toArray 0)).push (seqObj "list" #[] 0)).get? h1.objs.size=some (seqObj "list" #[] e1):=aL _ (aL _ g1);refine show EP X Yp σ Q (.ref h1.objs.size) { s with heap:=sortedHeap (h1.push (seqObj "list" vs.toArray 0)) h1.objs.size vs ((arrOf st').map fun x=>x.2),toks:=tk,drawn:=d } from ?_
  generalize (arrOf st').map (fun x=>x.2)=out at b1 ⊢;obtain⟨c3,g3⟩:∃ c3,(sortedHeap (h1.push (seqObj "list" vs.toArray 0)) h1.objs.size vs out).get? h1.objs.size=some (seqObj "list" out c3):=⟨_,get?_update_seq g2 fun _=>out⟩;have kp:∀ b o,h1.get? b=some o->(sortedHeap (h1.push (seqObj "list" vs.toArray 0)) h1.objs.size vs out).get? b=some o:=fun b o z=>by have hb:h1.objs.size≠b:=jI (aQ z);exact (gd _ _ hb).trans (aL _ (aL _ ((gd _ _ hb).trans (aL _ z))))
  have I1:Inv X Yp σ H { s with heap:=h1,toks:=tk,drawn:=d }:=by have I0:Inv X Yp σ H { s with heap:=h1,toks:=tk }:=I.kept (t':=tk) k1;exact⟨I0.ok,I0.os,I0.bare,I0.base,I0.loc,I0.cell,I0.free,I0.freeC,I0.pin,I0.hok,I0.len⟩
  have hn1:=I1.hok.fresh (aw h1.objs.size);have lw:=b2.length_eq;refine⟨.ref h1.objs.size,upd H h1.objs.size (.lst (ws.map V.str)),I1.laid (t':=tk) (o:=.lst (ws.map V.str)) kp (aw _) ⟨?_,out.toList,c3,jh b1,by rw[Array.toArray_toList];exact g3⟩,rfl,k ws (b2.nodup_iff.mpr hnd) (fun z=>(b2.mem_iff).trans (hmz z)) b3 _ _ hn1 (eT hn1) aI⟩;have lu:⇑ws=⇑out.toList:=by have:=⇑(jh b1);rwa [ak] at this
  rw[ak,lw];have:⇑us=⇑vs:=by have:=⇑(jh hS);rwa [ak] at this
  left
end
section
noncomputable def ò (ob:Obj) (a:Addr) (kvs:List (Key×V)):It :=
 ⟨fun i H=>i<⇑kvs/\H a=some (.frz ob (.dK kvs)),fun i H v H'=>(∃ k x,kvs[i]?=some (k,x)/\v=kV k)/\H'=H,fun i H=>⇑kvs<=i/\H a=some (.frz ob (.dK kvs))⟩
theorem Br {P:Zh}{w:Zi}{K:Zf}{tg:Expr} (ob:Obj) (a it:Addr) (kvs:List (Key×V)) (es:Array DictEntry) (ep:Nat) (hd:ob.data=.dict es ep) (hz:es.size=⇑kvs) :
  Turn P w K tg (ò ob a kvs) [it] it (fun i h=>h.IsKeyIter it a i es.size ep) where
 mem:=by simp
 obj:=fun i h st b hb=>by
  obtain rfl:b=it:=by simpa using hb
  obtain⟨o,e1,e2,e3⟩:=st;exact⟨o,e1,fun v z=>by rw[e3] at z;cases z⟩
 keep:=fun i h h' st k=>by obtain⟨o,e1,e2,e3⟩:=st;exact⟨o,k it (by simp) o e1,e2,e3⟩
 item:=by
  intro X hP hw hK hc i Yp s σ H E I hf st hg;subst hP hw hK;obtain⟨hi,hH⟩:=hg;have g1:s.heap.get? a=some ob:=(show bX X.prog X.w H s.heap a (.frz ob (.dK kvs)) from I.hok a _ hH).1;obtain⟨vs,r,o',es',f1,f2,f3,f4,f5,f6⟩:=Fp I.hok hH hd;have:o'=ob:=Option.some.inj (f1.symm.trans g1);subst this;rw[hd] at f3
  injection f3 with e1 e2
  subst e1;obtain⟨⟨k1,x⟩,hk⟩:∃ p,kvs[i]?=some p:=⟨_,aC hi⟩;obtain⟨⟨k2,u⟩,hu,hke,ru⟩:∃ q:Key×Value,vs[i]?=some q/\k1=q.1/\RelV x q.2:=by obtain⟨q,h1,h2⟩:=K9 r hk;exact⟨q,h1,h2.1,h2.2⟩
  have hke:k1=k2:=hke;subst hke;have hi':i<es.size:=⋯
  have ek:jm k1 (es[i]'hi').key=true:=(f5.get? (e:=es[i]'hi') (by simp [hi']) hu).1;refine GG (es:=es) st g1 hd hi' fun h' st' sb=>⟨_,rfl,?_⟩;obtain⟨o',q1,q2,q3⟩:=id st';refine vN (s:={ s with heap:=h' }) q1 q2 q3 Zd ?_;exact⟨kV k1,H,I.Cy (t':=s.toks) (ch:=[it]) hf (fun c o hc e=>(sb.2 c (by simpa using hc)).trans e),Jk ek,⟨⟨k1,x,hk,rfl⟩,rfl⟩,st',fun b hb=>(hf b hb).1⟩
 done:=by intro X hP hw hK hc i Yp s σ H E I hf st hg;subst hP hw hK;obtain⟨hi,hH⟩:=hg;have g1:s.heap.get? a=some ob:=(show bX X.prog X.w H s.heap a (.frz ob (.dK kvs)) from I.hok a _ hH).1;refine Jj (I.ok.hd hc) st ⋯ g1 hd fun h' kk=>⟨rfl,I.Cy (t':=s.toks) (ch:=[it]) hf fun c o hc e=>?_⟩;exact kk c o (by simpa using hc) e
 self:=fun _ _ _ _ _ st h=>wpAny_pyIter_keyiter st h
def Fx (te:TE):TI:=fun σ H R=>te σ H fun x H1=>∃ a kvs,x=.ref a ∧
 ((H1 a=some (.dK kvs)/\∀ ob H2,(∀ b o,b≠a->H1 b=some o->H2 b=some o)->H2 a=some (.frz ob (.dK kvs))->R (ò ob a kvs) H2)∨∃ ob,H1 a=some (.frz ob (.dK kvs))/\R (ò ob a kvs) H1)
theorem CC {te:TE}{σ:St}{H:Hp}{R:It->Hp->Prop}:Fx te σ H R=te σ H fun x H1=>∃ a kvs,x=.ref a ∧
 ((H1 a=some (.dK kvs)/\∀ ob H2,(∀ b o,b≠a->H1 b=some o->H2 b=some o)->H2 a=some (.frz ob (.dK kvs))->R (ò ob a kvs) H2)∨∃ ob,H1 a=some (.frz ob (.dK kvs))/\R (ò ob a kvs) H1):=propext Iff.rfl
theorem Gm {tg l:Expr}{tl:TE} (hl:PE X l tl):PI X tg l (Fx tl):=by
 intro Yp s σ H R I h;refine Â (hl Yp s σ H _ I h) fun v s1 ⟨x,H1,I1,r1,q1⟩=>?_;obtain⟨a,kvs,rfl,q⟩:=q1;cases r1;have go:∀ (ob:Obj) (H2:Hp),Inv X Yp σ H2 s1->H2 a=some (.frz ob (.dK kvs))->R (ò ob a kvs) H2->wpAny (model X.prog X.w) X.A (pyIter (.ref a)) (đ X Yp σ tg R) X.xe s1:=by
  intro ob H2 I2 hH q;obtain⟨g1,z,hs,vs,rel,o',es,ep,e1,e2,e3,e4,e5,e6⟩:=(show bX X.prog X.w H2 s1.heap a (.frz ob (.dK kvs)) from I2.hok a _ hH);have:o'=ob:=Option.some.inj (e1.symm.trans g1);subst this;have hz:es.size=⇑kvs:=by have h1:⇑kvs=⇑vs:=Paired.length rel;have h2:=⇑e5;simp at h2;left
  refine GF hs e1 e2 e3 ?_;refine⟨s1.heap.objs.size,[s1.heap.objs.size],_,_,H2,rfl,I2.kept (t':=s1.toks) (fun b o e=>aL _ e),Br o' a _ kvs es ep e3 hz,⟨_,bo _ rfl,rfl,rfl⟩,fun b hb=>?_,q⟩;obtain rfl:b=s1.heap.objs.size:=by simpa using hb
  exact I2.vk (aw _) (I2.hok.fresh (aw _))
 rcases q with ⟨ha,q⟩ | ⟨ob,ha,q⟩
 ·obtain⟨z,hs,vs,rel,ob,es,ep,e1,e2,e3,e4⟩:=J4 I1.hok ha;have I2:Inv X Yp σ (upd H1 a (.frz ob (.dK kvs))) s1:=I1.write (x:=a) (e:=a) (h':=s1.heap) (t':=s1.toks) (o:=.frz ob (.dK kvs)) (by rw[ha];exact True.intro) (.inl rfl) (fun _ _ _ e=>e) ⟨ob,e1⟩ ⟨e1,z,hs,vs,rel,ob,es,ep,e1,e2,e3,e4⟩;exact go ob _ I2 aI (q ob _ (fun b o hb e=>by rw[aN hb];exact e) aI)
 ·exact go ob H1 I1 ha q
theorem Fl {g:TG}{tb:TS}{D:Ends} (Pv:Nat->St->Hp->Prop) (h0:Pv 0 σ H) (hl:∀ i σ H,Pv i σ H->H a=some (.frz ob (.dK kvs)))
  (hs:∀ i k x σ H,kvs[i]?=some (k,x)->Pv i σ H->∀ N:St->Hp->Prop,(∀ σ' H',Pv (i+1) σ' H'->N σ' H')->g (kV k) σ H fun σ2 H2=>tb { D with nx:=N,ct:=N,bk:=D.nx } σ2 H2) (hd:∀ σ H,Pv ⇑kvs σ H->D.nx σ H):gK g tb D (ò ob a kvs) σ H:=by
 refine⟨fun i m σ H=>m=⇑kvs-i/\i<=⇑kvs/\Pv i σ H,⟨_,rfl,br _,h0⟩,?_⟩;rintro i m σ H ⟨rfl,hi,hp⟩
 by_cases hlt:i<⇑kvs
 ·refine .inr ⟨⟨hlt,hl i σ H hp⟩,fun σ' H'=>Pv (i+1) σ' H',fun σ' H' h=>⟨⇑kvs-(i+1),⋯,rfl,hlt,h⟩,?_⟩;rintro x H' ⟨⟨k,v,hk,rfl⟩,rfl⟩;exact hs i k v σ _ hk hp _ fun _ _ h=>h
 ·have e:i=⇑kvs:=⋯
  subst e;exact .inl ⟨⟨aw _,hl _ σ H hp⟩,hd σ H hp⟩
theorem kj.kf {k:Key} (e:H a=some (.frz ob (.dK kvs))):kj H a (kV k) (eI kvs k):=.inl ⟨kvs,k,.inr ⟨ob,e⟩,rfl,rfl⟩
end
section
def cR (K:Zf) (x:Str) (st:Stmt):Prop:=∃ f fd,Å K x x st f fd/\PySem.W.nsIn K mainGlobals x=some (some (.ref f))
def oY (K:Zf) (C:Addr) (m q:Str) (st:Stmt):Prop:=∃ f fd,Å K m q st f fd/\PySem.W.findIn K (.ref C) m=some (some (.ref f))/\PySem.W.isFn K (.ref f)=true
section
variable {K:Zf}{x m q:Str}{st:Stmt}{f C:Addr}{oc:Value}{od an:Option Addr}{osl:Array (Option Value)}{kV doc pm cdv ct:Value}
theorem HS (a:PySem.W.nsIn K mainGlobals x=some (some (.ref f))) (l:K.lookup f=some ⟨oc,od,.func (PySem.W.fnOf x x (cS st) (cn st) (ax st) .none kV doc pm an cdv ct),osl⟩) (c:PySem.W.codeIn K cdv x=true) (k:PySem.W.keepIn K (.ref f)=true):cR K x st:=⟨f,_,mE l c k,a⟩
theorem HU (a:PySem.W.findIn K (.ref C) m=some (some (.ref f))) (i:PySem.W.isFn K (.ref f)=true) (l:K.lookup f=some ⟨oc,od,.func (PySem.W.fnOf m q (cS st) (cn st) (ax st) .none kV doc pm an cdv ct),osl⟩) (c:PySem.W.codeIn K cdv q=true) (k:PySem.W.keepIn K (.ref f)=true):oY K C m q st:=⟨f,_,mE l c k,a,i⟩
end
section
variable {P:Zh}{w:Zi}{K:Zf}{h base:Heap}{mg:Zk}{k:Nat}{x m q:Str}{st:Stmt}{C:Addr}{ps:Ze}{sp:Sp}
theorem cR.fnc {CX:Ï} (X:K.In h) (G:h.Ns mainGlobals mg) (d:cR K x st) (o:∀ f fd,Å K x x st f fd->bF P w K mg base CX k f fd ps sp)
  (b:∀ (kV doc pm:Value) (an:Option Addr) (cdv ct:Value) (us:Zc),⇑us=⇑ps->bindArgs (PySem.W.fnOf x x (cS st) (cn st) (ax st) .none kV doc pm an cdv ct) ⟨us,[]⟩=pure (ps.zip us)):Ä P w K mg base CX k x ps sp:=by
 obtain⟨f,fd,F,a⟩:=d;exact⟨f,fd,o f fd F,bO X G a,F.kp,F.binds b⟩
theorem oY.mtd (c:Ý K C) (d:oY K C m q st) (o:∀ f fd,Å K m q st f fd->bF P w K mg base (Á P w) k f fd ps sp)
  (b:∀ (kV doc pm:Value) (an:Option Addr) (cdv ct:Value) (us:Zc),⇑us=⇑ps->bindArgs (PySem.W.fnOf m q (cS st) (cn st) (ax st) .none kV doc pm an cdv ct) ⟨us,[]⟩=pure (ps.zip us)):Ð P w K mg base (Á P w) C m k ps sp:=by
 obtain⟨f,fd,F,a,i⟩:=d;exact⟨⟨f,fd,o f fd F,⟨a,i,F.kp⟩,F.binds b⟩,c⟩
end
end
section
section
variable {X:Cx}
theorem Jf {body:List Stmt}{h₀:ExceptHandler}{hs:List ExceptHandler}{t:TS} (hb:∀ pn:Zp,Ù { X with pn:=pn,xe:=fun _ _=>False } body t):PS X (.Try body (h₀::hs) [] [] pos) t:=by
 intro Yp s σ H D I h;refine wpAny_Try_except ?_;refine cu (hb (X.pn++Yp) [] s σ H D I.Nc h) ?_ (fun e s1 he=>he.elim);intro f s1 z;cases f with
 | next =>obtain⟨σ',H',I',q⟩:=z;exact au ⟨σ',H',I'.xB,q⟩
 | brk=>obtain⟨σ',H',I',q⟩:=z;exact⟨σ',H',I'.xB,q⟩
 | cont=>obtain⟨σ',H',I',q⟩:=z;exact⟨σ',H',I'.xB,q⟩
 | ret u=>obtain⟨v,σ',H',I',r,q⟩:=z;exact⟨v,σ',H',I'.xB,r,q⟩
end
structure TyI (K:Zf) (C:Addr):Prop where
 a:PySem.W.findIn K (.ref C) "__class__"=some (some (.builtin "object.__class__"))
 b:PySem.W.specialIn K (.builtin "object.__class__") "__get__"=some (some (.builtin "getset_descriptor.__get__"))
 c:PySem.W.takesIn K (.builtin "object.__class__")=some true
 d:PySem.W.mroIn K C (.type "object")=some true
 e:PySem.W.kitOne K (.ref C) (.ref C)=some true
theorem TyI.ty {C a dx:Addr}{fs:List (Str×V)} (T:TyI K C) (cl:Ý K C) (e:H a=some (.ins C dx fs)):ē K H (.ref a) (.ref C):=.inl (.ins e cl T.a T.b T.c T.d)
end
section
theorem uI:plainId "proto.contains_iter"=true:=by nofun
theorem yn:entryFor table "proto.contains_iter"=some Builtin.«proto.contains_iter»:=entryFor_of_tree (by ext)
theorem BX:typeLookup (.type "dict_values") "__contains__"=pure none:=by rw[typeLookup_type,builtinLookup_eq_fast];ext
theorem HQ {R:Result->Zg->Prop}{I:Addr}{fp wr:List Addr}{n:Nat}{P:Nat->Value->Prop}{St:Nat->Heap->Prop} (W:Walks prog w A.in1 I fp wr n P St) (x:Value) (tr:Nat->Bool) (s₀:Zg)
  (htr:∀ i v h' tk,P i v->(∀ b o,b∉wr->s₀.heap.get? b=some o->h'.get? b=some o)->SeqAt.EqAt A.in1 { s₀ with heap:=h',toks:=tk } v x (tr i))
  (hR:∀ h' tk,(∀ b o,b∉wr->s₀.heap.get? b=some o->h'.get? b=some o)->R (.ok (.ret (.bool ((List.range n).any tr)))) { s₀ with heap:=h',toks:=tk }):∀ (k i:Nat) (h:Heap) (tk:Nat),n-i=k->i<=n->St i h->(∀ b o,b∉wr->s₀.heap.get? b=some o->h.get? b=some o)->((List.range n).any tr=((List.range n).drop i).any tr) →
  codeAny (model prog w) A (.builtin "proto.contains_iter" ⟨[.ref I,x],[]⟩) R { s₀ with heap:=h,toks:=tk }:=by
 intro k
 induction k with
 | zero =>
  intro i h tk hk hi hst hkp he;have hin:i=n:=⋯
  subst hin;refine fN yn ?_;rw[mq uI _];show wpAny _ A.in1 (pyNext (.ref I) >>= _) _ _ _;refine ae (W.done _ _ _ hst fun h' tk' hk'=>?_);refine ae (ij (au ?_));have:=hR h' tk' fun b o hb e=>hk' b o hb (hkp b o hb e);rw[he,lh (by simp)] at this;exact this
 | succ k ih =>
  intro i h tk hk hi hst hkp he;have hlt:i<n:=⋯
  have hd:(List.range n).drop i=i::(List.range n).drop (i+1):=by rw[kZ (by simpa using hlt)];simp
  rw[hd,iJ] at he;refine fN yn ?_;rw[mq uI _];show wpAny _ A.in1 (pyNext (.ref I) >>= _) _ _ _;refine ae (W.item i _ _ _ hlt hst fun v h' tk' hP hst' hk'=>?_);have hkp':∀ b o,b∉wr->s₀.heap.get? b=some o->h'.get? b=some o:=fun b o hb e=>hk' b o hb (hkp b o hb e);refine ae (htr i v h' tk' hP hkp' _ _ _ _ ?_);cases hb:tr i with
  | false =>simp only[i9,eG];rw[hb,Bool.false_or] at he;exact au ⟨jL uI _,ih (i+1) h' tk' ⋯ hlt hst' hkp' he⟩
  | true =>simp only[ig];refine ae (ij (au ?_));have:=hR h' tk' hkp';rw[he,hb,Bool.true_or] at this;exact this
theorem Ir {E:Zq}{K:Type} [DecidableEq K] {knd:KeyKind prog w K}{p d:Addr}{kvs:List (K×Value)}{x:Value}{tr:Value->Bool}{Q:Bool->Zg->Prop} (hh:A.handled=none) (hv:s.heap.IsValuesView p d) (hm:s.heap.DictAt knd d kvs ep)
  (htr:∀ q∈kvs,∀ h' tk,(∀ b o,s.heap.get? b=some o->h'.get? b=some o)->SeqAt.EqAt A.in1 { s with heap:=h',toks:=tk } q.2 x (tr q.2))
  (hR:∀ h' tk,(∀ b o,s.heap.get? b=some o->h'.get? b=some o)->Q (kvs.any fun q=>tr q.2) { s with heap:=h',toks:=tk }):wpAny (model prog w) A (contains (.ref p) x) Q E s:=by
 have hT:=hv.typeIs;have fr:∀ {h':Heap},(∀ b u,b∉[s.heap.objs.size]->s.heap.get? b=some u->h'.get? b=some u)->∀ b u,s.heap.get? b=some u->h'.get? b=some u:=fun hk b u e=>hk b u (fun z=>by
  have z':b=s.heap.objs.size:=by simpa using z
  exact absurd (aQ e) (by rw[z'];exact gh _)) e
 have ea:((List.range ⇑kvs).any fun i=>tr ((kvs[i]?).elim Value.none (·.2)))=kvs.any fun q=>tr q.2:=by
  rw[oG,jD,jD];constructor
  ·rintro⟨i,hi,e⟩;have hi':=cE.mp hi;rw[aC hi'] at e;exact⟨_,cj hi',e⟩
  ·rintro⟨q,hq,e⟩;obtain⟨i,hi,rfl⟩:=qS hq;exact⟨i,cE.mpr hi,by rw[aC hi];exact e⟩
 unfold contains;refine cQ ?_;show wpAny _ A (specialOf (.ref p) "__contains__" >>= _) Q E s;refine ae (wpAny_specialOf hT BX ?_);show wpAny _ A (callSpecialUnlessNone? (.ref p) "__contains__" [x] _ >>= _) Q E s;refine ae (wpAny_callSpecialUnlessNone?_none hT BX ?_);refine ae (ij ?_);refine ae (wpAny_tryCatch (wpAny_pyIter_values hv hm ?_));refine ae (wpAny_runValue (HQ (Walks.dictValues (A:=A.in1) hh _ d (bw hm.lt_size) kvs ep) x (fun i=>tr ((kvs[i]?).elim Value.none (·.2))) s (fun i v h' tk hP hk=>?_) (fun h' tk hk=>?_) ⇑kvs 0 _ _ ⋯ (br _) ⟨⟨_,bo _ rfl,rfl,rfl⟩,hm.push _⟩ (fun b o _ e=>aL _ e) rfl))
 ·obtain⟨k,hk'⟩:=hP;have:=htr _ (bT hk') h' tk (fr hk);rw[hk'];exact this
 ·rw[ea];exact au (hR h' tk (fr hk))
def Mt (K:Zf) (neg:Bool):R2:=fun x y H Q=>∃ (p d:Addr) (kvs:List (Key×V)) (e:V->Bool) (n:Nat),y=.ref p/\H p=some (ñ p d)/\Rd H d (.dK kvs)/\n<=6/\(∀ q∈kvs,(∃ a,q.2=.ref a)/\Þ K H n q.2 x (e q.2))/\Q (.bl ((kvs.any fun q=>e q.2) != neg)) H
theorem Ig {K:Zf}{neg:Bool}{x y:V}{H:Hp}{Q:VK}:Mt K neg x y H Q=(∃ (p d:Addr) (kvs:List (Key×V)) (e:V->Bool) (n:Nat),y=.ref p/\H p=some (ñ p d)/\Rd H d (.dK kvs)/\n<=6/\(∀ q∈kvs,(∃ a,q.2=.ref a)/\Þ K H n q.2 x (e q.2))/\Q (.bl ((kvs.any fun q=>e q.2) != neg)) H):=propext Iff.rfl
theorem K8 {vs:List (Key×Value)} (r:KV kvs vs) (e:V->Bool) (h:∀ q∈kvs,∃ a,q.2=.ref a):(vs.any fun q=>My e q.2)=kvs.any fun q=>e q.2:=by
 induction r with
 | nil=>rfl
 | @cons x u xs us r1 r2 ih =>obtain⟨a,ea⟩:=h x bu;have:=ih fun v hv=>h v (b8 _ hv);obtain⟨_,r1⟩:=r1;rw[ea] at r1;cases x;cases u;cases ea;have r1':_=Value.ref a:=r1;rw[iJ,iJ,this];subst r1';rfl
section
variable {X:Cx}
theorem in_of (hK:X.K=K) (hc:X.calm=true) (hu:X.A.units+9<cLine)  (I:Inv X Yp σ H s) {x:V} (rx:RelV x u) {p d:Addr}{e:V->Bool}{n:Nat} (hp:H p=some (ñ p d)) (hd:Rd H d (.dK kvs)) (hn:n<=6) (he:∀ q∈kvs,(∃ a,q.2=.ref a)/\Þ K H n q.2 x (e q.2)) {Q:Bool->Zg->Prop} (hQ:∀ s',Inv X Yp σ H s'->Q (kvs.any fun q=>e q.2) s'):wpAny (model X.prog X.w) X.A (contains (.ref p) u) Q X.xe s:=by
 subst hK;have hv:s.heap.IsValuesView p d:=(show bX X.prog X.w H s.heap p (ñ p d) from I.hok p _ hp).1;obtain⟨z,hs,vs,rel,ob,es,ep,e1,e2,e3,e4⟩:=(show bX X.prog X.w H s.heap d (.dK kvs) from hd.ok I.hok);have dd:s.heap.DictAt (bj X.prog X.w) d vs ep:=⟨ob,es,e1,e2,e3,e4⟩;refine Ir (tr:=My e) (I.ok.hd hc) hv dd (fun q hq h' tk hk=>?_) fun h' tk hk=>?_
 ·obtain⟨i,hi⟩:=jF hq;have hl:⇑kvs=⇑vs:=Paired.length rel;have hkv:kvs[i]?=some (kvs[i]'(by have:=(bL.mp hi).1;left)):=aC _;generalize kvs[i]'(by have:=(bL.mp hi).1;left)=kv at hkv;obtain⟨y,hy,_,rv⟩:=fb rel hkv;rw[hi] at hy;cases hy;obtain⟨⟨a,ea⟩,eq⟩:=he kv (bT hkv);have e1:=eq.at (I.kept (t':=tk) hk) (A:=X.A.in1) (show X.A.units+1+n<cLine by left) rv rx;rw[ea] at rv e1;have rv':q.2=Value.ref a:=rv;rw[rv'] at e1 ⊢;exact e1
 ·rw[K8 rel e fun q hq=>(he q hq).1];exact hQ _ (I.kept hk)
theorem wb (hK:X.K=K) (hc:X.calm=true) (hu:X.A.units+9<cLine):É X (compareOp .NotIn) (Mt K true):=by intro Yp s σ H x y v u Q I rx ry h;obtain⟨p,d,kvs,e,n,rfl,hp,hd,hn,he,k⟩:=h;cases ry;refine ae (in_of hK hc hu I rx hp hd hn he fun s' I'=>au ⟨.bl _,H,I',rfl,?_⟩);rw[←Bool.bne_true (kvs.any fun q=>e q.2)];exact k
end
def JU (to:TE):TE:=fun σ H Q=>to σ H fun x H1=>∃ d kvs,x=.ref d/\Rd H1 d (.dK kvs)/\∀ p H',H1 p=none->aB H1 H'->H' p=some (ñ p d)->Q (.ref p) H'
theorem HL {to:TE}{σ:St}{H:Hp}{Q:VK}:JU to σ H Q=to σ H fun x H1=>∃ d kvs,x=.ref d/\Rd H1 d (.dK kvs)/\∀ p H',H1 p=none->aB H1 H'->H' p=some (ñ p d)->Q (.ref p) H':=propext Iff.rfl
theorem Cc {o:Expr}{to:TE}{apos cpos:Pos} (ho:PE X o to) (hbase:attributeBase o "values" X.env (eval o X.env)=eval o X.env:=by ext) (hline:(apos.endLine==cpos.line)=true:=by ext):PE X (.Call (.Attribute o "values" apos) [] [] cpos) (JU to):=by intro Yp s σ H Q I h;refine wpAny_Call_method0_late hbase hline (Â (ho Yp s σ H _ I h) fun v s1 ⟨x,H1,I1,r1,d,kvs,e,hd,q⟩=>?_);subst e;cases r1;obtain⟨z,hs,xs,rel,dd⟩:=(show bX X.prog X.w H1 s1.heap d (.dK kvs) from hd.ok I1.hok);obtain⟨ob,_,_,eo,ex,_⟩:=id dd;have hT:s1.TypeIs (.ref d) "dict":=⟨ob,eo,ex.1⟩;refine⟨"dict",_,PySem.F.plainAttrs_dict,PySem.F.slot_dict_values,PySem.F.type_dict_values,hT,fun a ea=>by cases ea;exact⟨ob,eo,ex.2.1⟩,Calls.callWith_builtin rfl (PySem.evalArgs_none ?_)⟩;refine call_meetsIn F.slot_dict_values hT F.entry_dict_values (F.args_dict_values_1 _) (meets_dict_values (bj X.prog X.w) d hs) ⟨⟨xs,dd⟩,?_⟩;have hn:=I1.hok.fresh (aw s1.heap.objs.size);refine⟨.ref s1.heap.objs.size,_,I1.laid (t':=s1.toks) (o:=ñ s1.heap.objs.size d) (fun b ob q=>aL _ q) (aw _) (L4 ⟨_,bo _ rfl,rfl,rfl⟩),rfl,q _ _ hn (eT hn) aI⟩
end
end L2
namespace Kb
open PySem L2
variable {D:Addr}{H:Hp}{K:Zf}{Q:VK}{al:Za}{as:Za}{f:Addr}{fd:FuncData}{i:Nat}{key:List Key}{ks:List (List Key)}{m:Nat}{nss:List (Zb)}{p:Addr}{r:Int}{s:Nat}{v:V}{vs:List V}{w:Za}{ws:Zb}{wss:List (List Za)}{x:V}{xs:List V}{z:Za}{zs:List (Za)}{α:Type}{σ:St}
seal L2.PE L2.PA L2.PS L2.Ù L2.PT L2.PW L2.PG L2.î L2.PI L2.PO L2.Ka L2.ý
def top (i:Nat):Stmt:=PySem.Challenge.pw_cablehouse_k51_whole_asked_again.main.body.getD i (.Pass ⟨0,0,0,0⟩)
abbrev pM:Stmt:=top 14
abbrev iw:Stmt:=top 15
abbrev pG:Stmt:=top 16
abbrev kx:Stmt:=top 19
abbrev pJ:Stmt:=top 20
abbrev kr:Stmt:=top 21
abbrev rT:Stmt:=top 22
abbrev nc:Stmt:=top 23
abbrev rV:Stmt:=top 24
abbrev pF:Stmt:=top 25
abbrev rR:Stmt:=top 26
abbrev gG:Stmt:=inClass (top 27) 0
abbrev iS:Stmt:=inClass (top 27) 1
abbrev jt:Stmt:=inClass (top 27) 2
abbrev mT:Stmt:=inClass (top 27) 4
abbrev mU:Stmt:=inClass (top 27) 5
abbrev ko:Stmt:=inClass (top 27) 6
abbrev iT:Stmt:=inClass (top 27) 7
abbrev kq:Stmt:=top 36
abbrev mV:Stmt:=top 37
abbrev rS:Stmt:=top 40
abbrev mW:Stmt:=top 41
abbrev AZ:Stmt:=top 42
abbrev jw:Stmt:=top 47
abbrev pH:Stmt:=top 48
abbrev pU:Stmt:=top 49
abbrev pL:Stmt:=top 50
abbrev ju:Stmt:=top 51
abbrev pI:Stmt:=top 52
abbrev rX:Stmt:=top 54
abbrev pT:Stmt:=top 55
abbrev mX:Stmt:=top 57
abbrev rW:Stmt:=top 58
abbrev jx:Stmt:=top 59
abbrev ku:Stmt:=top 60
abbrev jv:Stmt:=top 61
abbrev rQ:Stmt:=top 62
abbrev lX:Stmt:=top 63
abbrev pK:Stmt:=top 68
abbrev gF:Stmt:=inClass (top 69) 0
abbrev mS:Stmt:=inClass (top 69) 1
abbrev di:Stmt:=inClass (top 69) 2
abbrev km:Stmt:=inClass (top 69) 3
abbrev gX:Stmt:=inClass (top 69) 4
abbrev lW:Stmt:=inClass (top 69) 6
abbrev kn:Stmt:=inClass (top 69) 7
abbrev kW:Stmt:=top 71
abbrev lZ:Stmt:=top 72
abbrev fe:Stmt:=top 73
abbrev ng:Stmt:=top 74
abbrev fc:Stmt:=top 75
abbrev ma:Stmt:=top 76
abbrev kz:Stmt:=top 78
abbrev mZ:Stmt:=top 79
abbrev k9:Stmt:=top 80
abbrev jy:Stmt:=top 81
abbrev kB:Stmt:=top 82
abbrev pP:Stmt:=top 83
abbrev ix:Stmt:=top 84
abbrev mY:Stmt:=top 85
abbrev kA:Stmt:=top 86
abbrev pQ:Stmt:=top 87
abbrev pR:Stmt:=top 88
abbrev gA:Stmt:=top 89
abbrev pN:Stmt:=top 90
abbrev lY:Stmt:=top 91
abbrev fA:Stmt:=top 92
abbrev qC:Stmt:=top 93
structure Bl (mg:Zk):Prop where
 isinstance:mg "isinstance"=none
 bool:mg "bool"=none
 int:mg "int"=none
 abs:mg "abs"=none
 all:mg "all"=none
 zip:mg "zip"=none
 len:mg "len"=none
 set:mg "set"=none
 str:mg "str"=none
 list:mg "list"=none
 sum:mg "sum"=none
 range:mg "range"=none
 enumerate:mg "enumerate"=none
 sorted:mg "sorted"=none
 tuple:mg "tuple"=none
 max:mg "max"=none
structure Ë where
 Code:Addr
 Book:Addr
 CableError:Addr
 NoCode:Addr
 NoNumber:Addr
 NoWord:Addr
 NoEntry:Addr
 Twice:Addr
 TooMany:Addr
 NoText:Addr
 NoReading:Addr
 NoSetting:Addr
 TooGarbled:Addr
 cd:Addr
 tb:Addr
 cd1:Addr
 tb1:Addr
 cd2:Addr
 tb2:Addr
 none:Unit:=()
noncomputable def Ë.LU (Ad:Ë):List Addr:=[Ad.NoCode,Ad.NoNumber,Ad.NoWord,Ad.NoEntry,Ad.Twice,Ad.TooMany,Ad.NoText,Ad.NoReading,Ad.NoSetting,Ad.TooGarbled]
structure Ç (K:Zf) (mg:Zk) (Ad:Ë):Prop where
 g_Code:mg "Code"=some (.ref Ad.Code)
 g_Book:mg "Book"=some (.ref Ad.Book)
 g_CableError:mg "CableError"=some (.ref Ad.CableError)
 g_NoCode:mg "NoCode"=some (.ref Ad.NoCode)
 g_NoNumber:mg "NoNumber"=some (.ref Ad.NoNumber)
 g_NoWord:mg "NoWord"=some (.ref Ad.NoWord)
 g_NoEntry:mg "NoEntry"=some (.ref Ad.NoEntry)
 g_Twice:mg "Twice"=some (.ref Ad.Twice)
 g_TooMany:mg "TooMany"=some (.ref Ad.TooMany)
 g_NoText:mg "NoText"=some (.ref Ad.NoText)
 g_NoReading:mg "NoReading"=some (.ref Ad.NoReading)
 g_NoSetting:mg "NoSetting"=some (.ref Ad.NoSetting)
 g_TooGarbled:mg "TooGarbled"=some (.ref Ad.TooGarbled)
 c_Code:Ý K Ad.Code
 n_Code_letters:gM K Ad.Code "letters"
 n_Code_factors:gM K Ad.Code "factors"
 n_Code_remainder:gM K Ad.Code "remainder"
 c_Book:Ý K Ad.Book
 n_Book_basis:gM K Ad.Book "basis"
 n_Book_by_number:gM K Ad.Book "by_number"
 n_Book_by_entry:gM K Ad.Book "by_entry"
 q_NoCode:PySem.W.excIn K Ad.NoCode Zv "ValueError.__new__"=true
 q_NoNumber:PySem.W.excIn K Ad.NoNumber Zv "ValueError.__new__"=true
 q_NoWord:PySem.W.excIn K Ad.NoWord Zv "ValueError.__new__"=true
 q_NoEntry:PySem.W.excIn K Ad.NoEntry Zv "ValueError.__new__"=true
 q_Twice:PySem.W.excIn K Ad.Twice Zv "ValueError.__new__"=true
 q_TooMany:PySem.W.excIn K Ad.TooMany Zv "ValueError.__new__"=true
 q_NoText:PySem.W.excIn K Ad.NoText Zv "ValueError.__new__"=true
 x_NoReading:PySem.W.exmOne K (.ref Ad.NoReading) (.ref Ad.NoReading)=some true
 t_tab:PySem.W.codeHdIn K Ad.cd Ad.tb=true
 t_tab1:PySem.W.codeHdIn K Ad.cd1 Ad.tb1=true
 t_tab2:PySem.W.codeHdIn K Ad.cd2 Ad.tb2=true
 err:Fd K Ad.CableError Ad.LU=true
 nd:Ė Ad.LU=true
 v_SMALL_LETTERS:∃ u,mg "SMALL_LETTERS"=some u/\RelV (.str "abcdefghijklmnopqrstuvwxyz") u
 v_LONGEST_WORD:∃ u,mg "LONGEST_WORD"=some u/\RelV (.int 20) u
 v_MOST_WORDS:∃ u,mg "MOST_WORDS"=some u/\RelV (.int 60) u
 v_FEWEST_CAME:∃ u,mg "FEWEST_CAME"=some u/\RelV (.int 2) u
 v_MOST_CAME:∃ u,mg "MOST_CAME"=some u/\RelV (.int 1400) u
 v_MOST_DOUBTFUL:∃ u,mg "MOST_DOUBTFUL"=some u/\RelV (.int 2) u
 v_MOST_ENTRIES:∃ u,mg "MOST_ENTRIES"=some u/\RelV (.int 300) u
 v_MOST_PHRASE_WORDS:∃ u,mg "MOST_PHRASE_WORDS"=some u/\RelV (.int 6) u
 v_MOST_PART_LETTERS:∃ u,mg "MOST_PART_LETTERS"=some u/\RelV (.int 6) u
section
variable {P:Zh}{w:Zi}{K:Zf}{mg:Zk}{base:Heap}{Ad:Ë}
theorem bA {p q:Prop} (a:p) (b:q):p/\q:=⟨a,b⟩
noncomputable def zzV:=bA @Ke<|bA @HJ<|bA @HF<|bA @HE<|bA @EH<|bA @Ko<|bA @EC<|bA @H0<|bA @Kd<|bA @fX<|bA @Kp<|bA @MV<|bA @LK<|bA @LN<|bA @LH<|bA @Hv<|bA @Ki<|bA @Hu<|bA @Km<|bA @LI<|bA @HG<|bA @Hz<|bA @HK<|bA @MU<|bA @Kj<|bA @Kc<|bA @LL<|bA @Ht<|bA @Kk<|bA @HH<|bA @Kg<|bA @Kh<|bA @Kn<|bA @Hx<|bA @LJ<|bA @LM<|bA @CF<|bA @HI<|bA @HB<|bA @EE<|bA @EF<|bA @HC<|bA @Kf<|bA @Kl<|bA @HA<|bA @LG<|bA @E9<|bA @J7<|bA @Fh<|bA @Fi<|bA @Ii<|bA @Ij<|bA @Ik<|bA @Ku<|bA @Il<|bA @ED<|bA @EG<|bA @Hw<|bA @EA<|bA @Fe<|bA @Ic<|bA @EB<|bA @Hy<|bA @GS<|bA @zY<|bA @zZ<|bA @Aa<|bA @Ap<|bA @Ak<|bA @Al<|bA @yq<|bA @Ai<|bA @Am<|bA @Ab<|bA @Dn<|bA @Dk<|bA @Dl<|bA @Dm<|bA @Ds<|bA @Dt<|bA @Du<|bA @Dp<|bA @Dq<|bA @Af<|bA @Ag<|bA @zX<|bA @Ah<|bA @yt<|bA @An<|bA @Ac<|bA @Dv<|bA @Dw<|bA @wR<|bA @wQ<|bA @yr<|bA @yv<|bA @Aj<|bA @Ao<|bA @Ae<|bA @zV<|bA @zW<|bA @Ie<|bA @yu<|bA @E8<|bA @CB<|bA @HD<|bA @E7<|bA @Ff<|bA @Ig<|bA @HL<|bA @Dr<|bA @CC<|bA @Fg<|@Dx
local macro_rules | `(tactic| symm) => `(tactic| try simp only [zzV, Gu, GB, AW, Mu, Ends.un, m9, nw, Eg, ĉ, gb, mn, Tg.sub, Tg.name, rU, Lp, Option.join_some, Int.toNat_natCast, List.getElem?_cons_zero, List.getElem?_cons_succ, List.set_cons_zero, List.set_cons_succ, List.map_cons, List.map_nil, List.cons_append, List.nil_append, List.length_cons, List.length_nil, List.replicate_succ, List.replicate_zero, Nat.reduceAdd, Nat.reduceSub, Nat.zero_add, bne_self_eq_false, Bool.true_bne, Bool.false_bne, Bool.not_true, Bool.not_false, if_true, if_false, Bool.false_eq_true, Bool.true_eq_false, reduceIte])
local macro_rules | `(tactic| ac_nf) => `(tactic| (symm; repeat (simp only [dF]; symm)))
local macro_rules | `(tactic| bv_omega) => `(tactic| try simp only [J7, Fh, Fi, Bool.not_false, Bool.not_true, if_true, if_false, Bool.false_eq_true, Bool.true_eq_false, true_and, and_true])
set_option hygiene false in
local macro_rules | `(tactic| bv_decide) => `(tactic| (intro vs H Q E h; first | (cases h; subst_vars; rfl) | repeat (first | (obtain ⟨rfl, _⟩ := h; rfl) | obtain ⟨_, h⟩ := h)))
set_option hygiene false in
local macro_rules | `(tactic| cbv) => `(tactic| (rw [hN]; clear hN nn))
set_option hygiene false in
local macro_rules | `(tactic| grind) => `(tactic| (refine cK fun nn hN => ?_; symm))
set_option hygiene false in
local macro_rules | `(tactic| right) => `(tactic| (intro cdv A outer s H vs Q E hr h; have hu := hr.iX; have hu1 := mF hr))
set_option hygiene false in
local macro_rules | `(tactic| exists $t) => `(tactic| (refine F.â (N:=$t) (by subst_eqs) ?_ ?_; bv_decide; right))
set_option hygiene false in
local macro_rules | `(tactic| specialize $t) => `(tactic| (refine F.â $t ?_ ?_; bv_decide; right))
local macro_rules | `(tactic| subst_eqs) => `(tactic| exact ⟨rfl, rfl, rfl, by nofun, rfl, by nofun, by nofun⟩)
structure cw (al:Za) (ws:Zb) (r:Int):Prop where
 a3:3<=⇑al
 a26:⇑al<=26
 nd:al.Nodup
 abc:∀ c∈al,97<=c/\c<123
 w3:3<=⇑ws
 w8:⇑ws<=8
 wm:∀ x∈ws,0<=x/\x<(⇑al:Int)
 safe:Mk.safe ⇑al ws=true
 rm:0<=r/\r<(⇑al:Int)
theorem cw.ð {al:Za}{ws:Zb}{r:Int} (h:cw al ws r):Mk.ð ws:=by intro x hx;have:=h.wm x hx;have:=h.a26;left
noncomputable def sh (al:Za) (q:Addr) (r:Int):List (Str×V):=[("letters",.str (tx al)),("factors",.ref q),("remainder",.int r)]
theorem dZ (al:Za) (q:Addr) (r:Int):(sh al q r).lookup ("letters":Str)=some (V.str (tx al)):=rfl
theorem fY (al:Za) (q:Addr) (r:Int):(sh al q r).lookup ("factors":Str)=some (V.ref q):=rfl
theorem mw (al:Za) (q:Addr) (r:Int):(sh al q r).lookup ("remainder":Str)=some (V.int r):=rfl
theorem c5 {m:Str} (h1:m≠("letters":Str)) (h2:m≠("factors":Str)) (h3:m≠("remainder":Str)) (al:Za) (q:Addr) (r:Int):(sh al q r).lookup m=none:=by unfold sh;rw[dR,dR,dR,lK h1,lK h2,lK h3];rfl
def cF (Ad:Ë) (H:Hp) (a:Addr) (al:Za) (ws:Zb) (r:Int):Prop:=∃ dx q,H a=some (.ins Ad.Code dx (sh al q r))/\H q=some (.lst (ws.map V.int))
theorem cF.same {Ad:Ë}{H H':Hp}{a:Addr} (h:cF Ad H a al ws r) (s:aB H H'):cF Ad H' a al ws r:=by obtain⟨dx,q,h1,h2⟩:=h;exact⟨dx,q,s _ _ h1,s _ _ h2⟩
def tN (H:Hp) (xa xw xr:V) (al:Za) (p:Addr) (ws:Zb) (r:Int):Prop:=xa=.str (tx al)/\xw=.ref p/\H p=some (.lst (ws.map V.int))/\xr=.int r/\cw al ws r
def HR (H:Hp) (xa xw xr:V):Prop:=∀ al p ws r,¬ tN H xa xw xr al p ws r
noncomputable def ä (al z:Za) (n:Int):Za:=z.take (n%(⇑z:Int)).toNat++[al.getD ((((al.idxOf (z.getD (n%(⇑z:Int)).toNat 0):Nat):Int)+(n/(⇑z:Int)%((⇑al:Int)-1)+1))%(⇑al:Int)).toNat 0]++z.drop ((n%(⇑z:Int)).toNat+1)
noncomputable def ã (z:Za) (n:Int):Za:=z.take (n%((⇑z:Int)-1)).toNat++[z.getD ((n%((⇑z:Int)-1)).toNat+1) 0]++[z.getD (n%((⇑z:Int)-1)).toNat 0]++z.drop ((n%((⇑z:Int)-1)).toNat+2)
structure r6 (al z:Za):Prop where
 z3:3<=⇑z
 z8:⇑z<=8
 mem:∀ c∈z,c∈al
 a3:3<=⇑al
 a26:⇑al<=26
theorem og {l:List α}{v:α} (h:l.getLast?=some v):Õ l (-1)=some v:=by
 have hne:l≠[]:=fun e=>by subst e;cases h
 have hl:=List.length_pos_iff.mpr hne;unfold Õ ê;rw[ai (by decide),aq ⋯];show l[_]?=some v;rw[nM] at h;rw[←h]
 congr 1
 left
theorem xI (c:Nat):(⟨#[c]⟩:Str)=tx [c]:=rfl
structure Flt where
 s:Int
 p:Int
 isL:Bool
 n:Int
noncomputable def å (b:Bool):Str:=if b then "letter" else "swap"
noncomputable def vj (f:Flt):List V:=[.int f.s,.int f.p,.str (å f.isL),.int f.n]
theorem mM {α β:Type}{F:α->β->Prop}{a:List α}{b:List β}{c:List α}{d:List β} (h:Paired F a b) (k:Paired F c d):Paired F (a++c) (b++d):=by
 induction h with
 | nil=>exact k
 | cons r _ ih=>exact .cons r ih
theorem jV {α β:Type}{F G:α->β->Prop} (f:∀ x y,F x y->G x y) {a:List α}{b:List β} (h:Paired F a b):Paired G a b:=Paired.IF h f
def B0 (H:Hp) (v:V) (f:Flt):Prop:=∃ t,v=.ref t/\H t=some (.tup (vj f))
def ft (H:Hp) (vs:List V) (fs:List Flt):Prop:=Paired (B0 H) vs fs
theorem ft.same {H H':Hp}{fs:List Flt} (h:ft H vs fs) (s:aB H H'):ft H' vs fs:=jV (fun _ _ ⟨t,e,ht⟩=>⟨t,e,s _ _ ht⟩) h
noncomputable def hits (s p:Int) (f:Flt):Bool:=decide (f.s=s)&&decide (f.p=p)
noncomputable def kN (al z:Za):Option Flt->Za
 | none=>z
 | some f=>if f.isL then ä al z f.n else ã z f.n
noncomputable def gE (al:Za) (fs:List Flt) (s:Int) (zs:List Za):List (Za):=(List.range ⇑zs).map fun i=>kN al (zs.getD i []) (fs.find? (hits s (i:Int)))
def oa (H:Hp) (kvs:List (List Key×V)) (fs:List Flt):Prop:=∀ s p:Int,(eI kvs [.inl s,.inl p]=none/\fs.find? (hits s p)=none)∨∃ t f,eI kvs [.inl s,.inl p]=some (.ref t)/\fs.find? (hits s p)=some f/\H t=some (.tup [.str (å f.isL),.int f.n])
noncomputable def È (z:Za):V:=.str (tx z)
def MQ (H:Hp) (v:V) (ns:Zb):Prop:=∃ b,v=.ref b/\H b=some (.lst (ns.map V.int))
def vz (H:Hp) (vs:List V) (nss:List Zb):Prop:=Paired (MQ H) vs nss
theorem vz.keep {H H':Hp} (h:vz H vs nss) (s:∀ b (ns:Zb),H b=some (.lst (ns.map V.int))->H' b=some (.lst (ns.map V.int))):vz H' vs nss:=jV (fun _ _ ⟨b,e,hb⟩=>⟨b,e,s _ _ hb⟩) h
theorem xy {H H':Hp}{g:α->HO}{xs:List α} (h:Paired (fun v x=>∃ b,v=V.ref b/\H b=some (g x)) vs xs) (n:∀ v∈vs,v≠V.ref D) (s:∀ b o,b≠D->H b=some o->H' b=some o):Paired (fun v x=>∃ b,v=V.ref b/\H' b=some (g x)) vs xs:=by
 induction h with
 | nil=>exact .nil
 | cons r _ ih =>obtain⟨b,e,hb⟩:=r;exact .cons ⟨b,e,s b _ (fun z=>n _ bu (by rw[e,z])) hb⟩ (ih fun v hv=>n v (b8 _ hv))
theorem vz.BV {H H':Hp} (h:vz H vs nss) (n:∀ v∈vs,v≠V.ref D) (s:∀ b o,b≠D->H b=some o->H' b=some o):vz H' vs nss:=xy (g:=fun ns:Zb=>.lst (ns.map V.int)) h n s
noncomputable def eL (n:Nat) (l:Za):Bool:=decide (1<=⇑l)&&decide (⇑l<=n)&&l.all fun c=>decide (97<=c/\c<123)
noncomputable def gN (n:Nat):V->Bool
 | .str z=>eL n z.cps.toList
 | _=>false
noncomputable def gO (n:Nat) (l:Za):Bool:=decide (⇑(Mk.bB 32 l)<=n)&&(Mk.bB 32 l).all (eL 20)
noncomputable def i5 (n:Nat):V->Bool
 | .str z=>gO n z.cps.toList
 | _=>false
noncomputable def iP:List V->Bool
 | [.str z]=>decide (z=("end":Str))
 | [.str z,y]=>if z=("phrase":Str) then i5 6 y else if z=("part":Str) then gN 6 y else false
 | _=>false
noncomputable def rB (H:Hp):V->Bool
 | .ref p=>match H p with
  | some (.tup xs)=>iP xs
  | _=>false
 | _=>false
theorem kJ {n:Nat}{l:Za} (h1:1<=⇑l) (h2:⇑l<=n) (h3:∀ c∈l,97<=c/\c<123):eL n l=true:=by unfold eL;rw[a9 h1,a9 h2,eQ,eQ,bY];exact fun c hc=>a9 (h3 c hc)
theorem v7 {n:Nat}{ws:List (Za)} (h1:1<=⇑ws) (h2:⇑ws<=n) (h3:∀ w∈ws,1<=⇑w/\⇑w<=20/\∀ c∈w,97<=c/\c<123):gO n (Mk.bR 32 ws)=true:=by unfold gO;rw[Mk.iG ws (fun e=>by rw[e] at h1;simp at h1) fun w hw hc=>by have:=(h3 w hw).2.2 32 hc;left,a9 h2,eQ,bY];exact fun w hw=>kJ (h3 w hw).1 (h3 w hw).2.1 (h3 w hw).2.2
theorem F3 {n:Nat}{ws:List (Za)} (h2:⇑ws<=n) (h3:∀ w∈ws,⇑w<=20):⇑(Mk.bR 32 ws)<=21*n/\(ws.map fun w=>⇑w+1).sum<=21*n:=by
 have h:=Mk.vT (c:=32) ws;have:(ws.map fun w=>⇑w+1).sum<=21*⇑ws:=by
  clear h2 h
  induction ws with
  | nil=>simp
  | cons w r ih =>have h1:=ih fun x hx=>h3 x (b8 _ hx);have h2:=h3 w bu;simp only[bI,jH,bH];left
 left
noncomputable def uc:Str:="Book.put.<locals>.<lambda>"
structure Æ where
 num:Int
 key:List Key
 adr:Addr
noncomputable def tI (ca dn de:Addr):List (Str×V):=[("basis",.ref ca),("by_number",.ref dn),("by_entry",.ref de)]
theorem jS (p q r:Addr):(tI p q r).lookup ("basis":Str)=some (V.ref p):=rfl
theorem kL (p q r:Addr):(tI p q r).lookup ("by_number":Str)=some (V.ref q):=rfl
theorem r9 (p q r:Addr):(tI p q r).lookup ("by_entry":Str)=some (V.ref r):=rfl
theorem dg {m:Str} (h1:m≠("basis":Str)) (h2:m≠("by_number":Str)) (h3:m≠("by_entry":Str)) (p q r:Addr):(tI p q r).lookup m=none:=by unfold tI;rw[dR,dR,dR,lK h1,lK h2,lK h3];rfl
noncomputable def iu (es:List Æ):List (Key×V):=(es.map fun e=>(e.num,V.ref e.adr)).map fun q=>(.inl q.1,q.2)
noncomputable def qi (es:List Æ):List (List Key×V):=es.map fun e=>(e.key,V.int e.num)
structure du (Ad:Ë) (H:Hp) (b ca dn de:Addr) (es:List Æ):Prop where
 bk:∃ dx,H b=some (.ins Ad.Book dx (tI ca dn de))
 hn:H dn=some (.dK (iu es))
 he:H de=some (.dT (qi es))
 en:∀ e∈es,H e.adr=some (.tup (e.key.map kV))
 nn:(es.map (·.num)).Nodup
 nk:(es.map (·.key)).Nodup
theorem du.same {Ad:Ë}{H H':Hp}{b ca dn de:Addr}{es:List Æ} (h:du Ad H b ca dn de es) (s:aB H H'):du Ad H' b ca dn de es:=by obtain⟨⟨dx,h1⟩,h2,h3,h4,h5,h6⟩:=h;exact⟨⟨dx,s _ _ h1⟩,s _ _ h2,s _ _ h3,fun e he=>s _ _ (h4 e he),h5,h6⟩
theorem xS {α κ:Type} [DecidableEq κ] {f:α->κ}{g:α->V}:∀ {es:List α}{e:α},(es.map f).Nodup->e∈es->eI (es.map fun x=>(f x,g x)) (f e)=some (g e)
 | x::r,e,hn,he=>by
  obtain⟨h1,h2⟩:=dD.mp hn;unfold eI;rw[bI,eV]
  by_cases h:f x=f e
  ·rw[a9 h];rcases aY.mp he with rfl | he
   ·rfl
   ·exact absurd (qU (f:=f) he) (by rw[←h];exact h1)
  ·rw[aF h];rcases aY.mp he with rfl | he
   ·exact absurd rfl h
   ·exact xS h2 he
theorem Bv {α κ:Type} [DecidableEq κ] {f:α->κ}{g:α->V}{k:κ}:∀ {es:List α},k∉es.map f->eI (es.map fun x=>(f x,g x)) k=none
 | [],_=>rfl
 | x::r,h=>by rw[bI,aY,not_or] at h;unfold eI;rw[bI,eV,aF (show ¬ f x=k from fun e=>h.1 e.symm)];exact Bv h.2
theorem qr (es:List Æ):iu es=es.map fun e=>(.inl e.num,V.ref e.adr):=by unfold iu;rw[bf];rfl
theorem Kx {es:List Æ} (h:(es.map (·.num)).Nodup):(es.map fun e=>(.inl e.num:Key)).Nodup:=by
 have e:(es.map fun e=>(.inl e.num:Key))=(es.map (·.num)).map Sum.inl:=by rw[bf];rfl
 rw[e];exact List.Pairwise.map _ (fun a b (h:a≠b) z=>h (Sum.inl.inj z)) h
theorem xf {es:List Æ}{e:Æ} (hn:(es.map (·.num)).Nodup) (he:e∈es):eI (iu es) (.inl e.num)=some (.ref e.adr):=by rw[qr];exact xS (f:=fun e:Æ=>(.inl e.num:Key)) (Kx hn) he
theorem uk {es:List Æ}{k:Int} (h:k∉es.map (·.num)):eI (iu es) (.inl k)=none:=by rw[qr];refine Bv (f:=fun e:Æ=>(.inl e.num:Key)) fun m=>h ?_;obtain⟨e,he,ee⟩:=aO.mp m;exact aO.mpr ⟨e,he,Sum.inl.inj ee⟩
theorem FT {es:List Æ}{k:Int} (hn:(es.map (·.num)).Nodup):(eI (iu es) (.inl k)).isSome=decide (k∈es.map (·.num)):=by
 by_cases h:k∈es.map (·.num)
 ·obtain⟨e,he,rfl⟩:=aO.mp h;rw[xf hn he,a9 h];rfl
 ·rw[uk h,aF h];rfl
theorem HW {es:List Æ}{e:Æ} (hn:(es.map (·.key)).Nodup) (he:e∈es):eI (qi es) e.key=some (.int e.num):=xS (f:=fun e:Æ=>e.key) hn he
theorem zU {es:List Æ}{k:List Key} (h:k∉es.map (·.key)):eI (qi es) k=none:=Bv (f:=fun e:Æ=>e.key) h
theorem xC {κ:Type} [DecidableEq κ] {kvs:List (κ×V)}{k:κ} (h:eI kvs k=none):putK kvs k v=kvs++[(k,v)]:=by unfold putK;rw[nG,h];rfl
theorem wa (es:List Æ) (e:Æ):iu (es++[e])=iu es++[(.inl e.num,.ref e.adr)]:=by unfold iu;simp
theorem Di (es:List Æ) (e:Æ):qi (es++[e])=qi es++[(e.key,.int e.num)]:=by unfold qi;simp
theorem mK (es:List Æ):⇑(iu es)=⇑es:=by unfold iu;simp
def zF (ns:Zb) (n:Int):Prop:=0<=n/\n∉ns/\∀ m,0<=m->m<n->m∈ns
structure fV (key:List Key):Prop where
 is:iP (key.map kV)=true
 few:⇑key<=2
 short:∀ z,V.str z∈key.map kV->⇑z<=10000
noncomputable def dj (al:Za) (ws:Zb):Int:=(⇑al:Int)^(⇑ws-1)
theorem BL {t:Addr} (ht:H t=some (.tup (key.map kV))) (ok:fV key):rB H (.ref t)=true:=by show (match H t with | some (.tup xs)=>iP xs | _=>false)=true;rw[ht];exact ok.is
theorem F7 (H:Hp) (z:Key):∃ t,gb H (kV z)=some t:=by
 cases z with
 | inl i=>exact⟨.int,rfl⟩
 | inr s=>exact⟨.str,rfl⟩
theorem gz {α β:Type}{F:α->β->Prop}:∀ {l₁:List α}{l₂:List β},Paired F l₁ l₂->⇑l₁=⇑l₂
 | _,_,.nil=>rfl
 | _,_,.cons _ r=>by rw[bH,bH,gz r]
theorem De (xs:List V):m7 xs none (some (-1))=xs.dropLast:=by rw[zQ,List.dropLast_eq_take]
theorem MZ {J:It}{H1:Hp}{js:Za}{σ:St}{te:TE}{Q:VK} (hJ:J.Seq H1 xs) (hl:⇑xs<sizeLine) (G:V->Prop)
  (he:∀ x∈xs,∀ H,aB H1 H->∀ R:VK,(∀ v H',aB H H'->G v->R v H')->te (some x::js.map fun j=>(σ[j]?).join) H R)
  (q:∀ D vs H,H1 D=none->aB H1 H->H D=some (.lst vs)->⇑vs=⇑xs->(∀ v∈vs,G v)->Q (.ref D) H):eK (eR 0) xQ te (ip 1 js σ) J H1 Q:=by
 intro D hD;refine⟨fun i m ys σ1 H=>m=⇑xs-i/\i<=⇑xs/\(∃ o,σ1=o::js.map fun j=>(σ[j]?).join)/\⇑ys=i/\(∀ v∈ys,G v)/\aB H1 H/\H D=some (.lst ys),
  ⟨⇑xs,by simp,br _,⟨none,rfl⟩,rfl,(fun v hv=>nomatch hv),(aB.refl H1).cf hD,aI⟩,?_⟩
 rintro i m ys σ1 H ⟨rfl,hi,⟨o,rfl⟩,hy,hg,sH,hL⟩;refine⟨hL,⋯,?_⟩
 by_cases hlt:i<⇑xs
 ·have e:xs[i]?=some xs[i]:=aC hlt;obtain⟨go,yl⟩:=(hJ H sH).1 i xs[i] e;refine .inr ⟨go,fun x H' y=>?_⟩;obtain⟨q1,q2⟩:=yl x H' y;subst q1 q2;show te (some xs[i]::js.map fun j=>(σ[j]?).join) H' _;refine he _ (cj hlt) H' sH _ fun v H4 s4 hv4=>?_;refine⟨s4 _ _ hL,⇑xs-(i+1),⋯,rfl,hlt,⟨_,rfl⟩,by rw[aE,hy];rfl,fun v hv=>?_,(sH.trans s4).cf hD,aI⟩;rcases bC.mp hv with hv | hv
  ·exact hg v hv
  ·rw[aS.mp hv];exact hv4
 ·have e:i=⇑xs:=⋯
  subst e;exact .inl ⟨(hJ H sH).2 _ (aw _),q D ys H hD sH hL hy hg⟩
theorem GQ (c:Nat):∀ l:Za,1<=⇑(Mk.bB c l)
 | []=>by simp [Mk.bB]
 | a::l=>by
  unfold Mk.bB;split
  ·simp
  ·split<;>simp
abbrev Ø:=List (Za)×Za
noncomputable def Ma:Key->Za
 | .inr z=>z.cps.toList
 | .inl _=>[]
noncomputable def xK (w:Za) (s:Ø):Option Ø:=if s.2=[]/\s.1.length+⇑(Mk.bB 32 w)<=60 then some (s.1++Mk.bB 32 w,[]) else none
noncomputable def xM (w:Za) (s:Ø):Option Ø:=if s.1.length<60/\s.2.length+⇑w<=20 then some (s.1,s.2++w) else none
noncomputable def Lv (s:Ø):Option Ø:=if s.2=[] then none else some (s.1++[s.2],[])
noncomputable def stepK (key:List Key) (s:Ø):Option Ø :=
 match key with
 | [.inr z,y]=>if z=("phrase":Str) then xK (Ma y) s else xM (Ma y) s
 | _=>Lv s
noncomputable def runK:List (List Key)->Ø->Option Ø
 | [],s=>some s
 | k::r,s=>match stepK k s with
  | none=>none
  | some s'=>runK r s'
theorem kU:∀ (a b:List (List Key)) (s:Ø),runK (a++b) s=match runK a s with | none=>none | some s'=>runK b s'
 | [],b,s=>rfl
 | k::a,b,s=>by
  show (match stepK k s with | none=>none | some s'=>runK (a++b) s')=match (match stepK k s with | none=>none | some s'=>runK a s') with | none=>none | some s'=>runK b s'
  cases stepK k s with
  | none=>rfl
  | some s'=>exact kU a b s'
theorem mC (ok:fV key):(∃ l,key=[.inr ("phrase":Str),.inr (tx l)]/\gO 6 l=true)∨(∃ l,key=[.inr ("part":Str),.inr (tx l)]/\eL 6 l=true)∨key=[.inr ("end":Str)]:=by
 have h:=ok.is;cases key with
 | nil=>cases h
 | cons a r =>
  cases a with
  | inl i=>cases h
  | inr z =>
   cases r with
   | nil =>have h':decide (z=("end":Str))=true:=h;exact .inr (.inr (by rw[gj h']))
   | cons y r2 =>
    cases r2 with
    | cons _ _=>cases h
    | nil =>
     have h':(if z=("phrase":Str) then i5 6 (kV y) else if z=("part":Str) then gN 6 (kV y) else false)=true:=h;cases y with
     | inl i =>
      exfalso;split at h'
      ·cases h'
      ·split at h'<;>cases h'
     | inr y =>
      have ey:y=tx y.cps.toList:=by cases y;simp [tx]
      split at h'
      ·rename_i hz
       exact .inl ⟨y.cps.toList,by rw[hz,←ey],h'⟩
      ·split at h'
       ·rename_i hz
        exact .inr (.inl ⟨y.cps.toList,by rw[hz,←ey],h'⟩)
       ·cases h'
theorem gJ (l:Za) (s:Ø):stepK [.inr ("phrase":Str),.inr (tx l)] s=if s.2=[]/\s.1.length+⇑(Mk.bB 32 l)<=60 then some (s.1++Mk.bB 32 l,[]) else none:=by show (if ("phrase":Str)=("phrase":Str) then xK (tx l).cps.toList s else xM (tx l).cps.toList s)=xK l s;rw[aq rfl,bW]
theorem i4 (l:Za) (s:Ø):stepK [.inr ("part":Str),.inr (tx l)] s=if s.1.length<60/\s.2.length+⇑l<=20 then some (s.1,s.2++l) else none:=by show (if ("part":Str)=("phrase":Str) then xK (tx l).cps.toList s else xM (tx l).cps.toList s)=xM l s;rw[ai (by decide),bW]
theorem jA (s:Ø):stepK [.inr ("end":Str)] s=if s.2=[] then none else some (s.1++[s.2],[]):=rfl
def kI (w:Za):Prop:=1<=⇑w/\⇑w<=20/\∀ c∈w,97<=c/\c<123
structure oT (s:Ø):Prop where
 few:s.1.length<=60
 wds:∀ w∈s.1,kI w
 len:s.2.length<=20
 let_:∀ c∈s.2,97<=c/\c<123
 sp:s.2≠[]->s.1.length<60
theorem Nt:oT ([],[]):=⟨Zd,(fun w h=>by cases h),Zd,(fun c h=>by cases h),fun h=>absurd rfl h⟩
theorem rG {n:Nat}{l:Za} (h:eL n l=true):1<=⇑l/\⇑l<=n/\∀ c∈l,97<=c/\c<123:=by unfold eL at h;rw[bV,bV,bE,bE,bY] at h;exact⟨h.1.1,h.1.2,fun c hc=>gj (h.2 c hc)⟩
theorem Bx {n:Nat}{l:Za} (h:gO n l=true):⇑(Mk.bB 32 l)<=n/\∀ w∈Mk.bB 32 l,kI w:=by unfold gO at h;rw[bV,bE,bY] at h;exact⟨h.1,fun w hw=>rG (h.2 w hw)⟩
theorem oT.step {s s':Ø} (ok:fV key) (h:oT s) (e:stepK key s=some s'):oT s':=by
 rcases mC ok with ⟨l,rfl,hl⟩ | ⟨l,rfl,hl⟩ | rfl
 ·rw[gJ] at e;split at e
  ·rename_i hc
   cases e
   obtain⟨_,hw⟩:=Bx hl;exact⟨by rw[aE];exact hc.2,fun w hw'=>(bC.mp hw').elim (h.wds w) (hw w),by simp,(fun c hc=>by cases hc),fun hh=>absurd rfl hh⟩
  ·cases e
 ·rw[i4] at e;split at e
  ·rename_i hc
   cases e
   obtain⟨_,_,hw⟩:=rG hl;exact⟨h.few,h.wds,by rw[aE];exact hc.2,fun c hc'=>(bC.mp hc').elim (h.let_ c) (hw c),fun _=>hc.1⟩
  ·cases e
 ·rw[jA] at e;split at e
  ·cases e
  ·rename_i hc
   cases e
   have:=h.sp hc;have l1:1<=s.2.length:=by
    cases hs:s.2 with
    | nil=>exact absurd hs hc
    | cons _ _=>simp
   exact⟨by rw[aE];exact this,fun w hw=>(bC.mp hw).elim (h.wds w) fun hw=>by rw[aS.mp hw];exact⟨l1,h.len,h.let_⟩,by simp,(fun c hc=>by cases hc),fun hh=>absurd rfl hh⟩
theorem oT.run:∀ {ks:List (List Key)}{s s':Ø},(∀ k∈ks,fV k)->oT s->runK ks s=some s'->oT s'
 | [],s,s',_,h,e=>by cases e;exact h
 | k::r,s,s',ok,h,e=>by
  have e':(match stepK k s with | none=>none | some t=>runK r t)=some s':=e;cases hs:stepK k s with
  | none=>rw[hs] at e';cases e'
  | some t =>rw[hs] at e';exact oT.run (fun x hx=>ok x (b8 _ hx)) (h.step (ok k bu) hs) e'
theorem zR:fV [.inr ("end":Str)]:=⟨rfl,Zd,fun z hz=>by have:V.str z=V.str ("end":Str):=aS.mp hz;cases this;decide⟩
theorem qh {l:Za} (h:eL 6 l=true):fV [.inr ("part":Str),.inr (tx l)]:=⟨by
 show eL 6 (tx l).cps.toList=true;rw[bW];exact h,aw 2,fun z hz=>by
 have hz':V.str z∈[V.str ("part":Str),V.str (tx l)]:=hz;have:=(rG h).2.1;rcases aY.mp hz' with e | e
 ·cases e;decide
 ·have e2:V.str z=V.str (tx l):=aS.mp e;cases e2;rw[bh];left⟩
theorem qj {ws:List (Za)} (h60:⇑ws<=60) (hw:∀ w∈ws,kI w):⇑(Mk.bR 32 ws)<=1260/\(ws.map fun w=>⇑w+1).sum<=1260:=by obtain⟨a,b⟩:=F3 (n:=60) h60 fun w h=>(hw w h).2.1;exact⟨⋯,⋯⟩
theorem Jm {s':Ø} (h:runK ks ([],[])=some s') (i:Nat):∃ s,runK (ks.take i) ([],[])=some s/\runK (ks.drop i) s=some s':=by
 rw[←List.take_append_drop i ks,kU] at h;cases hr:runK (ks.take i) ([],[]) with
 | none=>rw[hr] at h;cases h
 | some s=>rw[hr] at h;exact⟨s,rfl,h⟩
theorem qA {k:List Key}{s s':Ø}{s0:Ø} (h:runK ks s0=some s) (e:stepK k s=some s'):runK (ks++[k]) s0=some s':=by rw[kU,h];show (match stepK k s with | none=>none | some t=>runK [] t)=some s';rw[e];rfl
theorem ye (ns:Zb) (a b:Nat):∃ l:Zb,m7 (ns.map V.int) (some (a:Int)) (some (b:Int))=l.map V.int/\⇑l<=b-a:=by
 refine⟨(ns.drop (min a ⇑ns)).take (min b ⇑ns-min a ⇑ns),?_,bM (List.length_take_le ..) ?_⟩
 ·unfold m7;rw[HT.jd,HT.jd,ak,List.map_take,nO]
 ·rcases Nat.le_total a ⇑ns with h | h
  ·rw[iM h];exact Nat.sub_le_sub_right (Nat.min_le_left ..) _
  ·rw[Nat.min_eq_right h,Nat.sub_eq_zero_of_le (Nat.min_le_right ..)];exact br _
def GoodW (al:Za) (ws:Zb) (r:Int) (z:Za):Prop:=∃ ps:Zb,z=Mk.ef al ps/\⇑ps=⇑ws/\(∀ x∈ps,0<=x/\x<(⇑al:Int))/\Mk.good ⇑al ws r ps=true
theorem GoodW.wd (h:GoodW al ws r z) (ok:cw al ws r):r6 al z:=by obtain⟨ps,rfl,hl,hm,_⟩:=h;have sl:=Mk.i3 al ps;have w3:=ok.w3;have w8:=ok.w8;refine⟨⋯,⋯,fun c hc=>?_,ok.a3,ok.a26⟩;unfold Mk.ef at hc;obtain⟨p,hp,rfl⟩:=aO.mp hc;exact Mk.getD_mem (hm p hp)
theorem GoodW.good (h:GoodW al ws r z) (ok:cw al ws r):Mk.cL al ws r z=true:=by obtain⟨ps,rfl,hl,hm,hg⟩:=h;rw[Mk.p9 ok.nd hl hm];exact hg
theorem Ih {r n:Int} (ok:cw al ws r) (h:GoodW al ws r z):Mk.cL al ws r (ä al z n)=false:=by
 obtain⟨ps,rfl,hl,hm,hg⟩:=h;have sl:=Mk.i3 al ps;have w3:=ok.w3;have a3:=ok.a3;unfold ä;rw[sl];obtain⟨i,hi⟩:=dm (b7 n (show (⇑ps:Int)≠0 by left));have hip:i<⇑ps:=by have:=bJ n (show 0<(⇑ps:Int) by left);left
 rw[hi,cC];have hpi:=hm _ (cj hip);have hci:(Mk.ef al ps).getD i 0=al.getD ps[i].toNat 0:=by rw[aK];unfold Mk.ef;rw[aX,aC hip];rfl
 have hix:al.idxOf (al.getD ps[i].toNat 0)=ps[i].toNat:=Mk.vO ok.nd (Mk.getD_at hpi);rw[hci,hix,iI hpi.1];have f0:=b7 (n/(⇑ps:Int)) (show (⇑al:Int)-1≠0 by left);have f1:=bJ (n/(⇑ps:Int)) (show 0<(⇑al:Int)-1 by left);generalize n/(⇑ps:Int)%((⇑al:Int)-1)=fu at f0 f1;have hj0:=b7 (ps[i]+(fu+1)) (show (⇑al:Int)≠0 by left);have hj1:=bJ (ps[i]+(fu+1)) (show 0<(⇑al:Int) by left);have hne:(ps[i]+(fu+1))%(⇑al:Int)≠ps[i]:=by
  by_cases h:ps[i]+(fu+1)<⇑al
  ·rw[nH ⋯ h];left
  ·have e:(ps[i]+(fu+1))%(⇑al:Int)=ps[i]+(fu+1)-⇑al:=by
    rw[←Int.sub_emod_right,nH ⋯ ⋯]
   rw[e];left
 generalize (ps[i]+(fu+1))%(⇑al:Int)=j at hj0 hj1 hne;have hwi:ws[i]?=some ws[i]:=aC ⋯;rw[Mk.Ep hip,Mk.p9 ok.nd (by rw[List.length_set];exact hl) (Mk.uW hm ⟨hj0,hj1⟩)];exact Mk.Ft hwi (aC hip) ((Mk.jz.mp ok.safe).1 _ (bT hwi)) hpi ⟨hj0,hj1⟩ hne hg
theorem oq (xs:List V) (h:xs.all dM=true):oK xs xs=true:=by rw[←lQ rfl,bY];intro j hj;have hj':=cE.mp hj;rw[aK,aC hj'];exact mD (bY.mp h _ (cj hj'))
theorem fw (zs:List Za):(zs.map È).all dM=true:=by rw[bY];intro v hv;obtain⟨z,_,rfl⟩:=aO.mp hv;rfl
noncomputable def cB (zs:List Za) (as:Za):List (Za):=as.map fun i=>zs.getD i []
noncomputable def iY (as:Za) (sent came:List Za):Za:=((List.range ⇑as).filter fun j=>!decide (sent.getD j []=came.getD j [])).map fun j=>as.getD j 0
noncomputable def qm (sent came:List Za):List (Za):=((List.range ⇑sent).filter fun j=>!decide (sent.getD j []=came.getD j [])).map fun j=>sent.getD j []
noncomputable def oW (al:Za) (fs:List Flt) (zs:List Za):Nat->Nat->Za->List (List Za)
 | 0,_,_=>[]
 | n+1,s,as=>if as=[] then [] else gE al fs (s:Int) (cB zs as)::oW al fs zs n (s+1) (iY as (cB zs as) (gE al fs (s:Int) (cB zs as)))
theorem oi (al:Za) (fs:List Flt) (s:Int) (zs:List Za):⇑(gE al fs s zs)=⇑zs:=by unfold gE;rw[ak,bZ]
theorem vG {fs:List Flt}{s:Int} (h:i<⇑zs):(gE al fs s zs)[i]?=some (kN al (zs.getD i []) (fs.find? (hits s (i:Int)))):=by unfold gE;rw[aX,lx h];rfl
theorem oC (zs:List Za) (as:Za):⇑(cB zs as)=⇑as:=by unfold cB;rw[ak]
theorem zP {fs:List Flt} (h:∀ f∈fs,f.s≠(s:Int)):gE al fs (s:Int) zs=zs:=by
 apply nI;intro i
 by_cases hi:i<⇑zs
 ·rw[vG hi];have:fs.find? (hits (s:Int) (i:Int))=none:=qP.mpr fun f hf=>by
   unfold hits;rw[aF (by have:=h f hf;left)];simp
  rw[this,aK,aC hi];rfl
 ·rw[fI (by rw[oi];left),fI ⋯]
theorem A5 (as:Za) (ws:List Za):iY as ws ws=[]:=by unfold iY;rw[lq.mpr fun j _=>by simp];rfl
theorem En {came:List (Za)} (h:⇑came=⇑as):cB zs (iY as (cB zs as) came)=qm (cB zs as) came:=by unfold iY qm;rw[oC];unfold cB;rw[bf];refine eX fun j hj=>?_;have hj':=cE.mp (iL.mp hj).1;show zs.getD (as.getD j 0) []=_;rw[aK (l:=as.map _),aX,aK (l:=as),aC hj'];rfl
theorem Jy {r n:Int} (ok:cw al ws r) (h:GoodW al ws r z) (hne:ã z n≠z):Mk.cL al ws r (ã z n)=false:=by
 obtain⟨ps,rfl,hl,hm,hg⟩:=h;have sl:=Mk.i3 al ps;have w3:=ok.w3;unfold ã at hne ⊢;rw[sl] at hne ⊢;obtain⟨i,hi⟩:=dm (b7 n (show (⇑ps:Int)-1≠0 by left));have hip:i+1<⇑ps:=by have:=bJ n (show 0<(⇑ps:Int)-1 by left);left
 rw[hi,cC] at hne ⊢;have gc:∀ j (hj:j<⇑ps),(Mk.ef al ps).getD j 0=al.getD ps[j].toNat 0:=fun j hj=>by rw[aK];unfold Mk.ef;rw[aX,aC hj];rfl
 rw[gc i ⋯,gc (i+1) hip,cD (List.take i _),Mk.Bj hip] at hne ⊢;have hwi:ws[i]?=some ws[i]:=aC ⋯;have hwi2:ws[i+1]?=some ws[i+1]:=aC ⋯;have hi0:i<⇑ps:=⋯
 rw[Mk.p9 ok.nd (by rw[List.length_set,List.length_set];exact hl) (Mk.uW (Mk.uW hm (hm _ (cj hip))) (hm _ (cj hi0)))];refine Mk.DC hwi hwi2 (aC hi0) (aC hip) ((Mk.jz.mp ok.safe).2 i _ _ hwi hwi2) (hm _ (cj hi0)) (hm _ (cj hip)) (fun e=>hne ?_) hg;rw[e];have e1:ps.set i ps[i]=ps:=List.set_getElem_self hi0;rw[e1];have e2:ps.set (i+1) ps[i]=ps:=by rw[←e];exact List.set_getElem_self hip
 rw[e2]
theorem CZ (ok:cw al ws r)  (g:GoodW al ws r z) {o:Option Flt} (hne:kN al z o≠z):Mk.cL al ws r (kN al z o)=false:=by
 cases o with
 | none=>exact absurd rfl hne
 | some f =>
  have e:kN al z (some f)=if f.isL then ä al z f.n else ã z f.n:=rfl
  rw[e] at hne ⊢;cases hl:f.isL with
  | true=>exact Ih ok g
  | false =>rw[hl] at hne;exact Jy ok g hne
theorem DR (ok:cw al ws r)  (h:Mk.cL al ws r z=true):0<=Mk.numOf ⇑al (Mk.Û al z.dropLast)/\Mk.numOf ⇑al (Mk.Û al z.dropLast)<(⇑al:Int)^(⇑ws-1):=by
 have a3:=ok.a3;unfold Mk.cL at h;rw[bV] at h;obtain⟨hl,hm⟩:=Mk.tX.mp h.1;have hb:=Mk.qt (m:=(⇑al:Int)) ⋯ (Mk.Û al z.dropLast) fun p hp=>by unfold Mk.Û at hp;obtain⟨c,hc,rfl⟩:=aO.mp hp;have:=List.idxOf_lt_length_of_mem (hm c (List.dropLast_subset _ hc));left
 have e:⇑(Mk.Û al z.dropLast)=⇑ws-1:=by unfold Mk.Û;rw[ak,List.length_dropLast];left
 rw[e] at hb;exact hb
def MS (H:Hp) (v:V) (ws:List Za):Prop:=∃ p,v=.ref p/\H p=some (.lst (ws.map È))
def jR (H:Hp) (vs:List V) (wss:List (List Za)):Prop:=Paired (MS H) vs wss
theorem jR.keep {H H':Hp} (h:jR H vs wss) (s:∀ b (ws:List Za),H b=some (.lst (ws.map È))->H' b=some (.lst (ws.map È))):jR H' vs wss:=jV (fun _ _ ⟨b,e,hb⟩=>⟨b,e,s _ _ hb⟩) h
theorem C4 {c:TT}{tb:TS}{D:Ends} (W:Nat->St->Hp->Prop) (m:Nat) (h0:W m σ H)
  (hs:∀ m σ H,W m σ H->c σ H fun b H1=>if b=true then ∃ N:St->Hp->Prop,(∀ σ' H',N σ' H'->∃ m',m'<m/\W m' σ' H')/\tb { D with nx:=N,ct:=N,bk:=D.nx } σ H1 else D.nx σ H1):Bq c tb D σ H:=⟨W,⟨m,h0⟩,hs⟩
theorem L5 (h:jR H vs wss)  (hp:H p=none):∀ v∈vs,v≠V.ref p:=fun v hv e=>by obtain⟨i,hi⟩:=jF hv;obtain⟨_,_,b,eb,hb⟩:=fb h hi;rw[e] at eb;cases eb;rw[hp] at hb;cases hb
theorem jR.BV {H H':Hp}{P:Addr->Prop}:∀ {vs:List V}{wss:List (List Za)},jR H vs wss->(∀ p,V.ref p∈vs->P p)->(∀ b o,P b->H b=some o->H' b=some o)->jR H' vs wss
 | _,_,.nil,_,_=>.nil
 | _,_,.cons ⟨b,e,hb⟩ t,h,s=>.cons ⟨b,e,s b _ (h b (by rw[e];exact bu)) hb⟩ (jR.BV t (fun p hp=>h p (b8 _ hp)) s)
theorem IE {s c:List (Za)} (h:as.Nodup):(iY as s c).Nodup:=by unfold iY;refine nR.mpr (List.Pairwise.imp_of_mem (fun {i j} hi hj hij e=>?_) (List.Pairwise.filter _ List.nodup_range));have hi':=cE.mp (iL.mp hi).1;have hj':=cE.mp (iL.mp hj).1;rw[aK,aK,aC hi',aC hj'] at e;exact hij ((List.getElem_inj h).mp e)
theorem ID {s c:List (Za)}{n:Nat} (h:∀ i∈as,i<n):∀ i∈iY as s c,i<n:=fun i hi=>by unfold iY at hi;obtain⟨j,hj,rfl⟩:=aO.mp hi;have hj':=cE.mp (iL.mp hj).1;rw[aK,aC hj'];exact h _ (cj hj')
theorem Jv (al:Za) (fs:List Flt) (zs:List Za):∀ n s,oW al fs zs n s []=[]
 | 0,_=>rfl
 | n+1,s=>by show (if ([]:Za)=[] then [] else _)=[];rw[aq rfl]
theorem yH {fs:List Flt} (hf:∀ f∈fs,f.s≠61) (hs:s<=61) (h:iY as (cB zs as) (gE al fs (s:Int) (cB zs as))≠[]):s+1<=61:=by
 rcases Nat.lt_or_eq_of_le hs with h3 | h3
 ·left
 ·exfalso;apply h;rw[zP (fun f hf'=>by have:=hf f hf';left),A5]
theorem ES {al z:Za}{o:Option Flt} (h:⇑z<=8):⇑(kN al z o)<=100:=by
 cases o with
 | none=>show ⇑z<=100;left
 | some f =>
  have e:kN al z (some f)=if f.isL then ä al z f.n else ã z f.n:=rfl
  rw[e];cases f.isL with
  | true =>show ⇑(ä al z f.n)<=100;unfold ä;simp only[aE,cP,cX,fJ];left
  | false =>show ⇑(ã z f.n)<=100;unfold ã;simp only[aE,cP,cX,fJ];left
noncomputable def oN (i:Nat):V:=.int (i:Int)
theorem FN (a b:Nat) (h:oN a=oN b):a=b:=by have:=V.int.inj h;left
noncomputable def kS (zs:List Za) (as:Za):List (Za):=(List.range ⇑zs).map fun i=>if i∈as then [] else zs.getD i []
theorem yD (zs:List Za):kS zs []=zs:=by
 unfold kS;apply nI;intro i;rw[aX]
 by_cases hi:i<⇑zs
 ·rw[lx hi,aC hi];show some (if i∈([]:Za) then [] else zs.getD i [])=_;rw[ai (by simp),aK,aC hi];rfl
 ·rw[fI (by rw[bZ];left),fI ⋯];rfl
theorem yC (zs:List Za) (as:Za):⇑(kS zs as)=⇑zs:=by unfold kS;rw[ak,bZ]
theorem FA {A B:Za}{at_:Nat} (ha:at_∉A++B) (hl:at_<⇑zs):(kS zs (A++at_::B)).set at_ (zs.getD at_ [])=kS zs (A++B):=by
 apply nI;intro i
 by_cases hi:i=at_
 ·subst hi;rw[List.getElem?_set_self (by rw[yC];exact hl)];unfold kS;rw[aX,lx hl];show _=some (if i∈A++B then [] else zs.getD i []);rw[ai ha]
 ·rw[qR (Ne.symm hi)];unfold kS;rw[aX,aX]
  by_cases h2:i<⇑zs
  ·rw[lx h2];have e:i∈A++at_::B↔i∈A++B:=by simp [hi]
   show some (if i∈A++at_::B then [] else zs.getD i [])=some (if i∈A++B then [] else zs.getD i [])
   by_cases h3:i∈A++B
   ·rw[aq h3,aq (e.mpr h3)]
   ·rw[ai h3,ai fun h=>h3 (e.mp h)]
  ·rw[fI (by rw[bZ];left)];rfl
theorem zD {W:Nat->St->Hp->Prop}{B:(St->Hp->Prop)->Prop} (h:∀ N:St->Hp->Prop,(∀ m' σ' H',m'<m->W m' σ' H'->N σ' H')->B N):∃ N:St->Hp->Prop,(∀ σ' H',N σ' H'->∃ m',m'<m/\W m' σ' H')/\B N :=
 ⟨fun σ' H'=>∃ m',m'<m/\W m' σ' H',fun _ _ h=>h,h _ fun m' _ _ a b=>⟨m',a,b⟩⟩
theorem Jl (n:Nat):uM 0 ((n:Int)-0).toNat=(List.range n).map oN:=by unfold uM oN;rw[Int.sub_zero,cC];refine eX fun i _=>?_;rw[fG]
theorem oa.LZ {H H':Hp}{kvs:List (List Key×V)}{fs:List Flt} (h:oa H kvs fs) (s:aB H H'):oa H' kvs fs:=fun a b=>(h a b).imp id fun ⟨t,f,h1,h2,h3⟩=>⟨t,f,h1,h2,s _ _ h3⟩
noncomputable def mH (as:Za) (s c:List Za) (j:Nat):Za:=((List.range j).filter fun t=>!decide (s.getD t []=c.getD t [])).map fun t=>as.getD t 0
theorem DN {s c:List (Za)}{j:Nat} (hj:j<=⇑as):∀ x∈mH as s c j,∃ i,i<j/\as[i]?=some x:=fun x hx=>by unfold mH at hx;obtain⟨i,hi,rfl⟩:=aO.mp hx;have hi':=cE.mp (iL.mp hi).1;exact⟨i,hi',by rw[aK,aC ⋯];rfl⟩
theorem A4 {s c:List (Za)}{j a:Nat} (ha:as[j]?=some a):mH as s c (j+1)=mH as s c j++(if s.getD j []=c.getD j [] then [] else [a]):=by
 unfold mH;rw[lC,jE,bD]
 congr 1
 by_cases h:s.getD j []=c.getD j []
 ·rw[aq h,nK (by rw[a9 h];decide)];rfl
 ·rw[ai h,nL (by rw[aF h];rfl)];show [as.getD j 0]=[a];rw[aK,ha];rfl
theorem yN {as A:Za}{j a:Nat} (hn:as.Nodup) (ha:as[j]?=some a) (hA:∀ x∈A,∃ i,i<j/\as[i]?=some x):a∉A++as.drop (j+1):=by
 have hj:=(bL.mp ha).1;intro h;rcases bC.mp h with h | h
 ·obtain⟨i,hi,e⟩:=hA a h;have:=(List.getElem?_inj ⋯ hn).mp (e.trans ha.symm);left
 ·obtain⟨i,hi⟩:=jF h;rw[qQ] at hi;have:=(List.getElem?_inj hj hn).mp (ha.trans hi.symm);left
theorem FH (as:Za) (s c:List Za):⇑(iY as s c)<=⇑as:=by
 unfold iY;rw[ak];have:=ly (fun j=>!decide (s.getD j []=c.getD j [])) (List.range ⇑as)
 rwa [bZ] at this
theorem GP {fs:List Flt}{m s:Nat} (hm:1<=m) (h:as≠[]):oW al fs zs m s as=gE al fs (s:Int) (cB zs as)::oW al fs zs (m-1) (s+1) (iY as (cB zs as) (gE al fs (s:Int) (cB zs as))):=by obtain⟨m',rfl⟩:∃ m',m=m'+1:=⟨m-1,⋯⟩;show (if as=[] then [] else _)=_;rw[ai h];rfl
theorem sZ {l:List α}{x d:α} (h:l[i]?=some x):l.getD i d=x:=by rw[aK,h];rfl
theorem GN (zs:List Za) (as:Za):(as.map fun i=>È (zs.getD i []))=(cB zs as).map È:=by unfold cB;rw[bf];rfl
noncomputable def oO (al z:Za):Int:=Mk.numOf ⇑al (Mk.Û al z.dropLast)
noncomputable def xT (al:Za) (ws:Zb) (r g:Int):Za:=Mk.ef al (Mk.ki ⇑al ws r g)
noncomputable def nF (al:Za) (ws:Zb) (r:Int) (gs:Zb):List (Za):=gs.map (xT al ws r)++[xT al ws r ((gs.sum+⇑gs)%dj al ws)]
theorem FR {r g:Int} (ok:cw al ws r) (h0:0<=g) (h1:g<dj al ws):oO al (xT al ws r g)=g:=by
 have a3:=ok.a3;have w3:=ok.w3;have hm:=Mk.wB (m:=(⇑al:Int)) (r:=r) (k:=g) (ws:=ws) ⋯ (by have:=ok.a26;left) ok.wm ok.safe ⋯;have hn:=Mk.E1 (m:=(⇑al:Int)) (r:=r) (k:=g) (ws:=ws) ⋯ h0 h1;unfold oO xT;have e:(Mk.ef al (Mk.ki ⇑al ws r g)).dropLast=Mk.ef al (Mk.ki ⇑al ws r g).dropLast:=by unfold Mk.ef;rw[List.map_dropLast]
 rw[e,Mk.rP ok.nd (fun p hp=>hm p (List.dropLast_subset _ hp))];exact hn
theorem J8 {r g:Int} (ok:cw al ws r):GoodW al ws r (xT al ws r g):=by have a3:=ok.a3;have a26:=ok.a26;have w3:=ok.w3;exact⟨_,rfl,Mk.Ez ⋯,Mk.wB ⋯ ⋯ ok.wm ok.safe ⋯,Mk.By ⋯ ⋯ ok.wm ok.safe ⋯⟩
theorem FJ {β γ:Type}{f:β->γ}{xs:List β}{v:γ} (h:(xs.map f)[i]?=some v):∃ x,xs[i]?=some x/\f x=v:=by rw[aX] at h;exact dU.mp h
def E2 (H:Hp) (p:Addr):Prop:=∃ (ks:List Key),H p=some (.tup (ks.map kV))/\iP (ks.map kV)=true/\1<=⇑ks/\⇑ks<=2/\∀ z∈ks,∃ l:Za,z=.inr (tx l)/\⇑l<=1000
theorem E2.same {H H':Hp} (s:aB H H') (h:E2 H p):E2 H' p:=by obtain⟨ks,e1,e2⟩:=h;exact⟨ks,s _ _ e1,e2⟩
theorem F2 {f:Æ->α}{es:List Æ}{x e:Æ} (hn:(es.map f).Nodup) (hx:x∈es) (he:e∈es) (h:f x=f e):x=e:=by
 obtain⟨i,hi,rfl⟩:=qS hx;obtain⟨j,hj,rfl⟩:=qS he;have:=List.pairwise_iff_getElem.mp hn;rcases Nat.lt_trichotomy i j with l | l | l
 ·exact absurd (by rw[List.getElem_map,List.getElem_map];exact h) (this i j (by rw[ak];exact hi) (by rw[ak];exact hj) l)
 ·subst l;rfl
 ·exact absurd (by rw[List.getElem_map,List.getElem_map];exact h.symm) (this j i (by rw[ak];exact hj) (by rw[ak];exact hi) l)
theorem HV {ks:List Key} (hp:H p=some (.tup (ks.map kV))) (ok:fV ks):gb H (.ref p)=some Tg.tup/\∀ q xs,V.ref p=.ref q->H q=some (.tup xs)->⇑xs<=1000/\∀ y∈xs,(∃ t,gb H y=some t)/\∀ z,y=.str z->⇑z<=10000:=by refine⟨by show mn (H p)=_;rw[hp];rfl,fun q xs e e2=>?_⟩;cases e;rw[hp] at e2;cases e2;refine⟨by rw[ak];have:=ok.few;left,fun y hy=>⟨?_,fun z ez=>ok.short z (by rw[←ez];exact hy)⟩⟩;obtain⟨x,_,rfl⟩:=aO.mp hy;exact F7 H x
noncomputable def si:Str:="spelling_of.<locals>.<lambda>"
noncomputable def vU:Str:="settings_of.<locals>.<lambda>"
abbrev OG:=Option Zb
noncomputable def gP (best:List OG) (F:Nat->Nat->OG) (b:Nat) (found:OG) (i:Nat):OG :=
 match best.getD i none,F i b with
 | some p,some a=>match found with
  | none=>some (p++a)
  | some f=>if ⇑p+⇑a<⇑f then some (p++a) else some f
 | _,_=>found
noncomputable def gy (best:List OG) (F:Nat->Nat->OG) (b lo:Nat):Nat->OG
 | 0=>none
 | t+1=>gP best F b (gy best F b lo t) (lo+t)
noncomputable def Ì (F:Nat->Nat->OG) (lg:Nat):Nat->List OG
 | 0=>[some []]
 | n+1=>Ì F lg n++[gy (Ì F lg n) F (n+1) (n+1-lg) (n+1-(n+1-lg))]
theorem fQ (F:Nat->Nat->OG) (lg:Nat):∀ n,⇑(Ì F lg n)=n+1
 | 0=>rfl
 | n+1=>by show ⇑(Ì F lg n++[_])=_;rw[aE,fQ F lg n];rfl
def jO (H:Hp) (v:V) (o:OG):Prop:=match o with
 | none=>v=.non
 | some l=>∃ a,v=.ref a/\H a=some (.lst (l.map V.int))
theorem jO.same {H H':Hp}{o:OG} (h:jO H v o) (s:aB H H'):jO H' v o:=by
 cases o with
 | none=>exact h
 | some l=>obtain⟨a,e,h⟩:=h;exact⟨a,e,s _ _ h⟩
theorem jO.keep {H H':Hp}{o:OG} (h:jO H v o) (hv:v≠.ref p) (s:∀ x u,x≠p->H x=some u->H' x=some u):jO H' v o:=by
 cases o with
 | none=>exact h
 | some l=>obtain⟨a,rfl,h⟩:=h;exact⟨a,rfl,s _ _ (fun e=>hv (by rw[e])) h⟩
def L9 (m:Nat) (best:List OG):Prop:=∀ i l,best[i]?=some (some l)->⇑l<=m*i
theorem BP {m:Nat}{best:List OG}{F:Nat->Nat->OG}{b lo:Nat} (h:L9 m best) (hF:∀ i j l,F i j=some l->⇑l<=m):∀ t l,lo+t<=b->gy best F b lo t=some l->⇑l<=m*b
 | 0,l,_,e=>by cases e
 | t+1,l,hb,e=>by
  have ih:=BP (b:=b) (lo:=lo) h hF t;have e':gP best F b (gy best F b lo t) (lo+t)=some l:=e;unfold gP at e';have hm:m*(lo+t)+m<=m*b:=by rw[←Nat.mul_succ];exact Nat.mul_le_mul_left m ⋯
  cases hp:best.getD (lo+t) none with
  | none=>rw[hp] at e';exact ih l ⋯ e'
  | some p =>
   have hp':best[lo+t]?=some (some p):=by
    rw[aK] at hp;cases hq:best[lo+t]? with
    | none=>rw[hq] at hp;cases hp
    | some o=>rw[hq] at hp;exact bQ some hp
   cases ha:F (lo+t) b with
   | none=>rw[hp,ha] at e';exact ih l ⋯ e'
   | some a =>
    rw[hp,ha] at e';have l1:=h _ _ hp';have l2:=hF _ _ _ ha;cases hf:gy best F b lo t with
    | none =>rw[hf] at e';cases e';rw[aE];left
    | some f =>
     rw[hf] at e';have e2:(if ⇑p+⇑a<⇑f then some (p++a) else some f)=some l:=e';split at e2
     ·cases e2;rw[aE];left
     ·cases e2;exact ih _ ⋯ hf
theorem tT {m lg:Nat}{F:Nat->Nat->OG} (hF:∀ i j l,F i j=some l->⇑l<=m):∀ n,L9 m (Ì F lg n)
 | 0,i,l,e=>by
  have e':([some []]:List OG)[i]?=some (some l):=e;cases i with
  | zero=>cases e';simp
  | succ i=>simp at e'
 | n+1,i,l,e=>by
  have e':(Ì F lg n++[gy (Ì F lg n) F (n+1) (n+1-lg) (n+1-(n+1-lg))])[i]?=some (some l):=e;rcases Nat.lt_trichotomy i (n+1) with h | h | h
  ·rw[fH (by rw[fQ];exact h)] at e';exact tT hF n i l e'
  ·rw[gg (by rw[fQ];left),fQ,h,Nat.sub_self] at e';have e2:gy (Ì F lg n) F (n+1) (n+1-lg) (n+1-(n+1-lg))=some l:=Option.some.inj e';rw[h];exact BP (tT hF n) hF _ l ⋯ e2
  ·rw[fI (by rw[aE,fQ];show n+1+1<=i;left)] at e';cases e'
theorem qx {H H':Hp}{p:Addr}:∀ {vs:List V}{os:List OG},Paired (jO H) vs os->(∀ v∈vs,v≠V.ref p)->(∀ v o,v≠V.ref p->jO H v o->jO H' v o)->Paired (jO H') vs os
 | _,_,.nil,_,_=>.nil
 | _,_,.cons h r,hn,k=>.cons (k _ _ (hn _ bu) h) (qx r (fun v hv=>hn v (b8 _ hv)) k)
noncomputable def pq (best:List OG) (F:Nat->Nat->OG) (b i:Nat):Option Nat:=match best.getD i none,F i b with
 | some p,some a=>some (⇑p+⇑a)
 | _,_=>none
theorem yz (best:List OG) (F:Nat->Nat->OG) (b lo:Nat):∀ t,(gy best F b lo t=none->∀ s,s<t->pq best F b (lo+s)=none)/\∀ l,gy best F b lo t=some l->(∃ s,s<t/\pq best F b (lo+s)=some ⇑l)/\∀ s c,s<t->pq best F b (lo+s)=some c->⇑l<=c
 | 0=>⟨fun _ s h=>absurd h (Nat.not_lt_zero _),fun l h=>by cases h⟩
 | t+1=>by
  obtain⟨i1,i2⟩:=yz best F b lo t;have e:gy best F b lo (t+1)=gP best F b (gy best F b lo t) (lo+t):=rfl;have skip:pq best F b (lo+t)=none->gP best F b (gy best F b lo t) (lo+t)=gy best F b lo t:=fun h=>by
   unfold pq at h;unfold gP;cases hp:best.getD (lo+t) none with
   | none=>rfl
   | some p =>
    cases ha:F (lo+t) b with
    | none=>rfl
    | some a=>rw[hp,ha] at h;cases h
  have last:∀ {s:Nat},s<t+1->s<t∨s=t:=fun h=>⋯
  rw[e];cases hc:pq best F b (lo+t) with
  | none =>rw[skip hc];refine⟨fun h s hs=>(last hs).elim (i1 h s) (fun z=>by rw[z];exact hc),fun l h=>⟨?_,fun s c hs h2=>(last hs).elim (fun h3=>(i2 l h).2 s c h3 h2) fun z=>by rw[z,hc] at h2;cases h2⟩⟩;obtain⟨s,h3,h4⟩:=(i2 l h).1;exact⟨s,⋯,h4⟩
  | some m =>
   have hs:∃ p a,best.getD (lo+t) none=some p/\F (lo+t) b=some a/\m=⇑p+⇑a:=by
    unfold pq at hc;cases hp:best.getD (lo+t) none with
    | none=>rw[hp] at hc;cases hc
    | some p =>
     cases ha:F (lo+t) b with
     | none=>rw[hp,ha] at hc;cases hc
     | some a=>rw[hp,ha] at hc;cases hc;exact⟨p,a,rfl,rfl,rfl⟩
   obtain⟨p,a,hp,ha,hm⟩:=hs;have st:gP best F b (gy best F b lo t) (lo+t)=match gy best F b lo t with | none=>some (p++a) | some f=>if ⇑p+⇑a<⇑f then some (p++a) else some f:=by unfold gP;rw[hp,ha]
   rw[st];cases hf:gy best F b lo t with
   | none =>refine⟨fun h=>(by cases h),fun l h=>?_⟩;cases h;rw[aE,←hm];exact⟨⟨t,⋯,hc⟩,fun s c hs h2=>(last hs).elim (fun h3=>by rw[i1 hf s h3] at h2;cases h2) fun z=>by rw[z,hc] at h2;cases h2;exact aw _⟩
   | some f =>
    obtain⟨⟨s0,h0,h0'⟩,hmin⟩:=i2 f hf;refine⟨fun h=>?_,fun l h=>?_⟩
    ·have h':(if ⇑p+⇑a<⇑f then some (p++a) else some f)=none:=h;split at h'<;>cases h'
    ·have h':(if ⇑p+⇑a<⇑f then some (p++a) else some f)=some l:=h;split at h'
     ·rename_i hlt
      cases h'
      rw[aE,←hm];exact⟨⟨t,⋯,hc⟩,fun s c hs h2=>(last hs).elim (fun h3=>by have:=hmin s c h3 h2;left) fun z=>by rw[z,hc] at h2;cases h2;exact aw _⟩
     ·rename_i hlt
      cases h'
      exact⟨⟨s0,⋯,h0'⟩,fun s c hs h2=>(last hs).elim (fun h3=>hmin s c h3 h2) fun z=>by rw[z,hc] at h2;cases h2;left⟩
theorem tU (F:Nat->Nat->OG) (lg:Nat):∀ n m,m<=n->(Ì F lg n).take (m+1)=Ì F lg m
 | 0,m,h=>by
  have:m=0:=⋯
  subst this;rfl
 | n+1,m,h=>by
  by_cases e:m=n+1
  ·subst e;exact eY (by rw[fQ];exact aw _)
  ·show (Ì F lg n++[_]).take (m+1)=_;rw[List.take_append_of_le_length (by rw[fQ];left)];exact tU F lg n m ⋯
theorem Ar (F:Nat->Nat->OG) (lg:Nat):∀ n m,m+1<=n->(Ì F lg n)[m+1]?=some (gy (Ì F lg m) F (m+1) (m+1-lg) (m+1-(m+1-lg)))
 | 0,m,h=>⋯
 | n+1,m,h=>by
  show (Ì F lg n++[_])[m+1]?=_
  by_cases e:m=n
  ·subst e;rw[gg (by rw[fQ];left),fQ,Nat.sub_self];rfl
  ·rw[fH (by rw[fQ];left)];exact Ar F lg n m ⋯
theorem yy (F:Nat->Nat->OG) (lg n:Nat):(Ì F lg n)[0]?=some (some []):=by
 have h:=tU F lg n 0 (br _);have e:((Ì F lg n).take (0+1))[0]?=(Ì F lg n)[0]?:=by rw[List.getElem?_take_of_lt (by decide)]
 rw[←e,h];rfl
noncomputable def iC (es:List Æ) (key:List Key):Option Int:=(es.find? fun e=>decide (e.key=key)).map (·.num)
theorem DS {es:List Æ} (h:key∉es.map (·.key)):iC es key=none:=by unfold iC;rw[qP.mpr fun e he=>by simpa using fun z=>h (aO.mpr ⟨e,he,z⟩)];rfl
theorem DT {es:List Æ}{e:Æ} (hn:(es.map (·.key)).Nodup) (he:e∈es):iC es e.key=some e.num:=by
 unfold iC;cases hf:es.find? fun x=>decide (x.key=e.key) with
 | none=>exact absurd (qP.mp hf e he) (by simp)
 | some x =>have h1:=List.find?_some hf;have:x=e:=F2 hn (qV hf) he (gj h1);rw[this];rfl
noncomputable def oJ:List Key:=[.inr ("end":Str)]
noncomputable def fj (l:Za):List Key:=[.inr ("part":Str),.inr (tx l)]
noncomputable def sS (l:Za):List Key:=[.inr ("phrase":Str),.inr (tx l)]
noncomputable def fq {α:Type} (w:List α) (i j:Nat):List α:=(w.drop i).take (j-i)
theorem qM {w:List α}{i j:Nat} (h:i<=j) (hj:j<=⇑w):⇑(fq w i j)=j-i:=by unfold fq;rw[cP,cX];left
theorem qN {w:List α}{i j:Nat}{x:α} (h:x∈fq w i j):x∈w:=List.mem_of_mem_drop (List.mem_of_mem_take h)
theorem ET {l:Za}{i j:Nat} (h:i<=j) (hj:j<=⇑l):lP l (some (i:Int)) (some (j:Int))=fq l i j:=by unfold lP fq;rw[HT.jd,HT.jd,iM hj,iM ⋯]
theorem Df {f:α->V}{l:List α}{i j:Nat} (h:i<=j) (hj:j<=⇑l):m7 (l.map f) (some (i:Int)) (some (j:Int))=(fq l i j).map f:=by unfold m7 fq;rw[HT.jd,HT.jd,ak,iM hj,iM ⋯,List.map_take,nO]
theorem zS {ws:List (Za)} (w1:1<=⇑ws) (w6:⇑ws<=6) (hw:∀ w∈ws,kI w):fV (sS (Mk.bR 32 ws)):=⟨by
 show gO 6 (tx (Mk.bR 32 ws)).cps.toList=true;rw[bW];exact v7 w1 w6 hw,aw 2,fun z hz=>by
 have hz':V.str z∈[V.str ("phrase":Str),V.str (tx (Mk.bR 32 ws))]:=hz;obtain⟨j1,j2⟩:=qj (ws:=ws) ⋯ hw;rcases aY.mp hz' with e | e
 ·cases e;decide
 ·have e2:V.str z=V.str (tx (Mk.bR 32 ws)):=aS.mp e;cases e2;rw[bh];left⟩
theorem F4 {ws:List (Za)} (h:⇑ws<=60) (hw:∀ w∈ws,kI w):((ws.map tx).map fun x=>⇑x).sum+⇑(ws.map tx)*(Str.ofString " ").length<=16777216:=by
 obtain⟨j1,j2⟩:=qj h hw;have e1:(Str.ofString " ").length=1:=rfl;have:((ws.map tx).map fun x=>⇑x).sum<=(ws.map fun w=>⇑w+1).sum:=by
  rw[bf];have e:ws.map ((fun z:Str=>⇑z) ∘ tx)=ws.map fun w=>⇑w:=eX fun w _=>bh w;rw[e];clear e j1 j2 h hw
  induction ws with
  | nil=>simp
  | cons w r ih=>simp only[bI,jH];left
 rw[e1,ak];left
noncomputable def one (o:Option Int):OG:=o.map fun n=>[n]
noncomputable def kT (es:List Æ) (w:Za):List OG:=Ì (fun i j=>one (iC es (fj (fq w i j)))) 6 ⇑w
noncomputable def gC (es:List Æ) (w:Za):OG:=match iC es oJ with
 | none=>none
 | some e=>match (kT es w).getD ⇑w none with
  | none=>none
  | some l=>some (l++[e])
noncomputable def iZ (es:List Æ) (ws:List Za):OG:=match iC es (sS (Mk.bR 32 ws)) with
 | some n=>some [n]
 | none=>if ⇑ws=1 then gC es (ws.getD 0 []) else none
noncomputable def setB (es:List Æ) (ws:List Za):List OG:=Ì (fun i j=>iZ es (fq ws i j)) 6 ⇑ws
theorem xx {o:Option Int}{l:Zb} (h:one o=some l):⇑l<=1:=by
 cases o with
 | none=>cases h
 | some n=>cases h;exact aw _
theorem i3 {es:List Æ}{w:Za}{l:Zb} (hw:⇑w<=20) (h:gC es w=some l):⇑l<=21:=by
 unfold gC at h;cases he:iC es oJ with
 | none=>rw[he] at h;cases h
 | some e =>
  rw[he] at h;cases hp:(kT es w).getD ⇑w none with
  | none=>rw[hp] at h;cases h
  | some p =>
   rw[hp] at h;cases h;have hp':(kT es w)[⇑w]?=some (some p):=by
    rw[aK] at hp;cases hq:(kT es w)[⇑w]? with
    | none=>rw[hq] at hp;cases hp
    | some o=>rw[hq] at hp;exact bQ some hp
   have:=tT (m:=1) (lg:=6) (F:=fun i j=>one (iC es (fj (fq w i j)))) (fun i j l h=>xx h) ⇑w ⇑w p hp';rw[aE];show ⇑p+1<=21;left
theorem GU {es:List Æ}{ws:List (Za)}{l:Zb} (hw:∀ w∈ws,⇑w<=20) (h:iZ es ws=some l):⇑l<=21:=by
 unfold iZ at h;cases hn:iC es (sS (Mk.bR 32 ws)) with
 | some n=>rw[hn] at h;cases h;show 1<=21;decide
 | none =>
  rw[hn] at h;have h':(if ⇑ws=1 then gC es (ws.getD 0 []) else none)=some l:=h;split at h'
  ·rename_i h1
   refine i3 (hw _ ?_) h';rw[aK,aC ⋯];exact cj _
  ·cases h'
theorem vM {best:List OG}{F:Nat->Nat->OG}{b lo:Nat}:∀ t l,gy best F b lo t=some l->∃ s p a,s<t/\best.getD (lo+s) none=some p/\F (lo+s) b=some a/\l=p++a
 | 0,l,h=>by cases h
 | t+1,l,h=>by
  have ih:=vM (best:=best) (F:=F) (b:=b) (lo:=lo) t;have up:(∃ s p a,s<t/\best.getD (lo+s) none=some p/\F (lo+s) b=some a/\l=p++a)->∃ s p a,s<t+1/\best.getD (lo+s) none=some p/\F (lo+s) b=some a/\l=p++a:=fun ⟨s,p,a,h1,h2⟩=>⟨s,p,a,⋯,h2⟩;have h':gP best F b (gy best F b lo t) (lo+t)=some l:=h;unfold gP at h';cases hp:best.getD (lo+t) none with
  | none=>rw[hp] at h';exact up (ih l h')
  | some p =>
   cases ha:F (lo+t) b with
   | none=>rw[hp,ha] at h';exact up (ih l h')
   | some a =>
    rw[hp,ha] at h';cases hf:gy best F b lo t with
    | none=>rw[hf] at h';cases h';exact⟨t,p,a,⋯,hp,ha,rfl⟩
    | some f =>
     rw[hf] at h';have h2:(if ⇑p+⇑a<⇑f then some (p++a) else some f)=some l:=h';split at h2
     ·cases h2;exact⟨t,p,a,⋯,hp,ha,rfl⟩
     ·cases h2;exact up (ih _ hf)
theorem BO {F:Nat->Nat->OG}{lg n m i:Nat} (h:i<=m) (hm:m<=n):(Ì F lg m)[i]?=(Ì F lg n)[i]?:=by rw[←tU F lg n m hm,List.getElem?_take_of_lt ⋯]
theorem BQ {best:List OG}{p:Zb} (h:best[i]?=some (some p)):best.getD i none=some p:=by rw[aK,h];rfl
theorem Ca {best:List OG}{p:Zb} (h:best.getD i none=some p):best[i]?=some (some p):=by
 rw[aK] at h;cases hq:best[i]? with
 | none=>rw[hq] at h;cases h
 | some o=>rw[hq] at h;exact bQ some h
theorem BN {F:Nat->Nat->OG}{lg n:Nat} (g1:1<=lg) {P:Nat->Zb->Prop} (h0:P 0 []) (hs:∀ i j p a,i<j->j<=n->j<=i+lg->P i p->F i j=some a->P j (p++a)):∀ m l,m<=n->(Ì F lg n)[m]?=some (some l)->P m l:=by
 intro m
 induction m using Nat.strongRecOn with
 | _ m ih =>
  intro l hm h;cases m with
  | zero=>rw[yy] at h;cases h;exact h0
  | succ m =>rw[Ar F lg n m hm] at h;obtain⟨s,p,a,h1,h2,h3,rfl⟩:=vM _ l (Option.some.inj h);have hp:=Ca h2;rw[BO (n:=n) ⋯ ⋯] at hp;exact hs _ _ p a ⋯ hm ⋯ (ih _ ⋯ p ⋯ hp) h3
theorem As {F:Nat->Nat->OG}{lg n i j:Nat}{p a:Zb} (hij:i<j) (hj:j<=n) (hl:j<=i+lg) (hp:(Ì F lg n)[i]?=some (some p)) (ha:F i j=some a):∃ l,(Ì F lg n)[j]?=some (some l)/\⇑l<=⇑p+⇑a:=by
 cases j with
 | zero=>left
 | succ m =>
  rw[Ar F lg n m hj];obtain⟨i1,i2⟩:=yz (Ì F lg m) F (m+1) (m+1-lg) (m+1-(m+1-lg));have hp':(Ì F lg m).getD i none=some p:=BQ (by rw[BO (n:=n) ⋯ ⋯];exact hp);have e:m+1-lg+(i-(m+1-lg))=i:=⋯
  have hc:pq (Ì F lg m) F (m+1) (m+1-lg+(i-(m+1-lg)))=some (⇑p+⇑a):=by rw[e];unfold pq;rw[hp',ha]
  cases hf:gy (Ì F lg m) F (m+1) (m+1-lg) (m+1-(m+1-lg)) with
  | none=>rw[i1 hf _ ⋯] at hc;cases hc
  | some l=>exact⟨l,rfl,(i2 l hf).2 _ _ ⋯ hc⟩
theorem ui {es:List Æ}{n:Int} (h:iC es key=some n):∃ e∈es,e.key=key/\e.num=n:=by unfold iC at h;obtain⟨e,he,rfl⟩:=dU.mp h;have hd:decide (e.key=key)=true:=List.find?_some (p:=fun e:Æ=>decide (e.key=key)) he;exact⟨e,qV he,gj hd,rfl⟩
theorem se {l:List α}{i j:Nat} (h:i<=j):l.take i++fq l i j=l.take j:=by unfold fq;rw[show j=i+(j-i) by left,List.take_add,show i+(j-i)-i=j-i by left]
theorem join_split (c:Nat):∀ l:Za,Mk.bR c (Mk.bB c l)=l
 | []=>rfl
 | a::l=>by
  have ih:=join_split c l;have hp:=GQ c l;show Mk.bR c (if a=c then []::Mk.bB c l else match Mk.bB c l with | []=>[[a]] | w::ws=>(a::w)::ws)=a::l;cases hs:Mk.bB c l with
  | nil=>rw[hs] at hp;simp at hp
  | cons w ws =>
   rw[hs] at ih;split
   ·rename_i e
    show []++c::Mk.bR c (w::ws)=_;rw[ih,e];rfl
   ·cases ws with
    | nil =>have ih':w=l:=ih;show a::w=a::l;rw[ih']
    | cons v r =>have ih':w++c::Mk.bR c (v::r)=l:=ih;show (a::w)++c::Mk.bR c (v::r)=a::l;rw[←ih'];rfl
theorem oB:∀ {ks:List (List Key)}{W:List (Za)}{sp:Za}{ws:List (Za)},(∀ k∈ks,fV k)->runK ks (W,sp)=some (ws,[])->(∃ r,ws=W++r)/\(sp≠[]->∃ x r,ws=W++(sp++x)::r)
 | [],W,sp,ws,_,h=>by
  cases h
  exact⟨⟨[],(dQ _).symm⟩,fun h=>absurd rfl h⟩
 | k::r,W,sp,ws,ok,h=>by
  have h':(match stepK k (W,sp) with | none=>none | some t=>runK r t)=some (ws,[]):=h;have okr:=fun x hx=>ok x (b8 _ hx);cases hs:stepK k (W,sp) with
  | none=>rw[hs] at h';cases h'
  | some t =>
   rw[hs] at h';rcases mC (ok k bu) with ⟨l,rfl,hl⟩ | ⟨l,rfl,hl⟩ | rfl
   ·rw[gJ] at hs;split at hs
    ·rename_i hc
     cases hs
     obtain⟨⟨q,e⟩,_⟩:=oB okr h';exact⟨⟨Mk.bB 32 l++q,by rw[e,cD]⟩,fun h=>absurd hc.1 h⟩
    ·cases hs
   ·rw[i4] at hs;split at hs
    ·cases hs
     obtain⟨l1,_,_⟩:=rG hl;obtain⟨e1,e2⟩:=oB okr h';have hne:sp++l≠[]:=fun z=>by have:=bQ List.length z;rw[aE,nN] at this;left
     obtain⟨x,q,e⟩:=e2 hne;exact⟨e1,fun _=>⟨l++x,q,by rw[e,cD]⟩⟩
    ·cases hs
   ·rw[jA] at hs;split at hs
    ·cases hs
    ·cases hs
     obtain⟨⟨q,e⟩,_⟩:=oB okr h';refine⟨⟨sp::q,by rw[e,cD];rfl⟩,fun _=>⟨[],q,by rw[e,dQ,cD];rfl⟩⟩
theorem zT {es:List Æ} (hk:key∈es.map (·.key)):∃ n,iC es key=some n:=by
 obtain⟨e,he,rfl⟩:=aO.mp hk;unfold iC;cases hf:es.find? fun x=>decide (x.key=e.key) with
 | none=>exact absurd (qP.mp hf e he) (by simp)
 | some x=>exact⟨x.num,rfl⟩
theorem uJ {wd W v r:List α} (h:wd=W++v++r):fq wd ⇑W (⇑W+⇑v)=v:=by unfold fq;rw[h,cD,List.drop_left,show ⇑W+⇑v-⇑W=⇑v by left,List.take_left]
theorem lR {es:List Æ}{wd:List (Za)}:∀ {ks:List (List Key)}{W:List (Za)}{sp:Za}{ws r:List (Za)}{l0 lp:Zb}{n0 n1:Nat},(∀ k∈ks,fV k/\k∈es.map (·.key))->runK ks (W,sp)=some (ws,[])->wd=ws++r →
  (setB es wd)[⇑W]?=some (some l0)->⇑l0<=n0->(kT es (wd.getD ⇑W []))[⇑sp]?=some (some lp)->⇑lp<=n1->(∃ x,wd.getD ⇑W []=sp++x)->∃ l,(setB es wd)[⇑ws]?=some (some l)/\⇑l<=n0+n1+⇑ks
 | [],W,sp,ws,r,l0,lp,n0,n1,_,h,_,h0,hn0,_,_,_=>by
  cases h
  exact⟨l0,h0,by show _<=n0+n1+0;left⟩
 | k::ks,W,sp,ws,r,l0,lp,n0,n1,ok,h,hw,h0,hn0,hp,hn1,hx=>by
  have h':(match stepK k (W,sp) with | none=>none | some t=>runK ks t)=some (ws,[]):=h;have okr:=fun x hx=>ok x (b8 _ hx);obtain⟨kok,kin⟩:=ok k bu;have lk:⇑(k::ks)=⇑ks+1:=rfl;cases hs:stepK k (W,sp) with
  | none=>rw[hs] at h';cases h'
  | some t =>
   rw[hs] at h';rcases mC kok with ⟨l,rfl,hl⟩ | ⟨l,rfl,hl⟩ | rfl
   ·rw[gJ] at hs;split at hs
    ·rename_i hc
     cases hs
     obtain⟨⟨q,e⟩,_⟩:=oB (fun k hk=>(okr k hk).1) h';have hwd:wd=W++Mk.bB 32 l++(q++r):=by rw[hw,e,cD (W++_)]
     have hsp:1<=⇑(Mk.bB 32 l):=GQ 32 l;have h6:=(Bx hl).1;have hcut:=uJ hwd;have hlen:⇑W+⇑(Mk.bB 32 l)<=⇑wd:=by rw[hwd];simp only[aE];left
     obtain⟨n,hn⟩:=zT kin;have ha:iZ es (fq wd ⇑W (⇑W+⇑(Mk.bB 32 l)))=some [n]:=by rw[hcut];unfold iZ sS;rw[join_split,hn]
     obtain⟨l1,e1,e2⟩:=As (F:=fun i j=>iZ es (fq wd i j)) (lg:=6) (n:=⇑wd) (show ⇑W<⇑W+⇑(Mk.bB 32 l) by left) hlen ⋯ h0 ha;have e1':(setB es wd)[⇑(W++Mk.bB 32 l)]?=some (some l1):=by rw[aE];exact e1
     obtain⟨l2,e3,e4⟩:=lR (n0:=n0+1) (n1:=0) (lp:=[]) okr h' hw e1' (by have:⇑l1<=⇑l0+1:=e2;left) (yy _ _ _) (aw _) ⟨_,rfl⟩;exact⟨l2,e3,⋯⟩
    ·cases hs
   ·rw[i4] at hs;split at hs
    ·rename_i hc
     cases hs
     obtain⟨l1,l6,_⟩:=rG hl;obtain⟨_,hpre⟩:=oB (fun k hk=>(okr k hk).1) h';have hne:sp++l≠[]:=fun z=>by have:=bQ List.length z;rw[aE,nN] at this;left
     obtain⟨x,q,e⟩:=hpre hne;have hg:wd.getD ⇑W []=sp++l++x:=by rw[hw,e,cD,aK,gg (aw _),Nat.sub_self];rfl
     rw[hg] at hp;have hcut:=uJ (wd:=sp++l++x) (W:=sp) (v:=l) (r:=x) rfl;obtain⟨n,hn⟩:=zT kin;have ha:one (iC es (fj (fq (sp++l++x) ⇑sp (⇑sp+⇑l))))=some [n]:=by rw[hcut];unfold fj;rw[hn];rfl
     obtain⟨l2,e1,e2⟩:=As (F:=fun i j=>one (iC es (fj (fq (sp++l++x) i j)))) (lg:=6) (n:=⇑(sp++l++x)) (show ⇑sp<⇑sp+⇑l by left) (by simp only[aE];left) ⋯ hp ha;have e1':(kT es (wd.getD ⇑W []))[⇑(sp++l)]?=some (some l2):=by rw[hg,aE];exact e1
     obtain⟨l3,e3,e4⟩:=lR (n0:=n0) (n1:=n1+1) okr h' hw h0 hn0 e1' (by have:⇑l2<=⇑lp+1:=e2;left) ⟨x,hg⟩;exact⟨l3,e3,⋯⟩
    ·cases hs
   ·rw[jA] at hs;split at hs
    ·cases hs
    ·rename_i hc
     cases hs
     obtain⟨⟨q,e⟩,_⟩:=oB (fun k hk=>(okr k hk).1) h';have hwd:wd=W++[sp]++(q++r):=by rw[hw,e,cD (W++_)]
     have hg:wd.getD ⇑W []=sp:=by rw[hwd,cD,aK,gg (aw _),Nat.sub_self];rfl
     have hlen:⇑W+1<=⇑wd:=by rw[hwd];simp only[aE,fJ];left
     have hcut:fq wd ⇑W (⇑W+1)=[sp]:=uJ (v:=[sp]) hwd;rw[hg] at hp;obtain⟨n,hn⟩:=zT kin;have hsg:gC es sp=some (lp++[n]):=by unfold gC oJ;rw[hn];show (match (kT es sp).getD ⇑sp none with | none=>none | some l=>some (l++[n]))=_;rw[BQ hp]
     obtain⟨a,ha,la⟩:∃ a,iZ es (fq wd ⇑W (⇑W+1))=some a/\⇑a<=n1+1:=by
      rw[hcut];unfold iZ;cases hph:iC es (sS (Mk.bR 32 [sp])) with
      | some m=>exact⟨[m],rfl,by show 1<=_;left⟩
      | none=>exact⟨lp++[n],(aq rfl).trans hsg,by rw[aE];show ⇑lp+1<=_;left⟩
     obtain⟨l1,e1,e2⟩:=As (F:=fun i j=>iZ es (fq wd i j)) (lg:=6) (n:=⇑wd) (show ⇑W<⇑W+1 by left) hlen ⋯ h0 ha;have e1':(setB es wd)[⇑(W++[sp])]?=some (some l1):=by rw[aE];exact e1
     obtain⟨l2,e3,e4⟩:=lR (n0:=n0+n1+1) (n1:=0) (lp:=[]) okr h' hw e1' ⋯ (yy _ _ _) (aw _) ⟨_,rfl⟩;exact⟨l2,e3,⋯⟩
theorem Dz {es:List Æ}{wd ws r:List (Za)} (ok:∀ k∈ks,fV k/\k∈es.map (·.key)) (h:runK ks ([],[])=some (ws,[])) (hw:wd=ws++r):∃ l,(setB es wd)[⇑ws]?=some (some l)/\⇑l<=⇑ks:=by obtain⟨l,h1,h2⟩:=lR (n0:=0) (n1:=0) (l0:=[]) (lp:=[]) ok h hw (yy _ _ _) (aw _) (yy _ _ _) (aw _) ⟨_,rfl⟩;exact⟨l,h1,⋯⟩
theorem DZ {es:List Æ}{w:Za}{W:List (Za)} (hw:⇑w<=20) (hW:⇑W<60):∀ m l,m<=⇑w->(kT es w)[m]?=some (some l)->∃ grp:List Æ,(∀ e∈grp,e∈es)/\grp.map (·.num)=l/\runK (grp.map (·.key)) (W,[])=some (W,w.take m):=by
 refine BN Zd (P:=fun m l=>∃ grp:List Æ,(∀ e∈grp,e∈es)/\grp.map (·.num)=l/\runK (grp.map (·.key)) (W,[])=some (W,w.take m)) ⟨[],(fun e h=>by cases h),rfl,rfl⟩ ?_;rintro i j p a hij hj hl ⟨grp,h1,rfl,h3⟩ ha;have ha':one (iC es (fj (fq w i j)))=some a:=ha;cases hn:iC es (fj (fq w i j)) with
 | none=>rw[hn] at ha';cases ha'
 | some n =>rw[hn] at ha';cases ha';obtain⟨e,he,ek,rfl⟩:=ui hn;refine⟨grp++[e],(fun x hx=>(bC.mp hx).elim (h1 x) fun h=>by rw[aS.mp h];exact he),by rw[bD];rfl,?_⟩;rw[bD];refine qA h3 ?_;show stepK e.key _=_;rw[ek];unfold fj;have hc:⇑W<60/\⇑(w.take i)+⇑(fq w i j)<=20:=⟨hW,by rw[cP,qM ⋯ hj];left⟩;rw[i4];exact (aq hc).trans (bQ (fun z=>some (W,z)) (se ⋯))
theorem GO {es:List Æ}{wd:List (Za)} (h60:⇑wd<=60) (hw:∀ w∈wd,kI w):∀ m l,m<=⇑wd->(setB es wd)[m]?=some (some l)->∃ grp:List Æ,(∀ e∈grp,e∈es)/\grp.map (·.num)=l/\runK (grp.map (·.key)) ([],[])=some (wd.take m,[]):=by
 refine BN Zd (P:=fun m l=>∃ grp:List Æ,(∀ e∈grp,e∈es)/\grp.map (·.num)=l/\runK (grp.map (·.key)) ([],[])=some (wd.take m,[])) ⟨[],(fun e h=>by cases h),rfl,rfl⟩ ?_;rintro i j p a hij hj hl ⟨grp,h1,rfl,h3⟩ ha;have ha':iZ es (fq wd i j)=some a:=ha;have lc:=qM (w:=wd) (i:=i) (j:=j) ⋯ hj;unfold iZ at ha';cases hn:iC es (sS (Mk.bR 32 (fq wd i j))) with
 | some n =>rw[hn] at ha';cases ha';obtain⟨e,he,ek,rfl⟩:=ui hn;refine⟨grp++[e],(fun x hx=>(bC.mp hx).elim (h1 x) fun h=>by rw[aS.mp h];exact he),by rw[bD];rfl,?_⟩;rw[bD];refine qA h3 ?_;show stepK e.key _=_;rw[ek];unfold sS;have hc:([]:Za)=[]/\⇑(wd.take i)+⇑(fq wd i j)<=60:=⟨rfl,by rw[cP,lc];left⟩;rw[gJ,Mk.iG _ (fun z=>by rw[z] at lc;simp at lc;left) fun w hw' hc=>by have:=(hw w (qN hw')).2.2 32 hc;left];exact (aq hc).trans (bQ (fun z=>some (z,[])) (se ⋯))
 | none =>
  rw[hn] at ha';have ha2:(if ⇑(fq wd i j)=1 then gC es ((fq wd i j).getD 0 []) else none)=some a:=ha';split at ha2
  ·rename_i h1'
   have hji:j=i+1:=⋯
   subst hji;have hi:i<⇑wd:=⋯
   have hcut:fq wd i (i+1)=[wd.getD i []]:=by unfold fq;rw[show i+1-i=1 by left,kZ hi,aK,aC hi];rfl
   rw[hcut] at ha2;have ha3:gC es (wd.getD i [])=some a:=ha2;have hwi:kI (wd.getD i []):=hw _ (by rw[aK,aC hi];exact cj hi);have htk:wd.take (i+1)=wd.take i++[wd.getD i []]:=by rw[←hcut,se ⋯]
   generalize wd.getD i []=w at ha3 hwi htk;unfold gC at ha3;cases he:iC es oJ with
   | none=>rw[he] at ha3;cases ha3
   | some ne =>
    rw[he] at ha3;cases hp:(kT es w).getD ⇑w none with
    | none=>rw[hp] at ha3;cases ha3
    | some lp =>rw[hp] at ha3;cases ha3;obtain⟨g2,q1,q2,q3⟩:=DZ (es:=es) (w:=w) (W:=wd.take i) hwi.2.1 (by rw[cP];left) ⇑w lp (aw _) (Ca hp);obtain⟨e,he',ek,rfl⟩:=ui he;refine⟨grp++(g2++[e]),(fun x hx=>(bC.mp hx).elim (h1 x) fun h=>(bC.mp h).elim (q1 x) fun h=>by rw[aS.mp h];exact he'),by rw[bD,bD,q2];rfl,?_⟩;rw[bD,kU,h3];show runK ((g2++[e]).map (·.key)) (wd.take i,[])=_;rw[bD];refine qA q3 ?_;show stepK e.key _=_;rw[ek,nS];unfold oJ;rw[jA,htk];refine ai fun z=>?_;have z':w=[]:=z;have:=hwi.1;rw[z'] at this;simp at this
  ·cases ha2
def CA (H:Hp) (p q:Addr) (al:Za) (ws:Zb) (r:Int):Prop:=H p=some (.tup [.str (tx al),.ref q,.int r])/\H q=some (.lst (ws.map V.int))
def mr (z:Za):Prop:=1<=⇑z/\⇑z<=5/\∀ c∈z,c∈[97,98,110,111,120]
theorem oF (h:mr z):kI z:=by
 obtain⟨h1,h2,h3⟩:=h;have:∀ c∈[97,98,110,111,120],97<=c/\c<123:=by decide
 exact⟨h1,⋯,fun c hc=>this c (h3 c hc)⟩
theorem wC {G:Za->Prop}:∀ {vs:List V},(∀ v∈vs,∃ w,v=È w/\G w)->∃ wd:List Za,vs=wd.map È/\∀ w∈wd,G w
 | [],_=>⟨[],rfl,fun _ h=>by cases h⟩
 | v::vs,h=>by
  obtain⟨wd,rfl,h2⟩:=wC fun x hx=>h x (b8 _ hx);obtain⟨w,rfl,hw⟩:=h v bu;refine⟨w::wd,rfl,fun x hx=>?_⟩;rcases aY.mp hx with rfl | hx
  ·exact hw
  ·exact h2 x hx
theorem yE {ks:List Key} (ok:fV ks):∃ us:Ze,ks=us.map Sum.inr/\ks.map kV=us.map V.str:=by
 have h:=ok.is;cases ks with
 | nil=>cases h
 | cons a r =>
  cases a with
  | inl i=>cases h
  | inr z =>
   cases r with
   | nil=>exact⟨[z],rfl,rfl⟩
   | cons y r2 =>
    cases r2 with
    | cons _ _=>cases h
    | nil =>
     cases y with
     | inr y=>exact⟨[z,y],rfl,rfl⟩
     | inl i =>
      exfalso;have h':(if z=("phrase":Str) then false else if z=("part":Str) then false else false)=true:=h;split at h'
      ·cases h'
      ·split at h'<;>cases h'
theorem GV {us vs:Ze}:us.map (Sum.inr:Str->Key)=vs.map Sum.inr↔us=vs :=
 ⟨fun h=>(qT fun x y e=>Sum.inr.inj e).mp h,fun h=>by rw[h]⟩
theorem HY {K:Zf}{p q:Addr}{ks ks':List Key} (h1:H p=some (.tup (ks.map kV))) (h2:H q=some (.tup (ks'.map kV))) (o1:fV ks) (o2:fV ks'):Þ K H 1 (.ref p) (.ref q) (decide (ks=ks')):=by
 obtain⟨us,e1,f1⟩:=yE o1;obtain⟨vs,e2,f2⟩:=yE o2;have hd:decide (ks=ks')=decide (us=vs):=by rw[e1,e2,nW];exact GV
 rw[hd];rw[f1] at h1;rw[f2] at h2;refine HZ (.of h1) (.of h2) fun e=>?_;subst e;rw[h1] at h2;have:us.map V.str=vs.map V.str:=by injection h2 with h2;injection h2
 exact (qT fun x y e=>V.str.inj e).mp this
theorem BM {K:Zf}{es:List Æ}{t:Addr}{ks:List Key} (en:∀ e∈es,H e.adr=some (.tup (e.key.map kV))/\fV e.key) (ht:H t=some (.tup (ks.map kV))) (eok:fV ks):∃ e:V->Bool,(∀ q∈iu es,(∃ a,q.2=V.ref a)/\Þ K H 1 q.2 (.ref t) (e q.2))/\(((iu es).any fun q=>e q.2)=true↔ks∈es.map fun e:Æ=>e.key):=by
 have ed:∀ e∈es,@decide (∃ e'∈es,V.ref e.adr=V.ref e'.adr/\e'.key=ks) (Classical.propDecidable _)=decide (e.key=ks):=fun e he=>by
  by_cases h:e.key=ks
  ·rw[a9 h];exact @a9 _ (Classical.propDecidable _) ⟨e,he,rfl,h⟩
  ·rw[aF h];refine @aF _ (Classical.propDecidable _) fun ⟨e',he',ea,ek⟩=>h ?_;have ea':e.adr=e'.adr:=V.ref.inj ea;have q1:=(en e he).1;rw[ea',(en e' he').1] at q1;have:e'.key.map kV=e.key.map kV:=by injection q1 with q1;injection q1
   rw[←qk this];exact ek
 refine⟨fun v=>@decide (∃ e∈es,v=V.ref e.adr/\e.key=ks) (Classical.propDecidable _),fun q hq=>?_,?_⟩
 ·rw[qr] at hq;obtain⟨e,he,rfl⟩:=aO.mp hq;refine⟨⟨_,rfl⟩,?_⟩;show Þ K H 1 (V.ref e.adr) (V.ref t) (@decide (∃ e'∈es,V.ref e.adr=V.ref e'.adr/\e'.key=ks) (Classical.propDecidable _));rw[ed e he];exact HY (en e he).1 ht (en e he).2 eok
 ·rw[qr,List.any_map,jD,aO];constructor
  ·rintro⟨e,he,h⟩;have h':@decide (∃ e'∈es,V.ref e.adr=V.ref e'.adr/\e'.key=ks) (Classical.propDecidable _)=true:=h;rw[ed e he] at h';exact⟨e,he,gj h'⟩
  ·rintro⟨e,he,ek⟩;refine⟨e,he,?_⟩;show @decide (∃ e'∈es,V.ref e.adr=V.ref e'.adr/\e'.key=ks) (Classical.propDecidable _)=true;rw[ed e he,a9 ek]
structure č (al:Za) (ws:Zb) (H:Hp) (es:List Æ):Prop where
 en:∀ e∈es,H e.adr=some (.tup (e.key.map kV))
 nn:(es.map (·.num)).Nodup
 nk:(es.map (·.key)).Nodup
 ok:∀ e∈es,fV e.key/\0<=e.num/\e.num<dj al ws
theorem D3 {G:Hp}{D p:Addr}{fv:List V}{fs:List Flt}{f:Flt} (h:ft G fv fs) (hD:G D=some (.lst fv)) (hp:G p=some (.tup (vj f))):ft (upd G D (.lst (fv++[.ref p]))) (fv++[.ref p]) (fs++[f]):=by
 have up:∀ t xs,G t=some (.tup xs)->upd G D (.lst (fv++[.ref p])) t=some (.tup xs):=fun t xs e=>by rw[aN (gR e hD (by intro z;cases z))];exact e
 exact mM (jV (fun _ _ ⟨t,e,ht⟩=>⟨t,e,up _ _ ht⟩) h) (.cons ⟨p,rfl,up _ _ hp⟩ .nil)
theorem Cw (ok:cw al ws r) {gs:Zb}{es:List Æ} (h:∀ g∈gs,(0<=g/\g<dj al ws)/\g∈es.map (·.num)) :
  ⇑(nF al ws r gs)=⇑gs+1/\(∀ z∈nF al ws r gs,GoodW al ws r z)/\(nF al ws r gs).map (oO al)=gs++[(gs.sum+(⇑gs:Int))%dj al ws]/\∀ (i:Nat) z,(nF al ws r gs)[i]?=some z->i+1<⇑(nF al ws r gs)->oO al z∈es.map (·.num):=by
 have a3:=ok.a3;have hmany:0<dj al ws:=Int.pow_pos ⋯;unfold nF;have ll:⇑(gs.map (xT al ws r)++[xT al ws r ((gs.sum+(⇑gs:Int))%dj al ws)])=⇑gs+1:=by rw[aE,ak];rfl
 refine⟨ll,fun z hz=>?_,?_,fun i z hz hi=>?_⟩
 ·rcases bC.mp hz with hz | hz
  ·obtain⟨g,_,rfl⟩:=aO.mp hz;exact J8 ok
  ·rw[aS.mp hz];exact J8 ok
 ·rw[bD,bf,List.map_singleton,FR ok (b7 _ ⋯) (bJ _ hmany)]
  congr 1
  exact (eX fun g hg=>FR ok (h g hg).1.1 (h g hg).1.2).trans (List.map_id' gs)
 ·rw[ll] at hi;rw[fH (by rw[ak];left),aX] at hz;obtain⟨g,hg,rfl⟩:=dU.mp hz;have hgm:=bT hg;rw[FR ok (h g hgm).1.1 (h g hgm).1.2];exact (h g hgm).2
def sF:Sp:=fun vs H Q _=>∃ x t,vs=[x]/\gb H x=some t/\Q (.bl (decide (t=Tg.int))) H
theorem yV (F:Å K "is_whole" "is_whole" pM f fd) (T:Bl mg) (AF:Ç K mg Ad) :bF P w K mg base (Á P w) 1 f fd ["thing"] sF:=by
 exists["thing"];obtain⟨x,t,rfl,ht,k⟩:=h;refine⟨_,ao (aG (pC (ay (dG .int) T.isinstance bt_isinstance (ah (À 0) (ah (iR T.int zI) af))) (mP (Lh (ay (dG .bl) T.isinstance bt_isinstance (ah (À 0) (ah (iR T.bool HP) af))))))),?_⟩;ac_nf;refine⟨trivial,t,ht,?_⟩;cases t<;>(simp only[Tg.sub,ig,eG,i9,reduceCtorEq];first | exact k | exact⟨trivial,_,ht,k⟩)
def ke:Sp:=fun vs H Q _=>∃ a b:Int,vs=[.int a,.int b]/\Q (.int ((Int.gcd a b:Nat):Int)) H
theorem df:aJ ["one","other","left","right","over"] ["one","other"] (ax iw):=by subst_eqs
theorem qu (F:Å K "common_divisor" "common_divisor" iw f fd) (T:Bl mg) (AF:Ç K mg Ad) :bF P w K mg base (Á P w) 1 f fd ["one","other"] ke:=by
 specialize df;obtain⟨a,b,rfl,k⟩:=h;refine⟨_,ag (aA (i:=2) df.nd (ay kM T.abs tJ (ah (À 0) af))) (ag (aA (i:=3) df.nd (ay kM T.abs tJ (ah (À 1) af))) (ag (mR bU (aR (gS (K:=K) rfl hu) (À 3) aj (aU _)) (ag (aA (i:=4) df.nd (aD b0 (À 2) (À 3))) (ag (aA (i:=2) df.nd (À 3)) (ao (aA (i:=3) df.nd (À 4)))))) (ao (aG (À 2))))),?_⟩;ac_nf;refine xU (fun σ H'=>H'=H/\∃ (l r:Nat) (o:Option V),σ=[some (.int a),some (.int b),some (.int l),some (.int r),o]/\Nat.gcd l r=Int.gcd a b)
  (fun σ _=>match σ with | [_,_,_,some (.int r),_]=>r.toNat | _=>0) ⟨rfl,a.natAbs,b.natAbs,none,rfl,rfl⟩ ?_
 rintro σ H' ⟨rfl,l,r,o,rfl,hg⟩;ac_nf
 by_cases hr0:r=0
 ·subst hr0;rw[Nat.gcd_zero_right] at hg;subst hg;exact k
 ·have e:(!decide ((r:Int)=0))=true:=by simp [hr0]
  rw[aq e];refine⟨_,fun _ _ h=>h,⋯,⟨rfl,r,l%r,some (.int ((l%r:Nat):Int)),?_,?_⟩,?_⟩
  ·rw[Int.natCast_emod]
  ·rw[←hg,Nat.gcd_comm l r,Nat.gcd_rec r l,Nat.gcd_comm]
  ·show ((l:Int)%(r:Int)).toNat<((r:Int)).toNat
   have h1:(l:Int)%(r:Int)<r:=bJ _ ⋯;have h2:0<=(l:Int)%(r:Int):=b7 _ ⋯;left
noncomputable def gQ (z:Za):Bool:=decide (3<=⇑z)&&decide (⇑z<=26)&&decide z.Nodup&&z.all fun c=>decide (97<=c/\c<123)
noncomputable def iA:V->Bool
 | .str z=>gQ z.cps.toList
 | _=>false
def nu:Sp:=fun vs H Q _=>∃ (x:V) (t:Tg),vs=[x]/\gb H x=some t/\(∀ z,x=.str z->⇑z<=4000)/\∀ H',aB H H'->Q (.bl (iA x)) H'
theorem uw (F:Å K "is_alphabet" "is_alphabet" kx f fd) (T:Bl mg) (AF:Ç K mg Ad) :bF P w K mg base (Á P w) 1 f fd ["thing"] nu:=by
 exists["thing"];obtain⟨x,t,rfl,ht,hz,k⟩:=h;refine⟨_,ag (bG ((iE (c8 (cx (ay (dG .str) T.isinstance bt_isinstance (ah (À 0) (ah (iR T.str tK) af))))) (gW (c8 (qz iQ iQ aj (ay (aH (K:=K) rfl) T.len bz (ah (À 0) af)) aj)))).pt) (ao (aG iD)) aV) (ao (aG (pC (cT (c6 (K:=K) rfl hu) (ay (zJ (P:=P) (w:=w) rfl rfl) T.len bz (ah (c7 (CT (P:=P) (w:=w) rfl rfl rfl) T.set EL (ah (À 0) af)) af)) (ay (aH (K:=K) rfl) T.len bz (ah (À 0) af)) (aU _)) (mP (ay (ir (K:=K) rfl rfl) T.all pj (ah (fZ ["sign"] rfl ⟨rfl,by nofun,rfl,by nofun⟩ (.nil) (by nofun) (cG (K:=K) rfl (À 0)) (fun _ _ _ _=>aM (i:=0) (show (["sign"]:Ze).Nodup from by nofun)) (fun _ _ _ _=>cZ) (fun _ _ _ _=>cT (mL (K:=K) rfl hu1) (À 0) (dB AF.v_SMALL_LETTERS) (by ext))) af)))))),?_⟩
 by_cases hs:∃ z,x=.str z
 ·obtain⟨z,rfl⟩:=hs;cases ht;have hl:=hz z rfl;have hc:=dE z;have ek:iA (.str z)=gQ z.cps.toList:=rfl;ac_nf;refine⟨trivial,Tg.str,rfl,?_⟩;ac_nf;refine⟨aT (av ⋯),?_⟩
  by_cases h3:3<=⇑z/\⇑z<=26
  ·have d1:decide ((3:Int)<=(⇑z:Int))=true:=a9 ⋯;have d2:decide ((⇑z:Int)<=26)=true:=a9 ⋯;rw[d1];bv_omega;rw[d2];bv_omega;refine⟨⋯,fun p H1 hp s1 h1=>?_⟩;refine⟨_,h1,aT (av ⋯),?_⟩
   by_cases hn:z.cps.toList.Nodup
   ·have e1:=(vZ z).mpr hn;rw[e1,a9 rfl];bv_omega;refine ud (fun c:Nat=>V.str ⟨#[c]⟩) tW (sd z) (av ⋯) (fun c=>.bl (decide (97<=c/\c<123))) ?_ ?_
    ·intro c hc H2 s2 R hR;ac_nf;rw[Ax,v5];have e2:decide (c∈List.range' 97 26)=decide (97<=c/\c<123):=nW.mpr (by rw[List.mem_range'_1]);rw[e2];exact hR H2 (aB.refl _)
    ·intro D H2 hD s2 h2;refine⟨D,z.cps.toList.map fun c=>decide (97<=c/\c<123),rfl,.of (by rw[h2,bf];rfl),?_⟩;have e:(z.cps.toList.map fun c=>decide (97<=c/\c<123)).all id=iA (.str z):=by
      rw[ek];unfold gQ;rw[a9 (show 3<=⇑z.cps.toList by left),a9 (show ⇑z.cps.toList<=26 by left),a9 hn,ia];rfl
     rw[e];exact k H2 (s1.trans s2)
   ·have e1:decide ((⇑(ck (kH z) ⇑z):Int)=(⇑z:Int))=false:=aF fun e=>hn ((vZ z).mp ⋯);rw[e1];bv_omega;have e:iA (.str z)=false:=by rw[ek];unfold gQ;rw[aF hn];simp
    rw[e] at k;exact k H1 s1
  ·have e:iA (.str z)=false:=by
    rw[ek];unfold gQ
    by_cases h4:3<=⇑z
    ·rw[aF (show ¬ ⇑z.cps.toList<=26 by left)];simp
    ·rw[aF (show ¬ 3<=⇑z.cps.toList by left)];simp
   rw[e] at k
   by_cases h4:3<=⇑z
   ·have d1:decide ((3:Int)<=(⇑z:Int))=true:=a9 ⋯;have d2:decide ((⇑z:Int)<=26)=false:=aF ⋯;rw[d1];bv_omega;rw[d2];bv_omega;exact k H (aB.refl _)
   ·have d1:decide ((3:Int)<=(⇑z:Int))=false:=aF ⋯;rw[d1];bv_omega;exact k H (aB.refl _)
 ·have hv:iA x=false:=by
   cases x with
   | str z=>exact absurd ⟨z,rfl⟩ hs
   | _=>rfl
  have hne:=qJ ht fun z e=>hs ⟨z,e⟩;rw[hv] at k;ac_nf;refine⟨trivial,t,ht,?_⟩;cases t<;>first
   | exact absurd rfl hne
   | exact k H (aB.refl _)
noncomputable def ou (al:Str) (n:Int):V->Bool
 | .str z=>Mk.dN al.cps.toList n z.cps.toList
 | _=>false
def pX:Sp:=fun vs H Q _=>∃ (al:Str) (n:Int) (x:V) (t:Tg),vs=[.str al,.int n,x]/\gb H x=some t/\(∀ z,x=.str z->⇑z<=100000)/\∀ H',aB H H'->Q (.bl (ou al n x)) H'
theorem AI (F:Å K "is_word" "is_word" rT f fd) (T:Bl mg) (AF:Ç K mg Ad) :bF P w K mg base (Á P w) 1 f fd ["alphabet","length","thing"] pX:=by
 exists["alphabet","length","thing"];obtain⟨al,n,x,t,rfl,ht,hz,k⟩:=h;refine⟨_,ag (bG ((iE (c8 (cx (ay (dG .str) T.isinstance bt_isinstance (ah (À 2) (ah (iR T.str tK) af))))) (gW (aR (gS (K:=K) rfl hu) (ay (aH (K:=K) rfl) T.len bz (ah (À 2) af)) (À 1) (aU _)))).pt) (ao (aG iD)) aV) (ao (aG (ay (ir (K:=K) rfl rfl) T.all pj (ah (fZ ["sign"] rfl ⟨rfl,by nofun,rfl,by nofun⟩ (.cons (j:=0) rfl (.inl (by ext)) (.nil)) (by nofun) (cG (K:=K) rfl (À 2)) (fun _ _ _ _=>aM (i:=0) (show (["sign","alphabet"]:Ze).Nodup from by nofun)) (fun _ _ _ _=>cZ) (fun _ _ _ _=>cT (mL (K:=K) rfl hu1) (À 0) (Ê 1) (by ext))) af)))),?_⟩
 by_cases hs:∃ z,x=.str z
 ·obtain⟨z,rfl⟩:=hs;cases ht;have hl:=hz z rfl;ac_nf;refine⟨trivial,Tg.str,rfl,?_⟩;ac_nf;refine⟨aT (av hl),?_⟩;have hl2:⇑z.cps.toList<=100000:=by rw[←dE];exact hl
  by_cases hn:(⇑z:Int)=n
  ·rw[ai (by simp [hn])];refine ud (fun c:Nat=>V.str ⟨#[c]⟩) tW (sd z) (av hl2) (fun c=>.bl (decide (c∈al.cps.toList))) ?_ ?_
   ·intro c hc H2 s2 R hR;ac_nf;rw[Ax];exact hR H2 (aB.refl _)
   ·intro D H2 hD s2 h2;refine⟨D,z.cps.toList.map fun c=>decide (c∈al.cps.toList),rfl,.of (by rw[h2,bf];rfl),?_⟩;have e:(z.cps.toList.map fun c=>decide (c∈al.cps.toList)).all id=ou al n (.str z):=by
     show _=Mk.dN al.cps.toList n z.cps.toList;unfold Mk.dN;rw[a9 (by rw[←dE];exact hn),eQ,ia];rfl
    rw[e];exact k H2 s2
  ·rw[aq (by simp [hn])];have e:ou al n (.str z)=false:=by
    show Mk.dN al.cps.toList n z.cps.toList=false;unfold Mk.dN;rw[aF (by rw[←dE];exact hn),jj]
   rw[e] at k;exact k H (aB.refl _)
 ·have hv:ou al n x=false:=by
   cases x with
   | str z=>exact absurd ⟨z,rfl⟩ hs
   | _=>rfl
  have hne:=qJ ht fun z e=>hs ⟨z,e⟩;rw[hv] at k;ac_nf;refine⟨trivial,t,ht,?_⟩;cases t<;>first
   | exact absurd rfl hne
   | exact k H (aB.refl _)
def ml:Sp:=fun vs H Q _=>∃ al w:Str,vs=[.str al,.str w]/\⇑w<=100000/\(∀ c∈w.cps.toList,c∈al.cps.toList)/\∀ p H',H p=none->aB H H'->H' p=some (.lst ((Mk.Û al.cps.toList w.cps.toList).map V.int))->Q (.ref p) H'
theorem xu (F:Å K "places_of" "places_of" nc f fd) (T:Bl mg) (AF:Ç K mg Ad) :bF P w K mg base (Á P w) 1 f fd ["alphabet","word"] ml:=by
 exists["alphabet","word"];obtain⟨al,z,rfl,hl,hm,k⟩:=h;refine⟨_,ao (aG (fZ ["letter"] rfl ⟨rfl,by nofun,rfl,by nofun⟩ (.cons (j:=0) rfl (.inl (by ext)) (.nil)) (by nofun) (cG (K:=K) rfl (À 1)) (fun _ _ _ _=>aM (i:=0) (show (["letter","alphabet"]:Ze).Nodup from by nofun)) (fun _ _ _ _=>cZ) (fun _ _ _ _=>cV (K:=K) rfl eZ PySem.F.slot_str_index PySem.F.type_str_index rJ (Ê 1) (ah (À 0) af)))),?_⟩;ac_nf;have hl2:⇑z.cps.toList<=100000:=by rw[←dE];exact hl
 refine ud (fun c:Nat=>V.str ⟨#[c]⟩) tW (sd z) (av hl2) (fun c=>.int ((al.cps.toList.idxOf c:Nat):Int)) ?_ ?_
 ·intro c hc H2 s2 R hR;ac_nf;rw[tS (hm c hc)];exact⟨rfl,Int.natCast_nonneg _,hR H2 (aB.refl _)⟩
 ·intro D H2 hD s2 h2;refine k D H2 hD s2 ?_;rw[h2];unfold Mk.Û;rw[bf];rfl
def uY:Sp:=fun vs H Q _=>∃ (al:Str) (q:Addr) (ps:Zb),vs=[.str al,.ref q]/\⇑al<=1000/\H q=some (.lst (ps.map V.int))/\⇑ps<=1000/\(∀ p∈ps,0<=p/\p<⇑al.cps.toList)/\∀ H',aB H H'->Q (.str (tx (Mk.ef al.cps.toList ps))) H'
theorem AJ (F:Å K "spelled" "spelled" rV f fd) (T:Bl mg) (AF:Ç K mg Ad) :bF P w K mg base (Á P w) 1 f fd ["alphabet","places"] uY:=by
 exists["alphabet","places"];obtain⟨al,q,ps,rfl,hal,hq,hl,hm,k⟩:=h;refine⟨_,ao (aG (cV (K:=K) rfl eZ nU nV (mJ (K:=K) rfl) bt (ah (fZ ["place"] rfl ⟨rfl,by nofun,rfl,by nofun⟩ (.cons (j:=0) rfl (.inl (by ext)) (.nil)) (by nofun) (cG (K:=K) rfl (À 1)) (fun _ _ _ _=>aM (i:=0) (show (["place","alphabet"]:Ze).Nodup from by nofun)) (fun _ _ _ _=>cZ) (fun _ _ _ _=>bg (bN (K:=K) rfl) (Ê 1) (À 0) (fun _ _=>rfl))) af))),?_⟩;ac_nf;refine⟨by rfl,.inl ⟨⟨_,.of hq⟩,ud V.int ja (eU (.of hq)) (av ⋯) (fun x=>.str (tx [al.cps.toList.getD x.toNat 0])) ?_ ?_⟩⟩
 ·intro x hx H5 t5 R hR;ac_nf;refine⟨aT (av ⋯),_,e8 (hm x hx).1 (Mk.getD_at (hm x hx)),?_⟩;exact hR H5 (aB.refl _)
 ·intro D H5 hD t5 h5;ac_nf;refine⟨(Mk.ef al.cps.toList ps).map fun c=>tx [c],F6 (by rw[h5];unfold Mk.ef;rw[bf];rfl),F5 (by rw[Mk.i3];left),?_⟩;rw[BU];exact k H5 t5
inductive kc (vs:List V) (H:Hp) (Q:VK) (E:XK):Prop
 | mk (m:Int) (p:Addr) (ws:Zb) (r:Int) (q:Addr) (ps:Zb) (q0:vs=[.int m,.ref p,.int r,.ref q]) (q1:0<m) (q2:H p=some (.lst (ws.map V.int))) (q3:H q=some (.lst (ps.map V.int))) (q4:⇑ws<=100000) (q5:Mk.ð ws) (q6:Mk.ð ps) (q7:∀ H',aB H H'->Q (.bl (Mk.good m ws r ps)) H'):kc vs H Q E
theorem su:aJ ["m","weights","rest","places","total"] ["m","weights","rest","places"] (ax pF):=by subst_eqs
theorem yO (F:Å K "are_good" "are_good" pF f fd) (T:Bl mg) (AF:Ç K mg Ad) :bF P w K mg base (Á P w) 1 f fd ["m","weights","rest","places"] kc:=by
 specialize su;obtain⟨m,p,ws,r,q,ps,rfl,hm,hp,hq,hl,hb,hb2,k⟩:=h;refine⟨_,ag (aA (i:=4) su.nd (ay (vF (K:=K) rfl rfl) T.sum EM (ah (fZ ["weight","place"] rfl ⟨rfl,by nofun,rfl,by nofun⟩ (.nil) (by nofun) (tm (K:=K) rfl T.zip (ah (À 1) (ah (À 3) af))) (fun _ _ _ _=>jW (K:=K) (n:=2) rfl rfl (cA (aM (i:=0) (show (["weight","place"]:Ze).Nodup from by nofun)) (cA (aM (i:=1) (show (["weight","place"]:Ze).Nodup from by nofun)) jc))) (fun _ _ _ _=>cZ) (fun _ _ _ _=>aD lU (À 0) (À 1))) af))) (ao (aG (cT (c6 (K:=K) rfl hu) (aD b0 (aD fi (À 4) (À 2)) (À 0)) aj (aU _)))),?_⟩;ac_nf;refine⟨⟨_,.of hp⟩,⟨_,.of hq⟩,Mb V.int V.int ja ja (.of hp) (.of hq) (av hl) (fun a b=>.int (a*b)) ?_ ?_⟩
 ·intro a b hab H2 s2 R hR;ac_nf;exact⟨zN (hb a (jG hab).1) (hb2 b (jG hab).2),hR H2 (aB.refl _)⟩
 ·intro D H2 hD s2 h2;ac_nf;refine⟨D,(ws.zip ps).map fun x=>x.1*x.2,rfl,.of (by rw[h2,bf];rfl),?_⟩;rw[Mk.BK];ac_nf;exact⟨hm,k H2 s2⟩
def iz (Ad:Ë):Sp:=fun vs H Q _=>∃ (a:Addr) (al:Za) (ws:Zb) (r:Int),vs=[.ref a]/\cF Ad H a al ws r/\Q (.str (tx al)) H
theorem rK (F:Å K "alphabet" "Code.alphabet" iS f fd) (T:Bl mg) (AF:Ç K mg Ad) :bF P w K mg base (Á P w) 1 f fd ["self"] (iz Ad):=by
 exists["self"];obtain⟨a,al,ws,r,rfl,⟨dx,q,h1,h2⟩,k⟩:=h;refine⟨_,ao (aG (cz (K:=K) rfl (À 0))),?_⟩;ac_nf;exact⟨_,dx,_,_,h1,AF.c_Code,AF.n_Code_letters,dZ al q r,k⟩
def mz (Ad:Ë):Sp:=fun vs H Q _=>∃ (a:Addr) (al:Za) (ws:Zb) (r:Int),vs=[.ref a]/\cF Ad H a al ws r/\nw H (.lst (ws.map V.int)) Q
theorem sM (F:Å K "weights" "Code.weights" jt f fd) (T:Bl mg) (AF:Ç K mg Ad) :bF P w K mg base (Á P w) 1 f fd ["self"] (mz Ad):=by
 exists["self"];obtain⟨a,al,ws,r,rfl,⟨dx,q,h1,h2⟩,k⟩:=h;refine⟨_,ao (aG (c7 (dY (K:=K) rfl rfl) T.list fP (ah (cz (K:=K) rfl (À 0)) af))),?_⟩;ac_nf;exact⟨_,dx,_,_,h1,AF.c_Code,AF.n_Code_factors,fY al q r,_,.inl (.l h2),k⟩
def fT (Ad:Ë):Sp:=fun vs H Q _=>∃ (a:Addr) (al:Za) (ws:Zb) (r:Int),vs=[.ref a]/\cF Ad H a al ws r/\⇑al<=26/\1<=⇑ws/\⇑ws<=8/\∀ H',aB H H'->Q (.int ((⇑al:Int)^(⇑ws-1))) H'
theorem jf:aJ ["self","product","weight"] ["self"] (ax mT):=by subst_eqs
theorem xk (F:Å K "many" "Code.many" mT f fd) (T:Bl mg) (AF:Ç K mg Ad) :bF P w K mg base (Á P w) 1 f fd ["self"] (fT Ad):=by
 specialize jf;obtain⟨a,al,ws,r,rfl,⟨dx,q,h1,h2⟩,h26,hw1,hw8,k⟩:=h;refine⟨_,ag (aA (i:=1) jf.nd aj) (ag (eA bU rfl (cG (K:=K) rfl (cN (iq (K:=K) rfl) (cz (K:=K) rfl (À 0)) (cM aj) fk)) (aM (i:=2) jf.nd) (ao (aA (i:=1) jf.nd (aD lU (À 1) (ay (aH (K:=K) rfl) T.len bz (ah (cz (K:=K) rfl (À 0)) af)))))) (ao (aG (À 1)))),?_⟩;symm;rw[dF];symm;rw[dF];symm;refine⟨_,dx,_,_,h1,AF.c_Code,AF.n_Code_factors,fY al q r,?_⟩;symm;refine⟨_,.of h2,fun p H1 hp s1 h3=>.inl ⟨⟨_,.of h3⟩,?_⟩⟩;rw[show (1:Int)=((1:Nat):Int) from rfl,rA,←nO] at h3;refine sY (xs:=(ws.drop 1).map V.int) (fun i σ H'=>H'=H1/\∃ o,σ=[some (.ref a),some (.int ((⇑al:Int)^i)),o]) ?_ ?_ ?_ ?_
 ·exact⟨rfl,none,by simp⟩
 ·rintro i σ H' _ ⟨rfl,_⟩;exact .of h3
 ·rintro i x σ H' hx ⟨rfl,o,rfl⟩;have hi:i<⇑ws-1:=by
   have:=(bL.mp hx).1;rw[ak,cX] at this;exact this
  ac_nf;refine⟨_,dx,_,_,s1 _ _ h1,AF.c_Code,AF.n_Code_letters,dZ al q r,?_⟩;ac_nf;rw[bh];refine⟨aT (av ⋯),⟨?_,bK (show ((⇑al:Int)).natAbs<1000 by left) Zd⟩,trivial,some x,?_⟩
  ·have e:(((⇑al:Int))^i).natAbs=⇑al^i:=by rw[Int.natAbs_pow];rfl
   rw[e];refine eE (qX h26 i) (eE (nT Zd (show i<=8 by left)) Zd)
  ·rw[←Int.pow_succ]
 ·rintro σ H' ⟨rfl,o,rfl⟩;rw[ak,cX];ac_nf;exact k _ s1
def j7:Sp:=fun vs H Q _=>∃ (x:V) (t:Tg) (n:Nat),vs=[x,.int n]/\gb H x=some t/\(∀ z,x=.str z->⇑z<=100000)/\n<=1000/\∀ H',aB H H'->Q (.bl (gN n x)) H'
theorem ur (F:Å K "are_letters" "are_letters" kq f fd) (T:Bl mg) (AF:Ç K mg Ad) :bF P w K mg base (Á P w) 1 f fd ["thing","most"] j7:=by
 exists["thing","most"];obtain⟨x,t,n,rfl,ht,hz,hn,k⟩:=h;refine⟨_,ag (bG ((iE (c8 (cx (ay (dG .str) T.isinstance bt_isinstance (ah (À 0) (ah (iR T.str tK) af))))) (gW (c8 (qz iQ iQ aj (ay (aH (K:=K) rfl) T.len bz (ah (À 0) af)) (À 1))))).pt) (ao (aG iD)) aV) (ao (aG (ay (ir (K:=K) rfl rfl) T.all pj (ah (fZ ["sign"] rfl ⟨rfl,by nofun,rfl,by nofun⟩ (.nil) (by nofun) (cG (K:=K) rfl (À 0)) (fun _ _ _ _=>aM (i:=0) (show (["sign"]:Ze).Nodup from by nofun)) (fun _ _ _ _=>cZ) (fun _ _ _ _=>cT (mL (K:=K) rfl hu1) (À 0) (dB AF.v_SMALL_LETTERS) (by ext))) af)))),?_⟩
 by_cases hs:∃ z,x=.str z
 ·obtain⟨z,rfl⟩:=hs;cases ht;have hl:=hz z rfl;have hc:=dE z;have ek:gN n (.str z)=eL n z.cps.toList:=rfl;ac_nf;refine⟨trivial,Tg.str,rfl,?_⟩;ac_nf;refine⟨aT (av ⋯),?_⟩
  by_cases h1:1<=⇑z
  ·rw[a9 (show (1:Int)<=(⇑z:Int) by left)];bv_omega
   by_cases h2:⇑z<=n
   ·rw[a9 (show (⇑z:Int)<=(n:Int) by left)];bv_omega;refine ud (fun c:Nat=>V.str ⟨#[c]⟩) tW (sd z) (av ⋯) (fun c=>.bl (decide (97<=c/\c<123))) ?_ ?_
    ·intro c hc H2 s2 R hR;ac_nf;rw[Ax,v5];have e2:decide (c∈List.range' 97 26)=decide (97<=c/\c<123):=nW.mpr (by rw[List.mem_range'_1]);rw[e2];exact hR H2 (aB.refl _)
    ·intro D H2 hD s2 h2';refine⟨D,z.cps.toList.map fun c=>decide (97<=c/\c<123),rfl,.of (by rw[h2',bf];rfl),?_⟩;have e:(z.cps.toList.map fun c=>decide (97<=c/\c<123)).all id=gN n (.str z):=by
      rw[ek];unfold eL;rw[a9 (show 1<=⇑z.cps.toList by left),a9 (show ⇑z.cps.toList<=n by left),ia];rfl
     rw[e];exact k H2 s2
   ·have e:gN n (.str z)=false:=by rw[ek];unfold eL;rw[aF (show ¬ ⇑z.cps.toList<=n by left)];simp
    rw[e] at k;rw[aF (show ¬ (⇑z:Int)<=(n:Int) by left)];bv_omega;exact k H (aB.refl _)
  ·have e:gN n (.str z)=false:=by rw[ek];unfold eL;rw[aF (show ¬ 1<=⇑z.cps.toList by left)];simp
   rw[e] at k;rw[aF (show ¬ (1:Int)<=(⇑z:Int) by left)];bv_omega;exact k H (aB.refl _)
 ·have hv:gN n x=false:=by
   cases x with
   | str z=>exact absurd ⟨z,rfl⟩ hs
   | _=>rfl
  have hne:=qJ ht fun z e=>hs ⟨z,e⟩;rw[hv] at k;ac_nf;refine⟨trivial,t,ht,?_⟩;cases t<;>first
   | exact absurd rfl hne
   | exact k H (aB.refl _)
def qG:Sp:=fun vs H Q _=>∃ (t:Addr) (key:List Key) (s:Ø),vs=[.ref t,.int s.1.length,.str (tx s.2)]/\H t=some (.tup (key.map kV))/\fV key/\oT s/\∀ H',aB H H'->Q (.bl (stepK key s).isSome) H'
theorem xo (F:Å K "can_stand" "can_stand" mW f fd) (T:Bl mg) (AF:Ç K mg Ad) :bF P w K mg base (Á P w) 1 f fd ["entry","many","spelling"] qG:=by
 exists["entry","many","spelling"];obtain⟨t,key,s,rfl,ht,ok,say,k⟩:=h;refine⟨_,ag (bG (aR (c6 (K:=K) rfl hu) (bg (bN (K:=K) rfl) (À 0) aj (fun _ _=>rfl)) bt (aU _)) (ao (aG (pC (cT (c6 (K:=K) rfl hu) (À 2) bt (aU _)) (mP (cT iQ (aD aZ (À 1) (ay (aH (K:=K) rfl) T.len bz (ah (cV (K:=K) rfl eZ qZ rf qp (bg (bN (K:=K) rfl) (À 0) aj (fun _ _=>rfl)) (ah bt af)) af))) (dB AF.v_MOST_WORDS) (aU _)))))) aV) (ag (bG (aR (c6 (K:=K) rfl hu) (bg (bN (K:=K) rfl) (À 0) aj (fun _ _=>rfl)) bt (aU _)) (ao (aG (pC (cT rM (À 1) (dB AF.v_MOST_WORDS) (aU _)) (mP (cT iQ (aD aZ (ay (aH (K:=K) rfl) T.len bz (ah (À 2) af)) (ay (aH (K:=K) rfl) T.len bz (ah (bg (bN (K:=K) rfl) (À 0) aj (fun _ _=>rfl)) af))) (dB AF.v_LONGEST_WORD) (aU _)))))) aV) (ao (aG (cT (gS (K:=K) rfl hu) (À 2) bt (aU _))))),?_⟩;have big:∀ {u:Nat},u<=10000->u<=sizeLine:=fun hu=>aT (av ⋯);have l2:=say.len;have few:=say.few;have e0:Str.ofString ""=tx []:=rfl;have de:decide (tx s.2=Str.ofString "")=decide (s.2=[]):=by rw[e0,Hi]
 rcases mC ok with ⟨l,rfl,hl⟩ | ⟨l,rfl,hl⟩ | rfl
 ·have ht':H t=some (.tup [.str ("phrase":Str),.str (tx l)]):=ht;have hs:⇑l<=10000:=by
   have:=ok.short (tx l) (by simp [kV])
   rwa [bh] at this
  obtain⟨w6,_⟩:=Bx hl;grind;refine⟨_,_,.inr (.of ht'),e8 Zd rfl,?_⟩;symm;rw[aq (by rfl),de];rw[gJ] at k
  by_cases h2:s.2=[]
  ·rw[aq (a9 h2)];refine⟨_,_,.inr (.of ht'),e8 Zd rfl,rfl,?_⟩;symm;refine⟨by rw[bh];left,32,rfl,fun p H1 hp s1 h1=>?_⟩;rw[bW] at h1;symm;refine⟨_,.inl (.of h1),?_⟩;rw[ak];symm;have e:(some (s.1++Mk.bB 32 l,([]:Za))).isSome=true:=rfl
   by_cases hc:s.1.length+⇑(Mk.bB 32 l)<=60
   ·rw[aq ⟨h2,hc⟩] at k;rw[a9 (show (s.1.length:Int)+(⇑(Mk.bB 32 l):Int)<=60 by left)];exact k H1 s1
   ·rw[ai (fun z=>hc z.2)] at k;rw[aF (show ¬ (s.1.length:Int)+(⇑(Mk.bB 32 l):Int)<=60 by left)];exact k H1 s1
  ·rw[ai (by rw[aF h2];decide)];rw[ai (fun z=>h2 z.1)] at k;exact k H (aB.refl _)
 ·have ht':H t=some (.tup [.str ("part":Str),.str (tx l)]):=ht;obtain⟨w1,w6,_⟩:=rG hl;grind;refine⟨_,_,.inr (.of ht'),e8 Zd rfl,?_⟩;symm;rw[ai (by decide)];show nn _ _ _;cbv;grind;refine⟨_,_,.inr (.of ht'),e8 Zd rfl,?_⟩;symm;rw[aq (by rfl)];rw[i4] at k
  by_cases h1:s.1.length<60
  ·rw[aq (a9 ⋯)];rw[bh];refine⟨big ⋯,_,_,.inr (.of ht'),e8 Zd rfl,?_⟩;symm;rw[bh];refine⟨big ⋯,?_⟩
   by_cases hc:s.2.length+⇑l<=20
   ·rw[aq ⟨h1,hc⟩] at k;rw[a9 (show (s.2.length:Int)+(⇑l:Int)<=20 by left)];exact k H (aB.refl _)
   ·rw[ai (fun z=>hc z.2)] at k;rw[aF (show ¬ (s.2.length:Int)+(⇑l:Int)<=20 by left)];exact k H (aB.refl _)
  ·rw[ai (by rw[aF ⋯];decide)];rw[ai (fun z=>h1 z.1)] at k;exact k H (aB.refl _)
 ·have ht':H t=some (.tup [.str ("end":Str)]):=ht;grind;refine⟨_,_,.inr (.of ht'),e8 Zd rfl,?_⟩;symm;rw[ai (by decide)];show nn _ _ _;cbv;grind;refine⟨_,_,.inr (.of ht'),e8 Zd rfl,?_⟩;symm;rw[ai (by decide)];show nn _ _ _;cbv;symm;rw[de];rw[jA] at k
  by_cases h2:s.2=[]
  ·rw[aq h2] at k;rw[a9 h2];exact k H (aB.refl _)
  ·rw[ai h2] at k;rw[aF h2];exact k H (aB.refl _)
def uZ:Sp:=fun vs H Q _=>∃ (z:Za) (n:Int),vs=[.str (tx z),.int n]/\3<=⇑z/\⇑z<=8/\0<=n/\Q (.str (tx (ã z n))) H
theorem uU:aJ ["word","number","at"] ["word","number"] (ax rW):=by subst_eqs
theorem AK (F:Å K "swapped" "swapped" rW f fd) (T:Bl mg) (AF:Ç K mg Ad) :bF P w K mg base (Á P w) 1 f fd ["word","number"] uZ:=by
 specialize uU;obtain⟨z,n,rfl,z3,z8,hn,k⟩:=h;refine⟨_,ag (aA (i:=2) uU.nd (aD b0 (À 1) (aD fi (ay (aH (K:=K) rfl) T.len bz (ah (À 0) af)) aj))) (ao (aG (aD aZ (aD aZ (aD aZ (cN (iq (K:=K) rfl) (À 0) fk (cM (À 2))) (bg (bN (K:=K) rfl) (À 0) (aD aZ (À 2) aj) (fun _ _=>rfl))) (bg (bN (K:=K) rfl) (À 0) (À 2) (fun _ _=>rfl))) (cN (iq (K:=K) rfl) (À 0) (cM (aD aZ (À 2) aj)) fk)))),?_⟩;grind;have big:∀ {u:Nat},u<=100->u<=sizeLine:=fun hu=>aT (av ⋯);rw[bh];refine⟨big ⋯,⋯,?_⟩;unfold ã at k;obtain⟨i,hi⟩:=dm (b7 n (show (⇑z:Int)-1≠0 by left));have hil:i+1<⇑z:=by have:=bJ n (show 0<(⇑z:Int)-1 by left);left
 rw[hi,cC] at k;rw[hi,hN];clear hN nn;symm;have c1:z[i+1]?=some (z.getD (i+1) 0):=by rw[aK,aC hil];rfl
 have c0:z[i]?=some (z.getD i 0):=by rw[aK,aC ⋯];rfl
 have l1:∀ c:Nat,⇑([c]:Za)=1:=fun _=>rfl;have e1:(i:Int)+1=((i+1:Nat):Int):=rfl;have e2:(i:Int)+2=((i+2:Nat):Int):=rfl;have lA:⇑(z.take i)=i:=by rw[cP];left
 simp only[bh,bW,e1,e2,kO,oj];refine⟨big ⋯,big ⋯,_,bb c1,?_,big ⋯,_,bb c0,?_,big ⋯,?_,?_⟩
 all_goals simp only[xI,iW,bh,aE,l1,lA,cX]
 ·exact big ⋯
 ·exact big ⋯
 ·exact big ⋯
 ·exact k
def iV:Sp:=fun vs H Q _=>∃ (a:Addr) (ws:List V) (fs:List Flt),vs=[.ref a]/\H a=some (.lst ws)/\ft H ws fs/\⇑fs<=1000/\∀ D kvs H',H D=none->aB H H'->H' D=some (.dT kvs)->oa H' kvs fs->Q (.ref D) H'
theorem dJ:aJ ["faults","first","sending","place","kind","number"] ["faults"] (ax jx):=by subst_eqs
theorem sQ (F:Å K "first_faults" "first_faults" jx f fd) (T:Bl mg) (AF:Ç K mg Ad) :bF P w K mg base (Á P w) 1 f fd ["faults"] iV:=by
 specialize dJ;obtain⟨a,ws,fs,rfl,ha,hf,hl,k⟩:=h;refine⟨_,ag (aA (i:=1) dJ.nd we) (ag (eA bU rfl (cG (K:=K) rfl (À 0)) (jW (K:=K) (n:=4) rfl rfl (cA (aM (i:=2) dJ.nd) (cA (aM (i:=3) dJ.nd) (cA (aM (i:=4) dJ.nd) (cA (aM (i:=5) dJ.nd) jc))))) (ao (eM (cV (K:=K) rfl PySem.F.plainAttrs_dict PySem.F.slot_dict_setdefault PySem.F.type_dict_setdefault (AA hu1) (À 1) (ah (dw (ah (À 2) (ah (À 3) af))) (ah (dw (ah (À 4) (ah (À 5) af))) af)))))) (ao (aG (À 1)))),?_⟩;have le2:2<=sizeLine:=aT (av Zd);have lw:⇑ws=⇑fs:=Paired.length hf;grind;intro D H1 hD s1 h1;cbv;have hD0:H D=none:=hD;have nad:a≠D:=aW ha hD0;grind;refine .inl ⟨⟨_,.of (s1 _ _ ha)⟩,yx (xs:=ws) (fun i σ H'=>(∃ o2 o3 o4 o5,σ=[some (V.ref a),some (V.ref D),o2,o3,o4,o5])/\aB H H'/\∃ kvs,H' D=some (.dT kvs)/\⇑kvs<=i/\oa H' kvs (fs.take i)) ?_ ?_ ?_ ?_⟩
 ·exact⟨⟨_,_,_,_,rfl⟩,s1,[],h1,aw _,fun s p=>.inl ⟨rfl,rfl⟩⟩
 ·rintro i σ H' hi ⟨_,h,_⟩;exact .of (h _ _ ha)
 ·rintro i v σ H2 hi ⟨⟨o2,o3,o4,o5,rfl⟩,s2,kvs,hk,hkl,hF⟩ N hNx;clear hN;obtain⟨f,hfi,t,rfl,ht⟩:=fb hf hi;have hiw:i<⇑ws:=(bL.mp hi).1;refine⟨t,_,rfl,Ó.of (s2 _ _ ht),rfl,?_⟩;rw[show vj f=[.int f.s,.int f.p,.str (å f.isL),.int f.n] from rfl];have htk:fs.take (i+1)=fs.take i++[f]:=by rw[lE,hfi];rfl
  rw[htk] at hNx;have hit:∀ s p,hits s p f=true->s=f.s/\p=f.p:=fun s p e=>by unfold hits at e;rw[bV,bE,bE] at e;exact⟨e.1.symm,e.2.symm⟩
  have hits0:hits f.s f.p f=true:=by unfold hits;simp
  symm;refine⟨.inr (.inr (.inl ⟨rfl,.inr ⟨_,hk⟩⟩)),le2,fun p1 H3 hp1 s3 h3=>⟨le2,fun p2 H4 hp2 s4 h4=>⟨kvs,[.inl f.s,.inl f.p],(s3.trans s4) _ _ hk,s4 _ _ h3,av ⋯,fun u hu=>?_,fun hno=>?_⟩⟩⟩
  ·refine hNx _ _ ⟨⟨_,_,_,_,rfl⟩,s2.trans (s3.trans s4),kvs,(s3.trans s4) _ _ hk,⋯,fun s p=>?_⟩;rw[List.find?_append];rcases hF s p with ⟨e1,e2⟩ | ⟨t2,f2,e1,e2,e3⟩
   ·refine .inl ⟨e1,?_⟩;rw[e2,Option.none_or,eV];cases hh:hits s p f with
    | false=>rfl
    | true =>obtain⟨rfl,rfl⟩:=hit s p hh;rw[e1] at hu;cases hu
   ·exact .inr ⟨t2,f2,e1,by rw[e2];rfl,(s3.trans s4) _ _ e3⟩
  ·have hk4:=(s3.trans s4) _ _ hk;have kt:∀ c xs,H4 c=some (.tup xs)->upd H4 D (.dT (putK kvs [.inl f.s,.inl f.p] (V.ref p2))) c=some (.tup xs):=fun c xs e=>by rw[aN (gR e hk4 (by intro z;cases z))];exact e
   refine hNx _ _ ⟨⟨_,_,_,_,rfl⟩,(s2.trans (s3.trans s4)).cf hD0,_,aI,?_,fun s p=>?_⟩
   ·have:=jU kvs [.inl f.s,.inl f.p] (V.ref p2);left
   rw[Hj,List.find?_append]
   by_cases e:([.inl s,.inl p]:List Key)=[.inl f.s,.inl f.p]
   ·injection e with e1 e2
    injection e2 with e2 _
    have e1':=Sum.inl.inj e1;have e2':=Sum.inl.inj e2;subst e1' e2';rw[aq rfl];rcases hF f.s f.p with ⟨_,e4⟩ | ⟨_,_,e4,_⟩
    ·refine .inr ⟨p2,f,rfl,?_,kt _ _ h4⟩;rw[e4,Option.none_or,eV,hits0]
    ·rw[hno] at e4;cases e4
   ·rw[ai e];have hh:hits s p f=false:=by
     cases hh:hits s p f with
     | false=>rfl
     | true =>obtain⟨rfl,rfl⟩:=hit s p hh;exact absurd rfl e
    rcases hF s p with ⟨e1,e2⟩ | ⟨t2,f2,e1,e2,e3⟩
    ·exact .inl ⟨e1,by rw[e2,Option.none_or,eV,hh];rfl⟩
    ·exact .inr ⟨t2,f2,e1,by rw[e2];rfl,kt _ _ ((s3.trans s4) _ _ e3)⟩
 ·rintro σ H2 ⟨⟨o2,o3,o4,o5,rfl⟩,s2,kvs,hk,hkl,hF⟩;show nn _ _ _;cbv;symm;rw[eY ⋯] at hF;exact k D kvs H2 hD0 s2 hk hF
def mh (Ad:Ë):Sp:=fun vs H Q _=>∃ (b dx ca:Addr),vs=[.ref b,.ref ca]/\H b=some (.ins Ad.Book dx [])/\∀ dn de H',H dn=none->H de=none->dn≠de->dn≠b->de≠b->(∀ c u,c≠b->H c=some u->H' c=some u)->H' b=some (.ins Ad.Book dx (tI ca dn de))->H' dn=some (.dK [])->H' de=some (.dT [])->Q .non H'
theorem xi (F:Å K "__init__" "Book.__init__" gF f fd) (T:Bl mg) (AF:Ç K mg Ad) :bF P w K mg base (Á P w) 1 f fd ["self","code"] (mh Ad):=by
 exists["self","code"];obtain⟨b,dx,ca,rfl,hb,k⟩:=h;refine⟨_,ag (oA (K:=K) rfl (À 0) (À 1)) (ag (oA (K:=K) rfl (À 0) ze) (ao (oA (K:=K) rfl (À 0) we))),?_⟩;ac_nf;refine⟨_,_,_,hb,AF.c_Book,AF.n_Book_basis,Zd,fun p G1 z1 t1 g1=>?_⟩;have np1:p≠b:=fun e=>by rw[e,aI] at z1;cases z1
 have hb1:=t1 b _ aI;refine⟨_,_,_,hb1,AF.c_Book,AF.n_Book_by_number,eE (aw 1) Zd,fun p2 G2 z2 t2 g2=>?_⟩;have np2:p2≠b:=fun e=>by rw[e,aI] at z2;cases z2
 have hb2:=t2 b _ aI;have k1:∀ c u,c≠b->H c=some u->G1 c=some u:=fun c u hc h=>t1 c u (by rw[aN hc];exact h);have k2:∀ c u,c≠b->G1 c=some u->G2 c=some u:=fun c u hc h=>t2 c u (by rw[aN hc];exact h);have ne:p≠p2:=fun e=>by rw[←e,aN np1,g1] at z2;cases z2
 refine⟨_,_,_,hb2,AF.c_Book,AF.n_Book_by_entry,eE (aw 2) Zd,k p p2 _ ?_ ?_ ne np1 np2 (fun c u hc h=>by rw[aN hc];exact k2 c u hc (k1 c u hc h)) (by rw[aI];rfl) (by rw[aN np1];exact k2 _ _ np1 g1) (by rw[aN np2];exact g2)⟩
 ·cases e:H p with
  | none=>rfl
  | some o=>rw[aN np1,e] at z1;cases z1
 ·cases e:H p2 with
  | none=>rfl
  | some o=>rw[aN np2,k1 p2 o np2 e] at z2;cases z2
inductive dP (Ad:Ë) (vs:List V) (H:Hp) (Q:VK) (E:XK):Prop
 | mk (b ca dn de:Addr) (es:List Æ) (q0:vs=[.ref b]) (q1:du Ad H b ca dn de es) (q2:Q (.ref ca) H):dP Ad vs H Q E
theorem xD:aJ ["self"] ["self"] (ax mS):=by subst_eqs
theorem xh (F:Å K "code" "Book.code" mS f fd) (T:Bl mg) (AF:Ç K mg Ad) :bF P w K mg base (Á P w) 1 f fd ["self"] (dP Ad):=by
 refine F.â (k:=0) xD ?_ (fun cdv A outer s H vs Q E hr h=>?_)
 ·bv_decide
 ·obtain⟨b,ca,dn,de,es,rfl,B,k⟩:=h;obtain⟨dx,h1⟩:=B.bk;have hu:=hr.iX;have hu1:=mF hr;refine⟨_,ao (aG (cz (K:=K) rfl (À 0))),?_⟩;ac_nf;exact⟨_,dx,_,_,h1,AF.c_Book,AF.n_Book_basis,jS ca dn de,k⟩
def oE (spf:Sp):Sp:=fun vs H Q _=>∃ (n lg:Nat) (f:Addr) (F:Nat->Nat->OG),vs=[.int n,.int lg,.ref f]/\n<=100/\1<=lg/\lg<=100/\(∀ i j l,F i j=some l->⇑l<=100) ∧
 (∀ i j:Nat,i<j->j<=n->j<=i+lg->∀ H' Q',aB H H'->(∀ v H'',aB H' H''->jO H'' v (F i j)->Q' v H'')->spf [.int i,.int j] H' Q' XF) ∧
 ∀ p svs H',H p=none->aB H H'->H' p=some (.lst svs)->Paired (jO H') svs (Ì F lg n)->Q (.ref p) H'
theorem iy:aJ ["many","longest","step","best","behind","found","begin","added"] ["many","longest","step"] (ax kW):=by subst_eqs
theorem DW {k:Nat} (F:Å K "fewest" "fewest" kW f fd) (T:Bl mg) (AF:Ç K mg Ad) :B3 P w K mg base (Á P w) (k+1) f fd ["many","longest","step"] (Lu P w K mg base k 2 oE):=by
 refine F.okS (k:=k) (n:=2) iy (fun spf vs H Q E h=>?_) (fun cdv A outer s H vs Q E hr lf spf hlf lam step h=>?_)
 ·obtain⟨n,lg,f,F,rfl,_⟩:=h;rfl
 ·obtain⟨n,lg,f,F,rfl,n100,g1,g100,hF,hs,k⟩:=h;cases hlf;have hu:=hr.iX;have hu1:=mF hr;refine⟨_,ag (aA (i:=3) iy.nd (cb (ah (cb af) af))) (ag (eA bU rfl (pE T.range (ah aj (ah (aD aZ (À 0) aj) af))) (aM (i:=4) iy.nd) (ag (aA (i:=5) iy.nd dh) (ag (eA bU rfl (pE T.range (ah (ay (CP rfl) T.max Kr (ah aj (ah (aD fi (À 4) (À 1)) af))) (ah (À 4) af))) (aM (i:=6) iy.nd) (ag (aA (i:=7) iy.nd (mO (aR jq (bg (bN (K:=K) rfl) (À 3) (À 6) (fun _ _=>rfl)) dh (aU _)) dh (zd step rfl hr (À 2) (ah (À 6) (ah (À 4) af))))) (ao (bG ((uL (aR oy (À 7) dh (aU _)) (tp ((iE (aR jq (À 5) dh (aU _)) (gW (aR rM (aD aZ (ay (aH (K:=K) rfl) T.len bz (ah (bg (bN (K:=K) rfl) (À 3) (À 6) (fun _ _=>rfl)) af)) (ay (aH (K:=K) rfl) T.len bz (ah (À 7) af))) (ay (aH (K:=K) rfl) T.len bz (ah (À 5) af)) (aU _)))).pt))).pt) (ao (aA (i:=5) iy.nd (aD aZ (bg (bN (K:=K) rfl) (À 3) (À 6) (fun _ _=>rfl)) (À 7)))) aV)))) (ao (eM (cV (K:=K) rfl eF fK fL dI (À 3) (ah (À 5) af))))))) (ao (aG (À 3)))),?_⟩;have big:∀ {u:Nat},u<=90000->u<=sizeLine:=fun hu=>aT (av ⋯);have fo:=tT (lg:=lg) hF;grind;refine⟨br _,fun p0 H1 hp0 s1 h1=>⟨big Zd,fun bst H2 hb s2 h2=>?_⟩⟩;have hbH:H bst=none:=s1.free hb;cbv;grind;refine⟨⟨Zd,Zd,⋯,⋯⟩,?_⟩;rw[show ((n:Int)+1-1).toNat=n by left];refine fz (fun b σ H'=>∃ (svs:List V) (o4 o5 o6 o7:Option V),σ=[some (V.int n),some (V.int lg),some (V.ref lf),some (V.ref bst),o4,o5,o6,o7]/\aB H H'/\H' bst=some (.lst svs)/\(∀ v∈svs,v≠V.ref bst)/\Paired (jO H') svs (Ì F lg b)) ?_ ?_ ?_
  ·refine⟨[V.ref p0],_,_,_,_,rfl,s1.trans s2,h2,(fun v hv=>?_),.cons ⟨p0,rfl,s2 _ _ h1⟩ .nil⟩;rw[aS.mp hv];intro z;cases z;rw[h1] at hb;cases hb
  ·rintro b σ A1 hbn ⟨svs,o4,o5,o6,o7,rfl,sA,hA,hne,hP⟩ N hNx;clear hN;have lsv:⇑svs=b+1:=by rw[gz hP,fQ]
   have e1:(1:Int)+(b:Int)=((b+1:Nat):Int):=⋯
   symm;rw[e1];refine cK fun n2 hM=>?_;symm;rw[hM];clear hM n2;refine cK fun n2 hM=>?_;symm;have em:max (0:Int) (((b+1:Nat):Int)-(lg:Int))=((b+1-lg:Nat):Int):=⋯
   rw[em];refine⟨⟨⋯,⋯,⋯,⋯⟩,?_⟩;rw[show (((b+1:Nat):Int)-((b+1-lg:Nat):Int)).toNat=b+1-(b+1-lg) by left];have lo_le:b+1-lg<=b:=⋯
   have lo_lg:b+1<=b+1-lg+lg:=⋯
   have fin:Ì F lg (b+1)=Ì F lg b++[gy (Ì F lg b) F (b+1) (b+1-lg) (b+1-(b+1-lg))]:=rfl;generalize b+1-lg=lo at *;refine fz (fun t σ G=>∃ (vf:V) (o6 o7:Option V),σ=[some (V.int n),some (V.int lg),some (V.ref lf),some (V.ref bst),some (V.int ((b+1:Nat):Int)),some vf,o6,o7]/\aB A1 G/\jO G vf (gy (Ì F lg b) F (b+1) lo t)/\vf≠.ref bst) ?_ ?_ ?_
   ·exact⟨.non,_,_,rfl,aB.refl _,rfl,fun z=>by cases z⟩
   ·rintro t σ G1 ht ⟨vf,o6,o7,rfl,tG,hvf,hvn⟩ N2 hN2;clear hM hNx;have hi:lo+t<b+1:=⋯
    have hbG:=tG _ _ hA;have hsv:svs[lo+t]?=some (svs[lo+t]'⋯):=aC _;generalize svs[lo+t]'⋯=v at hsv;obtain⟨o,ho,hvo⟩:=fb hP hsv;have e2:(lo:Int)+(t:Int)=((lo+t:Nat):Int):=⋯
    have hgo:gy (Ì F lg b) F (b+1) lo (t+1)=gP (Ì F lg b) F (b+1) (gy (Ì F lg b) F (b+1) lo t) (lo+t):=rfl;have hgd:(Ì F lg b).getD (lo+t) none=o:=by rw[aK,ho];rfl
    have hat:Õ svs (((lo+t:Nat):Int))=some v:=e8 ⋯ (by rw[cC];exact hsv);symm;rw[e2];refine cK fun n3 hM=>?_;symm;refine⟨_,_,.inl (.of hbG),hat,?_⟩;cases o with
    | none =>have hv0:v=.non:=hvo;subst hv0;symm;rw[hM];clear hM n3;symm;refine hN2 _ _ ⟨vf,_,_,rfl,tG,?_,hvn⟩;rw[hgo];unfold gP;rw[hgd];exact hvf
    | some p =>
     obtain⟨pa,rfl,hpa⟩:=hvo;have l1:=fo b _ _ ho;have l1':⇑p<=100*100:=bM l1 (Nat.mul_le_mul_left _ ⋯);symm;refine⟨trivial,lam.same (sA.trans tG),lam.same (sA.trans tG),trivial,hs (lo+t) (b+1) ⋯ ⋯ ⋯ G1 _ (sA.trans tG) fun v2 G2 t2 hv2=>?_⟩;rw[hM];clear hM n3;have tG2:=tG.trans t2;cases ha:F (lo+t) (b+1) with
     | none =>rw[ha] at hv2;have hv0:v2=.non:=hv2;subst hv0;symm;refine hN2 _ _ ⟨vf,_,_,rfl,tG2,?_,hvn⟩;rw[hgo];unfold gP;rw[hgd,ha];exact hvf.same t2
     | some a =>
      rw[ha] at hv2;obtain⟨aa,rfl,haa⟩:=hv2;have l2:=hF _ _ _ ha;have hb2:=tG2 _ _ hA;have put:∀ (G3:Hp) (D:Addr),aB G2 G3->G2 D=none->G3 D=some (.lst (p.map V.int++a.map V.int))->gy (Ì F lg b) F (b+1) lo (t+1)=some (p++a)->N2 [some (V.int n),some (V.int lg),some (V.ref lf),some (V.ref bst),some (V.int ((b+1:Nat):Int)),some (V.ref D),some (V.int ((lo+t:Nat):Int)),some (V.ref aa)] G3:=fun G3 D t3 hD gD hg=>by
       refine hN2 _ _ ⟨.ref D,_,_,rfl,tG2.trans t3,?_,fun z=>?_⟩
       ·rw[hg];exact⟨D,rfl,by rw[gD,bD]⟩
       ·cases z;rw[hb2] at hD;cases hD
      have hpa2:=tG2 _ _ hpa;have hstep:gy (Ì F lg b) F (b+1) lo (t+1)=match gy (Ì F lg b) F (b+1) lo t with | none=>some (p++a) | some f=>if ⇑p+⇑a<⇑f then some (p++a) else some f:=by rw[hgo];unfold gP;rw[hgd,ha]
      have lpa:⇑(p.map V.int)+⇑(a.map V.int)<=sizeLine:=big (by rw[ak,ak];left);cases hf:gy (Ì F lg b) F (b+1) lo t with
      | none =>rw[hf] at hvf hstep;have hv0:vf=.non:=hvf;subst hv0;symm;refine⟨_,_,.inl (.of hb2),hat,?_⟩;symm;refine⟨_,_,hpa2,haa,lpa,fun D G3 hD t3 gD=>put G3 D t3 hD gD hstep⟩
      | some fl =>
       rw[hf] at hvf hstep;obtain⟨fa,rfl,hfa⟩:=hvf;symm;refine⟨_,_,.inl (.of hb2),hat,?_⟩;symm;refine⟨_,.inl (.of hpa2),_,.inl (.of haa),_,.inl (.of (t2 _ _ hfa)),?_⟩;rw[ak,ak,ak]
       by_cases hlt:⇑p+⇑a<⇑fl
       ·have hs2:gy (Ì F lg b) F (b+1) lo (t+1)=some (p++a):=hstep.trans (aq hlt);rw[aq (a9 ⋯)];refine⟨_,_,.inl (.of hb2),hat,?_⟩;symm;exact⟨_,_,hpa2,haa,lpa,fun D G3 hD t3 gD=>put G3 D t3 hD gD hs2⟩
       ·have hs2:gy (Ì F lg b) F (b+1) lo (t+1)=some fl:=hstep.trans (ai hlt);rw[ai (by rw[aF ⋯];decide)];refine hN2 _ _ ⟨.ref fa,_,_,rfl,tG2,?_,hvn⟩;rw[hs2];exact⟨fa,rfl,t2 _ _ hfa⟩
   rintro σ G1 ⟨vf,o6,o7,rfl,tG,hvf,hvn⟩;show n2 _ _ _;rw[hM];clear hM n2;symm;have hbG:=tG _ _ hA;refine⟨.inl ⟨rfl,_,.of hbG⟩,bst,_,_,rfl,rfl,hbG,av ⋯,?_⟩;refine hNx _ _ ⟨svs++[vf],_,_,_,_,rfl,(sA.trans tG).cf hbH,aI,(fun v hv=>(bC.mp hv).elim (hne v) fun h=>by rw[aS.mp h];exact hvn),?_⟩;have kp:∀ x u,x≠bst->G1 x=some u->upd G1 bst (.lst (svs++[vf])) x=some u:=fun x u hx e=>by rw[aN hx];exact e
   rw[fin];refine mM ?_ (.cons (hvf.keep hvn kp) .nil);exact qx hP hne fun v o hv h=>(h.same tG).keep hv kp
  rintro σ H3 ⟨svs,o4,o5,o6,o7,rfl,s3,h3,_,hP⟩;show nn _ _ _;cbv;symm;exact k bst svs H3 hbH s3 h3 hP
def eC (K:Zf):Sp:=fun vs H Q _=>∃ (a:Addr) (ns:Zb) (k:Int),vs=[.ref a,.int k]/\Ã K H a (ns.map V.int)/\0<=k/\Q (.int (ns.getD k.toNat 0)) H
theorem ux (F:Å K "_law_cell_at" "_law_cell_at" kz f fd) (T:Bl mg) (AF:Ç K mg Ad) :bF P w K mg base (Á P w) 1 f fd ["_law_script","_law_k"] (eC K):=by
 exists["_law_script","_law_k"];obtain⟨a,ns,i,rfl,hS,hi,k⟩:=h;refine⟨_,ag (bG (aR rM (À 1) (ay (aH (K:=K) rfl) T.len bz (ah (À 0) af)) (aU _)) (ao (aG (bg (bN (K:=K) rfl) (À 0) (À 1) (fun _ _=>rfl)))) aV) (ao (aG aj)),?_⟩;ac_nf;refine⟨_,.inl hS,?_⟩;rw[ak]
 by_cases hlt:i<(⇑ns:Int)
 ·rw[aq (a9 hlt)];refine⟨_,.int (ns.getD i.toNat 0),.inl hS,?_,k⟩;have e:(ns.map V.int)[i.toNat]?=some (.int (ns.getD i.toNat 0)):=by
   rw[aX,aK,aC ⋯];rfl
  have:=bb e
  rwa [iI hi] at this
 ·rw[ai (by rw[bE];exact hlt)];have e:ns.getD i.toNat 0=0:=by rw[aK,fI ⋯];rfl
  rw[e] at k;exact k
noncomputable def vn (c:Int) (k:Nat):Int:=(c%10^60*314159265358979323846264338327950288419716939937510582097494+27182818284590452353602874713527)%(10^60+7)/10^(12*k)%10^12
theorem IG (c:Int) (k:Nat):0<=vn c k:=b7 _ Zd
def fU:Sp:=fun vs H Q _=>∃ (c:Int) (k:Nat),vs=[.int c,.int k]/\k<=4/\∀ H',aB H H'->Q (.int (vn c k)) H'
theorem me:aJ ["_law_cell","_law_k","_law_many","_law_number"] ["_law_cell","_law_k"] (ax mZ):=by subst_eqs
theorem xt (F:Å K "_law_mixed" "_law_mixed" mZ f fd) (T:Bl mg) (AF:Ç K mg Ad) :bF P w K mg base (Á P w) 1 f fd ["_law_cell","_law_k"] fU:=by
 specialize me;obtain⟨c,j,rfl,hj,k⟩:=h;refine⟨_,ag (aA (i:=2) me.nd aj) (ag (aA (i:=3) me.nd (aD b0 (aD aZ (aD lU (aD b0 (À 0) (aD jb aj aj)) (À 2)) aj) (aD aZ (aD jb aj aj) aj))) (ao (aG (aD b0 (aD eS (À 3) (bg (bN (K:=K) rfl) (cb (ah aj (ah (aD jb aj aj) (ah (aD jb aj aj) (ah (aD jb aj aj) (ah (aD jb aj aj) af)))))) (À 1) (fun _ _=>rfl))) (aD jb aj aj))))),?_⟩;grind;cbv;grind;have h0:=b7 c (show (10^60:Int)≠0 by decide);have h1:=bJ c (show (0:Int)<10^60 by decide);refine⟨⟨Zd,Zd,Zd⟩,Zd,⟨bK (show (c%10^60).natAbs<10^60 by left) Zd,Zd⟩,⟨Zd,Zd,Zd⟩,Zd,?_⟩;cbv;symm;have p3:∀ n:Int,n=12∨n=24∨n=36∨n=48->0<=n/\n<=1000000/\Int.natAbs 10<2^64:=fun n h=>⟨⋯,⋯,Zd⟩;refine⟨p3 _ Zd,p3 _ Zd,p3 _ Zd,p3 _ Zd,aT (av Zd),fun p H1 hp s1 h1=>?_⟩;have at0:Õ [V.int 1,V.int (10^Int.toNat 12),V.int (10^Int.toNat 24),V.int (10^Int.toNat 36),V.int (10^Int.toNat 48)] (j:Int)=some (.int (10^(12*j))):=by
  have:∀ j:Nat,j<=4->[V.int 1,V.int (10^Int.toNat 12),V.int (10^Int.toNat 24),V.int (10^Int.toNat 36),V.int (10^Int.toNat 48)][j]?=some (.int (10^(12*j))):=fun j h=>by
   match j,h with
   | 0,_=>rfl
   | 1,_=>rfl
   | 2,_=>rfl
   | 3,_=>rfl
   | 4,_=>rfl
  exact bb (this j hj)
 refine⟨_,_,.l h1,at0,?_⟩;symm;have pb:∀ i,i<5->(10:Int)^(12*i)<2^1000:=by nofun
 exact⟨⟨Int.pow_pos (show (0:Int)<10 by decide),pb j ⋯⟩,p3 _ Zd,Zd,k H1 s1⟩
def nz:Sp:=fun vs H Q _=>∃ (a:Int) (b:Nat),vs=[.int a,.int b]/\Q (.int (Int.gcd a b)) H
theorem nh:aJ ["_law_one","_law_other"] ["_law_one","_law_other"] (ax k9):=by subst_eqs
theorem uy (F:Å K "_law_divisor" "_law_divisor" k9 f fd) (T:Bl mg) (AF:Ç K mg Ad) :bF P w K mg base (Á P w) 1 f fd ["_law_one","_law_other"] nz:=by
 specialize nh;obtain⟨a,b,rfl,k⟩:=h;refine⟨_,ag (mR bU (aR (gS (K:=K) rfl hu) (À 1) aj (aU _)) (ao (Lo (i:=0) (j:=1) rfl nh.nd rfl rfl Zd rfl rfl (ah (À 1) (ah (aD b0 (À 0) (À 1)) af)) rfl))) (ao (aG (ay kM T.abs tJ (ah (À 0) af)))),?_⟩;ac_nf;refine xU (fun σ H'=>H'=H/\∃ (l:Int) (r:Nat),σ=[some (.int l),some (.int r)]/\Int.gcd l r=Int.gcd a b) (fun σ _=>match σ with | [_,some (.int r)]=>r.toNat | _=>0) ⟨rfl,a,b,rfl,rfl⟩ ?_;rintro σ H' ⟨rfl,l,r,rfl,hg⟩;ac_nf
 by_cases hr0:r=0
 ·subst hr0;rw[ai (by decide)];rw[←hg,show ((0:Nat):Int)=0 from rfl,Int.gcd_zero_right] at k;exact k
 ·have e:(!decide ((r:Int)=0))=true:=by simp [hr0]
  rw[aq e];refine⟨_,fun _ _ h=>h,⋯,⟨rfl,r,(l%r).toNat,?_,?_⟩,?_⟩
  ·rw[iI (b7 _ ⋯)]
  ·rw[←hg,iI (b7 _ ⋯),Int.gcd_comm,Int.emod_def,Int.gcd_sub_mul_left_left]
  ·show (l%(r:Int)).toNat<r;have h1:l%(r:Int)<r:=bJ _ ⋯;have h2:0<=l%(r:Int):=b7 _ ⋯;left
theorem LC:∀ i:Nat,i<26->(Str.ofString "abcdefghijklmnopqrstuvwxyz").cps.toList[i]?=some (97+i):=by nofun
noncomputable def wG (q b:Int) (m:Nat):Za:=(List.range m).map fun k:Nat=>97+((q+(k:Int)*b)%26).toNat
theorem Hr {q b:Int} (hm:m<=25) (hb:b∈[(1:Int),3,5,7,9,11,15,17,19,21,23,25]):(wG q b m).Nodup:=by
 unfold wG;refine nR.mpr (List.Pairwise.imp_of_mem (R:=(·<·)) (fun {i j} hi hj hij e=>?_) List.pairwise_lt_range);have hj':=cE.mp hj;have key:∀ s∈[(1:Int),3,5,7,9,11,15,17,19,21,23,25],∀ d,d<25->0<d->(((d:Nat):Int)*s)%26≠0:=by nofun
 refine key b hb (j-i) ⋯ (Nat.sub_pos_of_lt hij) ?_;have nn:∀ x:Int,(((x%26).toNat:Nat):Int)=x%26:=fun x=>iI (b7 x Zd);have e':(((q+(j:Int)*b)%26).toNat:Int)=(((q+(i:Int)*b)%26).toNat:Int):=bQ _ (Nat.add_left_cancel e).symm;rw[nn,nn] at e';have e':=vi.mp e'
 rwa [show q+(j:Int)*b-(q+(i:Int)*b)=(j:Int)*b-(i:Int)*b by left,←Int.sub_mul,←Int.ofNat_sub (aT hij)] at e'
theorem E6 {q b:Int}:∀ c∈wG q b m,97<=c/\c<123:=fun c hc=>by unfold wG at hc;obtain⟨k,_,rfl⟩:=aO.mp hc;have:=b7 (q+(k:Int)*b) (show (26:Int)≠0 by decide);have:=bJ (q+(k:Int)*b) (show (0:Int)<26 by decide);left
def m4:Sp:=fun vs H Q _=>∃ c:Int,vs=[.int c]/\∀ al H',aB H H'->⇑al∈[5,7,9,11,13,15,25]->al.Nodup->(∀ c∈al,97<=c/\c<123)->Q (.str (tx al)) H'
theorem gu:aJ ["_law_cell","_law_letters","_law_by","_law_m"] ["_law_cell"] (ax jy):=by subst_eqs
theorem sR (F:Å K "_law_alphabet" "_law_alphabet" jy f fd) (T:Bl mg) (AF:Ç K mg Ad) :bF P w K mg base (Á P w) 1 f fd ["_law_cell"] m4:=by
 specialize gu;obtain⟨c,rfl,k⟩:=h;refine⟨_,ag (i6 (i:=1) gu.nd bt) (ag (i6 (i:=2) gu.nd (bg (bN (K:=K) rfl) (cb (ah aj (ah aj (ah aj (ah aj (ah aj (ah aj (ah aj (ah aj (ah aj (ah aj (ah aj (ah aj af))))))))))))) (aD b0 (Ê 0) aj) (fun _ _=>rfl))) (ag (aA (i:=3) gu.nd (bg (bN (K:=K) rfl) (cb (ah aj (ah aj (ah aj (ah aj (ah aj (ah aj (ah aj af)))))))) (aD b0 (aD eS (Ê 0) aj) aj) (fun _ _=>rfl))) (ao (aG (cV (K:=K) rfl eZ nU nV (mJ (K:=K) rfl) bt (ah (fZ ["_law_k"] rfl ⟨rfl,by nofun,rfl,by nofun⟩ (.cons (j:=1) rfl (.inl (by ext)) (.cons (j:=0) rfl (.inl (by ext)) (.cons (j:=2) rfl (.inl (by ext)) (.nil)))) (by nofun) (dC T.range (ah (À 3) af)) (fun _ _ _ _=>aM (i:=0) (show (["_law_k","_law_letters","_law_cell","_law_by"]:Ze).Nodup from by nofun)) (fun _ _ _ _=>cZ) (fun _ _ _ _=>bg (bN (K:=K) rfl) (Ê 1) (aD b0 (aD aZ (aD eS (Ê 2) aj) (aD lU (À 0) (Ê 3))) aj) (fun _ _=>rfl))) af)))))),?_⟩;have big:∀ {u:Nat},u<=1000->u<=sizeLine:=fun hu=>aT (av ⋯);grind;cbv;grind;have pick:∀ (l:Zb) (x:Int),0<=x->x<⇑l->∃ v∈l,Õ (l.map V.int) x=some (.int v):=fun l x x0 x1=>by
  obtain⟨i,rfl⟩:=dm x0;have hi:i<⇑l:=⋯
  exact⟨l[i],cj hi,bb (by rw[aX,aC hi];rfl)⟩
 obtain⟨b,hb,eb⟩:=pick [1,3,5,7,9,11,15,17,19,21,23,25] (c%12) (b7 _ Zd) (bJ _ Zd);refine⟨big Zd,fun p1 H1 hp1 s1 h1=>⟨Zd,_,_,.l h1,eb,?_⟩⟩;cbv;grind;obtain⟨m0,hm0,em⟩:=pick [5,7,9,11,13,15,25] (c/12%7) (b7 _ Zd) (bJ _ Zd);obtain⟨m,rfl,hm⟩:∃ m:Nat,m0=(m:Int)/\m∈[5,7,9,11,13,15,25]:=by
  have:∀ x∈[(5:Int),7,9,11,13,15,25],x=(x.toNat:Int)/\x.toNat∈[5,7,9,11,13,15,25]:=by decide
  exact⟨m0.toNat,this m0 hm0⟩
 have m25:m<=25:=by
  have:∀ x∈[5,7,9,11,13,15,25],x<=25:=by decide
  exact this m hm
 refine⟨big Zd,fun p2 H2 hp2 s2 h2=>⟨⟨Zd,Zd⟩,Zd,_,_,.l h2,em,?_⟩⟩;cbv;symm;have b25:0<=b/\b<=25:=by
  have:∀ x∈[(1:Int),3,5,7,9,11,15,17,19,21,23,25],0<=x/\x<=25:=by decide
  exact this b hb
 refine⟨by rfl,⋯,⋯,ud V.int ja (Cp m) (by rw[Mk.BZ];exact av ⋯) (fun x=>.str (tx [97+((c/84+x*b)%26).toNat])) ?_ ?_⟩
 ·intro x hx G t R hR;obtain⟨x0,x1⟩:=Mk.lS.mp hx;have f0:=b7 (c/84+x*b) (show (26:Int)≠0 by decide);have f1:=bJ (c/84+x*b) (show (0:Int)<26 by decide);symm;refine⟨⟨Zd,Zd⟩,⟨eE (show x.natAbs<=1000 by left) Zd,eE (show b.natAbs<=1000 by left) Zd⟩,Zd,big Zd,97+((c/84+x*b)%26).toNat,e8 f0 (LC _ ⋯),hR G (aB.refl _)⟩
 intro D H3 hD s3 h3;have el:H3 D=some (.lst ((wG (c/84) b m).map fun c=>V.str (tx [c]))):=by rw[h3];unfold wG Mk.á;rw[bf,bf];rfl
 have ll:⇑(wG (c/84) b m)=m:=by unfold wG;rw[ak,bZ]
 symm;refine⟨(wG (c/84) b m).map fun c=>tx [c],F6 el,F5 ⋯,?_⟩;rw[BU];exact k _ H3 (s1.trans (s2.trans s3)) (by rw[ll];exact hm) (Hr m25 hb) E6
inductive fW (K:Zf) (vs:List V) (H:Hp) (Q:VK) (E:XK):Prop
 | mk (p q:Addr) (al z:Za) (ws:Zb) (r:Int) (t:Addr) (f:Flt) (q0:vs=[.ref p,.str (tx z),.ref t]) (q1:CA H p q al ws r) (q2:r6 al z) (q3:H t=some (.tup (vj f))) (q4:0<=f.n) (q5:Q (.str (tx (kN al z (some f)))) H):fW K vs H Q E
theorem cy:aJ ["_law_code_here","_law_word","_law_fault","_law_alphabet_here","_law_m","_law_q","_law_k","_law_place"] ["_law_code_here","_law_word","_law_fault"] (ax gA):=by subst_eqs
theorem oP (F:Å K "_law_made_another" "_law_made_another" gA f fd) (T:Bl mg) (AF:Ç K mg Ad) :bF P w K mg base (Á P w) 1 f fd ["_law_code_here","_law_word","_law_fault"] (fW K):=by
 specialize cy;obtain⟨p,q,al,z,ws,r,t,f,rfl,⟨hP,hPq⟩,ok,ht,hn,k⟩:=h;refine⟨_,ag (aA (i:=3) cy.nd (bg (bN (K:=K) rfl) (À 0) aj (fun _ _=>rfl))) (ag (aA (i:=4) cy.nd (ay (aH (K:=K) rfl) T.len bz (ah (À 3) af))) (ag (bG (aR (c6 (K:=K) rfl hu) (bg (bN (K:=K) rfl) (À 2) aj (fun _ _=>rfl)) bt (aU _)) (ag (aA (i:=5) cy.nd (aD eS (bg (bN (K:=K) rfl) (À 2) aj (fun _ _=>rfl)) (ay (aH (K:=K) rfl) T.len bz (ah (À 1) af)))) (ag (aA (i:=6) cy.nd (aD b0 (bg (bN (K:=K) rfl) (À 2) aj (fun _ _=>rfl)) (ay (aH (K:=K) rfl) T.len bz (ah (À 1) af)))) (ag (aA (i:=7) cy.nd (aD b0 (aD aZ (aD aZ (cV (K:=K) rfl eZ PySem.F.slot_str_index PySem.F.type_str_index rJ (À 3) (ah (bg (bN (K:=K) rfl) (À 1) (À 6) (fun _ _=>rfl)) af)) aj) (aD b0 (À 5) (aD fi (À 4) aj))) (À 4))) (ao (aG (aD aZ (aD aZ (cN (iq (K:=K) rfl) (À 1) fk (cM (À 6))) (bg (bN (K:=K) rfl) (À 3) (À 7) (fun _ _=>rfl))) (cN (iq (K:=K) rfl) (À 1) (cM (aD aZ (À 6) aj)) fk))))))) aV) (ag (aA (i:=6) cy.nd (aD b0 (bg (bN (K:=K) rfl) (À 2) aj (fun _ _=>rfl)) (aD fi (ay (aH (K:=K) rfl) T.len bz (ah (À 1) af)) aj))) (ao (aG (aD aZ (aD aZ (aD aZ (cN (iq (K:=K) rfl) (À 1) fk (cM (À 6))) (bg (bN (K:=K) rfl) (À 1) (aD aZ (À 6) aj) (fun _ _=>rfl))) (bg (bN (K:=K) rfl) (À 1) (À 6) (fun _ _=>rfl))) (cN (iq (K:=K) rfl) (À 1) (cM (aD aZ (À 6) aj)) fk))))))),?_⟩;have z3:=ok.z3;have z8:=ok.z8;have a3:=ok.a3;have a26:=ok.a26;have big:∀ {u:Nat},u<=100->u<=sizeLine:=fun hu=>aT (av ⋯);grind;refine⟨_,_,.t hP,bb (j:=0) rfl,?_⟩;cbv;grind;rw[bh];refine⟨big ⋯,?_⟩;cbv;grind;refine⟨_,_,.t ht,bb (j:=2) rfl,?_⟩;symm;obtain⟨f1,f2,fl,fn⟩:=f;cases fl with
 | true =>
  rw[aq (show decide (å true=Str.ofString "letter")=true from rfl)];have k':Q (V.str (tx (ä al z fn))) H:=k;clear k hN;have hn':0<=fn:=hn;obtain⟨i,hi⟩:=dm (b7 fn (show (⇑z:Int)≠0 by left));have hil:i<⇑z:=by have:=bJ fn (show 0<(⇑z:Int) by left);left
  unfold ä at k';rw[hi,cC] at k';refine cK fun n2 hM=>?_;symm;refine⟨_,_,.t ht,bb (j:=3) rfl,?_⟩;symm;rw[bh];refine⟨big ⋯,⟨⋯,Int.lt_trans (show (⇑z:Int)<100 by left) Zd⟩,?_⟩;rw[hM];clear hM n2;refine cK fun n2 hM=>?_;symm;refine⟨_,_,.t ht,bb (j:=3) rfl,?_⟩;symm;rw[bh];refine⟨big ⋯,⋯,?_⟩;rw[hi,hM];clear hM n2;have c0:z[i]?=some (z.getD i 0):=by rw[aK,aC hil];rfl
  have cm:z.getD i 0∈al:=ok.mem _ (bT c0);have l1:∀ c:Nat,⇑([c]:Za)=1:=fun _=>rfl;have e1:(i:Int)+1=((i+1:Nat):Int):=rfl;have lA:⇑(z.take i)=i:=by rw[cP];left
  have fo:Txt.find (tx al) ⟨#[z.getD i 0]⟩=((al.idxOf (z.getD i 0):Nat):Int):=by
   have:=tS (x:=tx al) (c:=z.getD i 0) (by rw[bW];exact cm)
   rwa [bW] at this
  have hb:∀ x:Int,0<=x%(⇑al:Int)/\x%(⇑al:Int)<⇑al:=fun x=>⟨b7 _ ⋯,bJ _ ⋯⟩;refine cK fun n2 hM=>?_;symm;simp only[bh,bW];refine⟨by rfl,big ⋯,_,bb c0,?_⟩;rw[fo];refine⟨⋯,⋯,⋯,?_⟩;generalize fn/(⇑z:Int)%((⇑al:Int)-1)=fu at k' ⊢;rw[show ((al.idxOf (z.getD i 0):Nat):Int)+1+fu=((al.idxOf (z.getD i 0):Nat):Int)+(fu+1) by left,hM];clear hM n2;symm;simp only[bh,bW,e1,kO,oj];refine⟨big ⋯,big ⋯,_,e8 (hb _).1 (Mk.getD_at (hb _)),?_⟩;simp only[xI,iW,bh,aE,l1,lA,cX];exact⟨big ⋯,big ⋯,big ⋯,k'⟩
 | false =>
  rw[ai (show ¬ decide (å false=Str.ofString "letter")=true from by decide)];have k':Q (V.str (tx (ã z fn))) H:=k;clear k;have hn':0<=fn:=hn;unfold ã at k';obtain⟨i,hi⟩:=dm (b7 fn (show (⇑z:Int)-1≠0 by left));have hil:i+1<⇑z:=by have:=bJ fn (show 0<(⇑z:Int)-1 by left);left
  rw[hi,cC] at k';show nn _ _ _;cbv;grind;refine⟨_,_,.t ht,bb (j:=3) rfl,?_⟩;symm;rw[bh];refine⟨big ⋯,⋯,?_⟩;rw[hi,hN];clear hN nn;symm;have c1:z[i+1]?=some (z.getD (i+1) 0):=by rw[aK,aC hil];rfl
  have c0:z[i]?=some (z.getD i 0):=by rw[aK,aC ⋯];rfl
  have l1:∀ c:Nat,⇑([c]:Za)=1:=fun _=>rfl;have e1:(i:Int)+1=((i+1:Nat):Int):=rfl;have e2:(i:Int)+2=((i+2:Nat):Int):=rfl;have lA:⇑(z.take i)=i:=by rw[cP];left
  simp only[bh,bW,e1,e2,kO,oj];refine⟨big ⋯,big ⋯,_,bb c1,?_,big ⋯,_,bb c0,?_,big ⋯,?_,?_⟩
  all_goals simp only[xI,iW,bh,aE,l1,lA,cX]
  ·exact big ⋯
  ·exact big ⋯
  ·exact big ⋯
  ·exact k'
def sE:Sp:=fun vs H Q _=>∃ (p:Addr) (ws:Zb) (m:Int),vs=[.ref p,.int m]/\H p=some (.lst (ws.map V.int))/\⇑ws<=1000/\∀ H',aB H H'->Q (.bl (Mk.safe m ws)) H'
theorem sv:aJ ["weights","m","differences"] ["weights","m"] (ax pG):=by subst_eqs
theorem yP (F:Å K "are_safe" "are_safe" pG f fd) (T:Bl mg) (AF:Ç K mg Ad) (C_common_divisor:Ä P w K mg base (Á P w) 1 "common_divisor" ["one","other"] ke):bF P w K mg base (Á P w) 2 f fd ["weights","m"] sE:=by
 specialize sv;obtain⟨p,ws,m,rfl,hp,hl,k⟩:=h;refine⟨_,ag (mQ (i:=2) ["ahead","behind"] sv.nd rfl (Or.inl rfl) rfl ⟨rfl,by nofun,rfl,by nofun⟩ (.nil) (by nofun) (tm (K:=K) rfl T.zip (ah (À 0) (ah (cN (iq (K:=K) rfl) (À 0) (cM aj) fk) af))) (fun _ _ _ _=>jW (K:=K) (n:=2) rfl rfl (cA (aM (i:=0) (show (["ahead","behind"]:Ze).Nodup from by nofun)) (cA (aM (i:=1) (show (["ahead","behind"]:Ze).Nodup from by nofun)) jc))) (fun _ _ _ _=>cZ) (fun _ _ _ _=>aD fi (À 1) (À 0))) (ao (aG (ay (ir (K:=K) rfl rfl) T.all pj (ah (fZ ["number"] rfl ⟨rfl,by nofun,rfl,by nofun⟩ (.cons (j:=1) rfl (.inl (by ext)) (.nil)) (by nofun) (cG (K:=K) rfl (aD aZ (À 0) (À 2))) (fun _ _ _ _=>aM (i:=0) (show (["number","m"]:Ze).Nodup from by nofun)) (fun _ _ _ _=>cZ) (fun _ _ _ _=>cT (c6 (K:=K) rfl hu) (a8 C_common_divisor fg (hr.mono Zd) (ah (À 0) (ah (Ê 1) af))) aj (aU _))) af)))),?_⟩;ac_nf;refine⟨_,.of hp,fun q H1 hq s1 h1=>?_⟩;have hp1:H1 p=some (.lst (ws.map V.int)):=s1 _ _ hp;have ec:m7 (ws.map V.int) (some 1) none=(ws.drop 1).map V.int:=by rw[show (1:Int)=((1:Nat):Int) from rfl,rA,nO]
 rw[ec] at h1;refine⟨⟨_,.of hp1⟩,⟨_,.of h1⟩,Mb V.int V.int ja ja (.of hp1) (.of h1) (av ⋯) (fun a b=>.int (b-a)) ?_ ?_⟩
 ·intro a b hab H' s' R hR;ac_nf;exact hR H' (aB.refl _)
 ·intro D H2 hD s2 h2;have e2:H2 D=some (.lst ((Mk.è ws).map V.int)):=by rw[h2];unfold Mk.è;rw[bf];rfl
  have hp2:H2 p=some (.lst (ws.map V.int)):=s2 _ _ hp1;have ldif:⇑(Mk.è ws)<=1000:=by unfold Mk.è;rw[ak,List.length_zip];left
  ac_nf;refine⟨_,_,hp2,e2,?_,fun r H3 hr s3 h3=>.inl ⟨⟨_,.of h3⟩,?_⟩⟩
  ·rw[ak,ak];exact aT (av ⋯)
  ·rw[←bD] at h3;refine ud (xs:=ws++Mk.è ws) V.int ja (eU (.of h3)) (by rw[aE];exact av ⋯) (fun n=>.bl (Mk.Í m n)) ?_ ?_
   ·intro n hn H' s' R hR;ac_nf;refine⟨n,m,rfl,?_⟩;have e:decide (((Int.gcd n m:Nat):Int)=1)=Mk.Í m n:=by
     unfold Mk.Í
     by_cases h:Int.gcd n m=1
     ·rw[a9 h];exact a9 ⋯
     ·rw[aF h];exact aF ⋯
    show R (V.bl (decide (((Int.gcd n m:Nat):Int)=1))) H';rw[e];exact hR H' (aB.refl _)
   ·intro D' H4 hD' s4 h4;refine⟨D',(ws++Mk.è ws).map (Mk.Í m),rfl,.of (by rw[h4,bf];rfl),?_⟩;have ea:(((ws++Mk.è ws).map (Mk.Í m)).all id)=Mk.safe m ws:=by unfold Mk.safe;rw[ia];rfl
    rw[ea];exact k H4 (s1.trans (s2.trans (s3.trans s4)))
noncomputable def c9 (b:Int):V->Bool
 | .int i=>decide (0<=i)&&decide (i<b)
 | _=>false
def gH:Sp:=fun vs H Q _=>∃ (x:V) (t:Tg) (b:Int),vs=[x,.int b]/\gb H x=some t/\Q (.bl (c9 b x)) H
theorem yS (F:Å K "is_below" "is_below" pJ f fd) (T:Bl mg) (AF:Ç K mg Ad) (C_is_whole:Ä P w K mg base (Á P w) 1 "is_whole" ["thing"] sF):bF P w K mg base (Á P w) 2 f fd ["thing","bound"] gH:=by
 exists["thing","bound"];obtain⟨x,t,b,rfl,ht,k⟩:=h;refine⟨_,ao (aG (pC (a8 C_is_whole az (hr.mono Zd) (ah (À 0) af)) (mP (Ge iQ rM aj (À 0) (À 1))))),?_⟩
 by_cases hs:∃ i,x=.int i
 ·obtain⟨i,rfl⟩:=hs;cases ht;ac_nf;refine⟨_,Tg.int,rfl,rfl,?_⟩;ac_nf;have ek:c9 b (.int i)=(decide (0<=i)&&decide (i<b)):=rfl;rw[ek] at k;rw[aq (by simp)];cases h0:decide (0<=i) with
  | false=>rw[h0,jj] at k;bv_omega;exact k
  | true=>rw[h0,eQ] at k;bv_omega;exact k
 ·have hv:c9 b x=false:=by
   cases x with
   | int i=>exact absurd ⟨i,rfl⟩ hs
   | _=>rfl
  have hne:t≠Tg.int:=fun e=>by
   subst e;cases x with
   | int i=>exact hs ⟨i,rfl⟩
   | ref a =>
    have h':mn (H a)=some .int:=ht;cases e:H a with
    | none=>rw[e] at h';cases h'
    | some o=>rw[e] at h';cases o with
     | frz ob u=>cases u<;>cases h'
     | _=>cases h'
   | _=>cases ht
  rw[hv] at k;ac_nf;refine⟨x,t,rfl,ht,?_⟩;ac_nf;rw[aF hne];bv_omega;exact k
noncomputable def jT (al:Str) (ws:Zb) (r:Int):V->Bool
 | .str z=>Mk.cL al.cps.toList ws r z.cps.toList
 | _=>false
inductive pW (vs:List V) (H:Hp) (Q:VK) (E:XK):Prop
 | mk (al:Str) (p:Addr) (ws:Zb) (r:Int) (x:V) (t:Tg) (q0:vs=[.str al,.ref p,.int r,x]) (q1:H p=some (.lst (ws.map V.int))) (q2:⇑ws<=1000) (q3:0<⇑al) (q4:⇑al<=1000) (q5:Mk.ð ws) (q6:gb H x=some t) (q7:(∀ z,x=.str z->⇑z<=100000)) (q8:∀ H',aB H H'->Q (.bl (jT al ws r x)) H'):pW vs H Q E
theorem AG (F:Å K "is_good" "is_good" rR f fd) (T:Bl mg) (AF:Ç K mg Ad) (C_are_good:Ä P w K mg base (Á P w) 1 "are_good" ["m","weights","rest","places"] kc) (C_places_of:Ä P w K mg base (Á P w) 1 "places_of" ["alphabet","word"] ml) (C_is_word:Ä P w K mg base (Á P w) 1 "is_word" ["alphabet","length","thing"] pX):bF P w K mg base (Á P w) 2 f fd ["alphabet","weights","rest","word"] pW:=by
 exists["alphabet","weights","rest","word"];obtain⟨al,p,ws,r,x,t,rfl,hp,hwl,ha0,ha,hsm,ht,hz,k⟩:=h;refine⟨_,ag (bG (c8 (cx (a8 C_is_word az (hr.mono Zd) (ah (À 0) (ah (ay (aH (K:=K) rfl) T.len bz (ah (À 1) af)) (ah (À 3) af)))))) (ao (aG iD)) aV) (ao (aG (a8 C_are_good az (hr.mono Zd) (ah (ay (aH (K:=K) rfl) T.len bz (ah (À 0) af)) (ah (À 1) (ah (À 2) (ah (a8 C_places_of az (hr.mono Zd) (ah (À 0) (ah (À 3) af))) af))))))),?_⟩;ac_nf;refine⟨_,.l hp,?_⟩;rw[ak];refine⟨al,_,x,t,rfl,ht,hz,fun H1 s1=>?_⟩;have h1p:H1 p=some (.lst (ws.map V.int)):=s1 _ _ hp;ac_nf;cases hw:ou al ⇑ws x with
 | false =>
  have e:jT al ws r x=false:=by
   cases x with
   | str z =>show (Mk.dN al.cps.toList ⇑ws z.cps.toList&&_)=false;rw[show Mk.dN al.cps.toList ⇑ws z.cps.toList=false from hw,jj]
   | _=>rfl
  rw[e] at k;exact k H1 s1
 | true =>
  cases x with
  | str z =>
   have hw':Mk.dN al.cps.toList ⇑ws z.cps.toList=true:=hw;obtain⟨hw1,hw2⟩:=Mk.tX.mp hw';have hzl:⇑z.cps.toList<=1000:=⋯
   bv_omega;refine⟨aT (av ⋯),al,z,rfl,by rw[dE];left,hw2,fun q H2 hq s2 h2=>?_⟩;have h2p:H2 p=some (.lst (ws.map V.int)):=s2 _ _ h1p;ac_nf;refine⟨_,p,ws,r,q,_,rfl,⋯,h2p,h2,⋯,hsm,Mk.Ls (Mk.Cg hw2) (by rw[dE] at ha;left),fun H3 s3=>?_⟩;have e:jT al ws r (.str z)=Mk.good ⇑al ws r (Mk.Û al.cps.toList z.cps.toList):=by show (Mk.dN al.cps.toList ⇑ws z.cps.toList&&Mk.good ⇑al.cps.toList ws r _)=_;rw[hw',eQ,←dE]
   rw[e] at k;exact k H3 (s1.trans (s2.trans s3))
  | _=>cases hw
def mi:Sp:=fun vs H Q _=>∃ (x:V) (t:Tg) (n:Nat),vs=[x,.int n]/\gb H x=some t/\(∀ z,x=.str z->⇑z<=10000)/\n<=1000/\∀ H',aB H H'->Q (.bl (i5 n x)) H'
theorem qE:aJ ["thing","most","words"] ["thing","most"] (ax mV):=by subst_eqs
theorem xm (F:Å K "are_words" "are_words" mV f fd) (T:Bl mg) (AF:Ç K mg Ad) (C_are_letters:Ä P w K mg base (Á P w) 1 "are_letters" ["thing","most"] j7):bF P w K mg base (Á P w) 2 f fd ["thing","most"] mi:=by
 specialize qE;obtain⟨x,t,n,rfl,ht,hz,hn,k⟩:=h;refine⟨_,ag (bG (c8 (cx (ay (dG .str) T.isinstance bt_isinstance (ah (À 0) (ah (iR T.str tK) af))))) (ao (aG iD)) aV) (ag (aA (i:=2) qE.nd (cV (K:=K) rfl eZ qZ rf qp (À 0) (ah bt af))) (ao (aG (pC (cT iQ (ay (aH (K:=K) rfl) T.len bz (ah (À 2) af)) (À 1) (aU _)) (mP (ay (ir (K:=K) rfl rfl) T.all pj (ah (fZ ["word"] rfl ⟨rfl,by nofun,rfl,by nofun⟩ (.nil) (by nofun) (cG (K:=K) rfl (À 2)) (fun _ _ _ _=>aM (i:=0) (show (["word"]:Ze).Nodup from by nofun)) (fun _ _ _ _=>cZ) (fun _ _ _ _=>a8 C_are_letters fg (hr.mono Zd) (ah (À 0) (ah (dB AF.v_LONGEST_WORD) af)))) af))))))),?_⟩
 by_cases hs:∃ z,x=.str z
 ·obtain⟨z,rfl⟩:=hs;cases ht;have hl:=hz z rfl;have hc:=dE z;have ek:i5 n (.str z)=gO n z.cps.toList:=rfl;ac_nf;refine⟨trivial,Tg.str,rfl,?_⟩;ac_nf;obtain⟨sl1,sl2⟩:=Mk.va (c:=32) z.cps.toList;refine⟨rfl,⋯,32,rfl,fun p H1 hp s1 h1=>⟨_,.l h1,?_⟩⟩;rw[ak]
  by_cases h2:⇑(Mk.bB 32 z.cps.toList)<=n
  ·rw[a9 (show (⇑(Mk.bB 32 z.cps.toList):Int)<=(n:Int) by left)];bv_omega;refine .inl ⟨⟨_,.of h1⟩,ud (fun w:Za=>V.str (tx w)) (fun a b e=>vg (V.str.inj e)) (eU (.of h1)) (av ⋯) (fun w=>.bl (eL 20 w)) ?_ ?_⟩
   ·intro w hw H2 s2 R hR;have hwl:=sl2 w hw;ac_nf;refine⟨_,Tg.str,20,rfl,rfl,(fun y e=>by cases e;rw[bh];left),Zd,fun H3 s3=>?_⟩;have e:gN 20 (.str (tx w))=eL 20 w:=by show eL 20 (tx w).cps.toList=_;rw[bW]
    rw[e];exact hR H3 s3
   ·intro D H2 hD s2 h2';refine⟨D,(Mk.bB 32 z.cps.toList).map (eL 20),rfl,.of (by rw[h2',bf];rfl),?_⟩;have e:((Mk.bB 32 z.cps.toList).map (eL 20)).all id=i5 n (.str z):=by
     rw[ek];unfold gO;rw[a9 h2,ia];rfl
    rw[e];exact k H2 (s1.trans s2)
  ·have e:i5 n (.str z)=false:=by rw[ek];unfold gO;rw[aF h2];rfl
   rw[e] at k;rw[aF (show ¬ (⇑(Mk.bB 32 z.cps.toList):Int)<=(n:Int) by left)];bv_omega;exact k H1 s1
 ·have hv:i5 n x=false:=by
   cases x with
   | str z=>exact absurd ⟨z,rfl⟩ hs
   | _=>rfl
  have hne:=qJ ht fun z e=>hs ⟨z,e⟩;rw[hv] at k;ac_nf;refine⟨trivial,t,ht,?_⟩;cases t<;>first
   | exact absurd rfl hne
   | exact k H (aB.refl _)
inductive gx (Ad:Ë) (vs:List V) (H:Hp) (Q:VK) (E:XK):Prop
 | mk (ca q:Addr) (al:Za) (ws:Zb) (r:Int) (gs:Zb) (q0:vs=[.ref ca,.ref q]) (q1:cF Ad H ca al ws r) (q2:cw al ws r) (q3:H q=some (.lst (gs.map V.int))) (q4:∀ H',aB H H'->Q (.int ((gs.sum+(⇑gs:Int))%dj al ws)) H'):gx Ad vs H Q E
theorem sP (F:Å K "check_number" "check_number" jw f fd) (T:Bl mg) (AF:Ç K mg Ad) (M_Code_many:Ð P w K mg base (Á P w) Ad.Code "many" 1 ["self"] (fT Ad)):bF P w K mg base (Á P w) 2 f fd ["code","groups"] (gx Ad):=by
 exists["code","groups"];obtain⟨ca,q,al,ws,r,gs,rfl,C,ok,hq,k⟩:=h;refine⟨_,ao (aG (aD b0 (aD aZ (ay (vF (K:=K) rfl rfl) T.sum EM (ah (À 1) af)) (ay (aH (K:=K) rfl) T.len bz (ah (À 1) af))) (cY M_Code_many az (hr.mono Zd) (À 0)))),?_⟩;obtain⟨dc,qc,hc1,hc2⟩:=id C;have a3:=ok.a3;have w3:=ok.w3;have hmany:0<dj al ws:=Int.pow_pos ⋯;symm;refine⟨q,gs,rfl,.of hq,_,.l hq,?_⟩;rw[ak];symm;refine⟨dc,_,hc1,c5 Zd Zd Zd al qc r,ca,al,ws,r,rfl,C,ok.a26,⋯,ok.w8,fun G1 t1=>?_⟩;have em:(⇑al:Int)^(⇑ws-1)=dj al ws:=rfl;rw[em];symm;exact⟨hmany,k G1 t1⟩
inductive iU (Ad:Ë) (vs:List V) (H:Hp) (Q:VK) (E:XK):Prop
 | mk (ca q:Addr) (al:Za) (ws:Zb) (r:Int) (zs:List Za) (q0:vs=[.ref ca,.ref q]) (q1:cF Ad H ca al ws r) (q2:H q=some (.lst (zs.map È))) (q3:2<=⇑zs) (q4:⇑zs<=1000) (q5:(∀ z∈zs,Mk.dN al ⇑ws z=true)) (q6:(∀ z∈zs,⇑z<=8)) (q7:∀ H',aB H H'->Q (.bl true) H'):iU Ad vs H Q E
theorem my:aJ ["code","thing","length"] ["code","thing"] (ax ju):=by subst_eqs
theorem sN (F:Å K "are_words_of" "are_words_of" ju f fd) (T:Bl mg) (AF:Ç K mg Ad) (C_is_word:Ä P w K mg base (Á P w) 1 "is_word" ["alphabet","length","thing"] pX) (M_Code_alphabet:Ð P w K mg base (Á P w) Ad.Code "alphabet" 1 ["self"] (iz Ad)) (M_Code_weights:Ð P w K mg base (Á P w) Ad.Code "weights" 1 ["self"] (mz Ad)):bF P w K mg base (Á P w) 2 f fd ["code","thing"] (iU Ad):=by
 specialize my;obtain⟨ca,q,al,ws,r,zs,rfl,C,hq,z2,zm,hz,hz8,k⟩:=h;refine⟨_,ag (bG ((iE (c8 (cx (ay (dG .lst) T.isinstance bt_isinstance (ah (À 1) (ah (iR T.list fP) af))))) (gW (c8 (qz iQ iQ (dB AF.v_FEWEST_CAME) (ay (aH (K:=K) rfl) T.len bz (ah (À 1) af)) (dB AF.v_MOST_CAME))))).pt) (ao (aG iD)) aV) (ag (i6 (i:=2) my.nd (ay (aH (K:=K) rfl) T.len bz (ah (cY M_Code_weights az (hr.mono Zd) (Ê 0)) af))) (ao (aG (ay (ir (K:=K) rfl rfl) T.all pj (ah (fZ ["word"] rfl ⟨rfl,by nofun,rfl,by nofun⟩ (.cons (j:=2) rfl (.inl (by ext)) (.cons (j:=0) rfl (.inl (by ext)) (.nil))) (by nofun) (cG (K:=K) rfl (À 1)) (fun _ _ _ _=>aM (i:=0) (show (["word","length","code"]:Ze).Nodup from by nofun)) (fun _ _ _ _=>cZ) (fun _ _ _ _=>a8 C_is_word fg (hr.mono Zd) (ah (cY M_Code_alphabet fg (hr.mono Zd) (Ê 2)) (ah (Ê 1) (ah (À 0) af))))) af))))),?_⟩;grind;refine⟨trivial,Tg.lst,(show mn (H q)=some .lst by rw[hq];rfl),?_⟩;symm;refine⟨_,.l hq,?_⟩;rw[ak,a9 (show (2:Int)<=(⇑zs:Int) by left)];bv_omega;rw[a9 (show (⇑zs:Int)<=1400 by left)];bv_omega;show nn _ _ _;cbv;obtain⟨dc,qc,hc1,hc2⟩:=id C;grind;refine⟨dc,_,hc1,c5 Zd Zd Zd al qc r,ca,al,ws,r,rfl,C,fun p1 H1 hp1 s1 h1=>⟨_,.l h1,?_⟩⟩;rw[ak,hN];clear hN nn;symm;have hq1:=s1 _ _ hq;refine .inl ⟨⟨_,.of hq1⟩,A3 (xs:=zs.map È) (eU (.of hq1)) (av (by rw[ak];left)) (fun _=>.bl true) ?_ ?_⟩
 ·intro y hy H2 s2 R hR;obtain⟨z,hzm,rfl⟩:=aO.mp hy;have C2:=C.same (s1.trans s2);obtain⟨dc2,qc2,hc21,hc22⟩:=id C2;unfold È;symm;refine⟨dc2,_,hc21,c5 Zd Zd Zd al qc2 r,ca,al,ws,r,rfl,C2,?_⟩;refine⟨tx al,⇑ws,.str (tx z),.str,rfl,rfl,(fun u eu=>by rw[←V.str.inj eu,bh];have:=hz8 z hzm;left),fun H3 s3=>?_⟩;have e:ou (tx al) ⇑ws (.str (tx z))=true:=by
   show Mk.dN (tx al).cps.toList ⇑ws (tx z).cps.toList=true;rw[bW,bW];exact hz z hzm
  rw[e];exact hR H3 s3
 ·intro D H2 hD s2 h2';refine⟨D,(zs.map È).map fun _=>true,rfl,.of (by rw[h2',bf,bf,bf];rfl),?_⟩;have e:((zs.map È).map fun _=>true).all id=true:=by simp
  rw[e];exact k H2 (s1.trans s2)
inductive mj (Ad:Ë) (vs:List V) (H:Hp) (Q:VK) (E:XK):Prop
 | mk (a:Addr) (al z:Za) (ws:Zb) (r n:Int) (q0:vs=[.ref a,.str (tx z),.int n]) (q1:cF Ad H a al ws r) (q2:r6 al z) (q3:0<=n) (q4:Q (.str (tx (ä al z n))) H):mj Ad vs H Q E
theorem gZ:aJ ["code","word","number","alphabet","m","at","further"] ["code","word","number"] (ax mX):=by subst_eqs
theorem xp (F:Å K "exchanged" "exchanged" mX f fd) (T:Bl mg) (AF:Ç K mg Ad) (M_Code_alphabet:Ð P w K mg base (Á P w) Ad.Code "alphabet" 1 ["self"] (iz Ad)):bF P w K mg base (Á P w) 2 f fd ["code","word","number"] (mj Ad):=by
 specialize gZ;obtain⟨a,al,z,ws,r,n,rfl,hC,ok,hn,k⟩:=h;refine⟨_,ag (aA (i:=3) gZ.nd (cY M_Code_alphabet az (hr.mono Zd) (À 0))) (ag (aA (i:=4) gZ.nd (ay (aH (K:=K) rfl) T.len bz (ah (À 3) af))) (ag (aA (i:=5) gZ.nd (aD b0 (À 2) (ay (aH (K:=K) rfl) T.len bz (ah (À 1) af)))) (ag (aA (i:=6) gZ.nd (aD aZ (aD b0 (aD eS (À 2) (ay (aH (K:=K) rfl) T.len bz (ah (À 1) af))) (aD fi (À 4) aj)) aj)) (ao (aG (aD aZ (aD aZ (cN (iq (K:=K) rfl) (À 1) fk (cM (À 5))) (bg (bN (K:=K) rfl) (À 3) (aD b0 (aD aZ (cV (K:=K) rfl eZ PySem.F.slot_str_index PySem.F.type_str_index rJ (À 3) (ah (bg (bN (K:=K) rfl) (À 1) (À 5) (fun _ _=>rfl)) af)) (À 6)) (À 4)) (fun _ _=>rfl))) (cN (iq (K:=K) rfl) (À 1) (cM (aD aZ (À 5) aj)) fk))))))),?_⟩;grind;obtain⟨dx,q,h1,h2⟩:=id hC;refine⟨dx,_,h1,c5 Zd Zd Zd al q r,a,al,ws,r,rfl,hC,?_⟩;cbv;have z3:=ok.z3;have z8:=ok.z8;have a3:=ok.a3;have a26:=ok.a26;have big:∀ {u:Nat},u<=100->u<=sizeLine:=fun hu=>aT (av ⋯);grind;refine⟨by rw[bh];exact big ⋯,?_⟩;rw[bh,hN];clear hN nn;grind;rw[bh];refine⟨big ⋯,⋯,?_⟩;obtain⟨i,hi⟩:=dm (b7 n (show (⇑z:Int)≠0 by left));have hil:i<⇑z:=by have:=bJ n (show 0<(⇑z:Int) by left);left
 rw[hi,hN];clear hN nn;grind;rw[bh];refine⟨big ⋯,⟨⋯,Int.lt_trans (show (⇑z:Int)<100 by left) Zd⟩,⋯,?_⟩;unfold ä at k;rw[hi,cC] at k;generalize n/(⇑z:Int)%((⇑al:Int)-1)+1=fu at k;cbv;symm;have c0:z[i]?=some (z.getD i 0):=by rw[aK,aC hil];rfl
 have cm:z.getD i 0∈al:=ok.mem _ (bT c0);have l1:∀ c:Nat,⇑([c]:Za)=1:=fun _=>rfl;have e1:(i:Int)+1=((i+1:Nat):Int):=rfl;have lA:⇑(z.take i)=i:=by rw[cP];left
 have fo:Txt.find (tx al) ⟨#[z.getD i 0]⟩=((al.idxOf (z.getD i 0):Nat):Int):=by
  have:=tS (x:=tx al) (c:=z.getD i 0) (by rw[bW];exact cm)
  rwa [bW] at this
 have hb:∀ x:Int,0<=x%(⇑al:Int)/\x%(⇑al:Int)<⇑al:=fun x=>⟨b7 _ ⋯,bJ _ ⋯⟩;simp only[bh,bW,e1,kO,oj];refine⟨big ⋯,by rfl,big ⋯,_,bb c0,?_⟩;rw[fo];refine⟨⋯,⋯,big ⋯,_,e8 (hb _).1 (Mk.getD_at (hb _)),?_⟩;simp only[xI,iW,bh,aE,l1,lA,cX];exact⟨big ⋯,big ⋯,big ⋯,k⟩
inductive eO (Ad:Ë) (vs:List V) (H:Hp) (Q:VK) (E:XK):Prop
 | mk (b ca dn de f:Addr) (es:List Æ) (al:Za) (ws:Zb) (r n:Int) (q0:vs=[.ref b,.ref f]) (q1:du Ad H b ca dn de es) (q2:cF Ad H ca al ws r) (q3:cw al ws r) (q4:rq uc Ad.tb H f) (q5:zF (es.map (·.num)) n) (q6:n<dj al ws) (q7:∀ H',aB H H'->Q (.int n) H'):eO Ad vs H Q E
theorem gB:aJ ["self","is_barred","k"] ["self","is_barred"] (ax gX):=by subst_eqs
theorem pB (F:Å K "least_free" "Book.least_free" gX f fd) (T:Bl mg) (AF:Ç K mg Ad) (M_Code_many:Ð P w K mg base (Á P w) Ad.Code "many" 1 ["self"] (fT Ad)):bF P w K mg base (Á P w) 2 f fd ["self","is_barred"] (eO Ad):=by
 refine F.â (k:=1) gB ?_ (fun cdv A outer s H vs Q E hr h=>?_)
 ·bv_decide
 ·obtain⟨b,ca,dn,de,f,es,al,ws,r,n,rfl,B,C,ok,Fb,Lf,hn,k⟩:=h;obtain⟨dx,h1⟩:=B.bk;have hu:=hr.iX;have hu1:=mF hr;refine⟨_,ag (aA (i:=2) gB.nd aj) (ag (mR bU ((iE (aR (mL (K:=K) rfl hu1) (À 2) (cz (K:=K) rfl (À 0)) (by ext)) (gW (cx (uD (q:=uc) (Pt:=Ad.tb) (À 1) hr (ah (À 2) af))))).pt) (ao (aA (i:=2) gB.nd (aD aZ (À 2) aj)))) (ag (bG (aR FX (À 2) (cY M_Code_many az (hr.mono Zd) (cz (K:=K) rfl (À 0))) (aU _)) (ao (dO dW AF.q_TooMany AF.g_TooMany da rfl (ah bt af))) aV) (ao (aG (À 2))))),?_⟩;grind;cbv;grind;refine xU (fun σ H'=>∃ k:Int,0<=k/\k<=n/\σ=[some (V.ref b),some (V.ref f),some (V.int k)]/\H'=H) (fun σ _=>match σ with | [_,_,some (V.int k)]=>(n-k).toNat | _=>0) ⟨0,Zd,Lf.1,rfl,rfl⟩ ?_;rintro σ H' ⟨j,j0,jn,rfl,rfl⟩;symm;refine⟨_,dx,_,_,h1,AF.c_Book,AF.n_Book_by_number,kL ca dn de,?_⟩;refine .inr ⟨_,.inl ⟨_,.inl j,.inl B.hn,rfl,rfl⟩,?_⟩;rw[FT B.nn]
  by_cases hm:j∈es.map (·.num)
  ·rw[a9 hm,aq rfl];have jl:j≠n:=fun e=>Lf.2.1 (by rw[←e];exact hm);refine⟨fun σ G=>σ=[some (V.ref b),some (V.ref f),some (V.int (j+1))]/\G=H',?_,rfl,rfl⟩;rintro σ G ⟨rfl,rfl⟩;exact⟨⟨j+1,⋯,⋯,rfl,rfl⟩,show (n-(j+1)).toNat<(n-j).toNat by left⟩
  ·rw[aF hm,ai (by decide)];have je:j=n:=by
    rcases Int.lt_or_eq_of_le jn with h | h
    ·exact absurd (Lf.2.2 j j0 h) hm
    ·exact h
   subst je;refine⟨Fb,Fb,trivial,?_⟩;cbv;obtain⟨dc,qc,hc1,hc2⟩:=id C;grind;refine⟨_,dx,_,_,h1,AF.c_Book,AF.n_Book_basis,jS ca dn de,?_⟩;refine⟨dc,_,hc1,c5 Zd Zd Zd al qc r,ca,al,ws,r,rfl,C,ok.a26,by have:=ok.w3;left,ok.w8,fun G1 t1=>?_⟩;symm;rw[aF (show ¬ (⇑al:Int)^(⇑ws-1)<=j by have:j<(⇑al:Int)^(⇑ws-1):=hn;left)];bv_omega;show nn _ _ _;cbv;symm;exact k G1 t1
def nA:Sp:=fun vs H Q _=>∃ (c:Int) (m n:Nat),vs=[.int m,.int c,.int n]/\3<=m/\m<=26/\m%2=1/\n<=8/\∀ p ws H',H p=none->aB H H'->H' p=some (.lst (ws.map V.int))->⇑ws=n->(∀ x∈ws,0<=x/\x<(m:Int))->Mk.safe m ws=true->Q (.ref p) H'
theorem cW:aJ ["_law_m","_law_cell","_law_length","_law_weights_here","_law_k","_law_start","_law_step","_law_one","_law_apart"] ["_law_m","_law_cell","_law_length"] (ax kB):=by subst_eqs
theorem uA (F:Å K "_law_weights" "_law_weights" kB f fd) (T:Bl mg) (AF:Ç K mg Ad) (C_law_divisor:Ä P w K mg base (Á P w) 1 "_law_divisor" ["_law_one","_law_other"] nz):bF P w K mg base (Á P w) 2 f fd ["_law_m","_law_cell","_law_length"] nA:=by
 specialize cW;obtain⟨c,m,n,rfl,m3,m26,mo,n8,k⟩:=h;refine⟨_,ag (aA (i:=3) cW.nd (cb af)) (ag (eA bU rfl (dC T.range (ah (À 2) af)) (aM (i:=4) cW.nd) (ag (aA (i:=5) cW.nd (aD b0 (aD eS (À 1) (aD aZ (À 4) aj)) (À 0))) (ao (eA bU rfl (dC T.range (ah (À 0) af)) (aM (i:=6) cW.nd) (ag (aA (i:=7) cW.nd (aD b0 (aD aZ (À 5) (À 6)) (À 0))) (ag (aA (i:=8) cW.nd aj) (ag (bG (aR AN (À 4) aj (aU _)) (ao (aA (i:=8) cW.nd (aD fi (À 7) (bg (bN (K:=K) rfl) (À 3) (aD fi (À 4) aj) (fun _ _=>rfl))))) aV) (ao (bG ((uL (aR (c6 (K:=K) rfl hu) (ay (aH (K:=K) rfl) T.len bz (ah (À 3) af)) (À 4) (aU _)) (uL (aR (c6 (K:=K) rfl hu) (a8 C_law_divisor az (hr.mono Zd) (ah (À 7) (ah (À 0) af))) aj (aU _)) (tp (aR (c6 (K:=K) rfl hu) (a8 C_law_divisor az (hr.mono Zd) (ah (À 8) (ah (À 0) af))) aj (aU _))))).pt) (ao (eM (cV (K:=K) rfl eF fK fL dI (À 3) (ah (À 7) af)))) aV))))))))) (ao (aG (À 3)))),?_⟩;grind;refine⟨br _,fun p H1 hp s1 h1=>?_⟩;cbv;grind;refine⟨⋯,⋯,?_⟩;refine fz (n:=n) (fun i σ H'=>∃ (fnd:Zb) (o4 o5 o6 o7 o8:Option V),σ=[some (.int m),some (.int c),some (.int n),some (.ref p),o4,o5,o6,o7,o8]/\⇑fnd=i/\aB H H'/\H' p=some (.lst (fnd.map V.int))/\(∀ x∈fnd,0<=x/\x<(m:Int))/\Mk.safe m fnd=true) ?_ ?_ ?_
 ·exact⟨[],none,none,none,none,none,rfl,rfl,s1,h1,fun x hx=>(by cases hx),rfl⟩
 ·rintro i σ H2 hi ⟨fnd,o4,o5,o6,o7,o8,rfl,hlen,s2,h2,hb,hs⟩ N hNx;clear hN;rw[fX,fG];refine cK fun n2 hM=>?_;symm;refine⟨⟨⋯,Int.lt_of_lt_of_le (show (i:Int)+1<1000 by left) Zd⟩,⋯,?_⟩;have st0:=b7 (c/((i:Int)+1)) (show (m:Int)≠0 by left);have st1:=bJ (c/((i:Int)+1)) (show 0<(m:Int) by left);generalize c/((i:Int)+1)%(m:Int)=st at st0 st1;rw[hM];clear hM n2;obtain⟨tst,htst⟩:∃ tst:Int->Bool,∀ w,tst w=(Mk.Í m w&&(fnd.isEmpty||Mk.Í m (w-fnd.getLastD 0))):=⟨_,fun _=>rfl⟩;symm;refine⟨⋯,(by omega),?_⟩;refine fz (n:=m) (fun j σ G=>∃ (g:Zb) (o6 o7 o8:Option V),σ=[some (.int m),some (.int c),some (.int n),some (.ref p),some (.int (i:Int)),some (.int st),o6,o7,o8]/\aB H G/\G p=some (.lst (g.map V.int))/\((g=fnd/\∀ j':Nat,j'<j->tst ((st+(j':Int))%(m:Int))=false)∨∃ x,g=fnd++[x]/\(0<=x/\x<(m:Int))/\tst x=true)) ?_ ?_ ?_
  ·exact⟨fnd,_,_,_,rfl,s2,h2,.inl ⟨rfl,fun j' h=>⋯⟩⟩
  ·rintro j σ G hj ⟨g,o6,o7,o8,rfl,sG,hG,hg⟩ N2 hN2;clear hNx;rw[fX,fG];refine cK fun n2 hM=>?_;symm;refine⟨⋯,?_⟩;rw[hM];clear hM n2;refine cK fun n2 hM=>?_;symm;rw[hM];clear hM n2;have w0:=b7 (st+(j:Int)) (show (m:Int)≠0 by left);have w1:=bJ (st+(j:Int)) (show 0<(m:Int) by left);refine BE (fun σ G2=>G2=G/\∃ ap:Int,σ=[some (.int m),some (.int c),some (.int n),some (.ref p),some (.int (i:Int)),some (.int st),some (.int (j:Int)),some (.int ((st+(j:Int))%(m:Int))),some (.int ap)]/\Mk.Í m ap=(fnd.isEmpty||Mk.Í m ((st+(j:Int))%(m:Int)-fnd.getLastD 0))) ?_ ?_
   ·rintro σ G2 ⟨rfl,ap,rfl,hap⟩;symm;refine⟨_,.l hG,?_⟩;rw[ak];generalize hw:(st+(j:Int))%(m:Int)=wt at w0 w1 hap
    by_cases hl:⇑g=i
    ·rw[aq (a9 ⋯)];have gf:g=fnd/\∀ j':Nat,j'<j->tst ((st+(j':Int))%(m:Int))=false:=by
      rcases hg with h | ⟨x,e,_⟩
      ·exact h
      ·rw[e,aE,fJ] at hl;left
     obtain⟨rfl,hall⟩:=gf;have cp:∀ a:Int,decide (((Int.gcd a (m:Int):Nat):Int)=1)=Mk.Í m a:=fun a=>by unfold Mk.Í;rw[nW];show ((Int.gcd a (m:Int):Nat):Int)=1↔Int.gcd a (m:Int)=1;left
     have no:tst wt=false->N2 [some (V.int m),some (V.int c),some (V.int n),some (V.ref p),some (V.int (i:Int)),some (V.int st),some (V.int (j:Int)),some (V.int wt),some (V.int ap)] G2:=fun hf=>hN2 _ _ ⟨g,_,_,_,rfl,sG,hG,.inl ⟨rfl,fun j' h=>by
      by_cases e:j'=j
      ·rw[e,hw];exact hf
      ·exact hall j' ⋯⟩⟩
     refine⟨wt,m,rfl,?_⟩;symm;rw[cp];cases h1:Mk.Í m wt with
     | false =>rw[ai (by decide)];exact no (by rw[htst,h1];rfl)
     | true =>
      rw[aq rfl];refine⟨ap,m,rfl,?_⟩;symm;rw[cp,hap];cases h2:(g.isEmpty||Mk.Í m (wt-g.getLastD 0)) with
      | false =>rw[ai (by decide)];exact no (by rw[htst,h1,h2];rfl)
      | true =>rw[aq rfl];exact⟨.inl ⟨rfl,_,.of hG⟩,p,_,_,rfl,rfl,hG,by rw[ak];exact av ⋯,hN2 _ _ ⟨g++[wt],_,_,_,rfl,sG.cf hp,by rw[aI,bD];rfl,.inr ⟨wt,rfl,⟨w0,w1⟩,by rw[htst,h1,h2];rfl⟩⟩⟩
    ·rw[ai (by rw[bE];left)];refine hN2 _ _ ⟨g,_,_,_,rfl,sG,hG,.inr ?_⟩;rcases hg with ⟨rfl,_⟩ | h
     ·exact absurd hlen hl
     ·exact h
   ·intro U hU;symm
    by_cases i0:i=0
    ·subst i0;rw[ai (by decide)];refine hU _ _ ⟨rfl,1,rfl,?_⟩;rw[iK.mp hlen];show Mk.Í m 1=true;unfold Mk.Í;simp
    ·rw[aq (a9 ⋯)];have gl:g[i-1]?=some (fnd.getLastD 0):=by
      have fl:fnd[i-1]?=some (fnd.getLastD 0):=by rw[List.getLastD_eq_getLast?,nM,hlen,aC ⋯];rfl
      rcases hg with ⟨rfl,_⟩ | ⟨x,rfl,_⟩
      ·exact fl
      ·rw[fH ⋯];exact fl
     refine⟨_,_,.l hG,by rw[show (i:Int)-1=((i-1:Nat):Int) by left];exact bb (by rw[aX,gl];rfl),?_⟩;symm;refine hU _ _ ⟨rfl,_,rfl,?_⟩;have:fnd.isEmpty=false:=by
      cases fnd with
      | nil=>exact absurd hlen (Ne.symm i0)
      | cons _ _=>rfl
     rw[this,Bool.false_or]
  ·rintro σ G ⟨g,o6,o7,o8,rfl,sG,hG,hg⟩;rcases hg with ⟨_,hall⟩ | ⟨x,rfl,hx,hx2⟩
   ·exfalso;refine Mk.ER (m:=(m:Int)) ⋯ ⋯ ⋯ hb (Mk.jz.mp hs).1 ?_;unfold Mk.pq;rw[lq];intro w hw;obtain⟨w0,w1⟩:=Mk.lS.mp hw;have e0:=b7 (w-st) (show (m:Int)≠0 by left);have e1:=bJ (w-st) (show 0<(m:Int) by left);have:=hall ((w-st)%(m:Int)).toNat ⋯;rw[iI e0,Int.add_emod_emod,show st+(w-st)=w by left,nH w0 ⋯,htst] at this;rw[this];decide
   ·rw[htst,bV,Bool.or_eq_true] at hx2;refine hNx _ _ ⟨fnd++[x],_,_,_,_,_,rfl,by rw[aE,hlen];rfl,sG,hG,fun y hy=>?_,Mk.El hs hx2.1 ?_⟩
    ·rcases bC.mp hy with hy | hy
     ·exact hb y hy
     ·rw[aS.mp hy];exact hx
    ·rcases hx2.2 with e | e
     ·exact .inl (List.isEmpty_iff.mp e)
     ·exact .inr e
 ·rintro σ H2 ⟨fnd,o4,o5,o6,o7,o8,rfl,hlen,s2,h2,hb,hs⟩;show nn _ _ _;cbv;symm;exact k p fnd H2 hp s2 h2 hlen hb hs
def kh:Sp:=fun vs H Q _=>∃ c:Int,vs=[.int c]/\∀ p (zs:List Za) H',H p=none->aB H H'->H' p=some (.lst (zs.map È))->⇑zs=6->(∀ z∈zs,mr z)->Q (.ref p) H'
theorem cH:aJ ["_law_cell","_law_words","_law_k","_law_number","_law_word","_law_j"] ["_law_cell"] (ax ix):=by subst_eqs
theorem qw (F:Å K "_law_vocabulary" "_law_vocabulary" ix f fd) (T:Bl mg) (AF:Ç K mg Ad) (C_law_mixed:Ä P w K mg base (Á P w) 1 "_law_mixed" ["_law_cell","_law_k"] fU):bF P w K mg base (Á P w) 2 f fd ["_law_cell"] kh:=by
 specialize cH;obtain⟨c,rfl,k⟩:=h;refine⟨_,ag (aA (i:=1) cH.nd (cb af)) (ag (eA bU rfl (dC T.range (ah aj af)) (aM (i:=2) cH.nd) (ag (aA (i:=3) cH.nd (a8 C_law_mixed az (hr.mono Zd) (ah (aD aZ (À 0) (À 2)) (ah (aD b0 (À 2) aj) af)))) (ag (aA (i:=4) cH.nd bt) (ag (eA bU rfl (dC T.range (ah (aD aZ aj (aD b0 (À 3) aj)) af)) (aM (i:=5) cH.nd) (ao (aA (i:=4) cH.nd (aD aZ (À 4) (bg (bN (K:=K) rfl) bt (aD b0 (aD eS (À 3) (bg (bN (K:=K) rfl) (cb (ah aj (ah aj (ah aj (ah aj af))))) (À 5) (fun _ _=>rfl))) aj) (fun _ _=>rfl)))))) (ao (eM (cV (K:=K) rfl eF fK fL dI (À 1) (ah (aD aZ (À 4) (aD FZ bt (c7 vE T.int zI (ah (cT (mL (K:=K) rfl hu1) (À 4) (À 1) (by ext)) af)))) af)))))))) (ao (aG (À 1)))),?_⟩;grind;refine⟨br _,fun p H1 hp s1 h1=>?_⟩;cbv;grind;refine⟨Zd,Zd,fz (fun i σ G=>(∃ o2 o3 o4 o5,σ=[some (.int c),some (.ref p),o2,o3,o4,o5])/\aB H G/\∃ zs:List Za,G p=some (.lst (zs.map È))/\⇑zs=i/\∀ z∈zs,mr z) ?_ ?_ ?_⟩
 ·exact⟨⟨_,_,_,_,rfl⟩,s1,[],h1,rfl,fun z h=>by cases h⟩
 ·rintro i σ G hi ⟨⟨o2,o3,o4,o5,rfl⟩,sG,zs,hG,zl,hz⟩ N hNx;clear hN;rw[fX,fG];grind;refine⟨Zd,c+(i:Int),i%4,by rw[Int.natCast_emod];rfl,⋯,fun G1 t1=>?_⟩;have y0:=IG (c+(i:Int)) (i%4);generalize vn (c+(i:Int)) (i%4)=y at y0;cbv;grind;cbv;have s1:=sG.trans t1;have hG1:=t1 _ _ hG;grind;obtain⟨n,hn,n1,n4⟩:∃ n:Nat,1+y%4=(n:Int)/\1<=n/\n<=4:=⟨(1+y%4).toNat,⋯,⋯,⋯⟩;rw[hn];refine⟨Zd,⋯,(by omega),fz (n:=n) (fun j σ G2=>aB G1 G2/\∃ (z:Za) (o5:Option V),σ=[some (.int c),some (.ref p),some (.int (i:Int)),some (.int y),some (.str (tx z)),o5]/\⇑z=j/\∀ c∈z,c∈[97,98,110,111,120]) ?_ ?_ ?_⟩
  ·exact⟨aB.refl _,[],_,rfl,rfl,fun c h=>by cases h⟩
  ·rintro j σ G2 hj ⟨t2,z,o5,rfl,zl2,hzc⟩ N2 hN2;clear hN hNx;rw[fX,fG];symm;have hv:Õ [V.int 4,V.int 16,V.int 64,V.int 256] (j:Int)=some (.int (4^(j+1))):=by
    have:∀ j:Nat,j<4->[V.int 4,V.int 16,V.int 64,V.int 256][j]?=some (.int (4^(j+1))):=fun j h=>by
     match j,h with
     | 0,_=>rfl
     | 1,_=>rfl
     | 2,_=>rfl
     | 3,_=>rfl
    exact bb (this j ⋯)
   refine⟨aT (av Zd),fun p1 G3 hp1 t3 h3=>⟨_,_,.l h3,hv,?_⟩⟩;symm;have pb:∀ i,i<4->(4:Int)^(i+1)<2^1000:=by nofun
   have q0:=b7 (y/4^(j+1)) (show (4:Int)≠0 by decide);have q1:=bJ (y/4^(j+1)) (show (0:Int)<4 by decide);generalize y/4^(j+1)%4=x at q0 q1;obtain⟨xn,rfl⟩:=dm q0;obtain⟨ch,hch,hcm⟩:∃ ch,(Str.ofString "abno").cps.toList[xn]?=some ch/\ch∈[97,98,110,111,120]:=by
    have:∀ i,i<4->∃ ch∈[97,98,110,111,120],(Str.ofString "abno").cps.toList[i]?=some ch:=by nofun
    obtain⟨ch,h1,h2⟩:=this xn ⋯;exact⟨ch,h2,h1⟩
   have ln:∀ u:Za,⇑u<=10->⇑(tx u)<=sizeLine:=fun u h=>by rw[bh];exact aT (av ⋯)
   have ea:tx z++(⟨#[ch]⟩:Str)=tx (z++[ch]):=iW z [ch];refine⟨⟨Int.pow_pos Zd,pb j ⋯⟩,Zd,Zd,ch,bb hch,?_,?_⟩
   ·rw[bh];exact aT (av (show ⇑z+1<=_ by left))
   rw[ea];refine hN2 _ _ ⟨t2.trans t3,z++[ch],_,rfl,by rw[aE,zl2];rfl,fun c hc=>?_⟩;rcases bC.mp hc with h | h
   ·exact hzc c h
   ·rw[aS.mp h];exact hcm
  ·rintro σ G2 ⟨t2,z,o5,rfl,zl2,hzc⟩;show nn _ _ _;cbv;symm;have hG2:=t2 _ _ hG1;refine⟨.inl ⟨rfl,_,.of hG2⟩,.inl ⟨_,.l hG2,rfl,fw _,_,rfl,Zd,Zd,?_⟩⟩;have fin:∀ z':Za,mr z'->tD (V.ref p) [V.str (tx z')] G2 fun x H1=>N [some (V.int c),some (V.ref p),some (V.int (i:Int)),some (V.int y),some (V.str (tx z)),o5] H1:=fun z' hv=>⟨p,_,_,rfl,rfl,hG2,by rw[ak];exact av ⋯,hNx _ _ ⟨⟨_,_,_,_,rfl⟩,(s1.trans t2).cf hp,zs++[z'],by rw[aI,bD];rfl,by rw[aE,zl];rfl,fun u hu=>by
    rcases bC.mp hu with h | h
    ·exact hz u h
    ·rw[aS.mp h];exact hv⟩⟩
   cases Ĉ (V.str (tx z)) (zs.map È) with
   | true =>
    refine⟨by rw[bh];exact aT (av (show ⇑z+1<=_ by left)),?_⟩;rw[aq rfl,show tx z++Str.ofString "x"=tx (z++[120]) from iW z [120]];exact fin _ ⟨by rw[aE];left,by rw[aE,fJ];left,fun c hc=>by
     rcases bC.mp hc with h | h
     ·exact hzc c h
     ·rw[aS.mp h];decide⟩
   | false =>refine⟨by rw[bh];exact aT (av (show ⇑z+0<=_ by left)),?_⟩;rw[ai (by decide),show tx z++tx []=tx (z++[]) from iW z [],dQ];exact fin _ ⟨⋯,⋯,hzc⟩
 ·rintro σ G ⟨⟨o2,o3,o4,o5,rfl⟩,sG,zs,hG,zl,hz⟩;show nn _ _ _;cbv;symm;exact k p zs G hp sG hG zl hz
theorem E5:∀ i:Nat,i<5->∃ c,(Str.ofString "abnox").cps.toList[i]?=some c/\97<=c/\c<123:=fun i h=>by
 have:∀ i,i<5->∃ c,(Str.ofString "abnox").cps.toList[i]?=some c/\97<=c/\c<123:=by
  intro i h
  match i,h with
  | 0,_=>exact⟨_,rfl,Zd⟩
  | 1,_=>exact⟨_,rfl,Zd⟩
  | 2,_=>exact⟨_,rfl,Zd⟩
  | 3,_=>exact⟨_,rfl,Zd⟩
  | 4,_=>exact⟨_,rfl,Zd⟩
 exact this i h
def qH:Sp:=fun vs H Q _=>∃ (c:Int) (q:Addr) (zs:List Za),vs=[.int c,.ref q]/\H q=some (.lst (zs.map È))/\⇑zs=6/\(∀ z∈zs,mr z)/\∀ p key H',H p=none->aB H H'->H' p=some (.tup (key.map kV))->fV key->Q (.ref p) H'
theorem md:aJ ["_law_cell","_law_words","_law_number","_law_kind"] ["_law_cell","_law_words"] (ax mY):=by subst_eqs
theorem xq (F:Å K "_law_entry" "_law_entry" mY f fd) (T:Bl mg) (AF:Ç K mg Ad) (C_law_mixed:Ä P w K mg base (Á P w) 1 "_law_mixed" ["_law_cell","_law_k"] fU):bF P w K mg base (Á P w) 2 f fd ["_law_cell","_law_words"] qH:=by
 specialize md;obtain⟨c,q,zs,rfl,hq,zl,hz,k⟩:=h;refine⟨_,ag (aA (i:=2) md.nd (a8 C_law_mixed az (hr.mono Zd) (ah (À 0) (ah aj af)))) (ag (aA (i:=3) md.nd (aD b0 (a8 C_law_mixed az (hr.mono Zd) (ah (À 0) (ah aj af))) aj)) (ag (bG (aR rM (À 3) aj (aU _)) (ao (aG (dw (ah bt (ah (bg (bN (K:=K) rfl) (À 1) (aD b0 (À 2) aj) (fun _ _=>rfl)) af))))) aV) (ag (bG (aR rM (À 3) aj (aU _)) (ao (aG (dw (ah bt (ah (aD aZ (aD aZ (bg (bN (K:=K) rfl) (À 1) (aD b0 (À 2) aj) (fun _ _=>rfl)) bt) (bg (bN (K:=K) rfl) (À 1) (aD b0 (aD eS (À 2) aj) aj) (fun _ _=>rfl))) af))))) aV) (ag (bG (aR (c6 (K:=K) rfl hu) (À 3) aj (aU _)) (ao (aG (dw (ah bt (ah (cN (iq (K:=K) rfl) (bg (bN (K:=K) rfl) (À 1) (aD b0 (À 2) aj) (fun _ _=>rfl)) fk (cM aj)) af))))) aV) (ao (aG (dw (ah bt (ah (bg (bN (K:=K) rfl) bt (aD b0 (À 2) aj) (fun _ _=>rfl)) af))))))))),?_⟩;have big:∀ {u:Nat},u<=1000->u<=sizeLine:=fun hu=>aT (av ⋯);have wat:∀ x:Int,∃ z,mr z/\Õ (zs.map È) (x%6)=some (.str (tx z)):=fun x=>by
  obtain⟨i,hi⟩:=dm (b7 x (show (6:Int)≠0 by decide));have hil:i<⇑zs:=by have:=bJ x (show (0:Int)<6 by decide);left
  exact⟨zs[i],hz _ (cj hil),by rw[hi];exact bb (by rw[aX,aC hil];rfl)⟩
 grind;refine⟨c,1,rfl,Zd,fun H1 s1=>?_⟩;generalize vn c 1=y;cbv;grind;refine⟨c,0,rfl,Zd,fun H2 s2=>?_⟩;generalize vn c 0=y0;have s12:=s1.trans s2;have hq2:=s12 _ _ hq;symm;refine⟨Zd,?_⟩;generalize y0%6=kd;cbv;grind
 by_cases h2:kd<2
 ·rw[aq (a9 h2)];obtain⟨z,hv,hat⟩:=wat y;refine⟨Zd,_,_,.l hq2,hat,big Zd,fun p H3 hp s3 h3=>k p (sS (Mk.bR 32 [z])) H3 (s12.free hp) (s12.trans s3) h3 (zS (ws:=[z]) (aw 1) (show 1<=6 by decide) fun w hw=>by rw[aS.mp hw];exact oF hv)⟩
 rw[ai (by rw[bE];exact h2)];show nn _ _ _;cbv;grind
 by_cases h4:kd<4
 ·rw[aq (a9 h4)];obtain⟨z,hv,hat⟩:=wat y;obtain⟨z',hv',hat'⟩:=wat (y/6);refine⟨Zd,_,_,.l hq2,hat,?_⟩;symm;have l5:=hv.2.1;have l5':=hv'.2.1;have e1:tx z++Str.ofString " "=tx (z++[32]):=iW z [32];rw[e1,bh];refine⟨big (show ⇑z+1<=1000 by left),⟨Zd,Zd⟩,Zd,_,_,.l hq2,hat',?_⟩;symm;rw[iW,bh,bh,aE];refine⟨big (show ⇑z+1+⇑z'<=1000 by left),big Zd,fun p H3 hp s3 h3=>k p (sS (Mk.bR 32 [z,z'])) H3 (s12.free hp) (s12.trans s3) ?_ (zS (ws:=[z,z']) (show 1<=2 by decide) (show 2<=6 by decide) fun w hw=>?_)⟩
  ·rw[h3,cD];rfl
  ·rcases aY.mp hw with rfl | hw
   ·exact oF hv
   ·rw[aS.mp hw];exact oF hv'
 rw[ai (by rw[bE];exact h4)];show nn _ _ _;cbv;have ple:∀ l:Za,1<=⇑l->⇑l<=6->(∀ c∈l,97<=c/\c<123)->∀ p H3,H2 p=none->aB H2 H3->H3 p=some (.tup [.str (Str.ofString "part"),.str (tx l)])->Q (.ref p) H3:=fun l h1 h6 hl p H3 hp s3 h3=>k p (fj l) H3 (s12.free hp) (s12.trans s3) h3 (qh (kJ h1 h6 hl));grind
 by_cases h5:kd=4
 ·rw[aq (a9 h5)];obtain⟨z,hv,hat⟩:=wat y;have l5:=hv.2.1;refine⟨Zd,_,_,.l hq2,hat,?_⟩;symm;rw[bh,bW,show (6:Int)=((6:Nat):Int) from rfl,kO,eY ⋯];exact⟨big ⋯,big Zd,ple z hv.1 ⋯ (oF hv).2.2⟩
 rw[ai (by rw[bE];exact h5)];show nn _ _ _;cbv;symm;obtain⟨i,hi⟩:=dm (b7 y (show (5:Int)≠0 by decide));obtain⟨c',hc,hb⟩:=E5 i ⋯;exact⟨Zd,big Zd,c',by rw[hi];exact bb hc,big Zd,ple [c'] (aw 1) (show 1<=6 by decide) fun x hx=>by rw[aS.mp hx];exact hb⟩
inductive n9 (K:Zf) (vs:List V) (H:Hp) (Q:VK) (E:XK):Prop
 | mk (a q:Addr) (ns:Zb) (zs:List Za) (m:Nat) (q0:vs=[.ref a,.ref q,.int 14,.int (14+(m:Int))]) (q1:Ã K H a (ns.map V.int)) (q2:H q=some (.lst (zs.map È))) (q3:⇑zs=6) (q4:(∀ z∈zs,mr z)) (q5:m<=6) (q6:∀ wd H',aB H H'->⇑wd=m->(∀ w∈wd,mr w)->Q (.str (tx (Mk.bR 32 wd))) H'):n9 K vs H Q E
theorem yZ (F:Å K "_law_text" "_law_text" pR f fd) (T:Bl mg) (AF:Ç K mg Ad) (C_law_mixed:Ä P w K mg base (Á P w) 1 "_law_mixed" ["_law_cell","_law_k"] fU) (C_law_cell_at:Ä P w K mg base (Á P w) 1 "_law_cell_at" ["_law_script","_law_k"] (eC K)):bF P w K mg base (Á P w) 2 f fd ["_law_script","_law_words","_law_first","_law_last"] (n9 K):=by
 exists["_law_script","_law_words","_law_first","_law_last"];obtain⟨a,q,ns,zs,m,rfl,hS,hq,zl,hz,m6,k⟩:=h;refine⟨_,ao (aG (cV (K:=K) rfl eZ nU nV (mJ (K:=K) rfl) bt (ah (fZ ["_law_k"] rfl ⟨rfl,by nofun,rfl,by nofun⟩ (.cons (j:=1) rfl (.inl (by ext)) (.cons (j:=0) rfl (.inl (by ext)) (.nil))) (by nofun) (pE T.range (ah (À 2) (ah (À 3) af))) (fun _ _ _ _=>aM (i:=0) (show (["_law_k","_law_words","_law_script"]:Ze).Nodup from by nofun)) (fun _ _ _ _=>cZ) (fun _ _ _ _=>bg (bN (K:=K) rfl) (Ê 1) (aD b0 (a8 C_law_mixed fg (hr.mono Zd) (ah (a8 C_law_cell_at fg (hr.mono Zd) (ah (Ê 2) (ah (À 0) af))) (ah aj af))) aj) (fun _ _=>rfl))) af))),?_⟩;symm;refine⟨rfl,⟨Zd,Zd,⋯,⋯⟩,?_⟩;rw[show (14+(m:Int)-14).toNat=m by left];refine MZ (wj (H1:=H) (lo:=14) (n:=m)) (av (by rw[ak,bZ];left)) (fun v=>∃ w,v=È w/\mr w) ?_ ?_
 ·intro x hx G t R hR;obtain⟨i,hi,rfl⟩:=aO.mp hx;have hi':=cE.mp hi;symm;refine⟨a,ns,_,rfl,t.seq hS,⋯,?_⟩;generalize ns.getD (14+(i:Int)).toNat 0=c;refine⟨c,3,rfl,Zd,fun G1 t1=>?_⟩;generalize vn c 3=y;symm;obtain⟨j,hj⟩:=dm (b7 y (show (6:Int)≠0 by decide));have hjl:j<⇑zs:=by have:=bJ y (show (0:Int)<6 by decide);left
  exact⟨Zd,_,_,.l ((t.trans t1) _ _ hq),by rw[hj];exact bb (by rw[aX,aC hjl];rfl),hR _ G1 t1 ⟨zs[j],rfl,hz _ (cj hjl)⟩⟩
 intro D vs H1 hD s1 h1 vl hv;obtain⟨wd,rfl,hw⟩:=wC hv;rw[ak,ak,bZ] at vl;symm;refine⟨wd.map tx,.of (by rw[h1,bf];rfl),F4 ⋯ (fun w h=>oF (hw w h)),?_⟩;rw[show (Str.ofString " ")=tx [32] from rfl,sf];exact k wd H1 s1 vl hw
theorem Iv {a b:Bool} (h:å a=å b):a=b:=by cases a<;>cases b<;>first | rfl | exact absurd h (by decide)
theorem Fj {f g:Flt} (h:vj f=vj g):f=g:=by obtain⟨f1,f2,f3,f4⟩:=f;obtain⟨g1,g2,g3,g4⟩:=g;unfold vj at h;simp only[List.cons.injEq,V.int.injEq,V.str.injEq,and_true] at h;obtain⟨h1,h2,h3,h4⟩:=h;rw[h1,h2,Iv h3,h4]
noncomputable def Ć (H:Hp) (s p:Int) (v:V):Bool:=@decide (∃ f,B0 H v f/\hits s p f=true) (Classical.propDecidable _)
theorem Gn {s p:Int}{f:Flt} (h:B0 H v f):Ć H s p v=hits s p f:=by
 unfold Ć;cases hh:hits s p f with
 | true=>exact @a9 _ (Classical.propDecidable _) ⟨f,h,hh⟩
 | false =>
  refine @aF _ (Classical.propDecidable _) ?_;rintro⟨g,⟨t,e1,h1⟩,h2⟩;obtain⟨t',e2,h3⟩:=h;rw[e1] at e2;cases e2;rw[h1] at h3
  injection h3 with h3
  injection h3 with h3
  rw[←Fj h3,h2] at hh;cases hh
theorem BY {H:Hp}{s p:Int}:∀ {fv:List V}{fs:List Flt},ft H fv fs->(fv.filter (Ć H s p)=[]/\fs.find? (hits s p)=none)∨∃ v rest f,fv.filter (Ć H s p)=v::rest/\fs.find? (hits s p)=some f/\B0 H v f
 | _,_,.nil=>.inl ⟨rfl,rfl⟩
 | v::fv,f::fs,.cons r t=>by
  rw[List.filter_cons,eV,Gn r];cases hits s p f with
  | true=>exact .inr ⟨v,_,f,rfl,rfl,r⟩
  | false=>exact BY (H:=H) (s:=s) (p:=p) t
inductive ny (K:Zf) (vs:List V) (H:Hp) (Q:VK) (E:XK):Prop
 | mk (c cq q b:Addr) (al:Za) (ws:Zb) (r s:Int) (zs:List Za) (fv:List V) (fs:List Flt) (q0:vs=[.ref c,.ref q,.ref b,.int s]) (q1:CA H c cq al ws r) (q2:H q=some (.lst (zs.map È))) (q3:(∀ z∈zs,r6 al z)) (q4:⇑zs<=1000) (q5:H b=some (.lst fv)) (q6:ft H fv fs) (q7:⇑fs<=1000) (q8:(∀ f∈fs,0<=f.n)) (q9:∀ p H',H p=none->aB H H'->H' p=some (.lst ((gE al fs s zs).map È))->Q (.ref p) H'):ny K vs H Q E
theorem jY:aJ ["_law_code_here","_law_words","_law_faults_here","_law_sending","_law_found","_law_place","_law_some"] ["_law_code_here","_law_words","_law_faults_here","_law_sending"] (ax pN):=by subst_eqs
theorem yW (F:Å K "_law_came" "_law_came" pN f fd) (T:Bl mg) (AF:Ç K mg Ad) (C_law_made_another:Ä P w K mg base (Á P w) 1 "_law_made_another" ["_law_code_here","_law_word","_law_fault"] (fW K)):bF P w K mg base (Á P w) 2 f fd ["_law_code_here","_law_words","_law_faults_here","_law_sending"] (ny K):=by
 specialize jY;obtain⟨c,cq,q,b,al,ws,r,s,zs,fv,fs,rfl,hC,hq,hok,hl,hb,hf,hfl,hn,k⟩:=h;have æ:=hr.æ;refine⟨_,ag (aA (i:=4) jY.nd (cb af)) (ag (eA bU rfl (dC T.range (ah (ay (aH (K:=K) rfl) T.len bz (ah (À 1) af)) af)) (zf (i:=5) jY.nd) (ag (mQ (i:=6) ["_law_fault"] jY.nd rfl (Or.inl rfl) rfl ⟨rfl,by nofun,rfl,by nofun⟩ (.cons (j:=3) rfl (.inl (by ext)) (.cons (j:=5) rfl (.inl (by ext)) (.nil))) (by nofun) (cG (K:=K) rfl (À 2)) (fun _ _ _ _=>aM (i:=0) (show (["_law_fault","_law_sending","_law_place"]:Ze).Nodup from by nofun)) (fun _ _ _ _=>oz ((uL (aR (c6 (K:=K) rfl hu) (bg (bN (K:=K) rfl) (À 0) aj (fun _ _=>rfl)) (Ê 1) (aU _)) (tp (aR (c6 (K:=K) rfl hu) (bg (bN (K:=K) rfl) (À 0) aj (fun _ _=>rfl)) (Ê 2) (aU _)))).pt)) (fun _ _ _ _=>À 0)) (ao (bG (aR (KQ (K:=K) rfl æ) (À 6) (cb af) (aU _)) (ao (eM (cV (K:=K) rfl eF fK fL dI (À 4) (ah (bg (bN (K:=K) rfl) (À 1) (Ê 5) (fun _ _=>rfl)) af)))) (ao (eM (cV (K:=K) rfl eF fK fL dI (À 4) (ah (a8 C_law_made_another az (hr.mono Zd) (ah (À 0) (ah (bg (bN (K:=K) rfl) (À 1) (Ê 5) (fun _ _=>rfl)) (ah (bg (bN (K:=K) rfl) (À 6) aj (fun _ _=>rfl)) af)))) af)))))))) (ao (aG (À 4)))),?_⟩;have lw:⇑fv=⇑fs:=Paired.length hf;grind;refine⟨br _,fun D H1 hD s1 h1=>?_⟩;cbv;have hD0:H D=none:=hD;grind;refine⟨_,.l (s1 _ _ hq),?_⟩;rw[ak];symm;refine⟨⋯,⋯,?_⟩;refine fz (n:=⇑zs) (fun i σ H'=>(∃ o5 o6,σ=[some (V.ref c),some (V.ref q),some (V.ref b),some (V.int s),some (V.ref D),o5,o6])/\aB H H'/\H' D=some (.lst (((List.range i).map fun (i:Nat)=>kN al (zs.getD i []) (fs.find? (hits s (i:Int)))).map È))) ?_ ?_ ?_
 ·exact⟨⟨_,_,rfl⟩,s1,h1⟩
 ·rintro i σ H2 hi ⟨⟨o5,o6,rfl⟩,s2,h2⟩ N hNx;clear hN;have ei:(0:Int)+(i:Int)=(i:Int):=⋯
  obtain⟨z,hz⟩:∃ z,zs[i]?=some z:=⟨_,aC hi⟩;have ez:zs.getD i []=z:=by rw[aK,hz];rfl
  have okz:=hok z (bT hz);have hb2:=s2 _ _ hb;have hf2:=hf.same s2;rw[lC,bD,bD,List.map_singleton,ez] at hNx;have hzat:Õ (zs.map È) (i:Int)=some (È z):=bb (j:=i) (by rw[aX,hz];rfl);symm;rw[ei];refine cK fun n2 hM=>?_;symm;refine .inl ⟨⟨_,.of hb2⟩,wW (eU (.of hb2)) (av ⋯) (Ć H2 s (i:Int)) (fun v=>v) ?_ ?_ ?_⟩
  ·intro v hv H3 s3 R hR;obtain⟨j,hj⟩:=jF hv;obtain⟨f,_,hfa⟩:=fb hf2 hj;rw[Gn hfa] at hR;obtain⟨t,rfl,ht⟩:=hfa;have ht3:=s3 _ _ ht;unfold hits at hR;symm;refine⟨_,_,.t ht3,bb (xs:=vj f) (j:=0) rfl,?_⟩;symm;cases h1:decide (f.s=s) with
   | false =>rw[h1,jj] at hR;exact hR H3 (aB.refl _)
   | true =>rw[h1,eQ] at hR;bv_omega;refine⟨_,_,.t ht3,bb (xs:=vj f) (j:=1) rfl,?_⟩;symm;exact hR H3 (aB.refl _)
  ·intro v hv hpr H3 s3 R hR;symm;exact hR H3 (aB.refl _)
  intro pm H3 hpm s3 h3;rw[List.map_id'] at h3;rw[hM];clear hM n2;have s03:=s2.trans s3;have fin:∀ (y:Za) (H4:Hp),aB H3 H4->y=kN al z (fs.find? (hits s (i:Int)))->tD (V.ref D) [V.str (tx y)] H4 fun x H1=>N [some (V.ref c),some (V.ref q),some (V.ref b),some (V.int s),some (V.ref D),some (V.int (i:Int)),some (V.ref pm)] H1:=fun y H4 s4 ey=>by have hD4:=(s3.trans s4) _ _ h2;refine⟨D,_,_,rfl,rfl,hD4,?_,hNx _ _ ⟨⟨_,_,rfl⟩,(s03.trans s4).cf hD0,by rw[aI,ey];rfl⟩⟩;rw[ak,ak,bZ];exact av ⋯
  symm;refine⟨br _,fun pe H4 hpe s4 h4=>⟨0,_,Zd,Lq (.of (s4 _ _ h3)) (.of h4),?_⟩⟩;have hq4:=(s03.trans s4) _ _ hq;have hD4:=(s3.trans s4) _ _ h2;rcases BY (s:=s) (p:=(i:Int)) hf2 with ⟨e1,e2⟩ | ⟨v,rest,f,e1,e2,t,rfl,ht⟩
  ·rw[e1] at h3 ⊢;rw[e2] at fin;rw[a9 (rfl:([]:List V)=[])];bv_omega;refine⟨.inl ⟨rfl,_,.of hD4⟩,_,_,.l hq4,hzat,fin z H4 s4 rfl⟩
  ·rw[e1] at h3 ⊢;rw[e2] at fin;have hnf:=hn f (qV e2);rw[aF (by simp)];bv_omega;refine⟨.inl ⟨rfl,_,.of hD4⟩,_,_,.l hq4,hzat,_,_,.l (s4 _ _ h3),bb (j:=0) rfl,?_⟩;exact⟨c,cq,al,z,ws,r,t,f,rfl,⟨(s03.trans s4) _ _ hC.1,(s03.trans s4) _ _ hC.2⟩,okz,(s3.trans s4) _ _ ht,hnf,fin _ H4 s4 rfl⟩
 ·rintro σ H2 ⟨⟨o5,o6,rfl⟩,s2,h2⟩;show nn _ _ _;cbv;symm;exact k D H2 hD0 s2 h2
def oX (K:Zf):Sp:=fun vs H Q _=>∃ (a:Addr) (ns:Zb) (m:Nat),vs=[.ref a,.int m]/\Ã K H a (ns.map V.int)/\m<=1000/\∀ D fv fs H',H D=none->aB H H'->H' D=some (.lst fv)->ft H' fv fs->⇑fs<=100->(∀ f∈fs,0<=f.n/\f.s≠61)->Q (.ref D) H'
theorem dz:aJ ["_law_script","_law_many","_law_faults_here","_law_cells","_law_k","_law_place","_law_kind","_law_cell","_law_j"] ["_law_script","_law_many"] (ax lY):=by subst_eqs
theorem vq (F:Å K "_law_faults" "_law_faults" lY f fd) (T:Bl mg) (AF:Ç K mg Ad) (C_law_cell_at:Ä P w K mg base (Á P w) 1 "_law_cell_at" ["_law_script","_law_k"] (eC K)) (C_law_mixed:Ä P w K mg base (Á P w) 1 "_law_mixed" ["_law_cell","_law_k"] fU):bF P w K mg base (Á P w) 2 f fd ["_law_script","_law_many"] (oX K):=by
 specialize dz;obtain⟨a,ns,m,rfl,hS,m1,k⟩:=h;refine⟨_,ag (aA (i:=2) dz.nd (cb af)) (ag (aA (i:=3) dz.nd (cN (iq (K:=K) rfl) (À 0) (cM aj) (cM aj))) (ag (eA bU rfl (AO T.range (ah aj (ah (aD fi (ay (aH (K:=K) rfl) T.len bz (ah (À 3) af)) aj) (ah aj af)))) (aM (i:=4) dz.nd) (ag (aA (i:=5) dz.nd (aD b0 (a8 C_law_mixed az (hr.mono Zd) (ah (bg (bN (K:=K) rfl) (À 3) (À 4) (fun _ _=>rfl)) (ah aj af))) (aD aZ (À 1) aj))) (ag (aA (i:=6) dz.nd (bg (bN (K:=K) rfl) (cb (ah bt (ah bt af))) (aD b0 (a8 C_law_mixed az (hr.mono Zd) (ah (bg (bN (K:=K) rfl) (À 3) (À 4) (fun _ _=>rfl)) (ah aj af))) aj) (fun _ _=>rfl))) (ag (eM (cV (K:=K) rfl eF fK fL dI (À 2) (ah (dw (ah (aD b0 (a8 C_law_mixed az (hr.mono Zd) (ah (bg (bN (K:=K) rfl) (À 3) (aD aZ (À 4) aj) (fun _ _=>rfl)) (ah aj af))) aj) (ah (À 5) (ah (À 6) (ah (aD b0 (ay kM T.abs tJ (ah (bg (bN (K:=K) rfl) (À 3) (aD aZ (À 4) aj) (fun _ _=>rfl)) af)) (aD jb aj aj)) af))))) af))) (ao (bG (aR (c6 (K:=K) rfl hu) (aD b0 (bg (bN (K:=K) rfl) (À 3) (À 4) (fun _ _=>rfl)) aj) aj (aU _)) (ao (eM (cV (K:=K) rfl eF fK fL dI (À 2) (ah (dw (ah (bg (bN (K:=K) rfl) (bg (bN (K:=K) rfl) (À 2) (uF qd aj) (fun _ _=>rfl)) aj (fun _ _=>rfl)) (ah (À 5) (ah (À 6) (ah (aD b0 (ay kM T.abs tJ (ah (bg (bN (K:=K) rfl) (À 3) (À 4) (fun _ _=>rfl)) af)) (aD jb aj aj)) af))))) af)))) aV)))))) (ag (aA (i:=7) dz.nd (aD eS (a8 C_law_cell_at az (hr.mono Zd) (ah (À 0) (ah aj af))) aj)) (ag (bG (aR (c6 (K:=K) rfl hu) (aD b0 (À 7) aj) aj (aU _)) (ao (eA bU rfl (dC T.range (ah (aD b0 (aD eS (À 7) aj) aj) af)) (aM (i:=8) dz.nd) (ao (eM (cV (K:=K) rfl eF fK fL dI (À 2) (ah (dw (ah (À 8) (ah aj (ah bt (ah (aD aZ (aD b0 (aD eS (À 7) aj) aj) (aD IK aj (À 8))) af))))) af)))))) aV) (ao (aG (À 2))))))),?_⟩;have big:∀ {u:Nat},u<=1000->u<=sizeLine:=fun hu=>aT (av ⋯);grind;refine⟨br _,fun D H1 hD s1 h1=>?_⟩;cbv;grind;obtain⟨l,cl,ll⟩:=ye ns 20 44;refine⟨_,s1.seq hS,fun pc H2 hpc s2 h2=>?_⟩;rw[show m7 (ns.map V.int) (some 20) (some 44)=l.map V.int from cl] at h2;cbv;have h12:=s2 _ _ h1;have ncD:pc≠D:=(aW h1 hpc).symm;grind;refine⟨_,.l h2,?_⟩;rw[ak];refine⟨0,_,2,rfl,Zd,⋯,Zd,?_⟩;have rn:vw 0 ((⇑l:Int)-1) 2<=12/\∀ i,i<vw 0 ((⇑l:Int)-1) 2->2*i+1<⇑l:=by
  unfold vw;split
  ·exact⟨⋯,fun i hi=>⋯⟩
  ·exact⟨⋯,fun i hi=>⋯⟩
 obtain⟨rn12,rnl⟩:=rn;generalize vw 0 ((⇑l:Int)-1) 2=n at rn12 rnl;have app:∀ {G:Hp}{fv:List V}{fs:List Flt}{b:Nat}{R:V->Hp->Prop} (p:Addr) (f:Flt),aB H G->G D=some (.lst fv)->ft G fv fs->⇑fs<=b->b<=100->(∀ f∈fs,0<=f.n/\f.s≠61)->G p=some (.tup (vj f))->0<=f.n->f.s≠61->(∀ G',aB H G'->(∀ c o,c≠D->G c=some o->G' c=some o)->G' D=some (.lst (fv++[.ref p]))->ft G' (fv++[.ref p]) (fs++[f])->⇑(fs++[f])<=b+1->(∀ f'∈fs++[f],0<=f'.n/\f'.s≠61)->R .non G')->tD (V.ref D) [V.ref p] G R:=fun {G fv fs b R} p f sG hGD hF fl b100 hf hp hn hs kk=>by
  have lw:⇑fv=⇑fs:=Paired.length hF;refine⟨D,_,_,rfl,rfl,hGD,av ⋯,kk _ (sG.cf hD) (fun c o hc e=>by rw[aN hc];exact e) aI (D3 hF hGD hp) (by rw[aE];show ⇑fs+1<=_;left) fun f' hf'=>?_⟩;rcases bC.mp hf' with h | h
  ·exact hf f' h
  ·rw[aS.mp h];exact⟨hn,hs⟩
 refine Fn (n:=n) (fun i σ G=>(∃ o4 o5 o6 o7 o8,σ=[some (V.ref a),some (V.int m),some (V.ref D),some (V.ref pc),o4,o5,o6,o7,o8])/\aB H G/\G pc=some (.lst (l.map V.int))/\∃ fv fs,G D=some (.lst fv)/\ft G fv fs/\⇑fs<=2*i/\∀ f∈fs,0<=f.n/\f.s≠61) ?_ ?_ ?_
 ·exact⟨⟨_,_,_,_,_,rfl⟩,s1.trans s2,h2,[],[],h12,.nil,br _,fun f h=>by cases h⟩
 ·rintro i σ G hi ⟨⟨o4,o5,o6,o7,o8,rfl⟩,sG,hGp,fv,fs,hGD,hF,fl,hf⟩ N hNx;clear hN;have hil:=rnl i hi;rw[fX,show (0:Int)+(i:Int)*2=((2*i:Nat):Int) by left];have at0:Õ (l.map V.int) ((2*i:Nat):Int)=some (.int (l.getD (2*i) 0)):=bb (by rw[aX,aK,aC ⋯];rfl);have at1:Õ (l.map V.int) (((2*i:Nat):Int)+1)=some (.int (l.getD (2*i+1) 0)):=bb (j:=2*i+1) (by rw[aX,aK,aC ⋯];rfl);generalize l.getD (2*i) 0=x0 at at0;generalize l.getD (2*i+1) 0=x1 at at1;refine cK fun n2 hM=>?_;symm;refine⟨_,_,.l hGp,at0,?_⟩;refine⟨x0,0,rfl,Zd,fun G1 t1=>?_⟩;generalize vn x0 0=y0;symm;refine⟨⋯,?_⟩;rw[hM];clear hM n2;refine cK fun n2 hM=>?_;symm;refine⟨big Zd,fun p1 G2 hp1 t2 g2=>⟨_,_,.l ((t1.trans t2) _ _ hGp),at0,x0,1,rfl,Zd,fun G3 t3=>?_⟩⟩;generalize vn x0 1=y1;symm;obtain⟨kb,hkb⟩:∃ kb:Bool,Õ [V.str (Str.ofString "letter"),V.str (Str.ofString "swap")] (y1%2)=some (V.str (å kb)):=by
   have hy:y1%2=0∨y1%2=1:=⋯
   rcases hy with e | e<;>rw[e]
   ·exact⟨true,rfl⟩
   ·exact⟨false,rfl⟩
  have t13:=t1.trans (t2.trans t3);refine⟨Zd,_,_,.l (t3 _ _ g2),hkb,?_⟩;rw[hM];clear hM n2;generalize y0%((m:Int)+1)=pl;have sG3:=sG.trans t13;have hGp3:=t13 _ _ hGp;have hGD3:=t13 _ _ hGD;have hF3:=hF.same t13;refine cK fun n2 hM=>?_;symm;refine⟨.inl ⟨rfl,_,.of hGD3⟩,_,_,.l hGp3,at1,x1,2,rfl,Zd,fun G4 t4=>?_⟩;generalize vn x1 2=y2;symm;refine⟨Zd,_,_,.l (t4 _ _ hGp3),at1,?_⟩;symm;refine⟨⟨Zd,Zd,Zd⟩,Zd,big Zd,fun p5 G5 hp5 t5 g5=>?_⟩;have t35:=t4.trans t5;refine app (b:=2*i) p5 ⟨y2%4,pl,kb,_⟩ (sG3.trans t35) (t35 _ _ hGD3) (hF3.same t35) fl ⋯ hf g5 (b7 _ Zd) (by show y2%4≠61;left) fun G6 sG6 k6 hGD6 hF6 fl6 hf6=>?_;have hGp6:=k6 _ _ ncD (t35 _ _ hGp3);rw[hM];clear hM n2;symm;refine⟨_,_,.l hGp6,at0,?_⟩;symm;refine⟨Zd,?_⟩
  by_cases h5:x0%5=0
  ·rw[aq (a9 h5)];have g56:=k6 _ _ (gR g5 (t35 _ _ hGD3) (by intro z;cases z)) g5;refine⟨.inl ⟨rfl,_,.of hGD6⟩,_,_,.l hGD6,og (v:=.ref p5) (by rw[List.getLast?_concat]),?_⟩;symm;refine⟨_,_,.t g56,bb (j:=0) rfl,_,_,.l hGp6,at0,?_⟩;symm;refine⟨⟨Zd,Zd,Zd⟩,Zd,big Zd,fun p7 G7 hp7 t7 g7=>?_⟩;exact app (b:=2*i+1) p7 ⟨y2%4,pl,kb,_⟩ (sG6.trans t7) (t7 _ _ hGD6) (hF6.same t7) fl6 ⋯ hf6 g7 (b7 _ Zd) (by show y2%4≠61;left) fun G8 sG8 k8 hGD8 hF8 fl8 hf8=>hNx _ _ ⟨⟨_,_,_,_,_,rfl⟩,sG8,k8 _ _ ncD (t7 _ _ hGp6),_,_,hGD8,hF8,⋯,hf8⟩
  ·rw[ai (by rw[bE];exact h5)];exact hNx _ _ ⟨⟨_,_,_,_,_,rfl⟩,sG6,hGp6,_,_,hGD6,hF6,⋯,hf6⟩
 ·rintro σ G ⟨⟨o4,o5,o6,o7,o8,rfl⟩,sG,hGp,fv,fs,hGD,hF,fl,hf⟩;show nn _ _ _;cbv;grind;refine⟨a,ns,2,rfl,sG.seq hS,Zd,?_⟩;generalize ns.getD (2:Int).toNat 0=c2;symm;refine⟨⟨Zd,Zd⟩,?_⟩;generalize c2/30=cc;cbv;refine BE (fun σ G'=>(∃ o4 o5 o6 o7 o8,σ=[some (V.ref a),some (V.int m),some (V.ref D),some (V.ref pc),o4,o5,o6,o7,o8])/\aB H G'/\∃ fv fs,G' D=some (.lst fv)/\ft G' fv fs/\⇑fs<=100/\∀ f∈fs,0<=f.n/\f.s≠61) ?_ ?_
  ·rintro σ G' ⟨⟨o4,o5,o6,o7,o8,rfl⟩,sG',fv',fs',hD',hF',fl',hf'⟩;symm;exact k D fv' fs' G' hD sG' hD' hF' fl' hf'
  ·intro U hU;symm;refine⟨Zd,?_⟩
   by_cases h4:cc%4=1
   ·rw[aq (a9 h4)];obtain⟨n3,hn3⟩:=dm (b7 (cc/4) (show (60:Int)≠0 by decide));have n60:n3<60:=by have:=bJ (cc/4) (show (0:Int)<60 by decide);left
    rw[hn3];refine⟨⟨Zd,Zd⟩,Zd,⋯,⋯,?_⟩;refine fz (n:=n3) (fun j σ G'=>(∃ o8,σ=[some (V.ref a),some (V.int m),some (V.ref D),some (V.ref pc),o4,o5,o6,some (V.int cc),o8])/\aB H G'/\∃ fv fs,G' D=some (.lst fv)/\ft G' fv fs/\⇑fs<=24+j/\∀ f∈fs,0<=f.n/\f.s≠61) ?_ ?_ ?_
    ·exact⟨⟨_,rfl⟩,sG,fv,fs,hGD,hF,⋯,hf⟩
    ·rintro j σ G2 hj ⟨⟨o8,rfl⟩,sG2,fv2,fs2,hD2,hF2,fl2,hf2⟩ N hNx;rw[fX,fG];symm;have c0:=b7 (cc/240) (show (1000:Int)≠0 by decide);exact⟨.inl ⟨rfl,_,.of hD2⟩,⟨Zd,Zd⟩,Zd,.inl Zd,big Zd,fun p5 G5 hp5 t5 g5=>app (b:=24+j) p5 ⟨j,0,true,_⟩ (sG2.trans t5) (t5 _ _ hD2) (hF2.same t5) fl2 ⋯ hf2 g5 (by show 0<=cc/240%1000+7*(j:Int);left) (by show (j:Int)≠61;left) fun G8 sG8 k8 hGD8 hF8 fl8 hf8=>hNx _ _ ⟨⟨_,rfl⟩,sG8,_,_,hGD8,hF8,⋯,hf8⟩⟩
    ·rintro σ G2 ⟨⟨o8,rfl⟩,sG2,fv2,fs2,hD2,hF2,fl2,hf2⟩;exact hU _ _ ⟨⟨_,_,_,_,_,rfl⟩,sG2,fv2,fs2,hD2,hF2,⋯,hf2⟩
   ·rw[ai (by rw[bE];exact h4)];exact hU _ _ ⟨⟨_,_,_,_,_,rfl⟩,sG,fv,fs,hGD,hF,⋯,hf⟩
noncomputable def eJ (H:Hp) (m:Int):V->Bool
 | .ref p=>match H p with
  | some (.lst xs)=>decide (3<=⇑xs)&&decide (⇑xs<=8)&&xs.all (c9 m)
  | _=>false
 | _=>false
def nq:Sp:=fun vs H Q _=>∃ (x:V) (t:Tg) (m:Int),vs=[x,.int m]/\gb H x=some t/\(∀ p o u,x=.ref p->H p≠some (.frz o u))/\(∀ p xs,x=.ref p->H p=some (.lst xs)->⇑xs<=1000/\∀ y∈xs,∃ t,gb H y=some t) ∧
 ∀ H',aB H H'->Q (.bl (eJ H m x)) H'
theorem uu (F:Å K "are_weights" "are_weights" kr f fd) (T:Bl mg) (AF:Ç K mg Ad) (C_is_below:Ä P w K mg base (Á P w) 2 "is_below" ["thing","bound"] gH):bF P w K mg base (Á P w) 3 f fd ["thing","m"] nq:=by
 exists["thing","m"];obtain⟨x,t,m,rfl,ht,hfz,hit,k⟩:=h;refine⟨_,ag (bG ((iE (c8 (cx (ay (dG .lst) T.isinstance bt_isinstance (ah (À 0) (ah (iR T.list fP) af))))) (gW (c8 (qz iQ iQ aj (ay (aH (K:=K) rfl) T.len bz (ah (À 0) af)) aj)))).pt) (ao (aG iD)) aV) (ao (aG (ay (ir (K:=K) rfl rfl) T.all pj (ah (fZ ["weight"] rfl ⟨rfl,by nofun,rfl,by nofun⟩ (.cons (j:=1) rfl (.inl (by ext)) (.nil)) (by nofun) (cG (K:=K) rfl (À 0)) (fun _ _ _ _=>aM (i:=0) (show (["weight","m"]:Ze).Nodup from by nofun)) (fun _ _ _ _=>cZ) (fun _ _ _ _=>a8 C_is_below fg (hr.mono Zd) (ah (À 0) (ah (Ê 1) af)))) af)))),?_⟩
 by_cases hs:∃ p xs,x=.ref p/\H p=some (.lst xs)
 ·obtain⟨p,xs,rfl,hp⟩:=hs;obtain⟨hl,hty⟩:=hit p xs rfl hp;have et:t=Tg.lst:=by
   have:mn (H p)=some t:=ht;rw[hp] at this;cases this;rfl
  subst et;have ek:eJ H m (.ref p)=(decide (3<=⇑xs)&&decide (⇑xs<=8)&&xs.all (c9 m)):=by show (match H p with | some (.lst xs)=>_ | _=>false)=_;rw[hp]
  rw[ek] at k;ac_nf;refine⟨trivial,Tg.lst,ht,?_⟩;ac_nf;refine⟨_,.l hp,?_⟩
  by_cases h3:3<=⇑xs
  ·rw[a9 h3,eQ] at k;rw[a9 (show (3:Int)<=(⇑xs:Int) by left)];bv_omega
   by_cases h8:⇑xs<=8
   ·rw[a9 h8,eQ] at k;rw[a9 (show (⇑xs:Int)<=8 by left)];bv_omega;refine .inl ⟨⟨_,.of hp⟩,A3 (xs:=xs) (eU (.of hp)) (av ⋯) (fun y=>.bl (c9 m y)) ?_ ?_⟩
    ·intro y hy H2 s2 R hR;obtain⟨ty,hty⟩:=hty y hy;have hty2:gb H2 y=some ty:=kX s2 hty;ac_nf;refine⟨y,ty,m,rfl,hty2,?_⟩;exact hR H2 (aB.refl _)
    ·intro D H2 hD s2 h2;refine⟨D,xs.map (c9 m),rfl,.of (by rw[h2,bf];rfl),?_⟩;have e:(xs.map (c9 m)).all id=xs.all (c9 m):=by rw[ia];rfl
     rw[e];exact k H2 s2
   ·rw[aF h8,jj] at k;rw[aF (show ¬ (⇑xs:Int)<=8 by left)];bv_omega;exact k H (aB.refl _)
  ·rw[aF h3,jj,jj] at k;rw[aF (show ¬ (3:Int)<=(⇑xs:Int) by left)];bv_omega;exact k H (aB.refl _)
 ·have hv:eJ H m x=false:=by
   cases x with
   | ref p =>
    show (match H p with | some (.lst xs)=>_ | _=>false)=_;split
    ·rename_i xs hp;exact absurd ⟨p,xs,rfl,hp⟩ hs
    ·rfl
   | _=>rfl
  have hne:t≠Tg.lst:=fun e=>by
   subst e;cases x with
   | ref a =>
    have h':mn (H a)=some .lst:=ht;cases e:H a with
    | none=>rw[e] at h';cases h'
    | some o=>rw[e] at h';cases o with
     | lst xs=>exact hs ⟨a,xs,rfl,e⟩
     | frz ob u=>exact hfz a ob u rfl e
     | _=>cases h'
   | _=>cases ht
  rw[hv] at k;ac_nf;refine⟨trivial,t,ht,?_⟩;cases t<;>first
   | exact absurd rfl hne
   | exact k H (aB.refl _)
inductive jg (Ad:Ë) (vs:List V) (H:Hp) (Q:VK) (E:XK):Prop
 | mk (a:Addr) (al:Za) (ws:Zb) (r:Int) (x:V) (t:Tg) (q0:vs=[.ref a,x]) (q1:cF Ad H a al ws r) (q2:cw al ws r) (q3:gb H x=some t) (q4:(c9 ((⇑al:Int)^(⇑ws-1)) x=false->∀ H',aB H H'->E (.ref Ad.NoNumber) none H')) (q5:(∀ k,x=.int k->0<=k->k<(⇑al:Int)^(⇑ws-1)->∀ H',aB H H'->Q (.str (tx (Mk.ef al (Mk.ki ⇑al ws r k)))) H')):jg Ad vs H Q E
theorem eN:aJ ["self","k","m","left","ahead","weight","lasts"] ["self","k"] (ax mU):=by subst_eqs
theorem xl (F:Å K "word" "Code.word" mU f fd) (T:Bl mg) (AF:Ç K mg Ad) (C_spelled:Ä P w K mg base (Á P w) 1 "spelled" ["alphabet","places"] uY) (C_are_good:Ä P w K mg base (Á P w) 1 "are_good" ["m","weights","rest","places"] kc) (C_is_below:Ä P w K mg base (Á P w) 2 "is_below" ["thing","bound"] gH) (M_Code_many:Ð P w K mg base (Á P w) Ad.Code "many" 1 ["self"] (fT Ad)):bF P w K mg base (Á P w) 3 f fd ["self","k"] (jg Ad):=by
 specialize eN;obtain⟨a,al,ws,r,x,t,rfl,⟨dx,q,h1,h2⟩,ok,ht,kE,kQ⟩:=h;refine⟨_,ag (bG (c8 (cx (a8 C_is_below az (hr.mono Zd) (ah (À 1) (ah (cY M_Code_many az (hr.mono Zd) (Ê 0)) af))))) (ao (dO dW AF.q_NoNumber AF.g_NoNumber da rfl (ah bt af))) aV) (ag (i6 (i:=2) eN.nd (ay (aH (K:=K) rfl) T.len bz (ah (cz (K:=K) rfl (Ê 0)) af))) (ag (aA (i:=3) eN.nd (À 1)) (ag (i6 (i:=4) eN.nd (cb af)) (ag (eA bU rfl (cG (K:=K) rfl (cN (iq (K:=K) rfl) (cz (K:=K) rfl (Ê 0)) (cM aj) fk)) (aM (i:=5) eN.nd) (ag (eM (cV (K:=K) rfl eF PySem.F.slot_list_insert PySem.F.type_list_insert DQ (Ê 4) (ah aj (ah (aD b0 (À 3) (Ê 2)) af)))) (ao (aA (i:=3) eN.nd (aD eS (À 3) (Ê 2)))))) (ag (mQ (i:=6) ["last"] eN.nd rfl (Or.inl rfl) rfl ⟨rfl,by nofun,rfl,by nofun⟩ (.cons (j:=2) rfl (.inl (by ext)) (.cons (j:=0) rfl (.inl (by ext)) (.cons (j:=4) rfl (.inl (by ext)) (.nil)))) (by nofun) (dC T.range (ah (Ê 2) af)) (fun _ _ _ _=>aM (i:=0) (show (["last","m","self","ahead"]:Ze).Nodup from by nofun)) (fun _ _ _ _=>oz (cx (a8 C_are_good fg (hr.mono Zd) (ah (Ê 1) (ah (cz (K:=K) rfl (Ê 2)) (ah (cz (K:=K) rfl (Ê 2)) (ah (aD aZ (Ê 3) (cb (ah (À 0) af))) af))))))) (fun _ _ _ _=>À 0)) (ao (aG (a8 C_spelled az (hr.mono Zd) (ah (cz (K:=K) rfl (Ê 0)) (ah (aD aZ (Ê 4) (À 6)) af)))))))))),?_⟩;have g3:=ok.a3;have g26:=ok.a26;have w3:=ok.w3;have w8:=ok.w8;rw[dF];symm;refine⟨dx,_,h1,c5 Zd Zd Zd al q r,a,al,ws,r,rfl,⟨dx,q,h1,h2⟩,g26,⋯,w8,fun H1 s1=>?_⟩;symm;refine⟨x,t,_,rfl,kX s1 ht,?_⟩;cases hG:c9 ((⇑al:Int)^(⇑ws-1)) x with
 | false =>bv_omega;exact⟨Zd,kE hG H1 s1⟩
 | true =>
  bv_omega;obtain⟨k,rfl⟩:∃ k,x=.int k:=by
   cases x with
   | int k=>exact⟨k,rfl⟩
   | _=>cases hG
  have hG':(decide (0<=k)&&decide (k<(⇑al:Int)^(⇑ws-1)))=true:=hG;rw[bV,bE,bE] at hG';have kQ':=kQ k rfl hG'.1 hG'.2;have h11:=s1 _ _ h1;have h21:=s1 _ _ h2;rw[dF];symm;refine⟨_,dx,_,_,h11,AF.c_Code,AF.n_Code_letters,dZ al q r,?_⟩;symm;rw[bh];refine⟨aT (av ⋯),?_⟩;symm;rw[dF];symm;rw[dF];symm;refine⟨br _,fun p H2 hp s2 hp2=>?_⟩;rw[dF];symm;refine⟨_,dx,_,_,s2 _ _ h11,AF.c_Code,AF.n_Code_factors,fY al q r,?_⟩;symm;refine⟨_,.of (s2 _ _ h21),fun q1 H3 hq1 s3 h3=>.inl ⟨⟨_,.of h3⟩,?_⟩⟩;rw[show (1:Int)=((1:Nat):Int) from rfl,rA,←nO] at h3;have hp3:=s3 _ _ hp2;have hqp:q1≠p:=fun e=>by rw[e,hp2] at hq1;cases hq1
  have hap:a≠p:=fun e=>by rw[←e,h11] at hp;cases hp
  have hqq:q≠p:=fun e=>by rw[←e,h21] at hp;cases hp
  have h13:=s3 _ _ (s2 _ _ h11);have h23:=s3 _ _ (s2 _ _ h21);have m0:(0:Int)<⇑al:=⋯
  refine sY (xs:=(ws.drop 1).map V.int) (fun i σ H'=>(∀ b o,b≠p->H3 b=some o->H' b=some o)/\H' p=some (.lst ((Mk.kP ⇑al i k).map V.int))/\∃ o,σ=[some (.ref a),some (.int k),some (.int ⇑al),some (.int (k/(⇑al:Int)^i)),some (.ref p),o,none]) ?_ ?_ ?_ ?_
  ·exact⟨fun _ _ _ h=>h,hp3,none,by rw[Int.pow_zero,Int.ediv_one]⟩
  ·rintro i σ H' _ ⟨f1,_⟩;exact .of (f1 _ _ hqp h3)
  ·rintro i x σ H' hx ⟨f1,f2,o,rfl⟩;have hi:i<⇑ws-1:=by
    have:=(bL.mp hx).1;rw[ak,cX] at this;exact this
   ac_nf;refine⟨.inl ⟨rfl,_,.of f2⟩,m0,_,f2,Int.le_refl 0,Zd,?_,⟨m0,Int.lt_of_lt_of_le (show (⇑al:Int)<1000 by left) Zd⟩,fun b o hb e=>?_,?_,some x,?_⟩
   ·rw[ak,Mk.kR];exact av ⋯
   ·rw[aN hb];exact f1 b o hb e
   ·rw[aI,Mk.vL m0];rfl
   ·rw[Int.ediv_ediv_of_nonneg (Int.pow_nonneg (iH m0)),Int.pow_succ]
  ·rintro σ H' ⟨f1,f2,o,rfl⟩;rw[ak,cX] at f2;have f13:=f1 _ _ hap h13;have f23:=f1 _ _ hqq h23;have fm:=Mk.tR m0 (⇑ws-1) k;have fl:=Mk.kR ⇑al (⇑ws-1) k;obtain⟨l1,l2,l3,-⟩:=Mk.rF (r:=r) m0 ⋯ ok.wm (Mk.jz.mp ok.safe).1 (show ⇑(Mk.kP ⇑al (⇑ws-1) k)+1=⇑ws by left);ac_nf;refine⟨⋯,(by omega),?_⟩;refine KA V.int ja (Cp ⇑al) (by rw[Mk.BZ];exact av ⋯) (fun x=>Mk.good ⇑al ws r (Mk.kP ⇑al (⇑ws-1) k++[x])) V.int ?_ ?_ ?_
   ·intro x hx H5 s5 R hR;have hxm:=Mk.lS.mp hx;ac_nf;refine⟨_,dx,_,_,s5 _ _ f13,AF.c_Code,AF.n_Code_factors,fY al q r,?_⟩;refine⟨_,dx,_,_,s5 _ _ f13,AF.c_Code,AF.n_Code_remainder,mw al q r,?_⟩;refine⟨aT (av Zd),fun p1 H6 hp1 s6 h6=>?_⟩;have f26:=s6 _ _ (s5 _ _ f2);refine⟨_,_,f26,h6,by rw[ak,fl];show ⇑ws-1+1<=sizeLine;exact aT (av ⋯),fun p2 H7 hp2 s7 h7=>?_⟩;refine⟨_,q,ws,r,p2,Mk.kP ⇑al (⇑ws-1) k++[x],rfl,m0,s7 _ _ (s6 _ _ (s5 _ _ f23)),by rw[h7,bD];rfl,⋯,ok.ð,?_,fun H8 s8=>⟨_,rfl,hR H8 ((s6.trans s7).trans s8)⟩⟩;intro y hy;rcases bC.mp hy with hy | hy
    ·have:=fm y hy;left
    ·rw[aS.mp hy];left
   ·intro x hx _ H5 s5 R hR;ac_nf;exact hR H5 (aB.refl _)
   ·intro D H5 hD s5 h5;have f15:=s5 _ _ f13;have f25:=s5 _ _ f2;have h5':H5 D=some (.lst ([Mk.sj ⇑al ws r (Mk.kP ⇑al (⇑ws-1) k)].map V.int)):=by
     rw[h5,←l1];rfl
    ac_nf;refine⟨_,dx,_,_,f15,AF.c_Code,AF.n_Code_letters,dZ al q r,_,_,f25,h5',by rw[ak,fl];show ⇑ws-1+1<=sizeLine;exact aT (av ⋯),fun p1 H6 hp1 s6 h6=>?_⟩;refine⟨tx al,p1,Mk.ki ⇑al ws r k,rfl,by rw[bh];left,by rw[h6,←bD];rfl,?_,?_,fun H7 s7=>?_⟩
    ·unfold Mk.ki;rw[aE,fl];show ⇑ws-1+1<=_;left
    ·rw[bW];unfold Mk.ki;intro y hy;rcases bC.mp hy with hy | hy
     ·exact fm y hy
     ·rw[aS.mp hy];exact⟨l2,l3⟩
    ·rw[bW];refine kQ' H7 fun b o e=>?_;have hbp:b≠p:=fun e2=>by rw[←e2,s1 _ _ e] at hp;cases hp
     exact s7 _ _ (s6 _ _ (s5 _ _ (f1 b o hbp (s3 _ _ (s2 _ _ (s1 _ _ e))))))
inductive eB (Ad:Ë) (vs:List V) (H:Hp) (Q:VK) (E:XK):Prop
 | mk (a:Addr) (al:Za) (ws:Zb) (r:Int) (x:V) (t:Tg) (q0:vs=[.ref a,x]) (q1:cF Ad H a al ws r) (q2:cw al ws r) (q3:gb H x=some t) (q4:(∀ z,x=.str z->⇑z<=100000)) (q5:∀ H',aB H H'->Q (.bl (jT (tx al) ws r x)) H'):eB Ad vs H Q E
theorem rL (F:Å K "has_good" "Code.has_good" iT f fd) (T:Bl mg) (AF:Ç K mg Ad) (C_is_good:Ä P w K mg base (Á P w) 2 "is_good" ["alphabet","weights","rest","word"] pW):bF P w K mg base (Á P w) 3 f fd ["self","thing"] (eB Ad):=by
 exists["self","thing"];obtain⟨a,al,ws,r,x,t,rfl,⟨dx,q,h1,h2⟩,ok,ht,hz,k⟩:=h;refine⟨_,ao (aG (a8 C_is_good az (hr.mono Zd) (ah (cz (K:=K) rfl (À 0)) (ah (cz (K:=K) rfl (À 0)) (ah (cz (K:=K) rfl (À 0)) (ah (À 1) af)))))),?_⟩;ac_nf;refine⟨_,dx,_,_,h1,AF.c_Code,AF.n_Code_letters,dZ al q r,?_⟩;refine⟨_,dx,_,_,h1,AF.c_Code,AF.n_Code_factors,fY al q r,?_⟩;refine⟨_,dx,_,_,h1,AF.c_Code,AF.n_Code_remainder,mw al q r,?_⟩;have g3:=ok.a3;have g26:=ok.a26;have w8:=ok.w8;refine⟨tx al,q,ws,r,x,t,rfl,h2,⋯,by rw[bh];left,by rw[bh];left,ok.ð,ht,hz,k⟩
def uX:Sp:=fun vs H Q _=>∃ l:Za,vs=[.str (tx l)]/\⇑l<=10000/\∀ H',aB H H'->Q (.bl (gO 60 l)) H'
theorem AH (F:Å K "is_text" "is_text" rS f fd) (T:Bl mg) (AF:Ç K mg Ad) (C_are_words:Ä P w K mg base (Á P w) 2 "are_words" ["thing","most"] mi):bF P w K mg base (Á P w) 3 f fd ["thing"] uX:=by
 exists["thing"];obtain⟨l,rfl,hl,k⟩:=h;refine⟨_,ao (aG (a8 C_are_words az (hr.mono Zd) (ah (À 0) (ah (dB AF.v_MOST_WORDS) af)))),?_⟩;ac_nf;refine⟨.str (tx l),.str,60,rfl,rfl,(fun z ez=>by cases ez;rw[bh];exact hl),Zd,fun H1 s1=>?_⟩;have e:i5 60 (.str (tx l))=gO 60 l:=by show gO 60 (tx l).cps.toList=_;rw[bW]
 rw[e];exact k H1 s1
inductive j8 (Ad:Ë) (vs:List V) (H:Hp) (Q:VK) (E:XK):Prop
 | mk (a:Addr) (al z:Za) (ws:Zb) (r:Int) (o:Option Flt) (v:V) (q0:vs=[.ref a,.str (tx z),v]) (q1:cF Ad H a al ws r) (q2:r6 al z) (q3:((o=none/\v=.non)∨∃ t f,o=some f/\v=.ref t/\H t=some (.tup [.str (å f.isL),.int f.n])/\0<=f.n)) (q4:Q (.str (tx (kN al z o))) H):j8 Ad vs H Q E
theorem uv (F:Å K "as_it_comes" "as_it_comes" ku f fd) (T:Bl mg) (AF:Ç K mg Ad) (C_swapped:Ä P w K mg base (Á P w) 1 "swapped" ["word","number"] uZ) (C_exchanged:Ä P w K mg base (Á P w) 2 "exchanged" ["code","word","number"] (mj Ad)):bF P w K mg base (Á P w) 3 f fd ["code","word","fault"] (j8 Ad):=by
 exists["code","word","fault"];obtain⟨a,al,z,ws,r,o,v,rfl,hC,ok,ho,k⟩:=h;refine⟨_,ag (bG (aR jq (À 2) dh (aU _)) (ao (aG (À 1))) aV) (ag (bG (aR (c6 (K:=K) rfl hu) (bg (bN (K:=K) rfl) (À 2) aj (fun _ _=>rfl)) bt (aU _)) (ao (aG (a8 C_exchanged az (hr.mono Zd) (ah (À 0) (ah (À 1) (ah (bg (bN (K:=K) rfl) (À 2) aj (fun _ _=>rfl)) af)))))) aV) (ao (aG (a8 C_swapped az (hr.mono Zd) (ah (À 1) (ah (bg (bN (K:=K) rfl) (À 2) aj (fun _ _=>rfl)) af)))))),?_⟩;rcases ho with ⟨rfl,rfl⟩ | ⟨t,f,rfl,rfl,ht,hn⟩
 ·ac_nf;exact k
 grind;show nn _ _ _;cbv;grind;refine⟨_,_,.t ht,bb (j:=0) rfl,?_⟩;symm;obtain⟨f1,f2,fl,fn⟩:=f;cases fl with
 | true =>rw[aq (show decide (å true=Str.ofString "letter")=true from rfl)];exact⟨_,_,.t ht,bb (j:=1) rfl,a,al,z,ws,r,fn,rfl,hC,ok,hn,k⟩
 | false =>rw[ai (show ¬ decide (å false=Str.ofString "letter")=true from by decide)];show nn _ _ _;cbv;symm;exact⟨_,_,.t ht,bb (j:=1) rfl,z,fn,rfl,ok.z3,ok.z8,hn,k⟩
def nv:Sp:=fun vs H Q _=>∃ (x:V) (t:Tg),vs=[x]/\gb H x=some t/\(∀ p xs,x=.ref p->H p=some (.tup xs)->⇑xs<=1000/\∀ y∈xs,(∃ t,gb H y=some t)/\∀ z,y=.str z->⇑z<=10000)/\∀ H',aB H H'->Q (.bl (rB H x)) H'
theorem yT (F:Å K "is_entry" "is_entry" pK f fd) (T:Bl mg) (AF:Ç K mg Ad) (C_are_letters:Ä P w K mg base (Á P w) 1 "are_letters" ["thing","most"] j7) (C_are_words:Ä P w K mg base (Á P w) 2 "are_words" ["thing","most"] mi):bF P w K mg base (Á P w) 3 f fd ["thing"] nv:=by
 exists["thing"];obtain⟨x,t,rfl,ht,hit,k⟩:=h;refine⟨_,ag (bG ((iE (c8 (cx (ay (dG .tup) T.isinstance bt_isinstance (ah (À 0) (ah (iR T.tuple xX) af))))) (iE (aR (c6 (K:=K) rfl hu) (ay (aH (K:=K) rfl) T.len bz (ah (À 0) af)) aj (aU _)) (gW (c8 (cx (ay (dG .str) T.isinstance bt_isinstance (ah (bg (bN (K:=K) rfl) (À 0) aj (fun _ _=>rfl)) (ah (iR T.str tK) af)))))))).pt) (ao (aG iD)) aV) (ag (bG (aR (c6 (K:=K) rfl hu) (ay (aH (K:=K) rfl) T.len bz (ah (À 0) af)) aj (aU _)) (ao (aG (cT (c6 (K:=K) rfl hu) (bg (bN (K:=K) rfl) (À 0) aj (fun _ _=>rfl)) bt (aU _)))) aV) (ag (bG (aR (gS (K:=K) rfl hu) (ay (aH (K:=K) rfl) T.len bz (ah (À 0) af)) aj (aU _)) (ao (aG iD)) aV) (ag (bG (aR (c6 (K:=K) rfl hu) (bg (bN (K:=K) rfl) (À 0) aj (fun _ _=>rfl)) bt (aU _)) (ao (aG (a8 C_are_words az (hr.mono Zd) (ah (bg (bN (K:=K) rfl) (À 0) aj (fun _ _=>rfl)) (ah (dB AF.v_MOST_PHRASE_WORDS) af))))) aV) (ao (aG (pC (cT (c6 (K:=K) rfl hu) (bg (bN (K:=K) rfl) (À 0) aj (fun _ _=>rfl)) bt (aU _)) (mP (a8 C_are_letters az (hr.mono Zd) (ah (bg (bN (K:=K) rfl) (À 0) aj (fun _ _=>rfl)) (ah (dB AF.v_MOST_PART_LETTERS) af)))))))))),?_⟩
 by_cases hs:∃ p xs,x=.ref p/\H p=some (.tup xs)
 ·obtain⟨p,xs,rfl,hp⟩:=hs;obtain⟨hl,hty⟩:=hit p xs rfl hp;have et:t=Tg.tup:=by
   have:mn (H p)=some t:=ht;rw[hp] at this;cases this;rfl
  subst et;have ek:rB H (.ref p)=iP xs:=by show (match H p with | some (.tup xs)=>iP xs | _=>false)=_;rw[hp]
  rw[ek] at k;have hT:Sq K H p xs:=.t hp;rw[dF];symm;refine⟨trivial,Tg.tup,ht,?_⟩;symm;refine⟨_,hT,?_⟩
  match xs,hT,hty,hl,k with
  | [],hT,hty,hl,k =>symm;exact k H (aB.refl _)
  | v::r,hT,hty,hl,k =>
   rw[aF (show ¬ ((⇑(v::r):Nat):Int)=0 by rw[bH];left)];bv_omega;have a0:Õ (v::r) 0=some v:=bb (xs:=v::r) (j:=0) rfl;refine⟨_,v,hT,a0,?_⟩;obtain⟨⟨tv,htv⟩,hzv⟩:=hty v bu
   by_cases hvs:∃ z,v=.str z
   ·obtain⟨z,rfl⟩:=hvs;refine⟨Tg.str,rfl,?_⟩;symm;rw[dF];symm;refine⟨_,hT,?_⟩
    match r,hT,hty,hl,k with
    | [],hT,hty,hl,k =>symm;rw[aq (by rfl)];refine⟨_,_,hT,bb (xs:=[V.str z]) (j:=0) rfl,k H (aB.refl _)⟩
    | [y],hT,hty,hl,k =>
     rw[aF (show ¬ ((⇑([V.str z,y]:List V):Nat):Int)=1 by show ¬ (2:Int)=1;decide)];bv_omega;obtain⟨⟨ty,hty1⟩,hzy⟩:=hty y (b8 _ bu);have a0:Õ [V.str z,y] 0=some (.str z):=bb (xs:=[V.str z,y]) (j:=0) rfl;have a1:Õ [V.str z,y] 1=some y:=bb (xs:=[V.str z,y]) (j:=1) rfl;rw[dF];symm;refine⟨_,hT,?_⟩;rw[ai (show ¬ (!decide ((([V.str z,y].length:Nat):Int)=2))=true by rw[show [V.str z,y].length=2 from rfl];decide)];rw[dF];symm;refine⟨_,_,hT,a0,?_⟩;symm;have ek2:iP [.str z,y]=if z=("phrase":Str) then i5 6 y else if z=("part":Str) then gN 6 y else false:=rfl
     rw[ek2] at k
     by_cases e1:z=("phrase":Str)
     ·rw[aq e1] at k;rw[a9 e1];bv_omega;refine⟨_,_,hT,a1,?_⟩;exact⟨y,ty,6,rfl,hty1,hzy,Zd,k⟩
     ·rw[ai e1] at k;rw[aF e1];bv_omega;symm;refine⟨_,_,hT,a0,?_⟩;symm
      by_cases e2:z=("part":Str)
      ·rw[aq e2] at k;rw[a9 e2];bv_omega;refine⟨_,_,hT,a1,?_⟩;exact⟨y,ty,6,rfl,hty1,(fun w e=>by have:=hzy w e;left),Zd,k⟩
      ·rw[ai e2] at k;rw[aF e2];bv_omega;exact k H (aB.refl _)
    | y::y2::r,hT,hty,hl,k =>have hlen:⇑(V.str z::y::y2::r)=⇑r+3:=rfl;rw[hlen,aF (show ¬ (((⇑r+3:Nat)):Int)=1 by left)];bv_omega;rw[dF];symm;refine⟨_,hT,?_⟩;rw[hlen,aF (show ¬ (((⇑r+3:Nat)):Int)=2 by left)];bv_omega;exact k H (aB.refl _)
   ·have hv:iP (v::r)=false:=by
     cases v with
     | str z=>exact absurd ⟨z,rfl⟩ hvs
     | _=>cases r with
      | nil=>rfl
      | cons y r=>cases r<;>rfl
    have hne:=qJ htv fun z e=>hvs ⟨z,e⟩;rw[hv] at k;refine⟨tv,htv,?_⟩;cases tv<;>first
     | exact absurd rfl hne
     | exact k H (aB.refl _)
 ·have hv:rB H x=false:=by
   cases x with
   | ref p =>
    show (match H p with | some (.tup xs)=>iP xs | _=>false)=_;split
    ·rename_i xs hp;exact absurd ⟨p,xs,rfl,hp⟩ hs
    ·rfl
   | _=>rfl
  have hne:t≠Tg.tup:=fun e=>by
   subst e;cases x with
   | ref a =>
    have h':mn (H a)=some .tup:=ht;cases e:H a with
    | none=>rw[e] at h';cases h'
    | some o=>rw[e] at h';cases o with
     | tup xs=>exact hs ⟨a,xs,rfl,e⟩
     | frz ob u=>cases u<;>cases h'
     | _=>cases h'
   | _=>cases ht
  rw[hv] at k;rw[dF];symm;refine⟨trivial,t,ht,?_⟩;cases t<;>first
   | exact absurd rfl hne
   | exact k H (aB.refl _)
theorem kK {b k:Int} (h0:0<=k) (h1:k<b):c9 b (.int k)=true:=by show (decide (0<=k)&&decide (k<b))=true;rw[a9 h0,a9 h1];rfl
theorem CG {b:Int} (h:c9 b x=true):∃ k,x=.int k/\0<=k/\k<b:=by
 cases x with
 | int k =>have h':(decide (0<=k)&&decide (k<b))=true:=h;rw[bV,bE,bE] at h';exact⟨k,rfl,h'⟩
 | _=>cases h
inductive i7 (Ad:Ë) (vs:List V) (H:Hp) (Q:VK) (E:XK):Prop
 | mk (b ca dn de:Addr) (es:List Æ) (al:Za) (ws:Zb) (r:Int) (x:V) (t:Tg) (q0:vs=[.ref b,x]) (q1:du Ad H b ca dn de es) (q2:cF Ad H ca al ws r) (q3:cw al ws r) (q4:gb H x=some t) (q5:(c9 (dj al ws) x=false->∀ H',aB H H'->Q .non H')) (q6:(∀ n,x=.int n->0<=n->n<dj al ws->n∉es.map (·.num)->∀ H',aB H H'->Q .non H')) (q7:(∀ n,x=.int n->0<=n->n<dj al ws->∀ e∈es,e.num=n->∀ H',aB H H'->Q (.ref e.adr) H')):i7 Ad vs H Q E
theorem vx:aJ ["self","number"] ["self","number"] (ax lW):=by subst_eqs
theorem vo (F:Å K "entry" "Book.entry" lW f fd) (T:Bl mg) (AF:Ç K mg Ad) (C_is_below:Ä P w K mg base (Á P w) 2 "is_below" ["thing","bound"] gH) (M_Code_many:Ð P w K mg base (Á P w) Ad.Code "many" 1 ["self"] (fT Ad)):bF P w K mg base (Á P w) 3 f fd ["self","number"] (i7 Ad):=by
 refine F.â (k:=2) vx ?_ (fun cdv A outer s H vs Q E hr h=>?_)
 ·bv_decide
 ·obtain⟨b,ca,dn,de,es,al,ws,r,x,t,rfl,B,C,ok,ht,k1,k2,k3⟩:=h;obtain⟨dx,h1⟩:=B.bk;have hu:=hr.iX;have hu1:=mF hr;refine⟨_,ag (bG (c8 (cx (a8 C_is_below az (hr.mono Zd) (ah (À 1) (ah (cY M_Code_many az (hr.mono Zd) (cz (K:=K) rfl (À 0))) af))))) (ao (aG dh)) aV) (ao (aG (rN hu1 (cz (K:=K) rfl (À 0)) (À 1)))),?_⟩;grind;refine⟨_,dx,_,_,h1,AF.c_Book,AF.n_Book_basis,jS ca dn de,?_⟩;obtain⟨dc,qc,hc1,hc2⟩:=id C;refine⟨dc,_,hc1,c5 Zd Zd Zd al qc r,ca,al,ws,r,rfl,C,ok.a26,by have:=ok.w3;left,ok.w8,fun G1 t1=>?_⟩;refine⟨x,t,_,rfl,kX t1 ht,?_⟩;cases hb:c9 ((⇑al:Int)^(⇑ws-1)) x with
  | false =>symm;exact k1 hb G1 t1
  | true =>
   symm;cbv;obtain⟨n,rfl,n0,n1⟩:=CG hb;have B1:=B.same t1;obtain⟨dx1,h11⟩:=B1.bk;symm;refine⟨_,dx1,_,_,h11,AF.c_Book,AF.n_Book_by_number,kL ca dn de,dn,rfl,.inl ⟨_,.inl B1.hn⟩,_,.inl ⟨_,.inl n,.inl B1.hn,rfl,rfl⟩,?_⟩
   by_cases hm:n∈es.map (·.num)
   ·obtain⟨e,he,ee⟩:=aO.mp hm;rw[←ee,xf B.nn he];exact k3 n rfl n0 n1 e he ee G1 t1
   ·rw[uk hm];exact k2 n rfl n0 n1 hm G1 t1
def sI (K:Zf):Sp:=fun vs H Q _=>∃ (a:Addr) (ns:Zb),vs=[.ref a]/\Ã K H a (ns.map V.int)/\∀ p q al ws r H',aB H H'->CA H' p q al ws r->cw al ws r->(5<=⇑al/\⇑ws<=5/\⇑al%2=1)->(⇑al=5->4<=⇑ws)->Q (.ref p) H'
theorem jZ:aJ ["_law_script","_law_alphabet_here","_law_m","_law_weights_here"] ["_law_script"] (ax pP):=by subst_eqs
theorem yX (F:Å K "_law_code" "_law_code" pP f fd) (T:Bl mg) (AF:Ç K mg Ad) (C_law_cell_at:Ä P w K mg base (Á P w) 1 "_law_cell_at" ["_law_script","_law_k"] (eC K)) (C_law_weights:Ä P w K mg base (Á P w) 2 "_law_weights" ["_law_m","_law_cell","_law_length"] nA) (C_law_alphabet:Ä P w K mg base (Á P w) 1 "_law_alphabet" ["_law_cell"] m4):bF P w K mg base (Á P w) 3 f fd ["_law_script"] (sI K):=by
 specialize jZ;obtain⟨a,ns,rfl,hS,k⟩:=h;refine⟨_,ag (aA (i:=1) jZ.nd (a8 C_law_alphabet az (hr.mono Zd) (ah (a8 C_law_cell_at az (hr.mono Zd) (ah (À 0) (ah aj af))) af))) (ag (aA (i:=2) jZ.nd (ay (aH (K:=K) rfl) T.len bz (ah (À 1) af))) (ag (aA (i:=3) jZ.nd (a8 C_law_weights az (hr.mono Zd) (ah (À 2) (ah (a8 C_law_cell_at az (hr.mono Zd) (ah (À 0) (ah aj af))) (ah (aD aZ (aD aZ aj (aD b0 (a8 C_law_cell_at az (hr.mono Zd) (ah (À 0) (ah aj af))) aj)) (c7 vE T.int zI (ah (cT (c6 (K:=K) rfl hu) (À 2) aj (aU _)) af))) af))))) (ao (aG (dw (ah (À 1) (ah (À 3) (ah (aD b0 (a8 C_law_cell_at az (hr.mono Zd) (ah (À 0) (ah aj af))) (À 2)) af)))))))),?_⟩;grind;refine⟨a,ns,0,rfl,hS,Zd,_,rfl,fun al H1 s1 hl nd abc=>?_⟩;cbv;have hl2:5<=⇑al/\⇑al<=25/\⇑al%2=1:=by
  have:∀ x∈[5,7,9,11,13,15,25],5<=x/\x<=25/\x%2=1:=by decide
  exact this _ hl
 clear hl;grind;rw[bh];refine⟨aT (av ⋯),?_⟩;cbv;grind;refine⟨a,ns,1,rfl,s1.seq hS,Zd,a,ns,1,rfl,s1.seq hS,Zd,?_⟩;generalize ns.getD (1:Int).toNat 0=c1;symm;refine⟨Zd,?_⟩;obtain⟨n,hn,n3,n5,h4⟩:∃ n:Nat,3+c1%2+(if decide ((⇑al:Int)=5)=true then 1 else 0)=(n:Int)/\3<=n/\n<=5/\(⇑al=5->4<=n):=by
  by_cases e:(⇑al:Int)=5
  ·rw[aq (a9 e)];exact⟨(3+c1%2+1).toNat,⋯,⋯,⋯,⋯⟩
  ·rw[ai (by rw[bE];exact e)];exact⟨(3+c1%2+0).toNat,⋯,⋯,⋯,⋯⟩
 rw[hn];refine⟨c1,⇑al,n,rfl,⋯,⋯,hl2.2.2,⋯,fun q ws H2 hq s2 h2 wl wm wsafe=>?_⟩;cbv;symm;refine⟨a,ns,2,rfl,(s1.trans s2).seq hS,Zd,?_⟩;generalize ns.getD (2:Int).toNat 0=c2;symm;refine⟨⋯,aT (av Zd),fun p H3 hp s3 h3=>?_⟩;exact k p q al ws _ H3 (s1.trans (s2.trans s3)) ⟨h3,s3 _ _ h2⟩ ⟨⋯,⋯,nd,abc,⋯,⋯,wm,wsafe,b7 _ ⋯,bJ _ ⋯⟩ ⟨⋯,⋯,hl2.2.2⟩ (fun e=>by have:=h4 e;left)
theorem KI (h5:5<=⇑al) (w3:3<=⇑ws) (h4:⇑al=5->4<=⇑ws) (ho:⇑al%2=1):49<=dj al ws:=by
 unfold dj;have e:((⇑al^(⇑ws-1):Nat):Int)=(⇑al:Int)^(⇑ws-1):=by simp
 rw[←e];have:49<=⇑al^(⇑ws-1):=by
  by_cases h:⇑al=5
  ·rw[h];exact bM (show 49<=5^3 by decide) (nT Zd (by have:=h4 h;left))
  ·exact bM (show 49<=7^2 by decide) (bM (qX ⋯ 2) (nT ⋯ ⋯))
 left
theorem Io (ns:Zb) {M n:Int} (h0:(⇑ns:Int)<M):∃ t:Nat,t<=⇑ns/\(n+(t:Int))%M∉ns:=by
 refine Classical.byContradiction fun hno=>?_;have hs:∀ c∈(List.range (⇑ns+1)).map (fun t:Nat=>(n+(t:Int))%M),c∈ns:=fun c hc=>by obtain⟨t,ht,rfl⟩:=aO.mp hc;have:=cE.mp ht;exact Classical.byContradiction fun h=>hno ⟨t,⋯,h⟩
 have nd:((List.range (⇑ns+1)).map (fun t:Nat=>(n+(t:Int))%M)).Nodup:=by refine nR.mpr (List.Pairwise.imp_of_mem (R:=(·<·)) (fun {i j} hi hj hij e=>?_) List.pairwise_lt_range);have hj':=cE.mp hj;have h1:=vi.mp e.symm;have h2:=kY h1;rw[show n+(j:Int)-(n+(i:Int))=(j:Int)-i by left] at h2;have:=Int.le_of_dvd ⋯ h2;left
 have:=List.Nodup.length_le_of_subset nd hs;rw[ak,bZ] at this;left
def oS (H:Hp) (vs:List V):Prop:=∀ v∈vs,∃ t key,v=V.ref t/\H t=some (.tup (key.map kV))/\fV key
theorem oS.same {H H':Hp} (h:oS H vs) (s:aB H H'):oS H' vs:=fun v hv=>by obtain⟨t,key,e,ht,ok⟩:=h v hv;exact⟨t,key,e,s _ _ ht,ok⟩
theorem oS.app {a b:List V} (h:oS H a) (k:oS H b):oS H (a++b):=fun v hv=>(bC.mp hv).elim (h v) (k v)
inductive j9 (K:Zf) (vs:List V) (H:Hp) (Q:VK) (E:XK):Prop
 | mk (p q a:Addr) (ns:Zb) (al:Za) (ws:Zb) (r:Int) (q0:vs=[.ref p,.ref a,.bl true]) (q1:Ã K H a (ns.map V.int)) (q2:CA H p q al ws r) (q3:cw al ws r) (q4:49<=dj al ws) (q5:∀ (T pw D:Addr) (zs:List Za) (es:List Æ) (H':Hp),aB H H'->H D=none->H' T=some (.tup [.ref pw,.ref D])->H' pw=some (.lst (zs.map È))->⇑zs=6->(∀ z∈zs,mr z)->H' D=some (.dK (iu es))->č al ws H' es->⇑es<=16->oJ∈es.map (fun e:Æ=>e.key)->Q (.ref T) H'):j9 K vs H Q E
theorem bS:aJ ["_law_code_here","_law_script","_law_full","_law_words","_law_many","_law_k","_law_some","_law_found","_law_number"] ["_law_code_here","_law_script","_law_full"] (ax kA):=by subst_eqs
theorem uz (F:Å K "_law_entries" "_law_entries" kA f fd) (T:Bl mg) (AF:Ç K mg Ad) (C_law_mixed:Ä P w K mg base (Á P w) 1 "_law_mixed" ["_law_cell","_law_k"] fU) (C_law_cell_at:Ä P w K mg base (Á P w) 1 "_law_cell_at" ["_law_script","_law_k"] (eC K)) (C_law_entry:Ä P w K mg base (Á P w) 2 "_law_entry" ["_law_cell","_law_words"] qH) (C_law_vocabulary:Ä P w K mg base (Á P w) 2 "_law_vocabulary" ["_law_cell"] kh):bF P w K mg base (Á P w) 3 f fd ["_law_code_here","_law_script","_law_full"] (j9 K):=by
 specialize bS;obtain⟨p,q,a,ns,al,ws,r,rfl,hS,hP,ok,m49,k⟩:=h;have æ:=hr.æ;refine⟨_,ag (i6 (i:=3) bS.nd (a8 C_law_vocabulary az (hr.mono Zd) (ah (a8 C_law_cell_at az (hr.mono Zd) (ah (À 1) (ah aj af))) af))) (ag (aA (i:=4) bS.nd aj) (ag (eA bU rfl (dC T.range (ah (aD fi (ay (aH (K:=K) rfl) T.len bz (ah (bg (bN (K:=K) rfl) (À 0) aj (fun _ _=>rfl)) af)) aj) af)) (aM (i:=5) bS.nd) (ao (aA (i:=4) bS.nd (aD lU (À 4) (ay (aH (K:=K) rfl) T.len bz (ah (bg (bN (K:=K) rfl) (À 0) aj (fun _ _=>rfl)) af)))))) (ag (aA (i:=6) bS.nd (cb (ah (dw (ah bt af)) af))) (ag (bG (cx (À 2)) (ao (aA (i:=6) bS.nd (aD aZ (À 6) (fZ ["_law_letter"] rfl ⟨rfl,by nofun,rfl,by nofun⟩ (.nil) (by nofun) (cG (K:=K) rfl bt) (fun _ _ _ _=>aM (i:=0) (show (["_law_letter"]:Ze).Nodup from by nofun)) (fun _ _ _ _=>cZ) (fun _ _ _ _=>dw (ah bt (ah (À 0) af))))))) aV) (ag (aA (i:=6) bS.nd (aD aZ (À 6) (fZ ["_law_cell"] rfl ⟨rfl,by nofun,rfl,by nofun⟩ (.cons (j:=3) rfl (.inl (by ext)) (.nil)) (by nofun) (cG (K:=K) rfl (cN (iq (K:=K) rfl) (À 1) (cM aj) (cM aj))) (fun _ _ _ _=>aM (i:=0) (show (["_law_cell","_law_words"]:Ze).Nodup from by nofun)) (fun _ _ _ _=>cZ) (fun _ _ _ _=>a8 C_law_entry fg (hr.mono Zd) (ah (À 0) (ah (Ê 1) af)))))) (ag (aA (i:=7) bS.nd ze) (ag (eA bU rfl (dC T.range (ah (ay (aH (K:=K) rfl) T.len bz (ah (À 6) af)) af)) (aM (i:=5) bS.nd) (ag (aA (i:=8) bS.nd (aD b0 (a8 C_law_mixed az (hr.mono Zd) (ah (aD aZ (a8 C_law_cell_at az (hr.mono Zd) (ah (À 1) (ah (aD aZ aj (aD b0 (À 5) aj)) af))) (À 5)) (ah aj af))) (À 4))) (ag (mR bU (aR (mL (K:=K) rfl hu1) (À 8) (À 7) (by ext)) (ao (aA (i:=8) bS.nd (aD b0 (aD aZ (À 8) aj) (À 4))))) (ao (bG (aR (wb (K:=K) rfl rfl æ) (bg (bN (K:=K) rfl) (À 6) (À 5) (fun _ _=>rfl)) (Cc (À 7)) (by ext)) (ao (uK hu1 (À 7) (À 8) (bg (bN (K:=K) rfl) (À 6) (À 5) (fun _ _=>rfl)))) aV))))) (ao (aG (dw (ah (Ê 3) (ah (À 7) af)))))))))))),?_⟩;have big:∀ {u:Nat},u<=1000->u<=sizeLine:=fun hu=>aT (av ⋯);obtain⟨hP1,hP2⟩:=hP;have a26:=ok.a26;have a3:=ok.a3;have w3:=ok.w3;have w8:=ok.w8;grind;refine⟨a,ns,3,rfl,hS,Zd,?_⟩;generalize ns.getD (3:Int).toNat 0=c3;refine⟨c3,rfl,fun pw zs H1 hpw s1 h1 zl hz=>?_⟩;cbv;grind;cbv;grind;refine⟨_,_,.t (s1 _ _ hP1),bb (j:=1) rfl,?_⟩;symm;refine⟨_,.l (s1 _ _ hP2),?_⟩;rw[ak];symm;refine⟨⋯,⋯,?_⟩;rw[show ((⇑ws:Int)-1).toNat=⇑ws-1 by left];refine fz (n:=⇑ws-1) (fun i σ G=>G=H1/\∃ o5,σ=[some (V.ref p),some (V.ref a),some (V.bl true),some (V.ref pw),some (V.int ((⇑al:Int)^i)),o5,none,none,none]) ?_ ?_ ?_
 ·exact⟨rfl,_,rfl⟩
 ·rintro i σ G hi ⟨rfl,o5,rfl⟩ N hNx;clear hN;rw[fX,fG];symm;refine⟨_,_,.t (s1 _ _ hP1),bb (j:=0) rfl,?_⟩;symm;rw[bh];have hb:((⇑al:Int)^i).natAbs<=26^8:=by
   have e1:((⇑al:Int))^i=((⇑al^i:Nat):Int):=by simp
   rw[e1,Int.natAbs_natCast];exact bM (qX a26 _) (nT Zd ⋯)
  exact⟨big ⋯,⟨eE hb Zd,bK (show ((⇑al:Int)).natAbs<1000 by left) Zd⟩,hNx _ _ ⟨rfl,_,by rw[Int.pow_succ]⟩⟩
 rintro σ G ⟨rfl,o5,rfl⟩;show nn _ _ _;cbv;rw[show (⇑al:Int)^(⇑ws-1)=dj al ws from rfl];generalize hM:dj al ws=M at m49;grind;refine⟨big Zd,fun t0 G0 ht0 u0 g0=>⟨big Zd,fun l0 G1 hl0 u1 g1=>?_⟩⟩;cbv;have ky:∀ {G:Hp}{vs:List V},(∀ v∈vs,∃ p o,v=V.ref p/\G p=some o/\∃ key:List Key,o=.tup (key.map kV)/\fV key)->oS G vs:=fun h v hv=>by obtain⟨p,o,e,hp,key,rfl,ok⟩:=h v hv;exact⟨p,key,e,hp,ok⟩
 grind;refine FG (sd (Str.ofString "abnox")) (av (by nofun)) (fun o=>∃ key:List Key,o=.tup (key.map kV)/\fV key) (fun ys h=>by obtain⟨_,e,_⟩:=h;cases e) ?_ ?_
 ·intro x hx G2 u2 R hR;obtain⟨c,hc,rfl⟩:=aO.mp hx;have hc':97<=c/\c<123:=by
   have:∀ c∈(Str.ofString "abnox").cps.toList,97<=c/\c<123:=by nofun
   exact this c hc
  symm;refine⟨big Zd,fun t G3 ht u3 g3=>hR t _ G3 u3 g3 ⟨fj [c],rfl,qh (kJ (aw 1) (show 1<=6 by decide) fun y hy=>by rw[aS.mp hy];exact hc')⟩⟩
 intro l1 vs1 G2 hl1 u2 g2 vl1 hv1;have k1:=ky hv1;rw[ak,show (Str.ofString "abnox").cps.toList.length=5 by nofun] at vl1;symm;refine⟨_,_,u2 _ _ g1,g2,big (by show 1+⇑vs1<=_;left),fun l2 G3 hl2 u3 g3=>?_⟩;cbv;have u13:=u2.trans u3;have hw3:=(u0.trans (u1.trans u13)) _ _ h1;have sH3:=s1.trans (u0.trans (u1.trans u13));grind;obtain⟨cl,ecl,lcl⟩:=ye ns 4 14;refine⟨_,sH3.seq hS,fun pc G4 hpc u4 g4=>?_⟩;rw[show m7 (ns.map V.int) (some 4) (some 14)=cl.map V.int from ecl] at g4;refine .inl ⟨⟨_,.of g4⟩,FG (eU (.of g4)) (by rw[ak];exact av ⋯) (fun o=>∃ key:List Key,o=.tup (key.map kV)/\fV key) (fun ys h=>by obtain⟨_,e,_⟩:=h;cases e) ?_ ?_⟩
 ·intro x hx G5 u5 R hR;obtain⟨c,_,rfl⟩:=aO.mp hx;symm;exact⟨c,pw,zs,rfl,(u4.trans u5) _ _ hw3,zl,hz,fun t key G6 ht u6 g6 ok6=>hR t _ G6 u6 g6 ⟨key,rfl,ok6⟩⟩
 intro l3 vs3 G5 hl3 u5 g5 vl3 hv3;have k3:=ky hv3;rw[ak] at vl3;symm;refine⟨_,_,(u4.trans u5) _ _ g3,g5,big (by rw[aE];show 1+⇑vs1+⇑vs3<=_;left),fun l4 G6 hl4 u6 g6=>?_⟩;cbv;have u36:=u4.trans (u5.trans u6);have u06:=u1.trans (u13.trans u36);have sH6:=sH3.trans u36;have g06:G6 t0=some (.tup (oJ.map kV)):=u06 _ _ g0;have kys:oS G6 ([V.ref t0]++vs1++vs3):=(oS.app (fun v hv=>⟨t0,oJ,aS.mp hv,g06,zR⟩) (k1.same (u3.trans u36))).app (k3.same u6);have vsl:⇑([V.ref t0]++vs1++vs3)<=16:=by rw[aE,aE];show 1+_+_<=_;left
 have vs0:([V.ref t0]++vs1++vs3)[0]?=some (.ref t0):=rfl;generalize [V.ref t0]++vs1++vs3=vs at g6 kys vsl vs0;have hw6:=u36 _ _ hw3;clear k1 k3 hv1 hv3 g5 g4 g3 g2 g1 g0 ecl lcl vl1 vl3 ky hl3 hl2 hl1 hl0 ht0 hpc hw3 sH3 u06 u36 u13 u6 u5 u4 u3 u2 u1 u0;grind;intro D G7 hD u7 g7;cbv;have sH7:=sH6.trans u7;have hD0:H D=none:=sH6.free hD;have nlD:l4≠D:=aW g6 hD;grind;refine⟨_,.l (u7 _ _ g6),⋯,(by omega),fz (n:=⇑vs) (fun i σ G=>(∃ o5 o8,σ=[some (V.ref p),some (V.ref a),some (V.bl true),some (V.ref pw),some (V.int M),o5,some (V.ref l4),some (V.ref D),o8])/\(∀ c o,c≠D->G7 c=some o->G c=some o)/\∃ es:List Æ,G D=some (.dK (iu es))/\č al ws G es/\⇑es<=i/\(1<=i->oJ∈es.map fun e:Æ=>e.key)) ?_ ?_ ?_⟩
 ·exact⟨⟨_,_,rfl⟩,(fun c o _ e=>e),[],g7,⟨(fun e h=>by cases h),.nil,.nil,fun e h=>by cases h⟩,aw _,fun h=>absurd h (by decide)⟩
 ·rintro i σ G hi ⟨⟨o5',o8,rfl⟩,kp,es,hGD,eo,el,hend⟩ N hNx;clear hN;have upS:aB H G:=fun c o e=>kp c o (fun z=>by rw[z,hD0] at e;cases e) (sH7 _ _ e);rw[fX,fG];refine cK fun n2 hM2=>?_;symm;refine⟨Zd,a,ns,_,rfl,upS.seq hS,⋯,?_⟩;generalize ns.getD (4+(i:Int)%10).toNat 0=cc;symm;refine⟨cc+(i:Int),2,rfl,Zd,fun G8 u8=>?_⟩;generalize vn (cc+(i:Int)) 2=n0;symm;refine⟨⋯,?_⟩;rw[hM2];clear hM2 n2;obtain⟨t1,ht1,hfr⟩:=Io (es.map (·.num)) (M:=M) (n:=n0) (by rw[ak];left);have hGD8:=u8 _ _ hGD;refine cK fun n2 hM2=>?_;refine C4 (fun m σ G'=>G'=G8/\∃ t:Nat,t+m=t1/\σ=[some (V.ref p),some (V.ref a),some (V.bl true),some (V.ref pw),some (V.int M),some (V.int (i:Int)),some (V.ref l4),some (V.ref D),some (V.int ((n0+(t:Int))%M))]) t1 ⟨rfl,0,⋯,by rw[Int.natCast_zero,Int.add_zero]⟩ ?_;rintro m σ G' ⟨rfl,t,htm,rfl⟩;symm;refine .inr ⟨_,.inl ⟨_,.inl _,.inl hGD8,rfl,rfl⟩,?_⟩;rw[FT eo.nn]
  by_cases hm:(n0+(t:Int))%M∈es.map (·.num)
  ·rw[a9 hm,aq rfl];have tl:t≠t1:=fun e=>hfr (by rw[←e];exact hm);refine zD fun N2 hN2=>⟨⋯,hN2 (m-1) _ _ ⋯ ⟨rfl,t+1,⋯,?_⟩⟩;rw[show ((t+1:Nat):Int)=(t:Int)+1 from rfl,←Int.add_assoc,Int.emod_add_emod]
  rw[aF hm,ai (by decide)];show n2 _ _ _;rw[hM2];clear hM2 n2;have nm0:=b7 (n0+(t:Int)) (show M≠0 by left);have nm1:=bJ (n0+(t:Int)) (show 0<M by left);generalize (n0+(t:Int))%M=nm at hm nm0 nm1;clear htm hfr ht1;have kp8:∀ c o,c≠D->G7 c=some o->G' c=some o:=fun c o hc e=>u8 _ _ (kp c o hc e);have hvi:vs[i]?=some (vs[i]'hi):=aC _;generalize vs[i]'hi=v at hvi;obtain⟨tk,key,rfl,htk,kok⟩:=kys v (bT hvi);have htk7:=u7 _ _ htk;have tkD:tk≠D:=gR htk7 g7 (by intro z;cases z);have htk8:=kp8 _ _ tkD htk7;have hl8:=kp8 _ _ nlD (u7 _ _ g6);have en8:∀ e∈es,G' e.adr=some (.tup (e.key.map kV)):=fun e he=>u8 _ _ (eo.en e he);have hke:i=0->key=oJ:=fun e=>by subst e;rw[vs0] at hvi;cases hvi;rw[htk] at g06;exact qk (by injection g06 with g06;injection g06)
  symm;refine⟨_,_,.l hl8,bb hvi,D,_,rfl,.inl hGD8,fun pv G9 hpv u9 g9=>?_⟩;obtain⟨e,he1,he2⟩:=BM (K:=K) (H:=G9) (es:=es) (t:=tk) (ks:=key) (fun x hx=>⟨u9 _ _ (en8 x hx),(eo.ok x hx).1⟩) (u9 _ _ htk8) kok;refine⟨pv,D,_,e,1,rfl,g9,.inl (u9 _ _ hGD8),Zd,he1,?_⟩
  by_cases hk:key∈es.map fun e:Æ=>e.key
  ·rw[he2.mpr hk,ai (by decide)];refine hNx _ _ ⟨⟨_,_,rfl⟩,(fun c o hc z=>u9 _ _ (kp8 c o hc z)),es,u9 _ _ hGD8,⟨(fun x hx=>u9 _ _ (en8 x hx)),eo.nn,eo.nk,eo.ok⟩,⋯,fun _=>?_⟩
   by_cases i0:i=0
   ·rw[←hke i0];exact hk
   ·exact hend ⋯
  have hf:((iu es).any fun q=>e q.2)=false:=by
   cases h:(iu es).any fun q=>e q.2 with
   | false=>rfl
   | true=>exact absurd (he2.mp h) hk
  rw[hf,aq (by decide)];have hGD9:=u9 _ _ hGD8;have neD:∀ {c:Addr}{xs:List V},G9 c=some (.tup xs)->c≠D:=fun h=>gR h hGD9 (by intro z;cases z);have hem:∀ e'∈es++[(⟨nm,key,tk⟩:Æ)],e'∈es∨e'=⟨nm,key,tk⟩:=fun e' h=>(bC.mp h).imp id aS.mp;refine⟨_,_,.l (u9 _ _ hl8),bb hvi,D,_,rfl,xV.k (k:=.inl nm) hGD9 (av (by rw[mK];left)),hNx _ _ ⟨⟨_,_,rfl⟩,(fun c o hc z=>by rw[aN hc];exact u9 _ _ (kp8 c o hc z)),es++[⟨nm,key,tk⟩],?_,⟨fun e' he'=>?_,?_,?_,fun e' he'=>?_⟩,by rw[aE];show ⇑es+1<=_;left,fun _=>?_⟩⟩
  ·rw[aI,wa,xC (uk hm)]
  ·rcases hem e' he' with h | rfl
   ·have:=u9 _ _ (en8 e' h);rw[aN (neD this)];exact this
   ·have:=u9 _ _ htk8;rw[aN (neD this)];exact this
  ·rw[bD];exact nQ.mpr ⟨eo.nn,List.pairwise_singleton _ _,fun x hx y hy e=>hm (by rw[aS.mp hy] at e;rw[←show x=nm from e];exact hx)⟩
  ·rw[bD];exact nQ.mpr ⟨eo.nk,List.pairwise_singleton _ _,fun x hx y hy e=>hk (by rw[aS.mp hy] at e;rw[←show x=key from e];exact hx)⟩
  ·rcases hem e' he' with h | rfl
   ·exact eo.ok e' h
   ·exact⟨kok,nm0,by rw[hM];exact nm1⟩
  ·rw[bD]
   by_cases i0:i=0
   ·exact eD _ (aS.mpr (hke i0).symm)
   ·exact lB _ (hend ⋯)
 rintro σ G ⟨⟨o5',o8,rfl⟩,kp,es,hGD,eo,el,hend⟩;show nn _ _ _;cbv;symm;have v1:1<=⇑vs:=(bL.mp vs0).1;have hw7:=u7 _ _ hw6;exact⟨big Zd,fun T G9 hT u9 g9=>k T pw D zs es G9 (fun c o e=>u9 _ _ (kp c o (fun z=>by rw[z,hD0] at e;cases e) (sH7 _ _ e))) hD0 g9 (u9 _ _ (kp _ _ (gR hw7 g7 (by intro z;cases z)) hw7)) zl hz (u9 _ _ hGD) ⟨(fun e he=>u9 _ _ (eo.en e he)),eo.nn,eo.nk,eo.ok⟩ ⋯ (hend v1)⟩
theorem v9 {b:Int}:∀ {xs:List V},xs.all (c9 b)=true->∃ ws:Zb,xs=ws.map V.int/\∀ x∈ws,0<=x/\x<b
 | [],_=>⟨[],rfl,fun _ h=>nomatch h⟩
 | y::ys,h=>by
  rw[jC,bV] at h;obtain⟨ws,e,hw⟩:=v9 h.2;cases y with
  | int i =>
   have h1:(decide (0<=i)&&decide (i<b))=true:=h.1;rw[bV,bE,bE] at h1;refine⟨i::ws,by rw[e];rfl,fun x hx=>?_⟩;cases hx with
   | head=>exact h1
   | tail _ hx=>exact hw x hx
  | _=>cases h.1
theorem HM {b:Int} (h:eJ H b x=true):∃ (p:Addr) (ws:Zb),x=.ref p/\H p=some (.lst (ws.map V.int))/\3<=⇑ws/\⇑ws<=8/\∀ y∈ws,0<=y/\y<b:=by
 cases x with
 | ref p =>
  have h1:(match H p with | some (.lst xs)=>decide (3<=⇑xs)&&decide (⇑xs<=8)&&xs.all (c9 b) | _=>false)=true:=h;split at h1
  ·rename_i xs e
   simp only[bV,bE] at h1;obtain⟨ws,e1,hw⟩:=v9 h1.2;subst e1;rw[ak] at h1;exact⟨p,ws,rfl,e,h1.1.1,h1.1.2,hw⟩
  ·cases h1
 | _=>cases h
inductive fS (Ad:Ë) (vs:List V) (H:Hp) (Q:VK) (E:XK):Prop
 | mk (a dx:Addr) (xa xw xr:V) (ta tw tr:Tg) (q0:vs=[.ref a,xa,xw,xr]) (q1:H a=some (.ins Ad.Code dx [])) (q2:gb H xa=some ta) (q3:gb H xw=some tw) (q4:gb H xr=some tr) (q5:(∀ z,xa=.str z->⇑z<=4000)) (q6:(∀ p o u,xw=.ref p->H p≠some (.frz o u))) (q7:(∀ p xs,xw=.ref p->H p=some (.lst xs)->⇑xs<=1000/\∀ y∈xs,∃ t,gb H y=some t)) (q8:(HR H xa xw xr->∀ H',aB H H'->E (.ref Ad.NoCode) none H')) (q9:(∀ al p ws r,tN H xa xw xr al p ws r->∀ q H',H q=none->(∀ b o,b≠a->H b=some o->H' b=some o)->H' a=some (.ins Ad.Code dx (sh al q r))->H' q=some (.lst (ws.map V.int))->Q .non H')):fS Ad vs H Q E
theorem vP {Ad:Ë}{ca cd qn:Addr}{Q:VK}{E:XK} (ha:H ca=some (.ins Ad.Code cd [])) (hq:H qn=some (.lst (ws.map V.int))) (ok:cw al ws r)
  (k:∀ H',(∀ b o,b≠ca->H b=some o->H' b=some o)->cF Ad H' ca al ws r->Q .non H'):fS Ad [.ref ca,.str (tx al),.ref qn,.int r] H Q E:=by
 have g26:=ok.a26;have w8:=ok.w8;refine⟨ca,cd,.str (tx al),.ref qn,.int r,Tg.str,Tg.lst,Tg.int,rfl,ha,rfl,?_,rfl,?_,?_,?_,?_,?_⟩
 ·show mn (H qn)=_;rw[hq];rfl
 ·intro z e;cases e;rw[bh];left
 ·intro p o u e e2;cases e;rw[hq] at e2;cases e2
 ·intro p xs e e2;cases e;rw[hq] at e2;cases e2;refine⟨by rw[ak];left,fun y hy=>?_⟩;obtain⟨x,_,rfl⟩:=aO.mp hy;exact⟨Tg.int,rfl⟩
 ·intro hb;exact absurd ⟨rfl,rfl,hq,rfl,ok⟩ (hb al qn ws r)
 ·intro al' p ws' r' hm q H' hq' hs h1 h2;obtain⟨e1,e2,e3,e4,_⟩:=hm;have ea:al=al':=by injection e1 with e1;exact vg e1
  have er:r=r':=by injection e4
  have ep:qn=p:=by injection e2
  subst ea er ep;rw[hq] at e3;have e6:ws.map V.int=ws'.map V.int:=by injection e3 with e3;injection e3
  have ew:ws=ws':=(qT (fun x y h=>by injection h)).mp e6;subst ew;exact k H' hs ⟨cd,q,h1,h2⟩
theorem qD:aJ ["self","alphabet","weights","rest","m"] ["self","alphabet","weights","rest"] (ax gG):=by subst_eqs
theorem xj (F:Å K "__init__" "Code.__init__" gG f fd) (T:Bl mg) (AF:Ç K mg Ad) (C_are_safe:Ä P w K mg base (Á P w) 2 "are_safe" ["weights","m"] sE) (C_is_below:Ä P w K mg base (Á P w) 2 "is_below" ["thing","bound"] gH) (C_are_weights:Ä P w K mg base (Á P w) 3 "are_weights" ["thing","m"] nq) (C_is_alphabet:Ä P w K mg base (Á P w) 1 "is_alphabet" ["thing"] nu):bF P w K mg base (Á P w) 4 f fd ["self","alphabet","weights","rest"] (fS Ad):=by
 specialize qD;obtain⟨a,dx,xa,xw,xr,ta,tw,tr,rfl,ha,hta,htw,htr,hza,hfz,hit,kE,kQ⟩:=h;refine⟨_,ag (bG (c8 (cx (a8 C_is_alphabet az (hr.mono Zd) (ah (À 1) af)))) (ao (dO dW AF.q_NoCode AF.g_NoCode da rfl (ah bt af))) aV) (ag (aA (i:=4) qD.nd (ay (aH (K:=K) rfl) T.len bz (ah (À 1) af))) (ag (bG (c8 (cx (a8 C_are_weights az (hr.mono Zd) (ah (À 2) (ah (À 4) af))))) (ao (dO dW AF.q_NoCode AF.g_NoCode da rfl (ah bt af))) aV) (ag (bG (c8 (cx (a8 C_is_below az (hr.mono Zd) (ah (À 3) (ah (À 4) af))))) (ao (dO dW AF.q_NoCode AF.g_NoCode da rfl (ah bt af))) aV) (ag (bG (c8 (cx (a8 C_are_safe az (hr.mono Zd) (ah (À 2) (ah (À 4) af))))) (ao (dO dW AF.q_NoCode AF.g_NoCode da rfl (ah bt af))) aV) (ag (oA (K:=K) rfl (À 0) (À 1)) (ag (oA (K:=K) rfl (À 0) (c7 (dY (K:=K) rfl rfl) T.list fP (ah (À 2) af))) (ao (oA (K:=K) rfl (À 0) (À 3))))))))),?_⟩;rw[dF];symm;refine⟨xa,ta,rfl,hta,hza,fun H1 s1=>?_⟩;symm;cases hA:iA xa with
 | false =>
  bv_omega;refine⟨Zd,kE (fun al p ws r ⟨e1,_,_,_,e5⟩=>?_) H1 s1⟩;have:iA xa=true:=by rw[e1];show gQ (tx al).cps.toList=true;rw[bW];unfold gQ;rw[a9 e5.a3,a9 e5.a26,a9 e5.nd,bY.mpr fun c hc=>a9 (e5.abc c hc)];rfl
  rw[hA] at this;cases this
 | true =>
  bv_omega;obtain⟨z,rfl⟩:∃ z,xa=.str z:=by
   cases xa with
   | str z=>exact⟨z,rfl⟩
   | _=>cases hA
  have hA':gQ z.cps.toList=true:=hA;have hz:=dE z;unfold gQ at hA';simp only[bV,bE,bY] at hA';obtain⟨⟨⟨g3,g26⟩,gnd⟩,gabc⟩:=hA';rw[dF];symm;refine⟨aT (av ⋯),?_⟩;symm;rw[dF];symm;refine⟨xw,tw,_,rfl,kX s1 htw,fun p o u e e2=>?_,fun p xs e e2=>?_,fun H2 s2=>?_⟩
  ·subst e;have:mn (H p)=some tw:=htw;cases e3:H p with
   | none=>rw[e3] at this;cases this
   | some ob =>have e4:=s1 p ob e3;rw[e2] at e4;cases e4;exact hfz p o u rfl e3
  ·subst e;have:mn (H p)=some tw:=htw;cases e3:H p with
   | none=>rw[e3] at this;cases this
   | some ob =>have e4:=s1 p ob e3;rw[e2] at e4;cases e4;obtain⟨i1,i2⟩:=hit p xs rfl e3;exact⟨i1,fun y hy=>by obtain⟨ty,hty⟩:=i2 y hy;exact⟨ty,kX s1 hty⟩⟩
  symm;have eW:eJ H1 (⇑z:Int) xw=eJ H (⇑z:Int) xw:=by
   cases xw with
   | ref p =>
    have:mn (H p)=some tw:=htw;cases e3:H p with
    | none=>rw[e3] at this;cases this
    | some ob =>show (match H1 p with | some (.lst xs)=>_ | _=>false)=(match H p with | some (.lst xs)=>_ | _=>false);rw[s1 p ob e3,e3]
   | _=>rfl
  rw[eW];cases hW:eJ H (⇑z:Int) xw with
  | false =>
   bv_omega;refine⟨Zd,kE (fun al p ws r ⟨e1,e2,e3,_,e5⟩=>?_) H2 (s1.trans s2)⟩;have hal:z=tx al:=by cases e1;rfl
   have:eJ H (⇑z:Int) xw=true:=by rw[e2,hal,bh];show (match H p with | some (.lst xs)=>decide (3<=⇑xs)&&decide (⇑xs<=8)&&xs.all (c9 (⇑al:Int)) | _=>false)=true;rw[e3];simp only[ak];rw[a9 e5.w3,a9 e5.w8,ia,bY.mpr];rfl;intro x hx;have:=e5.wm x hx;show (decide (0<=x)&&decide (x<(⇑al:Int)))=true;rw[a9 this.1,a9 this.2];rfl
   rw[hW] at this;cases this
  | true =>
   bv_omega;rw[dF];symm;refine⟨xr,tr,_,rfl,kX (s1.trans s2) htr,?_⟩;symm;cases hB:c9 (⇑z:Int) xr with
   | false =>
    bv_omega;refine⟨Zd,kE (fun al p ws r ⟨e1,e2,e3,e4,e5⟩=>?_) H2 (s1.trans s2)⟩;have hal:z=tx al:=by cases e1;rfl
    have:c9 (⇑z:Int) xr=true:=by rw[e4,hal,bh];show (decide (0<=r)&&decide (r<(⇑al:Int)))=true;rw[a9 e5.rm.1,a9 e5.rm.2];rfl
    rw[hB] at this;cases this
   | true =>
    bv_omega;obtain⟨r,rfl⟩:∃ r,xr=.int r:=by
     cases xr with
     | int r=>exact⟨r,rfl⟩
     | _=>cases hB
    have hB':(decide (0<=r)&&decide (r<(⇑z:Int)))=true:=hB;rw[bV,bE,bE] at hB';obtain⟨p,ws,rfl,hp,w3,w8,wm⟩:=HM hW;have hp2:H2 p=some (.lst (ws.map V.int)):=s2 _ _ (s1 _ _ hp);rw[dF];symm;refine⟨p,ws,_,rfl,hp2,⋯,fun H3 s3=>?_⟩;symm;have s03:aB H H3:=(s1.trans s2).trans s3;have el:(⇑z:Int)=(⇑z.cps.toList:Int):=by rw[hz]
    cases hS:Mk.safe (⇑z:Int) ws with
    | false =>
     bv_omega;refine⟨Zd,kE (fun al p' ws' r' ⟨e1,e2,e3,e4,e5⟩=>?_) H3 s03⟩;have hal:z=tx al:=by cases e1;rfl
     have hpp:p'=p:=by cases e2;rfl
     subst hpp;have hww:ws'=ws:=by
      rw[hp] at e3;have e6:ws.map V.int=ws'.map V.int:=by injection e3 with e3;injection e3
      exact (qT (fun x y h=>by injection h)).mp e6.symm
     subst hww;have:=e5.safe;rw[hal,bh] at hS;rw[hS] at this;cases this
    | true =>
     bv_omega;have ha3:=s03 _ _ ha;have hp3:H3 p=some (.lst (ws.map V.int)):=s03 _ _ hp;have hne:p≠a:=fun e=>by rw[e,ha] at hp;cases hp
     have hM:tN H (.str z) (.ref p) (.int r) z.cps.toList p ws r:=⟨by rw[wx],rfl,hp,rfl,⟨g3,g26,gnd,gabc,w3,w8,by rw[←el];exact wm,by rw[←el];exact hS,by rw[←el];exact hB'⟩⟩;ac_nf;refine⟨_,_,_,ha3,AF.c_Code,AF.n_Code_letters,Zd,ws.map V.int,.inl (.inl (.of (by rw[aN hne];exact hp3))),fun q H4 hq s4 h4=>?_⟩;have ha4:=s4 a _ aI;refine⟨_,_,_,ha4,AF.c_Code,AF.n_Code_factors,eE (aw 1) Zd,_,_,_,aI,AF.c_Code,AF.n_Code_remainder,eE (aw 2) Zd,?_⟩;have hqa:q≠a:=fun e=>by rw[e,aI] at hq;cases hq
     rw[aN hqa] at hq;have hq0:H q=none:=by
      cases e:H q with
      | none=>rfl
      | some o=>rw[s03 q o e] at hq;cases hq
     refine kQ z.cps.toList p ws r hM q _ hq0 (fun b o hb e=>?_) ?_ ?_
     ·rw[aN hb,aN hb];exact s4 b o (by rw[aN hb];exact s03 b o e)
     ·rw[aI];unfold sh;rw[wx];rfl
     ·rw[aN hqa,aN hqa];exact h4
inductive hO (Ad:Ë) (vs:List V) (H:Hp) (Q:VK) (E:XK):Prop
 | mk (a:Addr) (al:Za) (ws:Zb) (r:Int) (x:V) (t:Tg) (q0:vs=[.ref a,x]) (q1:cF Ad H a al ws r) (q2:cw al ws r) (q3:gb H x=some t) (q4:(∀ z,x=.str z->⇑z<=100000)) (q5:(jT (tx al) ws r x=false->∀ H',aB H H'->E (.ref Ad.NoWord) none H')) (q6:(∀ z,x=.str z->Mk.cL al ws r z.cps.toList=true->∀ H',aB H H'->Q (.int (Mk.numOf ⇑al (Mk.Û al z.cps.toList.dropLast))) H')):hO Ad vs H Q E
theorem gY:aJ ["self","word","k","place"] ["self","word"] (ax ko):=by subst_eqs
theorem uq (F:Å K "number" "Code.number" ko f fd) (T:Bl mg) (AF:Ç K mg Ad) (C_places_of:Ä P w K mg base (Á P w) 1 "places_of" ["alphabet","word"] ml) (M_Code_has_good:Ð P w K mg base (Á P w) Ad.Code "has_good" 3 ["self","thing"] (eB Ad)):bF P w K mg base (Á P w) 4 f fd ["self","word"] (hO Ad):=by
 specialize gY;obtain⟨a,al,ws,r,x,t,rfl,⟨dx,q,h1,h2⟩,ok,ht,hz,kE,kQ⟩:=h;refine⟨_,ag (bG (c8 (cx (e9 M_Code_has_good az (hr.mono Zd) (À 0) (ah (À 1) af)))) (ao (dO dW AF.q_NoWord AF.g_NoWord da rfl (ah bt af))) aV) (ag (aA (i:=2) gY.nd aj) (ag (eA bU rfl (cG (K:=K) rfl (a8 C_places_of az (hr.mono Zd) (ah (cz (K:=K) rfl (À 0)) (ah (cN (iq (K:=K) rfl) (À 1) fk (cM (uF qd aj))) af)))) (aM (i:=3) gY.nd) (ao (aA (i:=2) gY.nd (aD aZ (aD lU (À 2) (ay (aH (K:=K) rfl) T.len bz (ah (cz (K:=K) rfl (À 0)) af))) (À 3))))) (ao (aG (À 2))))),?_⟩;have g3:=ok.a3;have g26:=ok.a26;have w8:=ok.w8;rw[dF];symm;refine⟨dx,_,h1,c5 Zd Zd Zd al q r,a,al,ws,r,x,t,rfl,⟨dx,q,h1,h2⟩,ok,ht,hz,fun H1 s1=>?_⟩;symm;cases hG:jT (tx al) ws r x with
 | false =>bv_omega;exact⟨Zd,kE hG H1 s1⟩
 | true =>
  bv_omega;obtain⟨z,rfl⟩:∃ z,x=.str z:=by
   cases x with
   | str z=>exact⟨z,rfl⟩
   | _=>cases hG
  have hG':Mk.cL al ws r z.cps.toList=true:=by have:Mk.cL (tx al).cps.toList ws r z.cps.toList=true:=hG;rw[bW] at this;exact this
  symm;rw[dF];symm;rw[dF];symm;refine⟨_,dx,_,_,s1 _ _ h1,AF.c_Code,AF.n_Code_letters,dZ al q r,?_⟩;symm;have e0:lP z.cps.toList none (some (-1))=z.cps.toList.dropLast:=Dd _;rw[e0];have hzl:=hz z rfl;have hzc:=dE z;unfold Mk.cL Mk.dN at hG';simp only[bV,bE,bY] at hG';obtain⟨⟨hl,hm⟩,-⟩:=hG';have hd:⇑z.cps.toList.dropLast<=⇑z.cps.toList:=by rw[List.length_dropLast];left
  have hdm:∀ c∈z.cps.toList.dropLast,c∈al:=fun c hc=>hm c (List.dropLast_subset _ hc);refine⟨aT (av ⋯),tx al,tx z.cps.toList.dropLast,rfl,by rw[bh];left,by rw[bW,bW];exact hdm,fun p H2 hp s2 h3=>.inl ⟨⟨_,.of h3⟩,?_⟩⟩;rw[bW,bW] at h3;have hpm:=Mk.Cg hdm;have hpl:⇑(Mk.Û al z.cps.toList.dropLast)<=8:=by rw[Mk.Jd];left
  have kQ':=kQ z rfl (by have:Mk.cL (tx al).cps.toList ws r z.cps.toList=true:=hG;rw[bW] at this;exact this);generalize Mk.Û al z.cps.toList.dropLast=ps at h3 hpm hpl kQ';refine sY (xs:=ps.map V.int) (fun i σ H'=>H'=H2/\∃ o,σ=[some (.ref a),some (.str z),some (.int (Mk.numOf ⇑al (ps.take i))),o]) ?_ ?_ ?_ ?_
  ·exact⟨rfl,none,rfl⟩
  ·rintro i σ H' _ ⟨rfl,_⟩;exact .of h3
  ·rintro i x σ H' hx ⟨rfl,o,rfl⟩;rw[aX] at hx;obtain⟨x,hy,rfl⟩:=dU.mp hx;have hi:=(bL.mp hy).1;have hb:=Mk.qt (m:=⇑al) ⋯ (ps.take i) fun p hp=>hpm p (List.mem_of_mem_take hp);have hxm:=hpm x (bT hy);ac_nf;refine⟨_,dx,_,_,s2 _ _ (s1 _ _ h1),AF.c_Code,AF.n_Code_letters,dZ al q r,?_⟩;ac_nf;rw[bh];refine⟨aT (av ⋯),⟨?_,bK (show ((⇑al:Int)).natAbs<1000 by left) Zd⟩,?_⟩
   ·refine bK (show (Mk.numOf (⇑al:Int) (ps.take i)).natAbs<26^8 from ?_) Zd;have e1:((⇑al:Int))^⇑(ps.take i)<=((26^8:Nat):Int):=by
     rw[←Int.natCast_pow];exact Int.ofNat_le.mpr (bM (qX g26 _) (nT Zd (by rw[cP];left)))
    left
   ·refine⟨trivial,some (.int x),?_⟩;have e:ps.take (i+1)=ps.take i++[x]:=by rw[lE,hy];rfl
    rw[e,Mk.pA]
  ·rintro σ H' ⟨rfl,o,rfl⟩;rw[ak,nS];ac_nf;exact kQ' _ (s1.trans s2)
inductive tE (Ad:Ë) (vs:List V) (H:Hp) (Q:VK) (E:XK):Prop
 | mk (b ca dn de g:Addr) (es grp:List Æ) (al:Za) (ws:Zb) (r:Int) (wd:List Za) (q0:vs=[.ref b,.ref g]) (q1:du Ad H b ca dn de es) (q2:cF Ad H ca al ws r) (q3:cw al ws r) (q4:(∀ e∈es,fV e.key/\0<=e.num/\e.num<dj al ws)) (q5:H g=some (.lst (grp.map fun e=>V.int e.num))) (q6:⇑grp<=1000) (q7:(∀ e∈grp,e∈es)) (q8:runK (grp.map (·.key)) ([],[])=some (wd,[])) (q9:wd≠[]) (q10:∀ H',aB H H'->Q (.str (tx (Mk.bR 32 wd))) H'):tE Ad vs H Q E
theorem ka:aJ ["book","groups","words","spelling","at","group","entry"] ["book","groups"] (ax AZ):=by subst_eqs
theorem II (F:Å K "said" "said" AZ f fd) (T:Bl mg) (AF:Ç K mg Ad) (C_can_stand:Ä P w K mg base (Á P w) 1 "can_stand" ["entry","many","spelling"] qG) (M_Book_entry:Ð P w K mg base (Á P w) Ad.Book "entry" 3 ["self","number"] (i7 Ad)):bF P w K mg base (Á P w) 4 f fd ["book","groups"] (tE Ad):=by
 specialize ka;obtain⟨b,ca,dn,de,g,es,grp,al,ws,r,wd,rfl,B,C,ok,hes,hg,gl,gm,hrun,hne,k⟩:=h;refine⟨_,ag (aA (i:=2) ka.nd (cb af)) (ag (aA (i:=3) ka.nd bt) (ag (eA bU rfl (uG (K:=K) rfl T.enumerate (ah (À 1) af)) (jW (K:=K) (n:=2) rfl rfl (cA (aM (i:=4) ka.nd) (cA (aM (i:=5) ka.nd) jc))) (ag (aA (i:=6) ka.nd (e9 M_Book_entry az (hr.mono Zd) (À 0) (ah (À 5) af))) (ag (bG ((iE (aR jq (À 6) dh (aU _)) (gW (c8 (cx (a8 C_can_stand az (hr.mono Zd) (ah (À 6) (ah (ay (aH (K:=K) rfl) T.len bz (ah (À 2) af)) (ah (À 3) af)))))))).pt) (ao zg) aV) (ao (bG (aR (c6 (K:=K) rfl hu) (bg (bN (K:=K) rfl) (À 6) aj (fun _ _=>rfl)) bt (aU _)) (ao (eM (cV (K:=K) rfl eF PySem.F.slot_list_extend PySem.F.type_list_extend DP (À 2) (ah (cV (K:=K) rfl eZ qZ rf qp (bg (bN (K:=K) rfl) (À 6) aj (fun _ _=>rfl)) (ah bt af)) af)))) (ao (bG (aR (c6 (K:=K) rfl hu) (bg (bN (K:=K) rfl) (À 6) aj (fun _ _=>rfl)) bt (aU _)) (ao (aA (i:=3) ka.nd (aD aZ (À 3) (bg (bN (K:=K) rfl) (À 6) aj (fun _ _=>rfl))))) (ag (eM (cV (K:=K) rfl eF fK fL dI (À 2) (ah (À 3) af))) (ao (aA (i:=3) ka.nd bt)))))))))) (ag (bG ((iE (aR (gS (K:=K) rfl hu) (À 3) bt (aU _)) (gW (aR (c6 (K:=K) rfl hu) (ay (aH (K:=K) rfl) T.len bz (ah (À 2) af)) aj (aU _)))).pt) (ao zg) aV) (ao (aG (cV (K:=K) rfl eZ nU nV (mJ (K:=K) rfl) bt (ah (À 2) af))))))),?_⟩;have big:∀ {u:Nat},u<=10000->u<=sizeLine:=fun hu=>aT (av ⋯);have kok:∀ k∈grp.map (·.key),fV k:=fun k hk=>by
  obtain⟨e,he,rfl⟩:=aO.mp hk;exact (hes e (gm e he)).1
 grind;refine⟨br _,fun D H1 hD s1 h1=>?_⟩;cbv;grind;cbv;grind;refine⟨g,rfl,⟨_,.of (s1 _ _ hg)⟩,?_⟩;refine D8 (xs:=grp.map fun e=>V.int e.num) (fun i σ H'=>∃ (s:Ø) (o4 o5 o6:Option V),σ=[some (V.ref b),some (V.ref g),some (V.ref D),some (V.str (tx s.2)),o4,o5,o6]/\aB H H'/\H' D=some (.lst (s.1.map fun w=>V.str (tx w)))/\oT s/\runK ((grp.map (·.key)).take i) ([],[])=some s) ?_ ?_ ?_ ?_
 ·exact⟨([],[]),_,_,_,rfl,s1,h1,Nt,by rw[List.take_zero];rfl⟩
 ·rintro i σ H' _ ⟨s,o4,o5,o6,_,sH,_⟩;exact .of (sH _ _ hg)
 ·rintro i x σ A1 hx ⟨s,o4,o5,o6,rfl,sA,hDA,say,hrs⟩ N hNx p A2 zp t2 h2;clear hN;obtain⟨e,hei,rfl⟩:=FJ hx;have hem:=gm e (bT hei);obtain⟨eo,en0,en1⟩:=hes e hem;refine⟨p,_,rfl,.of h2,rfl,?_⟩;have S2:=sA.trans t2;have hD2:=t2 _ _ hDA;clear zp h2;have hi:i<⇑grp:=(bL.mp hei).1;have hk:(grp.map (·.key))[i]?=some e.key:=by rw[aX,hei];rfl
  obtain⟨s0,r1,r2⟩:=Jm hrun i;rw[hrs] at r1;cases r1;obtain⟨s',hst⟩:∃ s',stepK e.key s=some s':=by
   rw[kZ (by rw[ak];exact hi)] at r2;have ek:(grp.map (·.key))[i]'(by rw[ak];exact hi)=e.key:=by have:=(bL.mp hk).2;exact this
   rw[ek] at r2;have r2':(match stepK e.key s with | none=>none | some t=>runK ((grp.map (·.key)).drop (i+1)) t)=some (wd,[]):=r2;cases hs:stepK e.key s with
   | none=>rw[hs] at r2';cases r2'
   | some t=>exact⟨t,rfl⟩
  have hrs':runK ((grp.map (·.key)).take (i+1)) ([],[])=some s':=by rw[lE,hk];exact qA hrs hst
  have say':=say.step eo hst;have few:=say.few;have len:=say.len;have B2:=B.same S2;obtain⟨dx2,h12⟩:=B2.bk;symm;refine cK fun n2 hM=>?_;symm;refine⟨dx2,_,h12,dg Zd Zd Zd ca dn de,b,ca,dn,de,es,al,ws,r,.int e.num,.int,rfl,B2,C.same S2,ok,rfl,fun hb=>?_,fun n' en _ _ hno=>?_,fun n' en _ _ u hu eu G tG=>?_⟩
  ·rw[kK en0 en1] at hb;cases hb
  ·cases en
   exact absurd (aO.mpr ⟨e,hem,rfl⟩) hno
  cases en
  have ue:u=e:=F2 B.nn hu hem eu;subst ue;rw[hM];clear hM n2;have hG:=S2.trans tG;have htG:=(B.same hG).en u hem;have hDG:=tG _ _ hD2;refine cK fun n2 hM=>?_;symm;refine⟨_,.inl (.of hDG),?_⟩;rw[ak];refine⟨u.adr,u.key,s,rfl,htG,eo,say,fun G3 t3=>⟨_,rfl,?_⟩⟩;rw[hst,ai (by show ¬ (!true)=true;decide)];show n2 _ _ _;rw[hM];clear hM n2;have SG:=hG.trans t3;have htG3:=t3 _ _ htG;have hDG3:=t3 _ _ hDG;have hNN:∀ G,aB H G->G D=some (.lst (s'.1.map fun w=>V.str (tx w)))->N [some (V.ref b),some (V.ref g),some (V.ref D),some (V.str (tx s'.2)),some (V.int (i:Int)),some (V.int u.num),some (V.ref u.adr)] G:=fun G sG hDG'=>hNx _ _ ⟨s',_,_,_,rfl,sG,hDG',say',hrs'⟩;rcases mC eo with ⟨l,ek,hl⟩ | ⟨l,ek,hl⟩ | ek
  ·rw[ek] at htG3 hst eo;have ht':G3 u.adr=some (.tup [.str ("phrase":Str),.str (tx l)]):=htG3;have hs:⇑l<=10000:=by
    have:=eo.short (tx l) (by simp [kV])
    rwa [bh] at this
   rw[gJ] at hst;split at hst
   ·rename_i hc
    cases hst
    symm;refine⟨_,_,.inr (.of ht'),e8 Zd rfl,?_⟩;symm;rw[aq (by rfl)];refine⟨.inl ⟨rfl,_,.of hDG3⟩,_,_,.inr (.of ht'),e8 Zd rfl,rfl,?_⟩;symm;refine⟨by rw[bh];left,32,rfl,fun p4 G4 hp4 t4 g4=>?_⟩;rw[bW] at g4;refine⟨D,p4,_,_,rfl,rfl,t4 _ _ hDG3,g4,by rw[ak,ak];exact big ⋯,?_⟩;rw[←bD];have e2:s.2=[]:=hc.1;rw[e2];exact hNN _ ((SG.trans t4).cf hD) aI
   ·cases hst
  ·rw[ek] at htG3 hst eo;have ht':G3 u.adr=some (.tup [.str ("part":Str),.str (tx l)]):=htG3;rw[i4] at hst;split at hst
   ·rename_i hc
    cases hst
    symm;refine⟨_,_,.inr (.of ht'),e8 Zd rfl,?_⟩;symm;rw[ai (by decide)];refine⟨_,_,.inr (.of ht'),e8 Zd rfl,?_⟩;symm;rw[aq (by rfl)];refine⟨_,_,.inr (.of ht'),e8 Zd rfl,?_⟩;symm;simp only[bh,iW];exact⟨big ⋯,hNN _ SG hDG3⟩
   ·cases hst
  ·rw[ek] at htG3 hst eo;have ht':G3 u.adr=some (.tup [.str ("end":Str)]):=htG3;rw[jA] at hst;split at hst
   ·cases hst
   ·rename_i hc
    cases hst
    symm;refine⟨_,_,.inr (.of ht'),e8 Zd rfl,?_⟩;symm;rw[ai (by decide)];refine⟨_,_,.inr (.of ht'),e8 Zd rfl,?_⟩;symm;rw[ai (by decide)];refine cK fun n2 hM=>?_;symm;refine⟨.inl ⟨rfl,_,.of hDG3⟩,D,_,_,rfl,rfl,hDG3,by rw[ak];exact av ⋯,?_⟩;rw[hM];clear hM n2;symm;rw[show (s.1.map fun w=>V.str (tx w))++[V.str (tx s.2)]=(s.1++[s.2]).map fun w=>V.str (tx w) by rw[bD];rfl];exact hNN _ (SG.cf hD) aI
 rintro σ H2 ⟨s,o4,o5,o6,rfl,s2,h2,say,hrs⟩;show nn _ _ _;cbv;rw[ak,show (grp.map (·.key)).take ⇑grp=grp.map (·.key) from eY (by rw[ak];exact aw _),hrun] at hrs;cases hrs;have few:⇑wd<=60:=say.few;obtain⟨j1,j2⟩:=qj (ws:=wd) few say.wds;have hl0:⇑wd≠0:=fun z=>hne (iK.mp z);grind;rw[ai (by decide)];refine⟨_,.inl (.of h2),?_⟩;rw[ak];show (if decide ((⇑wd:Int)=0)=true then _ else _);rw[ai (by rw[aF ⋯];decide)];show nn _ _ _;cbv;symm;have ejs:(wd.map fun w=>V.str (tx w))=(wd.map tx).map V.str:=by rw[bf];rfl
 refine⟨rfl,wd.map tx,.of (by rw[h2,ejs]),?_,?_⟩
 ·rw[bf,ak];have:(wd.map ((fun z:Str=>⇑z) ∘ tx)).sum<=(wd.map fun w=>⇑w+1).sum:=by
   have e:wd.map ((fun z:Str=>⇑z) ∘ tx)=wd.map fun w=>⇑w:=eX fun w _=>bh w;rw[e];clear e j1 j2 ejs h2 say hrun hne k few hl0
   induction wd with
   | nil=>simp
   | cons w r ih=>simp only[bI,jH];left
  have e1:(Str.ofString " ").length=1:=rfl;rw[e1];left
 ·rw[show (Str.ofString " ")=tx [32] from rfl,sf];exact k H2 s2
inductive nr (Ad:Ë) (vs:List V) (H:Hp) (Q:VK) (E:XK):Prop
 | mk (ca q:Addr) (al:Za) (ws:Zb) (r:Int) (gs:Zb) (q0:vs=[.ref ca,.ref q]) (q1:cF Ad H ca al ws r) (q2:cw al ws r) (q3:H q=some (.lst (gs.map V.int))) (q4:∀ H',aB H H'->Q (È (xT al ws r ((gs.sum+(⇑gs:Int))%dj al ws))) H'):nr Ad vs H Q E
theorem yQ (F:Å K "check_of" "check_of" pH f fd) (T:Bl mg) (AF:Ç K mg Ad) (C_check_number:Ä P w K mg base (Á P w) 2 "check_number" ["code","groups"] (gx Ad)) (M_Code_word:Ð P w K mg base (Á P w) Ad.Code "word" 3 ["self","k"] (jg Ad)):bF P w K mg base (Á P w) 4 f fd ["code","groups"] (nr Ad):=by
 exists["code","groups"];obtain⟨ca,q,al,ws,r,gs,rfl,C,ok,hq,k⟩:=h;refine⟨_,ao (aG (e9 M_Code_word az (hr.mono Zd) (À 0) (ah (a8 C_check_number az (hr.mono Zd) (ah (À 0) (ah (À 1) af))) af))),?_⟩;obtain⟨dc,qc,hc1,hc2⟩:=id C;have a3:=ok.a3;have hmany:0<dj al ws:=Int.pow_pos ⋯;have c0:=b7 (gs.sum+(⇑gs:Int)) (b:=dj al ws) ⋯;have c1:=bJ (gs.sum+(⇑gs:Int)) hmany;symm;refine⟨dc,_,hc1,c5 Zd Zd Zd al qc r,ca,q,al,ws,r,gs,rfl,C,ok,hq,fun G1 t1=>?_⟩;refine⟨ca,al,ws,r,.int _,.int,rfl,C.same t1,ok,rfl,(fun h=>?_),fun k' e _ _ G3 t3=>?_⟩
 ·rw[kK (b:=(⇑al:Int)^(⇑ws-1)) c0 c1] at h;cases h
 cases e
 exact k G3 (t1.trans t3)
inductive gv (Ad:Ë) (vs:List V) (H:Hp) (Q:VK) (E:XK):Prop
 | mk (a q D:Addr) (al:Za) (ws:Zb) (r s:Int) (zs:List Za) (fs:List Flt) (kvs:List (List Key×V)) (q0:vs=[.ref a,.ref q,.ref D,.int s]) (q1:cF Ad H a al ws r) (q2:H q=some (.lst (zs.map È))) (q3:(∀ z∈zs,r6 al z)) (q4:⇑zs<=1000) (q5:H D=some (.dT kvs)) (q6:oa H kvs fs) (q7:(∀ f∈fs,0<=f.n)) (q8:∀ p H',H p=none->aB H H'->H' p=some (.lst ((gE al fs s zs).map È))->Q (.ref p) H'):gv Ad vs H Q E
theorem sO (F:Å K "as_they_come" "as_they_come" jv f fd) (T:Bl mg) (AF:Ç K mg Ad) (C_as_it_comes:Ä P w K mg base (Á P w) 3 "as_it_comes" ["code","word","fault"] (j8 Ad)):bF P w K mg base (Á P w) 4 f fd ["code","words","first","sending"] (gv Ad):=by
 exists["code","words","first","sending"];obtain⟨a,q,D,al,ws,r,s,zs,fs,kvs,rfl,hC,hq,hok,hl,hD,hF,hn,k⟩:=h;refine⟨_,ao (aG (fZ ["place","word"] rfl ⟨rfl,by nofun,rfl,by nofun⟩ (.cons (j:=0) rfl (.inl (by ext)) (.cons (j:=2) rfl (.inl (by ext)) (.cons (j:=3) rfl (.inl (by ext)) (.nil)))) (by nofun) (uG (K:=K) rfl T.enumerate (ah (À 1) af)) (fun _ _ _ _=>jW (K:=K) (n:=2) rfl rfl (cA (aM (i:=0) (show (["place","word","code","first","sending"]:Ze).Nodup from by nofun)) (cA (aM (i:=1) (show (["place","word","code","first","sending"]:Ze).Nodup from by nofun)) jc))) (fun _ _ _ _=>cZ) (fun _ _ _ _=>a8 C_as_it_comes fg (hr.mono Zd) (ah (Ê 2) (ah (À 1) (ah (rN hu1 (Ê 3) (dw (ah (Ê 4) (ah (À 0) af)))) af)))))),?_⟩;have le2:2<=sizeLine:=aT (av Zd);symm;refine⟨q,rfl,⟨_,.of hq⟩,FE (.of hq) (by rw[ak];exact av ⋯) (fun i=>È (kN al (zs.getD i []) (fs.find? (hits s (i:Int))))) ?_ ?_⟩
 ·intro i x hx H1 s1 R hR;rw[aX] at hx;obtain⟨z,hz,rfl⟩:=dU.mp hx;have ez:zs.getD i []=z:=by rw[aK,hz];rfl
  rw[ez] at hR;have okz:=hok z (bT hz);have hD1:=s1 _ _ hD;symm;refine⟨.inr ⟨_,.inl hD1⟩,le2,fun p1 H2 hp1 s2 h2=>⟨_,kj.t (k:=[.inl s,.inl (i:Int)]) (s2 _ _ hD1) h2,?_⟩⟩;refine⟨a,al,z,ws,r,fs.find? (hits s (i:Int)),_,rfl,hC.same (s1.trans s2),okz,?_,hR H2 s2⟩;rcases hF s (i:Int) with ⟨e1,e2⟩ | ⟨t2,f2,e1,e2,e3⟩
  ·exact .inl ⟨e2,by rw[e1];rfl⟩
  ·exact .inr ⟨t2,f2,e2,by rw[e1];rfl,(s1.trans s2) _ _ e3,hn f2 (qV e2)⟩
 ·intro p H1 hp s1 h1;refine k p H1 hp s1 ?_;rw[h1];unfold gE;rw[bf,ak];rfl
inductive j5 (Ad:Ë) (vs:List V) (H:Hp) (Q:VK) (E:XK):Prop
 | mk (b ca dn de f t:Addr) (es:List Æ) (al:Za) (ws:Zb) (r n:Int) (key:List Key) (y:V) (q0:vs=[.ref b,.ref t,y,.ref f]) (q1:du Ad H b ca dn de es) (q2:cF Ad H ca al ws r) (q3:cw al ws r) (q4:rq uc Ad.tb H f) (q5:H t=some (.tup (key.map kV))) (q6:fV key) (q7:key∉es.map (·.key)) (q8:⇑es<300) (q9:0<=n) (q10:n<dj al ws) (q11:n∉es.map (·.num)) (q12:(y=.int n∨(y=.non/\zF (es.map (·.num)) n))) (q13:∀ H',aB H H'->Q (.int n) H'):j5 Ad vs H Q E
theorem uN:aJ ["self","entry","number","is_barred"] ["self","entry","number","is_barred"] (ax km):=by subst_eqs
theorem um (F:Å K "choose" "Book.choose" km f fd) (T:Bl mg) (AF:Ç K mg Ad) (C_is_below:Ä P w K mg base (Á P w) 2 "is_below" ["thing","bound"] gH) (C_is_entry:Ä P w K mg base (Á P w) 3 "is_entry" ["thing"] nv) (M_Book_least_free:Ð P w K mg base (Á P w) Ad.Book "least_free" 2 ["self","is_barred"] (eO Ad)) (M_Code_many:Ð P w K mg base (Á P w) Ad.Code "many" 1 ["self"] (fT Ad)):bF P w K mg base (Á P w) 4 f fd ["self","entry","number","is_barred"] (j5 Ad):=by
 refine F.â (k:=3) uN ?_ (fun cdv A outer s H vs Q E hr h=>?_)
 ·bv_decide
 ·obtain⟨b,ca,dn,de,f,t,es,al,ws,r,n,key,y,rfl,B,C,ok,Fb,ht,eo,hk,h300,n0,n1,hnn,hy,k⟩:=h;obtain⟨dx,h1⟩:=B.bk;have hu:=hr.iX;have hu1:=mF hr;refine⟨_,ag (bG (c8 (cx (a8 C_is_entry az (hr.mono Zd) (ah (À 1) af)))) (ao (dO dW AF.q_NoEntry AF.g_NoEntry da rfl (ah bt af))) aV) (ag (bG (aR (mL (K:=K) rfl hu1) (À 1) (cz (K:=K) rfl (À 0)) (by ext)) (ao (dO dW AF.q_Twice AF.g_Twice da rfl (ah bt af))) aV) (ag (bG (aR oy (À 2) dh (aU _)) (ag (bG (c8 (cx (a8 C_is_below az (hr.mono Zd) (ah (À 2) (ah (cY M_Code_many az (hr.mono Zd) (cz (K:=K) rfl (À 0))) af))))) (ao (dO dW AF.q_NoNumber AF.g_NoNumber da rfl (ah bt af))) aV) (ao (bG ((iE (aR (mL (K:=K) rfl hu1) (À 2) (cz (K:=K) rfl (À 0)) (by ext)) (gW (cx (uD (q:=uc) (Pt:=Ad.tb) (À 3) hr (ah (À 2) af))))).pt) (ao (dO dW AF.q_NoNumber AF.g_NoNumber da rfl (ah bt af))) aV))) aV) (ag (bG (aR FX (ay CL T.len bz (ah (cz (K:=K) rfl (À 0)) af)) (dB AF.v_MOST_ENTRIES) (aU _)) (ao (dO dW AF.q_TooMany AF.g_TooMany da rfl (ah bt af))) aV) (ao (aG (mO (aR jq (À 2) dh (aU _)) (e9 M_Book_least_free az (hr.mono Zd) (À 0) (ah (À 3) af)) (À 2))))))),?_⟩;grind;refine⟨_,.tup,rfl,(show mn (H t)=_ by rw[ht];rfl),(fun p xs ep hp=>?_),fun G1 t1=>?_⟩
  ·cases ep
   rw[ht] at hp;cases hp;refine⟨by rw[ak];have:=eo.few;left,fun v hv=>?_⟩;obtain⟨z,hz,rfl⟩:=aO.mp hv;exact⟨F7 H z,fun s es=>eo.short s (by rw[←es];exact hv)⟩
  rw[BL ht eo];symm;cbv;have B1:=B.same t1;obtain⟨dx1,h11⟩:=B1.bk;grind;refine⟨_,dx1,_,_,h11,AF.c_Book,AF.n_Book_by_entry,r9 ca dn de,?_⟩;refine .inr ⟨_,.inr ⟨_,key,t,.inl B1.he,rfl,t1 _ _ ht,rfl⟩,?_⟩;rw[zU hk];bv_omega;show nn _ _ _;cbv;have rest:∀ (G2:Hp),aB H G2->(Hg
       (Ly
        (z6
         (ö (Ms K) (Ā Gv (wu (Hc K (vd 0) (Str.ofString "by_number")) Bp)) (tC (V.int 300))))
        (AY Ad.TooMany (fun x=>E) (wu (tC (V.str (Str.ofString "a book has at most 300 entries"))) Bp))
        Hf)
       (Lz
        (Ę (z6 (ö (Eg false) (vd 2) (tC V.non)))
         (xP Ad.Book (Str.ofString "least_free") (eO Ad) (fun x=>E) (vd 0)
          (wu (vd 3) Bp))
         (vd 2)))) { nx:=fun x H'=>Q V.non H',rt:=Q } [some (V.ref b),some (V.ref t),some y,some (V.ref f)] G2:=by
   intro G2 t2;have B2:=B.same t2;obtain⟨dx2,h12⟩:=B2.bk;grind;refine⟨_,dx2,_,_,h12,AF.c_Book,AF.n_Book_by_number,kL ca dn de,?_⟩;symm;refine⟨_,.inl B2.hn,?_⟩;rw[mK,aF (show ¬ (300:Int)<=(⇑es:Int) by left)];bv_omega;show nn _ _ _;cbv;rcases hy with rfl | ⟨rfl,Lf⟩
   ·symm;exact k G2 t2
   ·symm;exact⟨dx2,_,h12,dg Zd Zd Zd ca dn de,b,ca,dn,de,f,es,al,ws,r,n,rfl,B2,C.same t2,ok,Fb.same t2,Lf,n1,fun G3 t3=>k G3 (t2.trans t3)⟩
  grind;rcases id hy with rfl | ⟨rfl,Lf⟩
  ·symm;have C1:=C.same t1;obtain⟨dc,qc,hc1,hc2⟩:=id C1;refine cK fun n2 hM=>?_;symm;refine⟨_,dx1,_,_,h11,AF.c_Book,AF.n_Book_basis,jS ca dn de,?_⟩;refine⟨dc,_,hc1,c5 Zd Zd Zd al qc r,ca,al,ws,r,rfl,C1,ok.a26,by have:=ok.w3;left,ok.w8,fun G2 t2=>?_⟩;refine⟨_,.int,_,rfl,rfl,?_⟩;rw[kK (b:=(⇑al:Int)^(⇑ws-1)) n0 n1];symm;rw[hM];clear hM n2;have t02:=t1.trans t2;have B2:=B.same t02;obtain⟨dx2,h12⟩:=B2.bk;symm;refine⟨_,dx2,_,_,h12,AF.c_Book,AF.n_Book_by_number,kL ca dn de,?_⟩;refine .inr ⟨_,.inl ⟨_,.inl n,.inl B2.hn,rfl,rfl⟩,?_⟩;rw[uk hnn];bv_omega;refine⟨Fb.same t02,Fb.same t02,?_⟩;show nn _ _ _;rw[hN];exact rest G2 t02
  ·symm;show nn _ _ _;rw[hN];exact rest G1 t1
theorem EY (h:iP xs=true):∃ key:List Key,xs=key.map kV:=by
 cases xs with
 | nil=>cases h
 | cons a r =>
  cases a with
  | str z =>
   cases r with
   | nil=>exact⟨[.inr z],rfl⟩
   | cons y r2 =>
    cases r2 with
    | cons _ _=>cases h
    | nil =>
     have h':(if z=("phrase":Str) then i5 6 y else if z=("part":Str) then gN 6 y else false)=true:=h;cases y with
     | str y=>exact⟨[.inr z,.inr y],rfl⟩
     | _ =>
      exfalso;split at h'
      ·cases h'
      ·split at h'
       ·cases h'
       ·cases h'
  | _=>cases h
inductive j6 (Ad:Ë) (vs:List V) (H:Hp) (Q:VK) (E:XK):Prop
 | mk (b ca dn de:Addr) (es:List Æ) (x:V) (t:Tg) (q0:vs=[.ref b,x]) (q1:du Ad H b ca dn de es) (q2:gb H x=some t) (q3:(∀ p xs,x=.ref p->H p=some (.tup xs)->⇑xs<=1000/\∀ y∈xs,(∃ t,gb H y=some t)/\∀ z,y=.str z->⇑z<=10000)) (q4:(rB H x=false->∀ H',aB H H'->Q .non H')) (q5:(∀ p key,x=.ref p->H p=some (.tup (key.map kV))->iP (key.map kV)=true->(∀ e∈es,e.key=key->∀ H',aB H H'->Q (.int e.num) H')/\(key∉es.map (·.key)->∀ H',aB H H'->Q .non H'))):j6 Ad vs H Q E
theorem uo (F:Å K "number" "Book.number" kn f fd) (T:Bl mg) (AF:Ç K mg Ad) (C_is_entry:Ä P w K mg base (Á P w) 3 "is_entry" ["thing"] nv):bF P w K mg base (Á P w) 4 f fd ["self","entry"] (j6 Ad):=by
 exists["self","entry"];obtain⟨b,ca,dn,de,es,x,t,rfl,B,ht,hx,k1,k2⟩:=h;refine⟨_,ag (bG (c8 (cx (a8 C_is_entry az (hr.mono Zd) (ah (À 1) af)))) (ao (aG dh)) aV) (ao (aG (rN hu1 (cz (K:=K) rfl (À 0)) (À 1)))),?_⟩;grind;refine⟨x,t,rfl,ht,hx,fun H1 s1=>⟨_,rfl,?_⟩⟩;cases hv:rB H x with
 | false =>bv_omega;exact k1 hv H1 s1
 | true =>
  bv_omega;show nn _ _ _;cbv;cases x with
  | ref p =>
   have hv':(match H p with | some (.tup xs)=>iP xs | _=>false)=true:=hv;cases hp:H p with
   | none=>rw[hp] at hv';cases hv'
   | some o =>
    rw[hp] at hv';cases o with
    | tup xs =>
     obtain⟨key,rfl⟩:=EY hv';obtain⟨q1,q2⟩:=k2 p key rfl hp hv';have B1:=B.same s1;obtain⟨dx1,h11⟩:=B1.bk;symm;refine⟨_,dx1,_,_,h11,AF.c_Book,AF.n_Book_by_entry,r9 ca dn de,de,rfl,.inr ⟨_,.inl B1.he⟩,_,kj.t (k:=key) B1.he (s1 _ _ hp),?_⟩
     by_cases hm:key∈es.map (·.key)
     ·obtain⟨e,he,ee⟩:=aO.mp hm;rw[←ee,HW B.nk he];exact q1 e he ee H1 s1
     ·rw[zU hm];exact q2 hm H1 s1
    | _=>cases hv'
  | _=>cases hv
inductive nC (Ad:Ë) (vs:List V) (H:Hp) (Q:VK) (E:XK):Prop
 | mk (b ca dn de g:Addr) (es grp:List Æ) (al:Za) (ws:Zb) (r:Int) (wd:List Za) (q0:vs=[.ref b,.ref g]) (q1:du Ad H b ca dn de es) (q2:cF Ad H ca al ws r) (q3:cw al ws r) (q4:(∀ e∈es,fV e.key/\0<=e.num/\e.num<dj al ws)) (q5:H g=some (.lst ((grp.map (·.num)).map V.int))) (q6:⇑grp<=900) (q7:(∀ e∈grp,e∈es)) (q8:runK (grp.map (·.key)) ([],[])=some (wd,[])) (q9:wd≠[]) (q10:∀ D H',H D=none->aB H H'->H' D=some (.lst ((nF al ws r (grp.map (·.num))).map È))->Q (.ref D) H'):nC Ad vs H Q E
theorem sC:aJ ["book","groups","code"] ["book","groups"] (ax pU):=by subst_eqs
theorem zb (F:Å K "telegram" "telegram" pU f fd) (T:Bl mg) (AF:Ç K mg Ad) (C_check_of:Ä P w K mg base (Á P w) 4 "check_of" ["code","groups"] (nr Ad)) (C_said:Ä P w K mg base (Á P w) 4 "said" ["book","groups"] (tE Ad)) (M_Code_word:Ð P w K mg base (Á P w) Ad.Code "word" 3 ["self","k"] (jg Ad)) (M_Book_code:Ð P w K mg base (Á P w) Ad.Book "code" 1 ["self"] (dP Ad)):bF P w K mg base (Á P w) 5 f fd ["book","groups"] (nC Ad):=by
 specialize sC;obtain⟨b,ca,dn,de,g,es,grp,al,ws,r,wd,rfl,B,C,ok,hes,hg,gl,gm,hrun,hne,k⟩:=h;refine⟨_,ag (eM (a8 C_said az (hr.mono Zd) (ah (À 0) (ah (À 1) af)))) (ag (i6 (i:=2) sC.nd (cY M_Book_code az (hr.mono Zd) (À 0))) (ao (aG (aD aZ (fZ ["group"] rfl ⟨rfl,by nofun,rfl,by nofun⟩ (.cons (j:=2) rfl (.inl (by ext)) (.nil)) (by nofun) (cG (K:=K) rfl (À 1)) (fun _ _ _ _=>aM (i:=0) (show (["group","code"]:Ze).Nodup from by nofun)) (fun _ _ _ _=>cZ) (fun _ _ _ _=>e9 M_Code_word fg (hr.mono Zd) (Ê 1) (ah (À 0) af))) (cb (ah (a8 C_check_of az (hr.mono Zd) (ah (Ê 2) (ah (À 1) af))) af)))))),?_⟩;grind;refine⟨b,ca,dn,de,g,es,grp,al,ws,r,wd,rfl,B,C,ok,hes,by rw[hg,bf];rfl,⋯,gm,hrun,hne,fun H1 s1=>?_⟩;have hgb:∀ x∈grp.map (·.num),0<=x/\x<dj al ws:=fun x hx=>by
  obtain⟨e,he,rfl⟩:=aO.mp hx;exact (hes e (gm e he)).2
 have gl2:⇑(grp.map (·.num))<=900:=by rw[ak];exact gl
 generalize grp.map (·.num)=gs at hg hgb gl2 k;rw[hN];clear hN nn hrun gm hes gl;grind;have B1:=B.same s1;have C1:=C.same s1;have hg1:=s1 _ _ hg;obtain⟨dx,h1⟩:=B1.bk;refine⟨dx,_,h1,dg Zd Zd Zd ca dn de,b,ca,dn,de,es,rfl,B1,?_⟩;cbv;symm;refine .inl ⟨⟨_,.of hg1⟩,ud V.int ja (eU (.of hg1)) (av ⋯) (fun g=>È (xT al ws r g)) ?_ ?_⟩
 ·intro x hx G2 t2 R hR;have C2:=C1.same t2;obtain⟨dc2,qc2,hc21,hc22⟩:=id C2;obtain⟨g0,g1⟩:=hgb x hx;symm;refine⟨dc2,_,hc21,c5 Zd Zd Zd al qc2 r,ca,al,ws,r,.int x,.int,rfl,C2,ok,rfl,(fun h=>?_),fun k e _ _ G3 t3=>?_⟩
  ·rw[kK (b:=(⇑al:Int)^(⇑ws-1)) g0 g1] at h;cases h
  ·cases e
   exact hR G3 t3
 intro D G2 hD t2 g2;symm;refine⟨ca,g,al,ws,r,gs,rfl,C1.same t2,ok,t2 _ _ hg1,fun G3 t3=>?_⟩;refine⟨aT (av Zd),fun p G4 hp t4 g4=>⟨_,_,(t3.trans t4) _ _ g2,g4,by rw[ak];exact aT (av (by simp;left)),fun p5 G5 hp5 t5 g5=>?_⟩⟩;refine k p5 G5 ((s1.trans (t2.trans (t3.trans t4))).free hp5) (s1.trans (t2.trans (t3.trans (t4.trans t5)))) ?_;rw[g5];unfold nF;rw[bD,bf];rfl
inductive kg (Ad:Ë) (vs:List V) (H:Hp) (Q:VK) (E:XK):Prop
 | mk (b ca dn de:Addr) (es:List Æ) (al:Za) (ws:Zb) (r:Int) (z:Za) (c:Bool) (q0:vs=[.ref b,.str (tx z),.bl c]) (q1:du Ad H b ca dn de es) (q2:cF Ad H ca al ws r) (q3:cw al ws r) (q4:⇑z<=100) (q5:∀ H',aB H H'->Q (.bl (Mk.cL al ws r z&&(c||decide (oO al z∈es.map (·.num))))) H'):kg Ad vs H Q E
theorem sy:aJ ["book","word","is_check","code"] ["book","word","is_check"] (ax pL):=by subst_eqs
theorem yU (F:Å K "is_sound" "is_sound" pL f fd) (T:Bl mg) (AF:Ç K mg Ad) (M_Book_entry:Ð P w K mg base (Á P w) Ad.Book "entry" 3 ["self","number"] (i7 Ad)) (M_Code_number:Ð P w K mg base (Á P w) Ad.Code "number" 4 ["self","word"] (hO Ad)) (M_Code_has_good:Ð P w K mg base (Á P w) Ad.Code "has_good" 3 ["self","thing"] (eB Ad)) (M_Book_code:Ð P w K mg base (Á P w) Ad.Book "code" 1 ["self"] (dP Ad)):bF P w K mg base (Á P w) 5 f fd ["book","word","is_check"] (kg Ad):=by
 refine F.â (k:=4) sy ?_ (fun cdv A outer s H vs Q E hr h=>?_)
 ·bv_decide
 ·obtain⟨b,ca,dn,de,es,al,ws,r,z,c,rfl,B,C,ok,zl,k⟩:=h;obtain⟨dx,h1⟩:=B.bk;have hu:=hr.iX;have hu1:=mF hr;refine⟨_,ag (aA (i:=3) sy.nd (cY M_Book_code az (hr.mono Zd) (À 0))) (ag (bG (c8 (cx (e9 M_Code_has_good az (hr.mono Zd) (À 3) (ah (À 1) af)))) (ao (aG iD)) aV) (ao (aG (Ml (À 2) (mP (cT oy (e9 M_Book_entry az (hr.mono Zd) (À 0) (ah (e9 M_Code_number az (hr.mono Zd) (À 3) (ah (À 1) af)) af)) dh (aU _))))))),?_⟩;grind;refine⟨dx,_,h1,dg Zd Zd Zd ca dn de,b,ca,dn,de,es,rfl,B,?_⟩;cbv;obtain⟨dc,qc,hc1,hc2⟩:=id C;grind;refine⟨dc,_,hc1,c5 Zd Zd Zd al qc r,ca,al,ws,r,.str (tx z),.str,rfl,C,ok,rfl,(fun y ey=>by rw[←V.str.inj ey,bh];left),fun G1 t1=>?_⟩;have eg:jT (tx al) ws r (.str (tx z))=Mk.cL al ws r z:=by
   show Mk.cL (tx al).cps.toList ws r (tx z).cps.toList=_;rw[bW,bW]
  rw[eg];cases hg:Mk.cL al ws r z with
  | false =>rw[hg] at k;symm;exact k G1 t1
  | true =>
   rw[hg,eQ] at k;symm;cbv;cases c with
   | true =>symm;exact k G1 t1
   | false =>
    symm;have B1:=B.same t1;have C1:=C.same t1;obtain⟨dx1,h11⟩:=B1.bk;obtain⟨dc1,qc1,hc11,hc12⟩:=id C1;obtain⟨n0,n1⟩:=DR ok hg;refine⟨dx1,_,h11,dg Zd Zd Zd ca dn de,dc1,_,hc11,c5 Zd Zd Zd al qc1 r,ca,al,ws,r,.str (tx z),.str,rfl,C1,ok,rfl,(fun y ey=>by rw[←V.str.inj ey,bh];left),(fun h=>by rw[eg,hg] at h;cases h),fun y ey hy G2 t2=>?_⟩;have ey':y=tx z:=(V.str.inj ey).symm;subst ey';rw[bW];have en:Mk.numOf (⇑al:Int) (Mk.Û al z.dropLast)=oO al z:=rfl;rw[en] at n0 n1 ⊢;refine⟨b,ca,dn,de,es,al,ws,r,.int (oO al z),.int,rfl,B1.same t2,C1.same t2,ok,rfl,(fun h=>?_),(fun n e _ _ hn G3 t3=>?_),fun n e _ _ x hx ex G3 t3=>?_⟩
    ·rw[kK (b:=dj al ws) n0 n1] at h;cases h
    ·cases e
     have:=k G3 (t1.trans (t2.trans t3));rw[aF hn] at this;exact this
    ·cases e
     have:=k G3 (t1.trans (t2.trans t3));rw[a9 (show oO al z∈es.map (·.num) by rw[←ex];exact qU hx)] at this;exact this
inductive pY (Ad:Ë) (vs:List V) (H:Hp) (Q:VK) (E:XK):Prop
 | mk (b ca dn de q:Addr) (es grp:List Æ) (al:Za) (ws:Zb) (r:Int) (wd:List Za) (q0:vs=[.ref b,.ref q]) (q1:du Ad H b ca dn de es) (q2:cF Ad H ca al ws r) (q3:cw al ws r) (q4:(∀ e∈es,fV e.key/\0<=e.num/\e.num<dj al ws)) (q5:H q=some (.lst ((grp.map (·.num)++[((grp.map (·.num)).sum+(⇑(grp.map (·.num)):Int))%dj al ws]).map V.int))) (q6:⇑grp<=900) (q7:(∀ e∈grp,e∈es)) (q8:runK (grp.map (·.key)) ([],[])=some (wd,[])) (q9:wd≠[]) (q10:∀ H',aB H H'->Q (.str (tx (Mk.bR 32 wd))) H'):pY Ad vs H Q E
theorem uV:aJ ["book","numbers","groups"] ["book","numbers"] (ax rX):=by subst_eqs
theorem AL (F:Å K "text_of" "text_of" rX f fd) (T:Bl mg) (AF:Ç K mg Ad) (C_said:Ä P w K mg base (Á P w) 4 "said" ["book","groups"] (tE Ad)) (C_check_number:Ä P w K mg base (Á P w) 2 "check_number" ["code","groups"] (gx Ad)) (M_Book_code:Ð P w K mg base (Á P w) Ad.Book "code" 1 ["self"] (dP Ad)):bF P w K mg base (Á P w) 5 f fd ["book","numbers"] (pY Ad):=by
 specialize uV;obtain⟨b,ca,dn,de,q,es,grp,al,ws,r,wd,rfl,B,C,ok,hes,hq,gl,gm,hrun,hne,k⟩:=h;refine⟨_,ag (aA (i:=2) uV.nd (cN (iq (K:=K) rfl) (À 1) fk (cM (uF qd aj)))) (ag (bG (aR (gS (K:=K) rfl hu) (bg (bN (K:=K) rfl) (À 1) (uF qd aj) (fun _ _=>rfl)) (a8 C_check_number az (hr.mono Zd) (ah (cY M_Book_code az (hr.mono Zd) (À 0)) (ah (À 2) af))) (aU _)) (ao (aG dh)) aV) (ao (Jf (fun pn=>ao (aG (a8 C_said fg (hr.mono Zd) (ah (À 0) (ah (À 2) af)))))))),?_⟩;grind;refine⟨_,.of hq,fun p H1 hp s1 h1=>?_⟩;rw[De,←List.map_dropLast,List.dropLast_concat] at h1;cbv;grind;have B1:=B.same s1;have C1:=C.same s1;obtain⟨dx,hb1⟩:=B1.bk;refine⟨_,_,.l (s1 _ _ hq),og (v:=.int (((grp.map (·.num)).sum+(⇑(grp.map (·.num)):Int))%dj al ws)) (by rw[List.getLast?_map,List.getLast?_concat];rfl),dx,_,hb1,dg Zd Zd Zd ca dn de,b,ca,dn,de,es,rfl,B1,?_⟩;refine⟨ca,p,al,ws,r,grp.map (·.num),rfl,C1,ok,h1,fun G1 t1=>?_⟩;symm;rw[ai (by decide)];show nn _ _ _;cbv;symm;exact⟨b,ca,dn,de,p,es,grp,al,ws,r,wd,rfl,B1.same t1,C1.same t1,ok,hes,by rw[t1 _ _ h1,bf];rfl,⋯,gm,hrun,hne,fun G2 t2=>k G2 (s1.trans (t1.trans t2))⟩
inductive pV (Ad:Ë) (vs:List V) (H:Hp) (Q:VK) (E:XK):Prop
 | mk (a q b:Addr) (al:Za) (ws:Zb) (r s:Int) (zs:List Za) (fv:List V) (fs:List Flt) (q0:vs=[.ref a,.ref q,.ref b,.int s]) (q1:cF Ad H a al ws r) (q2:H q=some (.lst (zs.map È))) (q3:(∀ z∈zs,r6 al z)) (q4:⇑zs<=1000) (q5:H b=some (.lst fv)) (q6:ft H fv fs) (q7:⇑fs<=1000) (q8:(∀ f∈fs,0<=f.n)) (q9:∀ p H',H p=none->aB H H'->H' p=some (.lst ((gE al fs s zs).map È))->Q (.ref p) H'):pV Ad vs H Q E
theorem AE (F:Å K "garbled" "garbled" rQ f fd) (T:Bl mg) (AF:Ç K mg Ad) (C_as_they_come:Ä P w K mg base (Á P w) 4 "as_they_come" ["code","words","first","sending"] (gv Ad)) (C_first_faults:Ä P w K mg base (Á P w) 1 "first_faults" ["faults"] iV):bF P w K mg base (Á P w) 5 f fd ["code","words","faults","sending"] (pV Ad):=by
 exists["code","words","faults","sending"];obtain⟨a,q,b,al,ws,r,s,zs,fv,fs,rfl,hC,hq,hok,hl,hb,hf,hfl,hn,k⟩:=h;refine⟨_,ao (aG (a8 C_as_they_come az (hr.mono Zd) (ah (À 0) (ah (À 1) (ah (a8 C_first_faults az (hr.mono Zd) (ah (À 2) af)) (ah (À 3) af)))))),?_⟩;symm;refine⟨b,fv,fs,rfl,hb,hf,hfl,fun D kvs H1 hD s1 h1 hF=>?_⟩;exact⟨a,q,D,al,ws,r,s,zs,fs,kvs,rfl,hC.same s1,s1 _ _ hq,hok,hl,h1,hF,hn,fun p H2 hp s2 h2=>k p H2 (s1.free hp) (s1.trans s2) h2⟩
inductive iF (Ad:Ë) (vs:List V) (H:Hp) (Q:VK) (E:XK):Prop
 | mk (b ca dn de t:Addr) (es:List Æ) (al:Za) (ws:Zb) (r n:Int) (key:List Key) (y:V) (q0:vs=[.ref b,.ref t,y]) (q1:du Ad H b ca dn de es) (q2:cF Ad H ca al ws r) (q3:cw al ws r) (q4:H Ad.tb=some (il uc)) (q5:H t=some (.tup (key.map kV))) (q6:fV key) (q7:key∉es.map (·.key)) (q8:⇑es<300) (q9:0<=n) (q10:n<dj al ws) (q11:n∉es.map (·.num)) (q12:(y=.int n∨(y=.non/\zF (es.map (·.num)) n))) (q13:∀ H',(∀ c o,c≠dn->c≠de->H c=some o->H' c=some o)->du Ad H' b ca dn de (es++[⟨n,key,t⟩])->Q (.int n) H'):iF Ad vs H Q E
theorem sr:aJ ["self","entry","number","given"] ["self","entry","number"] (ax di):=by subst_eqs
theorem sq (F:C7 K "put" "Book.put" di f fd) (T:Bl mg) (AF:Ç K mg Ad) (CD:fd.code=.ref Ad.cd) (M_Book_choose:Ð P w K mg base (Á P w) Ad.Book "choose" 4 ["self","entry","number","is_barred"] (j5 Ad)):bF P w K mg base (Á P w) 5 f fd ["self","entry","number"] (iF Ad):=by
 refine F.õ (k:=4) CD sr ?_ (fun A outer s H vs Q E hr h=>?_)
 ·bv_decide
 ·obtain⟨b,ca,dn,de,t,es,al,ws,r,n,key,y,rfl,B,C,ok,Tb,ht,eo,hk,h300,n0,n1,hnn,hy,k⟩:=h;obtain⟨dx,h1⟩:=B.bk;have hu:=hr.iX;have hu1:=mF hr;refine⟨_,ag (aA (i:=3) sr.nd (e9 M_Book_choose az (hr.mono Zd) (À 0) (ah (À 1) (ah (À 2) (ah (IW (q:=uc) (x:="k") rfl AF.t_tab (by ext) rfl rfl (fun _ _ _ _=>rfl)) af))))) (ag (uK hu1 (cz (K:=K) rfl (À 0)) (À 3) (À 1)) (ag (uK hu1 (cz (K:=K) rfl (À 0)) (À 1) (À 3)) (ao (aG (À 3))))),?_⟩;grind;refine⟨dx,_,h1,dg Zd Zd Zd ca dn de,Tb,fun f G1 z1 t1 Fb=>?_⟩;refine⟨b,ca,dn,de,f,t,es,al,ws,r,n,key,y,rfl,B.same t1,C.same t1,ok,Fb,t1 _ _ ht,eo,hk,h300,n0,n1,hnn,hy,fun G2 t2=>?_⟩;have t02:=t1.trans t2;have B2:=B.same t02;obtain⟨dx2,h12⟩:=B2.bk;cbv;grind;refine⟨_,dx2,_,_,h12,AF.c_Book,AF.n_Book_by_number,kL ca dn de,dn,_,rfl,.inl ⟨_,.inl n,B2.hn,rfl,by rw[mK];exact av ⋯,rfl⟩,?_⟩;rw[xC (uk hnn),show iu es++[((.inl n:Key),V.ref t)]=iu (es++[⟨n,key,t⟩]) from (wa es ⟨n,key,t⟩).symm];have hnb:dn≠b:=gR B2.hn h12 (by intro z;cases z);have heb:de≠b:=gR B2.he h12 (by intro z;cases z);have hne:dn≠de:=gR B2.hn B2.he (by intro z;cases z);have hdt:∀ {c:Addr}{xs:List V},G2 c=some (.tup xs)->c≠dn/\c≠de:=fun h=>⟨gR h B2.hn (by intro z;cases z),gR h B2.he (by intro z;cases z)⟩;have k3:∀ c o,c≠dn->G2 c=some o->upd G2 dn (.dK (iu (es++[⟨n,key,t⟩]))) c=some o:=fun c o hc h=>by rw[aN hc];exact h
  have g3:upd G2 dn (.dK (iu (es++[⟨n,key,t⟩]))) dn=some (.dK (iu (es++[⟨n,key,t⟩]))):=aI;generalize upd G2 dn (.dK (iu (es++[⟨n,key,t⟩])))=G3 at k3 g3;cbv;have ht2:=t02 _ _ ht;have hb3:=k3 _ _ hnb.symm h12;grind;refine⟨_,dx2,_,_,hb3,AF.c_Book,AF.n_Book_by_entry,r9 ca dn de,de,_,rfl,.inr ⟨_,key,t,k3 _ _ hne.symm B2.he,rfl,k3 _ _ (hdt ht2).1 ht2,by show ⇑(qi es)<_;unfold qi;rw[ak];exact av ⋯,rfl⟩,?_⟩;rw[xC (zU hk),show qi es++[(key,V.int n)]=qi (es++[⟨n,key,t⟩]) from (Di es ⟨n,key,t⟩).symm];have k4:∀ c o,c≠de->G3 c=some o->upd G3 de (.dT (qi (es++[⟨n,key,t⟩]))) c=some o:=fun c o hc h=>by rw[aN hc];exact h
  have g4:upd G3 de (.dT (qi (es++[⟨n,key,t⟩]))) de=some (.dT (qi (es++[⟨n,key,t⟩]))):=aI;generalize upd G3 de (.dT (qi (es++[⟨n,key,t⟩])))=G4 at k4 g4;cbv;symm;refine k G4 (fun c o h1 h2 h=>k4 _ _ h2 (k3 _ _ h1 (t02 _ _ h))) ⟨⟨dx2,k4 _ _ heb.symm hb3⟩,k4 _ _ hne g3,g4,fun e he=>?_,?_,?_⟩
  ·rcases bC.mp he with he | he
   ·have:=B2.en e he;exact k4 _ _ (hdt this).2 (k3 _ _ (hdt this).1 this)
   ·rw[aS.mp he];exact k4 _ _ (hdt ht2).2 (k3 _ _ (hdt ht2).1 ht2)
  ·rw[bD];exact xc B.nn hnn
  ·rw[bD];exact xc B.nk hk
inductive i8 (Ad:Ë) (vs:List V) (H:Hp) (Q:VK) (E:XK):Prop
 | mk (b ca dn de t:Addr) (es:List Æ) (key:List Key) (q0:vs=[.ref b,.ref t]) (q1:du Ad H b ca dn de es) (q2:H t=some (.tup (key.map kV))) (q3:fV key) (q4:∀ v H',aB H H'->jO H' v (one (iC es key))->Q v H'):i8 Ad vs H Q E
theorem oU:aJ ["book","entry","number"] ["book","entry"] (ax lZ):=by subst_eqs
theorem vt (F:Å K "lone_group" "lone_group" lZ f fd) (T:Bl mg) (AF:Ç K mg Ad) (M_Book_number:Ð P w K mg base (Á P w) Ad.Book "number" 4 ["self","entry"] (j6 Ad)):bF P w K mg base (Á P w) 5 f fd ["book","entry"] (i8 Ad):=by
 specialize oU;obtain⟨b,ca,dn,de,t,es,key,rfl,B,ht,eok,k⟩:=h;refine⟨_,ag (aA (i:=2) oU.nd (e9 M_Book_number az (hr.mono Zd) (À 0) (ah (À 1) af))) (ao (aG (mO (aR jq (À 2) dh (aU _)) dh (cb (ah (À 2) af))))),?_⟩;obtain⟨dx,h1⟩:=B.bk;obtain⟨tt1,tt2⟩:=HV ht eok;grind;refine⟨dx,_,h1,dg Zd Zd Zd ca dn de,b,ca,dn,de,es,.ref t,.tup,rfl,B,tt1,tt2,fun hv=>?_,fun q' key' e1 e2 e3=>⟨fun u hu ek G5 t5=>?_,fun hno G5 t5=>?_⟩⟩
 ·rw[BL ht eok] at hv;cases hv
 ·cases e1
  have ekk:key=key':=qk (by rw[ht] at e2;injection e2 with e2;injection e2);subst ekk;cbv;symm;refine⟨aT (av Zd),fun p H2 hp s2 h2=>k _ H2 (t5.trans s2) ?_⟩;rw[←ek,DT B.nk hu];exact⟨p,rfl,h2⟩
 ·cases e1
  have ekk:key=key':=qk (by rw[ht] at e2;injection e2 with e2;injection e2);subst ekk;cbv;symm;refine k _ G5 t5 ?_;rw[DS hno];rfl
inductive nt (Ad:Ë) (vs:List V) (H:Hp) (Q:VK) (E:XK):Prop
 | mk (b ca dn de q:Addr) (es:List Æ) (al:Za) (ws:Zb) (r:Int) (zs:List Za) (q0:vs=[.ref b,.ref q]) (q1:du Ad H b ca dn de es) (q2:cF Ad H ca al ws r) (q3:cw al ws r) (q4:H q=some (.lst (zs.map È))) (q5:2<=⇑zs) (q6:⇑zs<=1000) (q7:(∀ z∈zs,GoodW al ws r z)) (q8:(∀ (i:Nat) z,zs[i]?=some z->i+1<⇑zs->oO al z∈es.map (·.num))) (q9:∀ D H',H D=none->aB H H'->H' D=some (.lst [])->Q (.ref D) H'):nt Ad vs H Q E
theorem sx:aJ ["book","words","last"] ["book","words"] (ax pI):=by subst_eqs
theorem yR (F:Å K "doubtful" "doubtful" pI f fd) (T:Bl mg) (AF:Ç K mg Ad) (C_is_sound:Ä P w K mg base (Á P w) 5 "is_sound" ["book","word","is_check"] (kg Ad)) (C_are_words_of:Ä P w K mg base (Á P w) 2 "are_words_of" ["code","thing"] (iU Ad)) (M_Book_code:Ð P w K mg base (Á P w) Ad.Book "code" 1 ["self"] (dP Ad)):bF P w K mg base (Á P w) 6 f fd ["book","words"] (nt Ad):=by
 specialize sx;obtain⟨b,ca,dn,de,q,es,al,ws,r,zs,rfl,B,C,ok,hq,z2,zm,hgd,hin,k⟩:=h;refine⟨_,ag (bG (c8 (cx (a8 C_are_words_of az (hr.mono Zd) (ah (cY M_Book_code az (hr.mono Zd) (Ê 0)) (ah (À 1) af))))) (ao (dO dW AF.q_NoWord AF.g_NoWord da rfl (ah bt af))) aV) (ag (i6 (i:=2) sx.nd (aD fi (ay (aH (K:=K) rfl) T.len bz (ah (À 1) af)) aj)) (ao (aG (fZ ["at","word"] rfl ⟨rfl,by nofun,rfl,by nofun⟩ (.cons (j:=0) rfl (.inl (by ext)) (.cons (j:=2) rfl (.inl (by ext)) (.nil))) (by nofun) (uG (K:=K) rfl T.enumerate (ah (À 1) af)) (fun _ _ _ _=>jW (K:=K) (n:=2) rfl rfl (cA (aM (i:=0) (show (["at","word","book","last"]:Ze).Nodup from by nofun)) (cA (aM (i:=1) (show (["at","word","book","last"]:Ze).Nodup from by nofun)) jc))) (fun _ _ _ _=>oz (c8 (cx (a8 C_is_sound fg (hr.mono Zd) (ah (Ê 2) (ah (À 1) (ah (cT (c6 (K:=K) rfl hu) (À 0) (Ê 3) (aU _)) af))))))) (fun _ _ _ _=>À 0))))),?_⟩;obtain⟨dx,hb1⟩:=B.bk;have hwd:∀ z∈zs,r6 al z:=fun z hz=>(hgd z hz).wd ok;grind;refine⟨dx,_,hb1,dg Zd Zd Zd ca dn de,b,ca,dn,de,es,rfl,B,?_⟩;refine⟨ca,q,al,ws,r,zs,rfl,C,hq,z2,zm,fun z hz=>?_,(fun z hz=>(hwd z hz).z8),fun H1 s1=>?_⟩
 ·have:=(hgd z hz).good ok;unfold Mk.cL at this;rw[bV] at this;exact this.1
 symm;show nn _ _ _;cbv;grind;refine⟨_,.l (s1 _ _ hq),?_⟩;rw[ak,hN];clear hN nn;symm;have hp1:=s1 _ _ hq;refine⟨q,rfl,⟨_,.of hp1⟩,FF (.of hp1) (by rw[ak];exact av ⋯) (fun _=>false) oN ?_ ?_ ?_⟩
 ·intro i v hi G2 t2 R hR;rw[aX] at hi;obtain⟨z,hzi,rfl⟩:=dU.mp hi;have hzm:=bT hzi;have hil:=(bL.mp hzi).1;have z8:=(hwd z hzm).z8;unfold È;symm;refine⟨b,ca,dn,de,es,al,ws,r,z,_,rfl,B.same (s1.trans t2),C.same (s1.trans t2),ok,⋯,fun G3 t3=>?_⟩;have e:(decide ((i:Int)=(⇑zs:Int)-1)||decide (oO al z∈es.map (·.num)))=true:=by
   by_cases h:i+1<⇑zs
   ·rw[a9 (hin i z hzi h),Bool.or_true]
   ·rw[a9 (show (i:Int)=(⇑zs:Int)-1 by left),Bool.true_or]
  rw[(hgd z hzm).good ok,e];exact⟨_,rfl,hR G3 t3⟩
 ·intro i v hi h;cases h
 intro D G2 hD t2 g2;refine k D G2 (s1.free hD) (s1.trans t2) ?_;rw[g2,lq.mpr fun _ _=>bP];rfl
inductive kD (Ad:Ë) (vs:List V) (H:Hp) (Q:VK) (E:XK):Prop
 | mk (b ca dn de q p:Addr) (es:List Æ) (al:Za) (ws:Zb) (r:Int) (zs:List Za) (fv:List V) (fs:List Flt) (q0:vs=[.ref b,.ref q,.ref p]) (q1:du Ad H b ca dn de es) (q2:cF Ad H ca al ws r) (q3:cw al ws r) (q4:H q=some (.lst (zs.map È))) (q5:(∀ z∈zs,GoodW al ws r z)) (q6:1<=⇑zs) (q7:⇑zs<=64) (q8:(∀ (i:Nat) z,zs[i]?=some z->i+1<⇑zs->oO al z∈es.map (·.num))) (q9:H p=some (.lst fv)) (q10:ft H fv fs) (q11:⇑fs<=1000) (q12:(∀ f∈fs,0<=f.n/\f.s≠61)) (q13:∀ T pk ps svs H',H T=none->H pk=none->H ps=none->aB H H'->H' T=some (.tup [.ref pk,.ref ps])->H' pk=some (.lst (zs.map È))->H' ps=some (.lst svs)->jR H' svs (oW al fs zs 63 0 (List.range ⇑zs))->Q (.ref T) H'):kD Ad vs H Q E
theorem c4:aJ ["book","words","faults","first","last","kept","asked","sendings","came","left","at","word"] ["book","words","faults"] (ax lX):=by subst_eqs
theorem vp (F:Å K "got_across" "got_across" lX f fd) (T:Bl mg) (AF:Ç K mg Ad) (C_is_sound:Ä P w K mg base (Á P w) 5 "is_sound" ["book","word","is_check"] (kg Ad)) (C_as_they_come:Ä P w K mg base (Á P w) 4 "as_they_come" ["code","words","first","sending"] (gv Ad)) (C_first_faults:Ä P w K mg base (Á P w) 1 "first_faults" ["faults"] iV) (M_Book_code:Ð P w K mg base (Á P w) Ad.Book "code" 1 ["self"] (dP Ad)):bF P w K mg base (Á P w) 6 f fd ["book","words","faults"] (kD Ad):=by
 refine F.â (k:=5) c4 ?_ (fun cdv A outer s H vs Q E hr h=>?_)
 ·bv_decide
 ·obtain⟨b,ca,dn,de,q,p,es,al,ws,r,zs,fv,fs,rfl,B,C,ok,hq,hgd,z1,z64,hin,hp,hfs,fl,hf,k⟩:=h;have hf1:∀ f∈fs,f.s≠61:=fun f h=>(hf f h).2;have hwd:∀ z∈zs,r6 al z:=fun z hz=>(hgd z hz).wd ok;have lz:⇑(zs.map È)=⇑zs:=ak _;have hu:=hr.iX;have hu1:=mF hr;refine⟨_,ag (aA (i:=3) c4.nd (a8 C_first_faults az (hr.mono Zd) (ah (À 2) af))) (ag (aA (i:=4) c4.nd (aD fi (ay (aH (K:=K) rfl) T.len bz (ah (Ê 1) af)) aj)) (ag (aA (i:=5) c4.nd (aD lU (cb (ah bt af)) (ay (aH (K:=K) rfl) T.len bz (ah (Ê 1) af)))) (ag (aA (i:=6) c4.nd (c7 (dY (K:=K) rfl rfl) T.list fP (ah (c7 CS T.range EK (ah (ay (aH (K:=K) rfl) T.len bz (ah (Ê 1) af)) af)) af))) (ag (aA (i:=7) c4.nd (cb af)) (ag (mR bU (aR AN (ay (aH (K:=K) rfl) T.len bz (ah (À 6) af)) aj (aU _)) (ag (aA (i:=8) c4.nd (a8 C_as_they_come az (hr.mono Zd) (ah (cY M_Book_code az (hr.mono Zd) (À 0)) (ah (fZ ["at"] rfl ⟨rfl,by nofun,rfl,by nofun⟩ (.cons (j:=1) rfl (.inl (by ext)) (.nil)) (by nofun) (cG (K:=K) rfl (À 6)) (fun _ _ _ _=>aM (i:=0) (show (["at","words"]:Ze).Nodup from by nofun)) (fun _ _ _ _=>cZ) (fun _ _ _ _=>bg (bN (K:=K) rfl) (Ê 1) (À 0) (fun _ _=>rfl))) (ah (À 3) (ah (ay (aH (K:=K) rfl) T.len bz (ah (À 7) af)) af)))))) (ag (eM (cV (K:=K) rfl eF fK fL dI (À 7) (ah (À 8) af))) (ag (aA (i:=9) c4.nd (cb af)) (ag (eA bU rfl (tm (K:=K) rfl T.zip (ah (À 6) (ah (À 8) af))) (jW (K:=K) (n:=2) rfl rfl (cA (aM (i:=10) c4.nd) (cA (aM (i:=11) c4.nd) jc))) (ao (bG (cx (a8 C_is_sound az (hr.mono Zd) (ah (À 0) (ah (À 11) (ah (cT (c6 (K:=K) rfl hu) (À 10) (À 4) (aU _)) af))))) (ao (Gp (À 11) (Li (À 5) (À 10) set_list))) (ao (eM (cV (K:=K) rfl eF fK fL dI (À 9) (ah (À 10) af))))))) (ao (aA (i:=6) c4.nd (À 9)))))))) (ao (aG (dw (ah (À 5) (ah (À 7) af)))))))))),?_⟩;grind;refine⟨p,fv,fs,rfl,hp,hfs,fl,fun D kvs H1 hD s1 h1 hF=>?_⟩;cbv;grind;refine⟨_,.l (s1 _ _ hq),?_⟩;rw[lz,hN];clear hN nn;grind;refine⟨aT (av Zd),fun l0 H2 hl0 s2 h2=>⟨_,.l ((s1.trans s2) _ _ hq),?_⟩⟩;rw[lz];symm;refine⟨_,h2,⋯,⋯,aT (av (by show 1*_<=100000;left)),fun pk H3 hpk s3 h3=>?_⟩;have hk3:H3 pk=some (.lst ((kS zs (List.range ⇑zs)).map È)):=by
   rw[h3]
   congr 2
   unfold kS;rw[bf];have:∀ n:Nat,(List.replicate n [V.str (Str.ofString "")]).flatten=List.replicate n (V.str (Str.ofString "")):=fun n=>by
    induction n with
    | zero=>rfl
    | succ n ih=>rw[lD,lr,ih];rfl
   rw[this];refine (List.eq_replicate_iff.mpr ⟨by rw[ak,bZ],fun v hv=>?_⟩).symm;obtain⟨i,hi,rfl⟩:=aO.mp hv;show È (if i∈List.range ⇑zs then [] else zs.getD i [])=_;rw[aq hi];rfl
  have s03:=s1.trans (s2.trans s3);cbv;grind;refine⟨_,.l (s03 _ _ hq),fun p1 H4 hp1 s4 h4=>?_⟩;rw[lz] at h4;refine⟨_,.inr ⟨0,_,h4,⟨Zd,Zd,⋯,⋯⟩,⋯,rfl⟩,fun p2 H5 hp2 s5 h5=>?_⟩;rw[Jl] at h5;cbv;grind;refine⟨br _,fun ps H6 hps0 s6 h6=>?_⟩;have s13:=s2.trans s3;have s35:=s4.trans s5;have hkn:H1 pk=none:=s2.free hpk;have hpn:H1 ps=none:=(s13.trans s35).free hps0;have nkp:pk≠ps:=aW (s35 _ _ hk3) hps0;have nak:p2≠pk:=(aW (s4 _ _ hk3) hp2).symm;have nap:p2≠ps:=aW h5 hps0;cbv;refine cK fun nn hN=>?_;refine C4 (fun m σ G=>∃ (pa:Addr) (as:Za) (svs:List V) (css:List (List Za)) (o8 o9 o10 o11:Option V),σ=[some (V.ref b),some (V.ref q),some (V.ref p),some (V.ref D),some (V.int ((⇑zs:Int)-1)),some (V.ref pk),some (V.ref pa),some (V.ref ps),o8,o9,o10,o11]/\aB H1 G/\G pk=some (.lst ((kS zs as).map È))/\G pa=some (.lst (as.map oN))/\pa≠pk/\pa≠ps/\G ps=some (.lst svs)/\jR G svs css/\(∀ v∈svs,v≠V.ref ps/\v≠V.ref pk)/\⇑css+m=63/\css++oW al fs zs m ⇑css as=oW al fs zs 63 0 (List.range ⇑zs)/\(∀ i∈as,i<⇑zs)/\as.Nodup/\(as≠[]->⇑css<=61)/\⇑as<=64) 63 ⟨p2,List.range ⇑zs,[],[],_,_,_,_,rfl,s13.trans (s35.trans s6),(s35.trans s6) _ _ hk3,s6 _ _ h5,nak,nap,h6,.nil,(fun v hv=>by cases hv),rfl,rfl,(fun i hi=>cE.mp hi),List.nodup_range,(fun _=>br _),by rw[bZ];exact z64⟩ ?_;rintro m σ G ⟨pa,as,svs,css,o8,o9,o10,o11,rfl,t1,hpk',hpa,nak,nap,hps,hss,hsv,hm,htot,hlt,hnd,h61,al64⟩;symm;refine⟨_,.l hpa,?_⟩;rw[ak];cases as with
  | nil =>rw[show decide ((0:Int)<((⇑([]:Za):Nat):Int))=false from rfl];bv_omega;show nn _ _ _;cbv;symm;rw[Jv,dQ] at htot;rw[yD] at hpk';refine⟨aT (av Zd),fun T G1 hT t2 gT=>?_⟩;have hss1:=hss.keep (H':=G1) fun b ws h=>t2 _ _ h;rw[htot] at hss1;exact k T pk ps svs G1 ((s1.trans t1).free hT) (s1.free hkn) (s1.free hpn) (s1.trans (t1.trans t2)) gT (t2 _ _ hpk') (t2 _ _ hps) hss1
  | cons a0 ar =>
   rw[a9 (show (0:Int)<((⇑(a0::ar):Nat):Int) by rw[bH];left)];bv_omega;generalize has:a0::ar=as at *;have ane:as≠[]:=by rw[←has];intro z;cases z
   clear hN;refine zD fun N hNx=>?_;have h61':=h61 ane;have t01:=s1.trans t1;have hq1:=t01 _ _ hq;have B1:=B.same t01;have C1:=C.same t01;obtain⟨dx1,h11⟩:=B1.bk;refine cK fun n2 hM=>?_;symm;refine⟨dx1,_,h11,dg Zd Zd Zd ca dn de,b,ca,dn,de,es,rfl,B1,?_⟩;refine .inl ⟨⟨_,.of hpa⟩,ud oN FN (eU (.of hpa)) (av ⋯) (fun i=>È (zs.getD i [])) ?_ ?_⟩
   ·intro i hi G2 t3 R hR;have hil:=hlt i hi;symm;exact⟨_,_,.l (t3 _ _ hq1),bb (j:=i) (by rw[aX,aC hil];rfl),by rw[aK,aC hil] at hR;exact hR G2 (aB.refl _)⟩
   intro D5 G2 hD5 t3 g5;rw[GN] at g5;have hsw:∀ z∈cB zs as,r6 al z:=fun z hz=>by unfold cB at hz;obtain⟨i,hi,rfl⟩:=aO.mp hz;have hil:=hlt i hi;rw[aK,aC hil];exact hwd _ (cj hil)
   have sll:=oC zs as;have clen:⇑css=⇑svs:=(gz hss).symm;have hps2:=t3 _ _ hps;refine⟨_,.l hps2,ca,D5,D,al,ws,r,⇑svs,cB zs as,fs,kvs,rfl,C1.same t3,g5,hsw,⋯,(t1.trans t3) _ _ h1,hF.LZ (t1.trans t3),(fun f h=>(hf f h).1),fun D6 G3 hD6 t4 g6=>?_⟩;rw[←clen] at g6;rw[hM];clear hM n2;refine cK fun n2 hM=>?_;symm;have hps3:=t4 _ _ hps2;refine⟨.inl ⟨rfl,_,.of hps3⟩,ps,_,_,rfl,rfl,hps3,av ⋯,?_⟩;have t24:aB H1 (upd G3 ps (.lst (svs++[V.ref D6]))):=(t1.trans (t3.trans t4)).cf hpn;have k5:∀ b o,b≠ps->G3 b=some o->upd G3 ps (.lst (svs++[V.ref D6])) b=some o:=fun b o hb e=>by rw[aN hb];exact e
   have g34:upd G3 ps (.lst (svs++[V.ref D6])) ps=some (.lst (svs++[V.ref D6])):=aI;generalize upd G3 ps (.lst (svs++[V.ref D6]))=G4 at t24 k5 g34;have nD6:D6≠ps:=(aW hps2 hD6).symm;have nD6k:D6≠pk:=(aW (t3 _ _ hpk') hD6).symm;rw[hM];clear hM n2;refine cK fun n2 hM=>?_;symm;refine⟨br _,fun pl G5 hpl t5 g9=>?_⟩;have t34:=t3.trans t4;have hpk5:=t5 _ _ (k5 _ _ nkp (t34 _ _ hpk'));have hpa5:=t5 _ _ (k5 _ _ nap (t34 _ _ hpa));have g65:=t5 _ _ (k5 _ _ nD6 g6);have hss4:jR G4 svs css:=jR.BV (P:=fun p=>p≠ps) (hss.keep fun b ws h=>t34 _ _ h) (fun p hp e=>(hsv _ hp).1 (by rw[e])) k5;have nlk:pl≠pk:=(aW (k5 _ _ nkp (t34 _ _ hpk')) hpl).symm;have nla:pl≠pa:=(aW (k5 _ _ nap (t34 _ _ hpa)) hpl).symm;have nl6:pl≠D6:=(aW (k5 _ _ nD6 g6) hpl).symm;have nls:pl≠ps:=(aW g34 hpl).symm;have t25:=t24.trans t5;have hln:H1 pl=none:=t24.free hpl;have keepH:∀ {G':Hp},(∀ c o,c≠pk->c≠pl->G5 c=some o->G' c=some o)->aB H1 G':=fun h c o e=>h c o (fun z=>by rw[z,hkn] at e;cases e) (fun z=>by rw[z,hln] at e;cases e) (t25 _ _ e);have step:=GP (al:=al) (fs:=fs) (zs:=zs) (m:=m) (s:=⇑css) ⋯ ane;have le:=yH (al:=al) (fs:=fs) (zs:=zs) (as:=as) (s:=⇑css) hf1 h61';have cml:=oi al fs (⇑css:Int) (cB zs as);have cmg:∀ (j:Nat) u,(gE al fs (⇑css:Int) (cB zs as))[j]?=some u->∃ o,u=kN al ((cB zs as).getD j []) o:=fun j u hu=>by
    have hj:j<⇑(cB zs as):=by rw[←cml];exact (bL.mp hu).1
    rw[vG hj] at hu;exact⟨_,(Option.some.inj hu).symm⟩
   generalize gE al fs (⇑css:Int) (cB zs as)=cm at g65 step le cml cmg;rw[hM];clear hM n2 g6;refine cK fun n2 hM=>?_;symm;refine⟨⟨_,.of hpa5⟩,⟨_,.of g65⟩,Fo (xs:=as.map oN) (ys:=cm.map È) (fun j σ G'=>(∃ o10 o11,σ=[some (V.ref b),some (V.ref q),some (V.ref p),some (V.ref D),some (V.int ((⇑zs:Int)-1)),some (V.ref pk),some (V.ref pa),some (V.ref ps),some (V.ref D6),some (V.ref pl),o10,o11])/\(∀ c o,c≠pk->c≠pl->G5 c=some o->G' c=some o)/\G' pl=some (.lst ((mH as (cB zs as) cm j).map oN))/\G' pk=some (.lst ((kS zs (mH as (cB zs as) cm j++as.drop j)).map È))) (by rw[ak,ak];left) ⟨⟨_,_,rfl⟩,(fun c o _ _ e=>e),g9,hpk5⟩ (fun j σ G' h=>⟨.of (h.2.1 _ _ nak nla.symm hpa5),.of (h.2.1 _ _ nD6k nl6.symm g65)⟩) ?_ ?_⟩
   ·rintro j x y pp σ G6 hx hy hpp ⟨⟨o10,o11,rfl⟩,hk6,hl6,hkp6⟩ N2 hN2;clear hM hNx;rw[aX] at hx hy;obtain⟨a1,ha1,rfl⟩:=dU.mp hx;obtain⟨u1,hu1,rfl⟩:=dU.mp hy;have hja:=(bL.mp ha1).1;have ha1m:=hlt a1 (bT ha1);have hz1:zs[a1]?=some (zs.getD a1 []):=by rw[aK,aC ha1m];rfl
    have hs1:(cB zs as).getD j []=zs.getD a1 []:=by unfold cB;rw[aK,aX,ha1];rfl
    have hcu:=sZ (d:=[]) hu1;obtain⟨oo,hu1e⟩:=cmg j u1 hu1;rw[hs1] at hu1e;have hg1:=hgd _ (bT hz1);have ul:⇑u1<=100:=by rw[hu1e];exact ES (hg1.wd ok).z8
    have ap:∀ {c:Addr}{o:HO},G6 c=some o->c≠pp:=fun h=>aW h hpp;have k7:∀ c o,G6 c=some o->upd G6 pp (.tup [oN a1,È u1]) c=some o:=fun c o h=>by rw[aN (ap h)];exact h
    have g7:upd G6 pp (.tup [oN a1,È u1]) pp=some (.tup [oN a1,È u1]):=aI;generalize upd G6 pp (.tup [oN a1,È u1])=G7 at k7 g7;refine⟨pp,[oN a1,È u1],rfl,Ó.of g7,rfl,oN a1,[È u1],rfl,È u1,[],rfl,rfl,?_⟩;have kk7:∀ c o,c≠pk->c≠pl->G5 c=some o->G7 c=some o:=fun c o h1 h2 h=>k7 _ _ (hk6 c o h1 h2 h);have sH7:=s1.trans (keepH kk7);unfold oN È;symm;refine⟨b,ca,dn,de,es,al,ws,r,u1,_,rfl,B.same sH7,C.same sH7,ok,ul,fun G8 t8=>?_⟩;have kk8:∀ c o,c≠pk->c≠pl->G5 c=some o->G8 c=some o:=fun c o h1 h2 h=>t8 _ _ (kk7 c o h1 h2 h);have hl8:=t8 _ _ (k7 _ _ hl6);have hkp8:=t8 _ _ (k7 _ _ hkp6);have rest:=yN (A:=mH as (cB zs as) cm j) hnd ha1 (DN ⋯);have lj:=A4 (s:=cB zs as) (c:=cm) ha1;rw[hs1,hcu] at lj;have dr:as.drop j=a1::as.drop (j+1):=by rw[kZ hja];congr 1;exact (bL.mp ha1).2
    by_cases he:zs.getD a1 []=u1
    ·rw[aq he,dQ] at lj;have hgood:Mk.cL al ws r u1=true:=by rw[←he];exact hg1.good ok
     have hb:(decide ((a1:Int)=(⇑zs:Int)-1)||decide (oO al u1∈es.map (·.num)))=true:=by
      by_cases hl:a1+1<⇑zs
      ·rw[a9 (show oO al u1∈es.map (·.num) by rw[←he];exact hin a1 _ hz1 hl),Bool.or_true]
      ·rw[a9 (show (a1:Int)=(⇑zs:Int)-1 by left),Bool.true_or]
     rw[hgood,hb,eQ];symm;refine⟨pk,_,(a1:Int),a1,rfl,rfl,hkp8,(by unfold ê;rw[aq ⋯,aq (by rw[ak,yC];left),cC]),hN2 _ _ ⟨⟨_,_,rfl⟩,(fun c o h1 h2 h=>by rw[aN h1];exact kk8 c o h1 h2 h),by rw[aN nlk,lj];exact hl8,?_⟩⟩;rw[aI,lj,←he,dr]
     congr 2
     rw[←FA rest ha1m,List.map_set];rfl
    ·rw[ai he] at lj;have hbad:Mk.cL al ws r u1=false:=by rw[hu1e];exact CZ ok hg1 (by rw[←hu1e];exact fun e=>he e.symm)
     rw[hbad,jj];symm;refine⟨.inl ⟨rfl,_,.of hl8⟩,pl,_,_,rfl,rfl,hl8,av (by rw[ak];have:⇑(mH as (cB zs as) cm j)<=j:=(by unfold mH;rw[ak];have:=ly (fun t=>!decide ((cB zs as).getD t []=cm.getD t [])) (List.range j);rwa [bZ] at this);left),hN2 _ _ ⟨⟨_,_,rfl⟩,(fun c o h1 h2 h=>by rw[aN h2];exact kk8 c o h1 h2 h),?_,?_⟩⟩
     ·rw[aI,lj,bD];rfl
     ·rw[aN nlk.symm,lj,hkp8,dr,cD];rfl
   ·rintro σ G6 ⟨⟨o10,o11,rfl⟩,hk6,hl6,hkp6⟩;show n2 _ _ _;rw[hM];clear hM n2;symm;rw[ak] at hl6 hkp6;rw[List.drop_length,dQ] at hkp6;have lle:mH as (cB zs as) cm ⇑as=iY as (cB zs as) cm:=rfl;rw[lle] at hl6 hkp6;refine hNx (m-1) _ _ ⋯ ⟨pl,iY as (cB zs as) cm,svs++[V.ref D6],css++[cm],_,_,_,_,rfl,keepH hk6,hkp6,hl6,nlk,nls,hk6 _ _ nkp.symm nls.symm (t5 _ _ g34),?_,fun v hv=>?_,by rw[aE];show ⇑css+1+_=_;left,?_,ID hlt,IE hnd,fun h=>?_,bM (FH _ _ _) al64⟩
    ·refine mM (jR.BV (P:=fun c=>c≠pk/\c≠pl) (hss4.keep fun b ws h=>t5 _ _ h) (fun c hc=>⟨fun e=>(hsv _ hc).2 (by rw[e]),fun e=>?_⟩) fun c o hc h=>hk6 c o hc.1 hc.2 h) (.cons ⟨D6,rfl,hk6 _ _ nD6k nl6.symm g65⟩ .nil);exact L5 hss4 hpl _ hc (by rw[e])
    ·rcases bC.mp hv with hv | hv
     ·exact hsv v hv
     ·rw[aS.mp hv];exact⟨fun z=>nD6 (by cases z;rfl),fun z=>nD6k (by cases z;rfl)⟩
    ·rw[←htot,step,cD,aE];rfl
    ·rw[aE];exact le h
inductive n6 (Ad:Ë) (vs:List V) (H:Hp) (Q:VK) (E:XK):Prop
 | mk (p q D:Addr) (al:Za) (ws:Zb) (r:Int) (es:List Æ) (q0:vs=[.ref p,.ref D]) (q1:CA H p q al ws r) (q2:cw al ws r) (q3:H Ad.tb=some (il uc)) (q4:H D=some (.dK (iu es))) (q5:č al ws H es) (q6:⇑es<=16) (q7:∀ b ca dn de ob H',(∀ c o,c≠D->H c=some o->H' c=some o)->H' D=some (.frz ob (.dK (iu es)))->du Ad H' b ca dn de es->cF Ad H' ca al ws r->Q (.ref b) H'):n6 Ad vs H Q E
theorem ni:aJ ["_law_code_here","_law_entries_here","_law_book","_law_number"] ["_law_code_here","_law_entries_here"] (ax pQ):=by subst_eqs
theorem yY (F:Å K "_law_made" "_law_made" pQ f fd) (T:Bl mg) (AF:Ç K mg Ad) (M_Book_put:Ð P w K mg base (Á P w) Ad.Book "put" 5 ["self","entry","number"] (iF Ad)) (K_Book:ü P w K mg base (Á P w) Ad.Book "Book" 1 ["self","code"] (mh Ad)) (K_Code:ü P w K mg base (Á P w) Ad.Code "Code" 4 ["self","alphabet","weights","rest"] (fS Ad)):bF P w K mg base (Á P w) 6 f fd ["_law_code_here","_law_entries_here"] (n6 Ad):=by
 specialize ni;obtain⟨p,q,D,al,ws,r,es,rfl,hP,ok,Tb,hD,eo,el,k⟩:=h;refine⟨_,ag (aA (i:=2) ni.nd (uE K_Book az (hr.mono Zd) (ah (uE K_Code az (hr.mono Zd) (ah (bg (bN (K:=K) rfl) (À 0) aj (fun _ _=>rfl)) (ah (c7 (dY (K:=K) rfl rfl) T.list fP (ah (bg (bN (K:=K) rfl) (À 0) aj (fun _ _=>rfl)) af)) (ah (bg (bN (K:=K) rfl) (À 0) aj (fun _ _=>rfl)) af)))) af))) (ag (eA bU rfl (Gm (À 1)) (aM (i:=3) ni.nd) (ao (bG (aR (gS (K:=K) rfl hu) (e9 M_Book_put az (hr.mono Zd) (À 2) (ah (Gg hu1 (À 1) (À 3)) (ah (À 3) af))) (À 3) (aU _)) (ao (aG dh)) aV))) (ao (aG (À 2)))),?_⟩;obtain⟨hP1,hP2⟩:=hP;grind;refine⟨_,_,.t hP1,bb (j:=0) rfl,_,_,.t hP1,bb (j:=1) rfl,?_⟩;symm;refine⟨_,.inl (.l hP2),fun qn H1 hqn s1 hq1=>⟨_,_,.t (s1 _ _ hP1),bb (j:=2) rfl,fun ca cd H2 hca hcd hcc s2 h2a h2d=>?_⟩⟩;refine vP h2a (s2 _ _ hq1) ok fun H3 s3 C3=>⟨rfl,?_⟩;have n03:aB H H3:=fun b o e=>by
  have hb:b≠ca:=fun e2=>by rw[←e2,s1 _ _ e] at hca;cases hca
  exact s3 b o hb (s2 _ _ (s1 _ _ e))
 have hD3:=n03 _ _ hD;intro b bx G0 hb hbx hbb t0 g0 g0x;refine⟨b,bx,ca,rfl,g0,fun dn de G1 hdn hde ne1 ne2 ne3 k1 g1 gn ge=>⟨rfl,?_⟩⟩;have n0:aB H3 G1:=fun x o e=>k1 x o (fun z=>by rw[z,hb] at e;cases e) (t0 _ _ e);have hdn0:=t0.free hdn;have hde0:=t0.free hde;cbv;grind;refine⟨D,_,rfl,.inl ⟨n0 _ _ hD3,fun ob G2 kp2 hD2=>?_⟩⟩;have nDd:dn≠D:=fun z=>by rw[z,hD3] at hdn0;cases hdn0
 have nDe:de≠D:=fun z=>by rw[z,hD3] at hde0;cases hde0
 have nDb:b≠D:=fun z=>by rw[z,hD3] at hb;cases hb
 have sim:∀ c o,c≠D->H3 c=some o->G2 c=some o:=fun c o hc e=>kp2 c o hc (n0 _ _ e);have upk:∀ {G:Hp},(∀ c o,c≠dn->c≠de->G2 c=some o->G c=some o)->∀ c o,H3 c=some o->c≠D->G c=some o:=fun kp c o e hc=>kp c o (fun z=>by rw[z,hdn0] at e;cases e) (fun z=>by rw[z,hde0] at e;cases e) (sim c o hc e);have cod:∀ {G:Hp},(∀ c o,c≠dn->c≠de->G2 c=some o->G c=some o)->cF Ad G ca al ws r:=fun kp=>by obtain⟨dc,qc,hc1,hc2⟩:=C3;exact⟨dc,qc,upk kp _ _ hc1 (gR hc1 hD3 (by intro z;cases z)),upk kp _ _ hc2 (gR hc2 hD3 (by intro z;cases z))⟩
 refine Fl (fun i σ G=>(∃ o3,σ=[some (V.ref p),some (V.ref D),some (V.ref b),o3])/\(∀ c o,c≠dn->c≠de->G2 c=some o->G c=some o)/\du Ad G b ca dn de (es.take i)) ?_ ?_ ?_ ?_
 ·exact⟨⟨_,rfl⟩,(fun c o _ _ e=>e),⟨⟨_,kp2 _ _ nDb g1⟩,kp2 _ _ nDd gn,kp2 _ _ nDe ge,(fun e he=>by cases he),.nil,.nil⟩⟩
 ·rintro i σ G ⟨_,kp,_⟩;exact kp _ _ nDd.symm nDe.symm hD2
 ·rintro i kk x σ G hi ⟨⟨o3,rfl⟩,kp,B⟩ N hNx;clear hN;have hil:i<⇑es:=by have:=(bL.mp hi).1;rwa [mK] at this
  have hei:es[i]?=some es[i]:=aC hil;rw[qr,aX,hei] at hi;generalize es[i]=e at hi hei;cases hi;have hem:=bT hei;obtain⟨eok,e0,e1⟩:=eo.ok e hem;have hDG:=kp _ _ nDd.symm nDe.symm hD2;obtain⟨dx,h1⟩:=B.bk;have he3:=n03 _ _ (eo.en e hem);have tG:G e.adr=some (.tup (e.key.map kV)):=upk kp _ _ he3 (gR he3 hD3 (by intro z;cases z));have Tb3:=n03 _ _ Tb;have TG:G Ad.tb=some (il uc):=upk kp _ _ Tb3 (gR Tb3 hD3 (by intro z;cases z));have tk:es.take (i+1)=es.take i++[e]:=by rw[lE,hei];rfl
  have nin:∀ {α:Type}{f:Æ->α},(es.map f).Nodup->f e∉(es.take i).map f:=fun {α f} hn hm=>by
   obtain⟨u,hu,eu⟩:=aO.mp hm;obtain⟨j,hj⟩:=jF hu;rw[List.getElem?_take] at hj;split at hj
   ·have h1:(es.map f)[j]?=(es.map f)[i]?:=by rw[aX,aX,hj,hei];exact bQ some eu
    have:=(List.getElem?_inj (by rw[ak];left) hn).mp h1;left
   ·cases hj
  have tl:⇑(es.take i)<=16:=by rw[cP];left
  symm;refine⟨dx,_,h1,dg Zd Zd Zd ca dn de,D,.ref e.adr,rfl,?_,b,ca,dn,de,e.adr,es.take i,al,ws,r,e.num,e.key,.int e.num,rfl,B,cod kp,ok,TG,tG,eok,nin eo.nk,⋯,e0,e1,nin eo.nn,.inl rfl,fun G7 hs7 B7=>?_⟩
  ·have:=kj.kf (k:=.inl e.num) hDG;rw[xf eo.nn hem] at this;exact this
  show Eh K (V.int e.num) (V.int e.num) G7 _;symm;rw[ai (by simp)];exact hNx _ _ ⟨⟨_,rfl⟩,(fun c o h1 h2 h=>hs7 c o h1 h2 (kp c o h1 h2 h)),by rw[tk];exact B7⟩
 ·rintro σ G ⟨⟨o3,rfl⟩,kp,B⟩;show nn _ _ _;cbv;symm;rw[mK,eY (aw _)] at B;exact k b ca dn de ob G (fun c o hc e=>upk kp c o (n03 _ _ e) hc) (kp _ _ nDd.symm nDe.symm hD2) B (cod kp)
inductive wF (al:Za) (fs:List Flt):Nat->List (Za)->List (List Za)->Prop
 | nil {s:Nat}:wF al fs s [] []
 | cons {s:Nat}{sent:List (Za)}{r:List (List Za)} (h0:sent≠[]) (h:wF al fs (s+1) (qm sent (gE al fs (s:Int) sent)) r):wF al fs s sent (gE al fs (s:Int) sent::r)
theorem Co {al:Za}{fs:List Flt}{zs:List (Za)} (hf:∀ f∈fs,f.s≠61):∀ (n s:Nat) (as:Za),n+s=63->(as≠[]->s<=61)->wF al fs s (cB zs as) (oW al fs zs n s as)/\⇑(oW al fs zs n s as)<=n
 | 0,s,as,e,h=>by
  by_cases ha:as=[]
  ·subst ha;exact⟨.nil,aw _⟩
  ·have:=h ha;left
 | n+1,s,as,e,h=>by
  by_cases ha:as=[]
  ·subst ha;show wF al fs s [] (if ([]:Za)=[] then [] else _)/\⇑(if ([]:Za)=[] then [] else _:List (List Za))<=_;rw[aq rfl];exact⟨.nil,br _⟩
  ·show wF al fs s (cB zs as) (if as=[] then [] else _)/\⇑(if as=[] then [] else _:List (List Za))<=_;rw[ai ha];have ih:=Co (al:=al) (zs:=zs) hf n (s+1) (iY as (cB zs as) (gE al fs (s:Int) (cB zs as))) ⋯ fun h2=>yH hf (h ha) h2;refine⟨.cons (fun z=>ha ?_) ?_,Nat.succ_le_succ ih.2⟩
   ·have:=bQ List.length z;rw[oC] at this;exact iK.mp this
   ·rw[←En (by rw[oi,oC])];exact ih.1
theorem yG {sent came:List (Za)}:⇑(qm sent came)<=⇑sent/\∀ z∈qm sent came,z∈sent:=by
 unfold qm;refine⟨?_,fun z hz=>?_⟩
 ·rw[ak];have:=ly (fun j=>!decide (sent.getD j []=came.getD j [])) (List.range ⇑sent)
  rwa [bZ] at this
 ·obtain⟨j,hj,rfl⟩:=aO.mp hz;have hj':=cE.mp (iL.mp hj).1;rw[aK,aC hj'];exact cj hj'
inductive fh (Ad:Ë) (K:Zf) (vs:List V) (H:Hp) (Q:VK) (E:XK):Prop
 | mk (c cq q b ps:Addr) (al:Za) (ws:Zb) (r:Int) (zs:List Za) (fv:List V) (fs:List Flt) (svs:List V) (css:List (List Za)) (q0:vs=[.ref c,.ref q,.ref b,.ref ps]) (q1:CA H c cq al ws r) (q2:cw al ws r) (q3:H q=some (.lst (zs.map È))) (q4:(∀ z∈zs,r6 al z)) (q5:⇑zs<=64) (q6:H b=some (.lst fv)) (q7:ft H fv fs) (q8:⇑fs<=1000) (q9:(∀ f∈fs,0<=f.n)) (q10:H ps=some (.lst svs)) (q11:jR H svs css) (q12:wF al fs 0 zs css) (q13:⇑css<=63) (q14:∀ H',aB H H'->Q (.bl true) H'):fh Ad K vs H Q E
theorem cO:aJ ["_law_code_here","_law_words","_law_faults_here","_law_sendings","_law_asked","_law_sending","_law_came_here"] ["_law_code_here","_law_words","_law_faults_here","_law_sendings"] (ax fA):=by subst_eqs
theorem m8 (F:Å K "_law_sendings_right" "_law_sendings_right" fA f fd) (T:Bl mg) (AF:Ç K mg Ad) (C_garbled:Ä P w K mg base (Á P w) 5 "garbled" ["code","words","faults","sending"] (pV Ad)) (C_law_came:Ä P w K mg base (Á P w) 2 "_law_came" ["_law_code_here","_law_words","_law_faults_here","_law_sending"] (ny K)) (K_Code:ü P w K mg base (Á P w) Ad.Code "Code" 4 ["self","alphabet","weights","rest"] (fS Ad)):bF P w K mg base (Á P w) 6 f fd ["_law_code_here","_law_words","_law_faults_here","_law_sendings"] (fh Ad K):=by
 specialize cO;obtain⟨c,cq,q,b,ps,al,ws,r,zs,fv,fs,svs,css,rfl,hP,ok,hq,hwd,zl,hb,hf,fl,hn,hps,hss,run,cl,k⟩:=h;refine⟨_,ag (aA (i:=4) cO.nd (c7 (dY (K:=K) rfl rfl) T.list fP (ah (À 1) af))) (ag (eA bU rfl (dC T.range (ah (ay (aH (K:=K) rfl) T.len bz (ah (À 3) af)) af)) (aM (i:=5) cO.nd) (ag (aA (i:=6) cO.nd (a8 C_law_came az (hr.mono Zd) (ah (À 0) (ah (À 4) (ah (À 2) (ah (À 5) af)))))) (ag (bG ((iE (aR (c6 (K:=K) rfl hu) (À 4) (cb af) (aU _)) (gW (aR (gS (K:=K) rfl hu) (bg (bN (K:=K) rfl) (À 3) (À 5) (fun _ _=>rfl)) (À 6) (aU _)))).pt) (ao (aG iD)) aV) (ag (bG (aR (gS (K:=K) rfl hu) (a8 C_garbled az (hr.mono Zd) (ah (uE K_Code az (hr.mono Zd) (ah (bg (bN (K:=K) rfl) (À 0) aj (fun _ _=>rfl)) (ah (c7 (dY (K:=K) rfl rfl) T.list fP (ah (bg (bN (K:=K) rfl) (À 0) aj (fun _ _=>rfl)) af)) (ah (bg (bN (K:=K) rfl) (À 0) aj (fun _ _=>rfl)) af)))) (ah (c7 (dY (K:=K) rfl rfl) T.list fP (ah (À 4) af)) (ah (c7 (dY (K:=K) rfl rfl) T.list fP (ah (À 2) af)) (ah (À 5) af))))) (À 6) (aU _)) (ao (aG iD)) aV) (ao (mQ (i:=4) ["_law_one","_law_other"] cO.nd rfl (Or.inl rfl) rfl ⟨rfl,by nofun,rfl,by nofun⟩ (.nil) (by nofun) (tm (K:=K) rfl T.zip (ah (À 4) (ah (À 6) af))) (fun _ _ _ _=>jW (K:=K) (n:=2) rfl rfl (cA (aM (i:=0) (show (["_law_one","_law_other"]:Ze).Nodup from by nofun)) (cA (aM (i:=1) (show (["_law_one","_law_other"]:Ze).Nodup from by nofun)) jc))) (fun _ _ _ _=>oz (aR (gS (K:=K) rfl hu) (À 0) (À 1) (aU _))) (fun _ _ _ _=>À 0))))))) (ao (aG (cT (c6 (K:=K) rfl hu) (À 4) (cb af) (aU _))))),?_⟩;obtain⟨hP1,hP2⟩:=hP;have lsv:⇑svs=⇑css:=gz hss;have lfv:⇑fv=⇑fs:=gz hf;grind;refine⟨_,.inl (.l hq),fun pa H1 hpa s1 h1=>?_⟩;cbv;grind;refine⟨_,.l (s1 _ _ hps),?_⟩;refine⟨⋯,⋯,fz (n:=⇑svs) (fun i σ G=>aB H G/\∃ (pb:Addr) (wA:List Za) (o5 o6:Option V),σ=[some (V.ref c),some (V.ref q),some (V.ref b),some (V.ref ps),some (V.ref pb),o5,o6]/\G pb=some (.lst (wA.map È))/\wF al fs i wA (css.drop i)/\⇑wA<=64/\∀ z∈wA,z∈zs) ?_ ?_ ?_⟩
 ·exact⟨s1,pa,zs,_,_,rfl,h1,run,zl,fun z h=>h⟩
 ·rintro i σ G hi ⟨sG,pb,wA,o5,o6,rfl,hpb,hrun,wl,hsub⟩ N hNx;clear hN;have hvi:svs[i]?=some (svs[i]'hi):=aC _;generalize svs[i]'hi=v at hvi;obtain⟨cm,hcm,pc,rfl,hpc⟩:=fb hss hvi;have hil:=(bL.mp hcm).1;have dr:css.drop i=cm::css.drop (i+1):=by rw[kZ hil];congr 1;exact (bL.mp hcm).2
  rw[dr] at hrun;obtain⟨wne,wcm,hrun2⟩:wA≠[]/\cm=gE al fs (i:Int) wA/\wF al fs (i+1) (qm wA cm) (css.drop (i+1)):=by cases hrun with | cons h0 h=>exact⟨h0,rfl,h⟩
  have wcl:⇑cm=⇑wA:=by rw[wcm,oi]
  have hwA:∀ z∈wA,r6 al z:=fun z h=>hwd z (hsub z h);rw[fX,fG];refine cK fun n2 hM=>?_;symm;refine⟨c,cq,pb,b,al,ws,r,(i:Int),wA,fv,fs,rfl,⟨sG _ _ hP1,sG _ _ hP2⟩,hpb,hwA,⋯,sG _ _ hb,hf.same sG,fl,hn,fun pm G1 hpm t1 g1=>?_⟩;rw[←wcm] at g1;rw[hM];clear hM n2;have sG1:=sG.trans t1;refine cK fun n2 hM=>?_;symm;refine⟨br _,fun pe G2 hpe t2 g2=>⟨_,_,.of ((t1.trans t2) _ _ hpb),.of g2,fw _,rfl,?_⟩⟩;rw[show oK (wA.map È) []=false by
   cases wA with
   | nil=>exact absurd rfl wne
   | cons _ _=>rfl]
  bv_omega;have sG2:=sG1.trans t2;refine⟨_,_,.l (sG2 _ _ hps),bb hvi,?_⟩;symm;refine⟨_,_,.of (sG2 _ _ hpc),.of (t2 _ _ g1),fw _,fw _,?_⟩;rw[oq _ (fw _)];bv_omega;show n2 _ _ _;rw[hM];clear hM n2;refine cK fun n2 hM=>?_;symm;have hP1':=sG2 _ _ hP1;refine⟨_,_,.t hP1',bb (j:=0) rfl,_,_,.t hP1',bb (j:=1) rfl,?_⟩;symm;refine⟨_,.inl (.l (sG2 _ _ hP2)),fun qn H1 hqn u1 hq1=>⟨_,_,.t (u1 _ _ hP1'),bb (j:=2) rfl,fun ca cd H2 hca hcd hcc u2 h2a h2d=>?_⟩⟩;refine vP h2a (u2 _ _ hq1) ok fun H3 u3 C3=>⟨rfl,?_⟩;have n23:aB G2 H3:=fun b o e=>by
   have hb:b≠ca:=fun e2=>by rw[←e2,u1 _ _ e] at hca;cases hca
   exact u3 b o hb (u2 _ _ (u1 _ _ e))
  have sG3:=sG2.trans n23;have hpb3:=(t1.trans (t2.trans n23)) _ _ hpb;have hpm3:=(t2.trans n23) _ _ g1;refine⟨_,.inl (.l hpb3),fun p5 H5 hp5 u5 h5=>⟨_,.inl (.l ((sG3.trans u5) _ _ hb)),fun p6 H6 hp6 u6 h6=>?_⟩⟩;have u56:=u5.trans u6;refine⟨ca,p5,p6,al,ws,r,(i:Int),wA,fv,fs,rfl,C3.same u56,u6 _ _ h5,hwA,⋯,h6,hf.same (sG3.trans u56),fl,hn,fun p7 H7 hp7 u7 h7=>?_⟩;rw[←wcm] at h7;have u37:=u56.trans u7;have hpb7:=u37 _ _ hpb3;have hpm7:=u37 _ _ hpm3;symm;refine⟨_,_,.of h7,.of hpm7,fw _,fw _,?_⟩;rw[oq _ (fw _)];bv_omega;show n2 _ _ _;rw[hM];clear hM n2;symm;refine⟨⟨_,.of hpb7⟩,⟨_,.of hpm7⟩,IC (.of hpb7) (.of hpm7) (av (by rw[ak];left)) (by rw[ak,ak];exact wcl) (fun j=>È (wA.getD j [])) (fun j=>!decide (wA.getD j []=cm.getD j [])) ?_ ?_ ?_⟩
  ·intro i x y hx hy G9 t9 R hR;rw[aX] at hx hy;obtain⟨y1,hy1,rfl⟩:=dU.mp hx;obtain⟨u1,hu1,rfl⟩:=dU.mp hy;rw[sZ hy1,sZ hu1] at hR;unfold È;symm;rw[Hi];exact hR G9 (aB.refl _)
  ·intro i x y hx hy _ G9 t9 R hR;rw[aX] at hx hy;obtain⟨y1,hy1,rfl⟩:=dU.mp hx;rw[sZ hy1] at hR;symm;exact hR G9 (aB.refl _)
  ·intro D9 G9 hD9 t9 g9;rw[ak] at g9;exact hNx _ _ ⟨sG3.trans (u37.trans t9),D9,qm wA cm,_,_,rfl,by rw[g9];unfold qm;rw[bf];rfl,hrun2,bM yG.1 wl,fun z h=>hsub z (yG.2 z h)⟩
 ·rintro σ G ⟨sG,pb,wA,o5,o6,rfl,hpb,hrun,wl,hsub⟩;show nn _ _ _;cbv;rw[lsv,List.drop_length] at hrun;have wnil:wA=[]:=by cases hrun;rfl
  subst wnil;symm;refine⟨br _,fun p5 G9 hp5 t9 g9=>⟨_,_,.of (t9 _ _ hpb),.of g9,rfl,rfl,?_⟩⟩;exact k G9 (sG.trans t9)
inductive nB (Ad:Ë) (vs:List V) (H:Hp) (Q:VK) (E:XK):Prop
 | mk (b ca dn de q:Addr) (es grp:List Æ) (al:Za) (ws:Zb) (r:Int) (wd:List Za) (q0:vs=[.ref b,.ref q]) (q1:du Ad H b ca dn de es) (q2:cF Ad H ca al ws r) (q3:cw al ws r) (q4:(∀ e∈es,fV e.key/\0<=e.num/\e.num<dj al ws)) (q5:H q=some (.lst ((nF al ws r (grp.map (·.num))).map È))) (q6:1<=⇑grp) (q7:⇑grp<=900) (q8:(∀ e∈grp,e∈es)) (q9:runK (grp.map (·.key)) ([],[])=some (wd,[])) (q10:wd≠[]) (q11:∀ D H',H D=none->aB H H'->H' D=some (.lst [È (Mk.bR 32 wd)])->Q (.ref D) H'):nB Ad vs H Q E
theorem fB:aJ ["book","words","places","code","last","lists","at","texts"] ["book","words"] (ax pT):=by subst_eqs
theorem za (F:Å K "readings" "readings" pT f fd) (T:Bl mg) (AF:Ç K mg Ad) (C_text_of:Ä P w K mg base (Á P w) 5 "text_of" ["book","numbers"] (pY Ad)) (C_doubtful:Ä P w K mg base (Á P w) 6 "doubtful" ["book","words"] (nt Ad)) (M_Code_has_good:Ð P w K mg base (Á P w) Ad.Code "has_good" 3 ["self","thing"] (eB Ad)) (M_Code_number:Ð P w K mg base (Á P w) Ad.Code "number" 4 ["self","word"] (hO Ad)) (M_Book_code:Ð P w K mg base (Á P w) Ad.Book "code" 1 ["self"] (dP Ad)):bF P w K mg base (Á P w) 7 f fd ["book","words"] (nB Ad):=by
 specialize fB;obtain⟨b,ca,dn,de,q,es,grp,al,ws,r,wd,rfl,B,C,ok,hes,hq,g1,gl,gm,hrun,hne,k⟩:=h;refine⟨_,ag (aA (i:=2) fB.nd (a8 C_doubtful az (hr.mono Zd) (ah (Ê 0) (ah (À 1) af)))) (ag (bG (aR AN (ay (aH (K:=K) rfl) T.len bz (ah (À 2) af)) (dB AF.v_MOST_DOUBTFUL) (aU _)) (ao zg) aV) (ag (i6 (i:=3) fB.nd (cY M_Book_code az (hr.mono Zd) (Ê 0))) (ag (aA (i:=4) fB.nd (aD fi (ay (aH (K:=K) rfl) T.len bz (ah (À 1) af)) aj)) (ag (aA (i:=5) fB.nd (cb (ah (fZ ["word"] rfl ⟨rfl,by nofun,rfl,by nofun⟩ (.cons (j:=3) rfl (.inl (by ext)) (.nil)) (by nofun) (cG (K:=K) rfl (À 1)) (fun _ _ _ _=>aM (i:=0) (show (["word","code"]:Ze).Nodup from by nofun)) (fun _ _ _ _=>cZ) (fun _ _ _ _=>mO (cx (e9 M_Code_has_good fg (hr.mono Zd) (Ê 1) (ah (À 0) af))) (e9 M_Code_number fg (hr.mono Zd) (Ê 1) (ah (À 0) af)) dh)) af))) (ag (eA bU rfl (cG (K:=K) rfl (À 2)) (aM (i:=6) fB.nd) (ao zg)) (ag (mQ (i:=7) ["numbers"] fB.nd rfl (Or.inl rfl) rfl ⟨rfl,by nofun,rfl,by nofun⟩ (.cons (j:=0) rfl (.inl (by ext)) (.nil)) (by nofun) (cG (K:=K) rfl (À 5)) (fun _ _ _ _=>aM (i:=0) (show (["numbers","book"]:Ze).Nodup from by nofun)) (fun _ _ _ _=>cZ) (fun _ _ _ _=>a8 C_text_of fg (hr.mono Zd) (ah (Ê 1) (ah (À 0) af)))) (ao (aG (ay (zM (P:=P) (w:=w) rfl rfl rfl) T.sorted CJ (ah (c7 (zL (K:=K) (P:=P) (w:=w) rfl rfl rfl rfl) T.set EL (ah (fZ ["text"] rfl ⟨rfl,by nofun,rfl,by nofun⟩ (.nil) (by nofun) (cG (K:=K) rfl (À 7)) (fun _ _ _ _=>aM (i:=0) (show (["text"]:Ze).Nodup from by nofun)) (fun _ _ _ _=>oz (aR oy (À 0) dh (aU _))) (fun _ _ _ _=>À 0)) af)) af)))))))))),?_⟩;have big:∀ {u:Nat},u<=10000->u<=sizeLine:=fun hu=>aT (av ⋯);obtain⟨zl,zgd,znm,zin⟩:=Cw (r:=r) ok (gs:=grp.map (·.num)) (es:=es) fun g hg=>by
  obtain⟨e,he,rfl⟩:=aO.mp hg;exact⟨(hes e (gm e he)).2,qU (gm e he)⟩
 rw[ak] at zl;generalize nF al ws r (grp.map (·.num))=zs at hq zl zgd znm zin;grind;refine⟨b,ca,dn,de,q,es,al,ws,r,zs,rfl,B,C,ok,hq,⋯,⋯,zgd,zin,fun D1 H1 hD1 s1 h1=>?_⟩;rw[hN];clear hN nn zin;grind;refine⟨_,.l h1,?_⟩;show nn _ _ _;cbv;have B1:=B.same s1;have C1:=C.same s1;have hp1:=s1 _ _ hq;obtain⟨dx,hb1⟩:=B1.bk;grind;refine⟨dx,_,hb1,dg Zd Zd Zd ca dn de,b,ca,dn,de,es,rfl,B1,?_⟩;cbv;grind;refine⟨_,.l hp1,?_⟩;cbv;grind;refine .inl ⟨⟨_,.of hp1⟩,ud È (fun a b h=>vg (V.str.inj h)) (eU (.of hp1)) (av ⋯) (fun z=>V.int (oO al z)) ?_ ?_⟩
 ·intro z hzm G2 t2 R hR;have C2:=C1.same t2;obtain⟨dc,qc,hc1,hc2⟩:=id C2;have z8:=((zgd z hzm).wd ok).z8;have eg:jT (tx al) ws r (.str (tx z))=true:=by
   show Mk.cL (tx al).cps.toList ws r (tx z).cps.toList=_;rw[bW,bW];exact (zgd z hzm).good ok
  unfold È;symm;refine⟨dc,_,hc1,c5 Zd Zd Zd al qc r,ca,al,ws,r,.str (tx z),.str,rfl,C2,ok,rfl,(fun y ey=>by rw[←V.str.inj ey,bh];left),fun G3 t3=>?_⟩;rw[eg];have C3:=C2.same t3;obtain⟨dc3,qc3,hc31,hc32⟩:=id C3;symm;refine⟨dc3,_,hc31,c5 Zd Zd Zd al qc3 r,ca,al,ws,r,.str (tx z),.str,rfl,C3,ok,rfl,(fun y ey=>by rw[←V.str.inj ey,bh];left),(fun h=>by rw[eg] at h;cases h),fun u eu hu G4 t4=>?_⟩;have eu':u=tx z:=(V.str.inj eu).symm;subst eu';rw[bW];exact hR G4 (t3.trans t4)
 intro D2 G2 hD2 t2 g2;have en:(zs.map fun z=>V.int (oO al z))=(zs.map (oO al)).map V.int:=by rw[bf];rfl
 rw[en,znm] at g2;symm;refine⟨big Zd,fun pl0 G3 hpl0 t3 g3=>?_⟩;have s3:=s1.trans (t2.trans t3);have h13:=(t2.trans t3) _ _ h1;cbv;grind;refine .inl ⟨⟨_,.of h13⟩,yx (xs:=[]) (fun i σ G=>(∃ o6 o7:Option V,σ=[some (V.ref b),some (V.ref q),some (V.ref D1),some (V.ref ca),some (V.int ((⇑(zs.map È):Int)-1)),some (V.ref pl0),o6,o7])/\G=G3) ?_ ?_ ?_ ?_⟩
 ·exact⟨⟨_,_,rfl⟩,rfl⟩
 ·rintro i σ G _ ⟨_,rfl⟩;exact .of h13
 ·rintro i v σ G hi;cases hi
 rintro σ G ⟨⟨o6,o7,rfl⟩,rfl⟩;show nn _ _ _;cbv;grind;refine .inl ⟨⟨_,.of g3⟩,A3 (xs:=[V.ref D2]) (eU (.of g3)) (av (show 1<=_ by decide)) (fun _=>È (Mk.bR 32 wd)) ?_ ?_⟩
 ·intro v hv G5 t5 R hR;rw[aS.mp hv];have s5:=s3.trans t5;symm;exact⟨b,ca,dn,de,D2,es,grp,al,ws,r,wd,rfl,B.same s5,C.same s5,ok,hes,(t3.trans t5) _ _ g2,gl,gm,hrun,hne,fun G6 t6=>hR G6 t6⟩
 intro D5 G5 hD5 t5 g5;cbv;symm;refine .inl ⟨⟨_,.of g5⟩,wW (xs:=[È (Mk.bR 32 wd)]) (eU (.of g5)) (av (show 1<=_ by decide)) (fun _=>true) (fun v=>v) ?_ ?_ ?_⟩
 ·intro v hv G6 t6 R hR;rw[aS.mp hv];unfold È;symm;exact hR G6 (aB.refl _)
 ·intro v hv _ G6 t6 R hR;symm;exact hR G6 (aB.refl _)
 intro D6 G6 hD6 t6 g6;symm;refine⟨[tx (Mk.bR 32 wd)],.of g6,(show 1<=_ by decide),fun pS G7 hpS t7 g7=>?_⟩;symm;refine⟨[tx (Mk.bR 32 wd)],g7,eE (mI _ _) (by show 1<_;decide),fun us hnd hmem hsrt pO G8 hpO t8 g8=>?_⟩;have eus:us=[tx (Mk.bR 32 wd)]:=by
  have hm:=(hmem (tx (Mk.bR 32 wd))).mpr (aS.mpr rfl);have h1:∀ z∈us,z=tx (Mk.bR 32 wd):=fun z hz=>aS.mp ((hmem z).mp hz);cases us with
  | nil=>cases hm
  | cons x us =>
   cases us with
   | nil=>rw[h1 x bu]
   | cons y us=>exact absurd ((h1 x bu).trans (h1 y (b8 _ bu)).symm) (by rw[dD] at hnd;exact fun e=>hnd.1 (by rw[e];exact bu))
 rw[eus] at g8;have t58:=t5.trans (t6.trans t7);exact k pO G8 ((s3.trans t58).free hpO) (s3.trans (t58.trans t8)) g8
inductive hX (Ad:Ë) (vs:List V) (H:Hp) (Q:VK) (E:XK):Prop
 | mk (b ca dn de:Addr) (es:List Æ) (w:Za) (q0:vs=[.ref b,.str (tx w)]) (q1:du Ad H b ca dn de es) (q2:kI w) (q3:H Ad.tb1=some (il si)) (q4:∀ v H',aB H H'->jO H' v (gC es w)->Q v H'):hX Ad vs H Q E
theorem j4:aJ ["book","word","close","parts"] ["book","word"] (ax fe):=by subst_eqs
theorem uC (F:Å K "spelling_of" "spelling_of" fe f fd) (T:Bl mg) (AF:Ç K mg Ad) (CD:fd.code=.ref Ad.cd1) (C_fewest:B4 P w K mg base (Á P w) 2 "fewest" ["many","longest","step"] oE) (C_lone_group:Ä P w K mg base (Á P w) 5 "lone_group" ["book","entry"] (i8 Ad)):bF P w K mg base (Á P w) 8 f fd ["book","word"] (hX Ad):=by
 refine F.õ (k:=7) CD j4 ?_ (fun A outer s H vs Q E hr h=>?_)
 ·bv_decide
 ·obtain⟨b,ca,dn,de,es,w,rfl,B,⟨w1,w20,wl⟩,Tb,k⟩:=h;have hu:=hr.iX;have hu1:=mF hr;refine⟨_,ag (aA (i:=2) j4.nd (a8 C_lone_group az (hr.mono Zd) (ah (Ê 0) (ah (dw (ah bt af)) af)))) (ag (bG (aR jq (À 2) dh (aU _)) (ao (aG dh)) aV) (ag (aA (i:=3) j4.nd (bg (bN (K:=K) rfl) (wc (k:=5) (ps:=["begin","behind"]) (fr:=["book","word"]) (js:=[0,1]) (q:=si) C_fewest rfl rfl az (hr.mono Zd) (ay (aH (K:=K) rfl) T.len bz (ah (Ê 1) af)) (dB AF.v_MOST_PART_LETTERS) rfl AF.t_tab1 (by ext) rfl (.cons ⟨rfl,.inr (.inl rfl),rfl,by nofun,rfl⟩ (.cons ⟨rfl,.inr (.inl rfl),rfl,by nofun,rfl⟩ (.nil))) (fun _ _ _=>L2.cI fun _ _=>rfl) (fun _ _ _ _ _ _ hr=>a8 C_lone_group fg (hr.mono Zd) (ah (Ċ 2) (ah (dw (ah bt (ah (cN (iq (K:=K) rfl) (Ċ 3) (cM (À 0)) (cM (À 1))) af))) af))) (by nofun) (by nofun)) (uF qd aj) (fun _ _=>rfl))) (ao (aG (mO (aR jq (À 3) dh (aU _)) dh (aD aZ (À 3) (À 2))))))),?_⟩;have big:∀ {u:Nat},u<=90000->u<=sizeLine:=fun hu=>aT (av ⋯);grind;refine⟨big Zd,fun p1 H1 hp1 s1 h1=>⟨b,ca,dn,de,p1,es,oJ,rfl,B.same s1,h1,zR,fun v H2 s2 hv=>?_⟩⟩;cbv;have s12:=s1.trans s2;cases he:iC es oJ with
  | none =>rw[he] at hv;have hv0:v=.non:=hv;subst hv0;grind;refine k _ H2 s12 ?_;unfold gC;rw[he];rfl
  | some e =>
   rw[he] at hv;obtain⟨pc,rfl,hpc⟩:=hv;grind;cbv;grind;rw[bh];refine⟨big ⋯,s12 _ _ Tb,fun f H3 hf s3 lam=>?_⟩;have s13:=s12.trans s3;refine⟨⇑w,6,f,fun i j=>one (iC es (fj (fq w i j))),rfl,⋯,Zd,Zd,(fun i j l h=>bM (xx h) Zd),fun i j hij hjn hlg G Q' tG hQ=>?_,fun p svs H4 hp s4 h4 hP=>?_⟩
   ·refine⟨_,rfl,_,rfl,_,rfl,_,rfl,_,rfl,_,rfl,?_⟩;symm;rw[bh,bW,ET ⋯ hjn];have hl:=qM (w:=w) (i:=i) (j:=j) ⋯ hjn;refine⟨big ⋯,big Zd,fun pt G1 hpt t1 g1=>⟨b,ca,dn,de,pt,es,fj (fq w i j),rfl,B.same (s13.trans (tG.trans t1)),g1,qh ?_,fun v G2 t2 hv=>hQ v G2 (t1.trans t2) hv⟩⟩;unfold eL;rw[hl,bV,bV,bE,bE,bY];exact⟨⟨⋯,⋯⟩,fun c hc=>a9 (wl c (qN hc))⟩
   have lsv:⇑svs=⇑w+1:=by rw[gz hP,fQ]
   have hsv:svs[⇑w]?=some (svs[⇑w]'⋯):=aC _;generalize svs[⇑w]'⋯=v at hsv;obtain⟨o,ho,hvo⟩:=fb hP hsv;have hgd:(kT es w).getD ⇑w none=o:=by rw[aK,show (kT es w)[⇑w]?=some o from ho];rfl
   have hpc4:=(s3.trans s4) _ _ hpc;symm;refine⟨_,_,.inl (.of h4),og (v:=v) (by rw[nM,lsv];exact hsv),?_⟩;cbv;cases o with
   | none =>have hv0:v=.non:=hvo;subst hv0;symm;refine k _ H4 (s13.trans s4) ?_;unfold gC;rw[he];show jO H4 V.non (match (kT es w).getD ⇑w none with | none=>none | some l=>some (l++[e]));rw[hgd];rfl
   | some l =>
    obtain⟨pl,rfl,hpl⟩:=hvo;have ll:⇑l<=1*⇑w:=tT (m:=1) (lg:=6) (F:=fun i j=>one (iC es (fj (fq w i j)))) (fun i j l h=>xx h) ⇑w ⇑w l ho;symm;refine⟨_,_,hpl,hpc4,big (by rw[ak];show _+1<=_;left),fun D H5 hD s5 h5=>k _ H5 (s13.trans (s4.trans s5)) ?_⟩;unfold gC;rw[he];show jO H5 (V.ref D) (match (kT es w).getD ⇑w none with | none=>none | some l=>some (l++[e]));rw[hgd];refine⟨D,rfl,?_⟩;rw[h5,bD]
    try rfl
inductive mm (Ad:Ë) (vs:List V) (H:Hp) (Q:VK) (E:XK):Prop
 | mk (b ca dn de q:Addr) (es:List Æ) (ws:List Za) (q0:vs=[.ref b,.ref q]) (q1:du Ad H b ca dn de es) (q2:H q=some (.lst (ws.map fun w=>V.str (tx w)))) (q3:1<=⇑ws) (q4:⇑ws<=6) (q5:(∀ w∈ws,kI w)) (q6:H Ad.tb1=some (il si)) (q7:∀ v H',aB H H'->jO H' v (iZ es ws)->Q v H'):mm Ad vs H Q E
theorem qF:aJ ["book","words","phrase"] ["book","words"] (ax ng):=by subst_eqs
theorem xv (F:Å K "step_over" "step_over" ng f fd) (T:Bl mg) (AF:Ç K mg Ad) (C_spelling_of:Ä P w K mg base (Á P w) 8 "spelling_of" ["book","word"] (hX Ad)) (C_lone_group:Ä P w K mg base (Á P w) 5 "lone_group" ["book","entry"] (i8 Ad)):bF P w K mg base (Á P w) 9 f fd ["book","words"] (mm Ad):=by
 specialize qF;obtain⟨b,ca,dn,de,q,es,ws,rfl,B,hq,w1,w6,hw,Tb,k⟩:=h;refine⟨_,ag (aA (i:=2) qF.nd (a8 C_lone_group az (hr.mono Zd) (ah (À 0) (ah (dw (ah bt (ah (cV (K:=K) rfl eZ nU nV (mJ (K:=K) rfl) bt (ah (À 1) af)) af))) af)))) (ag (bG ((uL (aR jq (À 2) dh (aU _)) (tp (aR (c6 (K:=K) rfl hu) (ay (aH (K:=K) rfl) T.len bz (ah (À 1) af)) aj (aU _)))).pt) (ao (aG (a8 C_spelling_of az (hr.mono Zd) (ah (À 0) (ah (bg (bN (K:=K) rfl) (À 1) aj (fun _ _=>rfl)) af))))) aV) (ao (aG (À 2)))),?_⟩;have big:∀ {u:Nat},u<=90000->u<=sizeLine:=fun hu=>aT (av ⋯);obtain⟨j1,j2⟩:=qj (ws:=ws) ⋯ hw;grind;have ejs:(ws.map fun w=>V.str (tx w))=(ws.map tx).map V.str:=by rw[bf];rfl
 have lsum:((ws.map tx).map fun x=>⇑x).sum<=(ws.map fun w=>⇑w+1).sum:=by
  rw[bf];have e:ws.map ((fun z:Str=>⇑z) ∘ tx)=ws.map fun w=>⇑w:=eX fun w _=>bh w;rw[e];clear e j1 j2 ejs hq k hN w1 w6 hw
  induction ws with
  | nil=>simp
  | cons w r ih=>simp only[bI,jH];left
 have e1:(Str.ofString " ").length=1:=rfl;refine⟨rfl,ws.map tx,.of (by rw[hq,ejs]),by rw[e1,ak];left,big Zd,fun p1 H1 hp1 s1 h1=>?_⟩;rw[show (Str.ofString " ")=tx [32] from rfl,sf] at h1;have pok:fV (sS (Mk.bR 32 ws)):=zS w1 w6 hw;refine⟨b,ca,dn,de,p1,es,sS (Mk.bR 32 ws),rfl,B.same s1,h1,pok,fun v H2 s2 hv=>?_⟩;have s12:=s1.trans s2;cbv;cases hn:iC es (sS (Mk.bR 32 ws)) with
 | some n =>rw[hn] at hv;obtain⟨pp,rfl,hpp⟩:=hv;grind;cbv;symm;refine k _ H2 s12 ?_;unfold iZ;rw[hn];exact⟨pp,rfl,hpp⟩
 | none =>
  rw[hn] at hv;have hv0:v=.non:=hv;subst hv0;grind;refine⟨_,.inl (.of (s12 _ _ hq)),?_⟩;rw[ak]
  by_cases hl:⇑ws=1
  ·rw[aq (a9 ⋯)];have hg:ws[0]?=some (ws.getD 0 []):=by rw[aK,aC ⋯];rfl
   refine⟨_,_,.inl (.of (s12 _ _ hq)),e8 Zd (by rw[aX];show (ws[0]?).map _=_;rw[hg];rfl),b,ca,dn,de,es,ws.getD 0 [],rfl,B.same s12,hw _ (bT hg),s12 _ _ Tb,fun v H3 s3 hv=>k v H3 (s12.trans s3) ?_⟩;unfold iZ;rw[hn];show jO H3 v (if ⇑ws=1 then gC es (ws.getD 0 []) else none);rw[aq hl];exact hv
  ·rw[ai (by rw[aF ⋯];decide)];show nn _ _ _;cbv;symm;refine k _ H2 s12 ?_;unfold iZ;rw[hn];show jO H2 V.non (if ⇑ws=1 then gC es (ws.getD 0 []) else none);rw[ai hl];rfl
inductive hV (Ad:Ë) (vs:List V) (H:Hp) (Q:VK) (E:XK):Prop
 | mk (b ca dn de:Addr) (es:List Æ) (ws:List Za) (q0:vs=[.ref b,.str (tx (Mk.bR 32 ws))]) (q1:du Ad H b ca dn de es) (q2:1<=⇑ws) (q3:⇑ws<=60) (q4:(∀ w∈ws,kI w)) (q5:H Ad.tb1=some (il si)) (q6:H Ad.tb2=some (il vU)) (q7:∀ p svs H',H p=none->aB H H'->H' p=some (.lst svs)->Paired (jO H') svs (setB es ws)->Q (.ref p) H'):hV Ad vs H Q E
theorem nj:aJ ["book","text","words"] ["book","text"] (ax fc):=by subst_eqs
theorem uB (F:Å K "settings_of" "settings_of" fc f fd) (T:Bl mg) (AF:Ç K mg Ad) (CD:fd.code=.ref Ad.cd2) (C_fewest:B4 P w K mg base (Á P w) 2 "fewest" ["many","longest","step"] oE) (C_step_over:Ä P w K mg base (Á P w) 9 "step_over" ["book","words"] (mm Ad)) (C_is_text:Ä P w K mg base (Á P w) 3 "is_text" ["thing"] uX):bF P w K mg base (Á P w) 12 f fd ["book","text"] (hV Ad):=by
 refine F.õ (k:=11) CD nj ?_ (fun A outer s H vs Q E hr h=>?_)
 ·bv_decide
 ·obtain⟨b,ca,dn,de,es,ws,rfl,B,w1,w60,hw,Tb,Tb2,k⟩:=h;have hu:=hr.iX;have hu1:=mF hr;refine⟨_,ag (bG (c8 (cx (a8 C_is_text az (hr.mono Zd) (ah (À 1) af)))) (ao (dO dW AF.q_NoText AF.g_NoText da rfl (ah bt af))) aV) (ag (i6 (i:=2) nj.nd (cV (K:=K) rfl eZ qZ rf qp (À 1) (ah bt af))) (ao (aG (wc (k:=9) (ps:=["begin","behind"]) (fr:=["book","words"]) (js:=[0,2]) (q:=vU) C_fewest rfl rfl az (hr.mono Zd) (ay (aH (K:=K) rfl) T.len bz (ah (Ê 2) af)) (dB AF.v_MOST_PHRASE_WORDS) rfl AF.t_tab2 (by ext) rfl (.cons ⟨rfl,.inr (.inl rfl),rfl,by nofun,rfl⟩ (.cons ⟨rfl,.inr (.inl rfl),rfl,by nofun,rfl⟩ (.nil))) (fun _ _ _=>L2.cI fun _ _=>rfl) (fun _ _ _ _ _ _ hr=>a8 C_step_over fg (hr.mono Zd) (ah (Ċ 2) (ah (cN (iq (K:=K) rfl) (Ċ 3) (cM (À 0)) (cM (À 1))) af))) (by nofun) (by nofun))))),?_⟩;have big:∀ {u:Nat},u<=90000->u<=sizeLine:=fun hu=>aT (av ⋯);obtain⟨j1,j2⟩:=qj (ws:=ws) ⋯ hw;have isT:gO 60 (Mk.bR 32 ws)=true:=v7 w1 w60 hw;grind;refine⟨_,rfl,⋯,fun H1 s1=>⟨_,rfl,?_⟩⟩;rw[isT];bv_omega;show nn _ _ _;cbv;grind;refine⟨rfl,by rw[bh];left,32,rfl,fun pw H2 hpw s2 h2=>?_⟩;rw[bW,Mk.iG ws (fun e=>by rw[e] at w1;simp at w1) fun w hw' hc=>by have:=(hw w hw').2.2 32 hc;left] at h2;have s12:=s1.trans s2;cbv;symm;refine⟨_,.inl (.of h2),?_⟩;rw[ak];refine⟨s12 _ _ Tb2,fun f H3 hf s3 lam=>?_⟩;have s13:=s12.trans s3;refine⟨⇑ws,6,f,fun i j=>iZ es (fq ws i j),rfl,⋯,Zd,Zd,(fun i j l h=>bM (GU (fun w hw'=>(hw w (qN hw')).2.1) h) Zd),fun i j hij hjn hlg G Q' tG hQ=>?_,fun p svs H4 hp s4 h4 hP=>k p svs H4 (s13.free hp) (s13.trans s4) h4 hP⟩;refine⟨_,rfl,_,rfl,_,rfl,_,rfl,_,rfl,_,rfl,?_⟩;symm;have hl:=qM (w:=ws) (i:=i) (j:=j) ⋯ hjn;have hpwG:=(s3.trans tG) _ _ h2;refine⟨_,.of hpwG,fun pc G1 hpc t1 g1=>?_⟩;rw[Df ⋯ hjn] at g1;have sG1:=s13.trans (tG.trans t1);exact⟨b,ca,dn,de,pc,es,fq ws i j,rfl,B.same sG1,g1,⋯,⋯,(fun w hw'=>hw w (qN hw')),sG1 _ _ Tb,fun v G2 t2 hv=>hQ v G2 (t1.trans t2) hv⟩
inductive kF (Ad:Ë) (vs:List V) (H:Hp) (Q:VK) (E:XK):Prop
 | mk (b ca dn de:Addr) (es:List Æ) (ws:List Za) (l:Zb) (q0:vs=[.ref b,.str (tx (Mk.bR 32 ws))]) (q1:du Ad H b ca dn de es) (q2:1<=⇑ws) (q3:⇑ws<=60) (q4:(∀ w∈ws,kI w)) (q5:H Ad.tb1=some (il si)) (q6:H Ad.tb2=some (il vU)) (q7:(setB es ws)[⇑ws]?=some (some l)) (q8:∀ p H',aB H H'->H' p=some (.lst (l.map V.int))->Q (.ref p) H'):kF Ad vs H Q E
theorem oV:aJ ["book","text","settings"] ["book","text"] (ax ma):=by subst_eqs
theorem vv (F:Å K "set_groups" "set_groups" ma f fd) (T:Bl mg) (AF:Ç K mg Ad) (C_settings_of:Ä P w K mg base (Á P w) 12 "settings_of" ["book","text"] (hV Ad)):bF P w K mg base (Á P w) 13 f fd ["book","text"] (kF Ad):=by
 specialize oV;obtain⟨b,ca,dn,de,es,ws,l,rfl,B,w1,w60,hw,Tb,Tb2,hl,k⟩:=h;refine⟨_,ag (aA (i:=2) oV.nd (a8 C_settings_of az (hr.mono Zd) (ah (À 0) (ah (À 1) af)))) (ag (bG (aR jq (bg (bN (K:=K) rfl) (À 2) (uF qd aj) (fun _ _=>rfl)) dh (aU _)) (ao zg) aV) (ao (aG (bg (bN (K:=K) rfl) (À 2) (uF qd aj) (fun _ _=>rfl))))),?_⟩;grind;refine⟨b,ca,dn,de,es,ws,rfl,B,w1,w60,hw,Tb,Tb2,fun p svs H1 hp s1 h1 hP=>?_⟩;cbv;have lsv:⇑svs=⇑ws+1:=by rw[gz hP];exact fQ _ _ _
 have hsv:svs[⇑ws]?=some (svs[⇑ws]'⋯):=aC _;generalize svs[⇑ws]'⋯=v at hsv;obtain⟨o,ho,hvo⟩:=fb hP hsv;rw[hl] at ho;cases ho;obtain⟨a,rfl,ha⟩:=hvo;have hat:Õ svs (-1)=some (.ref a):=og (by rw[nM,lsv];exact hsv);grind;refine⟨_,_,.inl (.of h1),hat,?_⟩;symm;cbv;symm;exact⟨_,_,.inl (.of h1),hat,k a H1 s1 ha⟩
theorem GL (zs:List Za):cB zs (List.range ⇑zs)=zs:=by have:=yD zs;unfold kS at this;unfold cB;rw[←this,ak,bZ];refine eX fun i _=>?_;rw[this,ai (by simp)]
noncomputable def wX (w:Za):List (List Key):=w.map (fun c=>fj [c])++[oJ]
theorem Cn {W:List (Za)}{sp:Za}:∀ {w:Za},⇑W<60->⇑sp+⇑w<=20->runK (w.map fun c=>fj [c]) (W,sp)=some (W,sp++w)
 | [],_,_=>by rw[dQ];rfl
 | c::w,hW,hl=>by
  rw[bH] at hl;have ih:=Cn (W:=W) (sp:=sp++[c]) (w:=w) hW (by rw[aE];show ⇑sp+1+_<=_;left);show (match stepK (fj [c]) (W,sp) with | none=>none | some t=>runK (w.map fun c=>fj [c]) t)=_;have e:stepK (fj [c]) (W,sp)=some (W,sp++[c]):=by unfold fj;rw[i4,aq ⟨hW,by show ⇑sp+1<=20;left⟩]
  rw[e];show runK (w.map fun c=>fj [c]) (W,sp++[c])=_;rw[ih,cD];rfl
theorem zj:∀ {wd W:List (Za)},⇑W+⇑wd<=60->(∀ w∈wd,mr w)->runK (wd.flatMap wX) (W,[])=some (W++wd,[])
 | [],W,_,_=>by rw[dQ];rfl
 | w::wd,W,hl,hw=>by
  rw[bH] at hl;obtain⟨w1,w5,_⟩:=hw w bu;have ih:=zj (wd:=wd) (W:=W++[w]) (by rw[aE];show ⇑W+1+_<=_;left) fun x hx=>hw x (b8 _ hx);rw[List.flatMap_cons,kU];have e:runK (wX w) (W,[])=some (W++[w],[]):=by
   unfold wX;rw[kU,Cn ⋯ (by show 0+⇑w<=20;left),List.nil_append];show (match stepK oJ (W,w) with | none=>none | some t=>runK [] t)=_;have:stepK oJ (W,w)=some (W++[w],[]):=by unfold oJ;rw[jA,ai (fun z:w=[]=>by rw[z] at w1;simp at w1)]
   rw[this];rfl
  rw[e];show runK (wd.flatMap wX) (W++[w],[])=_;rw[ih,cD];rfl
theorem yI:∀ {wd:List (Za)},(∀ w∈wd,mr w)->⇑(wd.flatMap wX)<=6*⇑wd
 | [],_=>aw _
 | w::wd,hw=>by
  have ih:=yI fun x hx=>hw x (b8 _ hx);have:=(hw w bu).2.1;rw[List.flatMap_cons,aE,bH];have e:⇑(wX w)=⇑w+1:=by unfold wX;rw[aE,ak];rfl
  left
def Bi (K:Zf) (tb tb1 tb2:Addr):Sp:=fun vs H Q _=>∃ (a:Addr) (ns:Zb),vs=[.ref a]/\Ã K H a (ns.map V.int)/\⇑ns<=63/\H tb=some (il uc)/\H tb1=some (il si)/\H tb2=some (il vU)/\∀ H',Q (.bl true) H'
theorem kC:aJ ["_law_script","_law_code_here","_law_words","_law_entries_here","_law_book","_law_text_here","_law_sent","_law_faults_here","_law_handed","_law_found"] ["_law_script"] (ax qC):=by subst_eqs
theorem KL (F:Å K "law" "law" qC f fd) (T:Bl mg) (AF:Ç K mg Ad) (C_readings:Ä P w K mg base (Á P w) 7 "readings" ["book","words"] (nB Ad)) (C_law_sendings_right:Ä P w K mg base (Á P w) 6 "_law_sendings_right" ["_law_code_here","_law_words","_law_faults_here","_law_sendings"] (fh Ad K)) (C_got_across:Ä P w K mg base (Á P w) 6 "got_across" ["book","words","faults"] (kD Ad)) (C_law_faults:Ä P w K mg base (Á P w) 2 "_law_faults" ["_law_script","_law_many"] (oX K)) (C_telegram:Ä P w K mg base (Á P w) 5 "telegram" ["book","groups"] (nC Ad)) (C_set_groups:Ä P w K mg base (Á P w) 13 "set_groups" ["book","text"] (kF Ad)) (C_law_text:Ä P w K mg base (Á P w) 2 "_law_text" ["_law_script","_law_words","_law_first","_law_last"] (n9 K)) (C_law_cell_at:Ä P w K mg base (Á P w) 1 "_law_cell_at" ["_law_script","_law_k"] (eC K)) (C_law_made:Ä P w K mg base (Á P w) 6 "_law_made" ["_law_code_here","_law_entries_here"] (n6 Ad)) (C_law_entries:Ä P w K mg base (Á P w) 3 "_law_entries" ["_law_code_here","_law_script","_law_full"] (j9 K)) (C_law_code:Ä P w K mg base (Á P w) 3 "_law_code" ["_law_script"] (sI K)):bF P w K mg base (Á P w) 14 f fd ["_law_script"] (Bi K Ad.tb Ad.tb1 Ad.tb2):=by
 specialize kC;obtain⟨a,ns,rfl,hS,hlen,Tb,Tb1,Tb2,k⟩:=h;have æ:=hr.æ;refine⟨_,ag (aA (i:=1) kC.nd (a8 C_law_code az (hr.mono Zd) (ah (À 0) af))) (ag (Gp (a8 C_law_entries az (hr.mono Zd) (ah (À 1) (ah (À 0) (ah iD af)))) (Ja (K:=K) (n:=2) rfl rfl (cA (aM (i:=2) kC.nd) (cA (zf (i:=3) kC.nd) jc)))) (ag (aA (i:=4) kC.nd (a8 C_law_made az (hr.mono Zd) (ah (À 1) (ah (Ê 3) af)))) (ag (bG (aR jq (À 4) dh (aU _)) (ao (aG iD)) aV) (ag (bG (aR (gS (K:=K) rfl hu) (fZ ["_law_letter"] rfl ⟨rfl,by nofun,rfl,by nofun⟩ (.cons (j:=3) rfl (.inl (by ext)) (.nil)) (by nofun) (cG (K:=K) rfl bt) (fun _ _ _ _=>aM (i:=0) (show (["_law_letter","_law_entries_here"]:Ze).Nodup from by nofun)) (fun _ _ _ _=>oz (aR (wb (K:=K) rfl rfl æ) (dw (ah bt (ah (À 0) af))) (Cc (Ê 1)) (by ext))) (fun _ _ _ _=>À 0)) (cb af) (aU _)) (ao (aG iD)) aV) (ag (aA (i:=5) kC.nd (a8 C_law_text az (hr.mono Zd) (ah (À 0) (ah (À 2) (ah aj (ah (aD aZ aj (aD b0 (a8 C_law_cell_at az (hr.mono Zd) (ah (À 0) (ah aj af))) aj)) af)))))) (ag (aA (i:=6) kC.nd (a8 C_telegram az (hr.mono Zd) (ah (À 4) (ah (a8 C_set_groups az (hr.mono Zd) (ah (À 4) (ah (À 5) af))) af)))) (ag (aA (i:=7) kC.nd (a8 C_law_faults az (hr.mono Zd) (ah (À 0) (ah (ay (aH (K:=K) rfl) T.len bz (ah (À 6) af)) af)))) (ag (aA (i:=8) kC.nd (cb (ah (c7 (dY (K:=K) rfl rfl) T.list fP (ah (À 6) af)) (ah (c7 (dY (K:=K) rfl rfl) T.list fP (ah (À 7) af)) af)))) (ag (aA (i:=9) kC.nd (a8 C_got_across az (hr.mono Zd) (ah (À 4) (ah (bg (bN (K:=K) rfl) (À 8) aj (fun _ _=>rfl)) (ah (bg (bN (K:=K) rfl) (À 8) aj (fun _ _=>rfl)) af))))) (ag (bG ((iE (aR (KY (K:=K) rfl hu1) (À 8) (cb (ah (À 6) (ah (À 7) af))) (aU _)) (iE (c8 (cx (ay (dG .tup) T.isinstance bt_isinstance (ah (À 9) (ah (iR T.tuple xX) af))))) (iE (aR (gS (K:=K) rfl hu) (ay (aH (K:=K) rfl) T.len bz (ah (À 9) af)) aj (aU _)) (gW (aR (gS (K:=K) rfl hu) (bg (bN (K:=K) rfl) (À 9) aj (fun _ _=>rfl)) (À 6) (aU _)))))).pt) (ao (aG iD)) aV) (ag (bG ((iE (c8 (cx (ay (dG .lst) T.isinstance bt_isinstance (ah (bg (bN (K:=K) rfl) (À 9) aj (fun _ _=>rfl)) (ah (iR T.list fP) af))))) (gW (c8 (cx (a8 C_law_sendings_right az (hr.mono Zd) (ah (À 1) (ah (À 6) (ah (À 7) (ah (bg (bN (K:=K) rfl) (À 9) aj (fun _ _=>rfl)) af))))))))).pt) (ao (aG iD)) aV) (ao (aG (cT (c6 (K:=K) rfl hu) (a8 C_readings az (hr.mono Zd) (ah (À 4) (ah (bg (bN (K:=K) rfl) (À 9) aj (fun _ _=>rfl)) af))) (cb (ah (À 5) af)) (aU _))))))))))))))),?_⟩;have big:∀ {u:Nat},u<=1000->u<=sizeLine:=fun hu=>aT (av ⋯);grind;refine⟨a,ns,rfl,hS,fun c cq al ws r H1 s1 hP ok h55 h4=>?_⟩;have m49:49<=dj al ws:=KI h55.1 ok.w3 h4 h55.2.2;cbv;grind;refine⟨c,cq,a,ns,al,ws,r,rfl,s1.seq hS,hP,ok,m49,fun T pw D zs es H2 s2 hD0 hT hw zl hz hD eo el hend=>?_⟩;symm;refine⟨_,.t hT,rfl,?_⟩;symm;cbv;grind;refine⟨c,cq,D,al,ws,r,es,rfl,⟨s2 _ _ hP.1,s2 _ _ hP.2⟩,ok,(s1.trans s2) _ _ Tb,hD,eo,el,fun b ca dn de ob H3 kp3 hD3 B C=>?_⟩;have s13:aB H1 H3:=fun x o e=>kp3 x o (fun z=>by rw[z,hD0] at e;cases e) (s2 _ _ e);have s3:=s1.trans s13;have hw3:=kp3 _ _ (gR hw hD (by intro z;cases z)) hw;have hes:=eo.ok;show nn _ _ _;rw[hN];clear hN nn hT hw hD kp3 hD0 eo s2;grind;show nn _ _ _;cbv;grind;obtain⟨pr,hpr⟩:∃ pr:Nat->Bool,∀ x,pr x=false↔fj [x]∈es.map fun e:Æ=>e.key:=⟨fun x=>!(@decide (fj [x]∈es.map fun e:Æ=>e.key) (Classical.propDecidable _)),fun x=>by
  rw[Bool.not_eq_false'];exact⟨fun h=>@gj _ (Classical.propDecidable _) h,fun h=>@a9 _ (Classical.propDecidable _) h⟩⟩
 refine KA (fun c:Nat=>V.str ⟨#[c]⟩) tW (sd (Str.ofString "abnox")) (av (by nofun)) pr (fun c:Nat=>V.str ⟨#[c]⟩) ?_ ?_ ?_
 ·intro x hx G1 t1 R hR;have hx':97<=x/\x<123:=by
   have:∀ c∈(Str.ofString "abnox").cps.toList,97<=c/\c<123:=by nofun
   exact this x hx
  symm;refine⟨big Zd,fun t G2 ht t2 g2=>⟨D,_,rfl,.inr ⟨ob,(t1.trans t2) _ _ hD3⟩,fun pv G3 hpv t3 g3=>?_⟩⟩;have t13:=t1.trans (t2.trans t3);obtain⟨e,he1,he2⟩:=BM (K:=K) (H:=G3) (es:=es) (t:=t) (ks:=fj [x]) (fun y hy=>⟨t13 _ _ (B.en y hy),(hes y hy).1⟩) (t3 _ _ g2) (qh (kJ (aw 1) (show 1<=6 by decide) fun y hy=>by rw[aS.mp hy];exact hx'));refine⟨pv,D,_,e,1,rfl,g3,.inr ⟨ob,t13 _ _ hD3⟩,Zd,he1,?_⟩;have ex:(((iu es).any fun q=>e q.2) != true)=pr x:=by
   cases hq:pr x with
   | false=>rw[he2.mpr ((hpr x).mp hq)];rfl
   | true =>
    cases hA:(iu es).any fun q=>e q.2 with
    | false=>rfl
    | true=>rw[(hpr x).mpr (he2.mp hA)] at hq;cases hq
  rw[ex];exact hR G3 (t2.trans t3)
 ·intro x hx _ G1 t1 R hR;symm;exact hR G1 (aB.refl _)
 intro D4 G4 hD4 t4 g4;refine⟨br _,fun p5 G5 hp5 t5 g5=>?_⟩;symm;refine⟨_,_,.of (t5 _ _ g4),.of g5,?_,rfl,?_⟩
 ·rw[bY];intro v hv;obtain⟨x,_,rfl⟩:=aO.mp hv;rfl
 cases hfil:(Str.ofString "abnox").cps.toList.filter pr with
 | cons x xs =>rw[show oK ((x::xs).map fun c:Nat=>V.str ⟨#[c]⟩) []=false from rfl];bv_omega;exact k _
 | nil =>
 rw[show oK (([]:Za).map fun c:Nat=>V.str ⟨#[c]⟩) []=true from rfl];bv_omega;show nn _ _ _;cbv;have parts:∀ x∈[97,98,110,111,120],fj [x]∈es.map fun e:Æ=>e.key:=fun x hx=>by
  have e:(Str.ofString "abnox").cps.toList=[97,98,110,111,120]:=by nofun
  rw[e] at hfil;refine (hpr x).mp ?_;have:=lq.mp hfil x hx;cases h:pr x with
  | false=>rfl
  | true=>exact absurd h this
 clear hpr hfil g4 g5 hp5 hD4 hD3;have t35:=t4.trans t5;have s5:=s3.trans t35;have B5:=B.same t35;have C5:=C.same t35;have hw5:=t35 _ _ hw3;have hS5:=s5.seq hS;grind;refine⟨a,ns,14,rfl,hS5,Zd,?_⟩;generalize ns.getD (14:Int).toNat 0=c14;symm;refine⟨Zd,?_⟩;obtain⟨m,hm,m1,m6⟩:∃ m:Nat,15+c14%6=14+(m:Int)/\1<=m/\m<=6:=⟨(1+c14%6).toNat,⋯,⋯,⋯⟩;rw[hm];refine⟨a,pw,ns,zs,m,rfl,hS5,hw5,zl,hz,m6,fun wd H6 s6 wl hwv=>?_⟩;rw[hN];clear hN nn hm hw5 hw3;have hwd:∀ w∈wd,kI w:=fun w h=>oF (hwv w h);have wne:wd≠[]:=fun z=>by rw[z,nN] at wl;left
 have kin:∀ kk∈wd.flatMap wX,fV kk/\kk∈es.map (·.key):=fun kk h=>by
  obtain⟨w,hw',h⟩:=List.mem_flatMap.mp h;unfold wX at h;rcases bC.mp h with h | h
  ·obtain⟨x,hx,rfl⟩:=aO.mp h;refine⟨qh (kJ (aw 1) (show 1<=6 by decide) fun y hy=>by rw[aS.mp hy];exact (hwd w hw').2.2 x hx),parts x ((hwv w hw').2.2 x hx)⟩
  ·rw[aS.mp h];exact⟨zR,hend⟩
 have run0:=zj (wd:=wd) (W:=[]) (by show 0+⇑wd<=60;left) hwv;rw[List.nil_append] at run0;obtain⟨lw,hlw,llw⟩:=Dz kin run0 (dQ wd).symm;have l36:=yI hwv;obtain⟨gw,gw1,gw2,gw3⟩:=GO (es:=es) (wd:=wd) ⋯ hwd ⇑wd lw (aw _) hlw;rw[nS] at gw3;have lgw:⇑gw=⇑lw:=by rw[←gw2,ak]
 have gw0:1<=⇑gw:=by
  cases gw with
  | nil=>cases gw3;exact absurd rfl wne
  | cons _ _=>exact Nat.le_add_left _ _
 clear kin run0 parts hend;have S6:=s5.trans s6;grind;refine⟨b,ca,dn,de,es,wd,lw,rfl,B5.same s6,⋯,⋯,hwd,S6 _ _ Tb1,S6 _ _ Tb2,hlw,fun pg H7 s7 h7=>?_⟩;have s67:=s6.trans s7;refine⟨b,ca,dn,de,pg,es,gw,al,ws,r,wd,rfl,B5.same s67,C5.same s67,ok,hes,by rw[gw2];exact h7,⋯,gw1,gw3,wne,fun pt H8 hpt s8 h8=>?_⟩;cbv;obtain⟨tl,tgd,_,tin⟩:=Cw (r:=r) ok (gs:=gw.map (·.num)) (es:=es) fun g hg=>by obtain⟨e,he,rfl⟩:=aO.mp hg;exact⟨(hes e (gw1 e he)).2,qU (gw1 e he)⟩
 rw[ak] at tl;obtain⟨tz,etz⟩:∃ tz,nF al ws r (gw.map (·.num))=tz:=⟨_,rfl⟩;rw[etz] at h8 tl tgd tin;have s58:=s67.trans s8;have S8:=s5.trans s58;have B8:=B5.same s58;have C8:=C5.same s58;have twd:∀ z∈tz,r6 al z:=fun z hz=>(tgd z hz).wd ok;have t38:⇑tz<=38:=⋯
 clear h7 s7 s67 hlw llw l36 S6 hpt;grind;refine⟨_,.l h8,?_⟩;rw[ak];refine⟨a,ns,⇑tz,rfl,S8.seq hS,⋯,fun pf fv fs H9 hpf s9 h9 hfs lfs hf=>?_⟩;cbv;have B9:=B8.same s9;have C9:=C8.same s9;have h89:=s9 _ _ h8;have sP9:aB H1 H9:=s13.trans (t35.trans (s58.trans s9));grind;have le2:2<=sizeLine:=big Zd;refine⟨_,.inl (.l h89),fun p1 G1 w1 t1 g1=>⟨_,.inl (.l (t1 _ _ h9)),fun p2 G2 w2 t2 g2=>⟨le2,fun ph G3 w3 t3 g3=>?_⟩⟩⟩;have t03:=t1.trans (t2.trans t3);have q1:=(t2.trans t3) _ _ g1;have q2:=t3 _ _ g2;cbv;grind;refine⟨_,_,.l g3,bb (j:=0) rfl,_,_,.l g3,bb (j:=1) rfl,b,ca,dn,de,p1,p2,es,al,ws,r,tz,fv,fs,rfl,B9.same t03,C9.same t03,ok,q1,tgd,⋯,⋯,tin,q2,hfs.same t03,⋯,hf,fun T pk ps svs G4 wT wk wp t4' gT gk gs4 hss=>?_⟩;cbv;grind;have lfz:(tz.map È).all yF=true:=by rw[bY];intro v hv;obtain⟨z,_,rfl⟩:=aO.mp hv;rfl
 have lff:fv.all yF=true:=by rw[bY];intro v hv;obtain⟨j,hj⟩:=jF hv;obtain⟨_,_,t,rfl,_⟩:=fb hfs hj;rfl
 refine⟨le2,fun pe G5 w5 t5' g5=>?_⟩;have t05:=t03.trans (t4'.trans t5');refine⟨_,_,.of ((t4'.trans t5') _ _ g3),.of g5,rfl,?_,?_⟩
 ·intro j x y ex ey
  match j,ex,ey with
  | 0,ex,ey=>cases ex;cases ey;exact⟨p1,pt,_,rfl,rfl,.of ((t4'.trans t5') _ _ q1),.of (t05 _ _ h89),lfz⟩
  | 1,ex,ey=>cases ex;cases ey;exact⟨p2,pf,_,rfl,rfl,.of ((t4'.trans t5') _ _ q2),.of (t05 _ _ h9),lff⟩
  | _+2,ex,_=>cases ex
 bv_omega;refine⟨.tup,(by rw[t5' _ _ gT]),?_⟩;rw[ai (by decide)];refine⟨_,.t (t5' _ _ gT),?_⟩;rw[ai (by show ¬ (!decide (((2:Nat):Int)=2))=true;decide)];have gT5:=t5' _ _ gT;have gk5:=t5' _ _ gk;have gs5:=t5' _ _ gs4;have hss5:=hss.keep (H':=G5) fun b ws h=>t5' _ _ h;have hz5:=t05 _ _ h89;refine⟨_,_,.t gT5,bb (j:=0) rfl,?_⟩;symm;refine⟨_,_,.of gk5,.of hz5,fw _,fw _,?_⟩;rw[oq _ (fw _)];bv_omega;show nn _ _ _;cbv;have run:=Co (al:=al) (zs:=tz) (fun f h=>(hf f h).2) 63 0 (List.range ⇑tz) rfl (fun _=>br _);rw[GL] at run;generalize oW al fs tz 63 0 (List.range ⇑tz)=css at hss5 run;grind;refine⟨_,_,.t gT5,bb (j:=1) rfl,trivial,.lst,(show mn (G5 ps)=some .lst by rw[gs5];rfl),?_⟩;rw[ai (by decide)];refine⟨_,_,.t gT5,bb (j:=1) rfl,?_⟩;have sP5:=sP9.trans t05;refine⟨c,cq,pt,pf,ps,al,ws,r,tz,fv,fs,svs,css,rfl,⟨sP5 _ _ hP.1,sP5 _ _ hP.2⟩,ok,hz5,twd,⋯,t05 _ _ h9,hfs.same t05,⋯,(fun f h=>(hf f h).1),gs5,hss5,run.1,run.2,fun G6 t6=>?_⟩;symm;show nn _ _ _;cbv;symm;have t56:=t05.trans t6;refine⟨_,_,.t (t6 _ _ gT5),bb (j:=0) rfl,b,ca,dn,de,pk,es,gw,al,ws,r,wd,rfl,B9.same t56,C9.same t56,ok,hes,by rw[etz];exact t6 _ _ gk5,gw0,⋯,gw1,gw3,wne,fun D7 G7 hD7 t7 g7=>?_⟩;refine⟨big Zd,fun p8 G8 hp8 t8 g8=>?_⟩;symm;refine⟨_,_,.of (t8 _ _ g7),.of g8,rfl,rfl,?_⟩;rw[show oK [È (Mk.bR 32 wd)] [V.str (tx (Mk.bR 32 wd))]=true from oq [È (Mk.bR 32 wd)] rfl];exact k G8
end
local macro_rules | `(∅) => `(by first | exact fun _ _ _ _ _ _=>L2.bind1 fun _=>rfl | exact fun _ _ _ _ _ _=>L2.cI fun _ _=>rfl | exact fun _ _ _ _ _ _=>L2.mB fun _ _ _=>rfl | exact fun _ _ _ _ _ _=>L2.qf fun _ _ _ _=>rfl)
open PySem.W in
theorem all_mk {l:OpenLaw}{w:Zi}{h:Heap}{mg:Zk}{fa:Addr}{aa ab ad ae af ag ah ai aj ak al am an ao ap aq ar as au:Addr}{f11 f39 f41 f46 f48 f50 f67:Addr} (X:K.In h) (G:h.Ns mainGlobals mg) (hfa:mg "law"=some (.ref fa)){od11 an11 od39 an39 od41 an41 od46 an46 od48 an48 od50 an50 od67 an67:Option Addr}{sl11 sl39 sl41 sl46 sl48 sl50 sl67:Array (Option Value)}{oc11 kV11 dc11 pm11 cd11 ct11 oc39 kV39 dc39 pm39 cd39 ct39 oc41 kV41 dc41 pm41 ct41 oc46 kV46 dc46 pm46 cd46 ct46 oc48 kV48 dc48 pm48 ct48 oc50 kV50 dc50 pm50 ct50 oc67 kV67 dc67 pm67 cd67 ct67:Value}(y0:nsIn K mainGlobals "Code"=some (some (.ref aa)))(y1:nsIn K mainGlobals "Book"=some (some (.ref ab)))(y2:nsIn K mainGlobals "CableError"=some (some (.ref ad)))(y3:nsIn K mainGlobals "NoCode"=some (some (.ref ae)))(y4:nsIn K mainGlobals "NoNumber"=some (some (.ref af)))(y5:nsIn K mainGlobals "NoWord"=some (some (.ref ag)))(y6:nsIn K mainGlobals "NoEntry"=some (some (.ref ah)))(y7:nsIn K mainGlobals "Twice"=some (some (.ref ai)))(y8:nsIn K mainGlobals "TooMany"=some (some (.ref aj)))(y9:nsIn K mainGlobals "NoText"=some (some (.ref ak)))(bN:nsIn K mainGlobals "NoReading"=some (some (.ref al)))(bP:nsIn K mainGlobals "NoSetting"=some (some (.ref am)))(bQ:nsIn K mainGlobals "TooGarbled"=some (some (.ref an)))(d0:cR K "is_whole" pM)(d1:cR K "common_divisor" iw)(d2:cR K "are_safe" pG)(d3:cR K "is_alphabet" kx)(d4:cR K "is_below" pJ)(d5:cR K "are_weights" kr)(d6:cR K "is_word" rT)(d7:cR K "places_of" nc)(d8:cR K "spelled" rV)(d9:cR K "are_good" pF)(bR:cR K "is_good" rR)(bS:findIn K (.ref aa) "__init__"=some (some (.ref f11)))(bT:isFn K (.ref f11)=true)(bU:K.lookup f11=some ⟨oc11,od11,.func (fnOf "__init__" "Code.__init__" (cS gG) (cn gG) (ax gG) .none kV11 dc11 pm11 an11 cd11 ct11),sl11⟩)(bV:codeIn K cd11 "Code.__init__"=true)(bW:keepIn K (.ref f11)=true)(bX:oY K aa "alphabet" "Code.alphabet" iS)(bY:oY K aa "weights" "Code.weights" jt)(bZ:oY K aa "many" "Code.many" mT)(b0:oY K aa "word" "Code.word" mU)(b1:oY K aa "number" "Code.number" ko)(b2:oY K aa "has_good" "Code.has_good" iT)(b3:cR K "are_letters" kq)(b4:cR K "are_words" mV)(b5:cR K "is_text" rS)(b6:cR K "can_stand" mW)(b7:cR K "said" AZ)(b8:cR K "check_number" jw)(b9:cR K "check_of" pH)(ca:cR K "telegram" pU)(cb:cR K "is_sound" pL)(cc:cR K "are_words_of" ju)(cd:cR K "doubtful" pI)(ce:cR K "text_of" rX)(cf:cR K "readings" pT)(cg:cR K "exchanged" mX)(ch:cR K "swapped" rW)(ci:cR K "first_faults" jx)(cj:cR K "as_it_comes" ku)(ck:cR K "as_they_come" jv)(cl:cR K "garbled" rQ)(cm:cR K "got_across" lX)(co:cR K "is_entry" pK)(cp:findIn K (.ref ab) "__init__"=some (some (.ref f39)))(cq:isFn K (.ref f39)=true)(cr:K.lookup f39=some ⟨oc39,od39,.func (fnOf "__init__" "Book.__init__" (cS gF) (cn gF) (ax gF) .none kV39 dc39 pm39 an39 cd39 ct39),sl39⟩)(cs:codeIn K cd39 "Book.__init__"=true)(ct:keepIn K (.ref f39)=true)(cu:oY K ab "code" "Book.code" mS)(cv:findIn K (.ref ab) "put"=some (some (.ref f41)))(cw:isFn K (.ref f41)=true){dt41:Addr}{tc41:Value}{td41:Option Addr}{tn41:Nat}{ts41:Array (Option Value)}(cx:K.lookup f41=some ⟨oc41,od41,.func (fnOf "put" "Book.put" (cS di) (cn di) (ax di) (.ref dt41) kV41 dc41 pm41 an41 (.ref ao) ct41),sl41⟩)(cy:K.lookup dt41=some ⟨tc41,td41,.seq #[.none] tn41,ts41⟩)(cz:codeIn K (.ref ao) "Book.put"=true)(cA:keepIn K (.ref f41)=true)(cB:oY K ab "choose" "Book.choose" km)(cC:oY K ab "least_free" "Book.least_free" gX)(cD:oY K ab "entry" "Book.entry" lW)(cE:oY K ab "number" "Book.number" kn)(cF:nsIn K mainGlobals "fewest"=some (some (.ref f46)))(cG:K.lookup f46=some ⟨oc46,od46,.func (fnOf "fewest" "fewest" (cS kW) (cn kW) (ax kW) .none kV46 dc46 pm46 an46 cd46 ct46),sl46⟩)(cH:codeIn K cd46 "fewest"=true)(cJ:keepIn K (.ref f46)=true)(cK:cR K "lone_group" lZ)(cL:nsIn K mainGlobals "spelling_of"=some (some (.ref f48)))(cM:K.lookup f48=some ⟨oc48,od48,.func (fnOf "spelling_of" "spelling_of" (cS fe) (cn fe) (ax fe) .none kV48 dc48 pm48 an48 (.ref aq) ct48),sl48⟩)(cN:codeIn K (.ref aq) "spelling_of"=true)(cO:keepIn K (.ref f48)=true)(cP:cR K "step_over" ng)(cQ:nsIn K mainGlobals "settings_of"=some (some (.ref f50)))(cT:K.lookup f50=some ⟨oc50,od50,.func (fnOf "settings_of" "settings_of" (cS fc) (cn fc) (ax fc) .none kV50 dc50 pm50 an50 (.ref as) ct50),sl50⟩)(cU:codeIn K (.ref as) "settings_of"=true)(cV:keepIn K (.ref f50)=true)(cW:cR K "set_groups" ma)(cX:cR K "_law_cell_at" kz)(cY:cR K "_law_mixed" mZ)(cZ:cR K "_law_divisor" k9)(c0:cR K "_law_alphabet" jy)(c1:cR K "_law_weights" kB)(c2:cR K "_law_code" pP)(c3:cR K "_law_vocabulary" ix)(c4:cR K "_law_entry" mY)(c5:cR K "_law_entries" kA)(c6:cR K "_law_made" pQ)(c7:cR K "_law_text" pR)(c8:cR K "_law_made_another" gA)(c9:cR K "_law_came" pN)(da:cR K "_law_faults" lY)(db:cR K "_law_sendings_right" fA)(dc:nsIn K mainGlobals "law"=some (some (.ref f67)))(dd:K.lookup f67=some ⟨oc67,od67,.func (fnOf "law" "law" (cS qC) (cn qC) (ax qC) .none kV67 dc67 pm67 an67 cd67 ct67),sl67⟩)(de:codeIn K cd67 "law"=true)(df:keepIn K (.ref f67)=true)(dg:plainGet K aa Str.empty=true)(dh:hasDictIn K aa=true)(dj:plainOver K aa=true)(dk:findIn K (.ref aa) "__setattr__"=some (some (.builtin "object.__setattr__")))(dl:makesIn K aa=true)(dm:keepIn K (.ref aa)=true)(dn:findIn K (.ref aa) "letters"=some none)(dp:findIn K (.ref aa) "factors"=some none)(dr:findIn K (.ref aa) "remainder"=some none)(ds:plainGet K ab Str.empty=true)(dt:hasDictIn K ab=true)(du:plainOver K ab=true)(dv:findIn K (.ref ab) "__setattr__"=some (some (.builtin "object.__setattr__")))(dw:makesIn K ab=true)(dx:keepIn K (.ref ab)=true)(dy:findIn K (.ref ab) "basis"=some none)(dz:findIn K (.ref ab) "by_number"=some none)(dA:findIn K (.ref ab) "by_entry"=some none)(dB:excIn K ae Zv "ValueError.__new__"=true)(dC:excIn K af Zv "ValueError.__new__"=true)(dD:excIn K ag Zv "ValueError.__new__"=true)(dE:excIn K ah Zv "ValueError.__new__"=true)(dF:excIn K ai Zv "ValueError.__new__"=true)(dG:excIn K aj Zv "ValueError.__new__"=true)(dH:excIn K ak Zv "ValueError.__new__"=true)(dI:exmOne K (.ref al) (.ref al)=some true)(dJ:codeHdIn K ao ap=true)(dK:codeHdIn K aq ar=true)(dL:codeHdIn K as au=true)(dM:Fd K ad [ae,af,ag,ah,ai,aj,ak,al,am,an]=true)(dN:Ė [ae,af,ag,ah,ai,aj,ak,al,am,an]=true){av:Value}(dO:nsIn K mainGlobals "SMALL_LETTERS"=some (some av))(dP:RelV (.str "abcdefghijklmnopqrstuvwxyz") av){aw:Value}(dQ:nsIn K mainGlobals "LONGEST_WORD"=some (some aw))(dR:RelV (.int 20) aw){ay:Value}(dS:nsIn K mainGlobals "MOST_WORDS"=some (some ay))(dT:RelV (.int 60) ay){az:Value}(dU:nsIn K mainGlobals "FEWEST_CAME"=some (some az))(dV:RelV (.int 2) az){aA:Value}(dW:nsIn K mainGlobals "MOST_CAME"=some (some aA))(dX:RelV (.int 1400) aA){aB:Value}(dY:nsIn K mainGlobals "MOST_DOUBTFUL"=some (some aB))(dZ:RelV (.int 2) aB){aC:Value}(ea:nsIn K mainGlobals "MOST_ENTRIES"=some (some aC))(eb:RelV (.int 300) aC){aD:Value}(ec:nsIn K mainGlobals "MOST_PHRASE_WORDS"=some (some aD))(ed:RelV (.int 6) aD){aE:Value}(ee:nsIn K mainGlobals "MOST_PART_LETTERS"=some (some aE))(ef:RelV (.int 6) aE)(eg:nsIn K mainGlobals "isinstance"=some none)(eh:nsIn K mainGlobals "bool"=some none)(ei:nsIn K mainGlobals "int"=some none)(ej:nsIn K mainGlobals "abs"=some none)(ek:nsIn K mainGlobals "all"=some none)(el:nsIn K mainGlobals "zip"=some none)(em:nsIn K mainGlobals "len"=some none)(en:nsIn K mainGlobals "set"=some none)(eo:nsIn K mainGlobals "str"=some none)(ep:nsIn K mainGlobals "list"=some none)(eq:nsIn K mainGlobals "sum"=some none)(er:nsIn K mainGlobals "range"=some none)(es:nsIn K mainGlobals "enumerate"=some none)(et:nsIn K mainGlobals "sorted"=some none)(eu:nsIn K mainGlobals "tuple"=some none)(ev:nsIn K mainGlobals "max"=some none): (∀ p∈[(ap,uc),(ar,si),(au,vU)],∃ c,codeHdIn K c p.1=true)/\∃ fd:FuncData,(∀ (s:Zg) (v:Value),BindsTo s fd ⟨[v],[]⟩ [("_law_script",v)])/\∀ base:Heap,K.In base->base.Ns mainGlobals mg->bF l.prog w K mg base (Á l.prog w) 14 fa fd ["_law_script"] (Bi K ap ar au):=by
 have e:=hfa.symm.trans (bO X G dc);cases e;have T:Bl mg:=⟨dq X G eg,dq X G eh,dq X G ei,dq X G ej,dq X G ek,dq X G el,dq X G em,dq X G en,dq X G eo,dq X G ep,dq X G eq,dq X G er,dq X G es,dq X G et,dq X G eu,dq X G ev⟩;have AF:Ç K mg ⟨aa,ab,ad,ae,af,ag,ah,ai,aj,ak,al,am,an,ao,ap,aq,ar,as,au,()⟩:=⟨bO X G y0,bO X G y1,bO X G y2,bO X G y3,bO X G y4,bO X G y5,bO X G y6,bO X G y7,bO X G y8,bO X G y9,bO X G bN,bO X G bP,bO X G bQ,⟨dg,dh,dj,dk⟩,dn,dp,dr,⟨ds,dt,du,dv⟩,dy,dz,dA,dB,dC,dD,dE,dF,dG,dH,dI,dJ,dK,dL,dM,dN,⟨_,bO X G dO,dP⟩,⟨_,bO X G dQ,dR⟩,⟨_,bO X G dS,dT⟩,⟨_,bO X G dU,dV⟩,⟨_,bO X G dW,dX⟩,⟨_,bO X G dY,dZ⟩,⟨_,bO X G ea,eb⟩,⟨_,bO X G ec,ed⟩,⟨_,bO X G ee,ef⟩⟩;have F11:=mE (st:=gG) bU bV bW;have F39:=mE (st:=gF) cr cs ct;have F41:=Ip (st:=di) cx cz cA;have F46:=mE (st:=kW) cG cH cJ;have F48:=mE (st:=fe) cM cN cO;have F50:=mE (st:=fc) cT cU cV;have F67:=mE (st:=qC) dd de df;refine⟨ib.mpr ⟨⟨_,dJ⟩,ib.mpr ⟨⟨_,dK⟩,ib.mpr ⟨⟨_,dL⟩,fun _ h=>nomatch h⟩⟩⟩,fnOf "law" "law" (cS qC) (cn qC) (ax qC) .none kV67 dc67 pm67 an67 cd67 ct67,fun s v=>.of_eq rfl,fun base _ _=>?_⟩;have Z {k:Nat}{x:Str}{st:Stmt}{ps:Ze}{sp:Sp}{CX:L2.Ï}:=@cR.fnc l.prog w K h base mg k x st ps sp CX X G;have Y {k:Nat}{m q:Str}{st:Stmt}{C:Addr}{ps:Ze}{sp:Sp}:=@oY.mtd l.prog w K base mg k m q st C ps sp;have aF:=Z d0 (fun _ _ F=>yV F T AF ) ∅;have aG:=Z d1 (fun _ _ F=>qu F T AF ) ∅;have aH:=Z d3 (fun _ _ F=>uw F T AF ) ∅;have aI:=Z d6 (fun _ _ F=>AI F T AF ) ∅;have aJ:=Z d7 (fun _ _ F=>xu F T AF ) ∅;have aK:=Z d8 (fun _ _ F=>AJ F T AF ) ∅;have aL:=Z d9 (fun _ _ F=>yO F T AF ) ∅;have aM:=Y AF.c_Code bX (fun _ _ F=>rK F T AF ) ∅;have aN:=Y AF.c_Code bY (fun _ _ F=>sM F T AF ) ∅;have aO:=Y AF.c_Code bZ (fun _ _ F=>xk F T AF ) ∅;have aP:=Z b3 (fun _ _ F=>ur F T AF ) ∅;have aQ:=Z b6 (fun _ _ F=>xo F T AF ) ∅;have aR:=Z ch (fun _ _ F=>AK F T AF ) ∅;have aS:=Z ci (fun _ _ F=>sQ F T AF ) ∅;have b39:=F39.binds (ps:=["self","code"]) ∅;have aT:ü l.prog w K mg base (Á l.prog w) ab "Book" 1 ["self","code"] (mh (⟨aa,ab,ad,ae,af,ag,ah,ai,aj,ak,al,am,an,ao,ap,aq,ar,as,au,()⟩:Ë)):=⟨⟨f39,_,xi F39 T AF ,⟨dw,cp,cq,dx⟩,b39⟩,AF.g_Book⟩;have aU:=Y AF.c_Book cu (fun _ _ F=>xh F T AF ) ∅;have b46:=F46.binds (ps:=["many","longest","step"]) ∅;have aV:B4 l.prog w K mg base (Á l.prog w) 2 "fewest" ["many","longest","step"] oE:=⟨f46,_,fun k=>DW (k:=k) F46 T AF ,bO X G cF,cJ,b46⟩;have aW:=Z cX (fun _ _ F=>ux F T AF ) ∅;have aX:=Z cY (fun _ _ F=>xt F T AF ) ∅;have aY:=Z cZ (fun _ _ F=>uy F T AF ) ∅;have aZ:=Z c0 (fun _ _ F=>sR F T AF ) ∅;have a0:=Z c8 (fun _ _ F=>oP F T AF ) ∅;have a1:=Z d2 (fun _ _ F=>yP F T AF aG) ∅;have a2:=Z d4 (fun _ _ F=>yS F T AF aF) ∅;have a3:=Z bR (fun _ _ F=>AG F T AF aL aJ aI) ∅;have a4:=Z b4 (fun _ _ F=>xm F T AF aP) ∅;have a5:=Z b8 (fun _ _ F=>sP F T AF aO) ∅;have a6:=Z cc (fun _ _ F=>sN F T AF aI aM aN) ∅;have a7:=Z cg (fun _ _ F=>xp F T AF aM) ∅;have a8:=Y AF.c_Book cC (fun _ _ F=>pB F T AF aO) ∅;have a9:=Z c1 (fun _ _ F=>uA F T AF aY) ∅;have ba:=Z c3 (fun _ _ F=>qw F T AF aX) ∅;have bb:=Z c4 (fun _ _ F=>xq F T AF aX) ∅;have bc:=Z c7 (fun _ _ F=>yZ F T AF aX aW) ∅;have bd:=Z c9 (fun _ _ F=>yW F T AF a0) ∅;have be:=Z da (fun _ _ F=>vq F T AF aW aX) ∅;have bf:=Z d5 (fun _ _ F=>uu F T AF a2) ∅;have bg:=Y AF.c_Code b0 (fun _ _ F=>xl F T AF aK aL a2 aO) ∅;have bh:=Y AF.c_Code b2 (fun _ _ F=>rL F T AF a3) ∅;have bi:=Z b5 (fun _ _ F=>AH F T AF a4) ∅;have bj:=Z cj (fun _ _ F=>uv F T AF aR a7) ∅;have bk:=Z co (fun _ _ F=>yT F T AF aP a4) ∅;have bl:=Y AF.c_Book cD (fun _ _ F=>vo F T AF a2 aO) ∅;have bm:=Z c2 (fun _ _ F=>yX F T AF aW a9 aZ) ∅;have bn:=Z c5 (fun _ _ F=>uz F T AF aX aW bb ba) ∅;have b11:=F11.binds (ps:=["self","alphabet","weights","rest"]) ∅;have bo:ü l.prog w K mg base (Á l.prog w) aa "Code" 4 ["self","alphabet","weights","rest"] (fS (⟨aa,ab,ad,ae,af,ag,ah,ai,aj,ak,al,am,an,ao,ap,aq,ar,as,au,()⟩:Ë)):=⟨⟨f11,_,xj F11 T AF a1 a2 bf aH,⟨dl,bS,bT,dm⟩,b11⟩,AF.g_Code⟩;have bp:=Y AF.c_Code b1 (fun _ _ F=>uq F T AF aJ bh) ∅;have bq:=Z b7 (fun _ _ F=>II F T AF aQ bl) ∅;have br:=Z b9 (fun _ _ F=>yQ F T AF a5 bg) ∅;have bs:=Z ck (fun _ _ F=>sO F T AF bj) ∅;have bt:=Y AF.c_Book cB (fun _ _ F=>um F T AF a2 bk a8 aO) ∅;have bu:=Y AF.c_Book cE (fun _ _ F=>uo F T AF bk) ∅;have bv:=Z ca (fun _ _ F=>zb F T AF br bq bg aU) ∅;have bw:=Z cb (fun _ _ F=>yU F T AF bl bp bh aU) ∅;have bx:=Z ce (fun _ _ F=>AL F T AF bq a5 aU) ∅;have bz:=Z cl (fun _ _ F=>AE F T AF bs aS) ∅;have b41:Binds K (fnOf "put" "Book.put" (cS di) (cn di) (ax di) (.ref dt41) kV41 dc41 pm41 an41 (.ref ao) ct41) ["self","entry","number"] []:=fun s us hK hl=>by rcases us with _ | ⟨_,_ | ⟨_,_ | ⟨_,_ | _⟩⟩⟩<;>first | (simp at hl;done) | exact .of_defaults rfl (hK _ _ cy) rfl rfl rfl
 have bd41:Binds K (fnOf "put" "Book.put" (cS di) (cn di) (ax di) (.ref dt41) kV41 dc41 pm41 an41 (.ref ao) ct41) ["self","entry","number"] [.none]:=fun s us hK hl=>by rcases us with _ | ⟨_,_ | ⟨_,_ | _⟩⟩<;>first | (simp at hl;done) | exact .of_defaults rfl (hK _ _ cy) rfl rfl rfl
 have bA:Ð l.prog w K mg base (Á l.prog w) ab "put" 5 ["self","entry","number"] (iF (⟨aa,ab,ad,ae,af,ag,ah,ai,aj,ak,al,am,an,ao,ap,aq,ar,as,au,()⟩:Ë)):=⟨⟨f41,_,sq F41 T AF rfl bt,⟨cv,cw,cA⟩,b41⟩,AF.c_Book⟩;have bB:MP l.prog w K mg base (Á l.prog w) ab "put" 5 ["self","entry","number"] (iF (⟨aa,ab,ad,ae,af,ag,ah,ai,aj,ak,al,am,an,ao,ap,aq,ar,as,au,()⟩:Ë)):=⟨⟨f41,_,sq F41 T AF rfl bt,⟨cv,cw,cA⟩,bd41⟩,AF.c_Book⟩;have bC:=Z cK (fun _ _ F=>vt F T AF bu) ∅;have bD:=Z cd (fun _ _ F=>yR F T AF bw a6 aU) ∅;have bE:=Z cm (fun _ _ F=>vp F T AF bw bs aS aU) ∅;have bG:=Z c6 (fun _ _ F=>yY F T AF bA aT bo) ∅;have bH:=Z db (fun _ _ F=>m8 F T AF bz bd bo) ∅;have bI:=Z cf (fun _ _ F=>za F T AF bx bD bh bp aU) ∅;have b48:=F48.binds (ps:=["book","word"]) ∅;have bJ:Ä l.prog w K mg base (Á l.prog w) 8 "spelling_of" ["book","word"] (hX (⟨aa,ab,ad,ae,af,ag,ah,ai,aj,ak,al,am,an,ao,ap,aq,ar,as,au,()⟩:Ë)):=⟨f48,_,uC F48 T AF rfl aV bC,bO X G cL,cO,b48⟩;have bK:=Z cP (fun _ _ F=>xv F T AF bJ bC) ∅;have b50:=F50.binds (ps:=["book","text"]) ∅;have bL:Ä l.prog w K mg base (Á l.prog w) 12 "settings_of" ["book","text"] (hV (⟨aa,ab,ad,ae,af,ag,ah,ai,aj,ak,al,am,an,ao,ap,aq,ar,as,au,()⟩:Ë)):=⟨f50,_,uB F50 T AF rfl aV bK bi,bO X G cQ,cV,b50⟩;have bM:=Z cW (fun _ _ F=>vv F T AF bL) ∅;exact KL F67 T AF bI bH bE be bv bM bc aW bG bn bm
end Kb
open PySem PySem.W PyProof.Rows
local macro_rules|`(tactic| ac_rfl) => `(tactic| first|(refine' L2.HS ?a ?l ?c ?k; (case a => k_is); (case l => k_is); (case c => k_is); (case k => k_is))|(refine' L2.HU ?a ?i ?l ?c ?k; (case a => k_is); (case i => k_is); (case l => k_is); (case c => k_is); (case k => k_is)))
set_option maxRecDepth 100000 in
set_option maxHeartbeats 0 in
theorem Hk.MK:Hk.top.c:=by
 delta Hk.top
 dsimp only
 k_fill
 refine L2.Ey (l:=PySem.Challenge.rw_cablehouse_k51_whole_asked_again) (n:=63) (k:=14) (x:="_law_script") (CX:=fun w=>L2.Á PySem.Challenge.rw_cablehouse_k51_whole_asked_again.prog w) (sp:=fun w=>Kb.Bi _ _ _ _) [(_,Kb.uc),(_,Kb.si),(_,Kb.vU)] rfl Zd rfl ⟨rfl,Zd,Zd⟩ (by nofun) (fun w h Y=>⟨km_in_of Y,ib.mpr ⟨km_tabs_of Y _ (.head _),ib.mpr ⟨km_tabs_of Y _ (.tail _ (.head _)),ib.mpr ⟨km_tabs_of Y _ (.tail _ (.tail _ (.head _))),fun _ h=>nomatch h⟩⟩⟩⟩) ?F (fun w=>ib.mpr ⟨by ext,ib.mpr ⟨by ext,ib.mpr ⟨by ext,fun _ h=>nomatch h⟩⟩⟩) (fun _ _ a ns hl hS hT=>⟨a,ns,rfl,hS,hl,hT _ (.head _),hT _ (.tail _ (.head _)),hT _ (.tail _ (.tail _ (.head _))),fun _=>rfl⟩) fun _ _ _ _ _ z=>L2.vH z
 case F =>
  intro w mg fa h KX G hmg;refine' Kb.all_mk KX G hmg ?y0 ?y1 ?y2 ?y3 ?y4 ?y5 ?y6 ?y7 ?y8 ?y9 ?bN ?bP ?bQ ?d0 ?d1 ?d2 ?d3 ?d4 ?d5 ?d6 ?d7 ?d8 ?d9 ?bR ?bS ?bT ?bU ?bV ?bW ?bX ?bY ?bZ ?b0 ?b1 ?b2 ?b3 ?b4 ?b5 ?b6 ?b7 ?b8 ?b9 ?ca ?cb ?cc ?cd ?ce ?cf ?cg ?ch ?ci ?cj ?ck ?cl ?cm ?co ?cp ?cq ?cr ?cs ?ct ?cu ?cv ?cw ?cx ?cy ?cz ?cA ?cB ?cC ?cD ?cE ?cF ?cG ?cH ?cJ ?cK ?cL ?cM ?cN ?cO ?cP ?cQ ?cT ?cU ?cV ?cW ?cX ?cY ?cZ ?c0 ?c1 ?c2 ?c3 ?c4 ?c5 ?c6 ?c7 ?c8 ?c9 ?da ?db ?dc ?dd ?de ?df ?dg ?dh ?dj ?dk ?dl ?dm ?dn ?dp ?dr ?ds ?dt ?du ?dv ?dw ?dx ?dy ?dz ?dA ?dB ?dC ?dD ?dE ?dF ?dG ?dH ?dI ?dJ ?dK ?dL ?dM ?dN ?dO ?dP ?dQ ?dR ?dS ?dT ?dU ?dV ?dW ?dX ?dY ?dZ ?ea ?eb ?ec ?ed ?ee ?ef ?eg ?eh ?ei ?ej ?ek ?el ?em ?en ?eo ?ep ?eq ?er ?es ?et ?eu ?ev
  (case y0|y1|y2|y3|y4|y5|y6|y7|y8|y9|bN|bP|bQ=>k_is)
  (case d0|d1|d2|d3|d4|d5|d6|d7|d8|d9|bR=>ac_rfl)
  (case bS|bT|bU|bV|bW=>k_is)
  (case bX|bY|bZ|b0|b1|b2|b3|b4|b5|b6|b7|b8|b9|ca|cb|cc|cd|ce|cf|cg|ch|ci|cj|ck|cl|cm|co=>ac_rfl)
  (case cp|cq|cr|cs|ct=>k_is)
  (case cu=>ac_rfl)
  (case cv|cw|cx|cy|cz|cA=>k_is)
  (case cB|cC|cD|cE=>ac_rfl)
  (case cF|cG|cH|cJ=>k_is)
  (case cK=>ac_rfl)
  (case cL|cM|cN|cO=>k_is)
  (case cP=>ac_rfl)
  (case cQ|cT|cU|cV=>k_is)
  (case cW|cX|cY|cZ|c0|c1|c2|c3|c4|c5|c6|c7|c8|c9|da|db=>ac_rfl)
  (case dc|dd|de|df|dg|dh|dj|dk|dl|dm|dn|dp|dr|ds|dt|du|dv|dw|dx|dy|dz|dA=>k_is)
  (case dB|dC|dD|dE|dF|dG|dH|dI|dJ|dK|dL|dM|dN=>ext)
  (case dO|dP|dQ|dR|dS|dT|dU|dV|dW|dX|dY|dZ|ea|eb|ec|ed|ee|ef=>first|exact⟨_,rfl⟩|k_is)
  (case eg|eh|ei|ej|ek|el|em|en|eo|ep|eq|er|es|et|eu|ev=>k_is)
theorem PySem.Challenge.cw_cablehouse_k51_whole_asked_again_holds : PySem.Challenge.rw_cablehouse_k51_whole_asked_again.Holds :=
 Hk.top.go Hk.M9 Hk.MA Hk.MB Hk.MC Hk.MD Hk.ME Hk.MF Hk.MG Hk.MH Hk.MI Hk.MJ Hk.ML Hk.MM Hk.MN Hk.MK
