import PyProof.Rows.All
import Wide.All
import OpenK.AllK
import Wide.FinOn
import Lean
import PyProof.EqAt
import PyProof.EqKinds
import PyProof.TupleCall
import PySem.Challenge.RW_cablehouse_k38_books_of_editions
set_option Elab.async false
set_option linter.all false
set_option maxRecDepth 100000
local macro_rules | `(tactic| left) => `(tactic| first | assumption | lia | omega)
local macro_rules | `(tactic| nofun) => `(tactic| decide +kernel)
local macro_rules | `(tactic| ext) => `(tactic| kernel_rfl)
abbrev Zq:=PySem.Value->PySem.Shared->Prop
abbrev Zf:=PySem.W.Frag
abbrev Zp:=List (PySem.Addr×PySem.Obj)
theorem Zd {p:Prop}[Decidable p] (h:decide p=true:=by rfl):p:=of_decide_eq_true h
abbrev Zk:=PySem.Str->Option PySem.Value
abbrev Za:=List Nat
abbrev Zb:=List Int
abbrev Zc:=List PySem.Value
abbrev Ze:=List PySem.Str
abbrev Zg:=PySem.Shared
abbrev Zh:=PySem.Program
abbrev Zi:=PySem.World
namespace Hd
open PySem PySem.W PyProof.Rows
theorem Mh {b1 b2 b3 a:Prop} (main:a) (hl:b1) (hw:b2) (hc:b3):a:=main
structure LQ (r:Prop) where
  l1:Prop
  l2:Prop
  l3:Prop
  l4:Prop
  l5:Prop
  l6:Prop
  l7:Prop
  l8:Prop
  l9:Prop
  h:Prop
  c:Prop
  go:l1->l2->l3->l4->l5->l6->l7->l8->l9->h->c->r
theorem two {σ α β γ:Type}{x:Zi->OsState->Option σ}{as:List α}{f:σ->α->β}{h:σ->γ}{g:Zi->List β}{e:Zi->γ} (n:Nat)
    (h1:∀ w os,(x w os).map (fun s=>(as.take n).map (f s))=some ((g w).take n)) (h2:∀ w os,(x w os).map (fun s=>((as.drop n).map (f s),h s))=some ((g w).drop n,e w)):∀ w os,(x w os).map (fun s=>(as.map (f s),h s))=some (g w,e w):=fun w os=>by
  obtain⟨s,e0,e1⟩:=Option.map_eq_some_iff.mp (h1 w os);have e2:=h2 w os;rw[e0] at e2 ⊢;have e2:=Option.some.inj e2;simp only[Prod.mk.injEq] at e2;refine congrArg some (Prod.ext ?_ e2.2);show as.map (f s)=g w;rw[←List.take_append_drop n as,List.map_append,e1,e2.1,List.take_append_drop]
def tree:List Obj->Nat->BT->BT
  | [],_,t=>t
  | o::l,n,t=>tree l (n+1) (t.ins n o)
def goT (st:SharedT->Thread->Option (SharedT×Thread)) (ok:Thread->Bool):Nat->SharedT->Thread->Option SharedT
  | 0,_,_=>none
  | n+1,s,t=>match through t with
    | true=>some s
    | false=>match ok t with
      | false=>none
      | true=>match st s t with
        | some (s',t')=>goT st ok n s' t'
        | none=>none
theorem Fp {tb:String->Option Builtin}{p:Zh}{w:Zi}{n₀:Nat}{ann:Option Value}:∀ {n:Nat}{s s':SharedT}{t:Thread},goT (stepT (denote tb) p w) (stepOk n₀ ann) n s t=some s'->topRun tb p w n₀ ann n s.abs t=some s'.abs
  | 0,_,_,_,h=>nomatch h
  | n+1,s,s',t,h=>by
    unfold goT at h;unfold topRun;cases ht:through t with
    | true=>rw[ht] at h;cases h;rfl
    | false =>
      rw[ht] at h;cases hk:stepOk n₀ ann t with
      | false=>rw[hk] at h;cases h
      | true =>
        rw[hk] at h;cases hs:stepT (denote tb) p w s t with
        | none=>rw[hs] at h;cases h
        | some r=>obtain⟨s₂,t₂⟩:=r;rw[hs] at h;rw[stepT_spec hs];exact Fp h
noncomputable def boot (w:Zi) (os:OsState):SharedT:=⟨tree (boot_heap w.params).objs.toList 0 .nil,(boot_heap w.params).objs.size,(boot_heap w.params).life,#[],boot_drawn,boot_toks,os⟩
noncomputable def ran (p:Zh) (N:Nat) (w:Zi) (os:OsState):Option SharedT:=goT (stepT (denote treeTable) p w) (stepOk 11 (some (.ref 6))) N (boot w os) (topStub p)
theorem Cp (P:Params):absHeap (tree (boot_heap P).objs.toList 0 .nil) (boot_heap P).objs.size (boot_heap P).life=boot_heap P:=by ext
theorem Co (P:Params):((boot_heap P).isNs mainGlobals,(boot_heap P).objs.size,(boot_heap P).nsMap mainGlobals "__annotations__")=(true,11,some (.ref 6)):=by ext
theorem six {σ α β γ δ ε ζ η θ ι:Type}{x:Zi->OsState->Option σ}{f1:σ->α}{f2:σ->β}{f3:σ->γ}{f4:σ->δ}{f5:σ->ε}{f6:σ->ζ}{f7:σ->η}{f8:σ->θ}{f9:σ->ι}{g1:α}{g2:β}{g3:γ}{g4:δ}{g5:ε}{g6:ζ}{g7:η}{g8:θ}{g9:ι}
    (h1:∀ w os,(x w os).map (fun s=>f1 s)=some g1) (h2:∀ w os,(x w os).map (fun s=>(f2 s,f3 s))=some (g2,g3)) (h3:∀ w os,(x w os).map (fun s=>(f4 s,f5 s))=some (g4,g5)) (h4:∀ w os,(x w os).map (fun s=>f6 s)=some g6)
    (h5:∀ w os,(x w os).map (fun s=>(f7 s,f8 s))=some (g7,g8)) (h6:∀ w os,(x w os).map (fun s=>f9 s)=some g9):∀ w os,(x w os).map (fun s=>(f1 s,f2 s,f3 s,f4 s,f5 s,f6 s,f7 s,f8 s,f9 s))=some (g1,g2,g3,g4,g5,g6,g7,g8,g9):=fun w os=>by
  obtain⟨s,e,e1⟩:=Option.map_eq_some_iff.mp (h1 w os);have e2:=h2 w os;have e3:=h3 w os;have e4:=h4 w os;have e5:=h5 w os;have e6:=h6 w os;rw[e] at e2 e3 e4 e5 e6 ⊢;have e2:=Option.some.inj e2;have e3:=Option.some.inj e3;have e4:=Option.some.inj e4;have e5:=Option.some.inj e5;have e6:=Option.some.inj e6;simp only[Prod.mk.injEq] at e2 e3 e5;exact congrArg some (Prod.ext e1 (Prod.ext e2.1 (Prod.ext e2.2 (Prod.ext e3.1 (Prod.ext e3.2 (Prod.ext e4 (Prod.ext e5.1 (Prod.ext e5.2 e6))))))))
theorem left {p q:Zh}{loose:Ze}{Xt:Zg->Bool}{α:Type}{Yf:Zg->α}{Ya:Zi->α}{N:Nat}{g0:Bool}
    (e:opening p=plainProg p.main.scope.names) (hN:Nat.ble 600 N=true) (f:∀ s,fenceModules? p s=some s)
    (r1:∀ w os,(ran p N w os).map (fun s=>staticsOk (importedModules p.main.body) (boot_heap w.params) s.abs.heap&&namesBound p s.abs.heap&&gensDone s.abs&&laidKept (boot_heap w.params) s.abs.heap)=some true)
    (r2:∀ w os,(ran p N w os).map (fun s=>openSeen q loose (importedModules p.main.body) Xt g0 s.abs)=some (openGood q loose))
    (r3:∀ w os,(ran p N w os).map (fun s=>Yf s.abs)=some (Ya w)):LeftO p q loose Xt Yf Ya N g0:=fun w=>by
  obtain⟨⟨h,gs,d,k,os⟩,e,e'⟩:=Option.map_eq_some_iff.mp (boot_open e hN f w);obtain⟨rfl,rfl,rfl,rfl⟩:h=boot_heap w.params/\gs=#[]/\d=boot_drawn/\k=boot_toks:=by simpa using e'
  obtain⟨z1,z2,z3⟩:_/\_/\_:=by simpa only[Prod.mk.injEq] using Co w.params
  obtain⟨s',r,l1⟩:=Option.map_eq_some_iff.mp (r1 w os);have l2:=r2 w os;have l3:=r3 w os;rw[r] at l2 l3;have l2:=Option.some.inj l2;have l3:=Option.some.inj l3;unfold ran at r;have r:=Fp r;have hB:(boot w os).abs=⟨boot_heap w.params,#[],boot_drawn,boot_toks,os⟩:=by unfold boot SharedT.abs;rw[Cp]
  rw[hB] at r;have t:topFrom treeTable p w N ⟨boot_heap w.params,#[],boot_drawn,boot_toks,os⟩=some s'.abs:=by unfold topFrom;dsimp only;rw[z1,z2,z3,r];show (match staticsOk (importedModules p.main.body) (boot_heap w.params) s'.abs.heap&&namesBound p s'.abs.heap&&gensDone s'.abs&&laidKept (boot_heap w.params) s'.abs.heap with | true=>_ | false=>_)=_;rw[l1]
  unfold openEnds;rw[e];show (topFrom treeTable p w N _).map _=_;rw[t];exact congrArg some (Prod.ext l2 l3)
theorem mh:@ran=fun p N w os=>goT (PySem.W.Fast.tw10156331382660048174 (denote PySem.W.Fast.tw14364793385576792824) p w) (PySem.W.Fast.tw6613529449190102663 11 (some (.ref 6))) N (boot w os) (topStub p):=by unfold ran;rw[PySem.W.Fast.te10156331382660048174,PySem.W.Fast.te6613529449190102663,PySem.W.Fast.te14364793385576792824]
end Hd
section
open PySem PySem.W PyProof.Rows
set_option maxHeartbeats 0
noncomputable def Hk.top:Hd.LQ PySem.Challenge.rw_cablehouse_k38_books_of_editions.Holds:=by
  apply Hd.LQ.mk
  case go =>
    intro x1 x2 x3 x4 x5 x6 x7 x8 x9 y z
    w_on;refine PySem.W.holds_law (by ext) fun said=>?_
    apply Hd.Mh
    case main=>k_head
    case hl=>exact Hd.left (by ext) Zd (fun _=>by ext) x1 (Hd.six x2 x4 x5 x6 x7 x8) (Hd.two 180 x3 x9)
    case hw=>exact y
    case hc=>exact z
theorem Hk.MH:Hk.top.l1:=by
  delta Hk.top
  dsimp only;intro w os;rw[Hd.mh]
  ext
theorem Hk.MI:Hk.top.l2:=by
  delta Hk.top
  dsimp only;intro w os;rw[Hd.mh]
  ext
theorem Hk.MJ:Hk.top.l3:=by
  delta Hk.top
  dsimp only;intro w os;rw[Hd.mh]
  ext
theorem Hk.MK:Hk.top.l4:=by
  delta Hk.top
  dsimp only;intro w os;rw[Hd.mh]
  ext
theorem Hk.ML:Hk.top.l5:=by
  delta Hk.top
  dsimp only;intro w os;rw[Hd.mh]
  ext
theorem Hk.MM:Hk.top.l6:=by
  delta Hk.top
  dsimp only;intro w os;rw[Hd.mh]
  ext
theorem Hk.MN:Hk.top.l7:=by
  delta Hk.top
  dsimp only;intro w os;rw[Hd.mh]
  ext
theorem Hk.MO:Hk.top.l8:=by
  delta Hk.top
  dsimp only;intro w os;rw[Hd.mh]
  ext
theorem Hk.MP:Hk.top.l9:=by
  delta Hk.top
  dsimp only;intro w os;rw[Hd.mh]
  ext
theorem Hk.MR:Hk.top.h:=by
  delta Hk.top
  dsimp only
  w_witness2
end
theorem xO:type_of%@Array.getElem?_eq_none:=@Array.getElem?_eq_none
theorem oJ:type_of%@Array.getElem?_toList:=@Array.getElem?_toList
theorem jq:type_of%@Array.length_toList:=@Array.length_toList
theorem cm:type_of%@Bool.and_eq_true:=@Bool.and_eq_true
theorem mz:type_of%@Bool.eq_iff_iff:=@Bool.eq_iff_iff
theorem jr:type_of%@Bool.false_and:=@Bool.false_and
theorem m4:type_of%@Bool.false_eq_true:=@Bool.false_eq_true
theorem bO:type_of%@Bool.false_ne_true:=@Bool.false_ne_true
theorem dQ:type_of%@Bool.true_and:=@Bool.true_and
theorem oK:type_of%@PySem.Calls.spliced_cons:=@PySem.Calls.spliced_cons
theorem kl:type_of%@PySem.F.called_set:=@PySem.F.called_set
theorem oM:type_of%@PySem.F.entry_str_split:=@PySem.F.entry_str_split
theorem rB:type_of%@PySem.F.slot_dict_keyiterator_next:=@PySem.F.slot_dict_keyiterator_next
theorem kZ:type_of%@PySem.F.slot_str_split:=@PySem.F.slot_str_split
theorem aL:type_of%@PySem.Heap.get?_push_of_some:=@PySem.Heap.get?_push_of_some
theorem bj:type_of%@PySem.Heap.get?_push_size:=@PySem.Heap.get?_push_size
theorem gZ:type_of%@PySem.Heap.get?_update_other:=@PySem.Heap.get?_update_other
theorem lb:type_of%@PySem.Heap.get?_update_self:=@PySem.Heap.get?_update_self
theorem aM:type_of%@PySem.Heap.lt_size:=@PySem.Heap.lt_size
theorem hO:type_of%@PySem.Heap.size_push:=@PySem.Heap.size_push
theorem eM:type_of%@Int.emod_lt_of_pos:=@Int.emod_lt_of_pos
theorem dC:type_of%@Int.emod_nonneg:=@Int.emod_nonneg
theorem jI:type_of%@Int.eq_ofNat_of_zero_le:=@Int.eq_ofNat_of_zero_le
theorem iH:type_of%@Int.le_of_lt:=@Int.le_of_lt
theorem lj:type_of%@Int.le_refl:=@Int.le_refl
theorem qO:type_of%@Int.mul_ediv_add_emod:=@Int.mul_ediv_add_emod
theorem nI:type_of%@Int.toNat_natCast:=@Int.toNat_natCast
theorem lq:type_of%@Int.toNat_of_nonneg:=@Int.toNat_of_nonneg
theorem lr:type_of%@List.Nodup.sublist:=@List.Nodup.sublist
theorem lu:type_of%@List.Sublist.map:=@List.Sublist.map
theorem jJ:type_of%@List.all_cons:=@List.all_cons
theorem bP:type_of%@List.all_eq_true:=@List.all_eq_true
theorem fY:type_of%@List.all_map:=@List.all_map
theorem nJ:type_of%@List.any_cons:=@List.any_cons
theorem nK:type_of%@List.append_assoc:=@List.append_assoc
theorem jK:type_of%@List.append_nil:=@List.append_nil
theorem fZ:type_of%@List.cons_append:=@List.cons_append
theorem nL:type_of%@List.drop_eq_getElem_cons:=@List.drop_eq_getElem_cons
theorem nM:type_of%@List.filterMap_cons:=@List.filterMap_cons
theorem qP:type_of%@List.filter_append:=@List.filter_append
theorem lx:type_of%@List.filter_cons_of_neg:=@List.filter_cons_of_neg
theorem ly:type_of%@List.filter_cons_of_pos:=@List.filter_cons_of_pos
theorem nN:type_of%@List.filter_eq_nil_iff:=@List.filter_eq_nil_iff
theorem nO:type_of%@List.filter_eq_self:=@List.filter_eq_self
theorem nQ:type_of%@List.filter_map:=@List.filter_map
theorem lz:type_of%@List.filter_sublist:=@List.filter_sublist
theorem iI:type_of%@List.find?_cons:=@List.find?_cons
theorem nR:type_of%@List.flatten_cons:=@List.flatten_cons
theorem lA:type_of%@List.forall_mem_cons:=@List.forall_mem_cons
theorem cp:type_of%@List.getD_eq_getElem?_getD:=@List.getD_eq_getElem?_getD
theorem gb:type_of%@List.getElem?_append_left:=@List.getElem?_append_left
theorem gc:type_of%@List.getElem?_append_right:=@List.getElem?_append_right
theorem qQ:type_of%@List.getElem?_drop:=@List.getElem?_drop
theorem b9:type_of%@List.getElem?_eq_getElem:=@List.getElem?_eq_getElem
theorem lB:type_of%@List.getElem?_eq_none:=@List.getElem?_eq_none
theorem bN:type_of%@List.getElem?_eq_some_iff:=@List.getElem?_eq_some_iff
theorem bt:type_of%@List.getElem?_map:=@List.getElem?_map
theorem qR:type_of%@List.getElem?_range:=@List.getElem?_range
theorem qS:type_of%@List.getElem?_replicate:=@List.getElem?_replicate
theorem qT:type_of%@List.getElem?_set_ne:=@List.getElem?_set_ne
theorem qU:type_of%@List.getElem?_set_self:=@List.getElem?_set_self
theorem nS:type_of%@List.getElem_mem:=@List.getElem_mem
theorem aK:type_of%@List.length_append:=@List.length_append
theorem aN:type_of%@List.length_cons:=@List.length_cons
theorem cR:type_of%@List.length_drop:=@List.length_drop
theorem lC:type_of%@List.length_filter_le:=@List.length_filter_le
theorem ak:type_of%@List.length_map:=@List.length_map
theorem cf:type_of%@List.length_nil:=@List.length_nil
theorem jL:type_of%@List.length_range:=@List.length_range
theorem lD:type_of%@List.length_replicate:=@List.length_replicate
theorem jM:type_of%@List.length_singleton:=@List.length_singleton
theorem fK:type_of%@List.length_take:=@List.length_take
theorem dP:type_of%@List.lookup_cons:=@List.lookup_cons
theorem bL:type_of%@List.map_append:=@List.map_append
theorem nT:type_of%@List.map_congr_left:=@List.map_congr_left
theorem bp:type_of%@List.map_cons:=@List.map_cons
theorem nU:type_of%@List.map_drop:=@List.map_drop
theorem qV:type_of%@List.map_inj_right:=@List.map_inj_right
theorem aX:type_of%@List.map_map:=@List.map_map
theorem bI:type_of%@List.mem_append:=@List.mem_append
theorem nV:type_of%@List.mem_append_left:=@List.mem_append_left
theorem cA:type_of%@List.mem_append_right:=@List.mem_append_right
theorem aJ:type_of%@List.mem_cons:=@List.mem_cons
theorem bD:type_of%@List.mem_cons_of_mem:=@List.mem_cons_of_mem
theorem bq:type_of%@List.mem_cons_self:=@List.mem_cons_self
theorem gd:type_of%@List.mem_filter:=@List.mem_filter
theorem aD:type_of%@List.mem_map:=@List.mem_map
theorem fh:type_of%@List.mem_map_of_mem:=@List.mem_map_of_mem
theorem bw:type_of%@List.mem_of_getElem?:=@List.mem_of_getElem?
theorem qW:type_of%@List.mem_of_mem_take:=@List.mem_of_mem_take
theorem iJ:type_of%@List.mem_range:=@List.mem_range
theorem bA:type_of%@List.mem_singleton:=@List.mem_singleton
theorem gf:type_of%@List.nil_append:=@List.nil_append
theorem df:type_of%@List.nodup_cons:=@List.nodup_cons
theorem dh:type_of%@List.not_mem_nil:=@List.not_mem_nil
theorem iK:type_of%@List.of_mem_zip:=@List.of_mem_zip
theorem qX:type_of%@List.pairwise_append:=@List.pairwise_append
theorem qY:type_of%@List.pairwise_cons:=@List.pairwise_cons
theorem nW:type_of%@List.replicate_succ:=@List.replicate_succ
theorem aZ:type_of%@List.size_toArray:=@List.size_toArray
theorem iL:type_of%@List.sum_cons:=@List.sum_cons
theorem hV:type_of%@List.take_add_one:=@List.take_add_one
theorem di:type_of%@List.take_of_length_le:=@List.take_of_length_le
theorem qZ:type_of%@List.take_succ_cons:=@List.take_succ_cons
theorem jN:type_of%@List.take_zero:=@List.take_zero
theorem aT:type_of%@Nat.le_of_lt:=@Nat.le_of_lt
theorem aq:type_of%@Nat.le_refl:=@Nat.le_refl
theorem jO:type_of%@Nat.le_succ:=@Nat.le_succ
theorem bQ:type_of%@Nat.le_trans:=@Nat.le_trans
theorem iM:type_of%@Nat.lt_irrefl:=@Nat.lt_irrefl
theorem fi:type_of%@Nat.lt_of_le_of_lt:=@Nat.lt_of_le_of_lt
theorem bE:type_of%@Nat.lt_of_lt_of_le:=@Nat.lt_of_lt_of_le
theorem rg:type_of%@Nat.lt_succ_iff_lt_or_eq:=@Nat.lt_succ_iff_lt_or_eq
theorem fj:type_of%@Nat.lt_succ_of_lt:=@Nat.lt_succ_of_lt
theorem jP:type_of%@Nat.lt_succ_self:=@Nat.lt_succ_self
theorem iN:type_of%@Nat.min_eq_left:=@Nat.min_eq_left
theorem lE:type_of%@Nat.min_eq_right:=@Nat.min_eq_right
theorem lF:type_of%@Nat.ne_of_gt:=@Nat.ne_of_gt
theorem bz:type_of%@Nat.ne_of_lt:=@Nat.ne_of_lt
theorem rh:type_of%@Nat.pow_le_pow_left:=@Nat.pow_le_pow_left
theorem nX:type_of%@Nat.pow_le_pow_right:=@Nat.pow_le_pow_right
theorem bH:type_of%@Nat.zero_le:=@Nat.zero_le
theorem cI:type_of%@Ne.symm:=@Ne.symm
theorem nY:type_of%@Option.isSome_iff_exists:=@Option.isSome_iff_exists
theorem gi:type_of%@Option.map_eq_some_iff:=@Option.map_eq_some_iff
theorem nZ:type_of%@Option.map_some:=@Option.map_some
theorem dD:type_of%@PySem.PassesOwn.leaving:=@PySem.PassesOwn.leaving
theorem vn:type_of%@PyProof.Rows.F.plain_set_update_loop:=@PyProof.Rows.F.plain_set_update_loop
theorem ri:type_of%@PyProof.Rows.callWith_type1:=@PyProof.Rows.callWith_type1
theorem cK:type_of%@PySem.F.excBase_ValueError:=@PySem.F.excBase_ValueError
theorem lG:type_of%@PySem.F.plainAttrs_dict:=@PySem.F.plainAttrs_dict
theorem lH:type_of%@PySem.F.plainAttrs_list:=@PySem.F.plainAttrs_list
theorem gj:type_of%@PySem.F.plainAttrs_str:=@PySem.F.plainAttrs_str
theorem rj:type_of%@PySem.F.slot_dict_pop:=@PySem.F.slot_dict_pop
theorem oa:type_of%@PySem.F.slot_list_append:=@PySem.F.slot_list_append
theorem rk:type_of%@PySem.F.slot_str_join:=@PySem.F.slot_str_join
theorem og:type_of%@PySem.F.slot_str_split:=@PySem.F.slot_str_split
theorem rp:type_of%@PySem.F.type_dict_pop:=@PySem.F.type_dict_pop
theorem oh:type_of%@PySem.F.type_list_append:=@PySem.F.type_list_append
theorem rq:type_of%@PySem.F.type_str_join:=@PySem.F.type_str_join
theorem oi:type_of%@PySem.F.type_str_split:=@PySem.F.type_str_split
theorem oj:type_of%@PySem.W.callWith_K:=@PySem.W.callWith_K
theorem rz:type_of%@PySem.W.cellsFrom_some:=@PySem.W.cellsFrom_some
theorem eN:type_of%@PySem.W.kia_one:=@PySem.W.kia_one
theorem oo:type_of%@PySem.W.methodCall_KW:=@PySem.W.methodCall_KW
theorem dj:type_of%@PySem.W.mg_none_of:=@PySem.W.mg_none_of
theorem cg:type_of%@PySem.W.mg_of:=@PySem.W.mg_of
theorem fk:type_of%@PySem.mem_of_lookup:=@PySem.mem_of_lookup
theorem lI:type_of%@beq_eq_false_iff_ne:=@beq_eq_false_iff_ne
theorem lJ:type_of%@beq_false_of_ne:=@beq_false_of_ne
theorem fL:type_of%@beq_iff_eq:=@beq_iff_eq
theorem oq:type_of%@beq_self_eq_true:=@beq_self_eq_true
theorem iO:type_of%@PySem.call_meets:=@PySem.call_meets
theorem lK:type_of%@PySem.codeAny_builtin:=@PySem.codeAny_builtin
theorem gk:type_of%@PySem.codeAny_mono:=@PySem.codeAny_mono
theorem aV:type_of%@congrArg:=@congrArg
theorem iP:type_of%@decide_eq_decide:=@decide_eq_decide
theorem ay:type_of%@decide_eq_false:=@decide_eq_false
theorem ar:type_of%@decide_eq_true:=@decide_eq_true
theorem cj:type_of%@decide_eq_true_eq:=@decide_eq_true_eq
theorem fM:type_of%@if_false:=@if_false
theorem af:type_of%@if_neg:=@if_neg
theorem ai:type_of%@if_pos:=@if_pos
theorem lL:type_of%@of_decide_eq_true:=@of_decide_eq_true
theorem dm:type_of%@or_false:=@or_false
theorem fN:type_of%@PySem.sizeLine_eq:=@PySem.sizeLine_eq
theorem lN:type_of%@PySem.tupleKind_room_in1:=@PySem.tupleKind_room_in1
theorem hX:type_of%@PySem.typeIs_str:=@PySem.typeIs_str
theorem ot:type_of%@PySem.wpAny_Call_Name_kw:=@PySem.wpAny_Call_Name_kw
theorem lO:type_of%@PySem.wpAny_attempt:=@PySem.wpAny_attempt
theorem ag:type_of%@PySem.wpAny_bind:=@PySem.wpAny_bind
theorem hZ:type_of%@PySem.wpAny_call:=@PySem.wpAny_call
theorem ia:type_of%@PySem.wpAny_call_entry:=@PySem.wpAny_call_entry
theorem ou:type_of%@PySem.wpAny_dictEntries:=@PySem.wpAny_dictEntries
theorem jQ:type_of%@PySem.wpAny_execs_nil:=@PySem.wpAny_execs_nil
theorem dR:type_of%@PySem.wpAny_holding:=@PySem.wpAny_holding
theorem bB:type_of%@PySem.wpAny_mono:=@PySem.wpAny_mono
theorem gm:type_of%@PySem.wpAny_newObj_type:=@PySem.wpAny_newObj_type
theorem fo:type_of%@PySem.wpAny_passesOwn:=@PySem.wpAny_passesOwn
theorem a8:type_of%@PySem.wpAny_pure:=@PySem.wpAny_pure
theorem ib:type_of%@PySem.wpAny_truthy_bool:=@PySem.wpAny_truthy_bool
theorem r6:type_of%@PySem.wpAny_typeNameOfWhole_keyiter:=@PySem.wpAny_typeNameOfWhole_keyiter
theorem rA:type_of%@PySem.wpAny_typeNameOf_keyiter:=@PySem.wpAny_typeNameOf_keyiter
set_option Elab.async false
set_option linter.all false
set_option maxRecDepth 100000
namespace L2
open PySem PySem.Spec PyProof.Rows
variable {A:Around}{C:Addr}{E:Zq}{K:Zf}{M:Model}{P:Zh}{Q:Zq}{a:Addr}{b:Addr}{base:Heap}{body:List Stmt}{c:Expr}{ch:List Addr}{d':Drawn}{e:Expr}{es:List Expr}{f:Value->Value->Sem Value}{fp:List Addr}{g':Array GenState}{h:Heap}{i:Nat}{it:Addr}{kw:List (Str×Value)}{mA:Zk}{mg:Zk}{o:Obj}{op:CmpOp}{outer:List Env}{Yp:Zp}{pl:Sem Bool}{pos:Pos}{s:Zg}{scope:Scope}{t':Nat}{tg:Expr}{u:Value}{us:Zc}{w:Zi}{x:Str}
section
abbrev Key:=Sum Int Str
def mK:Key->Value->Bool
 | .inl k,v=>Value.isInt k v
 | .inr x,v=>Value.isStrOf x v
def Nc (w:Zi):Key->Int
 | .inl k=>hashInt k
 | .inr x=>hashStr w x
theorem cP:∀ {k:Key}{v:Value},mK k v=true->(∃ i t,k=Sum.inl i/\v=Value.int i t)∨(∃ x t,k=Sum.inr x/\v=Value.str x t)
 | .inl i,v,h=>by obtain⟨t,e⟩:=Value.isInt_shape (k:=i) (v:=v) h;exact .inl ⟨i,t,rfl,e⟩
 | .inr x,v,h=>by obtain⟨t,e⟩:=Value.isStrOf_shape (x:=x) (v:=v) h;exact .inr ⟨x,t,rfl,e⟩
def Dr (i:Int) (t:Tok):mK (.inl i) (.int i t)=true:=by simp [mK,Value.isInt]
def vQ (x:Str) (t:Tok):mK (.inr x) (.str x t)=true:=by simp [mK,Value.isStrOf]
def KJ (a b:Int):decide ((Sum.inl a:Key)=Sum.inl b)=(a==b):=by
 by_cases e:a=b
 ·subst e;simp
 ·have h:¬ (Sum.inl a:Key)=Sum.inl b:=fun q=>e (Sum.inl.inj q);rw[ay h];exact (lI.mpr e).symm
def KO (a b:Str):decide ((Sum.inr a:Key)=Sum.inr b)=decide (a=b):=by
 by_cases e:a=b
 ·subst e;simp
 ·have h:¬ (Sum.inr a:Key)=Sum.inr b:=fun q=>e (Sum.inr.inj q);rw[ay h,ay e]
def KL (a:Int) (b:Str):decide ((Sum.inl a:Key)=Sum.inr b)=false:=ay (fun q=>nomatch q)
def KN (a:Str) (b:Int):decide ((Sum.inr a:Key)=Sum.inl b)=false:=ay (fun q=>nomatch q)
def bu (prog:Zh) (w:Zi):PySem.KeyKind prog w Key where
 is:=mK
 hash:=Nc w
 inj:=fun v a b ha hb=>by
  rcases cP ha with ⟨i,t,rfl,rfl⟩ | ⟨x,t,rfl,rfl⟩
  ·rcases cP hb with ⟨j,u,rfl,e⟩ | ⟨y,u,rfl,e⟩
   ·injection e with e1 _;rw[e1]
   ·exact nomatch e
  ·rcases cP hb with ⟨j,u,rfl,e⟩ | ⟨y,u,rfl,e⟩
   ·exact nomatch e
   ·injection e with e1 _;rw[e1]
 byValue:=fun k v h=>by rcases cP h with ⟨i,t,rfl,rfl⟩ | ⟨x,t,rfl,rfl⟩<;>rfl
 pyHash:=fun hv h=>by
  rcases cP hv with ⟨i,t,rfl,rfl⟩ | ⟨x,t,rfl,rfl⟩
  ·exact wpAny_pyHash_int h
  ·exact wpAny_pyHash_str h
 eqBool:=fun hu hv h=>by
  rcases cP hu with ⟨i,t,rfl,rfl⟩ | ⟨x,t,rfl,rfl⟩
  ·rcases cP hv with ⟨j,u,rfl,rfl⟩ | ⟨y,u,rfl,rfl⟩
   ·rw[KJ] at h;exact wpAny_eqBool_int h
   ·rw[KL] at h;exact SeqAt.EqAt.int_str i t y u _ _ _ _ h
  ·rcases cP hv with ⟨j,u,rfl,rfl⟩ | ⟨y,u,rfl,rfl⟩
   ·rw[KN] at h;exact SeqAt.EqAt.str_int x t j u _ _ _ _ h
   ·rw[KO] at h;exact wpAny_eqBool_str h
 «strs»:=fun k x t v h=>by
  rcases cP h with ⟨i,u,rfl,e⟩ | ⟨y,u,rfl,e⟩
  ·exact nomatch e
  ·injection e with e1 _
   subst e1;cases v<;>rfl
def yy (prog:Zh) (w:Zi) (i:Int) (t:Tok):(bu prog w).is (.inl i) (.int i t)=true:=Dr i t
def yz (prog:Zh) (w:Zi) (x:Str) (t:Tok):(bu prog w).is (.inr x) (.str x t)=true:=vQ x t
end
section
inductive V where
 | non | bl (b:Bool) | int (i:Int) | str (x:Str) | byt (b:Array UInt8) | flt (b:UInt64) | ref (a:Addr) | ty (n:String)
 deriving DecidableEq
def RelV:V->Value->Prop
 | .non,u=>u=Value.none
 | .bl b,u=>u=Value.bool b
 | .int i,u=>∃ t,u=Value.int i t
 | .str x,u=>∃ t,u=Value.str x t
 | .byt b,u=>∃ t,u=Value.bytes b t
 | .flt b,u=>∃ t,u=Value.float b t
 | .ref a,u=>u=Value.ref a
 | .ty n,u=>u=Value.type n
abbrev Vals:List V->Zc->Prop:=Paired RelV
def Vals.length {xs:List V}{us:Zc} (r:Vals xs us):xs.length=us.length:=Paired.length r
theorem Vals.get:∀ {xs:List V}{us:Zc}{i:Nat}{x:V},Vals xs us->xs[i]?=some x->∃ u,us[i]?=some u/\RelV x u
 | _,_,_,_,.nil,e=>by simp at e
 | _,_,0,_,.cons r _,e=>by simp at e;subst e;exact⟨_,rfl,r⟩
 | _,_,i+1,x,.cons _ t,e=>by obtain⟨u,h1,h2⟩:=Vals.get (i:=i) (x:=x) t (by simpa using e);exact⟨u,by simpa using h1,h2⟩
theorem Vals.set {x:V}{u:Value} (r:RelV x u):∀ {xs:List V}{us:Zc} (i:Nat),Vals xs us->Vals (xs.set i x) (us.set i u)
 | _,_,_,.nil=>.nil
 | _,_,0,.cons _ t=>.cons r t
 | _,_,i+1,.cons q t=>.cons q (Vals.set r i t)
theorem Vals.append:∀ {xs ys:List V}{us ws:Zc},Vals xs us->Vals ys ws->Vals (xs++ys) (us++ws)
 | _,_,_,_,.nil,s=>s
 | _,_,_,_,.cons r t,s=>.cons r (Vals.append t s)
theorem Vals.take:∀ {xs:List V}{us:Zc} (n:Nat),Vals xs us->Vals (xs.take n) (us.take n)
 | _,_,0,_=>.nil
 | _,_,_+1,.nil=>.nil
 | _,_,n+1,.cons r t=>.cons r (Vals.take n t)
theorem Vals.drop:∀ {xs:List V}{us:Zc} (n:Nat),Vals xs us->Vals (xs.drop n) (us.drop n)
 | _,_,0,r=>r
 | _,_,_+1,.nil=>.nil
 | _,_,n+1,.cons _ t=>Vals.drop n t
def ko:Option V->Option Value->Prop
 | some v,some u=>RelV v u
 | none,none=>True
 | _,_=>False
def KV {κ:Type}:List (κ×V)->List (κ×Value)->Prop:=Paired fun (p:κ×V) (q:κ×Value)=>p.1=q.1/\RelV p.2 q.2
def kV:Key->V
 | .inl i=>.int i
 | .inr x=>.str x
inductive HO where
  | lst (xs:List V)
  | tup (xs:List V)
  | dK (kvs:List (Key×V)) | dT (kvs:List (List Key×V))
  | set (S:Int->Bool) (n:Nat)
  | ins (C dx:Addr) (fs:List (Str×V))
  | own (x:Addr)
  | xd (fs:List (Str×V))
  | met (f x:Addr)
  | rng (lo hi:Int)
  | frz (o:Obj) (u:HO)
  | tbl (ps:Array Value)
  | ext (φ:Heap->Prop)
abbrev Hp:=Addr->Option HO
def upd (H:Hp) (a:Addr) (o:HO):Hp:=fun b=>if b=a then some o else H b
def aB {H:Hp}{o:HO}:upd H a o a=some o:=by unfold upd;rw[ai rfl]
def az {H:Hp}{a b:Addr}{o:HO} (h:b≠a):upd H a o b=H b:=by unfold upd;rw[af h]
def bh {H:Hp}{a b:Addr}{o u:HO} (h:H a=some o) (h':H b=some u) (d:o≠u):a≠b:=by intro e;subst e;rw[h] at h';exact d (Option.some.inj h')
def bK {H:Hp}{a b:Addr}{o:HO} (h:H a=some o) (h':H b=none):a≠b:=by intro e;subst e;rw[h] at h';cases h'
section
variable (P:Zh) (w:Zi)
def bT (H:Hp) (h:Heap) (a:Addr):HO->Prop
 | .lst xs=>xs.length<=sizeLine/\∃ (its:Zc) (n:Nat),Vals xs its/\h.get? a=some { cls:=.type "list",data:=.seq its.toArray n }
 | .tup xs=>xs.length<=sizeLine/\∃ its:Zc,Vals xs its/\IsTup h a its.toArray
 | .dK kvs=>kvs.length<=sizeLine/\(a==sysModules)=false/\∃ vs,KV kvs vs/\h.DictOf (bu P w) a vs
 | .dT kvs=>kvs.length<=sizeLine/\(a==sysModules)=false/\∃ xs:List (List Key×Addr×Value),
   Paired (fun (p:List Key×V) (q:List Key×Addr×Value)=>p.1=q.1/\H q.2.1=some (.tup (p.1.map kV))/\RelV p.2 q.2.2) kvs xs ∧
   ∃ o es ep,h.get? a=some o/\o.ExactDict/\o.data=.dict es ep/\es.toList=xs.map (entryOfKey (tupleKind (bu P w)))/\(xs.map (·.1)).Nodup
 | .set S n=>h.SetOf (intKind P w) a S n
 | .ins C dx fs=>H dx=some (.own a)/\fs.length<=1000/\dx≠a/\h.get? a=some (PySem.W.instObj C dx) ∧
   ∃ mA,h.Ns1 dx mA/\(∀ f,ko (fs.lookup f) (mA f))/\PySem.Within mA (fs.map (·.1))
 | .own _=>∃ o,h.get? a=some o
 | .xd fs=>∃ mA,h.Ns1 a mA/\∀ f,ko (fs.lookup f) (mA f)
 | .rng lo hi=>∃ t u v,h.get? a=some { cls:=.type "range",data:=.fields #[.int lo t,.int hi u,.int 1 v] }
 | .frz o u=>h.get? a=some o/\bT H h a u
 | .tbl ps=>∃ qs:Array Value,h.get? a=some { cls:=.none,data:=.fields qs }/\TriplesOk qs.toList/\∀ pos c,codeAmong pos qs.toList=some c->∃ c' oc vs t q,c=.ref c'/\H c'=some (.frz oc (.own a))/\oc.data=.fields vs/\vs[1]?=some (.str q t)/\ps=#[.str q 0]
 | .met f x=>h.get? a=some (PySem.W.methodObj (.ref f) (.ref x))
 | .ext φ=>φ h/\(∃ o,h.get? a=some o)/\∀ h1 h2:Heap,φ h1->(∀ o,h1.get? a=some o->h2.get? a=some o)->φ h2
def HOk (H:Hp) (h:Heap):Prop:=∀ a o,H a=some o->bT P w H h a o
end
section
variable {P:Zh}{w:Zi}{H H':Hp}{h h':Heap}{a:Addr}{o:HO}
def bT.lt (x:bT P w H h a o):a<h.objs.size:=by
 cases o with
 | lst xs=>obtain⟨_,_,_,_,e⟩:=x;exact aM e
 | tup xs=>obtain⟨_,_,_,p⟩:=x;exact p.lt
 | dK kvs=>obtain⟨_,_,_,_,o,_,_,e,_⟩:=x;exact aM e
 | dT kvs=>obtain⟨_,_,_,_,o,_,_,e,_⟩:=x;exact aM e
 | set S n=>obtain⟨o,_,_,_,e,_⟩:=x;exact aM e
 | ins C dx fs=>obtain⟨_,_,_,e,_⟩:=x;exact aM e
 | own y=>obtain⟨_,e⟩:=x;exact aM e
 | xd fs=>obtain⟨_,⟨_,_,_,e,_⟩,_⟩:=x;exact aM e
 | rng lo hi=>obtain⟨_,_,_,e⟩:=x;exact aM e
 | frz ob u=>obtain⟨e,_⟩:=x;exact aM e
 | tbl ps=>obtain⟨_,e,_⟩:=x;exact aM e
 | met f y=>exact aM (show h.get? a=some _ from x)
 | ext φ=>obtain⟨_,⟨_,e⟩,_⟩:=x;exact aM e
theorem Paired.KR {α β:Type}{F G:α->β->Prop}:∀ {l₁:List α}{l₂:List β},Paired F l₁ l₂->(∀ a b,F a b->G a b)->Paired G l₁ l₂
 | _,_,.nil,_=>.nil
 | _,_,.cons r t,f=>.cons (f _ _ r) (Paired.KR t f)
def bT.pL (x:bT P w H h a o) (k:∀ b u,(b=a∨H b=some (.own a))->h.get? b=some u->h'.get? b=some u)
  (ho:∀ b,H b=some (.own a)->H' b=some (.own a)) (ht:∀ b xs,H b=some (.tup xs)->H' b=some (.tup xs))
  (hf:∀ b ob u,H b=some (.frz ob u)->H' b=some (.frz ob u):=by first | exact fun _ _ _ q=>q | exact fun c ob u q=>(az (bK q (by assumption))).trans q):bT P w H' h' a o:=by
 induction o with
 | lst xs=>obtain⟨z,its,n,r,e⟩:=x;exact⟨z,its,n,r,k _ _ (.inl rfl) e⟩
 | tup xs=>obtain⟨z,its,r,ob,e,c⟩:=x;exact⟨z,its,r,ob,k _ _ (.inl rfl) e,c⟩
 | dK kvs=>obtain⟨z,y,vs,r,ob,es,ep,e,c⟩:=x;exact⟨z,y,vs,r,ob,es,ep,k _ _ (.inl rfl) e,c⟩
 | dT kvs =>obtain⟨z,y,xs,r,ob,es,ep,e,c⟩:=x;exact⟨z,y,xs,Paired.KR r fun p q z=>⟨z.1,ht _ _ z.2.1,z.2.2⟩,ob,es,ep,k _ _ (.inl rfl) e,c⟩
 | set S n=>obtain⟨ob,es,ep,t,e,c⟩:=x;exact⟨ob,es,ep,t,k _ _ (.inl rfl) e,c⟩
 | ins C dx fs =>obtain⟨d,z,ne,e,mA,⟨od,es,ep,e2,c⟩,r⟩:=x;exact⟨ho _ d,z,ne,k _ _ (.inl rfl) e,mA,⟨od,es,ep,k _ _ (.inr d) e2,c⟩,r⟩
 | own y=>obtain⟨ob,e⟩:=x;exact⟨ob,k _ _ (.inl rfl) e⟩
 | xd fs=>obtain⟨mA,⟨od,es,ep,e,c⟩,r⟩:=x;exact⟨mA,⟨od,es,ep,k _ _ (.inl rfl) e,c⟩,r⟩
 | rng lo hi=>obtain⟨t,u,v,e⟩:=x;exact⟨t,u,v,k _ _ (.inl rfl) e⟩
 | frz ob u ih=>obtain⟨e,q⟩:=x;exact⟨k _ _ (.inl rfl) e,ih q⟩
 | tbl ps =>obtain⟨qs,e,t,z⟩:=x;refine⟨qs,k a _ (.inl rfl) e,t,fun pos c q=>?_⟩;obtain⟨c',oc,vs,tk,qq,h1,h2,h3⟩:=z pos c q;exact⟨c',oc,vs,tk,qq,h1,hf _ _ _ h2,h3⟩
 | met f y =>have e:h.get? a=some (PySem.W.methodObj (.ref f) (.ref y)):=x;show h'.get? a=some (PySem.W.methodObj (.ref f) (.ref y));exact k a _ (.inl rfl) e
 | ext φ=>obtain⟨p,⟨o,e⟩,st⟩:=x;exact⟨st _ _ p fun o q=>k _ _ (.inl rfl) q,⟨o,k _ _ (.inl rfl) e⟩,st⟩
def HOk.lt (x:HOk P w H h) (e:H a=some o):a<h.objs.size:=(x a o e).lt
def HOk.fresh (x:HOk P w H h) (e:h.objs.size<=a):H a=none:=by
 cases q:H a with
 | none=>rfl
 | some u=>exact absurd (bE (x.lt q) e) (iM _)
def HOk.kept (x:HOk P w H h) (k:∀ b u,h.get? b=some u->h'.get? b=some u):HOk P w H h':=fun a o e =>(x a o e).pL (fun b u _ q=>k b u q) (fun _ q=>q) fun _ _ q=>q
def HOk.laid (x:HOk P w H h) (k:∀ b u,h.get? b=some u->h'.get? b=some u) (hp:h.objs.size<=a) (new:bT P w (upd H a o) h' a o):HOk P w (upd H a o) h':=fun b u e=>by
 have hn:=x.fresh hp
 by_cases hb:b=a
 ·subst hb;rw[aB] at e;cases e;exact new
 ·rw[az hb] at e;exact (x b u e).pL (fun c v _ q=>k c v q) (fun c q=>by rw[az (bK q hn)];exact q) fun c xs q=>by rw[az (bK q hn)];exact q
end
def Rd (H:Hp) (a:Addr) (u:HO):Prop:=H a=some u∨∃ o,H a=some (.frz o u)
def Rd.ok {H:Hp}{u:HO} (r:Rd H a u) (x:HOk P w H h):bT P w H h a u:=by
 rcases r with r | ⟨o,r⟩
 ·exact x a u r
 ·obtain⟨_,q⟩:=x a _ r;exact q
def Mut:Option HO->Prop
 | some (.lst _)=>True
 | some (.dK _)=>True
 | some (.dT _)=>True
 | some (.set _ _)=>True
 | some (.ins _ _ _)=>True
 | some (.ext _)=>True
 | _=>False
section
variable {P:Zh}{w:Zi}{H:Hp}{h h':Heap}{x e:Addr}{o':HO}
def HOk.write (ok:HOk P w H h) (mu:Mut (H x)) (he:e=x∨H e=some (.own x)) (k:∀ b u,b≠e->h.get? b=some u->h'.get? b=some u) (heo:∃ u,h'.get? e=some u)
  (new:bT P w (upd H x o') h' x o'):HOk P w (upd H x o') h':=fun b u q=>by
 have nown:∀ c y,H c=some (.own y)->c≠x:=fun c y r z=>by subst z;rw[r] at mu;exact mu
 have ntup:∀ c xs,H c=some (.tup xs)->c≠x:=fun c xs r z=>by subst z;rw[r] at mu;exact mu
 by_cases hb:b=x
 ·subst hb;rw[aB] at q;cases q;exact new
 ·rw[az hb] at q
  by_cases hbe:b=e
  ·have q':H b=some (.own x):=by
    rcases he with z | z
    ·exact absurd (hbe.trans z) hb
    ·rw[hbe];exact z
   rw[q] at q';cases q';obtain⟨v,hv⟩:=heo;exact⟨v,by rw[hbe];exact hv⟩
  ·refine (ok b u q).pL (fun c v hc r=>k c v ?_ r) (fun c r=>by rw[az (nown c b r)];exact r) (fun c xs r=>by rw[az (ntup c xs r)];exact r) fun c ob u r=>(az (fun z=>by subst z;rw[r] at mu;exact mu)).trans r;rcases hc with rfl | hc
   ·exact hbe
   ·rintro rfl;rcases he with z | z
    ·exact nown c b hc z
    ·rw[hc] at z;cases z;exact hb rfl
end
structure Un (fs ex:List Addr) (H H':Hp) (h h':Heap):Prop where
 keep:∀ b o,h.get? b=some o->H b=none->b∉fs->b∉ex->h'.get? b=some o
 slot:∀ b o,h.get? b=some o->H b=none->b∈fs->b∉ex->∃ sl,h'.get? b=some { o with slots:=sl }
 free:∀ b o,h.get? b=some o->H b=none->b∉ex->H' b=none
 there:∀ b o,h.get? b=some o->b∉ex->∃ o',h'.get? b=some o'
 tups:∀ b xs,H b=some (.tup xs)->H' b=some (.tup xs)
 frzs:∀ b o u,H b=some (.frz o u)->H' b=some (.frz o u)
 tbls:∀ b ps,H b=some (.tbl ps)->∃ more,H' b=some (.tbl (ps++more))
section
variable {fs fs' ex ex':List Addr}{H H1 H2:Hp}{h h1 h2 h':Heap}{a x e:Addr}{o:HO}
def Un.any (u:Un fs ex H H1 h h1) {ob:Obj} (q:h.get? b=some ob) (n:H b=none) (hx:b∉ex):∃ sl,h1.get? b=some { ob with slots:=sl }:=by
 by_cases hb:b∈fs
 ·exact u.slot b ob q n hb hx
 ·exact⟨ob.slots,u.keep b ob q n hb hx⟩
def Un.trans (a:Un fs ex H H1 h h1) (b:Un fs ex H1 H2 h1 h2):Un fs ex H H2 h h2 where
 keep:=fun c ob q n hc hx=>b.keep c ob (a.keep c ob q n hc hx) (a.free c ob q n hx) hc hx
 slot:=fun c ob q n hc hx=>by obtain⟨sl,e1⟩:=a.slot c ob q n hc hx;obtain⟨sl',e2⟩:=b.slot c _ e1 (a.free c ob q n hx) hc hx;exact⟨sl',e2⟩
 free:=fun c ob q n hx=>by obtain⟨o',e1⟩:=a.there c ob q hx;exact b.free c o' e1 (a.free c ob q n hx) hx
 there:=fun c ob q hx=>by obtain⟨o',e1⟩:=a.there c ob q hx;exact b.there c o' e1 hx
 tups:=fun c xs q=>b.tups c xs (a.tups c xs q)
 frzs:=fun c ob xs q=>b.frzs c ob xs (a.frzs c ob xs q)
 tbls:=fun c ps q=>by obtain⟨m1,e1⟩:=a.tbls c ps q;obtain⟨m2,e2⟩:=b.tbls c _ e1;exact⟨m1++m2,by rw[e2,Array.append_assoc]⟩
def Un.kept (k:∀ b u,h.get? b=some u->h'.get? b=some u):Un fs ex H H h h' :=
 ⟨fun b ob q _ _ _=>k b ob q,fun b ob q _ _ _=>⟨ob.slots,k b ob q⟩,fun _ _ _ n _=>n,fun b ob q _=>⟨ob,k b ob q⟩,fun _ _ q=>q,fun _ _ _ q=>q,fun _ ps q=>⟨#[],by rw[q];simp⟩⟩
def Un.refl:Un fs ex H H h h:=Un.kept fun _ _ q=>q
def Un.laid (k:∀ b u,h.get? b=some u->h'.get? b=some u) (hp:h.objs.size<=a) (hn:H a=none):Un fs ex H (upd H a o) h h' where
 keep:=fun b u q _ _ _=>k b u q
 slot:=fun b u q _ _ _=>⟨u.slots,k b u q⟩
 free:=fun b u q n _=>by rw[az (bz (bE (aM q) hp))];exact n
 there:=fun b u q _=>⟨u,k b u q⟩
 tups:=fun b xs q=>by rw[az (bK q hn)];exact q
 frzs:=fun b u xs q=>by rw[az (bK q hn)];exact q
 tbls:=fun b ps q=>⟨#[],by rw[az (bK q hn),q];simp⟩
def Un.write (mu:Mut (H x)) (he:e=x∨H e=some (.own x)) (k:∀ b u,b≠e->h.get? b=some u->h'.get? b=some u) (heo:∃ u,h'.get? e=some u):Un fs ex H (upd H x o) h h':=by
 have hx:∀ b,H b=none->b≠x:=fun b n z=>by subst z;rw[n] at mu;exact mu
 have hb:∀ b,H b=none->b≠e:=fun b n z=>by
  subst z;rcases he with r | r
  ·exact hx b n r
  ·rw[n] at r;cases r
 have hm:∀ b u,H b=some u->¬ Mut (some u)->b≠x:=fun b u q nm z=>by subst z;rw[q] at mu;exact nm mu
 refine⟨fun b u q n _ _=>k b u (hb b n) q,fun b u q n _ _=>⟨u.slots,k b u (hb b n) q⟩,fun b u q n _=>by rw[az (hx b n)];exact n,fun b u q _=>?_,
  fun b xs q=>by rw[az (hm b _ q fun z=>z)];exact q,fun b u xs q=>by rw[az (hm b _ q fun z=>z)];exact q,fun b ps q=>⟨#[],by rw[az (hm b _ q fun z=>z),q];simp⟩⟩
 by_cases hbe:b=e
 ·subst hbe;exact heo
 ·exact⟨u,k b u hbe q⟩
end
def trk (h:Heap) (H:Hp):List Addr:=(List.range h.objs.size).filter fun a=>(H a).isSome
def wM (h:Heap) (H:Hp):Heap:=PySem.W.hideAll h (trk h H)
def Dl (h:Heap) (H:Hp):(wM h H).objs.size=h.objs.size:=PySem.W.hideAll_size _ _
def Fs {H:Hp} (e:h.get? b=some o) (n:H b=none):(wM h H).get? b=some o :=
 PySem.W.hideAll_get _ e fun hm=>by have q:(H b).isSome=true:=(gd.mp hm).2;rw[n] at q;simp at q
def IL {H:Hp} (e:(wM h H).get? b=some o):h.get? b=some o/\H b=none:=by
 have e':h.get? b=some o:=PySem.W.of_hideAll (trk h H) e;refine⟨e',?_⟩;cases q:H b with
 | none=>rfl
 | some x =>have hm:b∈trk h H:=gd.mpr ⟨iJ.mpr (aM e'),by simp [q]⟩;have z:(wM h H).get? b=none:=PySem.W.hideAll_none (trk h H) hm;rw[z] at e;cases e
def HA (g h:Heap) (L:Addr):Zp:=(List.range h.objs.size).filterMap fun a=>if a=L∨(g.get? a).isSome=true then none else (h.get? a).map fun o=>(a,o)
def rest (g h:Heap) (L d:Addr):Zp:=(HA g h L).filter fun p=>decide (p.1≠d)
end
section
structure Mod (K:Zf) (mg:Zk) (base:Heap):Prop where
 kin:K.In base
 glob:base.Ns mainGlobals mg
 blt:∃ mb,base.Ns builtinsNs mb/\∀ x:Str,x≠"__name__"->mb x=bootBuiltins x
 nolimit:base.NoLimit
 bmn:∃ bm ob,mg "__builtins__"=some (.ref bm)/\bm≠builtinsNs/\base.get? bm=some ob/\ob.cls=.type "module"/\ob.dict=some builtinsNs/\ob.data=.plain
structure Cx where
 prog:Zh
 w:Zi
 K:Zf
 mg:Zk
 base:Heap
 A:Around
 N:Ze
 s₀:Zg
 H₀:Hp
 env:Env
 outer:List Env
 stack:List Env
 ex:List Addr
 fn:Str->Bool
 calm:Bool
 pn:Zp
 xe:Zq
def frs (l:List Env):List Addr:=l.filterMap (·.frame)
abbrev Cx.fs (X:Cx):List Addr:=frs X.outer
def Vis (sc:Scope) (x:Str):Prop:=sc.names.lookup x=some .local∨sc.names.lookup x=some .cell∨sc.names.lookup x=some .free
def Loc (sc:Scope) (x:Str):Prop:=sc.names.lookup x=some .local∨sc.names.lookup x=some .cell
def Look (env:Env) (h:Heap) (m:Zk) (x:Str) (u:Value):Prop :=
 (env.kindOf x=some .local/\m x=some u)∨((env.kindOf x=some .cell∨env.kindOf x=some .free)/\∃ c,env.cells.lookup x=some c/\h.IsCell c (some u))
structure Cx.Ok (X:Cx):Prop where
 mod:Mod X.K X.mg X.base
 kind:X.env.scope.kind=.function
 glob:X.env.globals=mainGlobals
 blt:X.env.builtins=builtinsNs
 above:X.s₀.heap.objs.size<=X.env.locals
 inj:∀ x y c,X.env.cells.lookup x=some c->X.env.cells.lookup y=some c->x=y
 has:∀ x,(X.env.kindOf x=some .cell∨X.env.kindOf x=some .free)->∃ c,X.env.cells.lookup x=some c
 cab:∀ x c,X.fn x=true->X.env.cells.lookup x=some c->X.s₀.heap.objs.size<=c
 hd:X.calm=true->X.A.handled=none
 frames:X.A.frames=some X.stack
 stk:X.stack=X.outer∨(X.stack=X.env::X.outer/\X.env.frame=some X.env.locals)
 exf:∀ b∈X.ex,b≠X.env.locals/\∀ x c,X.env.cells.lookup x=some c->c≠b
 bs:∀ b o,X.base.get? b=some o->X.s₀.heap.get? b=some o/\X.H₀ b=none
 bsz:X.base.objs.size<=X.s₀.heap.objs.size
 noex:∀ b o,X.base.get? b=some o->b∉X.ex
 exfs:∀ b∈X.ex,b∉X.fs
 mJ:X.s₀.heap.FunFrames X.base X.outer
 frf:∀ b∈X.fs,X.H₀ b=none
structure Inv (X:Cx) (Yp:Zp) (σ:List (Option V)) (H:Hp) (s:Zg):Prop where
 ok:X.Ok
 os:s.os=X.s₀.os
 bare:AllBare s.gens
 base:Un X.fs X.ex X.H₀ H X.s₀.heap s.heap
 loc:∃ m,s.heap.Ns X.env.locals m/\∀ (i:Nat) (x:Str) (v:V),X.N[i]?=some x->σ[i]?=some (some v)->Vis X.env.scope x->∃ u,RelV v u/\Look X.env s.heap m x u
 cell:∀ x c,X.env.cells.lookup x=some c->∃ v,s.heap.IsCell c v
 free:H X.env.locals=none
 freeC:∀ x c,X.env.cells.lookup x=some c->H c=none
 pin:∀ p∈X.pn++Yp,s.heap.get? p.1=some p.2/\H p.1=none/\p.1≠X.env.locals/\p.1∉X.fs/\∀ v,p.2.data≠.cell v
 hok:HOk X.prog X.w H s.heap
 len:σ.length=X.N.length
section
variable {X:Cx}{Yp:Zp}{σ:List (Option V)}{H H':Hp}{s:Zg}{h':Heap}
def Cx.Ok.Nd (ok:X.Ok)  (e:X.base.get? b=some o):b∉X.fs:=fun hb=>by have:=(ok.mJ.mem hb).1;rw[e] at this;cases this
def Inv.bs (I:Inv X Yp σ H s):∀ b o,X.base.get? b=some o->s.heap.get? b=some o/\H b=none:=fun b o e =>⟨I.base.keep b o (I.ok.bs b o e).1 (I.ok.bs b o e).2 (I.ok.Nd e) (I.ok.noex b o e),I.base.free b o (I.ok.bs b o e).1 (I.ok.bs b o e).2 (I.ok.noex b o e)⟩
def Inv.bk (I:Inv X Yp σ H s):∀ b o,X.base.get? b=some o->s.heap.get? b=some o:=fun b o e=>(I.bs b o e).1
def Inv.mod (I:Inv X Yp σ H s):Mod X.K X.mg X.base:=I.ok.mod
def Inv.kIn (I:Inv X Yp σ H s):X.K.In s.heap:=I.ok.mod.kin.keeps I.bk
def Inv.lt (I:Inv X Yp σ H s):X.env.locals<s.heap.objs.size:=let ⟨_,hn,_⟩:=I.loc;hn.lt
def Inv.sz (I:Inv X Yp σ H s):X.s₀.heap.objs.size<=s.heap.objs.size:=bQ I.ok.above (aT I.lt)
def Inv.Nf (I:Inv X Yp σ H s)  (h:s.heap.objs.size<=a):a∉X.fs:=fun hb=>by obtain⟨_,o,ho,_⟩:=I.ok.mJ.mem hb;exact absurd (bE (aM ho) (bQ I.sz h)) (iM _)
def Inv.cne (I:Inv X Yp σ H s):∀ x c,X.env.cells.lookup x=some c->c≠X.env.locals:=fun x c e z=>by obtain⟨v,o,ho,hd⟩:=I.cell x c e;obtain⟨m,⟨o',es,ep,ho',hd',_⟩,_⟩:=I.loc;rw[z,ho'] at ho;cases ho;rw[hd'] at hd;cases hd
def Inv.mJ (I:Inv X Yp σ H s):s.heap.FunFrames X.base X.outer:=by
 have all:∀ (l:List Env),(∀ b∈frs l,b∈X.fs)->X.s₀.heap.FunFrames X.base l->s.heap.FunFrames X.base l:=by
  intro l
  induction l with
  | nil=>intro _ _;trivial
  | cons env r ih =>intro hs hl;obtain⟨hk,⟨L,o,hf,hn,ho,hd⟩,hr⟩:=hl;have hL:L∈X.fs:=hs L (by unfold frs;rw[nM,hf];exact bq);obtain⟨sl,e⟩:=I.base.slot L o ho (I.ok.frf L hL) hL fun z=>I.ok.exfs L z hL;exact⟨hk,⟨L,_,hf,hn,e,hd⟩,ih (fun b hb=>hs b (by unfold frs;rw[nM,hf];exact bD _ hb)) hr⟩
 exact all X.outer (fun _ hb=>hb) I.ok.mJ
def Inv.stack (I:Inv X Yp σ H s):s.heap.FunFrames X.base X.stack:=by
 rcases I.ok.stk with e | ⟨e,hf⟩
 ·rw[e];exact I.mJ
 ·rw[e];obtain⟨m,hn,_⟩:=I.loc;refine .cons (by rw[I.ok.kind];decide) hf hn ?_ I.mJ;exact Heap.get?_none_of_le (bQ I.ok.bsz I.ok.above)
def Inv.vg (I:Inv X Yp σ H s):∀ b∈frs X.stack,b∈X.env.locals::X.fs:=fun b hb=>by
 rcases I.ok.stk with e | ⟨e,hf⟩
 ·rw[e] at hb;exact bD _ hb
 ·rw[e] at hb;unfold frs at hb;rw[nM,hf] at hb;exact hb
def Inv.qK (I:Inv X Yp σ H s):∀ b∈frs X.stack,H b=none:=fun b hb=>by
 rcases aJ.mp (I.vg b hb) with e | hb
 ·rw[e];exact I.free
 ·obtain⟨_,o,ho,_⟩:=I.ok.mJ.mem hb;exact I.base.free b o ho (I.ok.frf b hb) fun z=>I.ok.exfs b z hb
def Inv.step {g':Array GenState}{t':Nat}{d':Drawn}{ch:List Addr} (I:Inv X Yp σ H s)
  (hch:∀ b∈ch,(b∈X.ex∨X.s₀.heap.objs.size<=b)/\b≠X.env.locals/\(∀ x c,X.env.cells.lookup x=some c->c≠b)/\∀ p∈X.pn++Yp,p.1≠b)
  (keep:∀ b o,b≠X.env.locals->b∉X.fs->b∉ch->s.heap.get? b=some o->H b=none->h'.get? b=some o)
  (slot:∀ b o,b≠X.env.locals->b∈X.fs->b∉ch->s.heap.get? b=some o->H b=none->∃ sl,h'.get? b=some { o with slots:=sl }) (free:∀ b o,b∉ch->s.heap.get? b=some o->H b=none->H' b=none)
  (there:∀ b o,b∉ch->s.heap.get? b=some o->∃ o',h'.get? b=some o')
  (tups:∀ b xs,H b=some (.tup xs)->H' b=some (.tup xs)) (frzs:∀ b o u,H b=some (.frz o u)->H' b=some (.frz o u)) (tbls:∀ b ps,H b=some (.tbl ps)->∃ more,H' b=some (.tbl (ps++more)))
  (ns:∀ m,s.heap.Ns X.env.locals m->h'.Ns X.env.locals m) (hok:HOk X.prog X.w H' h') (hg:AllBare g') :
  Inv X Yp σ H' { s with heap:=h',gens:=g',drawn:=d',toks:=t' }:=by
 have neL:∀ b o,X.s₀.heap.get? b=some o->b≠X.env.locals:=fun b o e=>bz (bE (aM e) I.ok.above);have neC:∀ b o,X.s₀.heap.get? b=some o->b∉X.ex->b∉ch:=fun b o e hx hb=>by
  rcases (hch b hb).1 with z | z
  ·exact hx z
  ·exact absurd (bE (aM e) z) (iM _)
 have cellK:∀ x c,X.env.cells.lookup x=some c->∀ v,s.heap.IsCell c v->h'.IsCell c v:=fun x c e v ⟨o,ho,hd⟩=>by
  have nch:c∉ch:=fun z=>(hch c z).2.2.1 x c e rfl
  by_cases hc:c∈X.fs
  ·obtain⟨sl,q⟩:=slot c o (I.cne x c e) hc nch ho (I.freeC x c e);exact⟨_,q,hd⟩
  ·exact⟨o,keep c o (I.cne x c e) hc nch ho (I.freeC x c e),hd⟩
 refine⟨I.ok,I.os,hg,⟨fun b o e n hb hx=>?_,fun b o e n hb hx=>?_,fun b o e n hx=>?_,fun b o e hx=>?_,fun b xs e=>tups b xs (I.base.tups b xs e),fun b o xs e=>frzs b o xs (I.base.frzs b o xs e),fun b ps e=>?_⟩,?_,fun x c e=>?_,?_,fun x c e=>?_,fun p hp=>?_,hok,I.len⟩
 ·exact keep b o (neL b o e) hb (neC b o e hx) (I.base.keep b o e n hb hx) (I.base.free b o e n hx)
 ·obtain⟨sl,e1⟩:=I.base.slot b o e n hb hx;obtain⟨sl',e2⟩:=slot b _ (neL b o e) hb (neC b o e hx) e1 (I.base.free b o e n hx);exact⟨sl',e2⟩
 ·obtain⟨o',e1⟩:=I.base.there b o e hx;exact free b o' (neC b o e hx) e1 (I.base.free b o e n hx)
 ·obtain⟨o',e1⟩:=I.base.there b o e hx;exact there b o' (neC b o e hx) e1
 ·obtain⟨m1,e1⟩:=I.base.tbls b ps e;obtain⟨m2,e2⟩:=tbls b _ e1;exact⟨m1++m2,by rw[e2,Array.append_assoc]⟩
 ·obtain⟨m,hn,hl⟩:=I.loc;refine⟨m,ns m hn,fun i x v e1 e2 e3=>?_⟩;obtain⟨u,r,l⟩:=hl i x v e1 e2 e3;refine⟨u,r,?_⟩;rcases l with l | ⟨k,c,e,z⟩
  ·exact .inl l
  ·exact .inr ⟨k,c,e,cellK x c e _ z⟩
 ·obtain⟨v,z⟩:=I.cell x c e;exact⟨v,cellK x c e v z⟩
 ·obtain⟨m,⟨o,_,_,ho,_⟩,_⟩:=I.loc;exact free _ o (fun z=>(hch _ z).2.1 rfl) ho I.free
 ·obtain⟨v,o,ho,hd⟩:=I.cell x c e;exact free c o (fun z=>(hch c z).2.2.1 x c e rfl) ho (I.freeC x c e)
 ·obtain⟨e,n,ne,nf,d⟩:=I.pin p hp;have nch:p.1∉ch:=fun z=>(hch p.1 z).2.2.2 p hp rfl;exact⟨keep p.1 p.2 ne nf nch e n,free p.1 p.2 nch e n,ne,nf,d⟩
def Inv.un {t':Nat} (I:Inv X Yp σ H s) (u:Un X.fs [] H H' s.heap h') (hok:HOk X.prog X.w H' h'):Inv X Yp σ H' { s with heap:=h',toks:=t' }:=by obtain⟨m,⟨o,es,ep,ho,r⟩,_⟩:=id I.loc;obtain⟨sl,hL⟩:=u.any ho I.free (by simp);exact I.step (g':=s.gens) (d':=s.drawn) (ch:=[]) (fun _ z=>nomatch z) (fun b o _ hb _ e n=>u.keep b o e n hb (by simp)) (fun b o _ hb _ e n=>u.slot b o e n hb (by simp)) (fun b o _ e n=>u.free b o e n (by simp)) (fun b o _ e=>u.there b o e (by simp)) u.tups u.frzs u.tbls (fun m' hm=>by obtain⟨o',es',ep',ho',r'⟩:=hm;rw[ho] at ho';cases ho';exact⟨_,es',ep',hL,r'⟩) hok I.bare
def Inv.call {t':Nat}{d':Drawn} (I:Inv X Yp σ H s) (u:Un (frs X.stack) ch H H' s.heap h') (hok:HOk X.prog X.w H' h') (hg:AllBare g')
  (hch:∀ b∈ch,(b∈X.ex∨X.s₀.heap.objs.size<=b)/\b≠X.env.locals/\(∀ x c,X.env.cells.lookup x=some c->c≠b)/\∀ p∈X.pn++Yp,p.1≠b) :
  Inv X Yp σ H' { s with heap:=h',gens:=g',drawn:=d',toks:=t' }:=by
 obtain⟨m,⟨o,es,ep,ho,r⟩,_⟩:=id I.loc;obtain⟨sl,hL⟩:=u.any ho I.free fun z=>(hch _ z).2.1 rfl;exact I.step (ch:=ch) hch (fun b o hL hb hc e n=>u.keep b o e n (fun z=>(aJ.mp (I.vg b z)).elim hL hb) hc) (fun b o _ _ hc e n=>u.any e n hc) (fun b o hc e n=>u.free b o e n hc) (fun b o hc e=>u.there b o e hc) u.tups u.frzs u.tbls (fun m' hm=>by obtain⟨o',es',ep',ho',r'⟩:=hm;rw[ho] at ho';cases ho';exact⟨_,es',ep',hL,r'⟩) hok hg
def Inv.turned {t':Nat} (I:Inv X Yp σ H s) (k:∀ b o,b≠it->s.heap.get? b=some o->h'.get? b=some o) (hn:H it=none) (hL:it≠X.env.locals)
  (h1:it∈X.ex∨X.s₀.heap.objs.size<=it) (h2:∀ x c,X.env.cells.lookup x=some c->c≠it) (h3:∀ p∈X.pn++Yp,p.1≠it):Inv X Yp σ H { s with heap:=h',toks:=t' }:=by
 have nit:∀ b u,H b=some u->b≠it:=fun b u e z=>by rw[z,hn] at e;cases e
 refine I.step (g':=s.gens) (d':=s.drawn) (ch:=[it]) (fun b hb=>?_) (fun b o _ _ hc e _=>k b o (fun z=>hc (by simp [z])) e) (fun b o _ _ hc e _=>⟨o.slots,k b o (fun z=>hc (by simp [z])) e⟩) (fun _ _ _ _ n=>n)
  (fun b o hc e=>⟨o,k b o (fun z=>hc (by simp [z])) e⟩) (fun _ _ e=>e) (fun _ _ _ e=>e) (fun b ps e=>⟨#[],by rw[e];simp⟩) (fun m hm=>?_) (fun b u e=>?_) I.bare
 ·have e:b=it:=by simpa using hb
  subst e;exact⟨h1,hL,h2,h3⟩
 ·obtain⟨o,es,ep,ho,r⟩:=hm;exact⟨o,es,ep,k _ o (cI hL) ho,r⟩
 ·refine (I.hok b u e).pL (fun c v hc q=>k c v ?_ q) (fun _ q=>q) fun _ _ q=>q;rcases hc with z | z
  ·rw[z];exact nit b u e
  ·exact nit c _ z
def Inv.tok (I:Inv X Yp σ H s) (t:Nat):Inv X Yp σ H { s with toks:=t }:=I.un (h':=s.heap) (t':=t) Un.refl I.hok
def Inv.kept {t':Nat} (I:Inv X Yp σ H s) (k:∀ b u,s.heap.get? b=some u->h'.get? b=some u):Inv X Yp σ H { s with heap:=h',toks:=t' }:=I.un (Un.kept k) (I.hok.kept k)
def Inv.laid {a:Addr}{o:HO}{t':Nat} (I:Inv X Yp σ H s) (k:∀ b u,s.heap.get? b=some u->h'.get? b=some u) (hp:s.heap.objs.size<=a) (new:bT X.prog X.w (upd H a o) h' a o) :
  Inv X Yp σ (upd H a o) { s with heap:=h',toks:=t' }:=I.un (Un.laid k hp (I.hok.fresh hp)) (I.hok.laid k hp new)
def Inv.write {x e:Addr}{o:HO}{t':Nat} (I:Inv X Yp σ H s) (mu:Mut (H x)) (he:e=x∨H e=some (.own x)) (k:∀ b u,b≠e->s.heap.get? b=some u->h'.get? b=some u) (heo:∃ u,h'.get? e=some u)
  (new:bT X.prog X.w (upd H x o) h' x o):Inv X Yp σ (upd H x o) { s with heap:=h',toks:=t' }:=I.un (Un.write mu he k heo) (I.hok.write mu he k heo new)
def Inv.Bz {pins':Zp} (I:Inv X Yp σ H s) (h:∀ p∈pins',s.heap.get? p.1=some p.2/\H p.1=none/\p.1≠X.env.locals/\p.1∉X.fs/\∀ v,p.2.data≠.cell v):Inv X pins' σ H s :=
 ⟨I.ok,I.os,I.bare,I.base,I.loc,I.cell,I.free,I.freeC,fun p hp=>(bI.mp hp).elim (fun z=>I.pin p (nV _ z)) (h p),I.hok,I.len⟩
def uB {N:Ze} (hN:N.Nodup) {i j:Nat} (a:N[i]?=some x) (b:N[j]?=some x):i=j:=by obtain⟨h1,e1⟩:=bN.mp a;obtain⟨h2,e2⟩:=bN.mp b;exact (List.getElem_inj hN).mp (e1.trans e2.symm)
def wj {M:Model}{A:Around}{E:Zq}{v:V}{Q:Unit->Zg->Prop} (I:Inv X Yp σ H s) (hN:X.N.Nodup) (hi:X.N[i]?=some x) (hx:Loc X.env.scope x) (r:RelV v u)
  (h:∀ s',Inv X Yp (σ.set i (some v)) H s'->(∃ a,Heap.SameBut a s.heap s'.heap/\(a=X.env.locals∨X.env.cells.lookup x=some a))->Q () s') (hf:X.fn x=true∨X.env.scope.names.lookup x=some .local:=by first | exact .inl rfl | exact .inr rfl | assumption):wpAny M A (storeName X.env x u) Q E s:=by
 obtain⟨m,hn,hl⟩:=id I.loc;have hcls:(X.env.scope.kind==.class||(X.env.scope.kind==.module&&X.env.locals != X.env.globals))=false:=by rw[I.ok.kind];rfl
 have hiσ:i<σ.length:=by rw[I.len];exact (bN.mp hi).1
 have cne:=I.cne;have tracked:∀ {a:Addr}{h':Heap},(∃ o,s.heap.get? a=some o/\H a=none)->Heap.SameBut a s.heap h'->HOk X.prog X.w H h':=fun {a h'} ha hs b ob e=>by
  obtain⟨_,_,hfree⟩:=ha;refine (I.hok b ob e).pL (fun c w' hc q=>(hs.2 c ?_).trans q) (fun _ q=>q) fun _ _ q=>q;rintro rfl;rcases hc with rfl | hc
  ·rw[hfree] at e;cases e
  ·rw[hfree] at hc;cases hc
 rcases hx with hk | hk
 ·refine wpAny_storeName_local hk hn (fun h' hn' hs=>?_) hcls;obtain⟨oL,_,_,hoL,_⟩:=id hn;refine h _ ⟨I.ok,I.os,I.bare,⟨fun b o e n hb hx=>?_,fun b o e n hb hx=>?_,I.base.free,fun b o e hx=>?_,I.base.tups,I.base.frzs,I.base.tbls⟩,⟨_,hn',fun j y v' e1 e2 e3=>?_⟩,fun y c e=>?_,I.free,I.freeC,fun p hp=>?_,tracked ⟨oL,hoL,I.free⟩ hs,by simpa using I.len⟩ ⟨_,hs,.inl rfl⟩
  ·exact (hs.2 b (bz (bE (aM e) I.ok.above))).trans (I.base.keep b o e n hb hx)
  ·obtain⟨sl,e1⟩:=I.base.slot b o e n hb hx;exact⟨sl,(hs.2 b (bz (bE (aM e) I.ok.above))).trans e1⟩
  ·obtain⟨o',e1⟩:=I.base.there b o e hx;exact⟨o',(hs.2 b (bz (bE (aM e) I.ok.above))).trans e1⟩
  ·by_cases hj:j=i
   ·subst hj;rw[hi] at e1;cases e1;rw[qU hiσ] at e2;cases e2;exact⟨u,r,.inl ⟨hk,by simp⟩⟩
   ·rw[qT (cI hj)] at e2;obtain⟨u',r',q⟩:=hl j y v' e1 e2 e3;refine⟨u',r',?_⟩;rcases q with ⟨k,e⟩ | ⟨k,c,e,z⟩
    ·refine .inl ⟨k,?_⟩;have:y≠x:=fun e=>hj (uB hN e1 (e ▸ hi));simp [this,e]
    ·exact .inr ⟨k,c,e,z.sameBut hs (cne y c e)⟩
  ·obtain⟨w',z⟩:=I.cell y c e;exact⟨w',z.sameBut hs (cne y c e)⟩
  ·obtain⟨e,n,ne,nf,d⟩:=I.pin p hp;exact⟨(hs.2 p.1 ne).trans e,n,ne,nf,d⟩
 ·have hfn:X.fn x=true:=by
   rcases hf with z | z
   ·exact z
   ·rw[z] at hk;cases hk
  obtain⟨c,hc⟩:=I.ok.has x (.inl hk);obtain⟨w',z⟩:=I.cell x c hc;refine wpAny_storeName_cell I.ok.kind hk hc z (fun h' hc' hs=>?_);obtain⟨oc,hoc,hocd⟩:=id z;refine h { s with heap:=h' } ⟨I.ok,I.os,I.bare,⟨fun b o e n hb hx=>?_,fun b o e n hb hx=>?_,I.base.free,fun b o e hx=>?_,I.base.tups,I.base.frzs,I.base.tbls⟩,⟨m,hn.sameBut hs (cI (cne x c hc)),fun j y v' e1 e2 e3=>?_⟩,fun y c' e=>?_,I.free,I.freeC,fun p hp=>?_,tracked ⟨oc,hoc,I.freeC x c hc⟩ hs,by simpa using I.len⟩ ⟨c,hs,.inr hc⟩
  ·exact (hs.2 b (bz (bE (aM e) (I.ok.cab x c hfn hc)))).trans (I.base.keep b o e n hb hx)
  ·obtain⟨sl,e1⟩:=I.base.slot b o e n hb hx;exact⟨sl,(hs.2 b (bz (bE (aM e) (I.ok.cab x c hfn hc)))).trans e1⟩
  ·obtain⟨o',e1⟩:=I.base.there b o e hx;exact⟨o',(hs.2 b (bz (bE (aM e) (I.ok.cab x c hfn hc)))).trans e1⟩
  ·by_cases hj:j=i
   ·subst hj;rw[hi] at e1;cases e1;rw[qU hiσ] at e2;cases e2;exact⟨u,r,.inr ⟨.inl hk,c,hc,hc'⟩⟩
   ·rw[qT (cI hj)] at e2;obtain⟨u',r',q⟩:=hl j y v' e1 e2 e3;refine⟨u',r',?_⟩;rcases q with q | ⟨k,c',e,z'⟩
    ·exact .inl q
    ·refine .inr ⟨k,c',e,z'.sameBut hs ?_⟩;rintro rfl;exact hj (uB hN e1 (I.ok.inj _ _ _ e hc ▸ hi))
  ·by_cases hcc:c'=c
   ·subst hcc;exact⟨_,hc'⟩
   ·obtain⟨w2,z2⟩:=I.cell y c' e;exact⟨w2,z2.sameBut hs hcc⟩
  ·obtain⟨e,n,ne,nf,d⟩:=I.pin p hp;refine⟨(hs.2 p.1 ?_).trans e,n,ne,nf,d⟩;intro q;rw[q,hoc] at e;have q':oc=p.2:=Option.some.inj e;exact d w' (by rw[←q'];exact hocd)
def kW {M:Model}{A:Around}{E:Zq}{v:V}{Q:Unit->Zg->Prop} (I:Inv X Yp σ H s) (hN:X.N.Nodup) (hi:X.N[i]?=some x) (hx:Loc X.env.scope x) (r:RelV v u)
  (h:∀ s',Inv X Yp (σ.set i (some v)) H s'->Q () s') (hf:X.fn x=true∨X.env.scope.names.lookup x=some .local:=by first | exact .inl rfl | exact .inr rfl | assumption):wpAny M A (storeName X.env x u) Q E s :=
 wj I hN hi hx r (fun s' I' _=>h s' I') hf
def Inv.ue {s':Zg} (I:Inv X Yp σ H s) (ho:s'.os=s.os) (u:Un (frs X.stack) ch H H' s.heap s'.heap) (hok:HOk X.prog X.w H' s'.heap) (hg:AllBare s'.gens)
  (hch:∀ b∈ch,(b∈X.ex∨X.s₀.heap.objs.size<=b)/\b≠X.env.locals/\(∀ x c,X.env.cells.lookup x=some c->c≠b)/\∀ p∈X.pn++Yp,p.1≠b):Inv X Yp σ H' s':=by
 obtain⟨h',g',d',t',o'⟩:=s';have e:o'=s.os:=ho;subst e;exact I.call (g':=g') (t':=t') (d':=d') u hok hg hch
end
abbrev XK:=Value->Option Addr->Hp->Prop
abbrev St:=List (Option V)
abbrev VK:=V->Hp->Prop
abbrev TE:=St->Hp->VK->Prop
abbrev TT:=St->Hp->(Bool->Hp->Prop)->Prop
abbrev TA:=St->Hp->(List V->Hp->Prop)->Prop
structure Ends where
 nx:St->Hp->Prop
 rt:VK
 bk:St->Hp->Prop:=fun _ _=>False
 ct:St->Hp->Prop:=fun _ _=>False
abbrev TS:=Ends->St->Hp->Prop
inductive EP (X:Cx) (Yp:Zp) (σ:St) (Q:VK) (u:Value) (s':Zg):Prop
 | mk (v:V) (H':Hp) (i:Inv X Yp σ H' s') (r:RelV v u) (q:Q v H'):EP X Yp σ Q u s'
inductive TP (X:Cx) (Yp:Zp) (σ:St) (Q:Bool->Hp->Prop) (b:Bool) (s':Zg):Prop
 | mk (H':Hp) (i:Inv X Yp σ H' s') (q:Q b H'):TP X Yp σ Q b s'
inductive AP (X:Cx) (Yp:Zp) (σ:St) (Q:List V->Hp->Prop) (us:Zc) (s':Zg):Prop
 | mk (vs:List V) (H':Hp) (i:Inv X Yp σ H' s') (r:Vals vs us) (q:Q vs H'):AP X Yp σ Q us s'
def SP (X:Cx) (Yp:Zp) (D:Ends) (f:Flow) (s':Zg):Prop :=
 match f with
 | .next=>∃ σ' H',Inv X Yp σ' H' s'/\D.nx σ' H'
 | .brk=>∃ σ' H',Inv X Yp σ' H' s'/\D.bk σ' H'
 | .cont=>∃ σ' H',Inv X Yp σ' H' s'/\D.ct σ' H'
 | .ret u=>∃ v σ' H',Inv X Yp σ' H' s'/\RelV v u/\D.rt v H'
def PE (X:Cx) (e:Expr) (t:TE):Prop :=
 ∀ (Yp:Zp) (s:Zg) (σ:St) (H:Hp) (Q:VK),Inv X Yp σ H s->t σ H Q->wpAny (model X.prog X.w) X.A (eval e X.env) (EP X Yp σ Q) X.xe s
def PT (X:Cx) (e:Expr) (t:TT):Prop :=
 ∀ (Yp:Zp) (s:Zg) (σ:St) (H:Hp) (Q:Bool->Hp->Prop),Inv X Yp σ H s->t σ H Q->wpAny (model X.prog X.w) X.A (isTrue e X.env (eval e X.env)) (TP X Yp σ Q) X.xe s
def PW (X:Cx) (e:Expr) (t:TT):Prop :=
 ∀ (whole:Sem Value) (Yp:Zp) (s:Zg) (σ:St) (H:Hp) (Q:Bool->Hp->Prop),Inv X Yp σ H s->t σ H Q->wpAny (model X.prog X.w) X.A (isTrue e X.env whole) (TP X Yp σ Q) X.xe s
def PW.pt {X:Cx}{t:TT} (h:PW X e t):PT X e t:=h _
def PA (X:Cx) (es:List Expr) (t:TA):Prop :=
 ∀ (pos:Pos) (Yp:Zp) (s:Zg) (σ:St) (H:Hp) (Q:List V->Hp->Prop),Inv X Yp σ H s->t σ H Q->wpAny (model X.prog X.w) X.A (spliced (backTo pos (starEach es X.env))) (AP X Yp σ Q) X.xe s
def PS (X:Cx) (st:Stmt) (t:TS):Prop :=
 ∀ (Yp:Zp) (s:Zg) (σ:St) (H:Hp) (D:Ends),Inv X Yp σ H s->t D σ H->wpAny (model X.prog X.w) X.A (exec st X.env) (SP X Yp D) X.xe s
def PSs (X:Cx) (st:List Stmt) (t:TS):Prop :=
 ∀ (Yp:Zp) (s:Zg) (σ:St) (H:Hp) (D:Ends),Inv X Yp σ H s->t D σ H->wpAny (model X.prog X.w) X.A (execs st X.env) (SP X Yp D) X.xe s
def thn {α:Type}{t:Sem α}{Q Q':α->Zg->Prop} (h:wpAny M A t Q E s) (hQ:∀ a s,Q a s->Q' a s):wpAny M A t Q' E s:=bB h hQ fun _ _ x=>x
end
section
section
variable {X:Cx}
def Hj (i:Nat):TE:=fun σ H Q=>∃ v,σ[i]?=some (some v)/\Q v H
def tC (v:V):TE:=fun _ H Q=>Q v H
def An (hN:X.N[i]?=some x) (hv:Vis X.env.scope x) (hd:(x==("__debug__":Str))=false:=by decide) (hcd:(x==("__classdict__":Str))=false:=by decide):PE X (.Name x pos) (Hj i):=by
 intro Yp s σ H Q I h;obtain⟨v,e,h⟩:=h;obtain⟨m,hn,hl⟩:=I.loc;obtain⟨u,r,l⟩:=hl i x v hN e hv;have fin:EP X Yp σ Q u s:=⟨v,H,I,r,h⟩;rcases l with ⟨hk,hm⟩ | ⟨hk,c,hc,hcell⟩
 ·exact wpAny_Name (wpAny_loadName_local I.ok.kind hk hn hm fin) hd
 ·rcases hk with hk | hk
  ·exact wpAny_Name (wpAny_loadName_cell I.ok.kind hk hc hcell fin) hd
  ·exact wpAny_Name (wpAny_loadName_free I.ok.kind hk hc hcell fin hcd) hd
def au {i j pos}:PE X (.Constant (.int i) j pos) (tC (.int i)):=fun _ _ _ H _ I h=>wpAny_Constant_int ⟨.int i,H,I.tok _,⟨_,rfl⟩,h⟩
def gP {b j pos}:PE X (.Constant (.bool b) j pos) (tC (.bl b)):=fun _ _ _ H _ I h=>Constant_bool ⟨.bl b,H,I,rfl,h⟩
def dW {j pos}:PE X (.Constant .none j pos) (tC .non):=fun _ _ _ H _ I h=>Constant_none ⟨.non,H,I,rfl,h⟩
def aO {x j pos}:PE X (.Constant (.str x) j pos) (tC (.str x)):=fun _ _ _ H _ I h=>Calls.Constant_str ⟨.str x,H,I.tok _,⟨_,rfl⟩,h⟩
def Gl (X:Cx) (x:Str):Prop:=X.env.kindOf x=some .globalImplicit
def oE {E:Zq}{σ:St}{H:Hp}{pos:Pos} (I:Inv X Yp σ H s) (hg:Gl X x) (hm:X.mg x=some u) (h:Q u s)
  (hd:(x==("__debug__":Str))=false:=by decide):wpAny (model X.prog X.w) X.A (eval (.Name x pos) X.env) Q E s :=
 Calls.Name_function_global I.ok.kind hg (Calls.loadGlobal_global (by rw[I.ok.glob];exact I.mod.glob.keeps I.bk) hm h) hd
def rO {E:Zq}{σ:St}{H:Hp}{pos:Pos} (I:Inv X Yp σ H s) (hg:Gl X x) (hm:X.mg x=none) (hv:bootBuiltins x=some u) (h:Q u s)
  (hn:x≠"__name__":=by decide) (hd:(x==("__debug__":Str))=false:=by decide):wpAny (model X.prog X.w) X.A (eval (.Name x pos) X.env) Q E s:=by
 obtain⟨mb,h1,h2⟩:=I.mod.blt;exact Calls.Name_function_global I.ok.kind hg (Calls.loadGlobal_builtin (by rw[I.ok.glob];exact I.mod.glob.keeps I.bk) hm (by rw[I.ok.blt];exact h1.keeps I.bk) ((h2 x hn).trans hv) h) hd
def Bu {v:V} (hg:Gl X x) (hm:X.mg x=some u) (r:RelV v u) (hd:(x==("__debug__":Str))=false:=by decide):PE X (.Name x pos) (tC v) :=
 fun _ _ _ H _ I h=>oE I hg hm ⟨v,H,I,r,h⟩ hd
def IW {v:V} (hg:Gl X x) (hm:X.mg x=none) (hv:bootBuiltins x=some u) (r:RelV v u) (hn:x≠"__name__":=by decide) (hd:(x==("__debug__":Str))=false:=by decide):PE X (.Name x pos) (tC v) :=
 fun _ _ _ H _ I h=>rO I hg hm hv ⟨v,H,I,r,h⟩ hn hd
variable {a b:Expr}{ta tb:TE}{pos:Pos}
def tB (t:TE):TT:=fun σ H Q=>t σ H fun x H1=>∃ c,x=.bl c/\Q c H1
def cb {t:TE} (h:PE X e t) (he:∀ whole,isTrue e X.env whole=(do let v ←whole;standAt e.pos;holding [v] (truthy v)):=by intro _;rfl):PT X e (tB t):=by intro Yp s σ H Q I hw;refine isTrue_plain (thn (h Yp s σ H _ I hw) fun v s1 ⟨x,H1,I1,r1,q1⟩=>?_) (he _);obtain⟨d,rfl,q⟩:=q1;cases r1;exact ib ⟨H1,I1,q⟩
variable {tA tB':TT}{rest:List Expr}
def M8 (t u:TT):TT:=fun σ H Q=>t σ H fun c H1=>if c=true then u σ H1 Q else Q false H1
def tOr (t u:TT):TT:=fun σ H Q=>t σ H fun c H1=>if c=true then Q true H1 else u σ H1 Q
def MB (t:TT):TT:=fun σ H Q=>t σ H fun c H1=>Q (!c) H1
def jZ (ha:PT X a tA):PW X (.BoolOp .And [a] pos) tA:=by
 intro wh Yp s σ H Q I h;refine isTrue_and (thn (ha Yp s σ H Q I h) fun c s1 e=>?_);cases c with
 | true=>exact isTrue_and_nil e
 | false=>exact e
def gx (ha:PT X a tA):PW X (.BoolOp .Or [a] pos) tA:=by
 intro wh Yp s σ H Q I h;refine isTrue_or (thn (ha Yp s σ H Q I h) fun c s1 e=>?_);cases c with
 | false=>exact isTrue_or_nil e
 | true=>exact e
def mW (ha:PT X a tA) (hb:PW X (.BoolOp .And (b::rest) pos) tB'):PW X (.BoolOp .And (a::b::rest) pos) (M8 tA tB'):=by
 intro wh Yp s σ H Q I h;refine isTrue_and (thn (ha Yp s σ H _ I h) fun c s1 ⟨H1,I1,q1⟩=>?_);cases c with
 | true=>exact hb wh Yp s1 σ H1 Q I1 q1
 | false=>exact⟨H1,I1,q1⟩
def jd (ha:PT X a tA) (hb:PW X (.BoolOp .Or (b::rest) pos) tB'):PW X (.BoolOp .Or (a::b::rest) pos) (tOr tA tB'):=by
 intro wh Yp s σ H Q I h;refine isTrue_or (thn (ha Yp s σ H _ I h) fun c s1 ⟨H1,I1,q1⟩=>?_);cases c with
 | true=>exact⟨H1,I1,q1⟩
 | false=>exact hb wh Yp s1 σ H1 Q I1 q1
def c9 (ha:PT X a tA):PT X (.UnaryOp .Not a pos) (MB tA):=by intro Yp s σ H Q I h;exact isTrue_not (thn (ha Yp s σ H (fun c H1=>Q (!c) H1) I h) fun c s1 ⟨H1,I1,q1⟩=>⟨H1,I1,q1⟩)
def JR (ta tb:TE):TE:=fun σ H Q=>ta σ H fun x H1=>∃ c,x=.bl c/\if c=true then tb σ H1 Q else Q (.bl false) H1
def MC (ta tb:TE):TE:=fun σ H Q=>ta σ H fun x H1=>∃ c,x=.bl c/\if c=true then Q (.bl true) H1 else tb σ H1 Q
def JX (ta:TE):TE:=fun σ H Q=>ta σ H fun x H1=>∃ c,x=.bl c/\Q (.bl (!c)) H1
def md {op}{t:TE} (h:PE X a t):PE X (.BoolOp op [a] pos) t:=fun Yp s σ H Q I hw=>BoolOp_one (h Yp s σ H Q I hw)
def ma (ha:PE X a ta) (hb:PE X (.BoolOp .And (b::rest) pos) tb):PE X (.BoolOp .And (a::b::rest) pos) (JR ta tb):=by
 intro Yp s σ H Q I h;refine BoolOp_and (thn (ha Yp s σ H _ I h) fun v s1 ⟨x,H1,I1,r1,q1⟩=>?_);obtain⟨c,rfl,q1⟩:=q1;cases r1;refine ib ?_;cases c with
 | true=>exact hb Yp s1 σ H1 Q I1 q1
 | false=>exact⟨.bl false,H1,I1,rfl,q1⟩
def Gk (ha:PE X a ta) (hb:PE X (.BoolOp .Or (b::rest) pos) tb):PE X (.BoolOp .Or (a::b::rest) pos) (MC ta tb):=by
 intro Yp s σ H Q I h;refine BoolOp_or (thn (ha Yp s σ H _ I h) fun v s1 ⟨x,H1,I1,r1,q1⟩=>?_);obtain⟨c,rfl,q1⟩:=q1;cases r1;refine ib ?_;cases c with
 | false=>exact hb Yp s1 σ H1 Q I1 q1
 | true=>exact⟨.bl true,H1,I1,rfl,q1⟩
def Lu (ha:PE X a ta):PE X (.UnaryOp .Not a pos) (JX ta):=by intro Yp s σ H Q I h;refine UnaryOp_ (thn (ha Yp s σ H _ I h) fun v s1 ⟨x,H1,I1,r1,q1⟩=>?_);obtain⟨c,rfl,q1⟩:=q1;cases r1;exact not_of (ib ⟨.bl (!c),H1,I1,rfl,q1⟩)
def tIf (t:TT) (ta tb:TE):TE:=fun σ H Q=>t σ H fun c H1=>if c=true then ta σ H1 Q else tb σ H1 Q
def mT (hc:PT X c tA) (ha:PE X a ta) (hb:PE X b tb):PE X (.IfExp c a b pos) (tIf tA ta tb):=by
 intro Yp s σ H Q I h;refine wpAny_IfExp (thn (hc Yp s σ H _ I h) fun d s1 ⟨H1,I1,q1⟩=>?_);cases d with
 | true=>exact ha Yp s1 σ H1 Q I1 q1
 | false=>exact hb Yp s1 σ H1 Q I1 q1
end
end
section
def SqL (K:Zf) (H:Hp) (a:Addr) (xs:List V):Prop :=
 Rd H a (.lst xs) ∨
  ∃ (o:Obj) (its:Array Value) (n:Nat),K.lookup a=some o/\o.cls=.type "list"/\o.dict=none/\o.data=.seq its n/\its.size<=sizeLine/\Vals xs its.toList
def SqT (K:Zf) (H:Hp) (a:Addr) (xs:List V):Prop :=
 Rd H a (.tup xs) ∨
  ∃ (o:Obj) (its:Array Value) (n:Nat),K.lookup a=some o/\o.cls=.type "tuple"/\o.data=.seq its n/\its.size<=sizeLine/\Vals xs its.toList
def MX:Value->Option V
 | .none=>some .non
 | .bool b=>some (.bl b)
 | .int i _=>some (.int i)
 | .str x _=>some (.str x)
 | .bytes b _=>some (.byt b)
 | .float b _=>some (.flt b)
 | .ref a=>some (.ref a)
 | .type n=>some (.ty n)
 | _=>none
def RelV.abs {x:V} (r:RelV x u):MX u=some x:=by
 cases x with
 | non=>cases r;rfl
 | bl _=>cases r;rfl
 | int _=>obtain⟨t,rfl⟩:=r;rfl
 | str _=>obtain⟨t,rfl⟩:=r;rfl
 | byt _=>obtain⟨t,rfl⟩:=r;rfl
 | flt _=>obtain⟨t,rfl⟩:=r;rfl
 | ref _=>cases r;rfl
 | ty _=>cases r;rfl
def RelV.inj {x y:V}{u:Value} (r:RelV x u) (q:RelV y u):x=y:=Option.some.inj (r.abs.symm.trans q.abs)
theorem Vals.inj:∀ {xs ys:List V}{us:Zc},Vals xs us->Vals ys us->xs=ys
 | _,_,_,.nil,.nil=>rfl
 | _,_,_,.cons r t,.cons r' t'=>by rw[r.inj r',Vals.inj t t']
section
variable {X:Cx}{Yp:Zp}{σ:St}{H:Hp}{s:Zg}{a:Addr}{xs ys:List V}
def SqL.of (h:H a=some (.lst xs)):SqL K H a xs:=.inl (.inl h)
def SqT.of (h:H a=some (.tup xs)):SqT K H a xs:=.inl (.inl h)
def Inv.list (I:Inv X Yp σ H s) (h:SqL X.K H a xs):∃ its:Zc,Vals xs its/\PlainL s.heap a its.toArray/\xs.length<=sizeLine:=by
 rcases h with h | ⟨o,its,n,hk,hc,hd,hs,hz,r⟩
 ·obtain⟨z,its,n,r,e⟩:=h.ok I.hok;exact⟨its,r,⟨_,n,e,rfl,rfl,rfl⟩,z⟩
 ·refine⟨its.toList,r,⟨o,n,I.kIn a o hk,hc,hd,by simpa using hs⟩,?_⟩;have e:=r.length;simp only[jq] at e;left
def Inv.tuple (I:Inv X Yp σ H s) (h:SqT X.K H a xs):∃ its:Zc,Vals xs its/\IsTup s.heap a its.toArray/\xs.length<=sizeLine:=by
 rcases h with h | ⟨o,its,n,hk,hc,hs,hz,r⟩
 ·obtain⟨z,its,r,p⟩:=h.ok I.hok;exact⟨its,r,p,z⟩
 ·refine⟨its.toList,r,⟨o,I.kIn a o hk,hc,n,by simpa using hs⟩,?_⟩;have e:=r.length;simp only[jq] at e;left
def Inv.qg (I:Inv X Yp σ H s) (h:SqL X.K H a xs) (h':SqL X.K H a ys):xs=ys:=by
 obtain⟨its,r,⟨o,n,e,_,_,d⟩,_⟩:=I.list h;obtain⟨its',r',⟨o',n',e',_,_,d'⟩,_⟩:=I.list h';rw[e] at e';cases e';rw[d] at d'
 injection d' with d1 _
 have:its=its':=by simpa using aV Array.toList d1
 subst this;exact r.inj r'
def Inv.DT (I:Inv X Yp σ H s) (h:SqT X.K H a xs) (h':SqT X.K H a ys):xs=ys:=by
 obtain⟨its,r,⟨o,e,_,n,d⟩,_⟩:=I.tuple h;obtain⟨its',r',⟨o',e',_,n',d'⟩,_⟩:=I.tuple h';rw[e] at e';cases e';rw[d] at d'
 injection d' with d1 _
 have:its=its':=by simpa using aV Array.toList d1
 subst this;exact r.inj r'
end
abbrev Cx.vA (X:Cx) (E:Zq):Cx:={ X with xe:=E }
abbrev Cx.nox (X:Cx):Cx:=X.vA fun _ _=>False
def Cx.Ok.vA {X:Cx} (ok:X.Ok) (E:Zq):(X.vA E).Ok :=
 ⟨ok.mod,ok.kind,ok.glob,ok.blt,ok.above,ok.inj,ok.has,ok.cab,ok.hd,ok.frames,ok.stk,ok.exf,ok.bs,ok.bsz,ok.noex,ok.exfs,ok.mJ,ok.frf⟩
def Cx.Ok.nG {X:Cx} (ok:(X.vA E).Ok):X.Ok :=
 ⟨ok.mod,ok.kind,ok.glob,ok.blt,ok.above,ok.inj,ok.has,ok.cab,ok.hd,ok.frames,ok.stk,ok.exf,ok.bs,ok.bsz,ok.noex,ok.exfs,ok.mJ,ok.frf⟩
section
variable {X:Cx}{Yp:Zp}{σ:St}{H:Hp}{s:Zg}{E:Zq}
def Inv.vA (I:Inv X Yp σ H s) (E:Zq):Inv (X.vA E) Yp σ H s:=⟨I.ok.vA E,I.os,I.bare,I.base,I.loc,I.cell,I.free,I.freeC,I.pin,I.hok,I.len⟩
def Inv.nG (I:Inv (X.vA E) Yp σ H s):Inv X Yp σ H s:=⟨I.ok.nG,I.os,I.bare,I.base,I.loc,I.cell,I.free,I.freeC,I.pin,I.hok,I.len⟩
def SP.nG {D:Ends}{f:Flow}{s':Zg} (h:SP (X.vA E) Yp D f s'):SP X Yp D f s':=by
 cases f with
 | next=>obtain⟨σ',H',I,q⟩:=h;exact⟨σ',H',I.nG,q⟩
 | brk=>obtain⟨σ',H',I,q⟩:=h;exact⟨σ',H',I.nG,q⟩
 | cont=>obtain⟨σ',H',I,q⟩:=h;exact⟨σ',H',I.nG,q⟩
 | ret u=>obtain⟨v,σ',H',I,r,q⟩:=h;exact⟨v,σ',H',I.nG,r,q⟩
def PSs.nox {st:List Stmt}{t:TS} (h:PSs X.nox st t):PSs X st t:=fun Yp s σ H D I hw =>bB (h Yp s σ H D (I.vA _) hw) (fun _ _ q=>q.nG) fun _ _ z=>False.elim z
end
section
variable {X:Cx}{st:Stmt}{rest:List Stmt}{t u:TS}{e:Expr}{te:TE}{pos:Pos}
def JW:TS:=fun D σ H=>D.nx σ H
def AD (t u:TS):TS:=fun D σ H=>t { D with nx:=u D } σ H
def aQ:PSs X [] JW:=fun _ _ σ H _ I h=>jQ ⟨σ,H,I,h⟩
def ae (h1:PS X st t) (h2:PSs X rest u):PSs X (st::rest) (AD t u):=by
 intro Yp s σ H D I h;refine wpAny_execs_cons (thn (h1 Yp s σ H { D with nx:=u D } I h) fun f s1 q=>?_);cases f with
 | next =>obtain⟨σ',H',I',q⟩:=q;exact h2 Yp s1 σ' H' D I' q
 | ret v=>exact q
 | brk=>exact q
 | cont=>exact q
def aj (h1:PS X st t):PSs X [st] t:=by
 intro Yp s σ H D I h;refine wpAny_execs_cons (thn (h1 Yp s σ H D I h) fun f s1 q=>?_);cases f with
 | next=>exact jQ q
 | ret v=>exact q
 | brk=>exact q
 | cont=>exact q
def Inv.quiet {σ:St}{H:Hp} (I:Inv X Yp σ H s):interactive X.env=false:=by simp [interactive,I.ok.kind]
def JS (te:TE):TS:=fun D σ H=>te σ H fun _ H1=>D.nx σ H1
def dF (he:PE X e te) (hs:swapsWith e none pos.line X.env=pure false:=by rfl):PS X (.Expr e pos) (JS te):=by intro Yp s σ H D I h;exact wpAny_Expr_any (thn (he Yp s σ H _ I h) fun v s1 ⟨x,H1,I1,r1,q1⟩=>⟨σ,H1,I1,q1⟩) I.quiet hs
def ME (te:TE):TS:=fun D σ H=>te σ H D.rt
def aH (he:PE X e te):PS X (.Return (some e) pos) (ME te):=by intro Yp s σ H D I h;exact wpAny_Return_some (thn (he Yp s σ H _ I h) fun v s1 ⟨x,H1,I1,r1,q1⟩=>⟨x,σ,H1,I1,r1,q1⟩)
def M9 (c:TT) (t u:TS):TS:=fun D σ H=>c σ H fun b H1=>if b=true then t D σ H1 else u D σ H1
def bC {a b:List Stmt}{tc:TT} (hc:PT X c tc) (ha:PSs X a t) (hb:PSs X b u):PS X (.If c a b pos) (M9 tc t u):=by
 intro Yp s σ H D I h;refine wpAny_If (thn (hc Yp s σ H _ I h) fun d s1 ⟨H1,I1,q1⟩=>?_);cases d with
 | true=>exact ha Yp s1 σ H1 D I1 q1
 | false=>exact hb Yp s1 σ H1 D I1 q1
end
abbrev TG:=V->St->Hp->(St->Hp->Prop)->Prop
abbrev TGs:=List V->St->Hp->(St->Hp->Prop)->Prop
def PG (X:Cx) (target:Expr) (t:TG):Prop :=
 ∀ (Yp:Zp) (s:Zg) (σ:St) (H:Hp) (v:V) (u:Value) (Q:St->Hp->Prop),Inv X Yp σ H s->RelV v u->t v σ H Q →
  wpAny (model X.prog X.w) X.A (assign target X.env u) (fun _ s'=>∃ σ' H',Inv X Yp σ' H' s'/\Q σ' H') X.xe s
def PGs (X:Cx) (ts:List Expr) (t:TGs):Prop :=
 ∀ (Yp:Zp) (s:Zg) (σ:St) (H:Hp) (vs:List V) (us:Zc) (Q:St->Hp->Prop),Inv X Yp σ H s->Vals vs us->t vs σ H Q →
  wpAny (model X.prog X.w) X.A (assignInOrder ((assignEach ts X.env).map (·.2)) us) (fun _ s'=>∃ σ' H',Inv X Yp σ' H' s'/\Q σ' H') X.xe s
abbrev MW:=V->V->V->Hp->(Hp->Prop)->Prop
def MV (X:Cx) (t:MW):Prop :=
 ∀ (Yp:Zp) (s:Zg) (σ:St) (H:Hp) (o i v:V) (ov iv u:Value) (Q:Hp->Prop),Inv X Yp σ H s->RelV o ov->RelV i iv->RelV v u->t o i v H Q →
  wpAny (model X.prog X.w) X.A (setItem ov iv u) (fun _ s'=>∃ H',Inv X Yp σ H' s'/\Q H') X.xe s
section
variable {X:Cx}{pos:Pos}
def gK (i:Nat):TG:=fun v σ H Q=>Q (σ.set i (some v)) H
def Bw (hN:X.N.Nodup) (hi:X.N[i]?=some x) (hx:Loc X.env.scope x) (hf:X.fn x=true∨X.env.scope.names.lookup x=some .local:=by first | exact .inl rfl | exact .inr rfl | assumption):PG X (.Name x pos) (gK i):=by intro Yp s σ H v u Q I r h;exact wpAny_assign_Name (kW I hN hi hx r (fun s' I'=>⟨_,H,I',h⟩) hf)
def Fh:TGs:=fun vs σ H Q=>vs=[]/\Q σ H
def sN (t:TG) (u:TGs):TGs:=fun vs σ H Q=>∃ v r,vs=v::r/\t v σ H fun σ' H'=>u r σ' H' Q
def eT:PGs X [] Fh:=by intro Yp s σ H vs us Q I r h;obtain⟨e,h⟩:=h;subst e;cases r;exact assignInOrder_nil ⟨σ,H,I,h⟩
def aY {t:TG}{u:TGs} (h1:PG X e t) (h2:PGs X es u)
  (hs:(assignEach (e::es) X.env).map (·.2)=assign e X.env::(assignEach es X.env).map (·.2):=by rfl):PGs X (e::es) (sN t u):=by
 intro Yp s σ H vs us Q I r h;obtain⟨v,vr,e1,h⟩:=h;subst e1;cases r with
 | cons r rr =>rw[hs];refine assignInOrder_cons (thn (h1 Yp s σ H _ _ _ I r h) fun _ s1 ⟨σ1,H1,I1,q1⟩=>?_);exact h2 Yp s1 σ1 H1 _ _ Q I1 rr q1
def Fi (K:Zf) (n:Nat) (t:TGs):TG:=fun v σ H Q=>∃ a xs,v=.ref a/\SqT K H a xs/\xs.length=n/\t xs σ H Q
def Gm {k:Nat}{t:TGs}{n:Nat} (hc:X.calm=true) (h:PGs X es t)
  (hn:(assignEach es X.env).length=n:=by rfl) (hst:(assignEach es X.env).findIdx? (·.1)=none:=by rfl):PG X (.Tuple es k pos) (Fi X.K n t):=by
 intro Yp s σ H v u Q I r hw;obtain⟨a,xs,e1,hq,hl,hw⟩:=hw;subst e1;cases r;obtain⟨its,rv,ht,hz⟩:=I.tuple hq;refine assign_Tuple_tuple (I.ok.hd hc) ht (by simp [hn,←hl,rv.length]) hst fun h' hx=>?_;have I1:Inv X Yp σ H { s with heap:=h' }:=I.kept (t':=s.toks) fun b o e=>hx b o (bz (aM e)) e;exact h Yp _ σ H xs _ Q I1 (by simpa using rv) hw
def DR (te:TE) (g:TG):TS:=fun D σ H=>te σ H fun x H1=>g x σ H1 D.nx
def se {tg e:Expr}{te:TE}{g:TG} (he:PE X e te) (hg:PG X tg g) (hs:swapsWithSole [tg] e pos.line X.env=pure false:=by rfl) (hw:swappedStores [tg] e X.env=pure none:=by rfl)
  (h1:(assignEach [tg] X.env).map (·.2)=[assign tg X.env]:=by rfl):PS X (.Assign [tg] e pos) (DR te g):=by
 intro Yp s σ H D I h;refine wpAny_Assign_stores (thn (he Yp s σ H _ I h) fun v s1 ⟨x,H1,I1,r1,q1⟩=>?_) hs hw;rw[h1];exact thn (hg Yp s1 σ H1 x v _ I1 r1 q1) fun _ s2 q=>q
def Gr {te:TE}{pos':Pos} (hN:X.N.Nodup) (hi:X.N[i]?=some x) (hx:Loc X.env.scope x) (he:PE X e te) (hs:swapsWith e (some (.Name x pos')) pos.line X.env=pure false:=by rfl) (hf:X.fn x=true∨X.env.scope.names.lookup x=some .local:=by first | exact .inl rfl | exact .inr rfl | assumption) :
  PS X (.Assign [.Name x pos'] e pos) (DR te (gK i)):=by
 intro Yp s σ H D I h;refine wpAny_Assign_Name (thn (he Yp s σ H _ I h) fun v s1 ⟨y,H1,I1,r1,q1⟩=>?_) hs;exact kW I1 hN hi hx r1 (fun s2 I2=>⟨_,H1,I2,q1⟩) hf
def MD (i j:Nat) (ta:TA):TS:=fun D σ H=>ta σ H fun vs H1=>∃ v w,vs=[v,w]/\D.nx ((σ.set i (some v)).set j (some w)) H1
def L7 {i j:Nat}{x y:Str}{a b:Expr}{ta:TA}{px py pt:Pos}{kt k2 pt2} (hc:X.calm=true) (hN:X.N.Nodup) (hi:X.N[i]?=some x) (hj:X.N[j]?=some y) (hij:i≠j)
  (hx:X.env.scope.names.lookup x=some .local) (hy:X.env.scope.names.lookup y=some .local) (ha:PA X [a,b] ta)
  (hw:swappedStores [.Tuple [.Name x px,.Name y py] kt pt] (.Tuple [a,b] k2 pt2) X.env=pure (some [x,y]))
  (hs:swapsWithSole [.Tuple [.Name x px,.Name y py] kt pt] (.Tuple [a,b] k2 pt2) pos.line X.env=pure false:=by rfl) :
  PS X (.Assign [.Tuple [.Name x px,.Name y py] kt pt] (.Tuple [a,b] k2 pt2) pos) (MD i j ta):=by
 intro Yp s σ H D I h;rw[exec_Assign_arm];refine ag (wpAny_standAt ?_);rw[hs];refine ag (a8 ?_);rw[af (by decide)];refine ag (Tuple_ (thn (ha _ Yp s σ H _ I h) fun us s1 ⟨vs,H1,I1,r1,q1⟩=>?_));obtain⟨v,w,e1,q1⟩:=q1;subst e1;obtain⟨u1,u2,rfl,rv,rw'⟩:∃ u1 u2,us=[u1,u2]/\RelV v u1/\RelV w u2:=by
  cases r1 with
  | cons p q =>
   cases q with
   | cons p' q' =>
    cases q'
    exact⟨_,_,rfl,p,p'⟩
 refine gm ?_ (by show 2<=sizeLine;decide);have I2:Inv X Yp σ H1 { s1 with heap:=s1.heap.push { cls:=.type "tuple",data:=.seq [u1,u2].toArray } }:=I1.kept (t':=s1.toks) fun b o e=>aL _ e;rw[hw];refine ag (a8 ?_);show wpAny (model X.prog X.w) X.A (do rule "assign.swapped-stores";let items ←unpackItems (.ref s1.heap.objs.size) 2 none;assignInOrder [fun v=>bindName X.env y v,fun v=>bindName X.env x v] items.reverse;pure Flow.next) _ _ _;refine ag (wpAny_rule (ag (unpackItems_tuple (items:=#[u1,u2]) (I.ok.hd hc) (IsTup.new s1.heap _) fun h' hx'=>?_)));have I3:=I2.kept (h':=h') (t':=s1.toks) fun b o e=>hx' b o (bz (aM e)) e;show wpAny _ _ (assignInOrder [fun v=>bindName X.env y v,fun v=>bindName X.env x v] [u2,u1] >>= fun _=>pure Flow.next) _ _ _;refine ag (assignInOrder_cons (wpAny_bindName (kW I3 hN hj (.inl hy) rw' (fun s2 I4=>?_) (.inr hy))));refine assignInOrder_cons (wpAny_bindName (kW I4 hN hi (.inl hx) rv (fun s3 I5=>assignInOrder_nil (a8 ?_)) (.inr hx)));rw[List.set_comm _ _ (cI hij)] at I5;exact⟨_,H1,I5,q1⟩
end
section
variable {X:Cx}{pos:Pos}
def Hl (c:TT) (tb:TS):TS:=fun D σ H=>∃ W:Nat->St->Hp->Prop,(∃ m,W m σ H)/\∀ m σ H,W m σ H →
 c σ H fun b H1=>if b=true then ∃ N:St->Hp->Prop,(∀ σ' H',N σ' H'->∃ m',m'<m/\W m' σ' H')/\tb { D with nx:=N,ct:=N,bk:=D.nx } σ H1 else D.nx σ H1
def uQ {tc:TT}{tb:TS} (hp:PassesOwn (model X.prog X.w) X.A X.env X.xe) (hc:PT X c tc) (hb:PSs X body tb):PS X (.While c body [] pos) (Hl tc tb):=by
 intro Yp s σ H D I h;obtain⟨W,⟨m0,w0⟩,turn⟩:=h;refine wpAny_While (codeAny_whileLoop (fun n s'=>∃ σ' H',Inv X Yp σ' H' s'/\W n σ' H') ?_ m0 ⟨σ,H,I,w0⟩);rintro n s1 ⟨σ1,H1,I1,w1⟩;refine fo hp (thn (hc Yp s1 σ1 H1 _ I1 (turn n σ1 H1 w1)) fun b s2 ⟨H2,I2,q2⟩=>?_);cases b with
 | true =>
  obtain⟨N,hN,q2⟩:=q2;rw[ai rfl];refine fo hp (thn (hb Yp s2 σ1 H2 _ I2 q2) fun f s3 q3=>?_);cases f with
  | next =>obtain⟨σ3,H3,I3,n3⟩:=q3;obtain⟨m',hm,w3⟩:=hN σ3 H3 n3;exact⟨m',hm,σ3,H3,I3,w3⟩
  | cont =>obtain⟨σ3,H3,I3,n3⟩:=q3;obtain⟨m',hm,w3⟩:=hN σ3 H3 n3;exact⟨m',hm,σ3,H3,I3,w3⟩
  | brk=>exact q3
  | ret v=>exact q3
 | false =>rw[af bO];exact jQ ⟨σ1,H2,I2,q2⟩
end
structure It where
 go:Nat->Hp->Prop
 yld:Nat->Hp->V->Hp->Prop
 stop:Nat->Hp->Prop
def lR (X:Cx) (Yp:Zp) (H:Hp) (b:Addr):Prop :=
 H b=none/\b≠X.env.locals/\b∉X.fs/\(b∈X.ex∨X.s₀.heap.objs.size<=b)/\(∀ x c,X.env.cells.lookup x=some c->c≠b)/\∀ p∈X.pn++Yp,p.1≠b
def Inv.tI {X:Cx}{σ:St}{H H':Hp} (I:Inv X Yp σ H s) (hb:s.heap.objs.size<=b) (hn:H' b=none):lR X Yp H' b:=by
 refine⟨hn,lF (bE I.lt hb),I.Nf hb,.inr (bQ I.sz hb),fun x c e z=>?_,fun p hp z=>?_⟩
 ·obtain⟨v,q⟩:=I.cell x c e;exact absurd (bE q.lt (by rw[z];exact hb)) (iM _)
 ·exact absurd (bE (aM (I.pin p hp).1) (by rw[z];exact hb)) (iM _)
structure Turn (P:Zh) (w:Zi) (K:Zf) (tg:Expr) (J:It) (fp:List Addr) (it:Addr) (tn:Nat->Heap->Prop):Prop where
 mem:it∈fp
 obj:∀ i h,tn i h->∀ b∈fp,∃ o,h.get? b=some o/\∀ v,o.data≠.cell v
 keep:∀ i h h',tn i h->(∀ b∈fp,∀ o,h.get? b=some o->h'.get? b=some o)->tn i h'
 item:∀ (X:Cx),X.prog=P->X.w=w->X.K=K->X.calm=true->∀ (i:Nat) (Yp:Zp) (s:Zg) (σ:St) (H:Hp) (E:Zq),Inv X Yp σ H s->(∀ b∈fp,lR X Yp H b)->tn i s.heap->J.go i H →
  wpAny (model P w) X.A (pyNext (.ref it)) (fun r s1=>∃ u,r=some u ∧
   wpAny (model P w) X.A (letOwnedTupleGo tg (.ref it) u) (fun _ s2=>∃ x H',Inv X Yp σ H' s2/\RelV x u/\J.yld i H x H'/\tn (i+1) s2.heap/\∀ b∈fp,H' b=none) E s1) E s
 done:∀ (X:Cx),X.prog=P->X.w=w->X.K=K->X.calm=true->∀ (i:Nat) (Yp:Zp) (s:Zg) (σ:St) (H:Hp) (E:Zq),Inv X Yp σ H s->(∀ b∈fp,lR X Yp H b)->tn i s.heap->J.stop i H →
  wpAny (model P w) X.A (pyNext (.ref it)) (fun r s1=>r=none/\Inv X Yp σ H s1) E s
 self:∀ (A:Around) (i:Nat) (s:Zg) (Q:Zq) (E:Zq),tn i s.heap->Q (.ref it) s->wpAny (model P w) A (pyIter (.ref it)) Q E s
abbrev TI:=St->Hp->(It->Hp->Prop)->Prop
def PIE (X:Cx) (Yp:Zp) (σ:St) (tg:Expr) (R:It->Hp->Prop) (itv:Value) (s2:Zg):Prop :=
 ∃ (it:Addr) (fp:List Addr) (tn:Nat->Heap->Prop) (J:It) (H':Hp),itv=.ref it/\Inv X Yp σ H' s2/\Turn X.prog X.w X.K tg J fp it tn/\tn 0 s2.heap/\(∀ b∈fp,lR X Yp H' b)/\R J H'
def PI (X:Cx) (tg iter:Expr) (wi:TI):Prop :=
 ∀ (Yp:Zp) (s:Zg) (σ:St) (H:Hp) (R:It->Hp->Prop),Inv X Yp σ H s->wi σ H R →
  wpAny (model X.prog X.w) X.A (eval iter X.env) (fun v s1=>wpAny (model X.prog X.w) X.A (pyIter v) (PIE X Yp σ tg R) X.xe s1) X.xe s
def uv {M:Model}{A:Around}{E:Zq}{tg:Expr}{u:Value}{n:String}{vs:Array Value}{Q:Unit->Zg->Prop} (ho:s.heap.get? it=some o) (hc:o.cls=.type n) (hd:o.data=.fields vs)
  (hn:["enumerate","zip","dict_itemiterator","dict_reverseitemiterator","odict_iterator","itertools.zip_longest","itertools.pairwise"].contains n=false) (hQ:Q () s):wpAny M A (letOwnedTupleGo tg (.ref it) u) Q E s:=by
 unfold letOwnedTupleGo;cases tg<;>first
  | exact a8 hQ
  | (cases u<;>first
    | exact a8 hQ
    | (refine ag (wpAny_load ho ?_)
       rw[hc,hd];show wpAny M A (if (["enumerate","zip","dict_itemiterator","dict_reverseitemiterator","odict_iterator","itertools.zip_longest","itertools.pairwise"].contains n&&vs[0]?==some (rawInt _))=true then _ else _) Q E s;rw[af (by intro h;rw[hn,jr] at h;cases h)];exact a8 hQ))
def Itl (K:Zf) (a:Addr):It :=
 ⟨fun i H=>∃ xs x,SqL K H a xs/\xs[i]?=some x,fun i H x H'=>H'=H/\∀ xs,SqL K H a xs->xs[i]?=some x,fun i H=>∃ xs,SqL K H a xs/\xs.length<=i⟩
def Itt (K:Zf) (a:Addr):It :=
 ⟨fun i H=>∃ xs x,SqT K H a xs/\xs[i]?=some x,fun i H x H'=>H'=H/\∀ xs,SqT K H a xs->xs[i]?=some x,fun i H=>∃ xs,SqT K H a xs/\xs.length<=i⟩
def Itr (lo:Int) (n:Nat):It:=⟨fun i _=>i<n,fun i H x H'=>H'=H/\x=.int (lo+i),fun i _=>n<=i⟩
def kY (a it:Addr):Turn P w K tg (Itl K a) [it] it (fun i h=>h.IsListIter it a i) where
 mem:=by simp
 obj:=fun i h st b hb=>by
  have e:b=it:=by simpa using hb
  subst e;obtain⟨o,e,c,d⟩:=st;exact⟨o,e,fun v z=>by rw[d] at z;cases z⟩
 keep:=fun i h h' st k=>st.at fun o e=>k it (by simp) o e
 item:=by intro X hP hw hK hc i Yp s σ H E I hf st hg;subst hP hw hK;obtain⟨xs,x,hq,hx⟩:=hg;obtain⟨its,rv,p,hz⟩:=I.list hq;obtain⟨u,hu,ru⟩:=rv.get hx;obtain⟨f0,f1,f2,f3,f4,f5⟩:=hf it (by simp);refine wpAny_pyNext_list_item st p.isList (x:=u) (by simpa using hu) fun h' st' sb=>?_;have I1:Inv X Yp σ H { s with heap:=h' }:=I.turned (t':=s.toks) (fun b o hb e=>(sb.2 b hb).trans e) f0 f1 f3 f4 f5;obtain⟨o,e,c,d⟩:=id st';exact⟨u,rfl,uv (s:={ s with heap:=h' }) e c d Zd ⟨x,H,I1,ru,⟨rfl,fun ys hy=>by rw[I.qg hy hq];exact hx⟩,st',fun b hb=>(hf b hb).1⟩⟩
 done:=by intro X hP hw hK hc i Yp s σ H E I hf st hg;subst hP hw hK;obtain⟨xs,hq,hx⟩:=hg;obtain⟨its,rv,p,hz⟩:=I.list hq;obtain⟨f0,f1,f2,f3,f4,f5⟩:=hf it (by simp);have hl:=rv.length;exact wpAny_pyNext_list_end (I.ok.hd hc) st p.isList (by simp;left) fun h' eb=>⟨rfl,I.turned (t':=s.toks) (fun b o hb e=>eb b o hb e) f0 f1 f3 f4 f5⟩
 self:=fun _ _ _ _ _ st h=>wpAny_pyIter_listiter st h
def AI (a it:Addr):Turn P w K tg (Itt K a) [it] it (fun i h=>h.IsTupleIter it a i) where
 mem:=by simp
 obj:=fun i h st b hb=>by
  have e:b=it:=by simpa using hb
  subst e;obtain⟨o,e,c,d⟩:=st;exact⟨o,e,fun v z=>by rw[d] at z;cases z⟩
 keep:=fun i h h' st k=>st.at fun o e=>k it (by simp) o e
 item:=by intro X hP hw hK hc i Yp s σ H E I hf st hg;subst hP hw hK;obtain⟨xs,x,hq,hx⟩:=hg;obtain⟨its,rv,p,hz⟩:=I.tuple hq;obtain⟨u,hu,ru⟩:=rv.get hx;obtain⟨f0,f1,f2,f3,f4,f5⟩:=hf it (by simp);refine wpAny_pyNext_tuple_item st (show s.heap.IsTuple a its.toArray from p) (x:=u) (by simpa using hu) fun h' st' sb=>?_;have I1:Inv X Yp σ H { s with heap:=h' }:=I.turned (t':=s.toks) (fun b o hb e=>(sb.2 b hb).trans e) f0 f1 f3 f4 f5;obtain⟨o,e,c,d⟩:=id st';exact⟨u,rfl,uv (s:={ s with heap:=h' }) e c d Zd ⟨x,H,I1,ru,⟨rfl,fun ys hy=>by rw[I.DT hy hq];exact hx⟩,st',fun b hb=>(hf b hb).1⟩⟩
 done:=by intro X hP hw hK hc i Yp s σ H E I hf st hg;subst hP hw hK;obtain⟨xs,hq,hx⟩:=hg;obtain⟨its,rv,p,hz⟩:=I.tuple hq;obtain⟨f0,f1,f2,f3,f4,f5⟩:=hf it (by simp);have hl:=rv.length;exact wpAny_pyNext_tuple_end (I.ok.hd hc) st (show s.heap.IsTuple a its.toArray from p) (by simp;left) fun h' eb=>⟨rfl,I.turned (t':=s.toks) (fun b o hb e=>eb b o hb e) f0 f1 f3 f4 f5⟩
 self:=fun _ _ _ _ _ st h=>wpAny_pyIter_tupleiter st h
def jH (it:Addr) (lo:Int) (n:Nat):Turn P w K tg (Itr lo n) [it] it (fun i h=>IsRangeIter h it (lo+(i:Nat)*1) ((n:Int)-(i:Nat)) 1) where
 mem:=by simp
 obj:=fun i h st b hb=>by
  have e:b=it:=by simpa using hb
  subst e;exact⟨_,st,fun v z=>by have z':Data.fields _=Data.cell v:=z;cases z'⟩
 keep:=fun i h h' st k=>k it (by simp) _ st
 item:=by intro X hP hw hK hc i Yp s σ H E I hf st hg;subst hP hw hK;obtain⟨f0,f1,f2,f3,f4,f5⟩:=hf it (by simp);have W:=Walks.range (prog:=X.prog) (w:=X.w) (I.ok.hd hc) it lo 1 n;refine W.item i s _ _ hg st fun v h' tk hv st' kk=>?_;obtain⟨t,rfl⟩:=hv;have I1:Inv X Yp σ H { s with heap:=h',toks:=tk }:=I.turned (fun b o hb e=>kk b o (by simpa using hb) e) f0 f1 f3 f4 f5;refine⟨_,rfl,uv (s:={ s with heap:=h',toks:=tk }) (n:="range_iterator") st' rfl rfl Zd ⟨.int (lo+i),H,I1,⟨t,?_⟩,⟨rfl,rfl⟩,st',fun b hb=>(hf b hb).1⟩⟩;rw[Int.mul_one]
 done:=by intro X hP hw hK hc i Yp s σ H E I hf st hg;subst hP hw hK;obtain⟨f0,f1,f2,f3,f4,f5⟩:=hf it (by simp);exact wpAny_pyNext_range_end (I.ok.hd hc) st (by have:n<=i:=hg;left) fun h' eb=>⟨rfl,I.turned (t':=s.toks) (fun b o hb e=>eb b o hb e) f0 f1 f3 f4 f5⟩
 self:=fun _ _ _ _ _ st h=>wpAny_pyIter_rangeiter st h
end
section
section
variable {X:Cx}{tg:Expr}
def GH {σ:St}{H:Hp}{R:It->Hp->Prop}{E:Zq}{lo hi:Int}{t u v:Tok}{tk:Nat} (I:Inv X Yp σ H s) (h1:-(2^62)<=lo) (h2:lo<2^62) (h3:-(2^62)<=hi) (h4:hi<2^62)
  (q:R (Itr lo (hi-lo).toNat) H):wpAny (model X.prog X.w) X.A (pyIter (.ref s.heap.objs.size)) (PIE X Yp σ tg R) E { s with heap:=s.heap.push { cls:=.type "range",data:=.fields #[.int lo t,.int hi u,.int 1 v] },toks:=tk }:=by
 refine wpAny_pyIter_range (IsRange.new ..) (small_one h1 h2 h3 h4) ?_;have I1:Inv X Yp σ H { s with heap:=s.heap.push { cls:=.type "range",data:=.fields #[.int lo t,.int hi u,.int 1 v] },toks:=tk }:=I.kept fun b o e=>aL _ e;refine⟨(s.heap.push { cls:=.type "range",data:=.fields #[.int lo t,.int hi u,.int 1 v] }).objs.size,[(s.heap.push { cls:=.type "range",data:=.fields #[.int lo t,.int hi u,.int 1 v] }).objs.size],_,_,H,rfl,
  I1.kept (t':=tk) fun b o e=>aL _ e,jH _ lo (hi-lo).toNat,?_,fun b hb=>?_,q⟩
 ·have e1:lo+((0:Nat):Int)*1=lo:=by simp
  have e2:(((hi-lo).toNat:Nat):Int)-((0:Nat):Int)=Builtin.Range.rangeSize lo hi 1:=by rw[rangeSize_one];split<;>left
  show IsRangeIter _ _ (lo+((0:Nat):Int)*1) ((((hi-lo).toNat:Nat):Int)-((0:Nat):Int)) 1;rw[e1,e2];exact bj _ rfl
 ·have e:b=(s.heap.push { cls:=.type "range",data:=.fields #[.int lo t,.int hi u,.int 1 v] }).objs.size:=by simpa using hb
  subst e;exact I1.tI (aq _) (I1.hok.fresh (aq _))
def Fv (ta:TA):TI:=fun σ H R=>ta σ H fun vs H1=>∃ j:Int,vs=[.int j]/\-(2^62)<=j/\j<2^62/\R (Itr 0 j.toNat) H1
def DJ {a:Expr}{ta:TA}{p pos:Pos} (hg:Gl X "range") (hm:X.mg "range"=none) (ha:PA X [a] ta) (hs:starEach [a] X.env=[(false,eval a X.env)]:=by rfl):PI X tg (.Call (.Name "range" p) [a] [] pos) (Fv ta):=by
 intro Yp s σ H R I h;refine Call_ (rO I hg hm boot_range (ri (thn (ha pos Yp s σ H _ I h) fun us s1 ⟨vs,H1,I1,r1,q1⟩=>?_) hs rfl));obtain⟨j,e,q1,q2,q⟩:=q1;subst e;cases r1 with
 | cons r rr =>
  cases rr
  obtain⟨t,rfl⟩:=r;exact call_range_1 (GH I1 (by left) (by left) q1 q2 (by simpa using q))
def LF (wi:TI) (g:TG) (tb:TS):TS:=fun D σ H=>wi σ H fun J H1=>∃ W:Nat->Nat->St->Hp->Prop,(∃ m,W 0 m σ H1)/\∀ i m σ H,W i m σ H →
 (J.stop i H/\D.nx σ H)∨(J.go i H/\∃ N:St->Hp->Prop,(∀ σ' H',N σ' H'->∃ m',m'<m/\W (i+1) m' σ' H')/\∀ x H',J.yld i H x H'->g x σ H' fun σ2 H2=>tb { D with nx:=N,ct:=N,bk:=D.nx } σ2 H2)
def pk (fp:List Addr) (h:Heap):Zp:=fp.filterMap fun b=>(h.get? b).map fun o=>(b,o)
def fA (hb:b∈fp) (e:h.get? b=some o):(b,o)∈pk fp h:=List.mem_filterMap.mpr ⟨b,hb,by rw[e];rfl⟩
def D7 {p:Addr×Obj} (hp:p∈pk fp h):p.1∈fp/\h.get? p.1=some p.2:=by
 obtain⟨b,hb,e⟩:=List.mem_filterMap.mp hp;cases q:h.get? b with
 | none=>rw[q] at e;cases e
 | some o =>rw[q] at e;have e':(b,o)=p:=Option.some.inj e;subst e';exact⟨hb,q⟩
def Inv.pinned {σ:St}{H:Hp} (I:Inv X Yp σ H s) (hf:∀ b∈fp,lR X Yp H b) (ho:∀ b∈fp,∃ o,s.heap.get? b=some o/\∀ v,o.data≠.cell v):Inv X (Yp++pk fp s.heap) σ H s :=
 I.Bz fun p hp=>(bI.mp hp).elim (fun z=>I.pin p (cA _ z)) fun z=>by obtain⟨hb,e⟩:=D7 z;obtain⟨f0,f1,f2,_⟩:=hf p.1 hb;obtain⟨o,e',d⟩:=ho p.1 hb;rw[e] at e';cases e';exact⟨e,f0,f1,f2,d⟩
def Inv.iG {Yp pl:Zp}{σ:St}{H:Hp} (I:Inv X (Yp++pl) σ H s):Inv X Yp σ H s:=I.Bz fun p hp=>I.pin p (cA _ (nV _ hp))
def iT {iter:Expr}{wi:TI}{g:TG}{tb:TS}{pos:Pos} (hp:PassesOwn (model X.prog X.w) X.A X.env X.xe) (hc:X.calm=true) (hi:PI X tg iter wi) (hg:PG X tg g) (hb:PSs X body tb)
  (hs:∀ x,foldedSetIterable iter X.env x=pure x:=by intro _;rfl):PS X (.For tg iter body [] pos) (LF wi g tb):=by
 intro Yp s σ H D I h;refine wpAny_For (thn (hi Yp s σ H _ I h) fun v s1 h1=>thn h1 fun itv s2 h2=>?_) hs;obtain⟨it,fp,tn,J,H2,e,I2,T,st2,f2,W,⟨m0,w0⟩,turn⟩:=h2;subst e
 -- what stays true of the iterator's objects through the loop
 have stat:∀ {H':Hp},(∀ b∈fp,H' b=none)->∀ b∈fp,lR X Yp H' b:=fun hn b hb=>⟨hn b hb,(f2 b hb).2⟩;refine codeAny_forLoop_any (fun n s'=>∃ i σ' H',Inv X Yp σ' H' s'/\tn i s'.heap/\(∀ b∈fp,H' b=none)/\W i n σ' H') ?_ m0 ⟨0,σ,H2,I2,st2,fun b hb=>(f2 b hb).1,w0⟩;rintro n s3 ⟨i,σ3,H3,I3,st3,fr3,w3⟩;rcases turn i n σ3 H3 w3 with ⟨stop,qn⟩ | ⟨go,N,hN,step⟩
 ·refine fo hp (thn (T.done X rfl rfl rfl hc i Yp s3 σ3 H3 X.xe I3 (stat fr3) st3 stop) fun r s4 ⟨hr,I4⟩=>?_);subst hr;exact jQ ⟨σ3,H3,I4,qn⟩
 ·refine fo hp (thn (T.item X rfl rfl rfl hc i Yp s3 σ3 H3 X.xe I3 (stat fr3) st3 go) fun r s4 ⟨u,hr,h4⟩=>?_);subst hr;refine fo hp (thn h4 fun _ s5 ⟨x,H5,I5,r5,y5,st5,fr5⟩=>?_);have I5':=I5.pinned (stat fr5) (T.obj _ _ st5);refine fo hp (thn (hg _ s5 σ3 H5 x u _ I5' r5 (step x H5 y5)) fun _ s6 ⟨σ6,H6,I6,q6⟩=>?_);refine fo hp (thn (hb _ s6 σ6 H6 _ I6 q6) fun f s7 q7=>?_);have again:∀ {σ7:St}{H7:Hp},Inv X (Yp++pk fp s5.heap) σ7 H7 s7->N σ7 H7->∃ m,m<n/\∃ i σ' H',Inv X Yp σ' H' s7/\tn i s7.heap/\(∀ b∈fp,H' b=none)/\W i m σ' H':=fun {σ7 H7} I7 n7=>by
   obtain⟨m',hm,w7⟩:=hN σ7 H7 n7;refine⟨m',hm,i+1,σ7,H7,I7.iG,T.keep _ _ _ st5 fun b hb o e=>(I7.pin (b,o) (cA _ (cA _ (fA hb e)))).1,fun b hb=>?_,w7⟩;obtain⟨o,e,d⟩:=T.obj _ _ st5 b hb;exact (I7.pin (b,o) (cA _ (cA _ (fA hb e)))).2.1
  cases f with
  | next=>obtain⟨σ7,H7,I7,n7⟩:=q7;exact again I7 n7
  | cont=>obtain⟨σ7,H7,I7,n7⟩:=q7;exact again I7 n7
  | brk=>obtain⟨σ7,H7,I7,q7⟩:=q7;exact⟨σ7,H7,I7.iG,q7⟩
  | ret v=>obtain⟨x7,σ7,H7,I7,r7,q7⟩:=q7;exact⟨x7,σ7,H7,I7.iG,r7,q7⟩
end
def Fc {xs:List V}{g:TG}{tb:TS}{D:Ends}{σ:St}{H:Hp} (Pv:Nat->St->Hp->Prop) (h0:Pv 0 σ H) (hl:∀ i σ H,i<=xs.length->Pv i σ H->SqL K H a xs)
  (hs:∀ i x σ H,xs[i]?=some x->Pv i σ H->g x σ H fun σ2 H2=>tb { D with nx:=Pv (i+1),ct:=Pv (i+1),bk:=D.nx } σ2 H2) (hd:∀ σ H,Pv xs.length σ H->D.nx σ H) :
  ∃ W:Nat->Nat->St->Hp->Prop,(∃ m,W 0 m σ H)/\∀ i m σ H,W i m σ H →
   ((Itl K a).stop i H/\D.nx σ H)∨((Itl K a).go i H/\∃ N:St->Hp->Prop,(∀ σ' H',N σ' H'->∃ m',m'<m/\W (i+1) m' σ' H')/\∀ x H',(Itl K a).yld i H x H'->g x σ H' fun σ2 H2=>tb { D with nx:=N,ct:=N,bk:=D.nx } σ2 H2):=by
 refine⟨fun i m σ H=>m=xs.length-i/\i<=xs.length/\Pv i σ H,⟨xs.length,by simp,bH _,h0⟩,?_⟩;rintro i m σ H ⟨rfl,hi,p⟩;have q:=hl i σ H hi p
 by_cases hlt:i<xs.length
 ·refine .inr ⟨⟨xs,xs[i],q,by simp [hlt]⟩,Pv (i+1),fun σ' H' p'=>⟨xs.length-(i+1),by left,rfl,hlt,p'⟩,fun x H' y=>?_⟩;obtain⟨e,y⟩:=y;subst e;exact hs i x σ _ (y xs q) p
 ·have e:i=xs.length:=by left
  subst e;exact .inl ⟨⟨xs,q,aq _⟩,hd σ H p⟩
def Dh {lo:Int}{n:Nat}{g:TG}{tb:TS}{D:Ends}{σ:St}{H:Hp} (Pv:Nat->St->Hp->Prop) (h0:Pv 0 σ H)
  (hs:∀ i σ H,i<n->Pv i σ H->g (.int (lo+i)) σ H fun σ2 H2=>tb { D with nx:=Pv (i+1),ct:=Pv (i+1),bk:=D.nx } σ2 H2) (hd:∀ σ H,Pv n σ H->D.nx σ H) :
  ∃ W:Nat->Nat->St->Hp->Prop,(∃ m,W 0 m σ H)/\∀ i m σ H,W i m σ H →
   ((Itr lo n).stop i H/\D.nx σ H)∨((Itr lo n).go i H/\∃ N:St->Hp->Prop,(∀ σ' H',N σ' H'->∃ m',m'<m/\W (i+1) m' σ' H')/\∀ x H',(Itr lo n).yld i H x H'->g x σ H' fun σ2 H2=>tb { D with nx:=N,ct:=N,bk:=D.nx } σ2 H2):=by
 refine⟨fun i m σ H=>m=n-i/\i<=n/\Pv i σ H,⟨n,by simp,bH _,h0⟩,?_⟩;rintro i m σ H ⟨rfl,hi,p⟩
 by_cases hlt:i<n
 ·refine .inr ⟨hlt,Pv (i+1),fun σ' H' p'=>⟨n-(i+1),by left,rfl,hlt,p'⟩,fun x H' y=>?_⟩;obtain⟨e,y⟩:=y;subst e y;exact hs i σ _ hlt p
 ·have e:i=n:=by left
  subst e;exact .inl ⟨aq _,hd σ H p⟩
end
section
abbrev R2:=V->V->Hp->VK->Prop
def OpR (X:Cx) (f:Value->Value->Sem Value) (r:R2):Prop :=
 ∀ (Yp:Zp) (s:Zg) (σ:St) (H:Hp) (x y:V) (v u:Value) (Q:VK),Inv X Yp σ H s->RelV x v->RelV y u->r x y H Q →
  wpAny (model X.prog X.w) X.A (f v u) (EP X Yp σ Q) X.xe s
def UnR (X:Cx) (f:Value->Sem Value) (r:V->Hp->VK->Prop):Prop :=
 ∀ (Yp:Zp) (s:Zg) (σ:St) (H:Hp) (x:V) (v:Value) (Q:VK),Inv X Yp σ H s->RelV x v->r x H Q →
  wpAny (model X.prog X.w) X.A (f v) (EP X Yp σ Q) X.xe s
def cS (X:Cx) (f:Value) (r:List V->Hp->VK->Prop):Prop :=
 ∀ (Yp:Zp) (s:Zg) (σ:St) (H:Hp) (xs:List V) (us:Zc) (Q:VK),Inv X Yp σ H s->Vals xs us->r xs H Q →
  wpAny (model X.prog X.w) X.A (call f us) (EP X Yp σ Q) X.xe s
def tOp (r:R2) (ta tb:TE):TE:=fun σ H Q=>ta σ H fun x H1=>tb σ H1 fun y H2=>r x y H2 Q
def tUn (r:V->Hp->VK->Prop) (ta:TE):TE:=fun σ H Q=>ta σ H fun x H1=>r x H1 Q
def rI (C:Int->Int->Prop) (g:Int->Int->V):R2:=fun x y H Q=>∃ i j,x=.int i/\y=.int j/\C i j/\Q (g i j) H
def rI0 (g:Int->Int->V):R2:=fun x y H Q=>∃ i j,x=.int i/\y=.int j/\Q (g i j) H
def rU (g:Int->V):V->Hp->VK->Prop:=fun x H Q=>∃ i,x=.int i/\Q (g i) H
section
variable {X:Cx}{a b c:Expr}{ta tb tc:TE}{pos:Pos}
def Ku (ha:PE X a ta) (hb:PE X b tb) {σ:St}{H:Hp}{R:V->V->Hp->Prop} (I:Inv X Yp σ H s)
  (h:ta σ H fun x H1=>tb σ H1 fun y H2=>R x y H2) {Q:Zq}{f:Value->Value->Sem Value}
  (hf:∀ v u s2 x y H2,Inv X Yp σ H2 s2->RelV x v->RelV y u->R x y H2->wpAny (model X.prog X.w) X.A (f v u) Q X.xe s2) :
  wpAny (model X.prog X.w) X.A (eval a X.env) (fun v s₁=>wpAny (model X.prog X.w) X.A (eval b X.env) (fun u s₂=>wpAny (model X.prog X.w) X.A (f v u) Q X.xe s₂) X.xe s₁) X.xe s:=by
 refine thn (ha Yp s σ H _ I h) fun v s1 ⟨x,H1,I1,r1,q1⟩=>?_;refine thn (hb Yp s1 σ H1 _ I1 q1) fun u s2 ⟨y,H2,I2,r2,q2⟩=>?_;exact hf v u s2 x y H2 I2 r1 r2 q2
def aR {op:Operator}{r:R2} (ho:OpR X (binaryOp op) r) (ha:PE X a ta) (hb:PE X b tb):PE X (.BinOp a op b pos) (tOp r ta tb):=by intro Yp s σ H Q I h;exact wpAny_BinOp (Ku ha hb I h fun v u s2 x y H2 I2 rx ry q=>ho Yp s2 σ H2 x y v u Q I2 rx ry q)
def JB {op:UnaryOp}{r:V->Hp->VK->Prop} (ho:UnR X (unaryOp op) r) (ha:PE X a ta):PE X (.UnaryOp op a pos) (tUn r ta):=by intro Yp s σ H Q I h;exact UnaryOp_ (thn (ha Yp s σ H _ I h) fun v s1 ⟨x,H1,I1,r1,q1⟩=>ho Yp s1 σ H1 x v Q I1 r1 q1)
def opI {f:Value->Value->Sem Value}{C:Int->Int->Prop}{g:Int->Int->Int}
  (rule:∀ (i j:Int) (t u:Tok) (s:Zg) (Q:Zq) (E:Zq),C i j->Q (.int (g i j) s.toks) { s with toks:=s.toks+1 }->wpAny (model X.prog X.w) X.A (f (.int i t) (.int j u)) Q E s) :
  OpR X f (rI C fun i j=>.int (g i j)):=by
 intro Yp s σ H x y v u Q I rx ry h;obtain⟨i,j,rfl,rfl,hc,q⟩:=h;obtain⟨t,rfl⟩:=rx;obtain⟨t',rfl⟩:=ry;exact rule i j t t' s _ _ hc ⟨.int (g i j),H,I.tok _,⟨_,rfl⟩,q⟩
def Mn {f:Value->Value->Sem Value}{g:Int->Int->Int}
  (rule:∀ (i j:Int) (t u:Tok) (s:Zg) (Q:Zq) (E:Zq),Q (.int (g i j) s.toks) { s with toks:=s.toks+1 }->wpAny (model X.prog X.w) X.A (f (.int i t) (.int j u)) Q E s) :
  OpR X f (rI0 fun i j=>.int (g i j)):=by
 intro Yp s σ H x y v u Q I rx ry h;obtain⟨i,j,rfl,rfl,q⟩:=h;obtain⟨t,rfl⟩:=rx;obtain⟨t',rfl⟩:=ry;exact rule i j t t' s _ _ ⟨.int (g i j),H,I.tok _,⟨_,rfl⟩,q⟩
def IP {f:Value->Value->Sem Value}{g:Int->Int->Bool}
  (rule:∀ (i j:Int) (t u:Tok) (s:Zg) (Q:Zq) (E:Zq),Q (.bool (g i j)) s->wpAny (model X.prog X.w) X.A (f (.int i t) (.int j u)) Q E s) :
  OpR X f (rI0 fun i j=>.bl (g i j)):=by
 intro Yp s σ H x y v u Q I rx ry h;obtain⟨i,j,rfl,rfl,q⟩:=h;obtain⟨t,rfl⟩:=rx;obtain⟨t',rfl⟩:=ry;exact rule i j t t' s _ _ ⟨.bl (g i j),H,I,rfl,q⟩
def MU (i j:Int):Prop:=0<=j/\j<=1000000/\i.natAbs<2^64
def KZ:OpR X (binaryOp .Add) (rI0 fun i j=>.int (i+j)):=Mn fun _ _ _ _ _ _ _ q=>add_int q
def Lo:OpR X (binaryOp .Sub) (rI0 fun i j=>.int (i-j)):=Mn fun _ _ _ _ _ _ _ q=>sub_int q
def Li:OpR X (binaryOp .Mod) (rI (fun _ j=>0<j) fun i j=>.int (i%j)):=opI fun i j _ _ _ _ _ hc q=>by have h1:(0:Int)<j:=hc;exact mod_int' (by left) (by rw[Int.fmod_eq_emod_of_nonneg i (by left)];exact q)
def Lm:OpR X (binaryOp .Pow) (rI MU fun i j=>.int (i^j.toNat)):=opI fun _ _ _ _ _ _ _ hc q=>pow_int_small hc.1 hc.2.1 hc.2.2 q
def unI {f:Value->Sem Value}{g:Int->Int}
  (rule:∀ (i:Int) (t:Tok) (s:Zg) (Q:Zq) (E:Zq),Q (.int (g i) s.toks) { s with toks:=s.toks+1 }->wpAny (model X.prog X.w) X.A (f (.int i t)) Q E s) :
  UnR X f (rU fun i=>.int (g i)):=by
 intro Yp s σ H x v Q I rx h;obtain⟨i,rfl,q⟩:=h;obtain⟨t,rfl⟩:=rx;exact rule i t s _ _ ⟨.int (g i),H,I.tok _,⟨_,rfl⟩,q⟩
def Hq:UnR X (unaryOp .USub) (rU fun i=>.int (-i)):=unI fun _ _ _ _ _ q=>neg_int q
end
def M7:V->V->Bool
 | .non,.non=>true | .non,.int _=>true | .int _,.non=>true | .non,.bl _=>true | .bl _,.non=>true | .non,.str _=>true | .str _,.non=>true
 | .int _,.int _=>true | .bl _,.bl _=>true | .str _,.str _=>true | .byt _,.byt _=>true
 | .int _,.str _=>true | .str _,.int _=>true | .bl _,.str _=>true | .str _,.bl _=>true
 | _,_=>false
def rEq:R2:=fun x y H Q=>M7 x y=true/\Q (.bl (decide (x=y))) H
def rNe:R2:=fun x y H Q=>M7 x y=true/\Q (.bl (!decide (x=y))) H
def AZ {i j:Int}:decide (V.int i=V.int j)=(i==j):=by rw[mz];simp
def ED {i j:Bool}:decide (V.bl i=V.bl j)=(i==j):=by rw[mz];simp
def Ba {i j:Str}:decide (V.str i=V.str j)=(i==j):=by rw[mz];simp
def AY {i j:Array UInt8}:decide (V.byt i=V.byt j)=(i.toList==j.toList):=by rw[mz];cases i;cases j;simp
section
variable {X:Cx}{a b c:Expr}{ta tb tc:TE}{pos:Pos}
def bY {σ:St}{H:Hp}{Q:VK}{k k':Bool} (I:Inv X Yp σ H s) (q:Q (.bl k) H) (e:k=k'):EP X Yp σ Q (.bool k') s:=by subst e;exact⟨.bl k,H,I,rfl,q⟩
def FV:OpR X (compareOp .Eq) rEq:=by
 intro Yp s σ H x y v u Q I rx ry h;obtain⟨hs,q⟩:=h;cases x with
 | non =>
  cases rx
  cases y with
  | non=>cases ry;exact PySem.EqNone.eq_none_none (bY I q (by simp))
  | bl j=>cases ry;exact PySem.EqNone.eq_none_bool (bY I q (by simp))
  | int j=>obtain⟨t',rfl⟩:=ry;exact PySem.EqNone.eq_none_int (bY I q (by simp))
  | str j=>obtain⟨t',rfl⟩:=ry;exact PySem.EqNone.eq_none_str (bY I q (by simp))
  | _=>exact absurd (show false=true from hs) bO
 | bl i =>
  cases rx
  cases y with
  | non=>cases ry;exact PySem.EqNone.eq_bool_none (bY I q (by simp))
  | bl j=>cases ry;exact eq_bool (bY I q ED)
  | str j=>obtain⟨t',rfl⟩:=ry;exact PySem.EqMixed.eq_bool_str (bY I q (by simp))
  | _=>exact absurd (show false=true from hs) bO
 | int i =>
  obtain⟨t,rfl⟩:=rx;cases y with
  | non=>cases ry;exact PySem.EqNone.eq_int_none (bY I q (by simp))
  | int j=>obtain⟨t',rfl⟩:=ry;exact eq_int (bY I q AZ)
  | str j=>obtain⟨t',rfl⟩:=ry;exact PySem.EqMixed.eq_int_str (bY I q (by simp))
  | _=>exact absurd (show false=true from hs) bO
 | str i =>
  obtain⟨t,rfl⟩:=rx;cases y with
  | non=>cases ry;exact PySem.EqNone.eq_str_none (bY I q (by simp))
  | bl j=>cases ry;exact PySem.EqMixed.eq_str_bool (bY I q (by simp))
  | int j=>obtain⟨t',rfl⟩:=ry;exact PySem.EqMixed.eq_str_int (bY I q (by simp))
  | str j=>obtain⟨t',rfl⟩:=ry;exact eq_str (bY I q Ba)
  | _=>exact absurd (show false=true from hs) bO
 | byt i =>
  obtain⟨t,rfl⟩:=rx;cases y with
  | byt j=>obtain⟨t',rfl⟩:=ry;exact PySem.W.eq_bytes (bY I q AY)
  | _=>exact absurd (show false=true from hs) bO
 | _=>cases y<;>exact absurd (show false=true from hs) bO
def FY:OpR X (compareOp .NotEq) rNe:=by
 intro Yp s σ H x y v u Q I rx ry h;obtain⟨hs,q⟩:=h;cases x with
 | non =>
  cases rx
  cases y with
  | non=>cases ry;exact PySem.EqNone.ne_none_none (bY I q (by simp))
  | bl j=>cases ry;exact PySem.EqNone.ne_none_bool (bY I q (by simp))
  | int j=>obtain⟨t',rfl⟩:=ry;exact PySem.EqNone.ne_none_int (bY I q (by simp))
  | str j=>obtain⟨t',rfl⟩:=ry;exact PySem.EqNone.ne_none_str (bY I q (by simp))
  | _=>exact absurd (show false=true from hs) bO
 | bl i =>
  cases rx
  cases y with
  | non=>cases ry;exact PySem.EqNone.ne_bool_none (bY I q (by simp))
  | bl j=>cases ry;exact ne_bool (bY I q (aV not ED))
  | str j=>obtain⟨t',rfl⟩:=ry;exact PySem.EqMixed.ne_bool_str (bY I q (by simp))
  | _=>exact absurd (show false=true from hs) bO
 | int i =>
  obtain⟨t,rfl⟩:=rx;cases y with
  | non=>cases ry;exact PySem.EqNone.ne_int_none (bY I q (by simp))
  | int j=>obtain⟨t',rfl⟩:=ry;exact ne_int (bY I q (aV not AZ))
  | str j=>obtain⟨t',rfl⟩:=ry;exact PySem.EqMixed.ne_int_str (bY I q (by simp))
  | _=>exact absurd (show false=true from hs) bO
 | str i =>
  obtain⟨t,rfl⟩:=rx;cases y with
  | non=>cases ry;exact PySem.EqNone.ne_str_none (bY I q (by simp))
  | bl j=>cases ry;exact PySem.EqMixed.ne_str_bool (bY I q (by simp))
  | int j=>obtain⟨t',rfl⟩:=ry;exact PySem.EqMixed.ne_str_int (bY I q (by simp))
  | str j=>obtain⟨t',rfl⟩:=ry;exact ne_str (bY I q (aV not Ba))
  | _=>exact absurd (show false=true from hs) bO
 | byt i =>
  obtain⟨t,rfl⟩:=rx;cases y with
  | byt j=>obtain⟨t',rfl⟩:=ry;exact PySem.W.ne_bytes (bY I q (aV not AY))
  | _=>exact absurd (show false=true from hs) bO
 | _=>cases y<;>exact absurd (show false=true from hs) bO
def Mr:OpR X (compareOp .Lt) (rI0 fun i j=>.bl (decide (i<j))):=IP fun _ _ _ _ _ _ _ q=>lt_int q
def Mq:OpR X (compareOp .LtE) (rI0 fun i j=>.bl (decide (i<=j))):=IP fun _ _ _ _ _ _ _ q=>le_int q
def Mp:OpR X (compareOp .Gt) (rI0 fun i j=>.bl (decide (j<i))):=IP fun _ _ _ _ _ _ _ q=>gt_int q
def Mo:OpR X (compareOp .GtE) (rI0 fun i j=>.bl (decide (j<=i))):=IP fun _ _ _ _ _ _ _ q=>ge_int q
def DB:OpR X (compareOp .In) (fun x y H Q=>∃ i j,x=.str i/\y=.str j/\Q (.bl (!(Builtin.Str.occurrences j i 0 j.length 1).isEmpty)) H):=by intro Yp s σ H x y v u Q I rx ry h;obtain⟨i,j,rfl,rfl,q⟩:=h;obtain⟨t,rfl⟩:=rx;obtain⟨t',rfl⟩:=ry;exact in_str (bY I q rfl)
def Lh:OpR X (compareOp .Is) (fun x y H Q=>y=.non/\Q (.bl (decide (x=.non))) H):=by
 intro Yp s σ H x y v u Q I rx ry h;obtain⟨rfl,q⟩:=h;cases ry;refine is_none_gen (bY I q ?_);cases x<;>first
  | (cases rx;rfl)
  | (obtain⟨t,rfl⟩:=rx;rfl)
def IS:OpR X (compareOp .IsNot) (fun x y H Q=>y=.non/\Q (.bl (!decide (x=.non))) H):=by
 intro Yp s σ H x y v u Q I rx ry h;obtain⟨rfl,q⟩:=h;cases ry;refine isnot_none_gen (bY I q ?_);cases x<;>first
  | (cases rx;rfl)
  | (obtain⟨t,rfl⟩:=rx;rfl)
def xu:OpR X (compareOp .NotIn) (fun x y H Q=>∃ i j,x=.str i/\y=.str j/\Q (.bl (!(!(Builtin.Str.occurrences j i 0 j.length 1).isEmpty))) H):=by intro Yp s σ H x y v u Q I rx ry h;obtain⟨i,j,rfl,rfl,q⟩:=h;obtain⟨t,rfl⟩:=rx;obtain⟨t',rfl⟩:=ry;exact notIn_str (bY I q rfl)
def aU (b:Expr)  (h:op≠.In:=by decide) (h2:op≠.NotIn:=by decide):behindInMarks op b=false:=by
 have e1:(op==CmpOp.In)=false:=by cases op<;>first | rfl | exact absurd rfl h
 have e2:(op==CmpOp.NotIn)=false:=by cases op<;>first | rfl | exact absurd rfl h2
 cases b<;>simp [behindInMarks,e1,e2]
def cD {r:R2} (ho:OpR X (compareOp op) r) (ha:PE X a ta) (hb:PE X b tb) (hm:behindInMarks op b=false):PE X (.Compare a [op] [b] pos) (tOp r ta tb):=by intro Yp s σ H Q I h;exact wpAny_Compare1 (Ku ha hb I h fun v u s2 x y H2 I2 rx ry q=>ho Yp s2 σ H2 x y v u Q I2 rx ry q) hm
def Hi (t:TE):TT:=fun σ H Q=>t σ H fun x H'=>∃ k,x=.bl k/\Q k H'
def aP {r:R2} (ho:OpR X (compareOp op) r) (ha:PE X a ta) (hb:PE X b tb) (hm:behindInMarks op b=false):PT X (.Compare a [op] [b] pos) (Hi (tOp r ta tb)):=by intro Yp s σ H Q I h;refine wpAny_isTrue_Compare1 (thn (ha Yp s σ H _ I h) fun v s1 ⟨x,H1,I1,r1,q1⟩=>thn (hb Yp s1 σ H1 _ I1 q1) fun u s2 ⟨y,H2,I2,r2,q2⟩ =>thn (ho Yp s2 σ H2 x y v u _ I2 r1 r2 q2) fun c s3 ⟨z,H3,I3,r3,k,e,q3⟩=>?_) hm;subst e;cases r3;exact ib ⟨H3,I3,q3⟩
def AA (r r':R2) (ta tb tc:TE):TE:=fun σ H Q=>ta σ H fun x H1=>tb σ H1 fun y H2=>r x y H2 fun z H3=>∃ k,z=.bl k ∧
 (if k=true then tc σ H3 fun w' H4=>r' y w' H4 Q else Q (.bl false) H3)
def Gd {op op':CmpOp}{r r':R2} (ho:OpR X (compareOp op) r) (ho':OpR X (compareOp op') r') (ha:PE X a ta) (hb:PE X b tb) (hc:PE X c tc)
  (hm:lastMarks [op,op'] [b,c]=false:=by with_unfolding_all rfl):PE X (.Compare a [op,op'] [b,c] pos) (AA r r' ta tb tc):=by
 intro Yp s σ H Q I h;refine Compare_chain (thn (ha Yp s σ H _ I h) fun v s1 ⟨x,H1,I1,r1,q1⟩=>chain_link (thn (hb Yp s1 σ H1 _ I1 q1) fun u s2 ⟨y,H2,I2,r2,q2⟩ =>thn (ho Yp s2 σ H2 x y v u _ I2 r1 r2 q2) fun d s3 ⟨z,H3,I3,r3,k,e,q3⟩=>?_)) hm;subst e;cases r3;refine ib ?_;cases k with
 | false=>exact ite_ff ⟨.bl false,H3,I3,rfl,q3⟩
 | true=>exact ite_tt (chain_last (thn (hc Yp s3 σ H3 _ I3 q3) fun w' s4 ⟨z',H4,I4,r4,q4⟩=>ho' Yp s4 σ H4 y z' u w' Q I4 r2 r4 q4))
def mV {op op':CmpOp}{r r':R2} (ho:OpR X (compareOp op) r) (ho':OpR X (compareOp op') r') (ha:PE X a ta) (hb:PE X b tb) (hc:PE X c tc)
  (hm:lastMarks [op,op'] [b,c]=false:=by with_unfolding_all rfl):PT X (.Compare a [op,op'] [b,c] pos) (Hi (AA r r' ta tb tc)):=by
 intro Yp s σ H Q I h;refine isTrue_chain (thn (ha Yp s σ H _ I h) fun v s1 ⟨x,H1,I1,r1,q1⟩=>test_link (thn (hb Yp s1 σ H1 _ I1 q1) fun u s2 ⟨y,H2,I2,r2,q2⟩ =>thn (ho Yp s2 σ H2 x y v u _ I2 r1 r2 q2) fun d s3 ⟨z,H3,I3,r3,k,e,q3⟩=>?_)) hm;subst e;cases r3;refine ib ?_;cases k with
 | false =>obtain⟨k',e',q'⟩:=q3;cases e';exact ite_ff ⟨H3,I3,q'⟩
 | true =>refine ite_tt (test_last (thn (hc Yp s3 σ H3 _ I3 q3) fun w' s4 ⟨z',H4,I4,r4,q4⟩=>thn (ho' Yp s4 σ H4 y z' u w' _ I4 r2 r4 q4) fun d' s5 ⟨z2,H5,I5,r5,k2,e2,q5⟩=>?_));subst e2;cases r5;exact ib ⟨H5,I5,q5⟩
def u6:(sizeLine:Nat)<2^63:=by rw[fN];decide
def Al:OpR X (binaryOp .Add) (fun x y H Q=>∃ i j,x=.str i/\y=.str j/\i.length+j.length<=sizeLine/\Q (.str (i++j)) H):=by intro Yp s σ H x y v u Q I rx ry h;obtain⟨i,j,rfl,rfl,hz,q⟩:=h;obtain⟨t,rfl⟩:=rx;obtain⟨t',rfl⟩:=ry;exact add_str (fun t' tk=>⟨.str (i++j),H,I.tok _,⟨_,rfl⟩,q⟩) hz
def vals1 {x:V} (r:Vals [x] us):∃ u,us=[u]/\RelV x u:=by
 cases r with
 | cons r1 r2=>cases r2;exact⟨_,rfl,r1⟩
def vals2 {x y:V} (r:Vals [x,y] us):∃ u w',us=[u,w']/\RelV x u/\RelV y w':=by
 cases r with
 | cons r1 r2 =>
  cases r2 with
  | cons r3 r4=>cases r4;exact⟨_,_,rfl,r1,r3⟩
def E8:cS X (.builtin "abs") (fun xs H Q=>∃ i,xs=[.int i]/\Q (.int (if i<0 then -i else i)) H):=by intro Yp s σ H xs us Q I r h;obtain⟨i,rfl,q⟩:=h;obtain⟨u,rfl,t,rfl⟩:=vals1 r;exact call_abs_int fun u tk=>⟨.int (if i<0 then -i else i),H,I.tok _,⟨_,rfl⟩,q⟩
def Cw (hc:X.calm=true):cS X (.builtin "min") (fun xs H Q=>∃ i j,xs=[.int i,.int j]/\Q (.int (if j<i then j else i)) H):=by
 intro Yp s σ H xs us Q I r h;obtain⟨i,j,rfl,q⟩:=h;obtain⟨u,w',rfl,⟨t,rfl⟩,⟨t',rfl⟩⟩:=vals2 r;refine min_two_ints (I.ok.hd hc) fun h' tk k=>⟨_,H,I.kept k,?_,q⟩
 by_cases hj:j<i
 ·rw[ai hj,ai hj];exact⟨_,rfl⟩
 ·rw[af hj,af hj];exact⟨_,rfl⟩
end
end
section
structure zl (h:Heap) (x dx C:Addr) (mA:Zk):Prop where
 obj:h.get? x=some (PySem.W.instObj C dx)
 ns:h.Ns1 dx mA
 ne:dx≠x
def Du {dx:Addr} (n:h.Ns1 dx mA):∃ od,h.get? dx=some od/\∀ name,PySem.W.lookIn name od=some (mA name):=by
 obtain⟨o,es,ep,ho,hd,hk,_,hm⟩:=n;refine⟨o,ho,fun name=>?_⟩;have e:=hm name;unfold nsFind findBy at e;rw[←Array.find?_toList] at e;unfold PySem.W.lookIn;rw[hd];dsimp only;split
 ·rename_i y q
  rw[q] at e;exact aV some e
 ·rename_i q
  rw[q] at e;have a:es.toList.any (·.refKey)=false:=by rw[List.any_eq_false];intro y hy;obtain⟨z,t,hkey⟩:=hk y (Array.mem_toList_iff.mp hy);simp [DictEntry.refKey,hkey]
  have a':¬ es.toList.any (·.refKey)=true:=by rw[a];exact bO
  rw[af a'];exact aV some e
def zl.look {x dx C:Addr} (I:zl h x dx C mA):∃ od,PySem.W.InstAt h x (PySem.W.instObj C dx) C (some od)/\∀ name,PySem.W.lookIn name od=some (mA name) :=
 let ⟨od,ho,hl⟩:=Du I.ns
 ⟨od,⟨I.obj,rfl,rfl,ho⟩,hl⟩
section
variable {prog:Zh}{w:Zi}{A:Around}{E:Zq}{s:Zg}{K:Zf}{x dx C f:Addr}{mA:Zk}{name:Str}{v:Value}
def get_map {expr:Bool}{Q:Zq} (X:K.In s.heap) (I:zl s.heap x dx C mA) (hg:PySem.W.plainGet K C name=true) (hh:PySem.W.hasDictIn K C=true)
  (ha:PySem.W.findIn K (.ref C) name=some none) (hv:mA name=some v) (hv':PySem.W.handedIn v=true) (h:Q v { s with toks:=s.toks+1 }) :
  wpAny (model prog w) A (getAttr (.ref x) name expr) Q E s:=by
 obtain⟨od,J,hl⟩:=I.look;exact PySem.W.get_value X J (PySem.W.plainGet_of hg).1 (PySem.W.findObj_own hh ha rfl (by rw[hl,hv])) hv' h
def Fo {pl:Sem Bool}{Q:Value×Zc->Zg->Prop} (X:K.In s.heap) (I:zl s.heap x dx C mA) (hg:PySem.W.plainGet K C name=true)
  (hf:PySem.W.findIn K (.ref C) name=some (some (.ref f))) (ht:PySem.W.isFn K (.ref f)=true) (hv:mA name=none) (h:Q (.ref f,[.ref x]) s) :
  wpAny (model prog w) A (getMethod (.ref x) name pl) Q E s:=by
 obtain⟨od,J,hl⟩:=I.look;exact PySem.W.method_fn X J (PySem.W.plainGet_of hg).1 (PySem.W.plainGet_of hg).2 hf (fL.mp ht) (by show (PySem.W.lookIn name od).map (·.isSome)=some false;rw[hl,hv];rfl) h
def Js {ns:Ze}{Q:Unit->Zg->Prop} (X:K.In s.heap) (I:zl s.heap x dx C mA)
  (hs:PySem.W.findIn K (.ref C) "__setattr__"=some (some (.builtin "object.__setattr__"))) (hp:PySem.W.plainOver K C=true) (ht:PySem.W.takerIn K C name=some none) (hh:PySem.W.hasDictIn K C=true)
  (hw:PySem.Within mA ns) (hsz:ns.length<=sizeLine)
  (h:∀ h',zl h' x dx C (fun y=>if y=name then some v else mA y)->Heap.SameBut dx s.heap h'->Q () { s with heap:=h',toks:=s.toks+2 }) :
  wpAny (model prog w) A (setAttr (.ref x) name v) Q E s:=by
 obtain⟨od,J,hl⟩:=I.look;refine PySem.W.set_plain X J hs (PySem.W.osa_open (s:={ s with toks:=s.toks+1 }) (r:=none) X J hp ht fun b=>?_);obtain⟨cd,hc,hd'⟩:=PySem.W.any_some hh;have hx:s.heap.get? x=some ⟨.ref C,some dx,.plain,#[]⟩:=I.obj;refine ag (a8 (ag (ag (wpAny_loadPart hx (ag (PySem.W.Looks.here (s:={ s with toks:=s.toks+1 }) (PySem.W.looks_clsIn X hc) ?_))))));rw[hd'];refine a8 (a:=some dx) (ag (a8 (ag ?_)));refine wpAny_nsSet1 (s:={ s with toks:=s.toks+1 }) I.ns fun h' hn2 hs2=>?_;obtain⟨oD,esD,epD,hoD,hdD,hcD⟩:=hn2.count (PySem.Within.cons name v hw);refine ag (wpAny_lookBehind hoD (by rw[hdD];exact pastItsLine_dict (bQ hcD (by rw[aN];left))) ?_);exact a8 (h _ ⟨(hs2.2 _ (cI I.ne)).trans I.obj,hn2,I.ne⟩ hs2)
def FI {R:Result->Zg->Prop}{vs:Zc}{kw:List (Str×Value)} (X:K.In s.heap) (hm:PySem.W.makesIn K C=true)
  (hi:PySem.W.findIn K (.ref C) "__init__"=some (some (.ref f))) (hf:PySem.W.typeIn K (.ref f)=some (.type "function"))
  (h:codeAny (model prog w) (A.under (.builtin "type.__call__" ⟨.ref C::vs,kw⟩)) (.call (.ref f) ⟨.ref (s.heap.objs.size+1)::vs,kw⟩) (PySem.W.InitBack (s.heap.objs.size+1) R)
   { s with heap:=(s.heap.push PySem.W.emptyDict).push (PySem.W.instObj C s.heap.objs.size) }) :
  codeAny (model prog w) A (.call (.ref C) ⟨vs,kw⟩) R s:=by
 obtain⟨hh,g,d,t,os⟩:=s;exact PySem.W.make_core (PySem.W.makes_of X hm) (PySem.W.looks_findIn X hi) (fun self=>PySem.W.bind_fn X self hf) (.inl rfl) h
end
def gw (f:Str) (v:V):List (Str×V)->List (Str×V)
 | []=>[(f,v)]
 | (g,x)::r=>if g=f then (g,v)::r else (g,x)::gw f v r
theorem sS (f g:Str) (v:V):∀ fs:List (Str×V),(gw f v fs).lookup g=if g=f then some v else fs.lookup g
 | []=>by
  show List.lookup g [(f,v)]=_
  by_cases h:g=f
  ·have hb:(g==f)=true:=fL.mpr h;simp only[List.lookup,hb,ai h]
  ·have hb:(g==f)=false:=lI.mpr h;simp only[List.lookup,hb,af h]
 | (k,x)::r=>by
  have ih:=sS f g v r;rw[show gw f v ((k,x)::r)=(if k=f then (k,v)::r else (k,x)::gw f v r) from rfl]
  by_cases hk:k=f
  ·rw[ai hk]
   by_cases h:g=k
   ·have hb:(g==k)=true:=fL.mpr h;simp only[List.lookup,hb,ai (h.trans hk)]
   ·have hb:(g==k)=false:=lI.mpr h;simp only[List.lookup,hb,af (fun e:g=f=>h (e.trans hk.symm))]
  ·rw[af hk]
   by_cases h:g=k
   ·have hb:(g==k)=true:=fL.mpr h;simp only[List.lookup,hb,af (fun e:g=f=>hk (h.symm.trans e))]
   ·have hb:(g==k)=false:=lI.mpr h;simp only[List.lookup,hb];exact ih
theorem rM (f:Str) (v:V):∀ fs:List (Str×V),f∈(gw f v fs).map (·.1)/\∀ g,g∈fs.map (·.1)->g∈(gw f v fs).map (·.1)
 | []=>⟨by simp [gw],fun g h=>by simp at h⟩
 | (k,x)::r=>by
  obtain⟨i1,i2⟩:=rM f v r;rw[show gw f v ((k,x)::r)=(if k=f then (k,v)::r else (k,x)::gw f v r) from rfl]
  by_cases hk:k=f
  ·rw[ai hk];subst hk;exact⟨by simp,fun g h=>by simpa using h⟩
  ·rw[af hk];refine⟨?_,fun g h=>?_⟩
   ·rw[bp];exact bD _ i1
   ·rw[bp] at h ⊢;rcases aJ.mp h with e | e
    ·exact aJ.mpr (.inl e)
    ·exact bD _ (i2 g e)
theorem sR (f:Str) (v:V):∀ fs:List (Str×V),(gw f v fs).length<=fs.length+1
 | []=>by simp [gw]
 | (k,x)::r=>by
  have ih:=sR f v r;rw[show gw f v ((k,x)::r)=(if k=f then (k,v)::r else (k,x)::gw f v r) from rfl]
  by_cases hk:k=f
  ·rw[ai hk,aN,aN];left
  ·rw[af hk,aN,aN];left
def ko.some_of {v:V}{o:Option Value} (r:ko (some v) o):∃ u,o=some u/\RelV v u:=by
 cases o with
 | none=>exact (show False from r).elim
 | some u=>exact⟨u,rfl,r⟩
def ko.none_of {o:Option Value} (r:ko none o):o=none:=by
 cases o with
 | none=>rfl
 | some u=>exact (show False from r).elim
def Dj {v:V} (r:RelV v u):PySem.W.handedIn u=true:=by
 cases v with
 | non=>cases (show u=Value.none from r);rfl
 | bl b=>cases (show u=Value.bool b from r);rfl
 | int i=>obtain⟨t,e⟩:=(show ∃ t,u=Value.int i t from r);cases e;rfl
 | str x=>obtain⟨t,e⟩:=(show ∃ t,u=Value.str x t from r);cases e;rfl
 | byt b=>obtain⟨t,e⟩:=(show ∃ t,u=Value.bytes b t from r);cases e;rfl
 | flt b=>obtain⟨t,e⟩:=(show ∃ t,u=Value.float b t from r);cases e;rfl
 | ref a=>cases (show u=Value.ref a from r);rfl
 | ty n=>cases (show u=Value.type n from r);rfl
section
variable {P:Zh}{w:Zi}{H H':Hp}{h h':Heap}{a C dx:Addr}{fs fs':List (Str×V)}
def tT (hok:HOk P w H h) (e:H a=some (.ins C dx fs)):∃ mA,zl h a dx C mA/\(∀ f,ko (fs.lookup f) (mA f))/\PySem.Within mA (fs.map (·.1))/\fs.length<=1000/\H dx=some (.own a):=by obtain⟨d,z,ne,ob,mA,n,r,q⟩:=(show bT P w H h a (.ins C dx fs) from hok a _ e);exact⟨mA,⟨ob,n,ne⟩,r,q,z,d⟩
end
structure Cls (K:Zf) (C:Addr):Prop where
 pg:PySem.W.plainGet K C Str.empty=true
 hd:PySem.W.hasDictIn K C=true
 po:PySem.W.plainOver K C=true
 sa:PySem.W.findIn K (.ref C) "__setattr__"=some (some (.builtin "object.__setattr__"))
def Cls.get (c:Cls K C) (f:Str):PySem.W.plainGet K C f=true:=c.pg
def ft (K:Zf) (C:Addr) (f:Str):Prop:=PySem.W.findIn K (.ref C) f=some none
def ft.MF {f:Str} (n:ft K C f):PySem.W.takerIn K C f=some none:=by unfold PySem.W.takerIn;rw[show PySem.W.findIn K (.ref C) f=some none from n];rfl
structure Meth (K:Zf) (C:Addr) (m:Str) (f:Addr):Prop where
 at_:PySem.W.findIn K (.ref C) m=some (some (.ref f))
 fn:PySem.W.isFn K (.ref f)=true
 kp:PySem.W.keepIn K (.ref f)=true
section
variable {X:Cx}{Yp:Zp}{σ:St}{H:Hp}{s:Zg}{a C dx:Addr}{fs:List (Str×V)}{f:Str}{v:V}{A:Around}{E:Zq}
def zR {b:Bool}{Q:Zq} (I:Inv X Yp σ H s) (e:H a=some (.ins C dx fs)) (c:Cls X.K C) (n:ft X.K C f) (l:fs.lookup f=some v)
  (h:∀ u s',Inv X Yp σ H s'->RelV v u->Q u s'):wpAny (model X.prog X.w) A (getAttr (.ref a) f b) Q E s:=by
 obtain⟨mA,O,r,_,_,_⟩:=tT I.hok e;obtain⟨u,hu,ru⟩:=ko.some_of (v:=v) (o:=mA f) (by rw[←l];exact r f);exact get_map I.kIn O (c.get f) c.hd n hu (Dj ru) (h u _ (I.tok _) ru)
def jx {m:Str}{g:Addr}{pl:Sem Bool}{Q:Value×Zc->Zg->Prop} (I:Inv X Yp σ H s) (e:H a=some (.ins C dx fs)) (c:Cls X.K C) (k:Meth X.K C m g) (l:fs.lookup m=none)
  (h:Q (.ref g,[.ref a]) s):wpAny (model X.prog X.w) A (getMethod (.ref a) m pl) Q E s:=by
 obtain⟨mA,O,r,_,_,_⟩:=tT I.hok e;have hn:mA m=none:=ko.none_of (by rw[←l];exact r m);exact Fo I.kIn O (c.get m) k.at_ k.fn hn h
def A6 {y:V}{Q:Unit->Zg->Prop} (I:Inv X Yp σ H s) (e:H a=some (.ins C dx fs)) (c:Cls X.K C) (n:ft X.K C f) (hl:fs.length<1000) (ry:RelV y u)
  (h:∀ s',Inv X Yp σ (upd H a (.ins C dx (gw f y fs))) s'->Q () s'):wpAny (model X.prog X.w) A (setAttr (.ref a) f u) Q E s:=by
 obtain⟨mA,O,r,wi,_,ho⟩:=tT I.hok e;have hz:(fs.map (·.1)).length<=sizeLine:=by rw[ak,fN];left
 refine Js I.kIn O c.sa c.po n.MF c.hd wi hz fun h' O' sb=>h _ ?_;have hd:∃ o,h'.get? dx=some o:=let ⟨o,_,_,e',_⟩:=O'.ns;⟨o,e'⟩;refine I.write (x:=a) (e:=dx) (by rw[e];exact True.intro) (.inr ho) (fun b q hb z=>(sb.2 b hb).trans z) hd ?_;refine⟨by rw[az O.ne];exact ho,?_,O.ne,O'.obj,_,O'.ns,fun g=>?_,fun g hg=>?_⟩
 ·have:=sR f y fs;left
 ·show ko ((gw f y fs).lookup g) (if g=f then some u else mA g);rw[sS]
  by_cases q:g=f
  ·rw[ai q,ai q];exact ry
  ·rw[af q,af q];exact r g
 ·by_cases q:g=f
  ·rw[q];exact (rM f y fs).1
  ·refine (rM f y fs).2 g (wi g fun z=>hg ?_);show (if g=f then some u else mA g)=none;rw[af q];exact z
def Inv.made (I:Inv X Yp σ H s):Inv X Yp σ (upd (upd H s.heap.objs.size (.own (s.heap.objs.size+1))) (s.heap.objs.size+1) (.ins C s.heap.objs.size []))
  { s with heap:=(s.heap.push PySem.W.emptyDict).push (PySem.W.instObj C s.heap.objs.size) }:=by
 have e1:(s.heap.push PySem.W.emptyDict).get? s.heap.objs.size=some PySem.W.emptyDict:=bj s.heap rfl;have e2:((s.heap.push PySem.W.emptyDict).push (PySem.W.instObj C s.heap.objs.size)).get? (s.heap.objs.size+1)=some (PySem.W.instObj C s.heap.objs.size):=by
  have:=bj (s.heap.push PySem.W.emptyDict) (o:=PySem.W.instObj C s.heap.objs.size) rfl
  rwa [hO] at this
 have e3:(s.heap.push PySem.W.emptyDict).Ns s.heap.objs.size (fun _=>none):=⟨PySem.W.emptyDict,#[],_,e1,rfl,(fun e he=>absurd he (by simp)),fun _=>rfl⟩;have I1:=I.laid (a:=s.heap.objs.size) (o:=.own (s.heap.objs.size+1)) (h':=s.heap.push PySem.W.emptyDict) (t':=s.toks) (fun b u q=>aL _ q) (aq _) ⟨_,e1⟩;refine I1.laid (a:=s.heap.objs.size+1) (o:=.ins C s.heap.objs.size []) (t':=s.toks) (fun b u q=>aL _ q) (Nat.le_of_eq (hO _ _)) ?_;have ne:s.heap.objs.size≠s.heap.objs.size+1:=bz (jP _);refine⟨by rw[az ne,aB],bH _,ne,e2,fun _=>none,(Heap.Ns1.of_empty e3).at fun o q=>aL _ q,fun _=>True.intro,fun y hy=>absurd rfl hy⟩
def HX {prog:Zh}{w:Zi}{env:Env}{f:Str}{pos:Pos}{s:Zg}{Q:Zq} (hb:attributeBase e f env (eval e env)=eval e env)
  (h:wpAny (model prog w) A (eval e env) (fun o s₁=>wpAny (model prog w) A (getAttr o f true) Q E s₁) E s):wpAny (model prog w) A (eval (.Attribute e f pos) env) Q E s :=
 Attribute_any_ h (by rw[arm_eval_Attribute,hb])
end
def Nv (K:Zf) (ta:TE) (f:Str):TE:=fun σ H Q=>ta σ H fun x H1=>∃ a C dx fs v,x=.ref a/\H1 a=some (.ins C dx fs)/\Cls K C/\ft K C f/\fs.lookup f=some v/\Q v H1
def Nt (K:Zf) (ta tv:TE) (f:Str):TS:=fun D σ H=>tv σ H fun y H1=>ta σ H1 fun x H2=>∃ a C dx fs,x=.ref a/\H2 a=some (.ins C dx fs)/\Cls K C/\ft K C f/\fs.length<1000 ∧
 D.nx σ (upd H2 a (.ins C dx (gw f y fs)))
section
variable {X:Cx}{o e value:Expr}{f:Str}{pos pos' tpos:Pos}{ta tv:TE}
def Lr (he:PE X e ta) (hb:attributeBase e f X.env (eval e X.env)=eval e X.env):PE X (.Attribute e f pos) (Nv X.K ta f):=by intro Yp s σ H Q I h;refine HX hb (thn (he Yp s σ H _ I h) fun u s1 ⟨x,H1,I1,rx,a,C,dx,fs,v,ex,ea,c,n,l,q⟩=>?_);subst ex;obtain rfl:u=Value.ref a:=rx;exact zR I1 ea c n l fun u' s2 I2 ru=>⟨v,H1,I2,ru,q⟩
def L6 (ha:PE X o ta) (hv:PE X value tv) (hs:swapsWith value (some (.Attribute o f pos')) pos.line X.env=pure false):PS X (.Assign [.Attribute o f pos'] value pos) (Nt X.K ta tv f):=by intro Yp s σ H D I h;refine plainObj_wpAny_Assign_Attribute (thn (hv Yp s σ H _ I h) fun u s1 ⟨y,H1,I1,ry,q⟩=>thn (ha Yp s1 σ H1 _ I1 q) fun ov s2 ⟨x,H2,I2,rx,a,C,dx,fs,ex,ea,c,n,l,q2⟩=>?_) hs;subst ex;obtain rfl:ov=Value.ref a:=rx;exact A6 I2 ea c n l ry fun s3 I3=>⟨σ,_,I3,q2⟩
end
section
variable {X:Cx}{Yp:Zp}{σ:St}{H:Hp}{s:Zg}{A:Around}{E:Zq}{Q:Zq}{c:Value}{b:Bool}
inductive oS (K:Zf) (H:Hp):V->Value->Prop where
 | non:oS K H .non (.type "NoneType")
 | bl (x:Bool):oS K H (.bl x) (.type "bool")
 | int (i:Int):oS K H (.int i) (.type "int")
 | str (x:Str):oS K H (.str x) (.type "str")
 | flt (x:UInt64):oS K H (.flt x) (.type "float")
 | lst {a:Addr}{xs:List V} (e:H a=some (.lst xs)):oS K H (.ref a) (.type "list")
 | frz {a:Addr}{o:Obj}{xs:List V} (e:H a=some (.frz o (.lst xs))):oS K H (.ref a) (.type "list")
 | tup {a:Addr}{xs:List V} (e:H a=some (.tup xs)):oS K H (.ref a) (.type "tuple")
 | dK {a:Addr}{kvs:List (Key×V)} (e:H a=some (.dK kvs)):oS K H (.ref a) (.type "dict")
 | dT {a:Addr}{kvs:List (List Key×V)} (e:H a=some (.dT kvs)):oS K H (.ref a) (.type "dict")
 | ins {a C dx:Addr}{fs:List (Str×V)} (e:H a=some (.ins C dx fs)) (cl:Cls K C) (ha:PySem.W.findIn K (.ref C) "__class__"=some (some (.builtin "object.__class__")))
   (hn:PySem.W.specialIn K (.builtin "object.__class__") "__get__"=some (some (.builtin "getset_descriptor.__get__"))) (htk:PySem.W.takesIn K (.builtin "object.__class__")=some true)
   (hm:PySem.W.mroIn K C (.type "object")=some true):oS K H (.ref a) (.ref C)
def isinst_ok {x:V}{u t:Value} (I:Inv X Yp σ H s) (rx:RelV x u) (ty:oS X.K H x t) (e:PySem.W.kitOne X.K t c=some b) (h:∀ tk,Q (.bool b) { s with toks:=tk }) :
  wpAny (model X.prog X.w) A (call (.builtin "isinstance") [u,c]) Q E s:=by
 cases ty with
 | non=>cases (show u=Value.none from rx);exact eN PySem.W.kitx_none I.kIn True.intro e (fun z=>nomatch z) h
 | bl y=>cases (show u=Value.bool y from rx);exact eN PySem.W.kitx_bool I.kIn True.intro e (fun z=>nomatch z) h
 | int i=>obtain⟨t,q⟩:=(show ∃ t,u=Value.int i t from rx);cases q;exact eN PySem.W.kitx_int I.kIn True.intro e (fun z=>nomatch z) h
 | str y=>obtain⟨t,q⟩:=(show ∃ t,u=Value.str y t from rx);cases q;exact eN PySem.W.kitx_str I.kIn True.intro e (fun z=>nomatch z) h
 | flt y=>obtain⟨t,q⟩:=(show ∃ t,u=Value.float y t from rx);cases q;exact eN PySem.W.kitx_float I.kIn True.intro e (fun z=>nomatch z) h
 | @lst a xs ea =>
  cases (show u=Value.ref a from rx)
  obtain⟨_,_,n,_,h1⟩:=(show bT X.prog X.w H s.heap a (.lst xs) from I.hok a _ ea);exact eN PySem.W.kitx_list I.kIn ⟨_,h1,rfl⟩ e (fun z=>nomatch z) h
 | @frz a ob xs ea =>
  cases (show u=Value.ref a from rx)
  obtain⟨_,_,_,n,_,h1⟩:=(show bT X.prog X.w H s.heap a (.frz ob (.lst xs)) from I.hok a _ ea);exact eN PySem.W.kitx_list I.kIn ⟨_,h1,rfl⟩ e (fun z=>nomatch z) h
 | @tup a xs ea =>
  cases (show u=Value.ref a from rx)
  obtain⟨_,_,_,p⟩:=(show bT X.prog X.w H s.heap a (.tup xs) from I.hok a _ ea);obtain⟨o,h1,h2,_⟩:=p;exact eN PySem.W.kitx_tuple I.kIn ⟨o,h1,h2⟩ e (fun z=>nomatch z) h
 | @dK a kvs ea =>
  cases (show u=Value.ref a from rx)
  obtain⟨_,_,vs,_,p⟩:=(show bT X.prog X.w H s.heap a (.dK kvs) from I.hok a _ ea);obtain⟨o,es,ep,h1,h2,_⟩:=p;exact eN PySem.W.kitx_dict I.kIn ⟨o,h1,h2.1⟩ e (fun z=>nomatch z) h
 | @dT a kvs ea =>
  cases (show u=Value.ref a from rx)
  obtain⟨_,_,xs,_,o,es,ep,h1,h2,_⟩:=(show bT X.prog X.w H s.heap a (.dT kvs) from I.hok a _ ea);exact eN PySem.W.kitx_dict I.kIn ⟨o,h1,h2.1⟩ e (fun z=>nomatch z) h
 | @ins a C dx fs ea cl ha hn htk hm =>
  cases (show u=Value.ref a from rx)
  obtain⟨mA,O,_⟩:=tT I.hok ea;obtain⟨od,J,_⟩:=O.look;exact eN (PySem.W.kitx_own (cl.get _) cl.hd ha hn htk hm) I.kIn J e (fun z=>nomatch z) h
end
end
section
structure dw (k:Nat) (A:Around):Prop where
 hd:A.handled=none
 dp:A.depth+3*k+5<recursionLimit
 un:A.units+16*k+200<cLine
def dw.mono {j k:Nat} (r:dw k A) (h:j<=k):dw j A:=⟨r.hd,by have:=r.dp;left,by have:=r.un;left⟩
def dw.deeper {k:Nat}{A:Around} (r:dw (k+1) A) (env:Env):dw k (A.deeper env) :=
 ⟨r.hd,by have:=r.dp;show A.depth+1+3*k+5<_;left,by have:=r.un;show A.units+3+16*k+200<_;left⟩
def Aa :(A.under (.builtin "type.__call__" ⟨.ref C::us,kw⟩)).depth=A.depth+1:=by first | rfl | simp [Around.under,Code.weight,Code.isCreation,Code.isGuard,Code.isCaller,Code.frames,Code.isFrame,guardIds]
def Ab :(A.under (.builtin "type.__call__" ⟨.ref C::us,kw⟩)).units=A.units+1:=by first | rfl | simp [Around.under,Code.cUnits,Code.frames,Code.isFrame]
def dw.make {k:Nat} (r:dw (k+1) A) (C:Addr) (us:Zc) (kw:List (Str×Value)):dw k (A.under (.builtin "type.__call__" ⟨.ref C::us,kw⟩)) :=
 ⟨r.hd,by have:=r.dp;rw[Aa];left,by have:=r.un;rw[Ab];left⟩
def dw.depth {k:Nat}{A:Around} (r:dw k A):A.depth<recursionLimit:=by have:=r.dp;left
def dw.units {k:Nat}{A:Around} (r:dw k A):A.units+64<cLine:=by have:=r.un;left
def dw.fJ {k:Nat} (r:dw k A):A.units<cLine:=by have:=r.un;left
def Jx:TA:=fun _ H Q=>Q [] H
def GZ (ta:TE) (tr:TA):TA:=fun σ H Q=>ta σ H fun x H1=>tr σ H1 fun xs H2=>Q (x::xs) H2
section
variable {X:Cx}{e:Expr}{es:List Expr}{te:TE}{t:TA}{pos:Pos}
def aa:PA X [] Jx:=fun _ _ _ _ H Q I h=>Calls.spliced_nil ⟨[],H,I,.nil,h⟩
def IV (ha:PE X e te) (hr:PA X es t) (hs:starEach (e::es) X.env=(false,eval e X.env)::starEach es X.env:=by rfl):PA X (e::es) (GZ te t):=by intro pos Yp s σ H Q I h;rw[hs];show wpAny _ _ (spliced ((false,eval e X.env)::backTo pos (starEach es X.env))) _ _ s;refine oK (thn (ha Yp s σ H _ I h) fun u s1 ⟨x,H1,I1,r1,q1⟩=>?_);exact thn (hr pos Yp s1 σ H1 _ I1 q1) fun us s2 ⟨xs,H2,I2,r2,q2⟩=>⟨x::xs,H2,I2,.cons r1 r2,q2⟩
end
abbrev Sp:=List V->Hp->VK->XK->Prop
abbrev CXT:=List Env->Hp->Zg->XK->Zq
structure ua (P:Zh) (w:Zi) (K:Zf) (mg:Zk) (base:Heap) (A:Around) (outer:List Env) (s:Zg) (H:Hp):Prop where
 frames:A.frames=some outer
 mod:Mod K mg base
 bs:∀ b o,base.get? b=some o->s.heap.get? b=some o/\H b=none
 bsz:base.objs.size<=s.heap.objs.size
 mJ:s.heap.FunFrames base outer
 frf:∀ b∈frs outer,H b=none
 hok:HOk P w H s.heap
 bare:AllBare s.gens
def CE (outer:List Env) (P:Zh) (w:Zi) (H:Hp) (s:Zg) (Q:VK) (u:Value) (s':Zg):Prop :=
 ∃ v H',s'.os=s.os/\AllBare s'.gens/\Un (frs outer) [] H H' s.heap s'.heap/\HOk P w H' s'.heap/\RelV v u/\Q v H'
def CR (CX:CXT) (outer:List Env) (P:Zh) (w:Zi) (H:Hp) (s:Zg) (Q:VK) (E:XK) (r:Result) (s':Zg):Prop :=
 match r with
 | .ok (.ret u)=>CE outer P w H s Q u s'
 | .ok _=>False
 | .error e=>CX outer H s E e s'
structure bS (P:Zh) (w:Zi) (K:Zf) (mg:Zk) (base:Heap) (CX:CXT) (k:Nat) (f:Addr) (fd:FuncData) (ps:Ze) (sp:Sp):Prop where
 len:∀ vs H Q E,sp vs H Q E->vs.length=ps.length
 run:∀ (A:Around) (outer:List Env) (s:Zg) (H:Hp) (args:Args) (us:Zc) (vs:List V) (Q:VK) (E:XK),dw k A->ua P w K mg base A outer s H->BindsTo s fd args (ps.zip us)->Vals vs us->sp vs H Q E →
  codeAny (model P w) A (.call (.ref f) args) (CR CX outer P w H s Q E) s
def ua.make {H:Hp} (e:ua P w K mg base A outer s H) (C:Addr) (us:Zc) (kw:List (Str×Value)) :
  ua P w K mg base (A.under (.builtin "type.__call__" ⟨.ref C::us,kw⟩)) outer s H:=⟨by first | exact e.frames | (simpa [Around.under,Code.envs,Code.isFrame,pushEnvs] using e.frames),e.mod,e.bs,e.bsz,e.mJ,e.frf,e.hok,e.bare⟩
section
variable {X:Cx}{Yp:Zp}{σ:St}{H:Hp}{s s':Zg}
def Inv.CL (I:Inv X Yp σ H s):ua X.prog X.w X.K X.mg X.base X.A X.stack s H :=
 ⟨I.ok.frames,I.ok.mod,I.bs,bQ I.ok.bsz I.sz,I.stack,I.qK,I.hok,I.bare⟩
def Inv.after {Q:VK} (I:Inv X Yp σ H s) (h:CE X.stack X.prog X.w H s Q u s'):EP X Yp σ Q u s':=by obtain⟨v,H',os,bare,un,hok,r,q⟩:=h;obtain⟨hh,g,d,t,os'⟩:=s';obtain rfl:os'=s.os:=os;exact⟨v,H',I.call (h':=hh) (g':=g) (d':=d) (t':=t) (ch:=[]) un hok bare (fun b z=>absurd z (by simp)),r,q⟩
end
def BO (sp:Sp) (dvs:List V) (E:St->XK) (t:TA):TE:=fun σ H Q=>t σ H fun vs H1=>sp (vs++dvs) H1 Q (E σ)
def JV (C:Addr) (m:Str) (sp:Sp) (dvs:List V) (E:St->XK) (ta:TE) (t:TA):TE:=fun σ H Q=>ta σ H fun x H1=>∃ a dx fs,x=.ref a/\H1 a=some (.ins C dx fs)/\fs.lookup m=none ∧
 t σ H1 fun vs H2=>sp (x::(vs++dvs)) H2 Q (E σ)
def MA (C:Addr) (sp:Sp) (dvs:List V) (E:St->XK) (t:TA):TE:=fun σ H Q=>t σ H fun vs H1=>∀ x dx,H1 x=none->H1 dx=none->dx≠x →
 sp (.ref x::(vs++dvs)) (upd (upd H1 dx (.own x)) x (.ins C dx [])) (fun v H2=>v=.non/\Q (.ref x) H2) (E σ)
def Binds (K:Zf) (fd:FuncData) (ps:Ze) (ds:Zc):Prop :=
 ∀ (s:Zg) (us:Zc),K.In s.heap->(us++ds).length=ps.length->BindsTo s fd ⟨us,[]⟩ (ps.zip (us++ds))
def Binds.all {fd:FuncData}{ps:Ze} (h:∀ us:Zc,us.length=ps.length->bindArgs fd ⟨us,[]⟩=pure (ps.zip us)):Binds K fd ps []:=fun s us _ hl=>by rw[jK] at hl ⊢;exact .of_eq (h us hl)
def Passes (CX:CXT) (X:Cx) (E:St->XK):Prop:=∀ (Yp:Zp) (σ:St) (H:Hp) (s:Zg) (e:Value) (s':Zg),Inv X Yp σ H s->CX X.stack H s (E σ) e s'->X.xe e s'
section
variable {X:Cx}{CX:CXT}{k:Nat}{f C:Addr}{fd:FuncData}{ps:Ze}{sp:Sp}{dvs:List V}{ds:Zc}{E:St->XK}{x m:Str}{p pos apos:Pos}{e o:Expr}{es:List Expr}{ta:TE}{t:TA}
def Av {Yp:Zp}{σ:St}{H:Hp}{s:Zg}{Q:VK}{us:Zc}{vs:List V} (F:bS X.prog X.w X.K X.mg X.base CX k f fd ps sp) (hr:dw k X.A) (hb:Binds X.K fd ps ds) (hd:Vals dvs ds) (hx:Passes CX X E)
  (I:Inv X Yp σ H s) (r:Vals vs us) (h:sp (vs++dvs) H Q (E σ)):wpAny (model X.prog X.w) X.A (call (.ref f) us) (EP X Yp σ Q) X.xe s:=by
 have r2:Vals (vs++dvs) (us++ds):=r.append hd;have hl:(us++ds).length=ps.length:=by rw[←r2.length];exact F.len _ _ _ _ h
 refine hZ (gk (F.run X.A X.stack s H ⟨us,[]⟩ (us++ds) (vs++dvs) Q (E σ) hr I.CL (hb s us I.kIn hl) r2 h) fun r s' hq=>?_);cases r with
 | error e=>exact hx Yp σ H s e s' I hq
 | ok fl =>
  cases fl with
  | ret u=>exact I.after hq
  | next=>exact False.elim hq
  | brk=>exact False.elim hq
  | cont=>exact False.elim hq
def IZ (F:bS X.prog X.w X.K X.mg X.base CX k f fd ps sp) (hr:dw k X.A) (hg:Gl X x) (hm:X.mg x=some (.ref f)) (hk:PySem.W.keepIn X.K (.ref f)=true) (hb:Binds X.K fd ps ds) (hd:Vals dvs ds) (hx:Passes CX X E)
  (ha:PA X (e::es) t) (hdb:(x==("__debug__":Str))=false:=by decide) (he:starEach (e::es) X.env=(false,eval e X.env)::starEach es X.env:=by rfl) (hpl:(backTo pos (starEach es X.env)).any (·.1)=false:=by rfl) :
  PE X (.Call (.Name x p) (e::es) [] pos) (BO sp dvs E t):=by
 intro Yp s σ H Q I h;refine ot (oE I hg hm ?_ hdb);refine oj (h₀:=X.base) I.ok.mod.kin hk (thn (ha pos Yp s σ H _ I h) fun us s1 ⟨vs,H1,I1,r,q⟩=>⟨I1.kIn,?_⟩) he hpl;exact Av F hr hb hd hx I1 r q
def Bv {pl:Sem Bool} (he:PE X o ta) (c:Cls X.K C) (hm:Meth X.K C m f) (F:bS X.prog X.w X.K X.mg X.base CX k f fd ps sp) (hr:dw k X.A) (hb:Binds X.K fd ps ds) (hd:Vals dvs ds) (hx:Passes CX X E) (ha:PA X (e::es) t)
  (hst:starEach (e::es) X.env=(false,eval e X.env)::starEach es X.env:=by rfl) (hpl:(backTo pos (starEach es X.env)).any (·.1)=false:=by rfl)
  (ht:eval (.Call (.Attribute o m apos) (e::es) [] pos) X.env=(do
   let ov ←eval o X.env
   standAt apos.atName
   let (f,first) ←holding [ov] (getMethod ov m pl)
   callWith pos f first (backTo pos (starEach (e::es) X.env)) (backToKw pos (keywordEach [] X.env))):=by rfl) :
  PE X (.Call (.Attribute o m apos) (e::es) [] pos) (JV C m sp dvs E ta t):=by
 intro Yp s σ H Q I h;refine oo (pl:=pl) (thn (he Yp s σ H _ I h) fun u s1 ⟨x,H1,I1,rx,a,dx,fs,ex,ea,l,q⟩=>?_) ht;subst ex;obtain rfl:u=Value.ref a:=rx;refine jx I1 ea c hm l ?_;refine oj (first:=[.ref a]) (h₀:=X.base) I.ok.mod.kin hm.kp (thn (ha pos Yp s1 σ H1 _ I1 q) fun us s2 ⟨vs,H2,I2,r,q2⟩=>⟨I2.kIn,?_⟩) hst hpl;exact Av (us:=.ref a::us) (vs:=.ref a::vs) F hr hb hd hx I2 (.cons rfl r) q2
def Gj {pl:Sem Bool} (he:PE X o ta) (c:Cls X.K C) (hm:Meth X.K C m f) (F:bS X.prog X.w X.K X.mg X.base CX k f fd ps sp) (hr:dw k X.A) (hb:Binds X.K fd ps ds) (hd:Vals dvs ds) (hx:Passes CX X E)
  (ht:eval (.Call (.Attribute o m apos) [] [] pos) X.env=(do
   let ov ←eval o X.env
   standAt apos.atName
   let (f,first) ←holding [ov] (getMethod ov m pl)
   callWith pos f first (backTo pos (starEach [] X.env)) (backToKw pos (keywordEach [] X.env))):=by rfl) :
  PE X (.Call (.Attribute o m apos) [] [] pos) (JV C m sp dvs E ta Jx):=by
 intro Yp s σ H Q I h;refine oo (pl:=pl) (thn (he Yp s σ H _ I h) fun u s1 ⟨x,H1,I1,rx,a,dx,fs,ex,ea,l,q⟩=>?_) ht;subst ex;obtain rfl:u=Value.ref a:=rx;refine jx I1 ea c hm l ?_;exact PySem.W.callWith_K0 (first:=[.ref a]) I1.kIn hm.kp (Av (us:=[.ref a]) (vs:=[.ref a]) F hr hb hd hx I1 (.cons rfl .nil) q)
structure Mk (K:Zf) (C f:Addr):Prop where
 makes:PySem.W.makesIn K C=true
 init:PySem.W.findIn K (.ref C) "__init__"=some (some (.ref f))
 fn:PySem.W.isFn K (.ref f)=true
 kp:PySem.W.keepIn K (.ref C)=true
def GN {Yp:Zp}{σ:St}{H:Hp}{s:Zg}{Q:VK}{us:Zc}{vs:List V} (M:Mk X.K C f) (F:bS X.prog X.w X.K X.mg X.base CX k f fd ps sp) (hr:dw (k+1) X.A) (hb:Binds X.K fd ps ds) (hd:Vals dvs ds)
  (hx:Passes CX X E) (I:Inv X Yp σ H s) (r:Vals vs us)
  (h:∀ x dx,H x=none->H dx=none->dx≠x->sp (.ref x::(vs++dvs)) (upd (upd H dx (.own x)) x (.ins C dx [])) (fun v H2=>v=.non/\Q (.ref x) H2) (E σ)) :
  wpAny (model X.prog X.w) X.A (call (.ref C) us) (EP X Yp σ Q) X.xe s:=by
 have hq:=h (s.heap.objs.size+1) s.heap.objs.size (I.hok.fresh (jO _)) (I.hok.fresh (aq _)) (bz (jP _));have I2:=Inv.made (C:=C) I;have r2:Vals (V.ref (s.heap.objs.size+1)::(vs++dvs)) (Value.ref (s.heap.objs.size+1)::(us++ds)):=.cons rfl (r.append hd);have hl:(Value.ref (s.heap.objs.size+1)::us++ds).length=ps.length:=by have e:=r2.length;rw[F.len _ _ _ _ hq] at e;exact e.symm
 refine hZ (FI (f:=f) I.kIn M.makes M.init (fL.mp M.fn) (gk (F.run _ X.stack _ _ ⟨Value.ref (s.heap.objs.size+1)::us,[]⟩ (Value.ref (s.heap.objs.size+1)::(us++ds)) _ _ (E σ) (hr.make C us [])
  (I2.CL.make C us []) (hb _ (Value.ref (s.heap.objs.size+1)::us) I2.kIn hl) r2 hq) fun r s' hq'=>?_))
 cases r with
 | error e=>exact hx Yp σ _ _ e s' I2 hq'
 | ok fl =>
  cases fl with
  | ret u =>obtain⟨v,H',I3,rv,ev,q3⟩:=I2.after hq';subst ev;exact⟨rv,⟨V.ref (s.heap.objs.size+1),H',I3,rfl,q3⟩⟩
  | next=>exact False.elim hq'
  | brk=>exact False.elim hq'
  | cont=>exact False.elim hq'
def Jb (M:Mk X.K C f) (F:bS X.prog X.w X.K X.mg X.base CX k f fd ps sp) (hr:dw (k+1) X.A) (hg:Gl X x) (hm:X.mg x=some (.ref C)) (hb:Binds X.K fd ps ds) (hd:Vals dvs ds) (hx:Passes CX X E)
  (ha:PA X (e::es) t) (hdb:(x==("__debug__":Str))=false:=by decide) (he:starEach (e::es) X.env=(false,eval e X.env)::starEach es X.env:=by rfl) (hpl:(backTo pos (starEach es X.env)).any (·.1)=false:=by rfl) :
  PE X (.Call (.Name x p) (e::es) [] pos) (MA C sp dvs E t):=by
 intro Yp s σ H Q I h;refine ot (oE I hg hm ?_ hdb);refine oj (h₀:=X.base) I.ok.mod.kin M.kp (thn (ha pos Yp s σ H _ I h) fun us s1 ⟨vs,H1,I1,r,q⟩=>⟨I1.kIn,?_⟩) he hpl;exact GN M F hr hb hd hx I1 r q
end
section
variable {X:Cx}{CX:CXT}{k:Nat}{f C:Addr}{fd:FuncData}{ps ks:Ze}{sp:Sp}{E:St->XK}{x m:Str}{p pos apos kpos:Pos}{e o:Expr}{es:List Expr}{kws:List Keyword}{te ta:TE}{t tk:TA}{nm:Option Str}
variable {g:Zc->Zc->Zc}{gV:List V->List V->List V}
end
structure aI (N P:Ze) (sc:Scope):Prop where
 kind:sc.kind=.function
 co:sc.isCoroutine=false
 gen:sc.isGenerator=false
 nd:N.Nodup
 pre:N.take P.length=P
 par:∀ x∈P,sc.names.lookup x=some .local∨sc.names.lookup x=some .cell
 nofree:∀ y∈sc.names,y.2≠.free
theorem vF {kindOf:Str->Option NameKind}{x:Str}:∀ {binds:List (Str×Value)}{m:Zk},(∀ v,(x,v)∉binds)->bindL kindOf binds m x=m x
 | [],_,_=>rfl
 | (n,v)::r,m,h=>by
  unfold bindL;rw[vF fun w hw=>h w (bD _ hw)];split
  ·have:x≠n:=by rintro rfl;exact h v bq
   simp [this]
  ·rfl
theorem vE {kindOf:Str->Option NameKind}{x:Str}:∀ {binds:List (Str×Value)}{m:Zk},(∀ v,(x,v)∉binds)->bindC kindOf binds m x=m x
 | [],_,_=>rfl
 | (n,v)::r,m,h=>by
  unfold bindC;rw[vE fun w hw=>h w (bD _ hw)];split
  ·rfl
  ·have:x≠n:=by rintro rfl;exact h v bq
   simp [this]
theorem rF {kindOf:Str->Option NameKind}{x:Str}{v:Value}:∀ {P:Ze}{vs:Zc}{i:Nat}{m:Zk},P.Nodup->P[i]?=some x->vs[i]?=some v->kindOf x=some .local →
  bindL kindOf (P.zip vs) m x=some v
 | [],_,_,_,_,h,_,_=>by simp at h
 | _::_,[],_,_,_,_,h,_=>by simp at h
 | p::P,w::vs,0,m,nd,h1,h2,hk=>by simp at h1 h2;subst h1;subst h2;show bindL kindOf ((p,w)::P.zip vs) m p=_;unfold bindL;rw[vF fun v hv=>(df.mp nd).1 (iK hv).1,ai hk];simp
 | p::P,w::vs,i+1,m,nd,h1,h2,hk=>by show bindL kindOf ((p,w)::P.zip vs) m x=_;unfold bindL;exact rF (i:=i) (df.mp nd).2 (by simpa using h1) (by simpa using h2) hk
theorem rE {kindOf:Str->Option NameKind}{x:Str}{v:Value}:∀ {P:Ze}{vs:Zc}{i:Nat}{m:Zk},P.Nodup->P[i]?=some x->vs[i]?=some v->kindOf x≠some .local →
  bindC kindOf (P.zip vs) m x=some v
 | [],_,_,_,_,h,_,_=>by simp at h
 | _::_,[],_,_,_,_,h,_=>by simp at h
 | p::P,w::vs,0,m,nd,h1,h2,hk=>by simp at h1 h2;subst h1;subst h2;show bindC kindOf ((p,w)::P.zip vs) m p=_;unfold bindC;rw[vE fun v hv=>(df.mp nd).1 (iK hv).1,af hk];simp
 | p::P,w::vs,i+1,m,nd,h1,h2,hk=>by show bindC kindOf ((p,w)::P.zip vs) m x=_;unfold bindC;exact rE (i:=i) (df.mp nd).2 (by simpa using h1) (by simpa using h2) hk
def start (N:Ze) (vs:List V):St:=vs.map some++List.replicate (N.length-vs.length) none
def rK (CX:CXT) (P:Zh) (w:Zi) (K:Zf) (mg:Zk) (base:Heap) (N:Ze) (qual:Str) (scope:Scope) (f:Addr) (cd:Value) (A:Around) (outer:List Env) (s:Zg) (H:Hp) (E:XK):Cx where
 prog:=P
 w:=w
 K:=K
 mg:=mg
 base:=base
 A:=A.deeper (envOfC qual scope s.heap.objs.size f cd)
 N:=N
 s₀:=s
 H₀:=H
 env:=envOfC qual scope s.heap.objs.size f cd
 outer:=outer
 stack:=envOfC qual scope s.heap.objs.size f cd::outer
 ex:=[]
 calm:=true
 fn:=fun _=>true
 pn:=[]
 xe:=fun e s'=>wpAny (model P w) (A.deeper (envOfC qual scope s.heap.objs.size f cd)) (leaving (envOfC qual scope s.heap.objs.size f cd) e) (fun _ s''=>CX outer H s E e s'') (fun e' s''=>CX outer H s E e' s'') s'
def pU {sc:Scope}{n:Nat} (h:sc.names.lookup x=some .cell):∃ c,(cellsFrom n sc.names []).lookup x=some c:=by have q:=rz sc.names n [] (.inl h);exact nY.mp q
def vN {CX:CXT}{P:Zh}{w:Zi}{K:Zf}{mg:Zk}{base:Heap}{N ps:Ze}{qual:Str}{scope:Scope}{f:Addr}{cd:Value}{A:Around}{outer:List Env}{s s1:Zg}{H:Hp}{E:XK}{us:Zc}{vs:List V}
  (S:aI N ps scope) (hd:A.handled=none) (e0:ua P w K mg base A outer s H) (hl:vs.length=ps.length) (r:Vals vs us)
  (x:InCallC s s.heap.objs.size (bindL (envOfC qual scope s.heap.objs.size f cd).kindOf (ps.zip us) fun _=>none) (cellsFrom (s.heap.objs.size+1) scope.names []) (bindC (envOfC qual scope s.heap.objs.size f cd).kindOf (ps.zip us) fun _=>none) s1) :
  Inv (rK CX P w K mg base N qual scope f cd A outer s H E) [] (start N vs) H s1:=by
 have hpl:ps.length<=N.length:=by have:=aV List.length S.pre;rw[fK] at this;left
 obtain⟨h1,tk,rfl,hk⟩:=x.done;have noA:∀ b:Addr,b∉(rK CX P w K mg base N qual scope f cd A outer s H E).ex:=fun b z=>absurd (show b∈([]:List Addr) from z) (by simp);refine⟨⟨e0.mod,S.kind,rfl,rfl,aq _,fun y z c h1 h2=>?_,fun y hy=>?_,fun y c _ h=>?_,fun _=>hd,Around.frames_deeper e0.frames,.inr ⟨rfl,rfl⟩,fun b z=>absurd z (noA b),e0.bs,e0.bsz,fun b _ _=>noA b,fun b z=>absurd z (noA b),e0.mJ,e0.frf⟩,
  rfl,e0.bare,Un.kept hk,⟨_,x.toInCall.ns,fun i y v h1 h2 h3=>?_⟩,fun y c h=>⟨_,x.cell y c h⟩,e0.hok.fresh (aq _),fun y c h=>?_,fun p hp=>absurd (show p∈([]:Zp) from hp) (by simp),e0.hok.kept hk,?_⟩
 ·exact name_of_addr x.apart (fk h1) (fk h2)
 ·have hy:scope.names.lookup y=some .cell∨scope.names.lookup y=some .free:=hy;rcases hy with hy | hy
  ·exact pU hy
  ·exact absurd rfl (S.nofree _ (fk hy))
 ·exact aT (x.above y c (fk h))
 ·have hi:i<vs.length:=by
   unfold start at h2
   by_cases hi:i<vs.length
   ·exact hi
   ·rw[gc (by simpa using hi)] at h2;rw[qS] at h2;split at h2<;>cases h2
  have ha:vs[i]?=some v:=by
   unfold start at h2;rw[gb (by simpa using hi),bt] at h2;cases e:vs[i]? with
   | none=>rw[e] at h2;cases h2
   | some a=>rw[e] at h2;cases h2;rfl
  obtain⟨u,hu,rv⟩:=r.get ha;have hp:ps[i]?=some y:=by rw[←S.pre,List.getElem?_take_of_lt (by left)];exact h1
  have ndP:ps.Nodup:=by rw[←S.pre];exact S.nd.sublist (List.take_sublist _ _)
  refine⟨u,rv,?_⟩;rcases S.par y (bw hp) with k | k
  ·exact .inl ⟨k,rF ndP hp hu k⟩
  ·obtain⟨c,e⟩:=pU (n:=s.heap.objs.size+1) k;refine .inr ⟨.inl k,c,e,?_⟩;have q:=x.cell y c e;rw[rE ndP hp hu (by show scope.names.lookup y≠_;rw[k];decide)] at q;exact q
 ·exact e0.hok.fresh (aT (x.above y c (fk h)))
 ·unfold start;show _=N.length;rw[aK,ak,lD];left
def J7 {CX:CXT}{P:Zh}{w:Zi}{K:Zf}{mg:Zk}{base:Heap}{k:Nat}{f:Addr}{name qual:Str}{params:Arguments}{body:List Stmt}{scope:Scope}{dV kV doc pm cdv ct oc:Value}{an od:Option Addr}
  {osl:Array (Option Value)}{N ps:Ze}{sp:Sp} (lk:K.lookup f=some ⟨oc,od,.func (PySem.W.fnOf name qual params body scope dV kV doc pm an cdv ct),osl⟩) (hcd:PySem.W.codeIn K cdv qual=true) (S:aI N ps scope)
  (len:∀ vs H Q E,sp vs H Q E->vs.length=ps.length)
  (hbody:∀ (A:Around) (outer:List Env) (s:Zg) (H:Hp) (vs:List V) (Q:VK) (E:XK),dw k (A.deeper (envOfC qual scope s.heap.objs.size f cdv))->sp vs H Q E →
   ∃ t,PSs (rK CX P w K mg base N qual scope f cdv A outer s H E) body t/\t { nx:=fun _ H'=>Q .non H',rt:=Q } (start N vs) H) :
  bS P w K mg base CX (k+1) f (PySem.W.fnOf name qual params body scope dV kV doc pm an cdv ct) ps sp:=by
 refine⟨len,fun A outer s H args us vs Q E hr e0 hb r hsp=>?_⟩;have hl:=len _ _ _ _ hsp;have KX:K.In s.heap:=e0.mod.kin.keeps fun b o e=>(e0.bs b o e).1;have lim:s.heap.NoLimit:=e0.mod.nolimit.keeps fun b o e=>(e0.bs b o e).1;have hkind:∀ y∈ps.zip us,scope.names.lookup y.1=some .local∨(scope.names.lookup y.1=some .cell/\((cellsFrom (s.heap.objs.size+1) scope.names []).lookup y.1).isSome=true):=fun ⟨n,v⟩ hy=>by
  rcases S.par n (iK hy).1 with q | q
  ·exact .inl q
  ·exact .inr ⟨q,rz _ _ _ (.inl q)⟩
 refine codeAny_call_function hr.depth (KX _ _ lk) rfl S.co S.gen rfl (PySem.W.codeRec_of KX hcd) (hb _ _ _ _ ?_);refine wpAny_newFunctionEnv_cells S.kind hkind fun env he s1 x=>?_;subst he;refine⟨lim.keeps x.toInCall.keep,codeAny_func ?_⟩;obtain⟨t,ht,hq⟩:=hbody A outer s H vs Q E (hr.deeper _) hsp;have I:Inv (rK CX P w K mg base N qual scope f cdv A outer s H E) [] (start N vs) H s1:=vN S hr.hd e0 hl r x;refine bB (ht [] s1 (start N vs) H _ I hq) (fun fl s' hs=>?_) fun e s' hs=>hs;have fin:∀ {σ':St}{H':Hp}{v:V}{u:Value},Inv (rK CX P w K mg base N qual scope f cdv A outer s H E) [] σ' H' s'->RelV v u->Q v H'->CE outer P w H s Q u s' :=
  fun {σ' H' v u} J rv q=>⟨v,H',J.os,J.bare,J.base,J.hok,rv,q⟩
 cases fl with
 | ret u =>obtain⟨v,σ',H',J,rv,q⟩:=hs;exact fin J rv q
 | next =>obtain⟨σ',H',J,q⟩:=hs;exact fin (v:=V.non) (u:=Value.none) J rfl q
 | brk =>obtain⟨_,_,_,q⟩:=hs;exact False.elim q
 | cont =>obtain⟨_,_,_,q⟩:=hs;exact False.elim q
end
section
section
variable {X:Cx}{x:Str}{p pos:Pos}{e:Expr}{es:List Expr}{t:TA}{id T:String}{r:List V->Hp->VK->Prop}
def tCB (r:List V->Hp->VK->Prop) (t:TA):TE:=fun σ H Q=>t σ H fun vs H1=>r vs H1 Q
def Ga (hc:cS X (.builtin id) r) (hg:Gl X x) (hm:X.mg x=none) (hv:bootBuiltins x=some (.builtin id)) (ha:PA X (e::es) t) (hn:x≠"__name__":=by decide) (hdb:(x==("__debug__":Str))=false:=by decide)
  (he:starEach (e::es) X.env=(false,eval e X.env)::starEach es X.env:=by rfl) (hpl:(backTo pos (starEach es X.env)).any (·.1)=false:=by rfl):PE X (.Call (.Name x p) (e::es) [] pos) (tCB r t):=by
 intro Yp s σ H Q I h;refine ot (rO I hg hm hv ?_ hn hdb);exact PyProof.Rows.callWith_builtin1 (thn (ha pos Yp s σ H _ I h) fun us s1 ⟨vs,H1,I1,r1,q1⟩=>hc Yp s1 σ H1 vs us Q I1 r1 q1) he hpl
def DE (hc:cS X (.type T) r) (hg:Gl X x) (hm:X.mg x=none) (hv:bootBuiltins x=some (.type T)) (ha:PA X (e::es) t) (hn:x≠"__name__":=by decide) (hdb:(x==("__debug__":Str))=false:=by decide)
  (he:starEach (e::es) X.env=(false,eval e X.env)::starEach es X.env:=by rfl) (hpl:(backTo pos (starEach es X.env)).any (·.1)=false:=by rfl):PE X (.Call (.Name x p) (e::es) [] pos) (tCB r t):=by
 intro Yp s σ H Q I h;refine ot (rO I hg hm hv ?_ hn hdb);exact ri (thn (ha pos Yp s σ H _ I h) fun us s1 ⟨vs,H1,I1,r1,q1⟩=>hc Yp s1 σ H1 vs us Q I1 r1 q1) he hpl
end
end
end L2
namespace HT
open PySem PyProof.Rows
theorem EL (A:Around) (s:Zg) (a:Int) (t:Tok) (c:Int) (u:Tok):∃ e,SeqAt.EqAt A s (.int a t) (.int c u) e/\(e=true↔a=c) :=
 ⟨(a==c),SeqAt.EqAt.int_int a t c u,by simp⟩
section
open PySem.SeqAt
open PySem.AutoSeq1 (wpAny_loadPart')
open PySem.MeetsSeq PySem.MeetsSeq2 PySem.MeetsSeq3
end
section
variable {prog:Zh}{w:Zi}{A:Around}{E:Zq}{s:Zg}
def sIx (n d:Nat):Option Int->Nat
 | none=>d
 | some v=>if v<0 then (v+(n:Int)).toNat else min v.toNat n
theorem GR (n d:Nat):sIx n d none=d:=rfl
theorem xB (n d k:Nat):sIx n d (some (k:Int))=min k n:=by show (if (k:Int)<0 then ((k:Int)+(n:Int)).toNat else min (k:Int).toNat n)=min k n;rw[af (by left),nI]
theorem GQ (n d:Nat) (hd:d<=n) (o:Option Int):sIx n d o<=n:=by
 cases o with
 | none=>exact hd
 | some v =>
  show (if v<0 then (v+(n:Int)).toNat else min v.toNat n)<=n
  by_cases hv:v<0
  ·rw[ai hv];left
  ·rw[af hv];exact Nat.min_le_right _ _
end
end HT
namespace L2
open PySem PySem.Spec PyProof.Rows
variable {A:Around}{H:Hp}{H':Hp}{P:Zh}{Q:Zq}{X:Cx}{a:Addr}{h':Heap}{i:Int}{j:Nat}{kvs:List (List Key×V)}{o:Option V}{Yp:Zp}{s:Zg}{t':Nat}{u:Value}{w:Zi}{xs:List (List Key×Addr×Value)}{y:V}{α:Type}{σ:St}
section
abbrev TO:=St->Hp->(Option Int->Hp->Prop)->Prop
def PO (X:Cx) (e:Option Expr) (t:TO):Prop :=
 ∀ (Yp:Zp) (s:Zg) (σ:St) (H:Hp) (Q:Option Int->Hp->Prop),Inv X Yp σ H s->t σ H Q →
  wpAny (model X.prog X.w) X.A (evalPart e X.env) (fun u s'=>∃ o H',Inv X Yp σ H' s'/\IsPart u o/\Q o H') X.xe s
def BS:TO:=fun _ H Q=>Q none H
def JY (t:TE):TO:=fun σ H Q=>t σ H fun x H1=>∃ i,x=.int i/\Q (some i) H1
def intsAre_of {ns:Zb}:∀ {us:Zc},Vals (ns.map V.int) us->IntsAre us ns:=by
 induction ns with
 | nil=>intro us r;rw[List.map_nil] at r;cases r;exact .nil
 | cons n ns ih =>
  intro us r;rw[bp] at r;cases r with
  | cons r1 r2 =>obtain⟨t,e⟩:=r1;subst e;exact .cons n t (ih r2)
section
variable {X:Cx}{e:Expr}{te:TE}{lo hi:Option Expr}{tl th:TO}{pos p2:Pos}
def me:PO X none BS:=by intro Yp s σ H Q I h;rw[evalPart_none];exact a8 ⟨none,H,I,.none,h⟩
def jh (h:PE X e te):PO X (some e) (JY te):=by intro Yp s σ H Q I hw;rw[evalPart_some];refine thn (h Yp s σ H _ I hw) fun u s1 ⟨x,H1,I1,r1,q1⟩=>?_;obtain⟨i,rfl,q⟩:=q1;obtain⟨t,rfl⟩:=r1;exact⟨some i,H1,I1,.int i t,q⟩
def SlR (X:Cx) (r:V->Option Int->Option Int->Hp->VK->Prop):Prop :=
 ∀ (Yp:Zp) (s:Zg) (σ:St) (H:Hp) (x:V) (v vl vu:Value) (lo hi:Option Int) (sl:Addr) (Q:VK),Inv X Yp σ H s->RelV x v->s.heap.IsSliceOf sl vl vu .none->IsPart vl lo->IsPart vu hi->r x lo hi H Q →
  ∃ T id,typeLookup (.type T) "__getitem__"=pure (some (.builtin id))/\s.TypeIs v T/\wpAny (model X.prog X.w) X.A (getItem v (.ref sl)) (EP X Yp σ Q) X.xe s
def tSl (r:V->Option Int->Option Int->Hp->VK->Prop) (te:TE) (tl th:TO):TE:=fun σ H Q=>te σ H fun x H1=>tl σ H1 fun l H2=>th σ H2 fun u H3=>r x l u H3 Q
def iF {r:V->Option Int->Option Int->Hp->VK->Prop} (hr:SlR X r) (he:PE X e te) (hl:PO X lo tl) (hu:PO X hi th):PE X (.Subscript e (.Slice lo hi none p2) pos) (tSl r te tl th):=by intro Yp s σ H Q I h;refine Subscript_ (thn (he Yp s σ H _ I h) fun v s1 ⟨x,H1,I1,r1,q1⟩=>?_);refine wpAny_Slice (thn (hl Yp s1 σ H1 _ I1 q1) fun vl s2 ⟨l,H2,I2,pl,q2⟩=>thn (hu Yp s2 σ H2 _ I2 q2) fun vu s3 ⟨u,H3,I3,pu,q3⟩=>?_);rw[evalPart_none];refine a8 ?_;have I4:Inv X Yp σ H3 { s3 with heap:=s3.heap.push { cls:=.type "slice",data:=.fields #[vl,vu,.none] } }:=I3.kept (t':=s3.toks) fun b ob q=>aL _ q;obtain⟨T,id,hT,ht,hg⟩:=hr Yp { s3 with heap:=s3.heap.push { cls:=.type "slice",data:=.fields #[vl,vu,.none] } } σ H3 x v vl vu l u s3.heap.objs.size Q I4 r1 (Heap.IsSliceOf.new ..) pl pu q3;show wpAny (model X.prog X.w) X.A (subscriptTail e (.Slice lo hi none p2) v (.ref s3.heap.objs.size)) (EP X Yp σ Q) X.xe { s3 with heap:=s3.heap.push { cls:=.type "slice",data:=.fields #[vl,vu,.none] } };exact tail_any (ops:=[.ref s3.heap.objs.size,v]) ht hT hg (by with_unfolding_all rfl)
def pV (xs:List V) (lo hi:Option Int):List V:=(xs.drop (HT.sIx xs.length 0 lo)).take (HT.sIx xs.length xs.length hi-HT.sIx xs.length 0 lo)
def xX (xs:List V) (lo hi:Option Int):(pV xs lo hi).length<=xs.length:=by unfold pV;rw[fK,cR];left
end
end
section
def ixN (n:Nat) (i:Int):Option Nat:=if 0<=i then (if i<n then some i.toNat else none) else if -(n:Int)<=i then some (i+n).toNat else none
def atI {α:Type} (xs:List α) (i:Int):Option α:=(ixN xs.length i).bind fun j=>xs[j]?
def Iz {n:Nat} (h:ixN n i=some j):seqIndex? i n=some j/\j<n/\-(n:Int)<=i/\i<n:=by
 unfold ixN at h
 by_cases h0:0<=i
 ·rw[ai h0] at h
  by_cases h1:i<n
  ·rw[ai h1] at h;have e:i.toNat=j:=Option.some.inj h;exact⟨by rw[seqIndex_of h0 h1,e],by left,by left,h1⟩
  ·rw[af h1] at h;cases h
 ·rw[af h0] at h
  by_cases h1:-(n:Int)<=i
  ·rw[ai h1] at h;have e:(i+n).toNat=j:=Option.some.inj h;exact⟨by rw[seqIndex_neg (by left) h1,e],by left,h1,by left⟩
  ·rw[af h1] at h;cases h
def w5 {xs:List α}{v:α} (h:atI xs i=some v):∃ j,seqIndex? i xs.length=some j/\xs[j]?=some v/\j<xs.length/\-(xs.length:Int)<=i/\i<xs.length:=by
 unfold atI at h;cases e:ixN xs.length i with
 | none=>rw[e] at h;cases h
 | some j =>rw[e] at h;obtain⟨h1,h2,h3,h4⟩:=Iz e;exact⟨j,h1,h,h2,h3,h4⟩
def bf {xs:List α}{v:α} (h:xs[j]?=some v):atI xs (j:Int)=some v:=by
 have hj:j<xs.length:=(bN.mp h).1;have e:ixN xs.length (j:Int)=some j:=by unfold ixN;rw[ai (by left),ai (by left)];simp
 unfold atI;rw[e];exact h
def Hz (b:Expr):Prop:=∀ o i,subscripted b false o i=operate [o,i] (getItem o i)
def IxR (X:Cx) (r:R2):Prop :=
 ∀ (value slice:Expr) (Yp:Zp) (s:Zg) (σ:St) (H:Hp) (x y:V) (v u:Value) (Q:VK),Inv X Yp σ H s->RelV x v->RelV y u->r x y H Q →
  subscripted slice false v u=operate [v,u] (getItem v u)->wpAny (model X.prog X.w) X.A (subscriptTail value slice v u) (EP X Yp σ Q) X.xe s
def MtR (X:Cx) (id:String) (r:V->List V->Hp->VK->Prop):Prop :=
 ∀ (Yp:Zp) (s:Zg) (σ:St) (H:Hp) (x:V) (xs:List V) (v:Value) (us:Zc) (Q:VK),Inv X Yp σ H s->RelV x v->Vals xs us->r x xs H Q →
  wpAny (model X.prog X.w) X.A (call (.builtin id) (v::us)) (EP X Yp σ Q) X.xe s
section
variable {X:Cx}{a b:Expr}{ta tb:TE}{pos:Pos}
def b7 {r:R2} (hr:IxR X r) (ha:PE X a ta) (hb:PE X b tb) (hs:Hz b):PE X (.Subscript a b pos) (tOp r ta tb):=by intro Yp s σ H Q I h;exact Subscript_ (Ku ha hb I h fun v u s2 x y H2 I2 rx ry q=>hr a b Yp s2 σ H2 x y v u Q I2 rx ry q (hs _ _))
def Nk (K:Zf):R2:=fun x y H Q=>∃ p xs i v,x=.ref p/\y=.int i/\SqL K H p xs/\atI xs i=some v/\Q v H
def Nm (K:Zf):R2:=fun x y H Q=>∃ p xs i v,x=.ref p/\y=.int i/\SqT K H p xs/\atI xs i=some v/\Q v H
def Nl:R2:=fun x y H Q=>∃ z i c,x=.str z/\y=.int i/\z.length<=sizeLine/\atI z.cps.toList i=some c/\Q (.str ⟨#[c]⟩) H
def IC:IxR X (Nk X.K):=by
 intro value slice Yp s σ H x y v u Q I rx ry h hs;obtain⟨p,xs,i,z,rfl,rfl,hq,he,q⟩:=h;cases rx;obtain⟨t,rfl⟩:=ry;obtain⟨its,r,pl,hz⟩:=I.list hq;obtain⟨j,h1,h2,h3,h4,h5⟩:=w5 he;obtain⟨w,ew,rw'⟩:=r.get h2;have hl:=r.length;have hn:=u6;have fin:EP X Yp σ Q w s:=⟨z,H,I,rw',q⟩
 by_cases h0:0<=i
 ·have hj:i.toNat=j:=by
   rw[seqIndex_of h0 h5] at h1;exact Option.some.inj h1
  exact item_listR pl.isList h0 (by left) (by rw[hj];simpa using ew) fin hs
 ·have hj:(i+(its.toArray.size:Int)).toNat=j:=by
   rw[seqIndex_neg (by left) h4] at h1;rw[aZ,←hl];exact Option.some.inj h1
  exact subscriptTail_builtinR (x:=w) pl.isList.typeIs slot_list_getitem.lookup
   (wpAny_getItem_list_neg (Q:=fun r s'=>r=w/\EP X Yp σ Q r s') pl.isList (by left) (by rw[aZ]<;>left) (by left) (by rw[hj];simpa using ew) ⟨rfl,fin⟩) hs
def KG:IxR X (Nm X.K):=by
 intro value slice Yp s σ H x y v u Q I rx ry h hs;obtain⟨p,xs,i,z,rfl,rfl,hq,he,q⟩:=h;cases rx;obtain⟨t,rfl⟩:=ry;obtain⟨its,r,pl,hz⟩:=I.tuple hq;obtain⟨j,h1,h2,h3,h4,h5⟩:=w5 he;obtain⟨w,ew,rw'⟩:=r.get h2;have hl:=r.length;have hn:=u6;have fin:EP X Yp σ Q w s:=⟨z,H,I,rw',q⟩;exact subscriptTail_builtinR (x:=w) pl.typeIs slot_tuple_getitem.lookup
  (getItem_tuple (j:=j) (Q:=fun r s'=>r=w/\EP X Yp σ Q r s') pl (by left) (by left) (by rw[aZ,←hl];exact h1) (by simpa using ew) ⟨rfl,fin⟩) hs
def KC:IxR X Nl:=by
 intro value slice Yp s σ H x y v u Q I rx ry h hs;obtain⟨z,i,c,rfl,rfl,hz,he,q⟩:=h;obtain⟨t,rfl⟩:=rx;obtain⟨t',rfl⟩:=ry;obtain⟨j,h1,h2,h3,h4,h5⟩:=w5 he;have hl:z.cps.toList.length=z.length:=by simp [Str.length]
 rw[hl] at h1 h4 h5;have hn:=u6;exact tail_any (hX s z t) slot_str_getitem.lookup (getItem_str (c:=c) (by have e1:decide (i < -(2^63:Int))=false:=ay (by left);have e2:decide (i≥2^63)=false:=ay (by left);rw[e1,e2,Bool.or_false]) (by rw[h1];simpa using h2) ⟨.str ⟨#[c]⟩,H,I.tok _,⟨_,rfl⟩,q⟩) hs
def Inv.lst {Yp:Zp}{σ:St}{H:Hp}{s:Zg}{p:Addr}{xs:List V} (I:Inv X Yp σ H s) (h:H p=some (.lst xs)) :
  ∃ (its:Zc) (n:Nat),Vals xs its/\s.heap.get? p=some { cls:=.type "list",data:=.seq its.toArray n }/\xs.length<=sizeLine:=by
 obtain⟨z,its,n,r,e⟩:=I.hok p _ h;exact⟨its,n,r,e,z⟩
def xI (lo hi:Option Int) (n:Nat):(sliceBounds lo hi none n).1=((HT.sIx n 0 lo:Nat):Int)/\(sliceBounds lo hi none n).2.1=((HT.sIx n n hi:Nat):Int)/\(sliceBounds lo hi none n).2.2=1:=by
 refine⟨?_,?_,rfl⟩
 ·cases lo with
  | none=>simp [sliceBounds,HT.sIx]
  | some i =>
   simp only[sliceBounds,HT.sIx,Option.getD_none,show (1:Int)>0 by decide,if_true]
   by_cases h:i<0
   ·simp only[h,if_true]<;>left
   ·simp only[h,fM]<;>left
 ·cases hi with
  | none=>simp [sliceBounds,HT.sIx]
  | some i =>
   simp only[sliceBounds,HT.sIx,Option.getD_none,show (1:Int)>0 by decide,if_true]
   by_cases h:i<0
   ·simp only[h,if_true]<;>left
   ·simp only[h,fM]<;>left
def v8 (its:Zc) (lo hi:Option Int):slicePick its.toArray lo hi none=((its.drop (HT.sIx its.length 0 lo)).take (HT.sIx its.length its.length hi-HT.sIx its.length 0 lo)).toArray:=by obtain⟨h1,h2,h3⟩:=xI lo hi its.toArray.size;unfold slicePick;rw[h1,h2,h3];simp only[sliceRange_one,pick_run,aZ]<;>rfl
def Nr (K:Zf):V->Option Int->Option Int->Hp->VK->Prop:=fun x lo hi H Q=>∃ a xs,x=.ref a/\SqL K H a xs/\∀ p,H p=none->Q (.ref p) (upd H p (.lst (pV xs lo hi)))
def Jt:SlR X (Nr X.K):=by intro Yp s σ H x v vl vu lo hi sl Q I rx hs pl pu h;obtain⟨a,xs,rfl,hx,q⟩:=h;cases rx;obtain⟨its,r,ht,hz⟩:=I.list hx;have hlen:=r.length;refine⟨"list",_,slot_list_getitem.lookup,ht.isList.typeIs,?_⟩;refine wpAny_getItem_list_slice ht.isList hs pl pu .none (by simp) ?_ (by rw[aZ]<;>left);rw[v8,←hlen];refine⟨.ref s.heap.objs.size,_,I.laid (t':=s.toks) (o:=.lst (pV xs lo hi)) (fun b ob q=>aL _ q) (aq _) ?_,rfl,q _ (I.hok.fresh (aq _))⟩;exact⟨bQ (xX xs lo hi) hz,_,0,(r.drop (HT.sIx xs.length 0 lo)).take (HT.sIx xs.length xs.length hi-HT.sIx xs.length 0 lo),bj _ rfl⟩
def dZ:V->Bool
 | .non=>true
 | .bl _=>true
 | .int _=>true
 | .str _=>true
 | _=>false
def eqV:V->V->Bool
 | .non,.non=>true
 | .bl a,.bl b=>a==b
 | .bl a,.int b=>(if a then 1 else 0)==b
 | .int a,.bl b=>a==(if b then 1 else 0)
 | .int a,.int b=>a==b
 | .str a,.str b=>a==b
 | _,_=>false
def oV {y x:V}{u v:Value} (ry:RelV y u) (rx:RelV x v) (fy:dZ y=true) (fx:dZ x=true):SeqAt.EqAt A s u v (eqV y x):=by
 cases y with
 | non =>
  cases ry
  cases x with
  | non=>cases rx;exact SeqAt.EqAt.same _
  | bl b=>cases rx;exact SeqAt.EqAt.none_bool b
  | int b=>obtain⟨t,rfl⟩:=rx;exact SeqAt.EqAt.none_int b t
  | str b=>obtain⟨t,rfl⟩:=rx;exact SeqAt.EqAt.none_str b t
  | _=>exact absurd (show false=true from fx) bO
 | bl a =>
  cases ry
  cases x with
  | non=>cases rx;exact SeqAt.EqAt.bool_none a
  | bl b=>cases rx;exact SeqAt.EqAt.bool_bool a b
  | int b=>obtain⟨t,rfl⟩:=rx;exact SeqAt.EqAt.bool_int a b t
  | str b=>obtain⟨t,rfl⟩:=rx;exact SeqAt.EqAt.bool_str a b t
  | _=>exact absurd (show false=true from fx) bO
 | int a =>
  obtain⟨t',rfl⟩:=ry;cases x with
  | non=>cases rx;exact SeqAt.EqAt.int_none a t'
  | bl b=>cases rx;exact SeqAt.EqAt.int_bool a t' b
  | int b=>obtain⟨t,rfl⟩:=rx;exact SeqAt.EqAt.int_int a t' b t
  | str b=>obtain⟨t,rfl⟩:=rx;exact SeqAt.EqAt.int_str a t' b t
  | _=>exact absurd (show false=true from fx) bO
 | str a =>
  obtain⟨t',rfl⟩:=ry;cases x with
  | non=>cases rx;exact SeqAt.EqAt.str_none a t'
  | bl b=>cases rx;exact SeqAt.EqAt.str_bool a t' b
  | int b=>obtain⟨t,rfl⟩:=rx;exact SeqAt.EqAt.str_int a t' b t
  | str b=>obtain⟨t,rfl⟩:=rx;exact SeqAt.EqAt.str_str a t' b t
  | _=>exact absurd (show false=true from fx) bO
 | _=>exact absurd (show false=true from fy) bO
def eqU (x:V) (u:Value):Bool:=match u with
 | .none=>eqV .non x
 | .bool b=>eqV (.bl b) x
 | .int i _=>eqV (.int i) x
 | .str z _=>eqV (.str z) x
 | _=>false
def EM {x y:V} (r:RelV y u) (f:dZ y=true):eqU x u=eqV y x:=by
 cases y with
 | non=>cases r;rfl
 | bl b=>cases r;rfl
 | int i=>obtain⟨t,rfl⟩:=r;rfl
 | str z=>obtain⟨t,rfl⟩:=r;rfl
 | _=>exact absurd (show false=true from f) bO
theorem pQ {x:V}:∀ {xs:List V}{us:Zc},Vals xs us->xs.all dZ=true->us.any (eqU x)=xs.any fun y=>eqV y x
 | _,_,.nil,_=>rfl
 | y::xs,u::us,.cons r t,f=>by rw[jJ,cm] at f;rw[nJ,nJ,EM r f.1,pQ t f.2]
theorem mO {A:Around}{s:Zg}{x:V}{v:Value} (rx:RelV x v) (fx:dZ x=true):∀ {xs:List V}{us:Zc},Vals xs us->xs.all dZ=true->∀ u∈us,SeqAt.EqAt A s u v (eqU x u)
 | _,_,.nil,_=>fun u hu=>by cases hu
 | y::xs,u::us,.cons r t,f=>fun u' hu=>by
  rw[jJ,cm] at f;rcases aJ.mp hu with rfl | hu
  ·rw[EM r f.1];exact oV r rx f.1 fx
  ·exact mO rx fx t f.2 u' hu
def inV (x:V) (xs:List V):Bool:=xs.any fun y=>eqV y x
def rIn (K:Zf) (neg:Bool):R2:=fun x y H Q=>∃ p xs,y=.ref p/\(SqL K H p xs∨SqT K H p xs)/\dZ x=true/\xs.all dZ=true/\Q (.bl (if neg then !inV x xs else inV x xs)) H
def DA:OpR X (compareOp .In) (rIn X.K false):=by
 intro Yp s σ H x y v u Q I rx ry h;obtain⟨p,xs,rfl,hq,fx,fs,q⟩:=h;cases ry;rcases hq with hq | hq
 ·obtain⟨its,r,pl,hz⟩:=I.list hq;refine SeqAt.in_listAt (eqU x) pl.isList (fun w hw=>mO rx fx r fs w (by simpa using hw)) ⟨.bl _,H,I,rfl,?_⟩;rw[show its.toArray.any (eqU x)=its.any (eqU x) by simp,pQ r fs];exact q
 ·obtain⟨its,r,pl,hz⟩:=I.tuple hq;refine SeqAt.in_tupleAt (eqU x) pl (fun w hw=>mO rx fx r fs w (by simpa using hw)) ⟨.bl _,H,I,rfl,?_⟩;rw[show its.toArray.any (eqU x)=its.any (eqU x) by simp,pQ r fs];exact q
def xt:OpR X (compareOp .NotIn) (rIn X.K true):=by
 intro Yp s σ H x y v u Q I rx ry h;obtain⟨p,xs,rfl,hq,fx,fs,q⟩:=h;cases ry;rcases hq with hq | hq
 ·obtain⟨its,r,pl,hz⟩:=I.list hq;refine SeqAt.notIn_listAt (eqU x) pl.isList (fun w hw=>mO rx fx r fs w (by simpa using hw)) ⟨.bl _,H,I,rfl,?_⟩;rw[show its.toArray.any (eqU x)=its.any (eqU x) by simp,pQ r fs];exact q
 ·obtain⟨its,r,pl,hz⟩:=I.tuple hq;refine SeqAt.notIn_tupleAt (eqU x) pl (fun w hw=>mO rx fx r fs w (by simpa using hw)) ⟨.bl _,H,I,rfl,?_⟩;rw[show its.toArray.any (eqU x)=its.any (eqU x) by simp,pQ r fs];exact q
def wA:cS X (.builtin "len") (fun xs H Q=>∃ p ys,xs=[.ref p]/\(SqL X.K H p ys∨SqT X.K H p ys)/\Q (.int ys.length) H):=by
 intro Yp s σ H xs us Q I r h;obtain⟨p,ys,rfl,hq,q⟩:=h;obtain⟨u,rfl,rx⟩:=vals1 r;cases rx;have hn:=u6;rcases hq with hq | hq
 ·obtain⟨its,r',pl,hz⟩:=I.list hq;have hlen:=r'.length;exact Calls.call_len_list pl.isList (by simp only[aZ]<;>left) ⟨.int ys.length,H,I.tok _,⟨s.toks+1,by rw[aZ,hlen]⟩,q⟩
 ·obtain⟨its,r',pl,hz⟩:=I.tuple hq;have hlen:=r'.length;exact len_tuple pl (by simp only[aZ]<;>left) ⟨.int ys.length,H,I.tok _,⟨s.toks+1,by rw[aZ,hlen]⟩,q⟩
def wB:cS X (.builtin "len") (fun xs H Q=>∃ z,xs=[.str z]/\z.length<=sizeLine/\Q (.int z.length) H):=by intro Yp s σ H xs us Q I r h;obtain⟨z,rfl,hz,q⟩:=h;obtain⟨u,rfl,t,rfl⟩:=vals1 r;have hn:=u6;exact len_str (by left) ⟨.int z.length,H,I.tok _,⟨_,rfl⟩,q⟩
def wD:cS X (.type "list") (fun xs H Q=>∃ p ys,xs=[.ref p]/\(SqL X.K H p ys∨SqT X.K H p ys)/\∀ l,H l=none->Q (.ref l) (upd H l (.lst ys))):=by
 intro Yp s σ H xs us Q I r h;obtain⟨p,ys,rfl,hq,q⟩:=h;obtain⟨u,rfl,rx⟩:=vals1 r;cases rx;have fin:∀ (its:Zc),Vals ys its->ys.length<=sizeLine->∀ (h':Heap) (c':Nat),(∀ b o',s.heap.get? b=some o'->h'.get? b=some o') →
   h'.get? s.heap.objs.size=some { cls:=.type "list",dict:=none,data:=.seq its.toArray c',slots:=#[] }->EP X Yp σ Q (.ref s.heap.objs.size) { s with heap:=h' }:=fun its r' hz h' c' kp e =>
  ⟨.ref s.heap.objs.size,_,I.laid (t':=s.toks) kp (aq _) (show bT X.prog X.w _ h' _ (.lst ys) from ⟨hz,its,c',r',e⟩),rfl,q _ (I.hok.fresh (aq _))⟩
 rcases hq with hq | hq
 ·obtain⟨its,r',pl,hz⟩:=I.list hq;have hlen:=r'.length;obtain⟨o,ho,hc,n,hd⟩:=pl.isList;exact call_list_seq p (.inl rfl) ho hc hd (fun h' c' kp e=>fin its r' hz h' c' kp e) (by simp only[aZ]<;>left)
 ·obtain⟨its,r',pl,hz⟩:=I.tuple hq;have hlen:=r'.length;obtain⟨o,ho,hc,n,hd⟩:=pl;exact call_list_seq p (.inr rfl) ho hc hd (fun h' c' kp e=>fin its r' hz h' c' kp e) (by simp only[aZ]<;>left)
def tyV (K:Zf) (T:String) (x:V) (H:Hp):Prop:=match x with
 | .str _=>T="str"
 | .int _=>T="int"
 | .ref p=>(T="list"/\∃ xs,SqL K H p xs)∨(T="tuple"/\∃ o,K.lookup p=some o/\o.cls=.type "tuple"/\o.dict=none) ∨
   (T="dict"/\((∃ kvs,H p=some (.dK kvs))∨∃ kvs,H p=some (.dT kvs)))∨(T="set"/\∃ S n,H p=some (.set S n))
 | _=>False
def Ho {T:String}{x:V}{v:Value} (I:Inv X Yp σ H s) (r:RelV x v) (ty:tyV X.K T x H) :
  s.TypeIs v T/\∀ a,v=.ref a->∃ ob,s.heap.get? a=some ob/\ob.dict=none:=by
 cases x with
 | str z =>obtain⟨t,rfl⟩:=r;cases (show T="str" from ty);exact⟨hX s z t,fun _ e=>nomatch e⟩
 | int i =>obtain⟨t,rfl⟩:=r;cases (show T="int" from ty);exact⟨typeIs_int s i t,fun _ e=>nomatch e⟩
 | ref p =>
  cases r
  rcases ty with ⟨rfl,xs,hq⟩ | ⟨rfl,o,hk,hc,hd⟩ | ⟨rfl,hk⟩ | ⟨rfl,S,n,hk⟩
  ·obtain⟨its,_,pl,_⟩:=I.list hq;refine⟨pl.isList.typeIs,fun a e=>?_⟩;cases e;obtain⟨o,n,e,c,hd,_⟩:=pl;exact⟨o,e,hd⟩
  ·refine⟨⟨o,I.kIn p o hk,hc⟩,fun a e=>?_⟩;cases e;exact⟨o,I.kIn _ o hk,hd⟩
  ·have z:∃ o,s.heap.get? p=some o/\o.ExactDict:=by
    rcases hk with ⟨kvs,hk⟩ | ⟨kvs,hk⟩
    ·obtain⟨_,_,_,_,o,_,_,e,ex,_⟩:=I.hok p _ hk;exact⟨o,e,ex⟩
    ·obtain⟨_,_,_,_,o,_,_,e,ex,_⟩:=I.hok p _ hk;exact⟨o,e,ex⟩
   obtain⟨o,e,ex⟩:=z;refine⟨⟨o,e,ex.1⟩,fun a e2=>?_⟩;cases e2;exact⟨o,e,ex.2.1⟩
  ·obtain⟨o,_,_,_,e,ex,_⟩:=I.hok p _ hk;refine⟨⟨o,e,ex.1⟩,fun a e2=>?_⟩;cases e2;exact⟨o,e,ex.2.1⟩
 | _=>exact False.elim ty
def LA (K:Zf) (T:String) (r:V->List V->Hp->VK->Prop) (to:TE):TE:=fun σ H Q=>to σ H fun x H1=>tyV K T x H1/\r x [] H1 Q
def tBM (K:Zf) (T:String) (r:V->List V->Hp->VK->Prop) (to:TE) (t:TA):TE:=fun σ H Q=>to σ H fun x H1=>tyV K T x H1/\t σ H1 fun xs H2=>r x xs H2 Q
variable {o e:Expr}{es:List Expr}{to:TE}{t:TA}{name:Str}{apos cpos:Pos}{T id:String}{r:V->List V->Hp->VK->Prop}
def Lp (pa:PlainAttrs T) (slot:Slot T name id) (hty:typeOf (.builtin id)=pure (.type "method_descriptor")) (hm:MtR X id r) (ho:PE X o to)
  (hbase:attributeBase o name X.env (eval o X.env)=eval o X.env:=by rfl) (hline:(apos.endLine==cpos.line)=true:=by rfl):PE X (.Call (.Attribute o name apos) [] [] cpos) (LA X.K T r to):=by
 intro Yp s σ H Q I h;refine wpAny_Call_method0_late hbase hline (thn (ho Yp s σ H _ I h) fun v s1 ⟨x,H1,I1,r1,ty,q1⟩=>?_);obtain⟨h1,h2⟩:=Ho I1 r1 ty;exact⟨T,id,pa,slot,hty,h1,h2,Calls.callWith_builtin rfl (PySem.evalArgs_none (hm Yp s1 σ H1 x [] v [] Q I1 r1 .nil q1))⟩
def Ms (pa:PlainAttrs T) (slot:Slot T name id) (hty:typeOf (.builtin id)=pure (.type "method_descriptor")) (hm:MtR X id r) (ho:PE X o to) (ha:PA X (e::es) t)
  (hbase:attributeBase o name X.env (eval o X.env)=eval o X.env:=by rfl)
  (hfew:((backTo cpos (starEach (e::es) X.env)).all (fun x=>!x.1)&&(backToKw cpos (keywordEach [] X.env)).all (fun x=>x.1.isSome)
   && decide ((e::es).length+([]:List Keyword).length+(if ([]:List Keyword).isEmpty then 0 else 1)<30))=true:=by rfl)
  (hline:(apos.endLine==cpos.line)=true:=by rfl) (hs:starEach (e::es) X.env=(false,eval e X.env)::starEach es X.env:=by rfl) (hplain:(backTo cpos (starEach es X.env)).any (·.1)=false:=by rfl) :
  PE X (.Call (.Attribute o name apos) (e::es) [] cpos) (tBM X.K T r to t):=by
 intro Yp s σ H Q I h;refine wpAny_Call_method_late hbase hfew hline rfl (thn (ho Yp s σ H _ I h) fun v s1 ⟨x,H1,I1,r1,ty,q1⟩=>?_);obtain⟨h1,h2⟩:=Ho I1 r1 ty;refine⟨T,id,pa,slot,hty,h1,h2,?_⟩;have hA:=ha cpos Yp s1 σ H1 _ I1 q1;rw[hs] at hA ⊢;refine Calls.callWith_builtin (by show (false||(backTo cpos (starEach es X.env)).any (·.1))=false;rw[hplain]<;>rfl) (Calls.evalArgs_plain ?_);exact thn hA fun us s2 ⟨vs,H2,I2,r2,q2⟩=>hm Yp s2 σ H2 x vs v us Q I2 r1 r2 q2
end
end
section
def MtM (X:Cx) (id:String) (r:V->List V->Hp->VK->Prop):Prop :=
 ∀ (Yp:Zp) (s:Zg) (σ:St) (H:Hp) (x:V) (xs:List V) (v:Value) (us:Zc) (Q:VK),Inv X Yp σ H s->RelV x v->Vals xs us->r x xs H Q →
  wpAny (model X.prog X.w) X.A (call (.builtin id) (v::us)) (EP X Yp σ Q) X.xe s
theorem Vals.one:∀ {x:V}{us:Zc},Vals [x] us->∃ u,us=[u]/\RelV x u
 | _,_,.cons r .nil=>⟨_,rfl,r⟩
theorem Vals.two:∀ {x y:V}{us:Zc},Vals [x,y] us->∃ u v,us=[u,v]/\RelV x u/\RelV y v
 | _,_,_,.cons r (.cons q .nil)=>⟨_,_,rfl,r,q⟩
theorem Vals.zero:∀ {us:Zc},Vals [] us->us=[]
 | _,.nil=>rfl
def Vals.reverse {xs:List V}{us:Zc} (h:Vals xs us):Vals xs.reverse us.reverse:=by
 induction h with
 | nil=>exact .nil
 | cons r t ih=>rw[List.reverse_cons,List.reverse_cons];exact Vals.append ih (.cons r .nil)
theorem Vals.rep {xs:List V}{us:Zc} (h:Vals xs us):∀ k:Nat,Vals (List.replicate k xs).flatten (List.replicate k us).flatten
 | 0=>.nil
 | k+1=>by rw[nW,nW,nR,nR];exact Vals.append h (Vals.rep h k)
theorem foldl_rep (its:Zc):∀ (k:Nat) (acc:Zc),
  List.foldl (fun x1 x2=>x1++x2) acc.toArray (List.replicate k its.toArray)=(acc++(List.replicate k its).flatten).toArray
 | 0,acc=>by simp
 | k+1,acc=>by
  have e:acc.toArray++its.toArray=(acc++its).toArray:=by simp
  have e2:(acc++its)++(List.replicate k its).flatten=acc++(List.replicate (k+1) its).flatten:=by rw[nW,nR,nK]
  rw[←e2,←foldl_rep its k (acc++its),←e,nW,List.foldl_cons]
section
variable {X:Cx}{Yp:Zp}{σ:St}{H:Hp}{s:Zg}{l b:Addr}{xs ys zs:List V}
def Inv.Ml {its its':Zc}{n:Nat}{f:Array Value->Array Value}{t':Nat} (I:Inv X Yp σ H s) (hH:H l=some (.lst xs))
  (e:s.heap.get? l=some { cls:=.type "list",data:=.seq its.toArray n }) (hf:f its.toArray=its'.toArray) (hv:Vals ys its') (hz:ys.length<=sizeLine) :
  Inv X Yp σ (upd H l (.lst ys)) { s with heap:=s.heap.update l (Obj.mapSeq f),toks:=t' }:=by
 have q:=PySem.IsL.update e f;rw[hf] at q;refine I.write (x:=l) (e:=l) (by rw[hH];exact trivial) (.inl rfl) (fun b' u hb hu=>(gZ s.heap (Obj.mapSeq f) (cI hb)).trans hu) ⟨_,q⟩ ?_;exact⟨hz,its',_,hv,q⟩
def Inv.Mj {its:Zc}{t':Nat} (I:Inv X Yp σ H s) (hv:Vals ys its) (hz:ys.length<=sizeLine) :
  Inv X Yp σ (upd H s.heap.objs.size (.lst ys)) { s with heap:=s.heap.push { cls:=.type "list",data:=.seq its.toArray },toks:=t' } :=
 I.laid (fun _ _ q=>aL _ q) (aq _) ⟨hz,its,0,hv,bj _ rfl⟩
def Inv.fresh (I:Inv X Yp σ H s):H s.heap.objs.size=none:=I.hok.fresh (aq _)
def Inv.FH (I:Inv X Yp σ H s) (hH:H l=some (.lst xs)):xs.length<=sizeLine/\∃ (its:Zc) (n:Nat),Vals xs its/\xs.length=its.length/\s.heap.get? l=some { cls:=.type "list",data:=.seq its.toArray n }:=by obtain⟨z,its,n,r,e⟩:=I.hok l _ hH;exact⟨z,its,n,r,r.length,e⟩
def FQ {n:Nat} (h:n<=sizeLine):Builtin.List.listTooLong n=false:=by unfold Builtin.List.listTooLong;exact ay (by left)
end
section
variable {X:Cx}
def Jk:V->List V->Hp->VK->Prop:=fun x vs H Q=>∃ l xs y,x=.ref l/\vs=[y]/\H l=some (.lst xs)/\xs.length<sizeLine/\Q .non (upd H l (.lst (xs++[y])))
def iq:MtM X "list.append" Jk:=by intro Yp s σ H x vs v us Q I rx rv h;obtain⟨l,xs,y,rfl,rfl,hH,hz,q⟩:=h;cases rx;obtain⟨u,rfl,ru⟩:=rv.one;obtain⟨z,its,n,r,hl,e⟩:=I.FH hH;refine iO F.slot_list_append ⟨_,e,rfl⟩ F.entry_list_append (F.args_list_append_2 _ _) (PySem.list_append l its.toArray n u (by rw[aZ];left)) ⟨e,?_⟩;refine⟨.non,_,I.Ml (its':=its++[u]) hH e (by simp) (r.append (.cons ru .nil)) ?_,rfl,q⟩;rw[aK,jM];left
def Ng:R2:=fun x y H Q=>∃ l b xs zs,x=.ref l/\y=.ref b/\H l=some (.lst xs)/\H b=some (.lst zs)/\xs.length+zs.length<=sizeLine/\∀ p,H p=none->Q (.ref p) (upd H p (.lst (xs++zs)))
def La:OpR X (binaryOp .Add) Ng:=by
 intro Yp s σ H x y v u Q I rx ry h;obtain⟨l,b,xs,zs,rfl,rfl,hH,hB,hz,q⟩:=h;cases rx;cases ry;obtain⟨z,its,n,r,hl,e⟩:=I.FH hH;obtain⟨z2,its2,n2,r2,hl2,e2⟩:=I.FH hB;refine PySem.P.add_list e e2 ?_ (by rw[aZ,aZ];left);have ea:its.toArray++its2.toArray=(its++its2).toArray:=by simp
 rw[ea];exact⟨.ref _,_,I.Mj (t':=s.toks) (r.append r2) (by rw[aK];left),rfl,q _ I.fresh⟩
def Nq:R2:=fun x y H Q=>∃ l k xs,x=.ref l/\y=.int k/\H l=some (.lst xs)/\-(2^63)<=k/\k<2^63/\xs.length*k.toNat<=sizeLine ∧
 ∀ p,H p=none->Q (.ref p) (upd H p (.lst (List.replicate k.toNat xs).flatten))
def len_rep (xs:List α) (k:Nat):(List.replicate k xs).flatten.length=k*xs.length:=by
 induction k with
 | zero=>simp
 | succ k ih=>rw[nW,nR,aK,ih,Nat.succ_mul,Nat.add_comm]
def Ln:OpR X (binaryOp .Mult) Nq:=by
 intro Yp s σ H x y v u Q I rx ry h;obtain⟨l,k,xs,rfl,rfl,hH,h1,h2,hz,q⟩:=h;cases rx;obtain⟨t,rfl⟩:=ry;obtain⟨z,its,n,r,hl,e⟩:=I.FH hH;have hlen:its.toArray.size*k.toNat<=sizeLine:=by rw[aZ,←hl];exact hz
 have hcap:¬ its.toArray.size*k.toNat>(2^63-1)/8:=by
  have:(sizeLine:Nat)<=(2^63-1)/8:=by decide
  left
 have hfit:¬ (!Builtin.List.listFitsIndex k)=true:=by rw[fitsIndex_both h1 h2];exact bO
 have hlong:¬ Builtin.List.listTooLong (its.toArray.size*k.toNat)=true:=by rw[FQ hlen];exact bO
 have hnew:List.foldl (fun x1 x2=>x1++x2) #[] (List.replicate (if its.toArray.isEmpty=true then 0 else k.toNat) its.toArray)=(List.replicate k.toNat its).flatten.toArray:=by
  have f0:∀ m:Nat,List.foldl (fun x1 x2=>x1++x2) #[] (List.replicate m its.toArray)=(List.replicate m its).flatten.toArray:=fun m=>by have:=foldl_rep its m [];rw[gf] at this;exact this
  rw[f0];cases its with
  | nil=>simp
  | cons a r'=>rw[af (by simp)]
 refine wpAny_binaryOp_repeat_ref (T:="list") (U:="int") Zd ⟨_,e,rfl⟩ (fun s'=>typeIs_int s' k t) noFill_list_mul F.fills_int_mul F.slot_int_rmul repeat_list F.slot_int_index.lookup
  (iO F.slot_int_rmul (typeIs_int s k t) F.entry_int_rmul (F.args_int_rmul_2 _ _) (int___rmul___int_list k t l its.toArray n)
   ⟨e,rfl,⟨_,e,rfl⟩,iO F.slot_list_mul ⟨_,e,rfl⟩ F.entry_list_mul (F.args_list_mul_2 _ _) (AutoListH.list___mul___list_int_3 l its.toArray n k t hfit hcap hlong) ⟨e,?_⟩⟩)
 rw[hnew];exact⟨.ref _,_,I.Mj (t':=s.toks) (r.rep k.toNat) (by rw[len_rep,Nat.mul_comm];exact hz),rfl,q _ I.fresh⟩
end
section
variable {prog:Zh}{w:Zi}{A:Around}{E:Zq}{s:Zg}
end
section
variable {X:Cx}
end
end
section
section
variable {κ:Type} [DecidableEq κ]
def dJ (kvs:List (κ×V)) (k:κ):Option V:=(kvs.find? fun kv=>decide (kv.1=k)).map (·.2)
def putK (kvs:List (κ×V)) (k:κ) (v:V):List (κ×V) :=
 if (kvs.any fun kv=>decide (kv.1=k))=true then kvs.map (fun kv=>if kv.1=k then (kv.1,v) else kv) else kvs++[(k,v)]
def eL {p:κ×V}{r:List (κ×V)}{k:κ} (e:p.1=k):dJ (p::r) k=some p.2:=by simp [dJ,iI,e]
def eK {p:κ×V}{r:List (κ×V)}{k:κ} (e:¬ p.1=k):dJ (p::r) k=dJ r k:=by simp [dJ,iI,e]
theorem nH (k:κ):∀ kvs:List (κ×V),(kvs.any fun kv=>decide (kv.1=k))=(dJ kvs k).isSome
 | []=>rfl
 | p::r=>by
  rw[nJ]
  by_cases e:p.1=k
  ·simp only[eL e,ar e,Bool.true_or,Option.isSome_some]
  ·rw[eK e,ay e,Bool.false_or];exact nH k r
theorem zj (k j:κ) (y:V):∀ kvs:List (κ×V),dJ (kvs.map fun kv=>if kv.1=k then (kv.1,y) else kv) j=(dJ kvs j).map fun x=>if j=k then y else x
 | []=>rfl
 | p::r=>by
  have ih:=zj k j y r;rw[bp]
  by_cases h:p.1=k
  ·rw[ai h]
   by_cases e:p.1=j
   ·rw[eL (p:=(p.1,y)) e,eL e,nZ,ai (e.symm.trans h)]
   ·rw[eK (p:=(p.1,y)) e,eK e,ih]
  ·rw[af h]
   by_cases e:p.1=j
   ·rw[eL (p:=p) e,eL e,nZ,af (fun z=>h (e.trans z))]
   ·rw[eK (p:=p) e,eK e,ih]
theorem wt (k j:κ) (y:V):∀ kvs:List (κ×V),dJ kvs k=none->dJ (kvs++[(k,y)]) j=if j=k then some y else dJ kvs j
 | [],_=>by
  by_cases e:k=j
  ·rw[ai e.symm];exact eL (p:=(k,y)) e
  ·rw[af (fun z=>e z.symm)];exact eK (p:=(k,y)) e
 | p::r,hn=>by
  rw[fZ];have hk:¬ p.1=k:=fun z=>by rw[eL z] at hn;cases hn
  rw[eK hk] at hn;have ih:=wt k j y r hn
  by_cases e:p.1=j
  ·rw[eL e,eL e,af (fun z=>hk (e.trans z))]
  ·rw[eK e,eK e,ih]
def vj (kvs:List (κ×V)) (k j:κ) (y:V):dJ (putK kvs k y) j=if j=k then some y else dJ kvs j:=by
 unfold putK
 by_cases a:(kvs.any fun kv=>decide (kv.1=k))=true
 ·rw[ai a,zj];rw[nH] at a
  by_cases e:j=k
  ·obtain⟨x,hx⟩:=nY.mp a;rw[ai e,e,hx,nZ,ai rfl]
  ·rw[af e];cases dJ kvs j with
   | none=>rfl
   | some x=>rw[nZ,af e]
 ·rw[af a];refine wt k j y kvs ?_;rw[nH] at a;cases q:dJ kvs k with
  | none=>rfl
  | some x=>rw[q] at a;exact (a rfl).elim
def iD (kvs:List (κ×V)) (k:κ) (v:V):(putK kvs k v).length<=kvs.length+1:=by
 unfold putK;split
 ·rw[ak];left
 ·rw[aK,aN,cf];left
def ko.kL {u:Option Value} (r:ko o u):o.isSome=u.isSome:=by
 cases o with
 | none=>cases u with
  | none=>rfl
  | some _=>exact (show False from r).elim
 | some _=>cases u with
  | none=>exact (show False from r).elim
  | some _=>rfl
def ko.getD {o:Option V}{u:Option Value}{d:V}{d':Value} (r:ko o u) (rd:RelV d d'):RelV (o.getD d) (u.getD d'):=by
 cases o with
 | none=>cases u with
  | none=>exact rd
  | some _=>exact (show False from r).elim
 | some _=>cases u with
  | none=>exact (show False from r).elim
  | some _=>exact r
def KV.val {kvs:List (κ×V)}{vs:List (κ×Value)} (r:KV kvs vs) (k:κ):ko (dJ kvs k) (valueAt vs k):=by
 unfold KV at r
 induction r with
 | nil=>exact True.intro
 | @cons p q ps qs h t ih =>
  obtain⟨h1,h2⟩:=h
  by_cases e:p.1=k
  ·have e':q.1=k:=h1.symm.trans e;have b:valueAt (q::qs) k=some q.2:=by simp [valueAt,iI,e']
   rw[eL e,b];exact h2
  ·have e':¬ q.1=k:=fun z=>e (h1.trans z);have b:valueAt (q::qs) k=valueAt qs k:=by simp [valueAt,iI,e']
   rw[eK e,b];exact ih
def KV.any {kvs:List (κ×V)}{vs:List (κ×Value)} (r:KV kvs vs) (k:κ):(kvs.any fun kv=>decide (kv.1=k))=vs.any fun kv=>decide (kv.1=k):=by
 unfold KV at r
 induction r with
 | nil=>rfl
 | cons h t ih=>rw[nJ,nJ,ih,h.1]
def KV.L8 {kvs:List (κ×V)}{vs:List (κ×Value)} (r:KV kvs vs) (k:κ)  (ry:RelV y u) :
  KV (kvs.map fun kv=>if kv.1=k then (kv.1,y) else kv) (vs.map fun kv=>if kv.1=k then (kv.1,u) else kv):=by
 unfold KV at r ⊢
 induction r with
 | nil=>exact .nil
 | @cons p q ps qs h t ih =>
  rw[bp,bp];refine .cons ?_ ih;obtain⟨h1,h2⟩:=h
  by_cases e:p.1=k
  ·rw[ai e,ai (h1.symm.trans e)];exact⟨h1,ry⟩
  ·rw[af e,af (fun z=>e (h1.trans z))];exact⟨h1,h2⟩
def KV.put {kvs:List (κ×V)}{vs:List (κ×Value)} (r:KV kvs vs) (k:κ)  (ry:RelV y u):KV (putK kvs k y) (stored vs k u):=by
 unfold putK stored;rw[r.any k]
 by_cases e:(vs.any fun kv=>decide (kv.1=k))=true
 ·rw[ai e,ai e];exact r.L8 k ry
 ·rw[af e,af e];exact Paired.snoc r ⟨rfl,ry⟩
def KV.length {kvs:List (κ×V)}{vs:List (κ×Value)} (r:KV kvs vs):kvs.length=vs.length:=Paired.length r
end
def sP {k:Key} (r:RelV (kV k) u):(bu P w).is k u=true:=by
 cases k with
 | inl i=>obtain⟨t,e⟩:=(show ∃ t,u=Value.int i t from r);subst e;exact yy P w i t
 | inr x=>obtain⟨t,e⟩:=(show ∃ t,u=Value.str x t from r);subst e;exact yz P w x t
def KH {a b:Key} (e:kV a=kV b):a=b:=by
 cases a with
 | inl i=>cases b with
  | inl j=>have e':V.int i=V.int j:=e;injection e' with e';rw[e']
  | inr y=>exact nomatch (show V.int i=V.str y from e)
 | inr x=>cases b with
  | inl j=>exact nomatch (show V.str x=V.int j from e)
  | inr y=>have e':V.str x=V.str y:=e;injection e' with e';rw[e']
theorem oC:∀ {a b:List Key},a.map kV=b.map kV->a=b
 | [],[],_=>rfl
 | [],_::_,e=>by simp at e
 | _::_,[],e=>by simp at e
 | x::xs,y::ys,e=>by
  rw[bp,bp] at e
  injection e with e1 e2
  rw[KH e1,oC e2]
theorem vP {P:Zh}{w:Zi}:∀ {ks:List Key}{us:Zc},Vals (ks.map kV) us->ItemsAre (bu P w) ks us
 | [],_,r=>by rw[List.map_nil] at r;cases r;exact .nil
 | k::ks,_,r=>by
  rw[bp] at r;cases r with
  | cons h t=>exact .cons (sP h) (vP t)
abbrev KT (H:Hp):List (List Key×V)->List (List Key×Addr×Value)->Prop:=Paired fun p q=>p.1=q.1/\H q.2.1=some (.tup (p.1.map kV))/\RelV p.2 q.2.2
def KT.val (r:KT H kvs xs) (k:List Key):ko (dJ kvs k) ((atKey xs k).map (·.2)):=by
 induction r with
 | nil=>exact True.intro
 | @cons p q ps qs h t ih =>
  obtain⟨h1,_,h2⟩:=h
  by_cases e:p.1=k
  ·have e':q.1=k:=h1.symm.trans e;have b:atKey (q::qs) k=some q.2:=by simp [atKey,iI,e']
   rw[eL e,b];exact h2
  ·have e':¬ q.1=k:=fun z=>e (h1.trans z);have b:atKey (q::qs) k=atKey qs k:=by simp [atKey,iI,e']
   rw[eK e,b];exact ih
def KT.L8 (r:KT H kvs xs) (k:List Key)  (ry:RelV y u) :
  KT H (kvs.map fun kv=>if kv.1=k then (kv.1,y) else kv) (xs.map (putAt k u)):=by
 induction r with
 | nil=>exact .nil
 | @cons p q ps qs h t ih =>
  rw[bp,bp];refine .cons ?_ ih;obtain⟨h1,h2,h3⟩:=h;unfold putAt
  by_cases e:p.1=k
  ·rw[ai e,ai (h1.symm.trans e)];exact⟨h1,h2,ry⟩
  ·rw[af e,af (fun z=>e (h1.trans z))];exact⟨h1,h2,h3⟩
def KT.put (r:KT H kvs xs) (k:List Key) {b:Addr} (hb:H b=some (.tup (k.map kV))) (ry:RelV y u) :
  KT H (putK kvs k y) (storedH xs k b u):=by
 have e:(kvs.any fun kv=>decide (kv.1=k))=(atKey xs k).isSome:=by rw[nH,(r.val k).kL,Option.isSome_map]
 unfold putK storedH;rw[e]
 by_cases q:(atKey xs k).isSome=true
 ·rw[ai q,ai q];exact r.L8 k ry
 ·rw[af q,af q];exact Paired.snoc r ⟨rfl,hb,ry⟩
def KT.keeps {H H':Hp} (r:KT H kvs xs) (ht:∀ b ys,H b=some (.tup ys)->H' b=some (.tup ys)):KT H' kvs xs :=
 Paired.KR r fun _ _ z=>⟨z.1,ht _ _ z.2.1,z.2.2⟩
section
variable {P:Zh}{w:Zi}{H:Hp}{h:Heap}{a:Addr}
def JO {u:HO} (ok:HOk P w H h) (e:Rd H a u):bT P w H h a u:=e.ok ok
def pX {kvs:List (Key×V)} (ok:HOk P w H h) (e:Rd H a (.dK kvs)):kvs.length<=sizeLine/\(a==sysModules)=false/\∃ vs,KV kvs vs/\h.DictOf (bu P w) a vs :=
 show bT P w H h a (.dK kvs) from JO ok e
def ye {kvs:List (Key×V)} (ok:HOk P w H h) (e:H a=some (.dK kvs)):kvs.length<=sizeLine/\(a==sysModules)=false/\∃ vs,KV kvs vs/\h.DictOf (bu P w) a vs:=pX ok (.inl e)
def oZ {ks:List Key} (ok:HOk P w H h) (e:H a=some (.tup (ks.map kV))):(tupleKind (bu P w)).is h ks a:=by obtain⟨_,its,r,o,h1,h2,n,h3⟩:=(show bT P w H h a (.tup (ks.map kV)) from ok a _ e);exact⟨o,its.toArray,n,h1,h2,h3,by simpa using vP r⟩
def uj (ok:HOk P w H h) (e:Rd H a (.dT kvs)):kvs.length<=sizeLine/\(a==sysModules)=false ∧
  ∃ xs,KT H kvs xs/\h.DictOfH (tupleKind (bu P w)) a xs:=by
 obtain⟨z,y,xs,r,o,es,ep,h1,h2,h3,h4,h5⟩:=(show bT P w H h a (.dT kvs) from JO ok e);refine⟨z,y,xs,r,o,es,ep,h1,h2,h3,h4,fun x hx=>?_,h5⟩;have all:∀ {l:List (List Key×V)}{m:List (List Key×Addr×Value)},KT H l m->∀ x∈m,(tupleKind (bu P w)).is h x.1 x.2.1:=by
  intro l m q
  induction q with
  | nil=>intro x hx;exact nomatch hx
  | @cons p q ps qs hq t ih =>
   intro x hx;rcases aJ.mp hx with e | hx
   ·subst e;exact oZ ok (by rw[←hq.1];exact hq.2.1)
   ·exact ih x hx
 exact all r x hx
def J5 (ok:HOk P w H h) (e:H a=some (.dT kvs)):kvs.length<=sizeLine/\(a==sysModules)=false ∧
  ∃ xs,KT H kvs xs/\h.DictOfH (tupleKind (bu P w)) a xs:=uj ok (.inl e)
end
def oN (H:Hp) (a:Addr) (y:V) (r:Option V):Prop :=
 (∃ kvs k,Rd H a (.dK kvs)/\y=kV k/\r=dJ kvs k)∨∃ kvs k b,Rd H a (.dT kvs)/\y=.ref b/\H b=some (.tup (k.map kV))/\r=dJ kvs k
def DZ (H:Hp) (a:Addr) (y v:V) (H':Hp):Prop :=
 (∃ kvs k,H a=some (.dK kvs)/\y=kV k/\kvs.length<sizeLine/\H'=upd H a (.dK (putK kvs k v))) ∨
 ∃ kvs k b,H a=some (.dT kvs)/\y=.ref b/\H b=some (.tup (k.map kV))/\kvs.length<sizeLine/\H'=upd H a (.dT (putK kvs k v))
def oN.k {H:Hp}{a:Addr}{kvs:List (Key×V)}{k:Key} (e:H a=some (.dK kvs)):oN H a (kV k) (dJ kvs k):=.inl ⟨kvs,k,.inl e,rfl,rfl⟩
def oN.t {a b:Addr}{k:List Key} (e:H a=some (.dT kvs)) (eb:H b=some (.tup (k.map kV))):oN H a (.ref b) (dJ kvs k):=.inr ⟨kvs,k,b,.inl e,rfl,eb,rfl⟩
def DZ.k {H:Hp}{a:Addr}{kvs:List (Key×V)}{k:Key}{v:V} (e:H a=some (.dK kvs)) (hl:kvs.length<sizeLine):DZ H a (kV k) v (upd H a (.dK (putK kvs k v))):=.inl ⟨kvs,k,e,rfl,hl,rfl⟩
section
variable {X:Cx}{Yp:Zp}{σ:St}{H:Hp}{s:Zg}{a:Addr}{y v:V}{u r:Value}{o:Option V}{A:Around}{E:Zq}
def Inv.big (I:Inv X Yp σ H s):sysModules<s.heap.objs.size:=by have h:mainGlobals<s.heap.objs.size:=(I.mod.glob.keeps I.bk).lt;exact Nat.lt_trans Zd h
def CH (hu:A.units+1<cLine) (I:Inv X Yp σ H s) (g:oN H a y (some v)) (ry:RelV y u) (h:∀ w' s',Inv X Yp σ H s'->RelV v w'->Q w' s') :
  wpAny (model X.prog X.w) A (getItem (.ref a) u) Q E s:=by
 rcases g with ⟨kvs,k,e,ey,l⟩ | ⟨kvs,k,b,e,ey,eb,l⟩
 ·subst ey;obtain⟨z,hd,vs,rel,dd⟩:=pX I.hok e;obtain⟨w',hw,rw'⟩:=ko.some_of (v:=v) (o:=valueAt vs k) (by rw[l];exact rel.val k);exact wpAny_getItem_of (sP ry) dd.mapOf hw (h w' _ (I.tok _) rw')
 ·subst ey;cases (show u=Value.ref b from ry);obtain⟨z,hd,xs,rel,dd⟩:=uj I.hok e;obtain⟨w',hw,rw'⟩:=ko.some_of (v:=v) (o:=(atKey xs k).map (·.2)) (by rw[l];exact rel.val k);obtain⟨p,hp,hp2⟩:=gi.mp hw;refine wpAny_getItem_heap (lN hu) (oZ I.hok eb) dd hp ?_;rw[hp2];exact h w' _ (I.tok _) rw'
def Na (hu:A.units+1<cLine) (I:Inv X Yp σ H s) (g:oN H a y o) (ry:RelV y u) (h:∀ s',Inv X Yp σ H s'->Q (.bool o.isSome) s') :
  wpAny (model X.prog X.w) A (compareOp .In u (.ref a)) Q E s:=by
 rcases g with ⟨kvs,k,e,ey,l⟩ | ⟨kvs,k,b,e,ey,eb,l⟩
 ·subst ey;obtain⟨z,hd,vs,rel,dd⟩:=pX I.hok e;refine wpAny_in_of (sP ry) hd dd.mapOf ?_;rw[←(rel.val k).kL,←l];exact h _ (I.tok _)
 ·subst ey;cases (show u=Value.ref b from ry);obtain⟨z,hd,xs,rel,dd⟩:=uj I.hok e;refine wpAny_in_heap (lN hu) (oZ I.hok eb) hd dd ?_;have q:=(rel.val k).kL;rw[Option.isSome_map] at q;rw[←q,←l];exact h _ (I.tok _)
def Ic (hu:A.units+1<cLine) (I:Inv X Yp σ H s) (g:oN H a y o) (ry:RelV y u) (h:∀ s',Inv X Yp σ H s'->Q (.bool (!o.isSome)) s') :
  wpAny (model X.prog X.w) A (compareOp .NotIn u (.ref a)) Q E s:=by
 rcases g with ⟨kvs,k,e,ey,l⟩ | ⟨kvs,k,b,e,ey,eb,l⟩
 ·subst ey;obtain⟨z,hd,vs,rel,dd⟩:=pX I.hok e;refine wpAny_notIn_of (sP ry) hd dd.mapOf ?_;rw[←(rel.val k).kL,←l];exact h _ (I.tok _)
 ·subst ey;cases (show u=Value.ref b from ry);obtain⟨z,hd,xs,rel,dd⟩:=uj I.hok e;refine wpAny_notIn_heap (lN hu) (oZ I.hok eb) hd dd ?_;have q:=(rel.val k).kL;rw[Option.isSome_map] at q;rw[←q,←l];exact h _ (I.tok _)
def tS {t':Nat}{ob:HO} (I:Inv X Yp σ H s) (mu:Mut (H a)) (hs:Heap.SameBut a s.heap h') (he:∃ q,h'.get? a=some q) (new:bT X.prog X.w (upd H a ob) h' a ob) :
  Inv X Yp σ (upd H a ob) { s with heap:=h',toks:=t' } :=
 I.write (x:=a) (e:=a) mu (.inl rfl) (fun b q hb z=>(hs.2 b hb).trans z) he new
def EG {H':Hp}{kvs:List (Key×V)}{vs:List (Key×Value)} (z:kvs.length<=sizeLine) (hd:(a==sysModules)=false) (rel:KV kvs vs) (dd:h'.DictOf (bu P w) a vs) :
  bT P w H' h' a (.dK kvs):=⟨z,hd,vs,rel,dd⟩
def CI {Q:Unit->Zg->Prop} (hu:A.units+1<cLine) (I:Inv X Yp σ H s) (g:DZ H a y v H') (ry:RelV y u) (rv:RelV v r) (h:∀ s',Inv X Yp σ H' s'->Q () s') :
  wpAny (model X.prog X.w) A (setItem (.ref a) u r) Q E s:=by
 rcases g with ⟨kvs,k,e,ey,l,eH⟩ | ⟨kvs,k,b,e,ey,eb,l,eH⟩
 ·subst ey eH;obtain⟨z,hd,vs,rel,dd⟩:=ye I.hok e;have hz:vs.length<=sizeLine:=by rw[←rel.length];exact z
  have hl:(putK kvs k v).length<=sizeLine:=by have:=iD kvs k v;left
  refine wpAny_setItem_pairs (hsz:=hz) (sP ry) dd fun h' dd' hs=>h _ ?_;have he:∃ q,h'.get? a=some q:=let ⟨q,_,_,hq,_⟩:=dd';⟨q,hq⟩;exact tS I (by rw[e];exact True.intro) hs he (EG hl hd (rel.put k rv) dd')
 ·subst ey eH;cases (show u=Value.ref b from ry);obtain⟨z,hd,xs,rel,dd⟩:=J5 I.hok e;have hz:xs.length<=sizeLine:=by rw[←Paired.length rel];exact z
  have hl:(putK kvs k v).length<=sizeLine:=by have:=iD kvs k v;left
  refine wpAny_setItem_heap (hsz:=hz) (lN hu) (oZ I.hok eb) dd fun h' dd' hs=>h _ ?_;obtain⟨q,es,ep,hq,h2,h3,h4,_,h5⟩:=dd';refine tS I (by rw[e];exact True.intro) hs ⟨q,hq⟩ ⟨hl,hd,_,(rel.put k eb rv).keeps fun c ys ec=>?_,q,es,ep,hq,h2,h3,h4,h5⟩;rw[az (bh ec e (fun z=>nomatch z))];exact ec
end
section
variable {X:Cx}{Yp:Zp}{σ:St}{H:Hp}{s:Zg}{a:Addr}{kvs:List (Key×V)}{k:Key}{u:Value}{A:Around}{E:Zq}
def Mf (I:Inv X Yp σ H s) (e:Rd H a (.dK kvs)) (h:∀ t s',Inv X Yp σ H s'->Q (.int kvs.length t) s'):wpAny (model X.prog X.w) A (call (.builtin "len") [.ref a]) Q E s:=by obtain⟨z,hd,vs,rel,dd⟩:=pX I.hok e;refine call_len_dict hd dd (by rw[←rel.length];rw[fN] at z;left) ?_;rw[←rel.length];exact h _ _ (I.tok _)
end
def Hy (i:Expr):Prop:=∀ ov iv,subscripted i false ov iv=operate [ov,iv] (getItem ov iv)
def BN {prog:Zh}{w:Zi}{A:Around}{E:Zq}{s:Zg}{env:Env}{value slice:Expr}{pos:Pos}{T id:String}{Q:Zq}
  (hl:typeLookup (.type T) "__getitem__"=pure (some (.builtin id))) (hs:Hy slice)
  (h:wpAny (model prog w) A (eval value env) (fun o s₁=>wpAny (model prog w) A (eval slice env) (fun i s₂=>s₂.TypeIs o T/\wpAny (model prog w) A (getItem o i) Q E s₂) E s₁) E s) :
  wpAny (model prog w) A (eval (.Subscript value slice pos) env) Q E s:=by
 refine Subscript_ (bB h (fun o s₁ h₁=>bB h₁ (fun i s₂ h₂=>?_) fun _ _ x=>x) fun _ _ x=>x);obtain⟨hT,h₂⟩:=h₂;unfold subscriptTail;refine ag ?_;rw[getitemInPython_of_ne hT.not_modules];refine ag (wpAny_specialOf hT hl ?_);have fin:wpAny (model prog w) A (subscripted slice false o i) (fun r s₃=>wpAny (model prog w) A (letTemporaryGo value o r >>= fun _=>pure r) Q E s₃) E s₂:=by rw[hs o i];exact wpAny_operating (bB h₂ (fun r s₃ h₃=>ag (wpAny_letTemporaryGo (a8 h₃))) fun _ _ x=>x)
 first
  | exact a8 (ag fin)
  | exact ag (a8 (ag fin))
  | exact ag fin
def yd (I:Inv X Yp σ H s) (g:oN H a y o):s.TypeIs (.ref a) "dict":=by
 rcases g with ⟨kvs,k,e,_,_⟩ | ⟨kvs,k,b,e,_,_,_⟩
 ·obtain⟨_,_,vs,_,dd⟩:=pX I.hok e;exact dd.typeIs
 ·obtain⟨_,_,xs,_,dd⟩:=uj I.hok e;exact dd.typeIs
def Hc (td ty:TE):TE:=fun σ H Q=>td σ H fun x H1=>ty σ H1 fun y H2=>∃ a v,x=.ref a/\oN H2 a y (some v)/\Q v H2
def GP (td ty tv:TE):TS:=fun D σ H=>tv σ H fun v H1=>td σ H1 fun x H2=>ty σ H2 fun y H3=>∃ a H4,x=.ref a/\DZ H3 a y v H4/\D.nx σ H4
section
variable {X:Cx}{o i e value:Expr}{pos pos' tpos:Pos}{td ty tv:TE}
def Ja (hu:X.A.units+1<cLine) (ho:PE X o td) (hi:PE X i ty) (hs:Hy i):PE X (.Subscript o i pos) (Hc td ty):=by intro Yp s σ H Q I h;refine BN PySem.F.slot_dict_getitem.lookup hs (thn (ho Yp s σ H _ I h) fun u s1 ⟨x,H1,I1,rx,q1⟩=>thn (hi Yp s1 σ H1 _ I1 q1) fun iv s2 ⟨y,H2,I2,ry,a,v,ex,g,q2⟩=>?_);subst ex;obtain rfl:u=Value.ref a:=rx;exact⟨yd I2 g,CH hu I2 g ry fun w' s3 I3 rw'=>⟨v,H2,I3,rw',q2⟩⟩
def Jg (hu:X.A.units+1<cLine) (ho:PE X o td) (hi:PE X i ty) (hv:PE X value tv) (hs:swapsWith value (some (.Subscript o i pos')) pos.line X.env=pure false) :
  PS X (.Assign [.Subscript o i pos'] value pos) (GP td ty tv):=by
 intro Yp s σ H D I h;refine wpAny_Assign_Subscript (thn (hv Yp s σ H _ I h) fun r s1 ⟨v,H1,I1,rv,q1⟩=>thn (ho Yp s1 σ H1 _ I1 q1) fun u s2 ⟨x,H2,I2,rx,q2⟩=>thn (hi Yp s2 σ H2 _ I2 q2) fun iv s3 ⟨y,H3,I3,ry,a,H4,ex,g,q3⟩=>?_) hs;subst ex;obtain rfl:u=Value.ref a:=rx;exact CI hu I3 g ry rv fun s4 I4=>⟨σ,H4,I4,q3⟩
end
def EF (h:Heap) (hb:sysModules<h.objs.size):bT P w H (h.push { cls:=.type "dict",data:=.dict #[] }) h.objs.size (.dK []) :=
 ⟨bH _,lI.mpr (cI (bz hb)),[],.nil,Heap.DictOf.new h⟩
def EH (h:Heap) (hb:sysModules<h.objs.size):bT P w H (h.push { cls:=.type "dict",data:=.dict #[] }) h.objs.size (.dT []) :=
 ⟨bH _,lI.mpr (cI (bz hb)),[],.nil,_,#[],0,bj _ rfl,⟨rfl,rfl,rfl⟩,rfl,rfl,List.nodup_nil⟩
def LC:TE:=fun _ H Q=>∀ p,H p=none->Q (.ref p) (upd H p (.dK []))
def LD:TE:=fun _ H Q=>∀ p,H p=none->Q (.ref p) (upd H p (.dT []))
section
variable {X:Cx}{pos:Pos}
def Gg:PE X (.Dict [] [] pos) LC:=fun Yp s σ H Q I h =>wpAny_Dict_empty ⟨.ref s.heap.objs.size,_,I.laid (a:=s.heap.objs.size) (o:=.dK []) (t':=s.toks) (fun _ _ q=>aL _ q) (aq _) (EF s.heap I.big),rfl,h _ (I.hok.fresh (aq _))⟩
def Gh:PE X (.Dict [] [] pos) LD:=fun Yp s σ H Q I h =>wpAny_Dict_empty ⟨.ref s.heap.objs.size,_,I.laid (a:=s.heap.objs.size) (o:=.dT []) (t':=s.toks) (fun _ _ q=>aL _ q) (aq _) (EH s.heap I.big),rfl,h _ (I.hok.fresh (aq _))⟩
end
structure M1 (X:Cx) (o:Expr) (m:Str) (apos:Pos) (e:Expr) (cpos:Pos):Prop where
 base:attributeBase o m X.env (eval o X.env)=eval o X.env
 few:((backTo cpos (starEach [e] X.env)).all (fun x=>!x.1)&&(backToKw cpos (keywordEach [] X.env)).all (fun x=>x.1.isSome)
  && decide (([e]:List Expr).length+([]:List Keyword).length+(if ([]:List Keyword).isEmpty then 0 else 1)<30))=true
 line:(apos.endLine==cpos.line)=true
 trees:backTo cpos (starEach [e] X.env)=[(false,eval e X.env)]
def IsD (H:Hp) (a:Addr):Prop:=(∃ kvs,Rd H a (.dK kvs))∨∃ kvs,Rd H a (.dT kvs)
def KA (I:Inv X Yp σ H s) (d:IsD H a) :
  s.TypeIs (.ref a) "dict"/\(∀ b,Value.ref a=.ref b->∃ ob,s.heap.get? b=some ob/\ob.dict=none)/\(a==sysModules)=false:=by
 rcases d with ⟨kvs,e⟩ | ⟨kvs,e⟩
 ·obtain⟨_,hd,vs,_,dd⟩:=pX I.hok e;refine⟨dd.typeIs,fun b q=>?_,hd⟩;cases q;obtain⟨ob,_,_,h1,h2,_⟩:=dd;exact⟨ob,h1,h2.2.1⟩
 ·obtain⟨_,hd,xs,_,dd⟩:=uj I.hok e;refine⟨dd.typeIs,fun b q=>?_,hd⟩;cases q;obtain⟨ob,_,_,h1,h2,_⟩:=dd;exact⟨ob,h1,h2.2.1⟩
section
variable {X:Cx}{Yp:Zp}{σ:St}{H:Hp}{s:Zg}{a:Addr}{y d:V}{u r:Value}{o:Option V}{A:Around}{E:Zq}
def Ky (hu:A.units+1<cLine) (I:Inv X Yp σ H s) (g:oN H a y o) (ry:RelV y u) (h:∀ w' s',Inv X Yp σ H s'->RelV (o.getD .non) w'->Q w' s') :
  wpAny (model X.prog X.w) A (call (.builtin "dict.get") [.ref a,u]) Q E s:=by
 rcases g with ⟨kvs,k,e,ey,l⟩ | ⟨kvs,k,b,e,ey,eb,l⟩
 ·subst ey;obtain⟨z,hd,vs,rel,dd⟩:=pX I.hok e;refine call_meetsIn PySem.F.slot_dict_get dd.typeIs PySem.F.entry_dict_get (PySem.F.args_dict_get_2 _ _) (meets_dict_get (bu X.prog X.w) a (sP ry) hd) ⟨_,dd.mapOf,h _ _ (I.tok _) ?_⟩;rw[l];exact (rel.val k).getD rfl
 ·subst ey;cases (show u=Value.ref b from ry);obtain⟨z,hd,xs,rel,dd⟩:=uj I.hok e;refine call_meetsIn PySem.F.slot_dict_get dd.typeIs PySem.F.entry_dict_get (PySem.F.args_dict_get_2 _ _) (meetsH_dict_get (tupleKind (bu X.prog X.w)) a b hd) ⟨lN hu,k,xs,oZ I.hok eb,dd,h _ _ (I.tok _) ?_⟩;rw[l];exact (rel.val k).getD rfl
end
def AB (td ty:TE):TE:=fun σ H Q=>td σ H fun x H1=>∃ a,x=.ref a/\IsD H1 a/\ty σ H1 fun y H2=>∃ o,oN H2 a y o/\Q (o.getD .non) H2
section
variable {X:Cx}{o e f:Expr}{apos cpos:Pos}{td ty tx:TE}
def Ge (hu:X.A.units+1<cLine) (ho:PE X o td) (he:PE X e ty) (m:M1 X o "get" apos e cpos):PE X (.Call (.Attribute o "get" apos) [e] [] cpos) (AB td ty):=by intro Yp s σ H Q I h;refine wpAny_Call_method m.base m.few m.line lG PySem.F.slot_dict_get PySem.F.type_dict_get (thn (ho Yp s σ H _ I h) fun u s1 ⟨x,H1,I1,rx,a,ex,d,q1⟩=>?_);subst ex;obtain rfl:u=Value.ref a:=rx;obtain⟨t1,t2,_⟩:=KA I1 d;refine⟨t1,t2,?_⟩;rw[m.trees];refine Calls.callWith_builtin rfl (Calls.evalArgs_plain (oK (thn (he Yp s1 σ H1 _ I1 q1) fun iv s2 ⟨y,H2,I2,ry,ov,g,q2⟩=>Calls.spliced_nil ?_)));exact Ky hu I2 g ry fun w' s3 I3 rw'=>⟨_,H2,I3,rw',q2⟩
end
section
variable {X:Cx}{Yp:Zp}{σ:St}{H:Hp}{s:Zg}{a:Addr}{kvs:List (Key×V)}{A:Around}{E:Zq}
end
section
variable {X:Cx}{Yp:Zp}{σ:St}{H:Hp}{s:Zg}{a:Addr}{y:V}{u:Value}{A:Around}{E:Zq}
end
end
end L2
namespace Att
open PySem PySem.W PySem.Calls PyProof.Rows
variable {P:Params}{h:Heap}
theorem tJ :∀ (ns:Zb) (vs:Zc),WellAll P h vs (ns.map WData.int)->IntsAre vs ns:=by
 intro ns
 induction ns with
 | nil =>intro vs w;rw[List.map_nil] at w;cases w;exact .nil
 | cons n ns ih =>
  intro vs w;rw[bp] at w;cases w with
  | cons a b =>
   cases a
   exact .cons _ _ (ih _ b)
theorem DP {l:OpenLaw}{n:Nat} (hn:l.most=some n) {P:Params}{h:Heap}{args:List WData}{vals:Zc}
  (hpre:l.row.toRowW.claim.pre args=true) (hwl:WellAll P h vals args) :
  ∃ a vs ns,vals=[Value.ref a]/\args=[WData.list (ns.map WData.int)]/\h.get? a=some { cls:=.type "list",data:=.seq vs.toArray }/\IntsAre vs ns/\ns.length<=n:=by
 have hsh:WShape.hasAll [] args [.list .int]=true:=(pre_splitW hpre).1;have hc:l.pre.holds [] { args:=args }=true:=(pre_splitW hpre).2;obtain⟨d,r,rfl,h1,h2⟩:=hasAllW_cons hsh;obtain rfl:=hasAllW_nil h2;obtain⟨xs,rfl,h3⟩:=hasW_list h1;obtain⟨ns,rfl⟩:=items_int h3;have hlen:ns.length<=n:=by
  unfold OpenLaw.pre at hc;have h4:(WTm.not (.lt (.lit (.int (n:Int))) (.len (.arg 0)))).holds [] { args:=[.list (ns.map .int)] }=true:=by have h4:=(holds_andW hc).1;rw[hn] at h4;exact h4
  have h5:=condW_of h4 (w_not (w_lt w_lit (w_len_list (w_arg rfl))));rw[ak] at h5;refine Nat.le_of_not_lt fun q=>?_;have q':(n:Int)<((ns.length:Nat):Int):=by left
  first
   | (rw[ar q'] at h5;exact absurd h5 (by decide))
   | (simp at h5;left)
 cases hwl with
 | cons w1 w2 =>
  cases w2
  cases w1 with
  | list ho hall=>exact⟨_,_,ns,rfl,rfl,ho,tJ ns _ hall,hlen⟩
theorem DL (l:OpenLaw) (args:List WData):l.row.toRowW.claim.post args (.bool true) args=true :=
 postW_of (r:=l.row.toRowW) (X:=(true==true))
  (show WShape.has [] (.bool true) .bool=true by first | rfl | decide | simp [WShape.has,WShape.arms,WShape.armsAll])
  (show (WTm.eq .res (.lit (.bool true))).value [] { args:=args,res:=some (.bool true),after:=args }=some (.bool (true==true)) from w_eq_bool (w_res rfl) w_lit) rfl
theorem xQ {l:OpenLaw}{n:Nat}{q:Zh}{loose:Ze}{XP:(Zk)->Heap->Prop}{YP:Zi->Heap->Prop}{d:DefRec}
  (hn:l.most=some n) (hdf:d.params.defaults=[])
  (call:∀ (w:Zi) (s₀ s₁:Zg) (mg mb:Zk) (fa:Addr) (o:Obj) (pm cd doc:Value) (a:Addr) (vs:Zc) (ns:Zb),
   Ground q loose [] XP w s₀ mg mb s₁.heap->YP w s₁.heap →
   s₁.heap.get? fa=some o->o.data=.func (docDef d.name d.params d.body d.scope pm cd doc)->s₁.heap.CodeRec cd d.name->mg d.name=some (.ref fa) →
   s₁.heap.get? a=some { cls:=.type "list",data:=.seq vs.toArray }->IntsAre vs ns->ns.length<=n->s₁.gens=#[] →
   codeAny (model l.prog w) callerA (.call (.ref fa) ⟨[.ref a],[]⟩) (fun r s'=>r=.ok (.ret (.bool true))/\OldK s₁.heap s'.heap/\s'.os=s₁.os/\AllBare s'.gens) s₁) :
  WalkO q loose XP YP l.row.toRowW d [] (fun f vs=>PySem.call f vs):=by
 intro w s₀ s₁ mg mb G Y fa o pm cd doc dV kV ho hd hcd hD hmg hg args vals as hpre hlay hrd hwl hlo;obtain rfl:dV=.none:=Dflts.none hD hdf;obtain rfl:kV=.none:=Dflts.noKw hD;obtain⟨a,vs,ns,rfl,rfl,hobj,hints,hlen⟩:=DP hn hpre hwl;refine enter_call (gk (call w s₀ s₁ mg mb fa o pm cd doc a vs ns G Y ho (fd_plain hd) hcd hmg hobj hints hlen hg) fun r s' hq=>?_);obtain⟨rfl,h2,h3,h4⟩:=hq;exact⟨.inl ⟨.bool true,.bool true,[],rfl,fun _=>rfl,.bool true,DL l _,fun _=>⟨List.Pairwise.nil,fun _ hm=>(nomatch hm)⟩⟩,h2,h3,h4⟩
section
variable {prog:Zh}{w:Zi}{A:Around}{E:Zq}{s:Zg}{K:Frag}
end
end Att
namespace L2
open PySem PySem.Spec PyProof.Rows
variable {A:Around}{CX:CXT}{H:Hp}{K:Zf}{P:Zh}{base:Heap}{f:Addr}{mg:Zk}{scope:Scope}{st:Stmt}{us:Zc}{vs:List V}{w:Zi}
section
theorem wu:∀ {vs:Zc}{ns:Zb},IntsAre vs ns->Vals (ns.map V.int) vs
 | _,_,.nil=>.nil
 | _,_,.cons n t h=>.cons ⟨t,rfl⟩ (wu h)
end
section
end
section
def inClass (s:Stmt) (j:Nat):Stmt:=match s with
 | .ClassDef _ _ _ body _ _ _ _ _ _ _=>body.getD j (.Pass ⟨0,0,0,0⟩)
 | _=>.Pass ⟨0,0,0,0⟩
def cu (s:Stmt):Arguments:=match s with
 | .FunctionDef _ a _ _ _ _ _ _ _ _=>a
 | _=>{ posonlyargs:=[],args:=[],vararg:=none,kwonlyargs:=[],kw_defaults:=[],kwarg:=none,defaults:=[] }
def bW (s:Stmt):List Stmt:=match s with
 | .FunctionDef _ _ b _ _ _ _ _ _ _=>b
 | _=>[]
def av (s:Stmt):Scope:=match s with
 | .FunctionDef _ _ _ _ _ _ sc _ _ _=>sc
 | _=>{ kind:=.function,names:=[],isGenerator:=false,isCoroutine:=false }
abbrev E0:St->XK:=fun _ _ _ _=>False
structure Fun (K:Zf) (x qual:Str) (st:Stmt) (f:Addr) (fd:FuncData):Prop where
 ex:∃ (oc:Value) (od:Option Addr) (kV doc pm:Value) (an:Option Addr) (cdv ct:Value) (osl:Array (Option Value)),
  fd=PySem.W.fnOf x qual (cu st) (bW st) (av st) .none kV doc pm an cdv ct/\K.lookup f=some ⟨oc,od,.func fd,osl⟩/\PySem.W.codeIn K cdv qual=true
 kp:PySem.W.keepIn K (.ref f)=true
section
variable {P:Zh}{w:Zi}{K:Zf}{mg:Zk}{base:Heap}
def Fun.binds {x qual:Str}{fd:FuncData}{ps:Ze} (F:Fun K x qual st f fd)
  (h:∀ (kV doc pm:Value) (an:Option Addr) (cdv ct:Value) (us:Zc),us.length=ps.length->bindArgs (PySem.W.fnOf x qual (cu st) (bW st) (av st) .none kV doc pm an cdv ct) ⟨us,[]⟩=pure (ps.zip us)):Binds K fd ps []:=by
 obtain⟨oc,od,kV,doc,pm,an,cdv,ct,osl,rfl,lk,hcd⟩:=F.ex;exact .all (h kV doc pm an cdv ct)
def kq {x qual:Str}{oc:Value}{od an:Option Addr}{osl:Array (Option Value)}{kV doc pm cdv ct:Value} (l:K.lookup f=some ⟨oc,od,.func (PySem.W.fnOf x qual (cu st) (bW st) (av st) .none kV doc pm an cdv ct),osl⟩)
  (c:PySem.W.codeIn K cdv qual=true) (k:PySem.W.keepIn K (.ref f)=true):Fun K x qual st f (PySem.W.fnOf x qual (cu st) (bW st) (av st) .none kV doc pm an cdv ct):=⟨⟨oc,od,kV,doc,pm,an,cdv,ct,osl,rfl,l,c⟩,k⟩
end
def jW {k:Nat} (hr:dw k A):A.units+1<cLine:=fi (Nat.add_le_add_left (by decide:1<=64) _) hr.units
section
variable {X:Cx}
end
def ax (H H':Hp):Prop:=∀ b o,H b=some o->H' b=some o
def ax.refl (H:Hp):ax H H:=fun _ _ h=>h
def ax.trans {H H1 H2:Hp} (a:ax H H1) (b:ax H1 H2):ax H H2:=fun c o h=>b c o (a c o h)
def ax.free {H H':Hp} (e:ax H H') {l:Addr} (h:H' l=Option.none):H l=Option.none:=by
 cases q:H l with
 | none=>rfl
 | some o =>rw[e l o q] at h;cases h
def ax.seq {H H':Hp}{a:Addr}{xs:List V} (e:ax H H') (h:SqL K H a xs):SqL K H' a xs:=by
 rcases h with (h | ⟨o,h⟩) | h
 ·exact .inl (.inl (e _ _ h))
 ·exact .inl (.inr ⟨o,e _ _ h⟩)
 ·exact .inr h
end
section
section
variable {κ:Type} [DecidableEq κ]
theorem lW:∀ {l:List κ}{k:κ},l.Nodup->¬ k∈l->(l++[k]).Nodup
 | [],k,_,_=>by simp
 | a::r,k,h,hk=>by
  obtain⟨h1,h2⟩:=df.mp h;show (a::(r++[k])).Nodup;refine df.mpr ⟨fun m=>?_,lW h2 fun m=>hk (aJ.mpr (Or.inr m))⟩;rcases bI.mp m with q | q
  ·exact h1 q
  ·exact hk (aJ.mpr (Or.inl (bA.mp q).symm))
end
end
section
def fz (o:Option Value) (H:Hp):Prop:=o=none∨∃ ea φ,o=some (Value.ref ea)/\H ea=some (HO.ext φ)/\∀ h:Heap,φ h->∃ ob vs,h.get? ea=some ob/\ob.data=.fields vs/\vs[2]?=some Value.none
structure fw (k:Nat) (A:Around):Prop where
 dp:A.depth+3*k+5<recursionLimit
 un:A.units+16*k+200<cLine
def fw.mono {j k:Nat} (r:fw k A) (h:j<=k):fw j A:=⟨by have:=r.dp;left,by have:=r.un;left⟩
def fw.deeper {k:Nat}{A:Around} (r:fw (k+1) A) (env:Env):fw k (A.deeper env):=⟨by have:=r.dp;show A.depth+1+3*k+5<_;left,by have:=r.un;show A.units+3+16*k+200<_;left⟩
def fw.depth {k:Nat}{A:Around} (r:fw k A):A.depth<recursionLimit:=by have:=r.dp;left
def fw.fJ {k:Nat} (r:fw k A):A.units<cLine:=by have:=r.un;left
def fw.Hr {k:Nat} (r:fw k A):A.units+1<cLine:=by have:=r.un;left
def dw.n {k:Nat} (r:dw k A):fw k A:=⟨r.dp,r.un⟩
structure pO (P:Zh) (w:Zi) (K:Zf) (mg:Zk) (base:Heap) (CX:CXT) (k:Nat) (f:Addr) (fd:FuncData) (ps:Ze) (sp:Sp):Prop where
 len:∀ vs H Q E,sp vs H Q E->vs.length=ps.length
 run:∀ (A:Around) (outer:List Env) (s:Zg) (H:Hp) (args:Args) (us:Zc) (vs:List V) (Q:VK) (E:XK),fw k A->fz A.handled H->ua P w K mg base A outer s H->BindsTo s fd args (ps.zip us)->Vals vs us->sp vs H Q E →
  codeAny (model P w) A (.call (.ref f) args) (CR CX outer P w H s Q E) s
def vI (CX:CXT) (P:Zh) (w:Zi) (K:Zf) (mg:Zk) (base:Heap) (N:Ze) (qual:Str) (scope:Scope) (f:Addr) (cd:Value) (A:Around) (outer:List Env) (s:Zg) (H:Hp) (E:XK):Cx where
 prog:=P
 w:=w
 K:=K
 mg:=mg
 base:=base
 A:=A.deeper (envOfC qual scope s.heap.objs.size f cd)
 N:=N
 s₀:=s
 H₀:=H
 env:=envOfC qual scope s.heap.objs.size f cd
 outer:=outer
 stack:=envOfC qual scope s.heap.objs.size f cd::outer
 ex:=[]
 calm:=false
 fn:=fun _=>true
 pn:=[]
 xe:=fun e s'=>wpAny (model P w) (A.deeper (envOfC qual scope s.heap.objs.size f cd)) (leaving (envOfC qual scope s.heap.objs.size f cd) e) (fun _ s''=>CX outer H s E e s'') (fun e' s''=>CX outer H s E e' s'') s'
def zU {CX:CXT}{P:Zh}{w:Zi}{K:Zf}{mg:Zk}{base:Heap}{N ps:Ze}{qual:Str}{scope:Scope}{f:Addr}{cd:Value}{A:Around}{outer:List Env}{s s1:Zg}{H:Hp}{E:XK}{us:Zc}{vs:List V}
  (S:aI N ps scope) (e0:ua P w K mg base A outer s H) (hl:vs.length=ps.length) (r:Vals vs us)
  (x:InCallC s s.heap.objs.size (bindL (envOfC qual scope s.heap.objs.size f cd).kindOf (ps.zip us) fun _=>none) (cellsFrom (s.heap.objs.size+1) scope.names []) (bindC (envOfC qual scope s.heap.objs.size f cd).kindOf (ps.zip us) fun _=>none) s1) :
  Inv (vI CX P w K mg base N qual scope f cd A outer s H E) [] (start N vs) H s1:=by
 have hpl:ps.length<=N.length:=by have:=aV List.length S.pre;rw[fK] at this;left
 obtain⟨h1,tk,rfl,hk⟩:=x.done;have noA:∀ b:Addr,b∉(vI CX P w K mg base N qual scope f cd A outer s H E).ex:=fun b z=>absurd (show b∈([]:List Addr) from z) (by simp);refine⟨⟨e0.mod,S.kind,rfl,rfl,aq _,fun y z c h1 h2=>?_,fun y hy=>?_,fun y c _ h=>?_,(fun z=>by cases z),Around.frames_deeper e0.frames,.inr ⟨rfl,rfl⟩,fun b z=>absurd z (noA b),e0.bs,e0.bsz,fun b _ _=>noA b,fun b z=>absurd z (noA b),e0.mJ,e0.frf⟩,
  rfl,e0.bare,Un.kept hk,⟨_,x.toInCall.ns,fun i y v h1 h2 h3=>?_⟩,fun y c h=>⟨_,x.cell y c h⟩,e0.hok.fresh (aq _),fun y c h=>?_,fun p hp=>absurd (show p∈([]:Zp) from hp) (by simp),e0.hok.kept hk,?_⟩
 ·exact name_of_addr x.apart (fk h1) (fk h2)
 ·have hy:scope.names.lookup y=some .cell∨scope.names.lookup y=some .free:=hy;rcases hy with hy | hy
  ·exact pU hy
  ·exact absurd rfl (S.nofree _ (fk hy))
 ·exact aT (x.above y c (fk h))
 ·have hi:i<vs.length:=by
   unfold start at h2
   by_cases hi:i<vs.length
   ·exact hi
   ·rw[gc (by simpa using hi)] at h2;rw[qS] at h2;split at h2<;>cases h2
  have ha:vs[i]?=some v:=by
   unfold start at h2;rw[gb (by simpa using hi),bt] at h2;cases e:vs[i]? with
   | none=>rw[e] at h2;cases h2
   | some a=>rw[e] at h2;cases h2;rfl
  obtain⟨u,hu,rv⟩:=r.get ha;have hp:ps[i]?=some y:=by rw[←S.pre,List.getElem?_take_of_lt (by left)];exact h1
  have ndP:ps.Nodup:=by rw[←S.pre];exact S.nd.sublist (List.take_sublist _ _)
  refine⟨u,rv,?_⟩;rcases S.par y (bw hp) with k | k
  ·exact .inl ⟨k,rF ndP hp hu k⟩
  ·obtain⟨c,e⟩:=pU (n:=s.heap.objs.size+1) k;refine .inr ⟨.inl k,c,e,?_⟩;have q:=x.cell y c e;rw[rE ndP hp hu (by show scope.names.lookup y≠_;rw[k];decide)] at q;exact q
 ·exact e0.hok.fresh (aT (x.above y c (fk h)))
 ·unfold start;show _=N.length;rw[aK,ak,lD];left
def K4 {CX:CXT}{P:Zh}{w:Zi}{K:Zf}{mg:Zk}{base:Heap}{k:Nat}{f:Addr}{name qual:Str}{params:Arguments}{body:List Stmt}{scope:Scope}{dV kV doc pm cdv ct oc:Value}{an od:Option Addr}
  {osl:Array (Option Value)}{N ps:Ze}{sp:Sp} (lk:K.lookup f=some ⟨oc,od,.func (PySem.W.fnOf name qual params body scope dV kV doc pm an cdv ct),osl⟩) (hcd:PySem.W.codeIn K cdv qual=true) (S:aI N ps scope)
  (len:∀ vs H Q E,sp vs H Q E->vs.length=ps.length)
  (hbody:∀ (A:Around) (outer:List Env) (s:Zg) (H:Hp) (vs:List V) (Q:VK) (E:XK),fw k (A.deeper (envOfC qual scope s.heap.objs.size f cdv))->fz A.handled H->sp vs H Q E →
   ∃ t,PSs (vI CX P w K mg base N qual scope f cdv A outer s H E) body t/\t { nx:=fun _ H'=>Q .non H',rt:=Q } (start N vs) H) :
  pO P w K mg base CX (k+1) f (PySem.W.fnOf name qual params body scope dV kV doc pm an cdv ct) ps sp:=by
 refine⟨len,fun A outer s H args us vs Q E hr hin e0 hb r hsp=>?_⟩;have hl:=len _ _ _ _ hsp;have KX:K.In s.heap:=e0.mod.kin.keeps fun b o e=>(e0.bs b o e).1;have lim:s.heap.NoLimit:=e0.mod.nolimit.keeps fun b o e=>(e0.bs b o e).1;have hkind:∀ y∈ps.zip us,scope.names.lookup y.1=some .local∨(scope.names.lookup y.1=some .cell/\((cellsFrom (s.heap.objs.size+1) scope.names []).lookup y.1).isSome=true):=fun ⟨n,v⟩ hy=>by
  rcases S.par n (iK hy).1 with q | q
  ·exact .inl q
  ·exact .inr ⟨q,rz _ _ _ (.inl q)⟩
 refine codeAny_call_function hr.depth (KX _ _ lk) rfl S.co S.gen rfl (PySem.W.codeRec_of KX hcd) (hb _ _ _ _ ?_);refine wpAny_newFunctionEnv_cells S.kind hkind fun env he s1 x=>?_;subst he;refine⟨lim.keeps x.toInCall.keep,codeAny_func ?_⟩;obtain⟨t,ht,hq⟩:=hbody A outer s H vs Q E (hr.deeper _) hin hsp;have I:Inv (vI CX P w K mg base N qual scope f cdv A outer s H E) [] (start N vs) H s1:=zU S e0 hl r x;refine bB (ht [] s1 (start N vs) H _ I hq) (fun fl s' hs=>?_) fun e s' hs=>hs;have fin:∀ {σ':St}{H':Hp}{v:V}{u:Value},Inv (vI CX P w K mg base N qual scope f cdv A outer s H E) [] σ' H' s'->RelV v u->Q v H'->CE outer P w H s Q u s' :=
  fun {σ' H' v u} J rv q=>⟨v,H',J.os,J.bare,J.base,J.hok,rv,q⟩
 cases fl with
 | ret u =>obtain⟨v,σ',H',J,rv,q⟩:=hs;exact fin J rv q
 | next =>obtain⟨σ',H',J,q⟩:=hs;exact fin (v:=V.non) (u:=Value.none) J rfl q
 | brk =>obtain⟨_,_,_,q⟩:=hs;exact False.elim q
 | cont =>obtain⟨_,_,_,q⟩:=hs;exact False.elim q
section
variable {X:Cx}{CX:CXT}{k:Nat}{f C:Addr}{fd:FuncData}{ps:Ze}{sp:Sp}{dvs:List V}{ds:Zc}{E:St->XK}{x m:Str}{p pos apos:Pos}{e o:Expr}{es:List Expr}{ta:TE}{t:TA}
def Jp {Yp:Zp}{σ:St}{H:Hp}{s:Zg}{Q:VK}{us:Zc}{vs:List V} (F:pO X.prog X.w X.K X.mg X.base CX k f fd ps sp) (hr:fw k X.A) (hb:Binds X.K fd ps ds) (hd:Vals dvs ds) (hx:Passes CX X E)
  (I:Inv X Yp σ H s) (r:Vals vs us) (h:fz X.A.handled H/\sp (vs++dvs) H Q (E σ)):wpAny (model X.prog X.w) X.A (call (.ref f) us) (EP X Yp σ Q) X.xe s:=by
 have r2:Vals (vs++dvs) (us++ds):=r.append hd;have hl:(us++ds).length=ps.length:=by rw[←r2.length];exact F.len _ _ _ _ h.2
 refine hZ (gk (F.run X.A X.stack s H ⟨us,[]⟩ (us++ds) (vs++dvs) Q (E σ) hr h.1 I.CL (hb s us I.kIn hl) r2 h.2) fun r s' hq=>?_);cases r with
 | error e=>exact hx Yp σ H s e s' I hq
 | ok fl =>
  cases fl with
  | ret u=>exact I.after hq
  | next=>exact False.elim hq
  | brk=>exact False.elim hq
  | cont=>exact False.elim hq
end
end
end L2
set_option Elab.async false
set_option linter.all false
set_option maxRecDepth 100000
set_option maxHeartbeats 4000000
set_option exponentiation.threshold 2000
namespace Mk
variable {al:Za}{m:Int}{p:Int}{x:Int}
section
def cop (m n:Int):Bool:=decide (Int.gcd n m=1)
def dif (ws:Zb):Zb:=(ws.zip (ws.drop 1)).map fun p=>p.2-p.1
def safe (m:Int) (ws:Zb):Bool:=(ws++dif ws).all (cop m)
theorem Fm (a b:Int):Int.gcd b (a%b)=Int.gcd a b:=by rw[Int.emod_def,Int.gcd_sub_mul_left_right,Int.gcd_comm]
theorem nu {ws:Zb}:safe m ws=true↔(∀ w∈ws,cop m w=true)/\∀ (j:Nat) a b,ws[j]?=some a->ws[j+1]?=some b->cop m (b-a)=true:=by
 unfold safe;rw[List.all_append,cm,bP,bP];refine and_congr Iff.rfl ⟨fun h j a b ha hb=>?_,fun h x hx=>?_⟩
 ·refine h (b-a) (aD.mpr ⟨(a,b),?_,rfl⟩);refine bw (i:=j) ?_;rw[List.getElem?_zip_eq_some];exact⟨ha,by rw[qQ,Nat.add_comm];exact hb⟩
 ·unfold dif at hx;obtain⟨⟨a,b⟩,hp,rfl⟩:=aD.mp hx;obtain⟨j,hj⟩:=List.getElem?_of_mem hp;rw[List.getElem?_zip_eq_some] at hj;exact h j a b hj.1 (by have:=hj.2;rw[qQ,Nat.add_comm] at this;exact this)
def ofN (n:Nat):Zb:=(List.range n).map fun (k:Nat)=>(k:Int)
theorem lY (n:Nat):(ofN n).length=n:=by simp [ofN]
theorem i9 {n:Nat}:x∈ofN n↔0<=x/\x<n:=by
 unfold ofN;rw[aD];constructor
 ·rintro⟨k,hk,rfl⟩;have:=iJ.mp hk;left
 ·rintro⟨h1,h2⟩;exact⟨x.toNat,iJ.mpr (by left),by left⟩
def xS (m:Int) (found:Zb):Zb:=(ofN m.toNat).filter fun w=>cop m w&&(found.isEmpty||cop m (w-found.getLastD 0))
def fv (m:Int) (found:Zb):Zb:=if xS m found=[] then ofN m.toNat else xS m found
def oR (m:Int):Nat->Int->Zb->Zb
 | 0,_,found=>found
 | n+1,c,found=>oR m n (c/7) (found++[(fv m found).getD (c%((fv m found).length:Int)).toNat 0])
def wts (c m:Int) (n:Nat):Zb:=oR m n c []
theorem yQ {found:Zb} (h:x∈fv m found):0<=x/\x<m:=by
 unfold fv at h;split at h
 ·have:=i9.mp h;left
 ·have:=i9.mp (gd.mp h).1;left
theorem yR (hm:0<m) (found:Zb):0<(fv m found).length:=by
 unfold fv;split
 ·rw[lY];left
 ·rename_i h
  exact List.length_pos_iff.mpr h
theorem By (hm:0<m) (found:Zb) (c:Int):0<=c%((fv m found).length:Int)/\c%((fv m found).length:Int)<((fv m found).length:Int):=by have:=yR hm found;exact⟨dC _ (by left),eM _ (by left)⟩
theorem yP (hm:0<m) (found:Zb) (c:Int):(fv m found).getD (c%((fv m found).length:Int)).toNat 0∈fv m found:=by
 obtain⟨h1,h2⟩:=By hm found c;have h3:(c%((fv m found).length:Int)).toNat<(fv m found).length:=by left
 rw[cp,b9 h3];exact nS h3
theorem wy (m:Int):∀ (n:Nat) (c:Int) (found:Zb),(oR m n c found).length=found.length+n
 | 0,_,_=>rfl
 | n+1,c,found=>by unfold oR;rw[wy m n,aK,jM];left
theorem J0 (c m:Int) (n:Nat):(wts c m n).length=n:=by unfold wts;rw[wy];simp
theorem wz {m:Int} (hm:0<m):∀ (n:Nat) (c:Int) (found:Zb),(∀ x∈found,0<=x/\x<m)->∀ x∈oR m n c found,0<=x/\x<m
 | 0,_,_,h=>h
 | n+1,c,found,h=>by
  unfold oR;refine wz hm n _ _ fun x hx=>?_;rcases bI.mp hx with hx | hx
  ·exact h x hx
  ·rw[bA] at hx;subst hx;exact yQ (yP hm found c)
theorem J1 (hm:0<m) (c:Int) (n:Nat):∀ x∈wts c m n,0<=x/\x<m:=wz hm n c [] (fun _ h=>by cases h)
theorem CF:∀ m:Nat,m<27->3<=m->cop (m:Int) 0=false/\cop (m:Int) 1=true/\cop (m:Int) (-1)=true/\cop (m:Int) 2=decide (m%2=1):=by nofun
end
section
def dot:Zb->Zb->Int
 | a::r,b::t=>a*b+dot r t
 | _,_=>0
theorem Bb:∀ (ws ps:Zb),((ws.zip ps).map fun p=>p.1*p.2).sum=dot ws ps
 | [],_=>by simp [dot]
 | _::_,[]=>by simp [dot]
 | a::r,b::t=>by rw[List.zip_cons_cons,bp,iL,Bb r t];rfl
theorem yf:∀ (ws ps:Zb) (a b:Int),ws.length=ps.length->dot (ws++[a]) (ps++[b])=dot ws ps+a*b
 | [],[],a,b,_=>by simp [dot]
 | [],_::_,_,_,h=>by simp at h
 | _::_,[],_,_,h=>by simp at h
 | x::r,y::t,a,b,h=>by show x*y+dot (r++[a]) (t++[b])=x*y+dot r t+a*b;rw[yf r t a b (by simpa using h),Int.add_assoc]
def plc (al w:Za):Zb:=w.map fun c=>((al.idxOf c:Nat):Int)
def eS (al:Za) (n:Int) (z:Za):Bool:=decide ((z.length:Int)=n)&&z.all fun c=>decide (c∈al)
def good (m:Int) (ws:Zb) (r:Int) (ps:Zb):Bool:=decide ((dot ws ps-r)%m=0)
def i8 (al:Za) (ws:Zb) (r:Int) (z:Za):Bool:=eS al ws.length z&&good al.length ws r (plc al z)
def jF (al:Za) (ps:Zb):Za:=ps.map fun p=>al.getD p.toNat 0
theorem sC (al:Za) (ps:Zb):(jF al ps).length=ps.length:=by simp [jF]
theorem Je (al w:Za):(plc al w).length=w.length:=by simp [plc]
theorem getD_at (h:0<=p/\p<al.length):al[p.toNat]?=some (al.getD p.toNat 0):=by rw[cp,b9 (by left)];rfl
theorem getD_mem (h:0<=p/\p<al.length):al.getD p.toNat 0∈al:=bw (getD_at h)
theorem Dm (nd:al.Nodup) {i c:Nat} (h:al[i]?=some c):al.idxOf c=i:=by obtain⟨hi,e⟩:=bN.mp h;subst e;exact List.Nodup.idxOf_getElem nd i hi
theorem rZ {al:Za} (nd:al.Nodup):∀ {ps:Zb},(∀ p∈ps,0<=p/\p<al.length)->plc al (jF al ps)=ps
 | [],_=>rfl
 | p::r,h=>by show ((al.idxOf (al.getD p.toNat 0):Nat):Int)::plc al (jF al r)=p::r;rw[rZ nd (fun q hq=>h q (bD _ hq)),Dm nd (getD_at (h p bq))];rw[lq (h p bq).1]
theorem B0 {al w:Za} (h:∀ c∈w,c∈al):∀ p∈plc al w,0<=p/\p<al.length:=by intro p hp;obtain⟨c,hc,rfl⟩:=aD.mp hp;exact⟨Int.natCast_nonneg _,by exact_mod_cast List.idxOf_lt_length_of_mem (h c hc)⟩
theorem A8 {ps:Zb} (h:∀ p∈ps,0<=p/\p<al.length):eS al ps.length (jF al ps)=true:=by unfold eS;rw[sC,ar rfl,dQ,bP];intro c hc;obtain⟨p,hp,rfl⟩:=aD.mp hc;exact ar (getD_mem (h p hp))
theorem zV {n:Int}{z:Za}:eS al n z=true↔(z.length:Int)=n/\∀ c∈z,c∈al:=by unfold eS;rw[cm,cj,bP];refine and_congr Iff.rfl ⟨fun h c hc=>lL (h c hc),fun h c hc=>ar (h c hc)⟩
def sml (xs:Zb):Prop:=∀ x∈xs,0<=x/\x<1000
theorem L9 {xs:Zb} (h:∀ x∈xs,0<=x/\x<m) (hm:m<=1000):sml xs:=fun x hx=>⟨(h x hx).1,Int.lt_of_lt_of_le (h x hx).2 hm⟩
theorem zS {ws ps:Zb}{r:Int} (nd:al.Nodup) (hl:ps.length=ws.length) (h:∀ p∈ps,0<=p/\p<al.length):i8 al ws r (jF al ps)=good al.length ws r ps:=by unfold i8;rw[rZ nd h,←hl,A8 h,dQ]
end
section
def kJ (m:Int):Nat->Int->Zb
 | 0,_=>[]
 | n+1,k=>kJ m n (k/m)++[k%m]
theorem kK (m:Int):∀ (n:Nat) (k:Int),(kJ m n k).length=n
 | 0,_=>rfl
 | n+1,k=>by unfold kJ;rw[aK,kK];rfl
theorem uq {m:Int} (hm:0<m):∀ (n:Nat) (k:Int),∀ x∈kJ m n k,0<=x/\x<m
 | 0,_,x,h=>by cases h
 | n+1,k,x,h=>by
  unfold kJ at h;rcases bI.mp h with h | h
  ·exact uq hm n _ x h
  ·rw[bA.mp h];exact⟨dC _ (by left),eM _ hm⟩
theorem vK {m:Int} (hm:0<m):∀ (n:Nat) (k:Int),kJ m (n+1) k=(k/m^n)%m::kJ m n k
 | 0,k=>by simp [kJ]
 | n+1,k=>by show kJ m (n+1) (k/m)++[k%m]=_;rw[vK hm n (k/m),Int.ediv_ediv_of_nonneg (iH hm),←Int.pow_succ'];rfl
def numOf (m:Int) (ps:Zb):Int:=ps.foldl (fun k p=>k*m+p) 0
theorem pb (m:Int) (ps:Zb) (p:Int):numOf m (ps++[p])=numOf m ps*m+p:=by unfold numOf;rw[List.foldl_append];rfl
theorem uC {m:Int} (hm:0<m):∀ (n:Nat) (k:Int),0<=k->k<m^n->numOf m (kJ m n k)=k
 | 0,k,h0,h1=>by
  have:k=0:=by simp at h1;left
  subst this;rfl
 | n+1,k,h0,h1=>by unfold kJ;rw[pb,uC hm n (k/m) (Int.ediv_nonneg h0 (iH hm)) (Int.ediv_lt_of_lt_mul hm (by rw[←Int.pow_succ];exact h1))];have:=qO k m;rw[Int.mul_comm];exact this
theorem wW (hm:0<m):∀ (ps:Zb),(∀ p∈ps,0<=p/\p<m)->0<=numOf m ps/\numOf m ps<m^ps.length:=by
 intro ps;rw[←List.reverse_reverse ps];generalize ps.reverse=rs
 induction rs with
 | nil=>intro _;simp [numOf]
 | cons a r ih =>intro h;rw[List.reverse_cons] at h ⊢;have ih:=ih fun p hp=>h p (nV _ hp);have ha:=h a (cA _ bq);rw[pb,aK,jM,Int.pow_succ];refine⟨Int.add_nonneg (Int.mul_nonneg ih.1 (iH hm)) ha.1,?_⟩;have h2:(numOf m r.reverse+1)*m<=m^r.reverse.length*m:=Int.mul_le_mul_of_nonneg_right (by left) (iH hm);rw[Int.add_mul,Int.one_mul] at h2;left
theorem Dn:∀ m:Nat,m<27->0<m->∀ w:Nat,w<m->Nat.gcd w m=1->∃ v:Nat,v<m/\(w*v)%m=1%m:=by nofun
theorem K9 {m w:Int} (h0:0<m) (h26:m<=26) (hw:0<=w/\w<m) (hc:cop m w=true):∃ v t:Int,w*v=1+m*t:=by
 obtain⟨M,rfl⟩:=jI (iH h0);obtain⟨W,rfl⟩:=jI hw.1;have hg:Nat.gcd W M=1:=lL hc;obtain⟨v,_,e⟩:=Dn M (by left) (by left) W (by left) hg;refine⟨v,((W*v:Nat):Int)/(M:Int)-(1:Int)/(M:Int),?_⟩;have e1:=qO ((W*v:Nat):Int) (M:Int);have e2:=qO (1:Int) (M:Int);have e3:((W*v:Nat):Int)%(M:Int)=(1:Int)%(M:Int):=by exact_mod_cast e
 rw[e3] at e1;rw[Int.mul_sub];have e4:((W*v:Nat):Int)=(W:Int)*(v:Int):=by push_cast;rfl
 left
def Bp (m:Int) (ws:Zb) (r:Int) (ps:Zb):Zb:=(ofN m.toNat).filter fun x=>good m ws r (ps++[x])
def sQ (m:Int) (ws:Zb) (r:Int) (ps:Zb):Int:=(Bp m ws r ps).headD 0
theorem Di {m w r x:Int}{ws ps:Zb} (hl:ws.length=ps.length):good m (ws++[w]) r (ps++[x])=decide ((dot ws ps+w*x-r)%m=0):=by unfold good;rw[yf _ _ _ _ hl]
theorem FU {m w r:Int}{ws ps:Zb} (h0:0<m) (h26:m<=26) (hw:0<=w/\w<m) (hc:cop m w=true) (hl:ws.length=ps.length):∃ x,0<=x/\x<m/\∀ y,0<=y->y<m->(good m (ws++[w]) r (ps++[y])=true↔y=x):=by
 obtain⟨v,t,hv⟩:=K9 h0 h26 hw hc;have hx0:=dC ((r-dot ws ps)*v) (show m≠0 by left);have hx1:=eM ((r-dot ws ps)*v) h0;have hq:=qO ((r-dot ws ps)*v) m;generalize ((r-dot ws ps)*v)%m=x at hx0 hx1 hq;generalize ((r-dot ws ps)*v)/m=q at hq;generalize hd:dot ws ps=d at hq;refine⟨x,hx0,hx1,fun y hy0 hy1=>?_⟩;rw[Di hl,cj,hd];constructor
 ·intro h;obtain⟨s,hs⟩:=Int.dvd_of_emod_eq_zero h;have key:y-x=m*(v*s-t*y+q):=by grind
  have hb:-m<y-x/\y-x<m:=by left
  generalize v*s-t*y+q=z at key;have hz:z=0:=by
   rcases Int.lt_trichotomy z 0 with hz | hz | hz
   ·have:m*z<=m*(-1):=Int.mul_le_mul_of_nonneg_left (by left) (iH h0);left
   ·exact hz
   ·have:m*1<=m*z:=Int.mul_le_mul_of_nonneg_left (by left) (iH h0);left
  rw[hz,Int.mul_zero] at key;left
 ·intro h;subst h;have:d+w*y-r=m*(t*(r-d)-w*q):=by grind
  rw[this];exact Int.mul_emod_right _ _
theorem zQ {l:Zb} (hn:l.Nodup) {p:Int->Bool} (hx:x∈l) (h:∀ y∈l,(p y=true↔y=x)):l.filter p=[x]:=by
 induction l with
 | nil=>cases hx
 | cons a r ih =>
  rw[df] at hn;rw[List.filter_cons]
  by_cases e:a=x
  ·subst e;rw[ai ((h a bq).mpr rfl)]
   congr 1
   rw[nN];intro y hy hp;exact hn.1 ((h y (bD _ hy)).mp hp ▸ hy)
  ·rw[af (fun z=>e ((h a bq).mp z))];refine ih hn.2 ?_ fun y hy=>h y (bD _ hy);rcases aJ.mp hx with z | z
   ·exact absurd z.symm e
   ·exact z
theorem D6 (n:Nat):(ofN n).Nodup:=by unfold ofN;refine List.pairwise_map.mpr (List.Pairwise.imp ?_ List.pairwise_lt_range);intro a b h e;left
theorem rN {m r:Int}{ws ps:Zb} (h0:0<m) (h26:m<=26) (hm:∀ x∈ws,0<=x/\x<m) (hc:∀ x∈ws,cop m x=true) (hl:ps.length+1=ws.length) :
  Bp m ws r ps=[sQ m ws r ps]/\0<=sQ m ws r ps/\sQ m ws r ps<m/\∀ y,0<=y->y<m->(good m ws r (ps++[y])=true↔y=sQ m ws r ps):=by
 have hne:ws≠[]:=fun e=>by rw[e] at hl;simp at hl
 obtain⟨wi,w,rfl⟩:∃ wi w,ws=wi++[w]:=⟨ws.dropLast,ws.getLast hne,(List.dropLast_concat_getLast hne).symm⟩;have hl2:wi.length=ps.length:=by simp at hl;left
 obtain⟨x,x0,x1,hx⟩:=FU (r:=r) h0 h26 (hm w (by simp)) (hc w (by simp)) hl2;have e:Bp m (wi++[w]) r ps=[x]:=by unfold Bp;refine zQ (D6 _) (i9.mpr ⟨x0,by left⟩) fun y hy=>?_;have:=i9.mp hy;exact hx y this.1 (by left)
 have e2:sQ m (wi++[w]) r ps=x:=by unfold sQ;rw[e];rfl
 rw[e2];exact⟨e,x0,x1,hx⟩
def kj (m:Int) (ws:Zb) (r k:Int):Zb:=kJ m (ws.length-1) k++[sQ m ws r (kJ m (ws.length-1) k)]
end
section
theorem DN {m x:Int}{l:Zb} (h:safe m l=true) (hx:cop m x=true) (hl:l=[]∨cop m (x-l.getLastD 0)=true):safe m (l++[x])=true:=by
 rw[nu] at h ⊢;refine⟨fun w hw=>?_,fun j a b ha hb=>?_⟩
 ·rcases bI.mp hw with hw | hw
  ·exact h.1 w hw
  ·rw[bA.mp hw];exact hx
 ·by_cases h1:j+1<l.length
  ·rw[gb (by left)] at ha;rw[gb h1] at hb;exact h.2 j a b ha hb
  ·have hj:=(bN.mp hb).1;rw[aK,jM] at hj;have e:j+1=l.length:=by left
   rw[gb (by left)] at ha;rw[gc (by left),e,Nat.sub_self] at hb;have hne:l≠[]:=fun e2=>by rw[e2] at e;simp at e
   have e3:l.getLastD 0=a:=by rw[List.getLastD_eq_getLast?,List.getLast?_eq_getElem?,show l.length-1=j by left,ha];rfl
   have e4:x=b:=by simpa using hb
   subst e4;rw[←e3];exact hl.resolve_left hne
theorem FP:∀ m:Nat,m<27->3<=m->m%2=1->∀ w:Nat,w<m->cop (m:Int) (w:Int)=true->(cop (m:Int) (((2*w)%m:Nat):Int)&&cop (m:Int) ((((2*w)%m:Nat):Int)-(w:Int)))=true:=by nofun
theorem EA (h3:3<=m) (h26:m<=26) (ho:m%2=1) {l:Zb} (hb:∀ x∈l,0<=x/\x<m) (hc:∀ x∈l,cop m x=true):xS m l≠[]:=by
 obtain⟨M,rfl⟩:=jI (show 0<=m by left);intro e;unfold xS at e;rw[nN] at e
 by_cases hl:l=[]
 ·subst hl;exact e 1 (i9.mpr ⟨Zd,by left⟩) (by rw[(CF M (by left) (by left)).2.1];rfl)
 ·have hm:l.getLastD 0∈l:=by
   rw[List.getLastD_eq_getLast?,List.getLast?_eq_some_getLast hl];exact List.getLast_mem hl
  have h1:=hb _ hm;have h2:=hc _ hm;generalize l.getLastD 0=w at e h1 h2;obtain⟨W,rfl⟩:=jI h1.1;have h4:=FP M (by left) (by left) (by left) W (by left) h2;rw[cm] at h4;refine e (((2*W)%M:Nat):Int) (i9.mpr ⟨by left,?_⟩) ?_
  ·have:=Nat.mod_lt (2*W) (show 0<M by left);left
  ·rw[h4.1,h4.2,Bool.or_true];rfl
theorem vm {m:Int} (h3:3<=m) (h26:m<=26) (ho:m%2=1):∀ (n:Nat) (c:Int) (l:Zb),(∀ x∈l,0<=x/\x<m)->safe m l=true->safe m (oR m n c l)=true
 | 0,_,_,_,h=>h
 | n+1,c,l,hb,h=>by
  unfold oR;have hp:=yP (show 0<m by left) l c;generalize (fv m l).getD (c%((fv m l).length:Int)).toNat 0=x at hp;have hx:=yQ hp;have hc:=EA h3 h26 ho hb (nu.mp h).1;unfold fv at hp;rw[af hc] at hp;unfold xS at hp;have hq:=(gd.mp hp).2;rw[cm,Bool.or_eq_true] at hq;refine vm h3 h26 ho n _ _ (fun y hy=>?_) (DN h hq.1 ?_)
  ·rcases bI.mp hy with hy | hy
   ·exact hb y hy
   ·rw[bA.mp hy];exact hx
  ·rcases hq.2 with e | e
   ·exact .inl (List.isEmpty_iff.mp e)
   ·exact .inr e
theorem Hu (h3:3<=m) (h26:m<=26) (ho:m%2=1) (c:Int) (n:Nat):safe m (wts c m n)=true:=vm h3 h26 ho n c [] (fun _ h=>by cases h) rfl
section
variable {m r k:Int}{ws:Zb} (h0:0<m) (h26:m<=26) (hm:∀ x∈ws,0<=x/\x<m) (hs:safe m ws=true) (hl:1<=ws.length)
theorem DW (hl:1<=ws.length):(kj m ws r k).length=ws.length:=by unfold kj;rw[aK,kK,jM];left
include h0 h26 hm hs hl
theorem DX:∀ x∈kj m ws r k,0<=x/\x<m:=by
 obtain⟨_,l2,l3,-⟩:=rN (r:=r) h0 h26 hm (nu.mp hs).1 (show (kJ m (ws.length-1) k).length+1=ws.length by rw[kK];left);unfold kj;intro x hx;rcases bI.mp hx with hx | hx
 ·exact uq h0 _ _ x hx
 ·rw[bA.mp hx];exact⟨l2,l3⟩
theorem AN:good m ws r (kj m ws r k)=true:=by obtain⟨_,l2,l3,l4⟩:=rN (r:=r) h0 h26 hm (nu.mp hs).1 (show (kJ m (ws.length-1) k).length+1=ws.length by rw[kK];left);exact (l4 _ l2 l3).mpr rfl
omit h26 hm hs hl in
theorem DY (hk:0<=k) (hk2:k<m^(ws.length-1)):numOf m (kj m ws r k).dropLast=k:=by unfold kj;rw[List.dropLast_concat,uC h0 _ _ hk hk2]
end
end
section
end
section
def cc (c:Nat):Za->List (Za)
 | []=>[[]]
 | a::l=>if a=c then []::cc c l else match cc c l with
  | []=>[[a]]
  | w::ws=>(a::w)::ws
def cz (c:Nat):List (Za)->Za
 | []=>[]
 | [w]=>w
 | w::v::ws=>w++c::cz c (v::ws)
theorem mB {c:Nat}:∀ (w l:Za),c∉w->cc c (w++c::l)=w::cc c l
 | [],l,_=>by simp [cc]
 | a::w,l,h=>by have ha:a≠c:=fun e=>h (by rw[e];exact bq);have ih:=mB w l fun hc=>h (bD _ hc);show (if a=c then _ else match cc c (w++c::l) with | []=>[[a]] | w::ws=>(a::w)::ws)=_;rw[af ha,ih]
theorem wg {c:Nat}:∀ (w:Za),c∉w->cc c w=[w]
 | [],_=>rfl
 | a::w,h=>by have ha:a≠c:=fun e=>h (by rw[e];exact bq);have ih:=wg w fun hc=>h (bD _ hc);show (if a=c then _ else match cc c w with | []=>[[a]] | w::ws=>(a::w)::ws)=_;rw[af ha,ih]
theorem gI {c:Nat}:∀ (ws:List (Za)),ws≠[]->(∀ w∈ws,c∉w)->cc c (cz c ws)=ws
 | [],h,_=>absurd rfl h
 | [w],_,h=>wg w (h w bq)
 | w::v::ws,_,h=>by show cc c (w++c::cz c (v::ws))=_;rw[mB w _ (h w bq),gI (v::ws) (by simp) fun x hx=>h x (bD _ hx)]
theorem vf {c:Nat}:∀ (l:Za),(cc c l).length<=l.length+1/\∀ w∈cc c l,w.length<=l.length
 | []=>by simp [cc]
 | a::l=>by
  obtain⟨h1,h2⟩:=vf (c:=c) l;have e:cc c (a::l)=if a=c then []::cc c l else match cc c l with | []=>[[a]] | w::ws=>(a::w)::ws:=rfl
  by_cases ha:a=c
  ·rw[e,ai ha,aN,aN];refine⟨by left,fun w hw=>?_⟩;rcases aJ.mp hw with rfl | hw
   ·exact bH _
   ·have:=h2 w hw;left
  ·rw[e,af ha,aN];cases hs:cc c l with
   | nil=>exact⟨by simp,fun w hw=>by rw[bA.mp hw];simp⟩
   | cons v vs =>
    rw[hs] at h1 h2;refine⟨by simp only[aN] at h1 ⊢;left,fun w hw=>?_⟩;rcases aJ.mp hw with rfl | hw
    ·have:=h2 v bq;rw[aN];left
    ·have:=h2 w (bD _ hw);left
theorem oB {c:Nat}:∀ (ws:List (Za)),(cz c ws).length<=(ws.map fun w=>w.length+1).sum
 | []=>by simp [cz]
 | [w]=>by simp [cz]
 | w::v::ws=>by have ih:=oB (c:=c) (v::ws);show (w++c::cz c (v::ws)).length<=_;rw[aK,aN,bp,iL];left
end
section
end
section
def dB (c:Nat):Nat->Za->Za->List (Za)
 | 0,seg,l=>[seg++l]
 | _+1,seg,[]=>[seg]
 | n+1,seg,x::l=>if x=c then seg::dB c n [] l else dB c (n+1) (seg++[x]) l
def qx (c:Nat):Nat->Za->Za
 | _,[]=>[]
 | i,x::l=>if x=c then i::qx c (i+1) l else qx c (i+1) l
def zu (l:Za):Nat->Za->List (Za)
 | i,[]=>[l.drop i]
 | i,q::qs=>(l.drop i).take (q-i)::zu l (q+1) qs
theorem nB {c:Nat}:∀ (n:Nat) (seg l:Za),c∉l->dB c n seg l=[seg++l]
 | 0,_,_,_=>by rw[dB]
 | _+1,seg,[],_=>by rw[dB,jK]
 | n+1,seg,x::l,h=>by rw[aJ,not_or] at h;rw[dB,af fun e=>h.1 e.symm,nB (n+1) _ l h.2,nK];rfl
theorem i6 {c:Nat} (n:Nat) (r:Za):∀ (seg w:Za),c∉w->dB c (n+1) seg (w++c::r)=(seg++w)::dB c n [] r
 | seg,[],_=>by rw[gf,dB,ai rfl,jK]
 | seg,x::w,h=>by rw[aJ,not_or] at h;rw[fZ,dB,af fun e=>h.1 e.symm,i6 n r _ w h.2,nK];rfl
theorem yS {c:Nat}:∀ (i:Nat) (l:Za),qx c i l=[]->c∉l
 | _,[],_=>fun h=>by cases h
 | i,x::l,h=>by
  unfold qx at h;split at h
  ·cases h
  ·rename_i hx
   intro hm;rcases aJ.mp hm with e | hm
   ·exact hx e.symm
   ·exact yS (i+1) l h hm
theorem zv {c:Nat} (l:Za):∀ (n:Nat) (suf pre seg:Za),l=pre++(seg++suf)->zu l pre.length ((qx c (pre.length+seg.length) suf).take n)=dB c n seg suf:=by
 intro n suf
 induction suf generalizing n with
 | nil =>
  intro pre seg e;have h0:l.drop pre.length=seg++[]:=by rw[e,List.drop_left]
  have:(qx c (pre.length+seg.length) []).take n=[]:=by rw[qx,List.take_nil]
  rw[this,zu,h0];cases n with
  | zero=>rfl
  | succ n=>rw[dB,jK]
 | cons x suf ih =>
  intro pre seg e;have h0:l.drop pre.length=seg++x::suf:=by rw[e,List.drop_left]
  cases n with
  | zero=>rw[jN,zu,h0];rfl
  | succ n =>
   rw[qx,dB]
   by_cases hx:x=c
   ·rw[ai hx,ai hx,qZ,zu,h0,show pre.length+seg.length-pre.length=seg.length by left,List.take_left];have:=ih n (pre++seg++[x]) [] (by rw[e];simp);simp only[aK,aN,cf,Nat.zero_add,Nat.add_zero] at this;rw[this]
   ·rw[af hx,af hx];have:=ih (n+1) pre (seg++[x]) (by rw[e];simp);rw[aK,show pre.length+(seg.length+[x].length)=pre.length+seg.length+1 from rfl] at this;exact this
def dgN (m:Nat):Za:=(Nat.toDigits 10 m).map Char.toNat
theorem ip:∀ m:Nat,m<26->1<=(dgN m).length/\(dgN m).length<=2/\(∀ c∈dgN m,48<=c/\c<58)/\((dgN m).length=2->(dgN m)[0]?≠some 48):=by decide
end
end Mk
namespace L2
open PySem PySem.Spec PyProof.Rows
variable {A:Around}{C:Addr}{CX:CXT}{D:Ends}{E:Zq}{H:Hp}{H1:Hp}{J:It}{K:Zf}{M:Model}{P:Zh}{Q:Zq}{T:String}{X:Cx}{a:Addr}{b:Addr}{base:Heap}{bmB:Zc}{body:List Stmt}{b₀:Stmt}{c:Value}{ch:List Addr}{cl:List (Str×Addr)}{d:Option Addr}{e:Expr}{ea:Addr}{elts:List Expr}{env:Env}{es:List Expr}{f:Addr}{fd:FuncData}{fp:List Addr}{frn:Ze}{g:TG}{h:Heap}{h':Heap}{hd:Option Value}{hs:List ExceptHandler}{h₀:ExceptHandler}{i:Nat}{ifs:List Expr}{it:Addr}{items:Array Value}{js:Za}{kvs:List (Key×V)}{lo:Int}{m:Str}{mg:Zk}{ns:Zb}{o:HO}{ob:Obj}{params:Arguments}{Yp:Zp}{pl:Sem Bool}{pos:Pos}{prog:Zh}{ps:Ze}{q:Str}{r:V->List V->Hp->VK->Prop}{s:Zg}{scope:Scope}{sp:Sp}{spA:Sp->Sp}{st:Stmt}{suite:List Stmt}{t':Nat}{ta:TA}{tb:TS}{tc:TT}{te:TE}{tg:Expr}{th:Addr->TS}{tk:Nat}{tl:TE}{tn:Nat->Heap->Prop}{to:TE}{tpos:Pos}{ts:List (Addr×Str)}{us:Zc}{v:Value}{vs:Array Value}{w:Zi}{wi:TI}{x:Str}{xe:Zq}{xs:List V}{α:Type}{σ:St}
section
def clo (cells:List (Str×Addr)):List (Str×NameKind)->List (Str×Addr)->Option (List (Str×Addr))
 | [],acc=>some acc
 | (n,k)::r,acc=>if k==.free then (match cells.lookup n with | some c=>clo cells r ((n,c)::acc) | none=>none) else clo cells r acc
theorem uh {env:Env}:∀ (names:List (Str×NameKind)) (acc cl:List (Str×Addr)),clo env.cells names acc=some cl →
  (forIn names acc fun (x:Str×NameKind) (cs:List (Str×Addr))=>(if x.2==.free then do let c ←cellOf env x.1;pure (ForInStep.yield ((x.1,c)::cs)) else pure (ForInStep.yield cs):Sem (ForInStep (List (Str×Addr)))))=pure cl
 | [],acc,cl,h=>by have e:acc=cl:=Option.some.inj h;subst e;rfl
 | (n,k)::r,acc,cl,h=>by
  rw[List.forIn_cons];unfold clo at h
  by_cases hk:(k==NameKind.free)=true
  ·rw[ai hk] at h;cases hc:env.cells.lookup n with
   | none=>rw[hc] at h;cases h
   | some c =>
    rw[hc] at h;have ih:=uh (env:=env) r ((n,c)::acc) cl h;have e1:cellOf env n=pure c:=by unfold cellOf;rw[hc]
    simp only[hk,if_true,e1,pure_bind];exact ih
  ·rw[af hk] at h;have ih:=uh (env:=env) r acc cl h;simp only[hk,fM,pure_bind,m4];exact ih
def gJ (h:clo env.cells scope.names []=some cl):closureFor scope env=pure cl:=by
 have e:=uh (env:=env) scope.names [] cl h;unfold closureFor;simp only[bind_pure]
 first
  | exact e
  | (simp only[bind_pure_comp,map_pure] at e ⊢;exact e)
  | (rw[show (fun (x:Str×NameKind) (r:List (Str×Addr))=>_)=_ from rfl];exact e)
theorem oA {cells:List (Str×Addr)}:∀ (names:List (Str×NameKind)) (acc cl:List (Str×Addr)),clo cells names acc=some cl →
  (∀ x c,acc.lookup x=some c->cells.lookup x=some c)->∀ x c,cl.lookup x=some c->cells.lookup x=some c
 | [],acc,cl,h,ha=>by have e:acc=cl:=Option.some.inj h;subst e;exact ha
 | (n,k)::r,acc,cl,h,ha=>by
  unfold clo at h
  by_cases hk:(k==NameKind.free)=true
  ·rw[ai hk] at h;cases hc:cells.lookup n with
   | none=>rw[hc] at h;cases h
   | some c =>
    rw[hc] at h;refine oA r ((n,c)::acc) cl h fun x c' e=>?_;rw[dP] at e
    by_cases hx:(x==n)=true
    ·rw[hx] at e;have e':c=c':=Option.some.inj e;subst e';have:x=n:=eq_of_beq hx;subst this;exact hc
    ·rw[Bool.not_eq_true] at hx;rw[hx] at e;exact ha x c' e
  ·rw[af hk] at h;exact oA r acc cl h ha
theorem ug {cells:List (Str×Addr)}:∀ (names:List (Str×NameKind)) (acc cl:List (Str×Addr)),clo cells names acc=some cl->∀ x,(∃ c,acc.lookup x=some c)->∃ c,cl.lookup x=some c
 | [],acc,cl,h,x,hx=>by have e:acc=cl:=Option.some.inj h;subst e;exact hx
 | (n,k)::r,acc,cl,h,x,hx=>by
  unfold clo at h
  by_cases hk:(k==NameKind.free)=true
  ·rw[ai hk] at h;cases hc:cells.lookup n with
   | none=>rw[hc] at h;cases h
   | some c =>
    rw[hc] at h;refine ug r ((n,c)::acc) cl h x ?_;rw[dP]
    by_cases hxn:(x==n)=true
    ·rw[hxn];exact⟨c,rfl⟩
    ·rw[Bool.not_eq_true] at hxn;rw[hxn];exact hx
  ·rw[af hk] at h;exact ug r acc cl h x hx
theorem oz {cells:List (Str×Addr)}:∀ (names:List (Str×NameKind)) (acc cl:List (Str×Addr)),clo cells names acc=some cl->∀ x,(x,NameKind.free)∈names->∃ c,cl.lookup x=some c
 | [],_,_,_,x,hx=>by cases hx
 | (n,k)::r,acc,cl,h,x,hx=>by
  unfold clo at h
  by_cases hk:(k==NameKind.free)=true
  ·rw[ai hk] at h;cases hc:cells.lookup n with
   | none=>rw[hc] at h;cases h
   | some c =>
    rw[hc] at h;rcases aJ.mp hx with e | hx
    ·have e1:x=n:=aV Prod.fst e;subst e1;exact ug r ((x,c)::acc) cl h x ⟨c,by rw[dP,oq]⟩
    ·exact oz r _ cl h x hx
  ·rw[af hk] at h;rcases aJ.mp hx with e | hx
   ·cases e
    exact absurd (by rfl) hk
   ·exact oz r acc cl h x hx
theorem jk {env:Env}:∀ {names:List (Str×NameKind)}{x:Str}{k':NameKind},
  (names.map fun (n,k)=>if (k==NameKind.free&&env.scope.kind==.function&&env.kindOf n==some .cell) then (n,NameKind.cell) else (n,k)).lookup x=some k'->(x,k')∈names∨(k'=.cell/\(x,NameKind.free)∈names)
 | [],_,_,h=>by cases h
 | (n,k)::r,x,k',h=>by
  have ih:=@jk env r x k'
  by_cases hc:(k==NameKind.free&&env.scope.kind==.function&&env.kindOf n==some .cell)=true
  ·have h2:(((n,NameKind.cell)::(r.map fun (n,k)=>if (k==NameKind.free&&env.scope.kind==.function&&env.kindOf n==some .cell) then (n,NameKind.cell) else (n,k))).lookup x)=some k':=by
    rw[←h,bp];simp only[hc,if_true]
   rw[dP] at h2
   by_cases hx:(x==n)=true
   ·rw[hx] at h2;have e:NameKind.cell=k':=Option.some.inj h2;have e2:x=n:=eq_of_beq hx;have e3:k=.free:=by
     simp only[cm] at hc;exact eq_of_beq hc.1.1
    subst e e2 e3;exact .inr ⟨rfl,bq⟩
   ·rw[Bool.not_eq_true] at hx;rw[hx] at h2;rcases ih h2 with q | ⟨e,q⟩
    ·exact .inl (bD _ q)
    ·exact .inr ⟨e,bD _ q⟩
  ·have h2:(((n,k)::(r.map fun (n,k)=>if (k==NameKind.free&&env.scope.kind==.function&&env.kindOf n==some .cell) then (n,NameKind.cell) else (n,k))).lookup x)=some k':=by
    rw[←h,bp];simp only[hc,fM,m4]
   rw[dP] at h2
   by_cases hx:(x==n)=true
   ·rw[hx] at h2;have e:k=k':=Option.some.inj h2;have e2:x=n:=eq_of_beq hx;subst e e2;exact .inl bq
   ·rw[Bool.not_eq_true] at hx;rw[hx] at h2;rcases ih h2 with q | ⟨e,q⟩
    ·exact .inl (bD _ q)
    ·exact .inr ⟨e,bD _ q⟩
abbrev Cx.blk (X:Cx) (N':Ze) (scope:Scope) (cl:List (Str×Addr)) (C:Addr) (s₀:Zg) (H₀:Hp) (ex:List Addr):Cx :=
 { X with N:=N',s₀:=s₀,H₀:=H₀,env:=compEnvC scope cl C X.env,outer:=X.stack,stack:=X.stack,ex:=ex,fn:=fun _=>false,pn:=[],xe:=fun _ _=>False }
inductive rC (X:Cx):Ze->Za->Prop
 | nil:rC X [] []
 | cons {x:Str}{j:Nat}{xs:Ze}{js:Za}:X.N[j]?=some x->(X.env.kindOf x=some .cell∨X.env.kindOf x=some .free)->rC X xs js->rC X (x::xs) (j::js)
theorem rC.get {X:Cx}:∀ {xs:Ze}{js:Za}{i:Nat}{x:Str},rC X xs js->xs[i]?=some x->∃ j,js[i]?=some j/\X.N[j]?=some x/\(X.env.kindOf x=some .cell∨X.env.kindOf x=some .free)
 | _,_,_,_,.nil,e=>by simp at e
 | _,_,0,_,.cons a b _,e=>by simp at e;subst e;exact⟨_,rfl,a,b⟩
 | _,_,i+1,x,.cons _ _ t,e=>by obtain⟨j,h1,h2⟩:=rC.get (i:=i) (x:=x) t (by simpa using e);exact⟨j,by simpa using h1,h2⟩
theorem rC.len {X:Cx}:∀ {xs:Ze}{js:Za},rC X xs js->xs.length=js.length
 | _,_,.nil=>rfl
 | _,_,.cons _ _ t=>by rw[aN,aN,t.len]
def ic (k:Nat) (js:Za) (σ:St):St:=List.replicate k none++js.map fun j=>(σ[j]?).join
def PIf (X:Cx) (ifs:List Expr) (t:TT):Prop :=
 ∀ (Yp:Zp) (s:Zg) (σ:St) (H:Hp) (Q:Bool->Hp->Prop),Inv X Yp σ H s->t σ H Q →
  wpAny (model X.prog X.w) X.A (forIn ifs true fun c r=>if r=true then do let ok ←isTrue c X.env (eval c X.env);pure (ForInStep.yield ok) else pure (ForInStep.yield r)) (TP X Yp σ Q) X.xe s
def DS:TT:=fun _ H Q=>Q true H
def dv :PIf X [] DS:=fun _ _ _ H _ I h=>wpAny_tests_nil ⟨H,I,h⟩
def qw {c:Expr}{t:TT} (h:PT X c t):PIf X [c] t:=fun Yp s σ H Q I q=>wpAny_tests_one (h Yp s σ H Q I q)
section
variable {prog:Zh}{w:Zi}{A:Around}{R:Result->Zg->Prop}{s:Zg}
theorem sM {elt target iter:Expr}{ifs:List Expr}{scope:Scope}{pos:Pos}{it acc:Value}{env:Env} (I:Nat->Zg->Prop)
  (turn:∀ n s,I n s->wpAny (model prog w) A (pyNext it) (fun r s₁=>match r with
   | none=>R (.ok .next) s₁
   | some v=>wpAny (model prog w) A (letOwnedTupleGo target it v) (fun _ s₀=>wpAny (model prog w) A (assign target env v) (fun _ s₂ =>
     wpAny (model prog w) A (forIn ifs true fun c r=>if r=true then do let ok ←isTrue c env (eval c env);pure (ForInStep.yield ok) else pure (ForInStep.yield r)) (fun ok s₃ =>
      if ok=true then wpAny (model prog w) A (eval elt env) (fun x s₄ =>wpAny (model prog w) A (call (.builtin "list.append") [acc,x]) (fun _ s₅=>∃ m,m<n/\I m s₅) (fun _ _=>False) s₄) (fun _ _=>False) s₃
      else ∃ m,m<n/\I m s₃) (fun _ _=>False) s₂) (fun _ _=>False) s₀) (fun _ _=>False) s₁) (fun _ _=>False) s)
  (n:Nat) (h:I n s) :
  codeAny (model prog w) A (.compLoop (.ListComp elt [⟨target,iter,ifs,0⟩] scope pos) 0 it acc env) R s:=by
 refine codeAny_loop rfl I (fun n s hI=>?_) n h;show wpAny _ A ((compTurn (.ListComp elt [⟨target,iter,ifs,0⟩] scope pos) 0 it acc env).onRaise (fun x=>do noteFrame x env;theTreesLotGoes x)) _ _ s;refine wpAny_noted ?_;rw[compTurn_list];refine ag (wpAny_standAt (ag (bB (turn n s hI) (fun r s₁ h₁=>?_) fun _ _ h'=>h'.elim)));cases r with
 | none=>exact a8 h₁
 | some v =>
  refine ag (bB h₁ (fun _ s₀ h₀=>?_) fun _ _ h'=>h'.elim);refine ag (bB h₀ (fun _ s₂ h₂=>ag (bB h₂ (fun ok s₃ h₃=>?_) fun _ _ h'=>h'.elim)) fun _ _ h'=>h'.elim);cases ok with
  | false=>exact a8 ⟨rfl,h₃⟩
  | true =>exact ag (ag (bB h₃ (fun x s₄ h₄=>ag (bB h₄ (fun _ s₅ h₅=>a8 (a8 ⟨rfl,h₅⟩)) fun _ _ h'=>h'.elim)) fun _ _ h'=>h'.elim))
end
def gq (g:TG) (tc:TT) (te:TE) (σ':St) (J:It) (H1:Hp) (Q:VK):Prop :=
 ∀ D,H1 D=none->∃ W:Nat->Nat->List V->St->Hp->Prop,(∃ m,W 0 m [] σ' (upd H1 D (.lst [])))/\∀ i m ys σ1 H,W i m ys σ1 H->H D=some (.lst ys)/\ys.length<sizeLine ∧
  ((J.stop i H/\Q (.ref D) H)∨(J.go i H/\∀ x H',J.yld i H x H'->g x σ1 H' fun σ2 H2=>tc σ2 H2 fun b H3 =>if b=true then te σ2 H3 fun v H4=>H4 D=some (.lst ys)/\∃ m',m'<m/\W (i+1) m' (ys++[v]) σ2 (upd H4 D (.lst (ys++[v]))) else ∃ m',m'<m/\W (i+1) m' ys σ2 H3))
structure vB (X:Cx) (scope:Scope) (cl:List (Str×Addr)):Prop where
 clo:L2.clo X.env.cells scope.names []=some cl
 cell:∀ y∈scope.names,y.2≠.cell
 kind:scope.kind=.function
 names:∀ y∈scope.names,y.2=.local->scope.names.lookup y.1=some .local
section
variable {X:Cx}{Yp:Zp}{σ:St}{H1:Hp}{s₂:Zg}{E:Zq}
def Inv.J4 {N':Ze} (I:Inv X Yp σ H1 s₂) (B:vB X scope cl) (hC:s₂.heap.objs.size<=C) (hf:∀ b∈fp,lR X Yp H1 b)
  (ho:∀ b∈fp,∃ o,s₂.heap.get? b=some o):(X.blk N' scope cl C s₂ H1 fp).Ok:=by
 have sub:=oA scope.names [] cl B.clo (fun x c e=>by cases e);refine⟨I.ok.mod,B.kind,I.ok.glob,I.ok.blt,hC,fun x y c h1 h2=>I.ok.inj x y c (sub x c h1) (sub y c h2),fun x hx=>?_,fun x c h=>?_,I.ok.hd,I.ok.frames,.inl rfl,fun b hb=>⟨?_,fun x c e=>?_⟩,I.bs,
  bQ I.ok.bsz I.sz,fun b o e hb=>?_,fun b hb hs=>?_,I.stack,I.qK⟩
 ·have hx':(compEnvC scope cl C X.env).kindOf x=some .cell∨(compEnvC scope cl C X.env).kindOf x=some .free:=hx;have key:∀ k',(compEnvC scope cl C X.env).kindOf x=some k'->(k'=.cell∨k'=.free)->∃ c,cl.lookup x=some c:=fun k' e hk=>by
   have e':(scope.names.map fun (n,k)=>if (k==NameKind.free&&X.env.scope.kind==.function&&X.env.kindOf n==some .cell) then (n,NameKind.cell) else (n,k)).lookup x=some k':=e;rcases jk e' with q | ⟨_,q⟩
   ·rcases hk with rfl | rfl
    ·exact absurd rfl (B.cell _ q)
    ·exact oz scope.names [] cl B.clo x q
   ·exact oz scope.names [] cl B.clo x q
  rcases hx' with hx' | hx'
  ·exact key _ hx' (.inl rfl)
  ·exact key _ hx' (.inr rfl)
 ·exact absurd h bO
 ·obtain⟨o,e⟩:=ho b hb;exact bz (bE (aM e) hC)
 ·exact (hf b hb).2.2.2.2.1 x c (sub x c e)
 ·rcases (hf b hb).2.2.2.1 with z | z
  ·exact I.ok.noex b o e z
  ·exact absurd (bE (aM e) (bQ I.ok.bsz z)) (iM _)
 ·rcases aJ.mp (I.vg b hs) with z | z
  ·exact (hf b hb).2.1 z
  ·exact (hf b hb).2.2.1 z
def AR {elt target iter:Expr}{ifs:List Expr}{scope:Scope}{pos:Pos}{cl:List (Str×Addr)}{own frn:Ze}{js:Za}{g:TG}{tc:TT}{te:TE}{Q:VK}{it:Addr}{fp:List Addr}{tn:Nat->Heap->Prop}{J:It}
  {RR:Value->Addr->Result->Zg->Prop} (hc:X.calm=true) (B:vB X scope cl) (hfr:rC X frn js) (hloc:∀ x∈frn,scope.names.lookup x≠some .local)
  (hg:∀ C s₀ H₀ ex,PG (X.blk (own++frn) scope cl C s₀ H₀ ex) target g) (hi:∀ C s₀ H₀ ex,PIf (X.blk (own++frn) scope cl C s₀ H₀ ex) ifs tc) (he:∀ C s₀ H₀ ex,PE (X.blk (own++frn) scope cl C s₀ H₀ ex) elt te)
  (I:Inv X Yp σ H1 s₂) (T:Turn X.prog X.w X.K target J fp it tn) (st0:tn 0 s₂.heap) (hf:∀ b∈fp,lR X Yp H1 b) (hq:gq g tc te (ic own.length js σ) J H1 Q)
  (fin:∀ D C s' H' m,s₂.heap.objs.size<=C->Inv X Yp σ H' s'->s'.heap.Ns C m->lR X Yp H' C->Q (.ref D) H'->RR (.ref D) C (.ok .next) s') :
  wpAny (model X.prog X.w) X.A (newList []) (fun acc s₃=>wpAny (model X.prog X.w) X.A (newFunctionEnv scope X.env.globals cl [] X.env.qual none .none (some X.env)) (fun cenv s₄ =>codeAny (model X.prog X.w) X.A (.compStart (.ListComp elt [⟨target,iter,ifs,0⟩] scope pos) 0 (.ref it) acc { cenv with scope:=relabel scope X.env }) (RR acc cenv.locals) s₄) E s₃) E s₂:=by
 have sub:=oA scope.names [] cl B.clo (fun x c e=>by cases e);refine gm (wpAny_newFunctionEnv B.cell (by intro y hy;simp at hy) (fun h₁ hns₁ hsb₁=>?_) B.kind);dsimp only at hns₁ hsb₁ ⊢;generalize hH2:s₂.heap.push { cls:=.type "list",dict:=none,data:=.seq ([]:Zc).toArray }=H2 at hns₁ hsb₁ ⊢;have hC:H2.objs.size=s₂.heap.objs.size+1:=by rw[←hH2,hO]
 have hDC:s₂.heap.objs.size≠H2.objs.size:=by rw[hC];exact bz (jP _)
 have hCle:s₂.heap.objs.size<=H2.objs.size:=by rw[hC];exact jO _
 have below:∀ b,b<s₂.heap.objs.size->b≠H2.objs.size/\b≠s₂.heap.objs.size:=fun b hb=>⟨by rw[hC];exact bz (fj hb),bz hb⟩;have old:∀ b o,s₂.heap.get? b=some o->h₁.get? b=some o:=fun b o e=>hsb₁.extBut b o (below b (aM e)).1 (aL _ (hH2 ▸ aL _ e));have hacc:h₁.get? s₂.heap.objs.size=some { cls:=.type "list",dict:=none,data:=.seq ([]:Zc).toArray }:=hsb₁.extBut _ _ hDC (aL _ (hH2 ▸ bj _ rfl));have hfo:∀ b∈fp,∃ o,s₂.heap.get? b=some o/\∀ v,o.data≠.cell v:=T.obj 0 _ st0;have D0:H1 s₂.heap.objs.size=none:=I.hok.fresh (aq _);have C0:H1 H2.objs.size=none:=I.hok.fresh hCle;obtain⟨W,⟨m0,w0⟩,turn⟩:=hq _ D0;have okX:(X.blk (own++frn) scope cl H2.objs.size s₂ H1 fp).Ok:=I.J4 (N':=own++frn) B hCle hf fun b hb=>let ⟨o,e,_⟩:=hfo b hb;⟨o,e⟩;have I0:Inv (X.blk (own++frn) scope cl H2.objs.size s₂ H1 fp) [] (ic own.length js σ) (upd H1 s₂.heap.objs.size (.lst [])) { s₂ with heap:=h₁,toks:=s₂.toks+([]:List (Str×Value)).length }:=by
  obtain⟨m,hn,hl⟩:=id I.loc;refine⟨okX,rfl,I.bare,Un.laid old (aq _) D0,⟨_,hns₁,fun i x v e1 e2 e3=>?_⟩,fun x c e=>?_,?_,fun x c e=>?_,fun p hp=>?_,?_,?_⟩
  ·have e1:(own++frn)[i]?=some x:=e1;unfold ic at e2
   by_cases hik:i<own.length
   ·rw[gb (by simpa using hik),qS,ai hik] at e2;cases e2
   ·rw[gc (by simpa using hik),lD,bt] at e2;rw[gc (by left)] at e1;obtain⟨j,hj,hNj,hk⟩:=hfr.get e1;rw[hj] at e2;have e2':(σ[j]?).join=some v:=Option.some.inj e2;have e2'':σ[j]?=some (some v):=by
     cases q:σ[j]? with
     | none=>rw[q] at e2';cases e2'
     | some o=>rw[q] at e2';cases o with
      | none=>cases e2'
      | some y=>have:y=v:=Option.some.inj e2';rw[this]
    obtain⟨u,r,lk⟩:=hl j x v hNj e2'' (hk.elim (fun z=>.inr (.inl z)) fun z=>.inr (.inr z));refine⟨u,r,?_⟩;rcases lk with ⟨k1,_⟩ | ⟨_,c,hcl,hcell⟩
    ·rcases hk with z | z<;>(rw[k1] at z;cases z)
    ·have hx3:(compEnvC scope cl H2.objs.size X.env).kindOf x=some .local∨(compEnvC scope cl H2.objs.size X.env).kindOf x=some .cell∨(compEnvC scope cl H2.objs.size X.env).kindOf x=some .free:=e3;rcases hx3 with z | z
     ·exfalso;have z':(scope.names.map fun (n,k)=>if (k==NameKind.free&&X.env.scope.kind==.function&&X.env.kindOf n==some .cell) then (n,NameKind.cell) else (n,k)).lookup x=some .local:=z;rcases jk z' with q | ⟨q,_⟩
      ·exact hloc x (bw e1) (B.names _ q rfl)
      ·cases q
     ·obtain⟨c',hc'⟩:=okX.has x z;have q:=sub x c' hc';rw[hcl] at q;have q':c=c':=Option.some.inj q;subst q';refine .inr ⟨z,c,hc',?_⟩;obtain⟨o,ho,hd⟩:=hcell;exact⟨o,old _ _ ho,hd⟩
  ·obtain⟨v,o,ho,hd⟩:=I.cell x c (sub x c e);exact⟨v,o,old _ _ ho,hd⟩
  ·show upd H1 _ _ H2.objs.size=none;rw[az (cI hDC)];exact C0
  ·obtain⟨v,o,ho,hd⟩:=I.cell x c (sub x c e);rw[az (below c (aM ho)).2];exact I.freeC x c (sub x c e)
  ·cases hp
  ·exact I.hok.laid old (aq _) ⟨bH _,[],_,.nil,hacc⟩
  ·unfold ic;show _=(own++frn).length;rw[aK,aK,lD,ak,hfr.len]
 -- the iterator's objects in the block
 have fpx:∀ {H:Hp},(∀ b∈fp,H b=none)->∀ b∈fp,lR (X.blk (own++frn) scope cl H2.objs.size s₂ H1 fp) [] H b:=fun {H} hn b hb=>by
  obtain⟨f0,f1,f2,f3,f4,f5⟩:=hf b hb;obtain⟨o,e,_⟩:=hfo b hb;refine⟨hn b hb,(below b (aM e)).1,fun z=>?_,.inl hb,fun x c e=>f4 x c (sub x c e),fun p hp=>by cases hp⟩;rcases aJ.mp (I.vg b z) with z | z
  ·exact f1 z
  ·exact f2 z
 have st1:tn 0 h₁:=T.keep _ _ _ st0 fun b _ o e=>old b o e;have fr0:∀ b∈fp,upd H1 s₂.heap.objs.size (.lst []) b=none:=fun b hb=>by obtain⟨o,e,_⟩:=hfo b hb;rw[az (below b (aM e)).2];exact (hf b hb).1
 have loop:codeAny (model X.prog X.w) X.A (.compLoop (.ListComp elt [⟨target,iter,ifs,0⟩] scope pos) 0 (.ref it) (.ref s₂.heap.objs.size) (compEnvC scope cl H2.objs.size X.env))
   (RR (.ref s₂.heap.objs.size) H2.objs.size) { s₂ with heap:=h₁,toks:=s₂.toks+([]:List (Str×Value)).length }:=by
  refine sM (fun n s'=>∃ i ys σ1 H,Inv (X.blk (own++frn) scope cl H2.objs.size s₂ H1 fp) [] σ1 H s'/\tn i s'.heap/\(∀ b∈fp,H b=none)/\W i n ys σ1 H) ?_ m0 ⟨0,[],_,_,I0,st1,fr0,w0⟩;rintro n s3 ⟨i,ys,σ3,H3,I3,st3,fr3,w3⟩;obtain⟨hD3,hsz,alt⟩:=turn i n ys σ3 H3 w3;rcases alt with ⟨stop,qn⟩ | ⟨go,step⟩
  ·refine thn (T.done (X.blk (own++frn) scope cl H2.objs.size s₂ H1 fp) rfl rfl rfl hc i [] s3 σ3 H3 _ I3 (fpx fr3) st3 stop) fun r s4 ⟨hr,I4⟩=>?_;subst hr;obtain⟨m,hn,_⟩:=id I4.loc;have hch:∀ b∈fp,(b∈X.ex∨X.s₀.heap.objs.size<=b)/\b≠X.env.locals/\(∀ x c,X.env.cells.lookup x=some c->c≠b)/\∀ p∈X.pn++Yp,p.1≠b:=fun b hb=>by
    obtain⟨f0,f1,f2,f3,f4,f5⟩:=hf b hb;exact⟨f3,f1,f4,f5⟩
   have IX:Inv X Yp σ H3 s4:=I.ue I4.os I4.base I4.hok I4.bare hch;exact fin _ _ s4 H3 m hCle IX hn (I.tI hCle I4.free) qn
  ·refine thn (T.item (X.blk (own++frn) scope cl H2.objs.size s₂ H1 fp) rfl rfl rfl hc i [] s3 σ3 H3 _ I3 (fpx fr3) st3 go) fun r s4 ⟨u,hr,h4⟩=>?_;subst hr;refine thn h4 fun _ s5 ⟨x,H5,I5,r5,y5,st5,fr5⟩=>?_;have I5':=I5.pinned (fpx fr5) (T.obj _ _ st5);refine thn (hg _ _ _ _ _ s5 σ3 H5 x u _ I5' r5 (step x H5 y5)) fun _ s6 ⟨σ6,H6,I6,q6⟩=>?_;refine thn (hi _ _ _ _ _ s6 σ6 H6 _ I6 q6) fun b s7 ⟨H7,I7,q7⟩=>?_;have again:∀ {ys':List V}{H8:Hp}{s8:Zg}{m':Nat},Inv (X.blk (own++frn) scope cl H2.objs.size s₂ H1 fp) ([]++pk fp s5.heap) σ6 H8 s8->m'<n->W (i+1) m' ys' σ6 H8 →
     ∃ m,m<n/\∃ i ys σ1 H,Inv (X.blk (own++frn) scope cl H2.objs.size s₂ H1 fp) [] σ1 H s8/\tn i s8.heap/\(∀ b∈fp,H b=none)/\W i m ys σ1 H:=fun {ys' H8 s8 m'} I8 hm w8=>by
    refine⟨m',hm,i+1,ys',σ6,H8,I8.iG,T.keep _ _ _ st5 fun b hb o e=>(I8.pin (b,o) (cA _ (cA _ (fA hb e)))).1,fun b hb=>?_,w8⟩;obtain⟨o,e,d⟩:=T.obj _ _ st5 b hb;exact (I8.pin (b,o) (cA _ (cA _ (fA hb e)))).2.1
   cases b with
   | false =>rw[af bO] at q7 ⊢;obtain⟨m',hm,w7⟩:=q7;exact again I7 hm w7
   | true =>rw[ai rfl] at q7 ⊢;refine thn (he _ _ _ _ _ s7 σ6 H7 _ I7 q7) fun v s8 ⟨y,H8,I8,r8,hD8,m',hm,w8⟩=>?_;refine thn (iq (X:=X.blk (own++frn) scope cl H2.objs.size s₂ H1 fp) _ s8 σ6 H8 (.ref s₂.heap.objs.size) [y] _ [v] (fun _ H9=>W (i+1) m' (ys++[y]) σ6 H9) I8 rfl (.cons r8 .nil) ⟨_,ys,y,rfl,rfl,hD8,hsz,w8⟩) fun _ s9 ⟨_,H9,I9,_,w9⟩=>?_;exact again I9 hm w9
 exact codeAny_compStart_list loop (T.self X.A 0 _ _ _ st1 loop)
end
def tLC (k:Nat) (js:Za) (wi:TI) (g:TG) (tc:TT) (te:TE):TE:=fun σ H Q=>wi σ H fun J H1=>gq g tc te (ic k js σ) J H1 Q
section
variable {X:Cx}
def jc {elt target iter:Expr}{ifs:List Expr}{pos:Pos}{wi:TI}{g:TG}{tc:TT}{te:TE} (own:Ze) (hc:X.calm=true) (B:vB X scope cl) (hfr:rC X frn js)
  (hloc:∀ x∈frn,scope.names.lookup x≠some .local) (hi:PI X target iter wi)
  (hg:∀ C s₀ H₀ ex,PG (X.blk (own++frn) scope cl C s₀ H₀ ex) target g) (hif:∀ C s₀ H₀ ex,PIf (X.blk (own++frn) scope cl C s₀ H₀ ex) ifs tc) (he:∀ C s₀ H₀ ex,PE (X.blk (own++frn) scope cl C s₀ H₀ ex) elt te)
  (hs:∀ x,foldedSetIterable iter X.env x=pure x:=by intro _;rfl):PE X (.ListComp elt [⟨target,iter,ifs,0⟩] scope pos) (tLC own.length js wi g tc te):=by
 intro Yp s σ H Q I h;rw[eval_ListComp];refine wpAny_comprehension_free (use:=none) rfl hs (gJ B.clo) B.kind B.names (thn (hi Yp s σ H _ I h) fun v s1 h1=>thn h1 fun itv s2 h2=>?_);obtain⟨it,fp,tn,J,H2,e,I2,T,st2,f2,hq⟩:=h2;subst e;refine AR (RR:=fun acc C=>compPost (model X.prog X.w) X.A X.xe none (EP X Yp σ Q) acc C) hc B hfr hloc hg hif he I2 T st2 f2 hq ?_;intro D C s' H' m hC I' hn fC q;exact⟨m,hn,fun h' sb=>⟨.ref D,H',I'.turned (t':=s'.toks) (fun b o hb e=>(sb.2 b hb).trans e) fC.1 fC.2.1 fC.2.2.2.1 fC.2.2.2.2.1 fC.2.2.2.2.2,rfl,q⟩⟩
def j6 {elt target iter:Expr}{ifs:List Expr}{scope:Scope}{pos py spos:Pos}{y:Str}{cl:List (Str×Addr)}{frn:Ze}{js:Za}{wi:TI}{g:TG}{tc:TT}{te:TE} (own:Ze) (hN:X.N.Nodup) (hiy:X.N[i]?=some y)
  (hy:Loc X.env.scope y) (hc:X.calm=true) (B:vB X scope cl) (hfr:rC X frn js)
  (hloc:∀ x∈frn,scope.names.lookup x≠some .local) (hi:PI X target iter wi)
  (hg:∀ C s₀ H₀ ex,PG (X.blk (own++frn) scope cl C s₀ H₀ ex) target g) (hif:∀ C s₀ H₀ ex,PIf (X.blk (own++frn) scope cl C s₀ H₀ ex) ifs tc) (he:∀ C s₀ H₀ ex,PE (X.blk (own++frn) scope cl C s₀ H₀ ex) elt te)
  (hsw:swapsWith (.ListComp elt [⟨target,iter,ifs,0⟩] scope pos) (some (.Name y py)) spos.line X.env=pure true:=by rfl)
  (hs:∀ x,foldedSetIterable iter X.env x=pure x:=by intro _;rfl)
  (hf:X.fn y=true∨X.env.scope.names.lookup y=some .local:=by first | exact .inl rfl | exact .inr rfl | assumption) :
  PS X (.Assign [.Name y py] (.ListComp elt [⟨target,iter,ifs,0⟩] scope pos) spos) (DR (tLC own.length js wi g tc te) (gK i)):=by
 intro Yp s σ H D I h;rw[exec_Assign_Name_used _ _ _ _ hsw];refine ag (wpAny_standAt (ag ?_));show wpAny _ X.A (do let _ ←comprehension (.ListComp elt [⟨target,iter,ifs,0⟩] scope pos) scope X.env _ (newList []) false (eval iter X.env) (some (assign (.Name y py) X.env))) _ _ s;refine ag (bB (wpAny_comprehension_free (use:=some (assign (.Name y py) X.env)) (Q:=fun _ s'=>SP X Yp D .next s') rfl hs (gJ B.clo) B.kind B.names
  (thn (hi Yp s σ H _ I h) fun v s1 h1=>thn h1 fun itv s2 h2=>?_)) (fun _ s' hq=>a8 (a8 hq)) fun _ _ e=>e)
 obtain⟨it,fp,tn,J,H2,e,I2,T,st2,f2,hq⟩:=h2;subst e;refine AR (Q:=fun x H1=>D.nx (σ.set i (some x)) H1) (RR:=fun acc C=>compPost (model X.prog X.w) X.A X.xe (some (assign (.Name y py) X.env)) (fun _ s'=>SP X Yp D .next s') acc C) hc B hfr hloc hg hif he I2 T st2 f2 hq ?_;intro L C s' H' m hC I' hn fC q;show wpAny _ X.A (assign (.Name y py) X.env (.ref L)) _ _ _;refine wpAny_assign_Name (wj (v:=.ref L) I' hN hiy hy rfl (fun s'' I'' ⟨a,sb,ha⟩=>?_) hf);have hCa:C≠a:=by
  rcases ha with z | z
  ·rw[z];exact fC.2.1
  ·exact fun e=>fC.2.2.2.2.1 y a z e.symm
 exact⟨m,hn.sameBut sb hCa,fun h' sb'=>⟨_,H',I''.turned (t':=s''.toks) (fun b o hb e=>(sb'.2 b hb).trans e) fC.1 fC.2.1 fC.2.2.2.1 fC.2.2.2.2.1 fC.2.2.2.2.2,q⟩⟩
end
def It.Seq (J:It) (H1:Hp) (xs:List V):Prop :=
 ∀ H,ax H1 H->(∀ i x,xs[i]?=some x->J.go i H/\∀ y H',J.yld i H y H'->H'=H/\y=x)/\∀ i,xs.length<=i->J.stop i H
def fX (h:SqL K H1 a xs):(Itl K a).Seq H1 xs:=fun H s =>⟨fun i x e=>⟨⟨xs,x,s.seq h,e⟩,fun y H' ⟨e1,e2⟩=>⟨e1,Option.some.inj ((e2 xs (s.seq h)).symm.trans e)⟩⟩,fun i hi=>⟨xs,s.seq h,hi⟩⟩
def we {n:Nat}:(Itr lo n).Seq H1 ((List.range n).map fun (k:Nat)=>V.int (lo+(k:Int))):=fun H s=>by
 refine⟨fun i x e=>?_,fun i hi=>?_⟩
 ·have hi:i<n:=by
   have:=(bN.mp e).1
   simpa using this
  rw[bt,qR hi] at e;have e':V.int (lo+(i:Int))=x:=Option.some.inj e;exact⟨hi,fun y H' ⟨e1,e2⟩=>⟨e1,by rw[e2,e']⟩⟩
 ·show n<=i
  simpa using hi
def ax.gu {H H':Hp} (h:ax H H') (hn:H a=none):ax H (upd H' a o):=fun b u e=>by rw[az (bK e hn)];exact h b u e
def zZ {js:Za}{σ:St}{tc:TT}{te:TE}{Q:VK} (hJ:J.Seq H1 xs) (hl:xs.length<sizeLine) (p:V->Bool) (f:V->V)
  (hc:∀ x∈xs,∀ H,ax H1 H->∀ R:Bool->Hp->Prop,(∀ H',ax H H'->R (p x) H')->tc (some x::js.map fun j=>(σ[j]?).join) H R)
  (he:∀ x∈xs,p x=true->∀ H,ax H1 H->∀ R:VK,(∀ H',ax H H'->R (f x) H')->te (some x::js.map fun j=>(σ[j]?).join) H R)
  (q:∀ D H,H1 D=none->ax H1 H->H D=some (.lst ((xs.filter p).map f))->Q (.ref D) H):gq (gK 0) tc te (ic 1 js σ) J H1 Q:=by
 intro D hD;refine⟨fun i m ys σ1 H=>m=xs.length-i/\i<=xs.length/\(∃ o,σ1=o::js.map fun j=>(σ[j]?).join)/\ys=((xs.take i).filter p).map f/\ax H1 H/\H D=some (.lst ys),
  ⟨xs.length,by simp,bH _,⟨none,rfl⟩,by simp,(ax.refl H1).gu hD,aB⟩,?_⟩
 rintro i m ys σ1 H ⟨rfl,hi,⟨o,rfl⟩,rfl,sH,hL⟩;have hlen:(((xs.take i).filter p).map f).length<sizeLine:=by
  rw[ak];have h1:=lC p (xs.take i);have h2:(xs.take i).length<=xs.length:=by rw[fK];left
  left
 refine⟨hL,hlen,?_⟩
 by_cases hlt:i<xs.length
 ·have e:xs[i]?=some xs[i]:=by simp [hlt]
  obtain⟨go,yl⟩:=(hJ H sH).1 i xs[i] e;refine .inr ⟨go,fun x H' y=>?_⟩;obtain⟨e1,e2⟩:=yl x H' y;subst e1 e2;have hm:xs[i]∈xs:=nS hlt;have htk:xs.take (i+1)=xs.take i++[xs[i]]:=by rw[hV,e];rfl
  show tc (some xs[i]::js.map fun j=>(σ[j]?).join) H' _;refine hc xs[i] hm H' sH _ fun H3 s3=>?_;cases hp:p xs[i] with
  | false =>rw[af bO];refine⟨xs.length-(i+1),by left,rfl,hlt,⟨_,rfl⟩,?_,sH.trans s3,s3 _ _ hL⟩;rw[htk,qP];simp [hp]
  | true =>rw[ai rfl];refine he xs[i] hm hp H3 (sH.trans s3) _ fun H4 s4=>?_;refine⟨s4 _ _ (s3 _ _ hL),xs.length-(i+1),by left,rfl,hlt,⟨_,rfl⟩,?_,((sH.trans s3).trans s4).gu hD,aB⟩;rw[htk,qP];simp [hp]
 ·have e:i=xs.length:=by left
  subst e;refine .inl ⟨(hJ H sH).2 _ (aq _),q D H hD sH ?_⟩;rw[List.take_length] at hL;exact hL
def KP {js:Za}{σ:St}{te:TE}{Q:VK} (hJ:J.Seq H1 xs) (hl:xs.length<sizeLine) (f:V->V)
  (he:∀ x∈xs,∀ H,ax H1 H->∀ R:VK,(∀ H',ax H H'->R (f x) H')->te (some x::js.map fun j=>(σ[j]?).join) H R)
  (q:∀ D H,H1 D=none->ax H1 H->H D=some (.lst (xs.map f))->Q (.ref D) H):gq (gK 0) DS te (ic 1 js σ) J H1 Q :=
 zZ hJ hl (fun _=>true) f (fun x _ H _ R hR=>hR H (ax.refl H)) (fun x hx _ H s R hR=>he x hx H s R hR) fun D H h1 h2 h3=>q D H h1 h2 (by rw[nO.mpr (fun _ _=>rfl)] at h3;exact h3)
end
section
section
variable {X:Cx}
def Hv (i j:Int):Prop:=i.natAbs<2^1000/\j.natAbs<2^1000
def IQ:OpR X (binaryOp .Mult) (rI Hv fun i j=>.int (i*j)):=opI fun _ _ _ _ _ _ _ hc q =>mul_int q (IntMulOk.of_bits (bQ (intBits_le_iff.mpr hc.1) Zd) (bQ (intBits_le_iff.mpr hc.2) Zd))
def LM (_ j:Int):Prop:=0<j/\j<2^1000
def FW:OpR X (binaryOp .FloorDiv) (rI LM fun i j=>.int (i/j)):=opI fun i j _ _ _ _ _ hc q=>by
 have h1:(0:Int)<j:=hc.1;have h2:j<2^1000:=hc.2;have h3:j.natAbs<2^1000:=by
  have e:((j.natAbs:Nat):Int)=j:=Int.natAbs_of_nonneg (by left);have e2:((2^1000:Nat):Int)=(2:Int)^1000:=by rw[Int.natCast_pow];rfl
  left
 refine floordiv_int (by left) (by rw[Int.fdiv_eq_ediv_of_nonneg i (by left)];exact q) (.inl (PyProof.noPylong_of_log2 ?_));have h4:j.natAbs≠0:=by left
 exact bE ((Nat.log2_lt h4).mpr h3) Zd
def FX:OpR X (compareOp .Is) (fun x y H Q=>∃ a b,x=.bl a/\y=.bl b/\Q (.bl (a==b)) H):=by intro Yp s σ H x y v u Q I rx ry h;obtain⟨a,b,rfl,rfl,q⟩:=h;cases rx;cases ry;exact is_bool (bY I q rfl)
def yK:OpR X (compareOp .IsNot) (fun x y H Q=>∃ a b,x=.bl a/\y=.bl b/\Q (.bl (a != b)) H):=by intro Yp s σ H x y v u Q I rx ry h;obtain⟨a,b,rfl,rfl,q⟩:=h;cases rx;cases ry;exact isnot_bool (bY I q rfl)
def Nj (K:Zf):List V->Hp->VK->Prop:=fun xs H Q=>∃ x t c b,xs=[x,.ty c]/\oS K H x t/\PySem.W.kitOne K t (.type c)=some b/\Q (.bl b) H
def E9:cS X (.builtin "isinstance") (Nj X.K):=by intro Yp s σ H xs us Q I r h;obtain⟨x,t,c,b,rfl,ty,e,q⟩:=h;obtain⟨u,w',rfl,ru,rw'⟩:=vals2 r;obtain rfl:w'=Value.type c:=rw';exact isinst_ok I ru ty e fun tk=>⟨.bl b,H,I.tok tk,rfl,q⟩
def oW:List V->List V->Bool
 | [],[]=>true
 | x::xs,y::ys=>eqV x y&&oW xs ys
 | _,_=>false
theorem mI:∀ {xs ys:List V},xs.length≠ys.length->oW xs ys=false
 | [],[],h=>absurd rfl h
 | [],_::_,_=>rfl
 | _::_,[],_=>rfl
 | x::xs,y::ys,h=>by have h':xs.length≠ys.length:=fun e=>h (by rw[aN,aN,e]);show (eqV x y&&oW xs ys)=false;rw[mI h',Bool.and_false]
theorem oX:∀ {xs ys:List V},xs.length=ys.length->(List.range xs.length).all (fun j=>eqV (xs.getD j .non) (ys.getD j .non))=oW xs ys
 | [],[],_=>rfl
 | [],_::_,h=>by cases h
 | _::_,[],h=>by cases h
 | x::xs,y::ys,h=>by
  have h':xs.length=ys.length:=by simpa using h
  rw[aN,List.range_succ_eq_map,jJ,fY];show (eqV x y&&(List.range xs.length).all (fun j=>eqV (xs.getD j .non) (ys.getD j .non)))=(eqV x y&&oW xs ys);rw[oX h']
def Dg (xs:Zb):(xs.map V.int).all dZ=true:=by rw[bP];intro v hv;obtain⟨i,_,rfl⟩:=aD.mp hv;rfl
def Mw (K:Zf) (neg:Bool):R2:=fun x y H Q=>∃ a b xs ys,x=.ref a/\y=.ref b/\SqL K H a xs/\SqL K H b ys/\xs.all dZ=true/\ys.all dZ=true/\Q (.bl (if neg then !oW xs ys else oW xs ys)) H
def um {A:Around}{s:Zg}{xs ys:List V}{us vs:Zc} (r1:Vals xs us) (r2:Vals ys vs) (f1:xs.all dZ=true) (f2:ys.all dZ=true) (j:Nat) (h1:j<us.toArray.size) (h2:j<vs.toArray.size) :
  SeqAt.EqAt A s us.toArray[j] vs.toArray[j] (eqV (xs.getD j .non) (ys.getD j .non)):=by
 have l1:=r1.length;have l2:=r2.length;rw[aZ] at h1 h2;have e1:xs[j]?=some (xs[j]'(by left)):=by simp [show j<xs.length by left]
 have e2:ys[j]?=some (ys[j]'(by left)):=by simp [show j<ys.length by left]
 obtain⟨u,hu,ru⟩:=r1.get e1;obtain⟨v,hv,rv⟩:=r2.get e2;have hu':us.toArray[j]=u:=by
  have:=bN.mp hu
  simpa using this.2
 have hv':vs.toArray[j]=v:=by
  have:=bN.mp hv
  simpa using this.2
 rw[hu',hv',cp,cp,e1,e2];exact oV ru rv (bP.mp f1 _ (nS _)) (bP.mp f2 _ (nS _))
def Lb (hu:X.A.units<cLine):OpR X (compareOp .Eq) (Mw X.K false):=by
 intro Yp s σ H x y v u Q I rx ry h;obtain⟨a,b,xs,ys,rfl,rfl,ha,hb,f1,f2,q⟩:=h;cases rx;cases ry;obtain⟨us,r1,p1,_⟩:=I.list ha;obtain⟨vs,r2,p2,_⟩:=I.list hb;have l1:=r1.length;have l2:=r2.length
 by_cases hl:xs.length=ys.length
 ·refine SeqAt.eq_listAt p1.isList p2.isList (by simp only[aZ];left) hu (fun j h1 h2=>um r1 r2 f1 f2 j h1 h2) ⟨.bl _,H,I,rfl,?_⟩;rw[aZ,←l1,oX hl];exact q
 ·refine SeqAt.eq_list_lengthsAt p1.isList p2.isList (by simp only[aZ,bne_iff_ne,ne_eq];left) hu ⟨.bl _,H,I,rfl,?_⟩;have e:=mI hl;rw[af bO,e] at q;exact q
def Lj (hu:X.A.units<cLine):OpR X (compareOp .NotEq) (Mw X.K true):=by
 intro Yp s σ H x y v u Q I rx ry h;obtain⟨a,b,xs,ys,rfl,rfl,ha,hb,f1,f2,q⟩:=h;cases rx;cases ry;obtain⟨us,r1,p1,_⟩:=I.list ha;obtain⟨vs,r2,p2,_⟩:=I.list hb;have l1:=r1.length;have l2:=r2.length
 by_cases hl:xs.length=ys.length
 ·refine SeqAt.RcNeAt.lists p1.isList p2.isList (by simp only[aZ];left) hu (fun j h1 h2=>um r1 r2 f1 f2 j h1 h2) _ _ _ _ ⟨.bl _,H,I,rfl,?_⟩;rw[aZ,←l1,oX hl];exact q
 ·refine SeqAt.RcNeAt.lists_lengths p1.isList p2.isList (by simp only[aZ,bne_iff_ne,ne_eq];left) hu _ _ _ _ ⟨.bl _,H,I,rfl,?_⟩;have e:=mI hl;rw[ai rfl,e] at q;exact q
theorem Vals.bools:∀ {bs:List Bool}{us:Zc},Vals (bs.map V.bl) us->us=bs.map Value.bool
 | [],_,.nil=>rfl
 | b::bs,_::_,.cons r t=>by
  cases (show _=Value.bool b from r)
  rw[bp,Vals.bools t]
def all_range (bs:List Bool):(List.range bs.length).all (fun i=>bs.getD i false)=bs.all id:=by
 induction bs with
 | nil=>rfl
 | cons b r ih =>rw[aN,List.range_succ_eq_map,jJ,fY,jJ];show (b&&(List.range r.length).all (fun i=>r.getD i false))=_;rw[ih];rfl
def zf (bs:List Bool) (A:Around) (P:Zh) (w:Zi):TruthOf P w A (fun i v=>(bs.map Value.bool).toArray[i]?=some v) (fun i=>bs.getD i false):=fun i v s Q E hP hQ=>by
 have e:(bs[i]?).map Value.bool=some v:=by simpa using hP
 cases q:bs[i]? with
 | none=>rw[q] at e;cases e
 | some b =>
  rw[q] at e;have e':Value.bool b=v:=Option.some.inj e;subst e';have hb:bs.getD i false=b:=by rw[cp,q];rfl
  have hQ':Q (bs.getD i false) s:=hQ;rw[hb] at hQ';exact ib hQ'
def Mv (K:Zf):List V->Hp->VK->Prop:=fun vs H Q=>∃ (a:Addr) (bs:List Bool),vs=[.ref a]/\SqL K H a (bs.map V.bl)/\Q (.bl (bs.all id)) H
def Cq (hc:X.calm=true):cS X (.builtin "all") (Mv X.K):=by
 intro Yp s σ H xs us Q I r h;obtain⟨a,bs,rfl,hq,q⟩:=h;obtain⟨u,rfl,ru⟩:=vals1 r;cases ru;obtain⟨its,rv,p,hz⟩:=I.list hq;obtain rfl:=rv.bools;have ha:a<s.heap.objs.size:=by obtain⟨o,e,_⟩:=p.isList;exact aM e
 refine call_all_walk (wpAny_pyIter_list p.isList ⟨s.heap.objs.size,_,_,_,_,_,fun i=>bs.getD i false,rfl,Walks.list (A:=X.A.in1) (I.ok.hd hc) _ a (bz ha) _,⟨⟨_,bj _ rfl,rfl,rfl⟩,p.isList.push _⟩,zf bs _ _ _,fun h' tk hk=>?_⟩);refine⟨.bl (bs.all id),H,I.kept fun b o e=>hk b o (fun z=>?_) (aL _ e),?_,q⟩
 ·have z':b=s.heap.objs.size:=by simpa using z
  exact absurd (aM e) (by rw[z'];exact iM _)
 ·show Value.bool _=Value.bool _;rw[←all_range bs];simp
def M6 (K:Zf):List V->Hp->VK->Prop:=fun vs H Q=>∃ (a:Addr) (ns:Zb),vs=[.ref a]/\SqL K H a (ns.map V.int)/\Q (.int ns.sum) H
def CB (hc:X.calm=true):cS X (.builtin "sum") (M6 X.K):=by intro Yp s σ H xs us Q I r h;obtain⟨a,ns,rfl,hq,q⟩:=h;obtain⟨u,rfl,ru⟩:=vals1 r;cases ru;obtain⟨its,rv,p,hz⟩:=I.list hq;have hi:IntsAre its ns:=intsAre_of rv;obtain⟨zs,hzs⟩:=hi.allInts.items;have hl:=p.isList;rw[hzs] at hl;refine sum_intListG (I.ok.hd hc) hl fun h' tk t' hk=>⟨.int ns.sum,H,I.kept hk,⟨t',?_⟩,q⟩;have e1:numsOf (intItems zs).toList=zs.toList.map (·.1):=nums_intItems zs;rw[←hzs] at e1;have e2:numsOf its=ns:=hi.numsOf;rw[preSum_eq,di (by simp),←e1];show Value.int (numsOf its).sum t'=_;rw[e2]
def M5:List V->Hp->VK->Prop:=fun vs H Q=>∃ j:Int,vs=[.int j]/\∀ p,H p=none->Q (.ref p) (upd H p (.rng 0 j))
def Cz:cS X (.type "range") M5:=by intro Yp s σ H xs us Q I r h;obtain⟨j,rfl,q⟩:=h;obtain⟨u,rfl,t,rfl⟩:=vals1 r;refine call_range_1 ?_;exact⟨.ref s.heap.objs.size,_,I.laid (fun b ob e=>aL _ e) (aq _) (show bT X.prog X.w _ _ _ (.rng 0 j) from ⟨_,_,_,bj _ rfl⟩),rfl,q _ (I.hok.fresh (aq _))⟩
def xA (lo:Int) (n:Nat):List V:=(List.range n).map fun (k:Nat)=>V.int (lo+(k:Int))
def AL {n:Nat}{acc:Array Value} (h:ItemsOf (fun (i:Nat) v=>∃ t,v=Value.int (lo+(i:Int)*1) t) acc n):Vals (xA lo n) acc.toList:=by
 obtain⟨hs,hi⟩:=h;have key:∀ (xs:Zc) (m:Nat),(∀ j v,xs[j]?=some v->∃ t,v=Value.int (lo+((m+j:Nat):Int)) t)->Vals ((List.range' m xs.length).map fun (k:Nat)=>V.int (lo+(k:Int))) xs:=by
  intro xs
  induction xs with
  | nil=>intro m _;exact .nil
  | cons x r ih =>
   intro m hx;rw[aN,List.range'_succ,bp];refine .cons ?_ (ih (m+1) fun j v e=>?_)
   ·obtain⟨t,e⟩:=hx 0 x rfl;exact⟨t,by simpa using e⟩
   ·obtain⟨t,e'⟩:=hx (j+1) v (by simpa using e);exact⟨t,by rw[e'];congr 2;left⟩
 have:=key acc.toList 0 fun j v e=>by obtain⟨t,e'⟩:=hi j v (by simpa using e);exact⟨t,by rw[e',Int.mul_one,Nat.zero_add]⟩
 rw[jq,hs,←List.range_eq_range'] at this;exact this
def GB:List V->Hp->VK->Prop:=fun vs H Q=>∃ a lo hi,vs=[.ref a]/\H a=some (.rng lo hi)/\(-(2^62)<=lo/\lo<2^62/\-(2^62)<=hi/\hi<2^62)/\(hi-lo).toNat<=2^20/\∀ p,H p=none->Q (.ref p) (upd H p (.lst (xA lo (hi-lo).toNat)))
def wC (hc:X.calm=true):cS X (.type "list") GB:=by
 intro Yp s σ H xs us Q I r h;obtain⟨a,lo,hi,rfl,ha,⟨h1,h2,h3,h4⟩,hn,q⟩:=h;obtain⟨u,rfl,ru⟩:=vals1 r;cases ru;obtain⟨t,u,v,e⟩:=(show bT X.prog X.w H s.heap a (.rng lo hi) from I.hok a _ ha);refine call_list_range (n:=(hi-lo).toNat) (I.ok.hd hc) e (small_one h1 h2 h3 h4) (by rw[rangeSize_one];split<;>left) (by left) fun h' tk acc c hk hS hacc=>?_;have hv:=AL hacc;have hlen:(xA lo (hi-lo).toNat).length<=sizeLine:=by unfold xA;rw[ak,jL];exact bQ hn Zd
 exact⟨.ref s.heap.objs.size,_,I.laid hk (aq _) (show bT X.prog X.w _ _ _ (.lst (xA lo (hi-lo).toNat)) from ⟨hlen,acc.toList,c,hv,by simpa using hS⟩),rfl,q _ (I.hok.fresh (aq _))⟩
def Inv.BU {t':Nat} (I:Inv X Yp σ H s) (hf:∀ b∈ch,lR X Yp H b) (k:∀ b o,b∉ch->s.heap.get? b=some o->h'.get? b=some o) :
  Inv X Yp σ H { s with heap:=h',toks:=t' }:=by
 have nch:∀ b u,H b=some u->b∉ch:=fun b u e z=>by rw[(hf b z).1] at e;cases e
 refine I.step (g':=s.gens) (d':=s.drawn) (ch:=ch) (fun b hb=>?_) (fun b o _ _ hc e _=>k b o hc e) (fun b o _ _ hc e _=>⟨o.slots,k b o hc e⟩) (fun _ _ _ _ n=>n) (fun b o hc e=>⟨o,k b o hc e⟩) (fun _ _ e=>e) (fun _ _ _ e=>e)
  (fun b ps e=>⟨#[],by rw[e];simp⟩) (fun m hm=>?_) (fun b u e=>?_) I.bare
 ·obtain⟨_,f1,_,f3,f4,f5⟩:=hf b hb;exact⟨f3,f1,f4,f5⟩
 ·obtain⟨o,es,ep,ho,r⟩:=hm;exact⟨o,es,ep,k _ o (fun z=>(hf _ z).2.1 rfl) ho,r⟩
 ·refine (I.hok b u e).pL (fun c v hc q=>k c v ?_ q) (fun _ q=>q) fun _ _ q=>q;rcases hc with z | z
  ·rw[z];exact nch b u e
  ·exact nch c _ z
def Inv.BV {h':Heap}{t':Nat}{T:Addr}{o':HO} (I:Inv X Yp σ H s) (hf:∀ b∈ch,lR X Yp H b)
  (k:∀ b o,b∉ch->s.heap.get? b=some o->h'.get? b=some o) (hk2:∀ b o,s.heap.get? b=some o->∃ o',h'.get? b=some o') (hT:s.heap.objs.size<=T) (new:bT X.prog X.w (upd H T o') h' T o') :
  Inv X Yp σ (upd H T o') { s with heap:=h',toks:=t' }:=by
 have nch:∀ b u,H b=some u->b∉ch:=fun b u e z=>by rw[(hf b z).1] at e;cases e
 have hTn:H T=none:=I.hok.fresh hT;have neT:∀ b o,s.heap.get? b=some o->b≠T:=fun b o e=>bz (bE (aM e) hT);refine I.step (g':=s.gens) (d':=s.drawn) (ch:=ch) (fun b hb=>?_) (fun b o _ _ hc e _=>k b o hc e) (fun b o _ _ hc e _=>⟨o.slots,k b o hc e⟩) (fun b o _ e n=>by rw[az (neT b o e)];exact n) (fun b o hc e=>⟨o,k b o hc e⟩)
  (fun b xs e=>by rw[az (bK e hTn)];exact e) (fun b u xs e=>by rw[az (bK e hTn)];exact e) (fun b ps e=>⟨#[],by rw[az (bK e hTn),e];simp⟩) (fun m hm=>?_) (fun b u e=>?_) I.bare
 ·obtain⟨_,f1,_,f3,f4,f5⟩:=hf b hb;exact⟨f3,f1,f4,f5⟩
 ·obtain⟨o,es,ep,ho,r⟩:=hm;exact⟨o,es,ep,k _ o (fun z=>(hf _ z).2.1 rfl) ho,r⟩
 ·by_cases hb:b=T
  ·subst hb;rw[aB] at e;cases e;exact new
  ·rw[az hb] at e;refine (I.hok b u e).pL (fun c v hc q=>k c v ?_ q) (fun c q=>by rw[az (bK q hTn)];exact q) fun c xs q=>by rw[az (bK q hTn)];exact q
   rcases hc with z | z
   ·rw[z];exact nch b u e
   ·exact nch c _ z
end
def Itz (K:Zf) (a b:Addr):It :=
 ⟨fun i H=>∃ xs ys x y,SqL K H a xs/\SqL K H b ys/\xs[i]?=some x/\ys[i]?=some y,
  fun i H v H'=>∃ x y p,(∀ xs,SqL K H a xs->xs[i]?=some x)/\(∀ ys,SqL K H b ys->ys[i]?=some y)/\v=.ref p/\H p=none/\H'=upd H p (.tup [x,y]),
  fun i H=>∃ xs ys,SqL K H a xs/\SqL K H b ys/\(xs.length<=i∨ys.length<=i)⟩
def BY {a b z TI TO i1 i2:Addr} (st:IsZip h z TI TO .none/\IsPair h TI (.ref i1) (.ref i2)/\(∃ x y,IsPair h TO x y)/\h.IsListIter i1 a i/\h.IsListIter i2 b i):∀ c∈[z,TI,TO,i1,i2],∃ o,h.get? c=some o/\∀ v,o.data≠.cell v:=fun c hc=>by
 obtain⟨hz,hTI,⟨x,y,hTO⟩,⟨o1,e1,c1,d1⟩,⟨o2,e2,c2,d2⟩⟩:=st;simp only[aJ,dh,dm] at hc;rcases hc with rfl | rfl | rfl | rfl | rfl
 ·exact⟨_,hz,fun v q=>by have q':Data.fields _=Data.cell v:=q;cases q'⟩
 ·exact⟨_,hTI,fun v q=>by have q':Data.seq _ _=Data.cell v:=q;cases q'⟩
 ·exact⟨_,hTO,fun v q=>by have q':Data.seq _ _=Data.cell v:=q;cases q'⟩
 ·exact⟨o1,e1,fun v q=>by rw[d1] at q;cases q⟩
 ·exact⟨o2,e2,fun v q=>by rw[d2] at q;cases q⟩
def Hn {k:Nat} (a b z TI TO i1 i2:Addr) (D:ZipApart z TI TO i1 i2 a b):Turn P w K (.Tuple elts k pos) (Itz K a b) [z,TI,TO,i1,i2] z
  (fun i h=>IsZip h z TI TO .none/\IsPair h TI (.ref i1) (.ref i2)/\(∃ x y,IsPair h TO x y)/\h.IsListIter i1 a i/\h.IsListIter i2 b i) where
 mem:=by simp
 obj:=fun i h st=>BY st
 keep:=fun i h h' st k=>by obtain⟨hz,hTI,⟨x,y,hTO⟩,h1,h2⟩:=st;exact⟨k z (by simp) _ hz,k TI (by simp) _ hTI,⟨x,y,k TO (by simp) _ hTO⟩,h1.at fun o e=>k i1 (by simp) o e,h2.at fun o e=>k i2 (by simp) o e⟩
 item:=by
  intro X hP hw hK hc i Yp s σ H E I hf st hg;subst hP hw hK;obtain⟨xs,ys,x,y,hx,hy,ex,ey⟩:=hg;obtain⟨us,r1,p1,_⟩:=I.list hx;obtain⟨vs,r2,p2,_⟩:=I.list hy;obtain⟨u,hu,ru⟩:=r1.get ex;obtain⟨v,hv,rv⟩:=r2.get ey;obtain⟨hz,hTI,⟨ta,tb,hTO⟩,h1,h2⟩:=id st;refine wpAny_pyNext_zip_item D hz hTI hTO h1 h2 p1.isList p2.isList (x:=u) (y:=v) (by simpa using hu) (by simpa using hv) fun h' a1 a2 a3 a4 a5 a6 a7=>?_;refine⟨_,rfl,wpAny_letOwnedTupleGo_zip (s:={ s with heap:=h' }) a1 fun h'' b1 b2=>?_⟩;have b2':Heap.SameBut z h' h'':=b2;have ne:∀ c∈[z,TI,TO,i1,i2],c<s.heap.objs.size:=fun c hc=>by obtain⟨o,e,_⟩:=BY st c hc;exact aM e
  have kk:∀ c o,c∉[z,TI,TO,i1,i2]->s.heap.get? c=some o->h''.get? c=some o:=fun c o hc e=>by simp only[aJ,dh,dm,not_or] at hc;exact (b2'.2 c hc.1).trans (a7 c o hc.1 hc.2.2.1 hc.2.2.2.1 hc.2.2.2.2 e)
  have hT:h''.get? s.heap.objs.size=some { cls:=.type "tuple",data:=.seq #[u,v] }:=(b2'.2 _ (lF (ne z (by simp)))).trans a5;have I1:Inv X Yp σ (upd H s.heap.objs.size (.tup [x,y])) { s with heap:=h'' }:=by
   refine I.BV (t':=s.toks) (ch:=[z,TI,TO,i1,i2]) hf kk (fun c o e=>?_) (aq _) (show bT X.prog X.w _ h'' _ (.tup [x,y]) from ⟨by show 2<=sizeLine;decide,[u,v],.cons ru (.cons rv .nil),⟨_,hT,rfl,_,rfl⟩⟩)
   by_cases hc:c∈[z,TI,TO,i1,i2]
   ·simp only[aJ,dh,dm] at hc;rcases hc with rfl | rfl | rfl | rfl | rfl
    ·exact⟨_,b1⟩
    ·exact⟨_,(b2'.2 _ D.TIz).trans (a7 _ _ D.TIz D.TITO D.TIi1 D.TIi2 hTI)⟩
    ·exact⟨_,(b2'.2 _ D.TOz).trans a2⟩
    ·obtain⟨o1,e1,_⟩:=a3;exact⟨_,(b2'.2 _ D.i1z).trans e1⟩
    ·obtain⟨o2,e2,_⟩:=a4;exact⟨_,(b2'.2 _ D.i2z).trans e2⟩
   ·exact⟨_,kk c o hc e⟩
  refine⟨.ref s.heap.objs.size,_,I1,rfl,⟨x,y,_,fun zs hz=>by rw[I.qg hz hx];exact ex,fun zs hz=>by rw[I.qg hz hy];exact ey,rfl,I.hok.fresh (aq _),rfl⟩,⟨b1,(b2'.2 _ D.TIz).trans (a7 _ _ D.TIz D.TITO D.TIi1 D.TIi2 hTI),⟨u,v,(b2'.2 _ D.TOz).trans a2⟩,a3.at fun o e=>(b2'.2 _ D.i1z).trans e,a4.at fun o e=>(b2'.2 _ D.i2z).trans e⟩,fun c hc=>?_⟩;rw[az (bz (ne c hc))];exact (hf c hc).1
 done:=by
  intro X hP hw hK hc i Yp s σ H E I hf st hg;subst hP hw hK;obtain⟨xs,ys,hx,hy,hl⟩:=hg;obtain⟨us,r1,p1,_⟩:=I.list hx;obtain⟨vs,r2,p2,_⟩:=I.list hy;obtain⟨hz,hTI,⟨ta,tb,hTO⟩,h1,h2⟩:=id st;have l1:=r1.length;have l2:=r2.length;refine wpAny_pyNext_zip_end (I.ok.hd hc) D hz hTI hTO h1 h2 p1.isList p2.isList ?_ fun h' kk=>⟨rfl,I.BU (t':=s.toks) (ch:=[z,TI,TO,i1,i2]) hf fun c o hc e=>?_⟩
  ·rcases hl with hl | hl
   ·exact .inl (by simp;left)
   ·exact .inr (by simp;left)
  ·simp only[aJ,dh,dm,not_or] at hc;exact kk c o hc.1 hc.2.2.1 hc.2.2.2.1 hc.2.2.2.2 e
 self:=fun _ _ _ _ _ st h=>wpAny_pyIter_zip st.1 h
section
variable {X:Cx}
def Iy (K:Zf) (ta:TA):TI:=fun σ H R=>ta σ H fun vs H1=>∃ a b,vs=[.ref a,.ref b]/\(∃ xs,SqL K H1 a xs)/\(∃ ys,SqL K H1 b ys)/\R (Itz K a b) H1
def boot_zip:bootBuiltins "zip"=some (.type "zip"):=by ext
def Ly {elts:List Expr}{k:Nat}{tpos:Pos}{a b:Expr}{p pos:Pos} (hg:Gl X "zip") (hm:X.mg "zip"=none) (ha:PA X [a,b] ta) (hs:starEach [a,b] X.env=[(false,eval a X.env),(false,eval b X.env)]:=by rfl)
  (hs2:starEach [b] X.env=[(false,eval b X.env)]:=by rfl):PI X (.Tuple elts k tpos) (.Call (.Name "zip" p) [a,b] [] pos) (Iy X.K ta):=by
 intro Yp s σ H R I h;refine Call_ (rO I hg hm boot_zip (ri (thn (ha pos Yp s σ H _ I h) fun us s1 ⟨vs,H1,I1,r1,q1⟩=>?_) (by rw[hs,hs2]) (by rw[hs2];rfl)));obtain⟨l1,l2,e,⟨xs,hx⟩,⟨ys,hy⟩,q⟩:=q1;subst e;cases r1 with
 | cons r rr =>
  cases rr with
  | cons r' rr =>
   cases rr
   cases r
   cases r'
   obtain⟨us,_,p1,_⟩:=I1.list hx;obtain⟨vs,_,p2,_⟩:=I1.list hy;have a1:l1<s1.heap.objs.size:=by obtain⟨o,e,_⟩:=p1.isList;exact aM e
   have a2:l2<s1.heap.objs.size:=by obtain⟨o,e,_⟩:=p2.isList;exact aM e
   refine call_zip_2 p1.isList p2.isList fun h' hz hTI hTO hi1 hi2 hsz hk=>wpAny_pyIter_zip (s:={ s1 with heap:=h' }) hz ?_;have I2:Inv X Yp σ H1 { s1 with heap:=h' }:=I1.kept (t':=s1.toks) hk;refine⟨_,[s1.heap.objs.size+4,s1.heap.objs.size+2,s1.heap.objs.size+3,s1.heap.objs.size,s1.heap.objs.size+1],_,_,H1,rfl,I2,Hn l1 l2 _ _ _ _ _ (zipApart_new a1 a2),⟨hz,hTI,⟨_,_,hTO⟩,hi1,hi2⟩,fun c hc=>?_,q⟩;have hle:s1.heap.objs.size<=c:=by simp only[aJ,dh,dm] at hc;rcases hc with rfl | rfl | rfl | rfl | rfl<;>left
   exact I1.tI hle (I1.hok.fresh hle)
end
def KQ {a b:Addr}{xs ys:List V}{js:Za}{σ:St}{te:TE}{Q:VK} (hx:SqL K H1 a xs) (hy:SqL K H1 b ys) (hl:xs.length<sizeLine) (f:V->V->V)
  (he:∀ x y,(x,y)∈xs.zip ys->∀ H,ax H1 H->∀ R:VK,(∀ H',ax H H'->R (f x y) H')->te (some x::some y::js.map fun j=>(σ[j]?).join) H R)
  (q:∀ D H,H1 D=none->ax H1 H->H D=some (.lst ((xs.zip ys).map fun p=>f p.1 p.2))->Q (.ref D) H):gq (Fi K 2 (sN (gK 0) (sN (gK 1) Fh))) DS te (ic 2 js σ) (Itz K a b) H1 Q:=by
 intro D hD;refine⟨fun i m zs σ1 H=>m=(xs.zip ys).length-i/\i<=(xs.zip ys).length/\(∃ o1 o2,σ1=o1::o2::js.map fun j=>(σ[j]?).join)/\zs=((xs.zip ys).take i).map (fun p=>f p.1 p.2)/\ax H1 H/\H D=some (.lst zs),
  ⟨(xs.zip ys).length,by simp,bH _,⟨none,none,rfl⟩,by simp,(ax.refl H1).gu hD,aB⟩,?_⟩
 rintro i m zs σ1 H ⟨rfl,hi,⟨o1,o2,rfl⟩,rfl,sH,hL⟩;have hzl:(xs.zip ys).length=min xs.length ys.length:=List.length_zip;have hlen:(((xs.zip ys).take i).map fun p=>f p.1 p.2).length<sizeLine:=by rw[ak,fK];left
 refine⟨hL,hlen,?_⟩
 by_cases hlt:i<(xs.zip ys).length
 ·have h1:i<xs.length:=by left
  have h2:i<ys.length:=by left
  refine .inr ⟨⟨xs,ys,xs[i],ys[i],sH.seq hx,sH.seq hy,by simp [h1],by simp [h2]⟩,fun v H' hyl=>?_⟩;obtain⟨x,y,p,hx',hy',rfl,hp,rfl⟩:=hyl;have ex:=hx' xs (sH.seq hx);have ey:=hy' ys (sH.seq hy);have ez:(xs.zip ys)[i]?=some (x,y):=zip_get ex ey;have hm:(x,y)∈xs.zip ys:=bw ez;have htk:(xs.zip ys).take (i+1)=(xs.zip ys).take i++[(x,y)]:=by rw[hV,ez];rfl
  have hpD:D≠p:=bK hL hp;refine⟨p,[x,y],rfl,SqT.of aB,rfl,x,[y],rfl,y,[],rfl,rfl,?_⟩;show te (some x::some y::js.map fun j=>(σ[j]?).join) _ _;have s1:ax H1 (upd H p (.tup [x,y])):=sH.gu (sH.free hp);refine he x y hm _ s1 _ fun H4 s4=>?_;refine⟨s4 _ _ (by rw[az hpD];exact hL),(xs.zip ys).length-(i+1),by left,rfl,hlt,⟨_,_,rfl⟩,?_,(s1.trans s4).gu hD,aB⟩;rw[htk,bL];rfl
 ·have e:i=(xs.zip ys).length:=by left
  subst e;refine .inl ⟨⟨xs,ys,sH.seq hx,sH.seq hy,by left⟩,q D H hD sH ?_⟩;rw[List.take_length] at hL;exact hL
end
section
section
variable {X:Cx}
def nw (H:Hp) (o:HO) (Q:VK):Prop:=∀ p H',H p=none->ax H H'->H' p=some o->Q (.ref p) H'
def eG (hn:H a=none):ax H (upd H a o):=fun b u e=>by rw[az (bK e hn)];exact e
def nw.go {Q:VK} (h:nw H o Q) (p:Addr) (hp:H p=none):Q (.ref p) (upd H p o):=h p _ hp (eG hp) aB
def BC:R2:=fun x y H Q=>match x,y with
 | .int i,.int j=>Q (.int (i+j)) H
 | .str a,.str b=>a.length+b.length<=sizeLine/\Q (.str (a++b)) H
 | .ref l,.ref b=>∃ xs zs,H l=some (.lst xs)/\H b=some (.lst zs)/\xs.length+zs.length<=sizeLine/\nw H (.lst (xs++zs)) Q
 | _,_=>False
def br:OpR X (binaryOp .Add) BC:=by
 intro Yp s σ H x y v u Q I rx ry h;cases x with
 | int i=>cases y with
  | int j=>exact KZ Yp s σ H _ _ v u Q I rx ry ⟨_,_,rfl,rfl,h⟩
  | _=>exact False.elim h
 | str a=>cases y with
  | str b=>exact Al Yp s σ H _ _ v u Q I rx ry ⟨_,_,rfl,rfl,h.1,h.2⟩
  | _=>exact False.elim h
 | ref l=>cases y with
  | ref b =>obtain⟨xs,zs,h1,h2,h3,h4⟩:=h;exact La Yp s σ H _ _ v u Q I rx ry ⟨_,_,xs,zs,rfl,rfl,h1,h2,h3,h4.go⟩
  | _=>exact False.elim h
 | _=>exact False.elim h
def JN:R2:=fun x y H Q=>match x,y with
 | .int i,.int j=>Q (.int (i-j)) H
 | _,_=>False
def qr:OpR X (binaryOp .Sub) JN:=by
 intro Yp s σ H x y v u Q I rx ry h;cases x with
 | int i=>cases y with
  | int j=>exact Lo Yp s σ H _ _ v u Q I rx ry ⟨_,_,rfl,rfl,h⟩
  | _=>exact False.elim h
 | _=>exact False.elim h
def JH:R2:=fun x y H Q=>match x,y with
 | .int i,.int j=>Hv i j/\Q (.int (i*j)) H
 | .ref l,.int k=>∃ xs,H l=some (.lst xs)/\-(2^63)<=k/\k<2^63/\xs.length*k.toNat<=sizeLine/\nw H (.lst (List.replicate k.toNat xs).flatten) Q
 | _,_=>False
def oF:OpR X (binaryOp .Mult) JH:=by
 intro Yp s σ H x y v u Q I rx ry h;cases x with
 | int i=>cases y with
  | int j=>exact IQ Yp s σ H _ _ v u Q I rx ry ⟨_,_,rfl,rfl,h.1,h.2⟩
  | _=>exact False.elim h
 | ref l=>cases y with
  | int k =>obtain⟨xs,h1,h2,h3,h4,h5⟩:=h;exact Ln Yp s σ H _ _ v u Q I rx ry ⟨_,_,xs,rfl,rfl,h1,h2,h3,h4,h5.go⟩
  | _=>exact False.elim h
 | _=>exact False.elim h
def Gu:R2:=fun x y H Q=>match x,y with
 | .int i,.int j=>(0<j/\j<2^1000)/\Q (.int (i/j)) H
 | _,_=>False
def cQ:OpR X (binaryOp .FloorDiv) Gu:=by
 intro Yp s σ H x y v u Q I rx ry h;cases x with
 | int i=>cases y with
  | int j=>exact FW Yp s σ H _ _ v u Q I rx ry ⟨_,_,rfl,rfl,h.1,h.2⟩
  | _=>exact False.elim h
 | _=>exact False.elim h
def JG:R2:=fun x y H Q=>match x,y with
 | .int i,.int j=>0<j/\Q (.int (i%j)) H
 | _,_=>False
def cw:OpR X (binaryOp .Mod) JG:=by
 intro Yp s σ H x y v u Q I rx ry h;cases x with
 | int i=>cases y with
  | int j=>exact Li Yp s σ H _ _ v u Q I rx ry ⟨_,_,rfl,rfl,h.1,h.2⟩
  | _=>exact False.elim h
 | _=>exact False.elim h
def JK:R2:=fun x y H Q=>match x,y with
 | .int i,.int j=>(0<=j/\j<=1000000/\i.natAbs<2^64)/\Q (.int (i^j.toNat)) H
 | _,_=>False
def xv:OpR X (binaryOp .Pow) JK:=by
 intro Yp s σ H x y v u Q I rx ry h;cases x with
 | int i=>cases y with
  | int j=>exact Lm Yp s σ H _ _ v u Q I rx ry ⟨_,_,rfl,rfl,h.1,h.2⟩
  | _=>exact False.elim h
 | _=>exact False.elim h
def vZ (f:Int->Int->Bool):R2:=fun x y H Q=>match x,y with
 | .int i,.int j=>Q (.bl (f i j)) H
 | _,_=>False
def tV {op:CmpOp}{f:Int->Int->Bool} (h0:OpR X (compareOp op) (rI0 fun i j=>.bl (f i j))):OpR X (compareOp op) (vZ f):=by
 intro Yp s σ H x y v u Q I rx ry h;cases x with
 | int i=>cases y with
  | int j=>exact h0 Yp s σ H _ _ v u Q I rx ry ⟨_,_,rfl,rfl,h⟩
  | _=>exact False.elim h
 | _=>exact False.elim h
abbrev Np:R2:=vZ fun i j=>decide (i<j)
abbrev Nn:R2:=vZ fun i j=>decide (i<=j)
abbrev Ni:R2:=vZ fun i j=>decide (j<i)
abbrev Nh:R2:=vZ fun i j=>decide (j<=i)
def ph:OpR X (compareOp .Lt) Np:=tV Mr
def ir:OpR X (compareOp .LtE) Nn:=tV Mq
def Le:OpR X (compareOp .Gt) Ni:=tV Mp
def Ld:OpR X (compareOp .GtE) Nh:=tV Mo
def vy (K:Zf):R2:=fun x y H Q=>match x,y with
 | .int i,.int j=>Q (.bl (decide (i=j))) H
 | .bl i,.bl j=>Q (.bl (decide (i=j))) H
 | .str i,.str j=>Q (.bl (decide (i=j))) H
 | .ref a,.ref b=>∃ xs ys,SqL K H a xs/\SqL K H b ys/\xs.all dZ=true/\ys.all dZ=true/\Q (.bl (oW xs ys)) H
 | _,_=>False
def yU (K:Zf):R2:=fun x y H Q=>match x,y with
 | .int i,.int j=>Q (.bl (!decide (i=j))) H
 | .bl i,.bl j=>Q (.bl (!decide (i=j))) H
 | .str i,.str j=>Q (.bl (!decide (i=j))) H
 | .ref a,.ref b=>∃ xs ys,SqL K H a xs/\SqL K H b ys/\xs.all dZ=true/\ys.all dZ=true/\Q (.bl (!oW xs ys)) H
 | _,_=>False
def xZ (i j:Int):decide (V.int i=V.int j)=decide (i=j):=by
 by_cases e:i=j
 ·subst e;simp
 ·rw[ay e];exact ay fun h=>e (V.int.inj h)
def AX (i j:Bool):decide (V.bl i=V.bl j)=decide (i=j):=by
 by_cases e:i=j
 ·subst e;simp
 ·rw[ay e];exact ay fun h=>e (V.bl.inj h)
def yc (i j:Str):decide (V.str i=V.str j)=decide (i=j):=by
 by_cases e:i=j
 ·subst e;simp
 ·rw[ay e];exact ay fun h=>e (V.str.inj h)
def Lc (hu:X.A.units<cLine):OpR X (compareOp .Eq) (vy X.K):=by
 intro Yp s σ H x y v u Q I rx ry h;cases x with
 | int i=>cases y with
  | int j=>exact FV Yp s σ H _ _ v u Q I rx ry ⟨rfl,by rw[xZ];exact h⟩
  | _=>exact False.elim h
 | bl i=>cases y with
  | bl j=>exact FV Yp s σ H _ _ v u Q I rx ry ⟨rfl,by rw[AX];exact h⟩
  | _=>exact False.elim h
 | str i=>cases y with
  | str j=>exact FV Yp s σ H _ _ v u Q I rx ry ⟨rfl,by rw[yc];exact h⟩
  | _=>exact False.elim h
 | ref a=>cases y with
  | ref b =>obtain⟨xs,ys,h1,h2,h3,h4,h5⟩:=h;exact Lb hu Yp s σ H _ _ v u Q I rx ry ⟨_,_,xs,ys,rfl,rfl,h1,h2,h3,h4,h5⟩
  | _=>exact False.elim h
 | _=>exact False.elim h
def Ll (hu:X.A.units<cLine):OpR X (compareOp .NotEq) (yU X.K):=by
 intro Yp s σ H x y v u Q I rx ry h;cases x with
 | int i=>cases y with
  | int j=>exact FY Yp s σ H _ _ v u Q I rx ry ⟨rfl,by rw[xZ];exact h⟩
  | _=>exact False.elim h
 | bl i=>cases y with
  | bl j=>exact FY Yp s σ H _ _ v u Q I rx ry ⟨rfl,by rw[AX];exact h⟩
  | _=>exact False.elim h
 | str i=>cases y with
  | str j=>exact FY Yp s σ H _ _ v u Q I rx ry ⟨rfl,by rw[yc];exact h⟩
  | _=>exact False.elim h
 | ref a=>cases y with
  | ref b =>obtain⟨xs,ys,h1,h2,h3,h4,h5⟩:=h;exact Lj hu Yp s σ H _ _ v u Q I rx ry ⟨_,_,xs,ys,rfl,rfl,h1,h2,h3,h4,h5⟩
  | _=>exact False.elim h
 | _=>exact False.elim h
def isV:V->V->Option Bool
 | .non,.non=>some true
 | .bl _,.non=>some false
 | .int _,.non=>some false
 | .str _,.non=>some false
 | .ref _,.non=>some false
 | .bl a,.bl b=>some (a==b)
 | _,_=>none
def Gx (neg:Bool):R2:=fun x y H Q=>match isV x y with
 | some b=>Q (.bl (b != neg)) H
 | none=>False
def uO:OpR X (compareOp .Is) (Gx false):=by
 intro Yp s σ H x y v u Q I rx ry h;cases x<;>cases y<;>first
  | exact False.elim h
  | exact Lh Yp s σ H _ _ v u Q I rx ry ⟨rfl,h⟩
  | exact FX Yp s σ H _ _ v u Q I rx ry ⟨_,_,rfl,rfl,by simpa [Gx,isV] using h⟩
def kO:OpR X (compareOp .IsNot) (Gx true):=by
 intro Yp s σ H x y v u Q I rx ry h;cases x<;>cases y<;>first
  | exact False.elim h
  | exact IS Yp s σ H _ _ v u Q I rx ry ⟨rfl,h⟩
  | exact yK Yp s σ H _ _ v u Q I rx ry ⟨_,_,rfl,rfl,by simpa [Gx,isV,bne] using h⟩
def Sq (K:Zf) (H:Hp) (a:Addr) (xs:List V):Prop:=SqL K H a xs∨SqT K H a xs
def Sq.l (h:H a=some (.lst xs)):Sq K H a xs:=.inl (.of h)
def Sq.t (h:H a=some (.tup xs)):Sq K H a xs:=.inr (.of h)
def Jl (K:Zf):R2:=fun x y H Q=>match x,y with
 | .ref p,.int i=>∃ xs v,Sq K H p xs/\atI xs i=some v/\Q v H
 | .str z,.int i=>z.length<=sizeLine/\∃ c,atI z.cps.toList i=some c/\Q (.str ⟨#[c]⟩) H
 | _,_=>False
def Nb:IxR X (Jl X.K):=by
 intro value slice Yp s σ H x y v u Q I rx ry h hs;cases x with
 | ref p=>cases y with
  | int i =>
   obtain⟨xs,w',h1 | h1,h2,h3⟩:=h
   ·exact IC value slice Yp s σ H _ _ v u Q I rx ry ⟨_,xs,_,w',rfl,rfl,h1,h2,h3⟩ hs
   ·exact KG value slice Yp s σ H _ _ v u Q I rx ry ⟨_,xs,_,w',rfl,rfl,h1,h2,h3⟩ hs
  | _=>exact False.elim h
 | str z=>cases y with
  | int i =>obtain⟨h1,c,h2,h3⟩:=h;exact KC value slice Yp s σ H _ _ v u Q I rx ry ⟨z,i,c,rfl,rfl,h1,h2,h3⟩ hs
  | _=>exact False.elim h
 | _=>exact False.elim h
def BF (K:Zf):List V->Hp->VK->Prop:=fun vs H Q=>match vs with
 | [.str z]=>z.length<=sizeLine/\Q (.int z.length) H
 | [.ref p]=>∃ xs,Sq K H p xs/\Q (.int xs.length) H
 | _=>False
def Cv:cS X (.builtin "len") (BF X.K):=by
 intro Yp s σ H xs us Q I r h
 match xs,h with
 | [.str z],h=>exact wB Yp s σ H _ us Q I r ⟨z,rfl,h.1,h.2⟩
 | [.ref p],h =>obtain⟨ys,h1,h2⟩:=h;exact wA Yp s σ H _ us Q I r ⟨p,ys,rfl,h1,h2⟩
def JC:List V->Hp->VK->Prop:=fun vs H Q=>match vs with
 | [.int i]=>Q (.int (i.natAbs:Int)) H
 | _=>False
def rG:cS X (.builtin "abs") JC:=by
 intro Yp s σ H xs us Q I r h
 match xs,h with
 | [.int i],h =>
  refine E8 Yp s σ H _ us Q I r ⟨i,rfl,?_⟩;have e:(if i<0 then -i else i)=((i.natAbs:Nat):Int):=by split<;>left
  rw[e];exact h
def JF:List V->Hp->VK->Prop:=fun vs H Q=>match vs with
 | [.int i,.int j]=>Q (.int (min i j)) H
 | _=>False
def Cy (hc:X.calm=true):cS X (.builtin "min") JF:=by
 intro Yp s σ H xs us Q I r h
 match xs,h with
 | [.int i,.int j],h =>
  refine Cw hc Yp s σ H _ us Q I r ⟨i,j,rfl,?_⟩;have e:(if j<i then j else i)=min i j:=by rw[Int.min_def];split<;>split<;>left
  rw[e];exact h
def Au (K:Zf):List V->Hp->VK->Prop:=fun vs H Q=>match vs with
 | [.ref a]=>∃ ys,(Sq K H a ys∨∃ lo hi,H a=some (.rng lo hi)/\(-(2^62)<=lo/\lo<2^62/\-(2^62)<=hi/\hi<2^62)/\(hi-lo).toNat<=2^20/\ys=xA lo (hi-lo).toNat)/\nw H (.lst ys) Q
 | _=>False
def zr (hc:X.calm=true):cS X (.type "list") (Au X.K):=by
 intro Yp s σ H xs us Q I r h
 match xs,h with
 | [.ref a],h =>
  obtain⟨ys,h1 | ⟨lo,hi,h1,h2,h3,rfl⟩,h4⟩:=h
  ·exact wD Yp s σ H _ us Q I r ⟨a,ys,rfl,h1,h4.go⟩
  ·exact wC hc Yp s σ H _ us Q I r ⟨a,lo,hi,rfl,h1,h2,h3,h4.go⟩
def JL:List V->Hp->VK->Prop:=fun vs H Q=>match vs with
 | [.int j]=>nw H (.rng 0 j) Q
 | _=>False
def C2:cS X (.type "range") JL:=by
 intro Yp s σ H xs us Q I r h
 match xs,h with
 | [.int j],h=>exact Cz Yp s σ H _ us Q I r ⟨j,rfl,nw.go h⟩
def bt_isinstance:bootBuiltins "isinstance"=some (.builtin "isinstance"):=by ext
def zp:bootBuiltins "abs"=some (.builtin "abs"):=by ext
def cG:bootBuiltins "len"=some (.builtin "len"):=by ext
def oU:bootBuiltins "all"=some (.builtin "all"):=by ext
def Kx:bootBuiltins "sum"=some (.builtin "sum"):=by ext
def Kv:bootBuiltins "min"=some (.builtin "min"):=by ext
def vG:bootBuiltins "sorted"=some (.builtin "sorted"):=by ext
def E5:bootBuiltins "range"=some (.type "range"):=by ext
def pT:bootBuiltins "list"=some (.type "list"):=by ext
def E6:bootBuiltins "tuple"=some (.type "tuple"):=by ext
def E4:bootBuiltins "int"=some (.type "int"):=by ext
def mG:bootBuiltins "str"=some (.type "str"):=by ext
def HY:bootBuiltins "bool"=some (.type "bool"):=by ext
def Kw:bootBuiltins "set"=some (.type "set"):=by ext
def Mt (hg:Gl X x) (hm:X.mg x=none) (hv:bootBuiltins x=some (.type T)) (hn:x≠"__name__":=by decide) (hd:(x==("__debug__":Str))=false:=by decide):PE X (.Name x pos) (tC (.ty T)) :=
 IW hg hm hv rfl hn hd
structure Fnc (P:Zh) (w:Zi) (K:Zf) (mg:Zk) (base:Heap) (CX:CXT) (k:Nat) (x:Str) (ps:Ze) (sp:Sp):Prop where
 ex:∃ (f:Addr) (fd:FuncData),bS P w K mg base CX k f fd ps sp/\mg x=some (.ref f)/\PySem.W.keepIn K (.ref f)=true/\Binds K fd ps []
def Gb {E:St->XK}{k:Nat}{t:TA}{p pos:Pos} (C:Fnc X.prog X.w X.K X.mg X.base CX k x ps sp) (hx:Passes CX X E) (hr:dw k X.A) (hg:Gl X x) (ha:PA X (e::es) t)
  (hd:(x==("__debug__":Str))=false:=by decide)
  (he:starEach (e::es) X.env=(false,eval e X.env)::starEach es X.env:=by rfl) (hpl:(backTo pos (starEach es X.env)).any (·.1)=false:=by rfl):PE X (.Call (.Name x p) (e::es) [] pos) (BO sp [] E t):=by
 obtain⟨f,fd,F,hm,hk,hb⟩:=C.ex;exact IZ F hr hg hm hk hb .nil hx ha hd he hpl
end
def iB (g:TG) (tb:TS) (D:Ends) (J:It) (σ:St) (H:Hp):Prop:=∃ W:Nat->Nat->St->Hp->Prop,(∃ m,W 0 m σ H)/\∀ i m σ H,W i m σ H →
 (J.stop i H/\D.nx σ H)∨(J.go i H/\∃ N:St->Hp->Prop,(∀ σ' H',N σ' H'->∃ m',m'<m/\W (i+1) m' σ' H')/\∀ x H',J.yld i H x H'->g x σ H' fun σ2 H2=>tb { D with nx:=N,ct:=N,bk:=D.nx } σ2 H2)
def Bi {lo:Int}{n:Nat}{g:TG}{tb:TS}{D:Ends} (Pv:Nat->St->Hp->Prop) (h0:Pv 0 σ H)
  (hs:∀ i σ H,i<n->Pv i σ H->g (.int (lo+i)) σ H fun σ2 H2=>tb { D with nx:=Pv (i+1),ct:=Pv (i+1),bk:=D.nx } σ2 H2) (hd:∀ σ H,Pv n σ H->D.nx σ H):iB g tb D (Itr lo n) σ H:=Dh Pv h0 hs hd
def wL {g:TG}{tb:TS}{D:Ends} (Pv:Nat->St->Hp->Prop) (h0:Pv 0 σ H) (hl:∀ i σ H,i<=xs.length->Pv i σ H->SqL K H a xs)
  (hs:∀ i x σ H,xs[i]?=some x->Pv i σ H->g x σ H fun σ2 H2=>tb { D with nx:=Pv (i+1),ct:=Pv (i+1),bk:=D.nx } σ2 H2) (hd:∀ σ H,Pv xs.length σ H->D.nx σ H):iB g tb D (Itl K a) σ H:=Fc Pv h0 hl hs hd
def JU (t:TA):TE:=fun σ H Q=>t σ H fun xs H1=>xs.length<=sizeLine/\nw H1 (.lst xs) Q
def JZ (t:TA):TE:=fun σ H Q=>t σ H fun xs H1=>xs.length<=sizeLine/\nw H1 (.tup xs) Q
def Hf:TE:=fun _ H Q=>nw H (.dK []) Q
def bR {t:TA} (h:PA X es t):PE X (.List es pos) (JU t):=by intro Yp s σ H Q I hq;refine wpAny_List_spliced (thn (h pos Yp s σ H _ I hq) fun us s1 ⟨xs,H1,I1,r,z,q⟩=>⟨by rw[←r.length];exact z,?_⟩);have hf:H1 s1.heap.objs.size=none:=I1.hok.fresh (aq _);refine⟨.ref s1.heap.objs.size,upd H1 s1.heap.objs.size (.lst xs),I1.laid (t':=s1.toks) (fun b u e=>aL _ e) (aq _) ?_,rfl,nw.go q _ hf⟩;exact⟨z,us,0,r,bj _ rfl⟩
def cx {t:TA}{x1} (h:PA X es t):PE X (.Tuple es x1 pos) (JZ t):=by intro Yp s σ H Q I hq;refine wpAny_Tuple_spliced (thn (h pos Yp s σ H _ I hq) fun us s1 ⟨xs,H1,I1,r,z,q⟩=>⟨by rw[←r.length];exact z,?_⟩);have hf:H1 s1.heap.objs.size=none:=I1.hok.fresh (aq _);refine⟨.ref s1.heap.objs.size,upd H1 s1.heap.objs.size (.tup xs),I1.laid (t':=s1.toks) (fun b u e=>aL _ e) (aq _) ?_,rfl,nw.go q _ hf⟩;exact⟨z,us,r,⟨_,bj _ rfl,rfl,_,rfl⟩⟩
def iE :PE X (.Dict [] [] pos) Hf:=fun Yp s σ H Q I h=>Gg Yp s σ H Q I (nw.go h)
section
variable {σ:St}{H:Hp}{Q:VK}{D:Ends}
def dH {t u:TS}:AD t u D σ H=t { D with nx:=u D } σ H:=propext Iff.rfl
def Kg {te:TE}{g:TG}:DR te g D σ H=te σ H fun x H1=>g x σ H1 D.nx:=propext Iff.rfl
def pR {i:Nat}{v:V}{R:St->Hp->Prop}:gK i v σ H R=R (σ.set i (some v)) H:=propext Iff.rfl
def Kt {i:Nat}:Hj i σ H Q=∃ v,σ[i]?=some (some v)/\Q v H:=propext Iff.rfl
def MZ {v:V}:tC v σ H Q=Q v H:=propext Iff.rfl
def Ma {r:R2}{ta tb:TE}:tOp r ta tb σ H Q=ta σ H fun x H1=>tb σ H1 fun y H2=>r x y H2 Q:=propext Iff.rfl
def Md {r:V->Hp->VK->Prop}{ta:TE}:tUn r ta σ H Q=ta σ H fun x H1=>r x H1 Q:=propext Iff.rfl
def LS {r:List V->Hp->VK->Prop}{t:TA}:tCB r t σ H Q=t σ H fun vs H1=>r vs H1 Q:=propext Iff.rfl
def HD {ta:TE}{tr:TA}{R:List V->Hp->Prop}:GZ ta tr σ H R=ta σ H fun x H1=>tr σ H1 fun xs H2=>R (x::xs) H2:=propext Iff.rfl
def Km {R:List V->Hp->Prop}:Jx σ H R=R [] H:=propext Iff.rfl
def HC {sp:Sp}{E:St->XK}{t:TA}:BO sp [] E t σ H Q=t σ H fun vs H1=>sp vs H1 Q (E σ):=by show (t σ H fun vs H1=>sp (vs++[]) H1 Q (E σ))=_;simp only[jK]
def Kq {te:TE}:ME te D σ H=te σ H D.rt:=propext Iff.rfl
def LY {c:TT}{t u:TS}:M9 c t u D σ H=c σ H fun b H1=>if b=true then t D σ H1 else u D σ H1:=propext Iff.rfl
def HN:JW D σ H=D.nx σ H:=propext Iff.rfl
def HH {te:TE}:JS te D σ H=te σ H fun _ H1=>D.nx σ H1:=propext Iff.rfl
def HS {t:TE}{R:Bool->Hp->Prop}:Hi t σ H R=t σ H fun x H'=>∃ k,x=.bl k/\R k H':=propext Iff.rfl
def MY {t:TE}{R:Bool->Hp->Prop}:tB t σ H R=t σ H fun x H'=>∃ k,x=.bl k/\R k H':=propext Iff.rfl
def Kn {t:TT}{R:Bool->Hp->Prop}:MB t σ H R=t σ H fun c H1=>R (!c) H1:=propext Iff.rfl
def Kf {t u:TT}{R:Bool->Hp->Prop}:M8 t u σ H R=t σ H fun c H1=>if c=true then u σ H1 R else R false H1:=propext Iff.rfl
def Mb {t u:TT}{R:Bool->Hp->Prop}:tOr t u σ H R=t σ H fun c H1=>if c=true then R true H1 else u σ H1 R:=propext Iff.rfl
def HB {ta tb:TE}:JR ta tb σ H Q=ta σ H fun x H1=>∃ c,x=.bl c/\if c=true then tb σ H1 Q else Q (.bl false) H1:=propext Iff.rfl
def Ko {ta tb:TE}:MC ta tb σ H Q=ta σ H fun x H1=>∃ c,x=.bl c/\if c=true then Q (.bl true) H1 else tb σ H1 Q:=propext Iff.rfl
def HP {ta:TE}:JX ta σ H Q=ta σ H fun x H1=>∃ c,x=.bl c/\Q (.bl (!c)) H1:=propext Iff.rfl
def Kk {t:TT}{ta tb:TE}:tIf t ta tb σ H Q=t σ H fun c H1=>if c=true then ta σ H1 Q else tb σ H1 Q:=propext Iff.rfl
def Kl {t:TA}:JU t σ H Q=t σ H fun xs H1=>xs.length<=sizeLine/\nw H1 (.lst xs) Q:=propext Iff.rfl
def Kr {t:TA}:JZ t σ H Q=t σ H fun xs H1=>xs.length<=sizeLine/\nw H1 (.tup xs) Q:=propext Iff.rfl
def HF:Hf σ H Q=nw H (.dK []) Q:=propext Iff.rfl
def LZ {k:Nat}{js:Za}{wi:TI}{g:TG}{tc:TT}{te:TE}:tLC k js wi g tc te σ H Q=wi σ H fun J H1=>gq g tc te (ic k js σ) J H1 Q:=propext Iff.rfl
def Mc {r:V->Option Int->Option Int->Hp->VK->Prop}{te:TE}{tl th:TO}:tSl r te tl th σ H Q=te σ H fun x H1=>tl σ H1 fun l H2=>th σ H2 fun u H3=>r x l u H3 Q:=propext Iff.rfl
def Cf {R:Option Int->Hp->Prop}:BS σ H R=R none H:=propext Iff.rfl
def HQ {t:TE}{R:Option Int->Hp->Prop}:JY t σ H R=t σ H fun x H1=>∃ i,x=.int i/\R (some i) H1:=propext Iff.rfl
def Ep {ta:TA}{R:It->Hp->Prop}:Fv ta σ H R=ta σ H fun vs H1=>∃ j:Int,vs=[.int j]/\-(2^62)<=j/\j<2^62/\R (Itr 0 j.toNat) H1:=propext Iff.rfl
def HK {K:Zf}{ta:TA}{R:It->Hp->Prop}:Iy K ta σ H R=ta σ H fun vs H1=>∃ a b,vs=[.ref a,.ref b]/\(∃ xs,SqL K H1 a xs)/\(∃ ys,SqL K H1 b ys)/\R (Itz K a b) H1:=propext Iff.rfl
def Kj {wi:TI}{g:TG}{tb:TS}:LF wi g tb D σ H=wi σ H fun J H1=>iB g tb D J σ H1:=propext Iff.rfl
def Kp {i j:Nat}{ta:TA}:MD i j ta D σ H=ta σ H fun vs H1=>∃ v w,vs=[v,w]/\D.nx ((σ.set i (some v)).set j (some w)) H1:=propext Iff.rfl
def LR {K:Zf}{T:String}{r:V->List V->Hp->VK->Prop}{to:TE}{t:TA}:tBM K T r to t σ H Q=to σ H fun x H1=>tyV K T x H1/\t σ H1 fun xs H2=>r x xs H2 Q:=propext Iff.rfl
def Kh {K:Zf}{T:String}{r:V->List V->Hp->VK->Prop}{to:TE}:LA K T r to σ H Q=to σ H fun x H1=>tyV K T x H1/\r x [] H1 Q:=propext Iff.rfl
def Ek {r r':R2}{ta tb tc:TE}:AA r r' ta tb tc σ H Q=ta σ H fun x H1=>tb σ H1 fun y H2=>r x y H2 fun z H3=>∃ k,z=.bl k/\if k=true then tc σ H3 fun v H4=>r' y v H4 Q else Q (.bl false) H3:=propext Iff.rfl
def J6 {b:Bool}{P:Bool->Prop}:(∃ k,V.bl b=V.bl k/\P k)=P b:=propext ⟨fun ⟨k,e,h⟩=>by cases e;exact h,fun h=>⟨b,rfl,h⟩⟩
def EU {b:Int}{P:Int->Prop}:(∃ k,V.int b=V.int k/\P k)=P b:=propext ⟨fun ⟨k,e,h⟩=>by cases e;exact h,fun h=>⟨b,rfl,h⟩⟩
def EV {b:Addr}{P:Addr->Prop}:(∃ k,V.ref b=V.ref k/\P k)=P b:=propext ⟨fun ⟨k,e,h⟩=>by cases e;exact h,fun h=>⟨b,rfl,h⟩⟩
def Ip {b:Int}{P:Int->Prop}:(∃ k,[V.int b]=[V.int k]/\P k)=P b:=propext ⟨fun ⟨k,e,h⟩=>by cases e;exact h,fun h=>⟨b,rfl,h⟩⟩
def Iq {b c:Int}{P:Int->Int->Prop}:(∃ k l,[V.int b,V.int c]=[V.int k,V.int l]/\P k l)=P b c:=propext ⟨fun ⟨k,l,e,h⟩=>by cases e;exact h,fun h=>⟨b,c,rfl,h⟩⟩
def Ir {b c:Addr}{P:Addr->Addr->Prop}:(∃ k l,[V.ref b,V.ref c]=[V.ref k,V.ref l]/\P k l)=P b c:=propext ⟨fun ⟨k,l,e,h⟩=>by cases e;exact h,fun h=>⟨b,c,rfl,h⟩⟩
def Kz {b c:V}{P:V->V->Prop}:(∃ k l,[b,c]=[k,l]/\P k l)=P b c:=propext ⟨fun ⟨k,l,e,h⟩=>by cases e;exact h,fun h=>⟨b,c,rfl,h⟩⟩
def Iu {v:V}{P:V->Prop}:(∃ k,some (some v)=some (some k)/\P k)=P v:=propext ⟨fun ⟨k,e,h⟩=>by cases e;exact h,fun h=>⟨v,rfl,h⟩⟩
def GW {N:Ze}{vs:List V}:start N vs=vs.map some++List.replicate (N.length-vs.length) none:=rfl
end
inductive Tg where
 | non | bl | int | str | lst | tup | dct
 deriving DecidableEq
def Tg.name:Tg->String
 | .non=>"NoneType" | .bl=>"bool" | .int=>"int" | .str=>"str" | .lst=>"list" | .tup=>"tuple" | .dct=>"dict"
def Tg.sub:Tg->Tg->Bool
 | .non,.non=>true | .bl,.bl=>true | .int,.int=>true | .str,.str=>true | .lst,.lst=>true | .tup,.tup=>true | .dct,.dct=>true
 | .bl,.int=>true
 | _,_=>false
def mF:Option HO->Option Tg
 | some (.lst _)=>some .lst | some (.frz _ (.lst _))=>some .lst | some (.tup _)=>some .tup | some (.dK _)=>some .dct | some (.dT _)=>some .dct
 | _=>none
def fT (H:Hp):V->Option Tg
 | .non=>some .non | .bl _=>some .bl | .int _=>some .int | .str _=>some .str | .ref a=>mF (H a)
 | _=>none
def F9 (K:Zf):∀ t c:Tg,c≠.non->PySem.W.kitOne K (.type t.name) (.type c.name)=some (t.sub c):=by
 intro t c h;cases t<;>cases c<;>first
  | exact absurd rfl h
  | rfl
  | ext
  | nofun
def LG {x:V}{t:Tg} (h:fT H x=some t):oS K H x (.type t.name):=by
 cases x with
 | non=>cases h;exact .non
 | bl b=>cases h;exact .bl b
 | int i=>cases h;exact .int i
 | str z=>cases h;exact .str z
 | ref a =>
  have h':mF (H a)=some t:=h;cases e:H a with
  | none=>rw[e] at h';cases h'
  | some o =>
   rw[e] at h';cases o with
   | lst xs=>cases h';exact .lst e
   | tup xs=>cases h';exact .tup e
   | dK kvs=>cases h';exact .dK e
   | dT kvs=>cases h';exact .dT e
   | frz ob u=>cases u with
    | lst xs=>cases h';exact .frz e
    | _=>cases h'
   | _=>cases h'
 | _=>cases h
def JE (c:Tg):List V->Hp->VK->Prop:=fun vs H Q=>match vs with
 | [x,.ty n]=>n=c.name/\∃ t,fT H x=some t/\Q (.bl (t.sub c)) H
 | _=>False
def e8 (c:Tg) (hc:c≠.non:=by decide):cS X (.builtin "isinstance") (JE c):=by
 intro Yp s σ H xs us Q I r h
 match xs,h with
 | [x,.ty n],h =>obtain⟨rfl,t,ht,q⟩:=h;exact E9 Yp s σ H _ us Q I r ⟨x,_,_,_,rfl,LG ht,F9 X.K t c hc,q⟩
def xN {c:TT}{tb:TS}{D:Ends} (Pv:St->Hp->Prop) (μ:St->Hp->Nat) (h0:Pv σ H)
  (hs:∀ σ H,Pv σ H->c σ H fun b H1=>if b=true then ∃ N:St->Hp->Prop,(∀ σ' H',N σ' H'->Pv σ' H'/\μ σ' H'<μ σ H)/\tb { D with nx:=N,ct:=N,bk:=D.nx } σ H1 else D.nx σ H1):Hl c tb D σ H :=
 ⟨fun m σ H=>m=μ σ H/\Pv σ H,⟨_,rfl,h0⟩,fun m σ H ⟨e,p⟩=>by
  subst e;have q:=hs σ H p;have e:(fun (b:Bool) (H1:Hp)=>if b=true then ∃ N:St->Hp->Prop,(∀ σ' H',N σ' H'->Pv σ' H'/\μ σ' H'<μ σ H)/\tb { D with nx:=N,ct:=N,bk:=D.nx } σ H1 else D.nx σ H1) =
    fun (b:Bool) (H1:Hp)=>if b=true then ∃ N:St->Hp->Prop,(∀ σ' H',N σ' H'->∃ m',m'<μ σ H/\m'=μ σ' H'/\Pv σ' H')/\tb { D with nx:=N,ct:=N,bk:=D.nx } σ H1 else D.nx σ H1:=by
   funext b H1
   cases b with
   | false=>rfl
   | true =>simp only[if_true];refine propext ⟨fun ⟨N,h1,h2⟩=>⟨N,fun σ' H' n=>⟨_,(h1 σ' H' n).2,rfl,(h1 σ' H' n).1⟩,h2⟩,fun ⟨N,h1,h2⟩=>⟨N,fun σ' H' n=>?_,h2⟩⟩;obtain⟨m',h3,h4,h5⟩:=h1 σ' H' n;exact⟨h5,by rw[←h4];exact h3⟩
  rw[e] at q;exact q⟩
def jt (xs:List V) (k:Nat):pV xs (some (k:Int)) none=xs.drop k:=by
 unfold pV;rw[HT.xB,HT.GR];rw[di (by rw[cR];left)]
 by_cases h:k<=xs.length
 ·rw[iN h]
 ·rw[lE (by left),List.drop_of_length_le (aq _),List.drop_of_length_le (by left)]
def wc (n:Nat):xA 0 n=(Mk.ofN n).map V.int:=by unfold xA Mk.ofN;rw[aX];refine nT fun k _=>?_;show V.int (0+(k:Int))=V.int (k:Int);rw[Int.zero_add]
def qE (n:Nat):(Itr 0 n).Seq H1 ((Mk.ofN n).map V.int):=by rw[←wc];exact we
def pI (f:Int->Bool):V->Bool
 | .int i=>f i
 | _=>false
def Df (f:Int->Bool) (xs:Zb):(xs.map V.int).filter (pI f)=(xs.filter f).map V.int:=by rw[nQ];rfl
def FK {x:V}{xs:Zb} (h:x∈xs.map V.int):∃ i,x=.int i/\i∈xs:=by obtain⟨i,hi,rfl⟩:=aD.mp h;exact⟨i,rfl,hi⟩
def ao {n:Nat} (h:n<=100000):n<sizeLine:=fi h Zd
section
variable {X:Cx}{K:Zf}
def c8 (hK:X.K=K) (hu:X.A.units<cLine):OpR X (compareOp .Eq) (vy K):=hK ▸ Lc hu
def iu (hK:X.K=K) (hu:X.A.units<cLine):OpR X (compareOp .NotEq) (yU K):=hK ▸ Ll hu
def cn (hK:X.K=K):IxR X (Jl K):=hK ▸ Nb
def bG (hK:X.K=K):cS X (.builtin "len") (BF K):=hK ▸ Cv
def ig (hK:X.K=K) (hc:X.calm=true):cS X (.builtin "all") (Mv K):=hK ▸ Cq hc
def CC (hK:X.K=K) (hc:X.calm=true):cS X (.builtin "sum") (M6 K):=hK ▸ CB hc
def lU (hK:X.K=K) (hc:X.calm=true):cS X (.type "list") (Au K):=hK ▸ zr hc
def Jd {elts:List Expr}{k:Nat}{tpos:Pos}{a b:Expr}{p pos:Pos} (hK:X.K=K) (hg:Gl X "zip") (hm:X.mg "zip"=none) (ha:PA X [a,b] ta) (hs:starEach [a,b] X.env=[(false,eval a X.env),(false,eval b X.env)]:=by rfl)
  (hs2:starEach [b] X.env=[(false,eval b X.env)]:=by rfl):PI X (.Tuple elts k tpos) (.Call (.Name "zip" p) [a,b] [] pos) (Iy K ta):=hK ▸ Ly hg hm ha hs hs2
def jg {k:Nat}{t:TGs}{n:Nat}{pos:Pos} (hK:X.K=K) (hc:X.calm=true) (h:PGs X es t)
  (hn:(assignEach es X.env).length=n:=by rfl) (hst:(assignEach es X.env).findIdx? (·.1)=none:=by rfl):PG X (.Tuple es k pos) (Fi K n t):=hK ▸ Gm hc h hn hst
def Lq {o e:Expr}{es:List Expr}{to:TE}{t:TA}{name:Str}{apos cpos:Pos}{T id:String}{r:V->List V->Hp->VK->Prop} (hK:X.K=K) (pa:PlainAttrs T) (slot:Slot T name id) (hty:typeOf (.builtin id)=pure (.type "method_descriptor"))
  (hm:MtR X id r) (ho:PE X o to) (ha:PA X (e::es) t)
  (hbase:attributeBase o name X.env (eval o X.env)=eval o X.env:=by rfl)
  (hfew:((backTo cpos (starEach (e::es) X.env)).all (fun x=>!x.1)&&(backToKw cpos (keywordEach [] X.env)).all (fun x=>x.1.isSome)
   && decide ((e::es).length+([]:List Keyword).length+(if ([]:List Keyword).isEmpty then 0 else 1)<30))=true:=by rfl)
  (hline:(apos.endLine==cpos.line)=true:=by rfl) (hs:starEach (e::es) X.env=(false,eval e X.env)::starEach es X.env:=by rfl) (hplain:(backTo cpos (starEach es X.env)).any (·.1)=false:=by rfl) :
  PE X (.Call (.Attribute o name apos) (e::es) [] cpos) (tBM K T r to t):=hK ▸ Ms pa slot hty hm ho ha hbase hfew hline hs hplain
end
end
section
def noStar:Expr->Bool
 | .Starred _ _=>false
 | _=>true
def dO (es:List Expr):Bool:=es.all noStar
def aW (h:noStar e=true):starEach (e::es) env=(false,eval e env)::starEach es env:=by
 cases e<;>first
  | rfl
  | cases h
def bg (h:dO (e::es)=true):noStar e=true/\dO es=true:=by unfold dO at h ⊢;rw[jJ,cm] at h;exact h
theorem cY {pos:Pos}{env:Env}:∀ {es:List Expr},dO es=true->(backTo pos (starEach es env)).any (·.1)=false
 | [],_=>rfl
 | e::es,h=>by obtain⟨h1,h2⟩:=bg h;rw[aW h1];show (false||(backTo pos (starEach es env)).any (·.1))=false;rw[cY h2];rfl
theorem oT {pos:Pos}{env:Env}:∀ {es:List Expr},dO es=true->(backTo pos (starEach es env)).all (fun x=>!x.1)=true
 | [],_=>rfl
 | e::es,h=>by obtain⟨h1,h2⟩:=bg h;rw[aW h1];show (true&&(backTo pos (starEach es env)).all (fun x=>!x.1))=true;rw[oT h2];rfl
section
variable {X:Cx}{K:Zf}
def pvL (i:Nat) {pos:Pos} (hN:X.N[i]?=some x:=by ext) (hv:X.env.scope.names.lookup x=some .local:=by ext) (hd:(x==("__debug__":Str))=false:=by ext)
  (hcd:(x==("__classdict__":Str))=false:=by ext):PE X (.Name x pos) (Hj i):=An hN (.inl hv) hd hcd
def pvC (i:Nat) {pos:Pos} (hN:X.N[i]?=some x:=by ext) (hv:X.env.scope.names.lookup x=some .cell:=by ext) (hd:(x==("__debug__":Str))=false:=by ext)
  (hcd:(x==("__classdict__":Str))=false:=by ext):PE X (.Name x pos) (Hj i):=An hN (.inr (.inl hv)) hd hcd
def ah {t:TA} (ha:PE X e te) (hr:PA X es t) (hs:noStar e=true:=by ext):PA X (e::es) (GZ te t):=IV ha hr (aW hs)
def aG {E:St->XK}{k:Nat}{t:TA}{p pos:Pos} (C:Fnc X.prog X.w X.K X.mg X.base CX k x ps sp) (hx:Passes CX X E) (hr:dw k X.A) (ha:PA X (e::es) t)
  (hg:X.env.kindOf x=some .globalImplicit:=by ext) (hd:(x==("__debug__":Str))=false:=by ext) (hs:dO (e::es)=true:=by ext):PE X (.Call (.Name x p) (e::es) [] pos) (BO sp [] E t) :=
 Gb C hx hr hg ha hd (aW (bg hs).1) (cY (bg hs).2)
def aA {p pos:Pos}{t:TA}{id:String}{r:List V->Hp->VK->Prop} (hc:cS X (.builtin id) r) (hm:X.mg x=none) (hv:bootBuiltins x=some (.builtin id)) (ha:PA X (e::es) t)
  (hg:X.env.kindOf x=some .globalImplicit:=by ext) (hn:x≠"__name__":=by nofun) (hd:(x==("__debug__":Str))=false:=by ext) (hs:dO (e::es)=true:=by ext):PE X (.Call (.Name x p) (e::es) [] pos) (tCB r t) :=
 Ga hc hg hm hv ha hn hd (aW (bg hs).1) (cY (bg hs).2)
def fB {p pos:Pos}{t:TA}{r:List V->Hp->VK->Prop} (hc:cS X (.type T) r) (hm:X.mg x=none) (hv:bootBuiltins x=some (.type T)) (ha:PA X (e::es) t)
  (hg:X.env.kindOf x=some .globalImplicit:=by ext) (hn:x≠"__name__":=by nofun) (hd:(x==("__debug__":Str))=false:=by ext) (hs:dO (e::es)=true:=by ext):PE X (.Call (.Name x p) (e::es) [] pos) (tCB r t) :=
 DE hc hg hm hv ha hn hd (aW (bg hs).1) (cY (bg hs).2)
def iS {pos:Pos} (hm:X.mg x=none) (hv:bootBuiltins x=some (.type T)) (hg:X.env.kindOf x=some .globalImplicit:=by ext) (hn:x≠"__name__":=by nofun) (hd:(x==("__debug__":Str))=false:=by ext) :
  PE X (.Name x pos) (tC (.ty T)):=Mt hg hm hv hn hd
def aF {pos pos':Pos} (hN:X.N.Nodup) (he:PE X e te) (hi:X.N[i]?=some x:=by ext) (hx:X.env.scope.names.lookup x=some .local:=by ext)
  (hs:swapsWith e (some (.Name x pos')) pos.line X.env=pure false:=by ext):PS X (.Assign [.Name x pos'] e pos) (DR te (gK i)):=Gr hN hi (.inl hx) he hs (.inr hx)
def ji {pos pos':Pos} (hN:X.N.Nodup) (he:PE X e te) (hi:X.N[i]?=some x:=by ext) (hx:X.env.scope.names.lookup x=some .cell:=by ext) (hf:X.fn x=true:=by ext)
  (hs:swapsWith e (some (.Name x pos')) pos.line X.env=pure false:=by ext):PS X (.Assign [.Name x pos'] e pos) (DR te (gK i)):=Gr hN hi (.inr hx) he hs (.inl hf)
def aC (hN:X.N.Nodup) (hi:X.N[i]?=some x:=by ext) (hx:X.env.scope.names.lookup x=some .local:=by ext):PG X (.Name x pos) (gK i):=Bw hN hi (.inl hx) (.inr hx)
def mU (hN:X.N.Nodup) (hi:X.N[i]?=some x:=by ext) (hx:X.env.scope.names.lookup x=some .cell:=by ext) (hf:X.fn x=true:=by ext):PG X (.Name x pos) (gK i):=Bw hN hi (.inr hx) (.inl hf)
def gv {tg a:Expr}{p pos:Pos} (hm:X.mg "range"=none) (ha:PA X [a] ta) (hg:X.env.kindOf "range"=some .globalImplicit:=by ext) (hs:noStar a=true:=by ext):PI X tg (.Call (.Name "range" p) [a] [] pos) (Fv ta) :=
 DJ hg hm ha (aW hs)
def Bx {elts:List Expr}{k:Nat}{tpos:Pos}{a b:Expr}{p pos:Pos} (hK:X.K=K) (hm:X.mg "zip"=none) (ha:PA X [a,b] ta) (hg:X.env.kindOf "zip"=some .globalImplicit:=by ext) (hs:noStar a=true:=by ext) (hs2:noStar b=true:=by ext) :
  PI X (.Tuple elts k tpos) (.Call (.Name "zip" p) [a,b] [] pos) (Iy K ta):=Jd hK hg hm ha (by rw[aW hs,aW hs2];rfl) (aW hs2)
def eD {o e:Expr}{es:List Expr}{to:TE}{t:TA}{name:Str}{apos cpos:Pos}{T id:String}{r:V->List V->Hp->VK->Prop} (hK:X.K=K) (pa:PlainAttrs T) (slot:Slot T name id) (hty:typeOf (.builtin id)=pure (.type "method_descriptor"))
  (hm:MtR X id r) (ho:PE X o to) (ha:PA X (e::es) t)
  (hbase:attributeBase o name X.env (eval o X.env)=eval o X.env:=by ext) (hs:dO (e::es)=true:=by ext) (hlen:decide ((e::es).length<30)=true:=by ext)
  (hline:(apos.endLine==cpos.line)=true:=by ext):PE X (.Call (.Attribute o name apos) (e::es) [] cpos) (tBM K T r to t):=by
 refine Lq hK pa slot hty hm ho ha hbase ?_ hline (aW (bg hs).1) (cY (bg hs).2);rw[oT hs];show (true&&true&&decide ((e::es).length+0+0<30))=true;rw[dQ,dQ];exact hlen
end
end
section
def tx (l:Za):Str:=⟨l.toArray⟩
def ck (l:Za):(tx l).cps.toList=l:=by unfold tx;simp
def bM (l:Za):(tx l).length=l.length:=by show l.toArray.size=_;simp
def nE (x:Str):tx x.cps.toList=x:=by unfold tx;simp
def nD (a b:Za):tx a++tx b=tx (a++b):=by show Str.mk (a.toArray++b.toArray)=Str.mk (a++b).toArray;simp
def vi {a b:Za} (h:tx a=tx b):a=b:=by have:=aV (fun x:Str=>x.cps.toList) h;simpa [tx] using this
def dE (x:Str):x.length=x.cps.toList.length:=by show x.cps.size=_;simp
def Itx (z:Str):It:=⟨fun i _=>i<z.cps.size,fun i H v H'=>H'=H/\∃ c,z.cps[i]?=some c/\v=.str ⟨#[c]⟩,fun i _=>z.cps.size<=i⟩
def zh (n:String) (hn:n="str_ascii_iterator"∨n="str_iterator") (z:Str) (t:Tok) (it:Addr):Turn P w K tg (Itx z) [it] it (fun i h=>h.IsStrIter it n z t i) where
 mem:=by simp
 obj:=fun i h st b hb=>by
  have e:b=it:=by simpa using hb
  subst e;obtain⟨o,e,c,d⟩:=st;exact⟨o,e,fun v z=>by rw[d] at z;cases z⟩
 keep:=fun i h h' st k=>by obtain⟨o,e,c,d⟩:=st;exact⟨o,k it (by simp) o e,c,d⟩
 item:=by
  intro X hP hw hK hc i Yp s σ H E I hf st hg;subst hP hw hK;have hg':i<z.cps.size:=hg;have hx:z.cps[i]?=some z.cps[i]:=Array.getElem?_eq_getElem hg';obtain⟨f0,f1,f2,f3,f4,f5⟩:=hf it (by simp);have go:∀ h',h'.IsStrIter it n z t (i+1)->Heap.SameBut it s.heap h'->∃ u,some (Value.str ⟨#[z.cps[i]]⟩ s.toks)=some u ∧
    wpAny (model X.prog X.w) X.A (letOwnedTupleGo tg (.ref it) u) (fun _ s2=>∃ x H',Inv X Yp σ H' s2/\RelV x u/\(Itx z).yld i H x H'/\s2.heap.IsStrIter it n z t (i+1)/\∀ b∈[it],H' b=none) E { s with heap:=h',toks:=s.toks+1 }:=fun h' st' sb=>by
   have I1:Inv X Yp σ H { s with heap:=h',toks:=s.toks+1 }:=I.turned (t':=s.toks+1) (fun b o hb e=>(sb.2 b hb).trans e) f0 f1 f3 f4 f5;obtain⟨o,e,c,d⟩:=id st';exact⟨_,rfl,uv (s:={ s with heap:=h',toks:=s.toks+1 }) e c d (by rcases hn with rfl | rfl<;>decide) ⟨.str ⟨#[z.cps[i]]⟩,H,I1,⟨_,rfl⟩,⟨rfl,_,hx,rfl⟩,st',fun b hb=>(hf b hb).1⟩⟩
  rcases hn with rfl | rfl
  ·exact wpAny_pyNext_ascii_item st hx go
  ·exact wpAny_pyNext_wide_item st hx go
 done:=by
  intro X hP hw hK hc i Yp s σ H E I hf st hg;subst hP hw hK;have hx:z.cps[i]?=none:=xO hg;obtain⟨f0,f1,f2,f3,f4,f5⟩:=hf it (by simp);have go:∀ h',Heap.ExtBut it s.heap h'->(none:Option Value)=none/\Inv X Yp σ H { s with heap:=h' }:=fun h' eb =>⟨rfl,I.turned (t':=s.toks) (fun b o hb e=>eb b o hb e) f0 f1 f3 f4 f5⟩;rcases hn with rfl | rfl
  ·exact wpAny_pyNext_ascii_end (I.ok.hd hc) st hx go
  ·exact wpAny_pyNext_wide_end (I.ok.hd hc) st hx go
 self:=fun _ _ _ _ _ st h=>by
  rcases hn with rfl | rfl
  ·exact wpAny_pyIter_striter_ascii st h
  ·exact wpAny_pyIter_striter_wide st h
def Bm (K:Zf) (x:V) (H:Hp) (R:It->Hp->Prop):Prop:=match x with
 | .ref a=>((∃ xs,SqL K H a xs)/\R (Itl K a) H)∨((∃ xs,SqT K H a xs)/\R (Itt K a) H)
 | .str z=>R (Itx z) H
 | _=>False
def Fw (K:Zf) (te:TE):TI:=fun σ H R=>te σ H fun x H1=>Bm K x H1 R
def Lx {tg l:Expr} (hl:PE X l tl):PI X tg l (Fw X.K tl):=by
 intro Yp s σ H R I h;refine thn (hl Yp s σ H _ I h) fun v s1 ⟨x,H1,I1,r1,q1⟩=>?_;cases x with
 | ref a =>
  cases r1
  rcases q1 with ⟨⟨xs,hq⟩,q⟩ | ⟨⟨xs,hq⟩,q⟩
  ·obtain⟨its,rv,p,hz⟩:=I1.list hq;refine wpAny_pyIter_list p.isList ?_;refine⟨s1.heap.objs.size,[s1.heap.objs.size],_,_,H1,rfl,I1.kept (t':=s1.toks) fun b o e=>aL _ e,kY a _,⟨_,bj _ rfl,rfl,rfl⟩,fun b hb=>?_,q⟩;have e:b=s1.heap.objs.size:=by simpa using hb
   subst e;exact I1.tI (aq _) (I1.hok.fresh (aq _))
  ·obtain⟨its,rv,p,hz⟩:=I1.tuple hq;refine wpAny_pyIter_tuple (show s1.heap.IsTuple a its.toArray from p) ?_;refine⟨s1.heap.objs.size,[s1.heap.objs.size],_,_,H1,rfl,I1.kept (t':=s1.toks) fun b o e=>aL _ e,AI a _,⟨_,bj _ rfl,rfl,rfl⟩,fun b hb=>?_,q⟩;have e:b=s1.heap.objs.size:=by simpa using hb
   subst e;exact I1.tI (aq _) (I1.hok.fresh (aq _))
 | str z =>
  obtain⟨t,rfl⟩:=r1;cases ha:z.cps.all (·<128) with
  | true =>
   refine wpAny_pyIter_ascii ha ?_;refine⟨s1.heap.objs.size,[s1.heap.objs.size],_,_,H1,rfl,I1.kept (t':=s1.toks) fun b o e=>aL _ e,zh "str_ascii_iterator" (.inl rfl) z t _,⟨_,bj _ rfl,rfl,rfl⟩,fun b hb=>?_,q1⟩;have e:b=s1.heap.objs.size:=by simpa using hb
   subst e;exact I1.tI (aq _) (I1.hok.fresh (aq _))
  | false =>
   refine wpAny_pyIter_wide ha ?_;refine⟨s1.heap.objs.size,[s1.heap.objs.size],_,_,H1,rfl,I1.kept (t':=s1.toks) fun b o e=>aL _ e,zh "str_iterator" (.inr rfl) z t _,⟨_,bj _ rfl,rfl,rfl⟩,fun b hb=>?_,q1⟩;have e:b=s1.heap.objs.size:=by simpa using hb
   subst e;exact I1.tI (aq _) (I1.hok.fresh (aq _))
 | _=>exact False.elim q1
def cE {tg l:Expr} (hK:X.K=K) (hl:PE X l tl):PI X tg l (Fw K tl):=hK ▸ Lx hl
def HJ {σ:St}{H:Hp}{K:Zf}{tl:TE}{R:It->Hp->Prop}:Fw K tl σ H R=tl σ H fun x H1=>Bm K x H1 R:=propext Iff.rfl
def sgs (z:Str):List V:=z.cps.toList.map fun c=>V.str ⟨#[c]⟩
def Jq (z:Str):(Itx z).Seq H1 (sgs z):=fun H s=>by
 refine⟨fun i x e=>?_,fun i hi=>?_⟩
 ·unfold sgs at e;rw[bt,oJ] at e;cases hc:z.cps[i]? with
  | none=>rw[hc] at e;cases e
  | some c =>
   rw[hc] at e;have e':V.str ⟨#[c]⟩=x:=Option.some.inj e;have hi:i<z.cps.size:=by
    rcases Nat.lt_or_ge i z.cps.size with h | h
    ·exact h
    ·rw[xO h] at hc;cases hc
   exact⟨hi,fun y H' ⟨e1,d,e2,e3⟩=>⟨e1,by rw[hc] at e2;cases e2;rw[e3,e']⟩⟩
 ·show z.cps.size<=i;unfold sgs at hi
  simpa using hi
def Gw (K:Zf) (neg:Bool):R2:=fun x y H Q=>match y with
 | .str j=>match x with
  | .str i=>Q (.bl (neg != !(Builtin.Str.occurrences j i 0 j.length 1).isEmpty)) H
  | _=>False
 | .ref p=>(∃ xs,Sq K H p xs/\dZ x=true/\xs.all dZ=true/\Q (.bl (neg != inV x xs)) H)∨∃ o:Option V,oN H p x o/\Q (.bl (neg != o.isSome)) H
 | _=>False
def Lg (hu:X.A.units+1<cLine):OpR X (compareOp .In) (Gw X.K false):=by
 intro Yp s σ H x y v u Q I rx ry h;cases y with
 | str j=>cases x with
  | str i =>
   refine DB Yp s σ H _ _ v u Q I rx ry ⟨i,j,rfl,rfl,?_⟩;have h':Q (.bl (false != !(Builtin.Str.occurrences j i 0 j.length 1).isEmpty)) H:=h
   rwa [Bool.false_bne] at h'
  | _=>exact False.elim h
 | ref p =>
  rcases h with ⟨xs,hs,fx,fxs,q⟩ | ⟨o,hg,q⟩
  ·rw[Bool.false_bne] at q;exact DA Yp s σ H _ _ v u Q I rx ry ⟨p,xs,rfl,hs,fx,fxs,q⟩
  ·rw[Bool.false_bne] at q;cases ry;exact Na hu I hg rx fun s' I'=>⟨.bl _,H,I',rfl,q⟩
 | _=>exact False.elim h
def DC (hu:X.A.units+1<cLine):OpR X (compareOp .NotIn) (Gw X.K true):=by
 intro Yp s σ H x y v u Q I rx ry h;cases y with
 | str j=>cases x with
  | str i =>
   refine xu Yp s σ H _ _ v u Q I rx ry ⟨i,j,rfl,rfl,?_⟩;have h':Q (.bl (true != !(Builtin.Str.occurrences j i 0 j.length 1).isEmpty)) H:=h
   rwa [Bool.true_bne] at h'
  | _=>exact False.elim h
 | ref p =>
  rcases h with ⟨xs,hs,fx,fxs,q⟩ | ⟨o,hg,q⟩
  ·rw[Bool.true_bne] at q;exact xt Yp s σ H _ _ v u Q I rx ry ⟨p,xs,rfl,hs,fx,fxs,q⟩
  ·rw[Bool.true_bne] at q;cases ry;exact Ic hu I hg rx fun s' I'=>⟨.bl _,H,I',rfl,q⟩
 | _=>exact False.elim h
def lZ (hK:X.K=K) (hu:X.A.units+1<cLine):OpR X (compareOp .In) (Gw K false):=hK ▸ Lg hu
def vW (hK:X.K=K) (hu:X.A.units+1<cLine):OpR X (compareOp .NotIn) (Gw K true):=hK ▸ DC hu
def wN (x:Str) (c:Nat):(!(Builtin.Str.occurrences x ⟨#[c]⟩ 0 x.length 1).isEmpty)=decide (c∈x.cps.toList):=StrLaws.found_one x c
def zk {c i:Nat}:StrLaws.At x ⟨#[c]⟩ x.length i↔x.cps.toList[i]?=some c:=by
 unfold StrLaws.At Builtin.Str.subAt;show i+1<=x.cps.size/\(x.cps.extract i (i+1)==#[c])=true↔_;rw[oJ];constructor
 ·rintro⟨h1,h2⟩;have e:=eq_of_beq h2;have:x.cps[i]?=(x.cps.extract i (i+1))[0]?:=by
   rw[Array.getElem?_extract];simp;left
  rw[this,e];rfl
 ·intro h;have hi:i<x.cps.size:=by
   rcases Nat.lt_or_ge i x.cps.size with h' | h'
   ·exact h'
   ·rw[xO h'] at h;cases h
  refine⟨hi,?_⟩;have:x.cps.extract i (i+1)=#[c]:=by
   apply Array.ext
   ·simp;left
   ·intro j h1 h2;have hj:j=0:=by simp at h2;left
    subst hj;have e:=Array.getElem?_eq_getElem hi;rw[h] at e;simp [Option.some.inj e]
  rw[this];exact oq _
def EY {c:Nat} (h:c∈x.cps.toList):Txt.find x ⟨#[c]⟩=((x.cps.toList.idxOf c:Nat):Int):=by
 have hi:x.cps.toList.idxOf c<x.cps.toList.length:=List.idxOf_lt_length_of_mem h;have hg:x.cps.toList[x.cps.toList.idxOf c]?=some c:=by rw[b9 hi,List.getElem_idxOf]
 rcases find_whole x ⟨#[c]⟩ with ⟨_,hn⟩ | ⟨i,e,hi2,hn⟩
 ·exact absurd (zk.mpr hg) (hn _)
 ·rw[e];have h1:¬ x.cps.toList.idxOf c<i:=fun z=>hn _ z (zk.mpr hg);have h2:=zk.mp hi2;have h3:x.cps.toList.idxOf c<=i:=by
   rcases Nat.lt_or_ge i (x.cps.toList.idxOf c) with z | z
   ·obtain⟨hl,e2⟩:=bN.mp h2;have h5:=List.not_of_lt_findIdx (p:=(·==c)) (xs:=x.cps.toList) (i:=i) z;rw[e2] at h5;simp at h5
   ·exact z
  congr 1
  left
def BD:V->List V->Hp->VK->Prop:=fun x vs H Q=>match x,vs with
 | .str z,[.str y]=>0<=Txt.find z y/\Q (.int (Txt.find z y)) H
 | _,_=>False
def Dx :MtM X "str.index" BD:=by
 intro Yp s σ H x vs v us Q I rx rv h
 match x,vs,h with
 | .str z,[.str y],h =>
  obtain⟨t,rfl⟩:=rx;obtain⟨u,rfl,t',rfl⟩:=rv.one;cases ho:Builtin.Str.occurrences z y 0 z.length 1 with
  | nil =>
   have e:Txt.find z y=-1:=by simp [Txt.find,ho]
   have h1:=h.1;rw[e] at h1;exact absurd h1 (by decide)
  | cons i rest =>
   have e:Txt.find z y=(i:Int):=by simp [Txt.find,ho]
   refine SC.index ho ?_;have h2:=h.2;rw[e] at h2;exact⟨.int _,H,I.tok _,⟨_,rfl⟩,h2⟩
def Jw {ys:Ze}:∀ {us:Zc},Vals (ys.map V.str) us->StrsAre us ys:=by
 induction ys with
 | nil=>intro us r;cases r;exact .nil
 | cons y r ih =>
  intro us h;cases h with
  | cons h1 h2 =>obtain⟨t,rfl⟩:=h1;exact .cons _ _ (ih h2)
def As (K:Zf):V->List V->Hp->VK->Prop:=fun x vs H Q=>match x,vs with
 | .str z,[.ref p]=>∃ ys:Ze,SqL K H p (ys.map V.str)/\(ys.map (·.length)).sum+ys.length*z.length<=16777216/\Q (.str (Txt.join z ys)) H
 | _,_=>False
def FO :MtM X "str.join" (As X.K):=by
 intro Yp s σ H x vs v us Q I rx rv h
 match x,vs,h with
 | .str z,[.ref p],h =>obtain⟨ys,hs,hl,q⟩:=h;obtain⟨t,rfl⟩:=rx;obtain⟨u,rfl,ru⟩:=rv.one;cases ru;obtain⟨its,rv2,pl,hz⟩:=I.list hs;exact join_list pl.isList (by simpa using Jw rv2) hl fun t' k=>⟨.str _,H,I.tok _,⟨_,rfl⟩,q⟩
def qi (hK:X.K=K):MtM X "str.join" (As K):=hK ▸ FO
def ux (ls:List (Za)):Txt.join (tx []) (ls.map tx)=tx ls.flatten:=by
 have go:∀ (r:List (Za)) (acc:Za),(r.map tx).foldl (fun acc p=>acc++(tx []).cps++p.cps) acc.toArray=(acc++r.flatten).toArray:=by
  intro r
  induction r with
  | nil=>intro acc;simp
  | cons a r ih =>
   intro acc;rw[bp,List.foldl_cons];have e:acc.toArray++(tx []).cps++(tx a).cps=(acc++a).toArray:=by simp [tx]
   rw[e,ih];simp
 unfold Txt.join Builtin.Str.glued;cases ls with
 | nil=>rfl
 | cons a r =>have:=go r a;show Str.mk ((r.map tx).foldl (fun acc p=>acc++(tx []).cps++p.cps) a.toArray)=tx (a::r).flatten;rw[this];rfl
def zW (l:Za):Txt.join (tx []) (l.map fun c=>tx [c])=tx l:=by
 have:=ux (l.map fun c=>[c]);rw[aX] at this;rw[show (l.map fun c=>tx [c])=l.map (tx ∘ fun c=>[c]) from rfl,this]
 congr 1
 induction l with
 | nil=>rfl
 | cons a r ih=>rw[bp,nR,ih (by have:=ux (r.map fun c=>[c]);rw[aX] at this;exact this)];rfl
section
variable {α β:Type}
noncomputable def pull {γ:Type} (e:α->V) (f:α->γ) (d:γ) (v:V):γ:=open Classical in if h:∃ a,e a=v then f (Classical.choose h) else d
def jY {γ:Type}{e:α->V} (inj:∀ a b,e a=e b->a=b) (f:α->γ) (d:γ) (a:α):pull e f d (e a)=f a:=by unfold pull;have h:∃ b,e b=e a:=⟨a,rfl⟩;rw[dif_pos h,inj _ _ (Classical.choose_spec h)]
def gr:∀ a b:Int,V.int a=V.int b->a=b:=fun _ _ h=>by cases h;rfl
def uw:∀ a b:Nat,V.str ⟨#[a]⟩=V.str ⟨#[b]⟩->a=b:=fun _ _ h=>by cases h;rfl
def FD {xs:List α}{js:Za}{σ:St}{tc:TT}{te:TE}{Q:VK} (e:α->V) (inj:∀ a b,e a=e b->a=b) (hJ:J.Seq H1 (xs.map e)) (hl:xs.length<sizeLine) (p:α->Bool) (f:α->V)
  (hc:∀ x∈xs,∀ H,ax H1 H->∀ R:Bool->Hp->Prop,(∀ H',ax H H'->R (p x) H')->tc (some (e x)::js.map fun j=>(σ[j]?).join) H R)
  (he:∀ x∈xs,p x=true->∀ H,ax H1 H->∀ R:VK,(∀ H',ax H H'->R (f x) H')->te (some (e x)::js.map fun j=>(σ[j]?).join) H R)
  (q:∀ D H,H1 D=none->ax H1 H->H D=some (.lst ((xs.filter p).map f))->Q (.ref D) H):gq (gK 0) tc te (ic 1 js σ) J H1 Q:=by
 refine zZ hJ (by rw[ak];exact hl) (pull e p false) (pull e f .non) ?_ ?_ ?_
 ·intro v hv H s R hR;obtain⟨x,hx,rfl⟩:=aD.mp hv;rw[jY inj] at hR;exact hc x hx H s R hR
 ·intro v hv hp H s R hR;obtain⟨x,hx,rfl⟩:=aD.mp hv;rw[jY inj] at hR hp;exact he x hx hp H s R hR
 ·intro D H h1 h2 h3;refine q D H h1 h2 ?_;rw[h3,nQ,aX]
  congr 2
  have e1:pull e f .non ∘ e=f:=funext fun a=>jY inj f .non a;have e2:pull e p false ∘ e=p:=funext fun a=>jY inj p false a;rw[e1,e2]
def tK {xs:List α}{js:Za}{σ:St}{te:TE}{Q:VK} (e:α->V) (inj:∀ a b,e a=e b->a=b) (hJ:J.Seq H1 (xs.map e)) (hl:xs.length<sizeLine) (f:α->V)
  (he:∀ x∈xs,∀ H,ax H1 H->∀ R:VK,(∀ H',ax H H'->R (f x) H')->te (some (e x)::js.map fun j=>(σ[j]?).join) H R)
  (q:∀ D H,H1 D=none->ax H1 H->H D=some (.lst (xs.map f))->Q (.ref D) H):gq (gK 0) DS te (ic 1 js σ) J H1 Q :=
 FD e inj hJ hl (fun _=>true) f (fun x _ H _ R hR=>hR H (ax.refl H)) (fun x hx _ H s R hR=>he x hx H s R hR) fun D H h1 h2 h3=>q D H h1 h2 (by rw[nO.mpr (fun _ _=>rfl)] at h3;exact h3)
def Mi {K:Zf}{a b:Addr}{H1:Hp}{xs:List α}{ys:List β}{js:Za}{σ:St}{te:TE}{Q:VK} (e:α->V) (e':β->V) (inj:∀ a b,e a=e b->a=b) (inj':∀ a b,e' a=e' b->a=b)
  (hx:SqL K H1 a (xs.map e)) (hy:SqL K H1 b (ys.map e')) (hl:xs.length<sizeLine) (f:α->β->V)
  (he:∀ x y,(x,y)∈xs.zip ys->∀ H,ax H1 H->∀ R:VK,(∀ H',ax H H'->R (f x y) H')->te (some (e x)::some (e' y)::js.map fun j=>(σ[j]?).join) H R)
  (q:∀ D H,H1 D=none->ax H1 H->H D=some (.lst ((xs.zip ys).map fun p=>f p.1 p.2))->Q (.ref D) H):gq (Fi K 2 (sN (gK 0) (sN (gK 1) Fh))) DS te (ic 2 js σ) (Itz K a b) H1 Q:=by
 refine KQ hx hy (by rw[ak];exact hl) (fun v u=>pull e (fun x=>pull e' (f x) .non u) .non v) ?_ ?_
 ·intro v u hvu H s R hR;rw[List.zip_map,aD] at hvu;obtain⟨⟨x,y⟩,hxy,e2⟩:=hvu;cases e2;have e3:pull e (fun x=>pull e' (f x) .non (e' y)) .non (e x)=f x y:=by rw[jY inj,jY inj']
  exact he x y hxy H s R (fun H' s'=>by have:=hR H' s';rwa [e3] at this)
 ·intro D H h1 h2 h3;refine q D H h1 h2 ?_;rw[h3,List.zip_map,aX]
  congr 2
  refine nT fun ⟨x,y⟩ _=>?_;show pull e (fun x=>pull e' (f x) .non (e' y)) .non (e x)=f x y;rw[jY inj,jY inj']
end
def va (z:Str):(Itx z).Seq H1 (z.cps.toList.map fun c=>V.str ⟨#[c]⟩):=Jq z
def qL {x:V}{t:Tg} (ht:fT H x=some t) (hs:∀ z,x≠.str z):t≠.str:=fun e=>by
 subst e;cases x with
 | str z=>exact hs z rfl
 | ref a =>
  have h':mF (H a)=some .str:=ht;cases e:H a with
  | none=>rw[e] at h';cases h'
  | some o=>rw[e] at h';cases o with
   | frz ob u=>cases u<;>cases h'
   | _=>cases h'
 | _=>cases ht
def zt {a b:Int} (ha:0<=a/\a<1000) (hb:0<=b/\b<1000):Hv a b :=
 ⟨bE (show a.natAbs<1000 by left) Zd,bE (show b.natAbs<1000 by left) Zd⟩
def pW {t u:TS} (R:St->Hp->Prop) (h2:∀ σ' H',R σ' H'->u D σ' H') (h1:∀ U:St->Hp->Prop,(∀ σ' H',R σ' H'->U σ' H')->t { D with nx:=U } σ H):AD t u D σ H:=h1 _ h2
def jv {l:List α}{i:Int}{v:α} (h0:0<=i) (h1:l[i.toNat]?=some v):atI l i=some v:=by
 have:=bf h1
 rwa [lq h0] at this
def vC:(Str.ofString "abcdefghijklmnopqrstuvwxyz").cps.toList=List.range' 97 26:=by nofun
def EI:Str.ofString ""=tx []:=by nofun
def Fz {D:Addr}{l:Za} (h:H D=some (.lst (l.map fun c=>V.str (tx [c])))):SqL K H D ((l.map fun c=>tx [c]).map V.str):=.of (by rw[h,aX];rfl)
def Fy {l:Za} (hl:l.length<=100000):((l.map fun c=>tx [c]).map (·.length)).sum+(l.map fun c=>tx [c]).length*(Str.ofString "").length<=16777216:=by
 have e2:(Str.ofString "").length=0:=by nofun
 rw[e2,Nat.mul_zero,Nat.add_zero,aX];have e:∀ l:Za,(l.map ((fun x:Str=>x.length) ∘ fun x=>tx [x])).sum=l.length:=by
  intro l
  induction l with
  | nil=>rfl
  | cons a r ih=>rw[bp,iL,ih,aN];show (tx [a]).length+_=_;rw[bM];simp;left
 rw[e];left
def Bo (l:Za):Txt.join (Str.ofString "") (l.map fun c=>tx [c])=tx l:=by rw[EI,zW]
end
section
def DK (h h':Heap):Prop:=∀ b o,h.get? b=some o->∃ o',h'.get? b=some o'/\o'.cls=o.cls/\o'.dict=o.dict/\(∀ vs,o.data=.fields vs->∃ vs',o'.data=.fields vs'/\vs'[2]?=vs[2]?)
def DK.refl (h:Heap):DK h h:=fun b o e=>⟨o,e,rfl,rfl,fun vs q=>⟨vs,q,rfl⟩⟩
def DK.trans {h1 h2 h3:Heap} (x:DK h1 h2) (y:DK h2 h3):DK h1 h3:=fun b o e=>by obtain⟨o1,e1,c1,d1,f1⟩:=x b o e;obtain⟨o2,e2,c2,d2,f2⟩:=y b o1 e1;exact⟨o2,e2,c2.trans c1,d2.trans d1,fun vs q=>by obtain⟨v1,q1,g1⟩:=f1 vs q;obtain⟨v2,q2,g2⟩:=f2 v1 q1;exact⟨v2,q2,g2.trans g1⟩⟩
def DK.push (h:Heap) (o:Obj):DK h (h.push o):=fun b u e=>⟨u,aL _ e,rfl,rfl,fun vs q=>⟨vs,q,rfl⟩⟩
structure KD {α:Type} (m:Sem α):Prop where
 out:∀ (M:Model) (Γ:PySem.Ctx) (P:α->Pos->Zg->Prop) (Ee:Value->Pos->Zg->Prop) (p:Pos) (s:Zg),Sem.wp M Γ m P Ee p s →
  Sem.wp M Γ m (fun a p' s'=>P a p' s'/\DK s.heap s'.heap) (fun e p' s'=>Ee e p' s'/\DK s.heap s'.heap) p s
namespace KD
variable {α β:Type}
def pure (a:α):KD (Pure.pure a:Sem α):=⟨fun _ _ _ _ _ s h=>⟨h,DK.refl _⟩⟩
def unsupported (w:String):KD (PySem.unsupported w:Sem α):=⟨fun _ _ _ _ _ _ h=>h⟩
def bind {m:Sem α}{f:α->Sem β} (hm:KD m) (hf:∀ a,KD (f a)):KD (m >>= f):=⟨fun M Γ P Ee p s h=>by rw[Sem.wp_bind'] at h ⊢;refine Sem.wp_mono M Γ m (fun a p' s' h'=>?_) (fun _ _ _ x=>x) p s (hm.out M Γ _ _ p s h);refine Sem.wp_mono M Γ (f a) (fun b p2 s2 h2=>⟨h2.1,h'.2.trans h2.2⟩) (fun e p2 s2 h2=>⟨h2.1,h'.2.trans h2.2⟩) p' s' ((hf a).out M Γ P Ee p' s' h'.1)⟩
def ite {c:Prop} [Decidable c] {t u:Sem α} (ht:KD t) (hu:KD u):KD (if c then t else u):=by split<;>assumption
def load (a:Addr):KD (PySem.load a):=⟨fun _ _ _ _ _ s h=>by obtain⟨o,e,q⟩:=h;exact⟨o,e,q,DK.refl _⟩⟩
def stack:KD PySem.stack:=⟨fun M Γ P Ee p s h=>by unfold PySem.stack at h ⊢;rw[Sem.wp_stack] at h ⊢;exact⟨h,DK.refl _⟩⟩
def alloc (o:Obj):KD (PySem.alloc o):=⟨fun _ _ _ _ _ s h=>⟨h,DK.push _ _⟩⟩
def field (v:Value) (i:Nat):KD (PySem.field v i):=⟨fun _ Γ P Ee p s h=>by rw[wp_field_iff] at h ⊢;obtain⟨a,o,vs,x,e1,e2,e3,e4,q⟩:=h;exact⟨a,o,vs,x,e1,e2,e3,e4,q,DK.refl _⟩⟩
def update {a:Addr}{f:Obj->Obj} (hf:∀ o,(f o).cls=o.cls/\(f o).dict=o.dict/\(f o).isFreed=o.isFreed/\∀ vs,o.data=.fields vs->∃ vs',(f o).data=.fields vs'/\vs'[2]?=vs[2]?):KD (PySem.update a f):=⟨fun _ _ _ _ _ s h=>by
 refine⟨h.1,h.2,fun b o e=>?_⟩
 by_cases hb:b=a
 ·subst hb;obtain⟨h1,h2,h3,h4⟩:=hf o;have hfr:o.isFreed=false:=(Heap.get?_some_iff.mp e).2;exact⟨f o,lb _ e (by rw[h3];exact hfr),h1,h2,h4⟩
 ·exact⟨o,(gZ _ _ (cI hb)).trans e,rfl,rfl,fun vs q=>⟨vs,q,rfl⟩⟩⟩
def setField (v:Value) (i:Nat) (x:Value) (hi:i≠2):KD (PySem.setField v i x):=⟨fun _ Γ P Ee p s h=>by
 rw[wp_setField_iff] at h ⊢;obtain⟨a,o,vs,e1,e2,e3,e4,q⟩:=h;refine⟨a,o,vs,e1,e2,e3,e4,q,fun b u e=>?_⟩
 by_cases hb:b=a
 ·subst hb;rw[e2] at e;cases e;have hd:=Obj.data_mapFields e3 (·.setIfInBounds i x);exact⟨_,lb _ e2 (Obj.isFreed_of_fields hd),Obj.cls_mapFields ..,by cases o with | mk c d dt sl=>cases dt<;>first | rfl,fun vs' q=>⟨_,hd,by rw[e3] at q;cases q;exact Array.getElem?_setIfInBounds_ne hi⟩⟩
 ·exact⟨u,(gZ _ _ (cI hb)).trans e,rfl,rfl,fun vs q=>⟨vs,q,rfl⟩⟩⟩
def slots {a:Addr}{g:Obj->Array (Option Value)}:KD (PySem.update a fun o=>{ o with slots:=g o }):=update fun o=>⟨rfl,rfl,by cases o with | mk c d dt sl=>cases dt<;>rfl,fun vs q=>⟨vs,q,rfl⟩⟩
end KD
def Dp (env:Env) (outer:List Env):KD (behindIsImport env outer):=by
 unfold behindIsImport
 repeat' with_reducible first | exact KD.pure _ | exact KD.field _ _ | apply KD.ite | apply KD.bind | intro _
def Dq:KD underTheClaimsCaller:=by
 unfold underTheClaimsCaller
 repeat' with_reducible first | exact KD.pure _ | exact KD.stack | exact KD.unsupported _ | exact KD.field _ _ | apply KD.ite | apply KD.bind | intro _ | split
def IE (env:Env) (i:Bool) (l:List Env):KD (keptBack env i l):=by have:=Dq;cases l<;>unfold keptBack<;>repeat' with_reducible first | assumption | exact KD.pure _ | apply KD.ite | apply KD.bind | intro _
theorem yt:∀ l:List Env,KD (readyFrames l)
 | []=>KD.pure _
 | env::outer=>by
  have ih:=yt outer;have h1:=Dp env outer;have h2:=fun i=>IE env i outer;unfold readyFrames;split
  ·refine KD.bind (KD.load _) fun o=>KD.ite (KD.pure _) (KD.bind h1 fun b=>KD.bind (h2 b) fun v=>KD.bind KD.slots fun _=>ih)
  ·exact KD.unsupported _
def uy (l:List Env):KD (frameObject l):=by
 cases l with
 | nil=>exact KD.pure _
 | cons a r=>unfold frameObject;exact KD.bind (yt _) fun _=>KD.pure _
def zX (env:Env):KD (PySem.frameOf env):=by
 unfold PySem.frameOf frameEnvs;refine KD.bind (KD.bind KD.stack fun _=>KD.pure _) fun l=>KD.bind (uy _) fun o=>?_;cases o with
 | none=>exact KD.unsupported _
 | some v=>exact KD.pure _
def F2 (f:Addr) (b:Bool):KD (entryPlaceOf f b):=by
 unfold entryPlaceOf
 repeat' with_reducible first | exact KD.pure _ | exact KD.stack | exact KD.unsupported _ | apply KD.ite | apply KD.bind | intro _ | split
def F1 (a b c d e:Value) (l:Zc):KD (EntryCells.newEntry a b c d e l):=by
 unfold EntryCells.newEntry newFields newObj newObjAsIs
 repeat' first | exact KD.pure _ | exact KD.alloc _ | exact KD.unsupported _ | apply KD.ite | apply KD.bind | intro _ | split
def wQ (e:Value) (env:Env):KD (noteFrame e env):=by
 unfold noteFrame;have h1:=zX env;have h2:=F2;have h3:=F1;split
 ·repeat' with_reducible first | exact KD.pure _ | exact KD.field _ _ | exact KD.setField _ _ _ (by decide) | exact h1 | exact h2 _ _ | exact h3 _ _ _ _ _ _ | apply KD.ite | apply KD.bind | intro _
 ·exact KD.unsupported _
def kM (e:Value) (o:Option Addr):KD (setFlight e o):=by
 unfold setFlight
 repeat' with_reducible first | exact KD.pure _ | exact KD.field _ _ | exact KD.setField _ _ _ (by decide) | apply KD.ite | apply KD.bind | intro _
def uz (env:Env) (e:Value):KD (leaving env e):=by unfold leaving;exact KD.bind (wQ _ _) fun _=>kM _ _
def KD.any {t:Sem α}{Q:α->Zg->Prop} (k:KD t) (h:wpAny M A t Q E s) :
  wpAny M A t (fun a s'=>Q a s'/\DK s.heap s'.heap) (fun e s'=>E e s'/\DK s.heap s'.heap) s:=fun Γ p hΓ=>k.out M Γ _ _ p s (h Γ p hΓ)
def Af (x:bT P w H h a o):∃ u,h.get? a=some u:=by
 cases o with
 | lst xs=>obtain⟨_,_,_,_,e⟩:=x;exact⟨_,e⟩
 | tup xs=>obtain⟨_,_,_,ob,e,_⟩:=x;exact⟨_,e⟩
 | dK kvs=>obtain⟨_,_,_,_,ob,_,_,e,_⟩:=x;exact⟨_,e⟩
 | dT kvs=>obtain⟨_,_,_,_,ob,_,_,e,_⟩:=x;exact⟨_,e⟩
 | set S n=>obtain⟨ob,_,_,_,e,_⟩:=x;exact⟨_,e⟩
 | ins C dx fs=>obtain⟨_,_,_,e,_⟩:=x;exact⟨_,e⟩
 | own y=>exact x
 | xd fs=>obtain⟨_,⟨od,_,_,e,_⟩,_⟩:=x;exact⟨_,e⟩
 | rng lo hi=>obtain⟨_,_,_,e⟩:=x;exact⟨_,e⟩
 | frz ob u=>exact⟨_,x.1⟩
 | tbl ps=>obtain⟨_,e,_⟩:=x;exact⟨_,e⟩
 | met f y=>exact⟨_,x⟩
 | ext φ=>exact x.2.1
def XD (o:Obj) (d:Option Addr):Prop:=o.dict=d/\∃ vs,o.data=.fields vs/\vs[2]?=some .none
def XD.dk {o o':Obj} (x:XD o d) (h:o'.dict=o.dict) (f:∀ vs,o.data=.fields vs->∃ vs',o'.data=.fields vs'/\vs'[2]?=vs[2]?):XD o' d:=by obtain⟨x1,vs,x2,x3⟩:=x;obtain⟨vs',y1,y2⟩:=f vs x2;exact⟨h.trans x1,vs',y1,y2.trans x3⟩
def CX1 (P:Zh) (w:Zi):CXT:=fun outer H s E e s'=>∃ (ea C t:Addr) (B:Heap) (H':Hp) (d:Option Addr),e=.ref ea/\s'.os=s.os/\AllBare s'.gens/\Un (frs outer) [] H H' s.heap s'.heap/\HOk P w H' s'.heap ∧
 Heap.FlyingW B outer ea (.ref C) (.ref t) s'.heap/\(∃ oe,s'.heap.get? ea=some oe/\XD oe d)/\(∀ dx,d=some dx->∃ fs,H' dx=some (.xd fs)) ∧
 (∀ b o,s'.heap.get? b=some o->b∉frs outer->(H' b≠none∨∃ u,s.heap.get? b=some u)->B.get? b=some o)/\E (.ref C) d H'
section
variable {X:Cx}{Yp:Zp}{σ:St}{H:Hp}{s:Zg}
def xY {B h':Heap} (I:Inv X Yp σ H s) (hst:X.stack=X.env::X.outer) (hf:X.env.frame=some X.env.locals) (hex:X.ex=[]) (hB:B.StaysIn h') (hsm:s.heap.UpToSlots h')
  (hk:∀ b o,s.heap.get? b=some o->b∉frs X.stack->(H b≠none∨∃ u,X.s₀.heap.get? b=some u)->B.get? b=some o) :
  Un (frs X.outer) [] X.H₀ H X.s₀.heap h'/\HOk X.prog X.w H h'/\∀ b o,h'.get? b=some o->b∉frs X.outer->(H b≠none∨∃ u,X.s₀.heap.get? b=some u)->B.get? b=some o:=by
 have hfs:frs X.stack=X.env.locals::frs X.outer:=by rw[hst];unfold frs;rw[nM,hf]
 have old:∀ b u,X.s₀.heap.get? b=some u->b≠X.env.locals:=fun b u e z=>absurd (bE (aM e) (by rw[z];exact I.ok.above)) (iM _);have nstk:∀ b,b≠X.env.locals->b∉frs X.outer->b∉frs X.stack:=fun b h1 h2 z=>by rw[hfs] at z;rcases aJ.mp z with z | z;exact h1 z;exact h2 z
 have trk:∀ b,H b≠none->b∉frs X.stack:=fun b h1 z=>h1 (I.qK b z);have nx:∀ b:Addr,b∉X.ex:=fun b=>by rw[hex];simp
 have fr:∀ b,b∈frs X.outer->∃ o,s.heap.get? b=some o/\∀ vs,o.data≠.fields vs:=fun b hb=>(I.stack.mem (show b∈frs X.stack by rw[hfs];exact bD _ hb)).2;have tkeep:∀ b o,H b≠none->s.heap.get? b=some o->h'.get? b=some o:=fun b o h1 e=>hB b o (hk b o e (trk b h1) (.inl h1));have okeep:∀ b o u,X.s₀.heap.get? b=some u->b∉frs X.outer->s.heap.get? b=some o->h'.get? b=some o:=fun b o u e0 h2 e=>hB b o (hk b o e (nstk b (old b u e0) h2) (.inr ⟨u,e0⟩));refine⟨⟨fun b o e n hb _=>?_,fun b o e n hb _=>?_,fun b o e n _=>I.base.free b o e n (nx b),fun b o e _=>?_,I.base.tups,I.base.frzs,I.base.tbls⟩,fun a o e=>?_,fun b o e hb hc=>?_⟩
 ·exact okeep b o o e hb (I.base.keep b o e n hb (nx b))
 ·obtain⟨sl,e1⟩:=I.base.slot b o e n hb (nx b);obtain⟨o1,e2,hd⟩:=fr b hb;rw[e1] at e2;cases e2;obtain⟨sl',e3⟩:=hsm b _ e1 hd;exact⟨sl',e3⟩
 ·obtain⟨o1,e1⟩:=I.base.there b o e (nx b)
  by_cases hb:b∈frs X.outer
  ·obtain⟨o2,e2,hd⟩:=fr b hb;obtain⟨sl',e3⟩:=hsm b _ e2 hd;exact⟨_,e3⟩
  ·exact⟨o1,okeep b o1 o e hb e1⟩
 ·refine (I.hok a o e).pL (fun c v hc q=>tkeep c v ?_ q) (fun _ q=>q) fun _ _ q=>q;rcases hc with z | z
  ·rw[z,e];simp
  ·rw[z];simp
 ·rcases hc with h1 | ⟨u,e0⟩
  ·cases q:H b with
   | none=>exact absurd q h1
   | some ob =>obtain⟨o1,e1⟩:=Af (I.hok b ob q);have:=tkeep b o1 h1 e1;rw[e] at this;cases this;exact hk b o e1 (trk b h1) (.inl h1)
  ·obtain⟨o1,e1⟩:=I.base.there b u e0 (nx b);have:=okeep b o1 u e0 hb e1;rw[e] at this;cases this;exact hk b o e1 (nstk b (old b u e0) hb) (.inr ⟨u,e0⟩)
def Eg (X:Cx) (E:St->XK):Prop:=∀ (Yp:Zp) (σ:St) (H:Hp) (s:Zg) (h1:Heap) (e C:Addr) (vs:Zc),Inv X Yp σ H s->Heap.MadeExcOf s.heap h1 e (.ref C) vs->E σ (.ref C) none H->X.xe (.ref e) { s with heap:=h1 }
end
section
variable {P:Zh}{w:Zi}{K:Zf}{mg:Zk}{base:Heap}{N:Ze}{qual:Str}{scope:Scope}{f:Addr}{cd:Value}{A:Around}{outer:List Env}{s:Zg}{H:Hp}{E:XK}
def aw:Passes (CX1 P w) (rK (CX1 P w) P w K mg base N qual scope f cd A outer s H E) (fun _=>E):=by intro Yp σ H1 s1 e s' I h;obtain⟨ea,C,t,B,H',d,rfl,os,bare,un,hok,fl,⟨oe,hoe,hdo⟩,hdx,hkb,hE⟩:=h;have I':=I.ue (ch:=[]) os un hok bare (fun b z=>absurd z (by simp));show wpAny _ _ _ _ _ _;refine bB (KD.any (E:=fun _ _=>False) (uz _ _) (wpAny_leaves_onW (Q:=fun _ s''=>∃ h',s''={ s' with heap:=h' }/\Heap.FlyingW B outer ea (.ref C) (.ref t) h'/\s'.heap.UpToSlots h') I.ok.frames rfl fl fun h' x1 x2=>⟨h',rfl,x1,x2⟩)) ?_ (fun _ _ z=>False.elim z.1);rintro _ s'' ⟨⟨h',rfl,x1,x2⟩,dk⟩;obtain⟨u1,u2,u3⟩:=xY (B:=B) (h':=h') I' rfl rfl rfl x1.1 x2 (fun b o e1 e2 e3=>hkb b o e1 e2 (e3.elim .inl fun ⟨u,e0⟩=>.inr (I.base.there b u e0 (by show b∉([]:List Addr);simp))));obtain⟨oe',hoe',_,hd',hg'⟩:=dk ea oe hoe;exact⟨ea,C,t,B,H',d,rfl,I'.os,I'.bare,u1,u2,x1,⟨oe',hoe',hdo.dk hd' hg'⟩,hdx,u3,hE⟩
def cy:Eg (rK (CX1 P w) P w K mg base N qual scope f cd A outer s H E) (fun _=>E):=by intro Yp σ H1 s1 h1 e C vs I hx hE;show wpAny _ _ _ _ _ _;have hin:∀ env∈(envOfC qual scope s.heap.objs.size f cd::outer),∀ b,env.frame=some b->b∈frs (envOfC qual scope s.heap.objs.size f cd::outer):=fun env he b hb=>List.mem_filterMap.mpr ⟨env,he,hb⟩;have st:(PySem.W.hideAll s1.heap (frs (envOfC qual scope s.heap.objs.size f cd::outer))).StaysIn s1.heap:=fun b o q=>PySem.W.of_hideAll _ q;have ff:s1.heap.FunFrames (PySem.W.hideAll s1.heap (frs (envOfC qual scope s.heap.objs.size f cd::outer))) (envOfC qual scope s.heap.objs.size f cd::outer):=PySem.W.funFrames_hide I.stack hin;obtain⟨tt,het,_,_⟩:=hx.there;refine bB (KD.any (E:=fun _ _=>False) (uz _ _) (wpAny_leaves_madeW (s:={ s1 with heap:=h1 }) (Q:=fun _ s''=>∃ h' t,s''={ s1 with heap:=h' }/\Heap.FlyingW (PySem.W.hideAll s1.heap (frs (envOfC qual scope s.heap.objs.size f cd::outer))) outer e (.ref C) (.ref t) h'/\h1.UpToSlots h') I.ok.frames rfl st ff hx fun h' t x1 _ _ x4=>⟨h',t,rfl,x1,x4⟩)) ?_ (fun _ _ z=>False.elim z.1);rintro _ s'' ⟨⟨h',t,rfl,x1,x4⟩,dk⟩;obtain⟨u1,u2,u3⟩:=xY (h':=h') I rfl rfl rfl x1.1 ((Heap.UpToSlots.of_keeps hx.keeps).trans x4) (fun b o e1 e2 _=>PySem.W.hideAll_get _ e1 e2);obtain⟨oe',hoe',_,hd',hg'⟩:=dk e _ het;exact⟨e,C,t,_,H1,none,rfl,I.os,I.bare,u1,u2,x1,⟨oe',hoe',XD.dk ⟨rfl,_,rfl,rfl⟩ hd' hg'⟩,(fun dx z=>by cases z),u3,hE⟩
end
def gO :Passes (CX1 P w) X E0:=fun _ _ _ _ _ _ _ h=>by obtain⟨_,_,_,_,_,_,_,_,_,_,_,_,_,_,_,z⟩:=h;exact z.elim
def vH {outer:List Env}{e:Value}{s':Zg} (h:CX1 P w outer H s (fun _ _ _=>False) e s'):False:=by obtain⟨_,_,_,_,_,_,_,_,_,_,_,_,_,_,_,z⟩:=h;exact z
section
variable {P:Zh}{w:Zi}{K:Zf}{mg:Zk}{base:Heap}
def Fun.okX {x qual:Str}{N ps:Ze}{k:Nat} (F:Fun K x qual st f fd) (S:aI N ps (av st)) (len:∀ vs H Q E,sp vs H Q E->vs.length=ps.length)
  (hbody:∀ (cdv:Value) (A:Around) (outer:List Env) (s:Zg) (H:Hp) (vs:List V) (Q:VK) (E:XK),dw k (A.deeper (envOfC qual (av st) s.heap.objs.size f cdv))->sp vs H Q E →
   ∃ t,PSs (rK (CX1 P w) P w K mg base N qual (av st) f cdv A outer s H E) (bW st) t/\t { nx:=fun _ H'=>Q .non H',rt:=Q } (start N vs) H):bS P w K mg base (CX1 P w) (k+1) f fd ps sp:=by
 obtain⟨oc,od,kV,doc,pm,an,cdv,ct,osl,rfl,lk,hcd⟩:=F.ex;exact J7 lk hcd S len fun A outer s H vs Q E hr hsp=>hbody cdv A outer s H vs Q E hr hsp
def Fun.okN {x qual:Str}{N ps:Ze}{k:Nat} (F:Fun K x qual st f fd) (S:aI N ps (av st)) (len:∀ vs H Q E,sp vs H Q E->vs.length=ps.length)
  (hbody:∀ (cdv:Value) (A:Around) (outer:List Env) (s:Zg) (H:Hp) (vs:List V) (Q:VK) (E:XK),fw k (A.deeper (envOfC qual (av st) s.heap.objs.size f cdv))->fz A.handled H->sp vs H Q E →
   ∃ t,PSs (vI (CX1 P w) P w K mg base N qual (av st) f cdv A outer s H E).nox (bW st) t/\t { nx:=fun _ H'=>Q .non H',rt:=Q } (start N vs) H):pO P w K mg base (CX1 P w) (k+1) f fd ps sp:=by
 obtain⟨oc,od,kV,doc,pm,an,cdv,ct,osl,rfl,lk,hcd⟩:=F.ex;refine K4 lk hcd S len fun A outer s H vs Q E hr hin hsp=>?_;obtain⟨t,h,q⟩:=hbody cdv A outer s H vs Q E hr hin hsp;exact⟨t,h.nox,q⟩
def pO.ok {k:Nat} (F:pO P w K mg base CX k f fd ps sp):bS P w K mg base CX k f fd ps sp :=
 ⟨F.len,fun A outer s H args us vs Q E hr=>F.run A outer s H args us vs Q E hr.n (.inl hr.hd)⟩
end
def De {newId:String} (XK:K.In h) (q:PySem.W.excIn K C bmB newId=true) :
  ∃ bm N nm qn bs hd sn sub ab col dd k0 k1 k2 k3 k5 mN,h.get? C=some (excClassObj nm qn C N bs bm hd sn sub ab col dd k0 k1 k2 k3 k5 newId)/\h.Ns N mN/\mN "__init__"=none/\OwnTail h bmB bm:=by
 unfold PySem.W.excIn at q;split at q;next dd cd sl ho =>
  split at q;next C' bm k0 k1 k2 k3 n k5 hm hs =>
   simp only[cm,fL,Bool.not_eq_true'] at q;obtain⟨⟨⟨⟨⟨e1,e2⟩,e3⟩,e4⟩,e5⟩,e6⟩:=q;subst e1 e2;cases cd with
   | mk nm bs mro ns qn hd sn sub ab col del =>
    simp only at hm e3 e5 e6;subst hm e3;have z:sl=#[k0,k1,k2,k3,some (.builtin n),k5]:=by
     cases sl with
     | mk l=>simp only at hs;rw[hs]
    subst z;exact⟨bm,ns,nm,qn,bs,hd,sn,sub,ab,col,dd,k0,k1,k2,k3,k5,_,XK _ _ ho,.of_isNs (PySem.W.isNs_of_in XK e5),PySem.W.nsMap_none_of_in XK e5 e6,PySem.W.tail_of_in XK e4⟩
  next=>cases q
 next=>cases q
def GS (C:Addr) (E:St->XK) (t:TA):TS:=fun _ σ H=>t σ H fun vs H1=>vs.length<=sizeLine/\E σ (.ref C) none H1
def Et {C:Addr}{E:St->XK}{t:TA}{D:Ends}{σ:St}{H:Hp}:GS C E t D σ H=t σ H fun vs H1=>vs.length<=sizeLine/\E σ (.ref C) none H1:=propext Iff.rfl
section
variable {X:Cx}
def cJ {E:St->XK}{B newId initId:String}{e₀:Expr}{rest:List Expr}{t:TA}{np cpos pos:Pos} (FB:ExcBaseFacts B newId initId bmB) (hq:PySem.W.excIn X.K C bmB newId=true) (hm:X.mg x=some (.ref C))
  (hrx:Eg X E) (hc:X.calm=true) (ha:PA X (e₀::rest) t) (hg:X.env.kindOf x=some .globalImplicit:=by ext) (hd:(x==("__debug__":Str))=false:=by ext) (hs:dO (e₀::rest)=true:=by ext) :
  PS X (.Raise (some (.Call (.Name x np) (e₀::rest) [] cpos)) none pos) (GS C E t):=by
 intro Yp s σ H D I h;obtain⟨bm,N,nm,qn,bs,hdct,sn,sub,ab,col,dd,k0,k1,k2,k3,k5,mN,g1,g2,g3,g4⟩:=De I.ok.mod.kin hq;have he:=aW (es:=rest) (env:=X.env) (bg hs).1;refine wpAny_Raise_call_subT (C:=C) (nm:=nm) (q:=qn) (N:=N) (bs:=bs) (bm:=bm) (hdct:=hdct) (sn:=sn) (sub:=sub) (ab:=ab) (col:=col) (dd:=dd) (k0:=k0) (k1:=k1) (k2:=k2) (k3:=k3) (k5:=k5)
  FB (mN:=mN) (g4.hasType FB.hasBase) (I.ok.hd hc) (cY hs) g3 (oE I hg hm ⟨rfl,?_⟩ hd)
 have ha':=ha cpos Yp s σ H _ I h;rw[he] at ha' ⊢;refine Calls.evalArgs_plain (bB ha' (fun vs s2 h2=>?_) fun _ _ y=>y);obtain⟨xs,H2,I2,r,z,q⟩:=h2;exact⟨rfl,by rw[←r.length];exact z,I2.bk _ _ g1,g2.keeps I2.bk,g4.keeps I2.bk,fun h' e hx=>hrx Yp σ H2 s2 h' e C vs I2 hx q⟩
end
end
section
def oP (a:Addr) (c:Value) (d:Option Addr):HO:=.ext fun h=>∃ o,h.get? a=some o/\o.cls=c/\XD o d
def Bh {o:Obj} (e:h.get? a=some o) (h1:o.cls=c) (h2:XD o d):bT P w H h a (oP a c d) :=
 ⟨⟨o,e,h1,h2⟩,⟨o,e⟩,fun _ _ ⟨o,e,q⟩ k=>⟨o,k o e,q⟩⟩
def BW {l:List Env}{H1 H':Hp}{h1 h' h5 B:Heap} (u:Un (frs l) [] H1 H' h1 h') (hk:∀ b o,h'.get? b=some o->b∉frs l->(H' b≠none∨∃ u,h1.get? b=some u)->B.get? b=some o) (hB:B.StaysIn h5) (hsm:h'.UpToSlots h5)
  (hfr:∀ b∈frs l,∃ o,h'.get? b=some o/\∀ vs,o.data≠.fields vs):Un (frs l) [] H1 H' h1 h5 where
 keep:=fun b o e n hb hx=>hB b o (hk b o (u.keep b o e n hb hx) hb (.inr ⟨o,e⟩))
 slot:=fun b o e n hb hx=>by obtain⟨sl,e1⟩:=u.slot b o e n hb hx;obtain⟨o1,e2,hd⟩:=hfr b hb;rw[e1] at e2;cases e2;obtain⟨sl',e3⟩:=hsm b _ e1 hd;exact⟨sl',e3⟩
 free:=u.free
 there:=fun b o e hx=>by
  obtain⟨o1,e1⟩:=u.there b o e hx
  by_cases hb:b∈frs l
  ·obtain⟨o2,e2,hd⟩:=hfr b hb;obtain⟨sl,e3⟩:=hsm b _ e2 hd;exact⟨_,e3⟩
  ·exact⟨o1,hB b o1 (hk b o1 e1 hb (.inr ⟨o,e⟩))⟩
 tups:=u.tups
 frzs:=u.frzs
 tbls:=u.tbls
def yq {l:List Env}{H':Hp}{h1 h' h5 B:Heap} (hok:HOk P w H' h') (hk:∀ b o,h'.get? b=some o->b∉frs l->(H' b≠none∨∃ u,h1.get? b=some u)->B.get? b=some o) (hB:B.StaysIn h5)
  (hf:∀ b∈frs l,H' b=none):HOk P w H' h5:=fun a o e=>by
 refine (hok a o e).pL (fun c v hc q=>hB c v (hk c v q ?_ (.inl ?_))) (fun _ q=>q) fun _ _ q=>q
 ·intro z;have:=hf c z;rcases hc with rfl | hc
  ·rw[e] at this;cases this
  ·rw[hc] at this;cases this
 ·rcases hc with rfl | hc
  ·rw[e];simp
  ·rw[hc];simp
section
variable {X:Cx}{Yp:Zp}{σ:St}{H:Hp}{s:Zg}
def Inv.Kc {o:HO} (I:Inv X Yp σ H s) (hn:H a=none) (h0:X.s₀.heap.get? a=none) (hL:a≠X.env.locals) (hc:∀ x c,X.env.cells.lookup x=some c->c≠a) (hp:∀ p∈X.pn++Yp,p.1≠a)
  (ho:bT X.prog X.w (upd H a o) s.heap a o):Inv X Yp σ (upd H a o) s where
 ok:=I.ok
 os:=I.os
 bare:=I.bare
 base:=by
  have ne:∀ b u,X.s₀.heap.get? b=some u->b≠a:=fun b u e z=>by rw[z,h0] at e;cases e
  refine⟨I.base.keep,I.base.slot,fun b u e n hx=>by rw[az (ne b u e)];exact I.base.free b u e n hx,I.base.there,fun b xs q=>?_,fun b ob u q=>?_,fun b ps q=>?_⟩
  ·have:=I.base.tups b xs q;rw[az (fun z=>by rw[z,hn] at this;cases this)];exact this
  ·have:=I.base.frzs b ob u q;rw[az (fun z=>by rw[z,hn] at this;cases this)];exact this
  ·obtain⟨m,e⟩:=I.base.tbls b ps q;exact⟨m,by rw[az (fun z=>by rw[z,hn] at e;cases e)];exact e⟩
 loc:=I.loc
 cell:=I.cell
 free:=by rw[az (cI hL)];exact I.free
 freeC:=fun x c e=>by rw[az (hc x c e)];exact I.freeC x c e
 pin:=fun p h=>by obtain⟨h1,h2,h3⟩:=I.pin p h;exact⟨h1,by rw[az (hp p h)];exact h2,h3⟩
 hok:=fun b u e=>by
  by_cases hb:b=a
  ·subst hb;rw[aB] at e;cases e;exact ho
  ·rw[az hb] at e;refine (I.hok b u e).pL (fun _ _ _ q=>q) (fun c q=>?_) fun c xs q=>?_
   ·rw[az (fun z=>by rw[z,hn] at q;cases q)];exact q
   ·rw[az (fun z=>by rw[z,hn] at q;cases q)];exact q
 len:=I.len
def oI {A:Around}{E:Zq}{n:Str}{pos:Pos}{Q:Unit->Zg->Prop} (I:Inv X Yp σ H s) (hN:X.N.Nodup) (hi:X.N[i]?=some n) (hn:X.env.scope.names.lookup n=some .local)
  (h:∀ s',Inv X Yp (σ.set i none) H s'->Q () s'):wpAny (model X.prog X.w) A (do bindName X.env n .none;unbindBehindTheSuite X.env n pos) Q E s:=by
 have hiσ:i<σ.length:=by rw[I.len];exact (bN.mp hi).1
 refine ag (wpAny_bindName (kW (v:=.non) I hN hi (.inl hn) rfl (fun s1 I1=>?_) (.inr hn)));obtain⟨m,hm,hl⟩:=id I1.loc;obtain⟨u,_,hu⟩:=hl i n .non hi (by rw[qU hiσ]) (.inl hn);have hv:∃ v,m n=some v:=by
  rcases hu with ⟨_,e⟩ | ⟨k,_⟩
  ·exact⟨_,e⟩
  ·have k':X.env.scope.names.lookup n=some .cell∨X.env.scope.names.lookup n=some .free:=k;rw[hn] at k';rcases k' with z | z<;>cases z
 obtain⟨v,hv⟩:=hv;have hcls:(X.env.scope.kind==.class||(X.env.scope.kind==.module&&X.env.locals != X.env.globals))=false:=by rw[I.ok.kind];rfl
 unfold unbindBehindTheSuite;refine wpAny_onRaise (wpAny_unbindName_local hn hm hv hcls fun h' w' hn' hs=>h _ ?_);have older:∀ b o,X.s₀.heap.get? b=some o->b≠X.env.locals:=fun b o e=>bz (bE (aM e) I.ok.above);refine⟨I1.ok,I1.os,I1.bare,⟨fun b o e k hb hx=>(hs.2 b (older b o e)).trans (I1.base.keep b o e k hb hx),fun b o e k hb hx=>?_,I1.base.free,fun b o e hx=>?_,I1.base.tups,I1.base.frzs,I1.base.tbls⟩,
  ⟨_,hn',fun j y v' e1 e2 e3=>?_⟩,fun y c e=>?_,I1.free,I1.freeC,fun p hp=>?_,fun b ob e=>?_,by rw[List.length_set];exact I.len⟩
 ·obtain⟨sl,e1⟩:=I1.base.slot b o e k hb hx;exact⟨sl,(hs.2 b (older b o e)).trans e1⟩
 ·obtain⟨o',e1⟩:=I1.base.there b o e hx;exact⟨o',(hs.2 b (older b o e)).trans e1⟩
 ·by_cases hj:j=i
  ·subst hj;rw[qU hiσ] at e2;cases e2
  ·rw[qT (cI hj)] at e2;obtain⟨u',r',q⟩:=hl j y v' e1 (by rw[qT (cI hj)];exact e2) e3;refine⟨u',r',?_⟩;rcases q with ⟨k,e⟩ | ⟨k,c,e,z⟩
   ·refine .inl ⟨k,?_⟩;have:y≠n:=fun e=>hj (uB hN e1 (e ▸ hi));simp [this,e]
   ·exact .inr ⟨k,c,e,z.sameBut hs (I1.cne y c e)⟩
 ·obtain⟨w2,z⟩:=I1.cell y c e;exact⟨w2,z.sameBut hs (I1.cne y c e)⟩
 ·obtain⟨e,k,ne,nf,d⟩:=I1.pin p hp;exact⟨(hs.2 p.1 ne).trans e,k,ne,nf,d⟩
 ·refine (I1.hok b ob e).pL (fun c w2 hc q=>(hs.2 c ?_).trans q) (fun _ q=>q) fun _ _ q=>q;rintro rfl;have:=I1.free;rcases hc with rfl | hc
  ·rw[this] at e;cases e
  ·rw[this] at hc;cases hc
def Ends.un (D:Ends) (i:Nat):Ends:=⟨fun σ H=>D.nx (σ.set i none) H,D.rt,fun σ H=>D.bk (σ.set i none) H,fun σ H=>D.ct (σ.set i none) H⟩
def Inv.Lz {xe:Zq} (I:Inv X Yp σ H s):Inv { X with pn:=X.pn++Yp,xe:=xe } [] σ H s :=
 ⟨⟨I.ok.mod,I.ok.kind,I.ok.glob,I.ok.blt,I.ok.above,I.ok.inj,I.ok.has,I.ok.cab,I.ok.hd,I.ok.frames,I.ok.stk,I.ok.exf,I.ok.bs,I.ok.bsz,I.ok.noex,I.ok.exfs,I.ok.mJ,I.ok.frf⟩,I.os,I.bare,I.base,I.loc,I.cell,I.free,I.freeC,
  fun p h=>I.pin p (by simpa using h),I.hok,I.len⟩
def Inv.gQ {pins':Zp} (I:Inv { X with pn:=X.pn++Yp,xe:=xe } pins' σ H s):Inv X Yp σ H s :=
 ⟨⟨I.ok.mod,I.ok.kind,I.ok.glob,I.ok.blt,I.ok.above,I.ok.inj,I.ok.has,I.ok.cab,I.ok.hd,I.ok.frames,I.ok.stk,I.ok.exf,I.ok.bs,I.ok.bsz,I.ok.noex,I.ok.exfs,I.ok.mJ,I.ok.frf⟩,I.os,I.bare,I.base,I.loc,I.cell,I.free,I.freeC,
  fun p h=>I.pin p (nV _ h),I.hok,I.len⟩
def Inv.wU {e:Option Value} (I:Inv X Yp σ H s):Inv { X with A:=X.A.mark e,calm:=false,xe:=fun _ _=>False } Yp σ H s :=
 ⟨⟨I.ok.mod,I.ok.kind,I.ok.glob,I.ok.blt,I.ok.above,I.ok.inj,I.ok.has,I.ok.cab,(fun z=>by cases z),I.ok.frames,I.ok.stk,I.ok.exf,I.ok.bs,I.ok.bsz,I.ok.noex,I.ok.exfs,I.ok.mJ,I.ok.frf⟩,I.os,I.bare,I.base,I.loc,I.cell,I.free,I.freeC,
  I.pin,I.hok,I.len⟩
def Inv.markFrom {e:Option Value} (ok:X.Ok) (I:Inv { X with A:=X.A.mark e,calm:=false,xe:=xe } Yp σ H s):Inv X Yp σ H s :=
 ⟨ok,I.os,I.bare,I.base,I.loc,I.cell,I.free,I.freeC,I.pin,I.hok,I.len⟩
end
end
section
def Iv:builtinKind "BaseException.__getattribute__"=some Manifest.AttrKind.slot:=by nofun
def Fl:splitId "BaseException.__getattribute__"=some ("BaseException","__getattribute__"):=by nofun
def Fj {A:Around}{E:Zq}{x:Addr}{nm:Value}{Q:Unit->Zg->Prop} (l:PySem.W.Looks M s.heap (isInstance (.ref x) (.type "BaseException")) true) (q:Q () s) :
  wpAny M A (checkBuiltinCall "BaseException.__getattribute__" { pos:=[.ref x,nm] }) Q E s :=
 PySem.W.check_slot (i:="BaseException.__getattribute__") (self:=.ref x) (rest:=[nm]) (kw:=[]) Iv Fl l (F.args_bexc_ga _ _) q
def IF {prog:Zh}{w:Zi}{A:Around}{E:Zq}{s:Zg}{K:Zf}{x D:Addr}{ox:Obj}{odo:Option Obj}{name:Str}{g a:Value}{Q:Option Value->Zg->Prop}
  (X:K.In s.heap) (I:PySem.W.InstAt s.heap x ox D odo)
  (hga:PySem.W.findIn K (.ref D) "__getattribute__"=some (some (.builtin "BaseException.__getattribute__")))
  (hgn:PySem.W.findIn K (.ref D) "__getattr__"=some none)
  (hsub:PySem.W.subIn K (.ref D) (.type "BaseException")=some true)
  (hf:PySem.W.findObj K D odo name=some (.bind g a))
  (h:∀ A',wpAny (model prog w) A' (call g [a,.ref x,.ref D]) (fun v s'=>wpAny (model prog w) A (handedOut v) (fun v s''=>Q (some v) s'') (fun _ _=>False) s') (fun _ _=>False) { s with toks:=s.toks+1 }) :
  wpAny (model prog w) A (getAttr? (.ref x) name) Q E s:=by
 obtain⟨hh,gg,dd,tt,os⟩:=s;have L0:∀ {M},PySem.W.Looks M hh (typeOf (.ref x)) (.ref D):=I.type;have L1:∀ {M},PySem.W.Looks M hh (typeLookup (.ref D) "__getattribute__") _:=PySem.W.looks_findIn X hga;have L2:∀ {M},PySem.W.Looks M hh (typeLookup (.ref D) "__getattr__") _:=PySem.W.looks_findIn X hgn;have L3:∀ {M},PySem.W.Looks M hh (isSubtype (.ref D) (.type "BaseException")) _:=PySem.W.looks_subIn X hsub;have L4:∀ {M},PySem.W.Looks M hh (Builtin.ObjectAttr.find (.ref x) (.ref D) name) _:=PySem.W.looks_find X I hf;have L5:∀ {M},PySem.W.Looks M hh (isInstance (.ref x) (.type "BaseException")) true:=by intro M;unfold isInstance;exact PySem.W.Looks.andThen (f:=fun t=>isSubtype t (.type "BaseException")) L0 L3
 have f3:=F.excAttr_ValueError.ga.bind (Value.ref x);unfold getAttr?;refine ag (wpAny_mkText ?_);unfold getAttrBy?;refine ag (lO ?_);unfold getAttrBy;refine dR (ag (L0.at (ag (L1.at ?_))));refine wpAny_ite_false rfl ?_;unfold getAttrByItsOwn;refine ag ?_;unfold hookBefore;refine wpAny_ite_true rfl (L2.at ?_);refine ag (lO (dR ?_));unfold callGetattribute;refine wpAny_ite_false rfl ?_;unfold boundAndCalled;refine ag (wpAny_of_eq f3 ?_);refine hZ (codeAny_call_builtin F.excAttr_ValueError.ga.plain F.entry_bexc_ga ?_);refine Fj L5 ?_;show wpAny _ _ (Builtin.«object.__getattribute__» { pos:=[Value.ref x,Value.str name _] }) _ _ _;unfold Builtin.«object.__getattribute__»;refine ag ?_;unfold slotArgs;refine wpAny_ite_false rfl (wpAny_ite_false rfl (a8 ?_));refine ag (a8 ?_);refine ag (L0.at (ag (L4.at ?_)));show wpAny _ _ (Builtin.ObjectAttr.bindTo g a (.ref x) (.ref D)) _ _ _;unfold Builtin.ObjectAttr.bindTo;refine ag (dR (bB (h _) (fun v s' z=>?_) (fun _ _ z=>z.elim)));refine a8 ?_;refine bB z (fun v s' z=>a8 z) (fun _ _ z=>z.elim)
structure Ea (K:Zf) (C:Addr):Prop where
 ga:PySem.W.findIn K (.ref C) "__getattribute__"=some (some (.builtin "BaseException.__getattribute__"))
 gn:PySem.W.findIn K (.ref C) "__getattr__"=some none
 sb:PySem.W.subIn K (.ref C) (.type "BaseException")=some true
 cl:(PySem.W.clsIn K C).isSome=true
 ha:PySem.W.findIn K (.ref C) "__class__"=some (some (.builtin "object.__class__"))
 hn:PySem.W.specialIn K (.builtin "object.__class__") "__get__"=some (some (.builtin "getset_descriptor.__get__"))
 htk:PySem.W.takesIn K (.builtin "object.__class__")=some true
 hm:PySem.W.mroIn K C (.type "object")=some true
def yn {od:Option Obj}{name:Str}{a g:Value} (hc:(PySem.W.clsIn K C).isSome=true) (ha:PySem.W.findIn K (.ref C) name=some (some a)) (hg:PySem.W.specialIn K a "__get__"=some (some g)) (ht:PySem.W.takesIn K a=some true) :
  PySem.W.findObj K C od name=some (.bind g a):=by
 obtain⟨cd,e⟩:=nY.mp hc;unfold PySem.W.findObj;rw[e,Option.bind_some,ha,Option.bind_some];show (PySem.W.specialIn K a "__get__").bind _=_;rw[hg,Option.bind_some];show (PySem.W.takesIn K a).bind _=_;rw[ht,Option.bind_some]
def ExcAt (x C:Addr) (h:Heap):Prop:=∃ ox od,PySem.W.InstAt h x ox C od
def u5 {x C:Addr} (e:Ea K C):PySem.W.KitX K (.ref x) (.ref C) (ExcAt x C) where
 ty:=fun _ _ _ ⟨_,_,I⟩=>I.type
 it:=fun _ h XK _=>by
  obtain⟨cd,hc⟩:=nY.mp e.cl;unfold PySem.W.clsIn at hc;split at hc
  rotate_left
  cases hc
  next c' d' cd' sl' ho =>intro A' Q' E' s' k q;unfold isType loadHead;exact ag (wpAny_loadPart (k _ _ (XK _ _ ho)) (a8 q))
 ne:=fun h tp dd its n sl XK htp=>by
  obtain⟨cd,hc⟩:=nY.mp e.cl;refine Bool.eq_false_iff.mpr fun q=>?_;have z:C=tp:=Value.ref.inj (fL.mp q);subst z;unfold PySem.W.clsIn at hc;split at hc
  rotate_left
  cases hc
  next c' d' cd' sl' ho =>have z:=(XK _ _ ho).symm.trans htp;cases z
 ca:=fun {prog w A E Q s} XK I k=>by obtain⟨ox,od,I⟩:=I;have hf:=yn (od:=od) e.cl e.ha e.hn e.htk;exact IF XK I e.ga e.gn e.sb hf fun A'=>hZ (PySem.W.class_get (s:={ s with toks:=s.toks+1 }) (ox:=ox) (od:=od) XK I e.hm (PySem.W.handed_on rfl k))
def TyX (K:Zf) (H:Hp) (x:V) (t:Value):Prop:=oS K H x t∨∃ a C,x=.ref a/\t=.ref C/\H a=some (oP a (.ref C) none)/\Ea K C
def uo {a C:Addr} (x:HOk P w H h) (e:H a=some (oP a (.ref C) none)):ExcAt a C h:=by
 obtain⟨⟨o,e1,e2,e3,vs,e4,_⟩,_⟩:=(show bT P w H h a (oP a (.ref C) none) from x a _ e);refine⟨o,none,e1,e2,?_,?_⟩
 ·unfold PySem.W.notCls;rw[e4]
 ·rw[e3];trivial
def Gy (K:Zf):List V->Hp->VK->Prop:=fun vs H Q=>match vs with
 | [x,.ty n]=>∃ t b,TyX K H x t/\PySem.W.kitOne K t (.type n)=some b/\Q (.bl b) H
 | [x,.ref c]=>∃ t b,TyX K H x t/\(PySem.W.kitOne K t (.ref c)=some b∨∃ (a C:Addr) (cs:List Addr),x=.ref a/\t=.ref C/\H a=some (oP a (.ref C) none)/\Ea K C/\H c=some (.tup (cs.map V.ref))/\PySem.W.kitAny K t (cs.map Value.ref)=some b)/\Q (.bl b) H
 | _=>False
theorem wx:∀ {cs:List Addr}{us:Zc},Vals (cs.map V.ref) us->us=cs.map Value.ref
 | [],_,.nil=>rfl
 | c::r,_,.cons h t=>by have e:_=Value.ref c:=h;rw[e,wx t];rfl
def Cs :cS X (.builtin "isinstance") (Gy X.K):=by
 intro Yp s σ H xs us Q I r h
 match xs,h with
 | [x,.ty n],h =>
  obtain⟨t,b,ht,hk,q⟩:=h;obtain⟨u,v,rfl,r1,r2⟩:=vals2 r;cases (show v=Value.type n from r2);rcases ht with ht | ⟨a,C,rfl,rfl,hH,hC⟩
  ·exact isinst_ok I r1 ht hk fun tk=>⟨.bl b,H,I.tok _,rfl,q⟩
  ·cases (show u=Value.ref a from r1)
   exact eN (u5 hC) I.kIn (uo I.hok hH) hk (fun z=>by cases z) fun tk=>⟨.bl b,H,I.tok _,rfl,q⟩
 | [x,.ref c],h =>
  obtain⟨t,b,ht,hk,q⟩:=h;obtain⟨u,v,rfl,r1,r2⟩:=vals2 r;cases (show v=Value.ref c from r2);rcases hk with hk | ⟨a,C,cs,rfl,rfl,hH,hC,hc,hk⟩
  ·rcases ht with ht | ⟨a,C,rfl,rfl,hH,hC⟩
   ·exact isinst_ok I r1 ht hk fun tk=>⟨.bl b,H,I.tok _,rfl,q⟩
   ·cases (show u=Value.ref a from r1)
    exact eN (u5 hC) I.kIn (uo I.hok hH) hk (fun z=>by cases z) fun tk=>⟨.bl b,H,I.tok _,rfl,q⟩
  ·cases (show u=Value.ref a from r1)
   obtain⟨_,its,rv,⟨ob,e1,e2,n,e3⟩⟩:=(show bT X.prog X.w H s.heap c (.tup (cs.map V.ref)) from I.hok c _ hc);have ei:=wx rv;subst ei;obtain⟨oc,dd,od,sl⟩:=ob;cases e2;cases e3;exact PySem.W.kia_tup (u5 hC) I.kIn (uo I.hok hH) e1 hk (fun z=>by cases z) fun tk=>⟨.bl b,H,I.tok _,rfl,q⟩
def ik (hK:X.K=K):cS X (.builtin "isinstance") (Gy K):=hK ▸ Cs
def EW (K:Zf) (C:Addr):Bool :=
 PySem.W.findIn K (.ref C) "__getattribute__"==some (some (.builtin "BaseException.__getattribute__"))&&PySem.W.findIn K (.ref C) "__getattr__"==some none&&PySem.W.subIn K (.ref C) (.type "BaseException")==some true&&(PySem.W.clsIn K C).isSome&&PySem.W.findIn K (.ref C) "__class__"==some (some (.builtin "object.__class__")) &&
 PySem.W.specialIn K (.builtin "object.__class__") "__get__"==some (some (.builtin "getset_descriptor.__get__"))&&PySem.W.takesIn K (.builtin "object.__class__")==some true&&PySem.W.mroIn K C (.type "object")==some true
def EX (h:EW K C=true):Ea K C:=by unfold EW at h;simp only[cm,fL] at h;obtain⟨⟨⟨⟨⟨⟨⟨h1,h1'⟩,h1''⟩,h2⟩,h3⟩,h4⟩,h5⟩,h6⟩:=h;exact⟨h1,h1',h1'',h2,h3,h4,h5,h6⟩
def wI (K:Zf) (b:Addr) (cs:List Addr):Bool :=
 cs.all fun c=>EW K c&&PySem.W.exmOne K (.ref c) (.ref b)==some true&&PySem.W.kitOne K (.ref c) (.type "ValueError")==some true&&PySem.W.kitOne K (.ref c) (.ref b)==some true &&
  cs.all fun d=>PySem.W.kitOne K (.ref c) (.ref d)==some (c==d)
structure Err (K:Zf) (b:Addr) (cs:List Addr) (c:Addr):Prop where
 ex:Ea K c
 em:PySem.W.exmOne K (.ref c) (.ref b)=some true
 ve:PySem.W.kitOne K (.ref c) (.type "ValueError")=some true
 ba:PySem.W.kitOne K (.ref c) (.ref b)=some true
 kd:∀ d∈cs,PySem.W.kitOne K (.ref c) (.ref d)=some (c==d)
def EN {cs:List Addr} (h:wI K b cs=true) {c:Addr} (hc:c∈cs):Err K b cs c:=by unfold wI at h;have h:=bP.mp h c hc;simp only[cm,fL] at h;obtain⟨⟨⟨⟨h1,h2⟩,h3⟩,h4⟩,h5⟩:=h;exact⟨EX h1,h2,h3,h4,fun d hd=>by have:=bP.mp h5 d hd;simpa using this⟩
theorem Err.any {K:Zf}{b:Addr}{cs:List Addr}{c:Addr} (E:Err K b cs c):∀ {ds:List Addr},(∀ d∈ds,d∈cs)->PySem.W.kitAny K (.ref c) (ds.map Value.ref)=some (ds.contains c)
 | [],_=>rfl
 | d::r,h=>by show (match PySem.W.kitOne K (.ref c) (.ref d) with | some true=>some true | some false=>PySem.W.kitAny K (.ref c) (r.map Value.ref) | none=>none)=_;rw[E.kd d (h d bq),Err.any E (fun x hx=>h x (bD _ hx)),List.contains_cons];cases (c==d)<;>rfl
def fV {v:V} (h:∃ u,X.mg x=some u/\RelV v u) (hg:X.env.kindOf x=some .globalImplicit:=by ext) (hd:(x==("__debug__":Str))=false:=by ext):PE X (.Name x pos) (tC v):=by obtain⟨u,h1,h2⟩:=h;exact Bu hg h1 h2 hd
def mS {c:Addr} (h:X.mg x=some (.ref c)) (hg:X.env.kindOf x=some .globalImplicit:=by ext) (hd:(x==("__debug__":Str))=false:=by ext):PE X (.Name x pos) (tC (.ref c)):=Bu hg h rfl hd
def oY (h:H ea=some (oP ea c d)):fz (some (.ref ea)) H :=
 .inr ⟨ea,_,rfl,h,fun _ ⟨o,e,_,_,vs,q1,q2⟩=>⟨o,vs,e,q1,q2⟩⟩
def fz.same {o:Option Value}{H H':Hp} (h:fz o H) (s:ax H H'):fz o H':=by
 rcases h with h | ⟨ea,φ,e1,e2,e3⟩
 ·exact .inl h
 ·exact .inr ⟨ea,φ,e1,s _ _ e2,e3⟩
end
section
def up (t:TE):TE:=fun σ H R=>∃ R',t σ H R'/\∀ x H,R' x H->R x H
def upA (t:TA):TA:=fun σ H R=>∃ R',t σ H R'/\∀ x H,R' x H->R x H
def PE.up {X:Cx}{e:Expr}{t:TE} (h:PE X e t):PE X e (up t):=fun Yp s σ H Q I ⟨R',h1,h2⟩=>thn (h Yp s σ H R' I h1) fun _ _ ⟨v,H',I',r,q⟩=>⟨v,H',I',r,h2 v H' q⟩
def PA.up {t:TA} (h:PA X es t):PA X es (upA t):=fun pos Yp s σ H Q I ⟨R',h1,h2⟩=>thn (h pos Yp s σ H R' I h1) fun _ _ ⟨v,H',I',r,q⟩=>⟨v,H',I',r,h2 v H' q⟩
def Gv (K:Zf) (f:Str) (x:V) (H:Hp) (Q:VK):Prop:=match x with
 | .ref a=>∃ C dx fs v,H a=some (.ins C dx fs)/\Cls K C/\ft K C f/\fs.lookup f=some v/\Q v H
 | _=>False
def JT (K:Zf) (ta:TE) (f:Str):TE:=fun σ H Q=>ta σ H fun x H1=>Gv K f x H1 Q
def Ki {K:Zf}{ta:TE}{f:Str}{σ:St}{H:Hp}{Q:VK}:JT K ta f σ H Q=ta σ H fun x H1=>Gv K f x H1 Q:=propext Iff.rfl
def GD (K:Zf) (f:Str) (y x:V) (H:Hp) (Q:Hp->Prop):Prop:=match x with
 | .ref a=>∃ C dx fs,H a=some (.ins C dx fs)/\Cls K C/\ft K C f/\fs.length<1000/\Q (upd H a (.ins C dx (gw f y fs)))
 | _=>False
def JP (K:Zf) (ta tv:TE) (f:Str):TS:=fun D σ H=>tv σ H fun y H1=>ta σ H1 fun x H2=>GD K f y x H2 fun H3=>D.nx σ H3
def HR {K:Zf}{ta tv:TE}{f:Str}{D:Ends}{σ:St}{H:Hp}:JP K ta tv f D σ H=tv σ H fun y H1=>ta σ H1 fun x H2=>GD K f y x H2 fun H3=>D.nx σ H3:=propext Iff.rfl
section
variable {X:Cx}{K:Zf}
def b8 {ta:TE}{f:Str} (hK:X.K=K) (he:PE X e ta) (hb:attributeBase e f X.env (eval e X.env)=eval e X.env:=by ext):PE X (.Attribute e f pos) (JT K ta f):=by
 subst hK;intro Yp s σ H Q I h;refine Lr (ta:=up ta) he.up hb Yp s σ H Q I ⟨_,h,fun x H1 hx=>?_⟩;cases x with
 | ref a=>obtain⟨C,dx,fs,v,h1,h2,h3,h4,h5⟩:=hx;exact⟨a,C,dx,fs,v,rfl,h1,h2,h3,h4,h5⟩
 | _=>exact False.elim hx
def gR {o value:Expr}{ta tv:TE}{f:Str}{pos pos':Pos} (hK:X.K=K) (ha:PE X o ta) (hv:PE X value tv) (hs:swapsWith value (some (.Attribute o f pos')) pos.line X.env=pure false:=by ext) :
  PS X (.Assign [.Attribute o f pos'] value pos) (JP K ta tv f):=by
 subst hK;intro Yp s σ H D I h;refine L6 (ta:=up ta) (tv:=up tv) ha.up hv.up hs Yp s σ H D I ⟨_,h,fun y H1 hy=>⟨_,hy,fun x H2 hx=>?_⟩⟩;cases x with
 | ref a=>obtain⟨C,dx,fs,h1,h2,h3,h4,h5⟩:=hx;exact⟨a,C,dx,fs,rfl,h1,h2,h3,h4,h5⟩
 | _=>exact False.elim hx
end
structure Mtd (P:Zh) (w:Zi) (K:Zf) (mg:Zk) (base:Heap) (CX:CXT) (C:Addr) (m:Str) (k:Nat) (ps:Ze) (sp:Sp):Prop where
 ex:∃ (f:Addr) (fd:FuncData),bS P w K mg base CX k f fd ps sp/\Meth K C m f/\Binds K fd ps []
 cl:Cls K C
def mf (C:Addr) (m:Str) (x:V) (H:Hp) (Q:Hp->Prop):Prop:=match x with
 | .ref a=>∃ dx fs,H a=some (.ins C dx fs)/\fs.lookup m=none/\Q H
 | _=>False
def xJ (C:Addr) (m:Str) (sp:Sp) (E:St->XK) (ta:TE) (t:TA):TE:=fun σ H Q=>ta σ H fun x H1=>mf C m x H1 fun H1=>t σ H1 fun vs H2=>sp (x::vs) H2 Q (E σ)
def HM {C:Addr}{m:Str}{sp:Sp}{E:St->XK}{ta:TE}{t:TA}{σ:St}{H:Hp}{Q:VK}:xJ C m sp E ta t σ H Q=ta σ H fun x H1=>mf C m x H1 fun H1=>t σ H1 fun vs H2=>sp (x::vs) H2 Q (E σ):=propext Iff.rfl
section
variable {X:Cx}{CX:CXT}{E:St->XK}
def bZ {pl:Sem Bool}{k:Nat}{o e:Expr}{ta:TE}{t:TA}{apos pos:Pos} (M:Mtd X.prog X.w X.K X.mg X.base CX C m k ps sp) (hx:Passes CX X E) (hr:dw k X.A) (he:PE X o ta) (ha:PA X (e::es) t)
  (hs:dO (e::es)=true:=by ext)
  (ht:eval (.Call (.Attribute o m apos) (e::es) [] pos) X.env=(do
   let ov ←eval o X.env
   standAt apos.atName
   let (f,first) ←holding [ov] (getMethod ov m pl)
   callWith pos f first (backTo pos (starEach (e::es) X.env)) (backToKw pos (keywordEach [] X.env))):=by rfl) :
  PE X (.Call (.Attribute o m apos) (e::es) [] pos) (xJ C m sp E ta t):=by
 obtain⟨f,fd,F,hm,hb⟩:=M.ex;intro Yp s σ H Q I h;refine Bv (ta:=up ta) (t:=t) he.up M.cl hm F hr hb .nil hx ha (aW (bg hs).1) (cY (bg hs).2) ht Yp s σ H Q I ⟨_,h,fun x H1 q=>?_⟩;cases x with
 | ref a =>obtain⟨dx,fs,h1,h2,h3⟩:=q;refine⟨a,dx,fs,rfl,h1,h2,?_⟩;simp only[jK];exact h3
 | _=>exact False.elim q
def cT {pl:Sem Bool}{k:Nat}{o:Expr}{ta:TE}{apos pos:Pos} (M:Mtd X.prog X.w X.K X.mg X.base CX C m k ps sp) (hx:Passes CX X E) (hr:dw k X.A) (he:PE X o ta)
  (ht:eval (.Call (.Attribute o m apos) [] [] pos) X.env=(do
   let ov ←eval o X.env
   standAt apos.atName
   let (f,first) ←holding [ov] (getMethod ov m pl)
   callWith pos f first (backTo pos (starEach [] X.env)) (backToKw pos (keywordEach [] X.env))):=by rfl) :
  PE X (.Call (.Attribute o m apos) [] [] pos) (xJ C m sp E ta Jx):=by
 obtain⟨f,fd,F,hm,hb⟩:=M.ex;intro Yp s σ H Q I h;refine Gj (ta:=up ta) he.up M.cl hm F hr hb .nil hx ht Yp s σ H Q I ⟨_,h,fun x H1 q=>?_⟩;cases x with
 | ref a =>obtain⟨dx,fs,h1,h2,h3⟩:=q;exact⟨a,dx,fs,rfl,h1,h2,h3⟩
 | _=>exact False.elim q
end
structure Mak (P:Zh) (w:Zi) (K:Zf) (mg:Zk) (base:Heap) (CX:CXT) (C:Addr) (x:Str) (k:Nat) (ps:Ze) (sp:Sp):Prop where
 ex:∃ (f:Addr) (fd:FuncData),bS P w K mg base CX k f fd ps sp/\Mk K C f/\Binds K fd ps []
 mg:mg x=some (.ref C)
def Hg (C:Addr) (sp:Sp) (E:St->XK) (t:TA):TE:=fun σ H Q=>t σ H fun vs H1=>∀ x dx H2,H1 x=none->H1 dx=none->dx≠x->ax H1 H2->H2 x=some (.ins C dx [])->H2 dx=some (.own x)->sp (.ref x::vs) H2 (fun v H3=>v=.non/\Q (.ref x) H3) (E σ)
def HL {C:Addr}{sp:Sp}{E:St->XK}{t:TA}{σ:St}{H:Hp}{Q:VK}:Hg C sp E t σ H Q=t σ H fun vs H1=>∀ x dx H2,H1 x=none->H1 dx=none->dx≠x->ax H1 H2->H2 x=some (.ins C dx [])->H2 dx=some (.own x)->sp (.ref x::vs) H2 (fun v H3=>v=.non/\Q (.ref x) H3) (E σ):=propext Iff.rfl
section
variable {X:Cx}{CX:CXT}{E:St->XK}
def jz {k:Nat}{t:TA}{p pos:Pos} (M:Mak X.prog X.w X.K X.mg X.base CX C x k ps sp) (hx:Passes CX X E) (hr:dw (k+1) X.A) (ha:PA X (e::es) t)
  (hg:X.env.kindOf x=some .globalImplicit:=by ext) (hd:(x==("__debug__":Str))=false:=by ext) (hs:dO (e::es)=true:=by ext) :
  PE X (.Call (.Name x p) (e::es) [] pos) (Hg C sp E t):=by
 obtain⟨f,fd,F,hm,hb⟩:=M.ex;intro Yp s σ H Q I h;refine Jb (t:=upA t) hm F hr hg M.mg hb .nil hx ha.up hd (aW (bg hs).1) (cY (bg hs).2) Yp s σ H Q I ⟨_,h,fun vs H1 q x dx h1 h2 h3=>?_⟩;simp only[jK];refine q x dx _ h1 h2 h3 ((eG h2).gu h1) aB ?_;rw[az h3,aB]
end
end
section
def vO {h g:Heap}{l c:Addr}{xs:Array Value} (x:h.IsList l xs) (s:Heap.SameBut c h g) (ne:l≠c):g.IsList l xs:=by obtain⟨o,h1,h2⟩:=x;exact⟨o,(s.2 l ne).trans h1,h2⟩
section
variable {prog:Zh}{w:Zi}{A:Around}{E:Zq}
def yg {c l:Addr}{xs:Array Value} (ne:l≠c):∀ (k j:Nat) (s:Zg) (R:Zc->Zg->Prop),s.heap.IsListIter c l j->s.heap.IsList l xs->j+k<=xs.size →
  (∀ g,g.IsListIter c l (j+k)->Heap.SameBut c s.heap g->R ((xs.toList.drop j).take k) { s with heap:=g })->wpAny (model prog w) A (draw (.ref c) k) R E s
 | 0,j,s,R,i0,_,_,q=>a8 (by simpa using q s.heap i0 (Heap.SameBut.refl ..))
 | k+1,j,s,R,i0,l0,hb,q=>by
  have lt:j<xs.size:=by left
  show wpAny _ _ (pyNext (.ref c) >>= _) R E s;refine ag (wpAny_pyNext_list_item i0 l0 (x:=xs[j]) (by simp [lt]) fun g1 i1 s1=>?_);refine ag (dR (yg ne k (j+1) _ _ i1 (vO l0 s1 ne) (by left) fun g2 i2 s2=>a8 ?_));have z:=q g2 (by rw[show j+(k+1)=j+1+k by left];exact i2) (s1.trans s2);rw[show xs.toList.drop j=xs[j]::xs.toList.drop (j+1) by simp [nL,lt],qZ] at z;exact z
def AJ {l:Addr}{xs:Array Value}{ts:List (Bool×(Value->Sem Unit))}{R:Unit->Zg->Prop} (hh:A.handled=none) (l0:s.heap.IsList l xs) (hn:ts.length=xs.size) (hs:ts.findIdx? (·.1)=none)
  (q:∀ g,Heap.ExtBut s.heap.objs.size s.heap g->wpAny (model prog w) A (assignInOrder (ts.map (·.2)) xs.toList) R E { s with heap:=g }):wpAny (model prog w) A (unpack (.ref l) ts) R E s:=by
 have ne:l≠s.heap.objs.size:=by obtain⟨o,ho,_⟩:=l0;exact bz (aM ho)
 unfold unpack;rw[hn,hs];refine ag (dR ?_);unfold unpackItems;refine ag ?_;unfold notIterableAtAll;refine ag (wpAny_specialOf l0.typeIs F.slot_list_iter.lookup ?_);refine a8 ?_;simp only[m4,fM];refine ag (dR (wpAny_pyIter_list l0 ?_));refine ag (dR (yg ne xs.size 0 _ _ ⟨_,bj _ rfl,rfl,rfl⟩ (l0.push _) (by left) fun g1 i1 s1=>?_));rw[show List.take xs.size (List.drop 0 xs.toList)=xs.toList by rw[List.drop_zero];exact di (by simp)];rw[af (by simp)];refine ag (dR (wpAny_pyNext_list_end hh i1 (vO (l0.push _) s1 ne) (by simp) fun g2 e2=>?_));simp only[Option.isSome_none,m4,fM];exact a8 (q g2 fun b o hb e=>e2 b o hb (s1.extBut b o hb (aL _ e)))
end
def K7 (K:Zf) (n:Nat) (t:TGs):TG:=fun v σ H Q=>match v with
 | .ref a=>∃ xs,Sq K H a xs/\xs.length=n/\t xs σ H Q
 | _=>False
def Lv {k:Nat}{t:TGs}{n:Nat}{pos:Pos} (hc:X.calm=true) (h:PGs X es t)
  (hn:(assignEach es X.env).length=n:=by rfl) (hst:(assignEach es X.env).findIdx? (·.1)=none:=by rfl):PG X (.Tuple es k pos) (K7 X.K n t):=by
 intro Yp s σ H v u Q I r hw;cases v with
 | ref a =>
  obtain⟨xs,hq | hq,hl,hw⟩:=hw
  ·cases r
   obtain⟨its,rv,p,hz⟩:=I.list hq;rw[assign_Tuple];refine ag (wpAny_standAt (AJ (I.ok.hd hc) p.isList (by simp [hn,←hl,rv.length]) hst fun g hx=>?_));have I1:Inv X Yp σ H { s with heap:=g }:=I.kept (t':=s.toks) fun b o e=>hx b o (bz (aM e)) e;exact h Yp _ σ H xs _ Q I1 (by simpa using rv) hw
  ·exact Gm (pos:=pos) (k:=k) hc h hn hst Yp s σ H _ u Q I r ⟨a,xs,rfl,hq,hl,hw⟩
 | _=>exact False.elim hw
def oG {k:Nat}{t:TGs}{n:Nat}{pos:Pos} (hK:X.K=K) (hc:X.calm=true) (h:PGs X es t)
  (hn:(assignEach es X.env).length=n:=by rfl) (hst:(assignEach es X.env).findIdx? (·.1)=none:=by rfl):PG X (.Tuple es k pos) (K7 K n t):=hK ▸ Lv hc h hn hst
def Ks {K:Zf}{n:Nat}{t:TGs}{a:Addr}{σ:St}{H:Hp}{Q:St->Hp->Prop}:K7 K n t (.ref a) σ H Q=∃ xs,Sq K H a xs/\xs.length=n/\t xs σ H Q:=propext Iff.rfl
def Eo {t:TG}{u:TGs}{v:V}{r:List V}{σ:St}{H:Hp}{Q:St->Hp->Prop}:sN t u (v::r) σ H Q=t v σ H fun σ' H'=>u r σ' H' Q:=propext ⟨fun ⟨_,_,e,h⟩=>by cases e;exact h,fun h=>⟨v,r,rfl,h⟩⟩
def HI {σ:St}{H:Hp}{Q:St->Hp->Prop}:Fh [] σ H Q=Q σ H:=propext ⟨fun h=>h.2,fun h=>⟨rfl,h⟩⟩
def rJ (l:Za) (lo hi:Option Int):Za:=(l.drop (HT.sIx l.length 0 lo)).take (HT.sIx l.length l.length hi-HT.sIx l.length 0 lo)
def xW (l:Za) (lo hi:Option Int):(rJ l lo hi).length<=l.length:=by unfold rJ;rw[fK,cR];left
def Aq (l:List α) (a k:Nat):((List.range k).map fun j=>a+j).filterMap (l[·]?)=(l.drop a).take k:=by
 induction k with
 | zero=>simp
 | succ k ih =>
  rw[List.range_succ,bL,List.filterMap_append,ih,List.take_succ]
  congr 1
  simp only[bp,List.map_nil,nM,List.filterMap_nil,qQ];cases l[a+k]?<;>rfl
def gN:Option Int->Tok->Option (Int×Tok)
 | some i,t=>some (i,t)
 | none,_=>none
def AU (n d:Nat):Option Int->Int
 | none=>d
 | some i=>max 0 (min (if i<0 then i+(n:Int) else i) (n:Int))
def yV (n d:Nat) (o:Option Int):AU n d o=((HT.sIx n d o:Nat):Int):=by
 cases o with
 | none=>rfl
 | some v =>
  show max 0 (min (if v<0 then v+(n:Int) else v) (n:Int))=((if v<0 then (v+(n:Int)).toNat else min v.toNat n:Nat):Int)
  by_cases h:v<0
  ·rw[ai h,ai h];left
  ·rw[af h,af h];left
def wO (lo hi:Option Int) (n:Nat):Builtin.Str.strSliceIndices lo hi 1 n=sliceRange (AU n 0 lo) (AU n n hi) 1:=by unfold Builtin.Str.strSliceIndices AU;cases lo<;>cases hi<;>simp
def range_one (a b:Nat):sliceRange (a:Int) (b:Int) 1=(List.range (b-a)).map fun j=>a+j:=by
 unfold sliceRange;have e3:(if (1:Int)>0 then (if (a:Int)<(b:Int) then ((b:Int)-(a:Int)+1-1)/1 else 0) else (if (a:Int)>(b:Int) then ((a:Int)-(b:Int)-1-1)/(-1) else 0)).toNat=b-a:=by rw[ai (by decide)];split<;>left
 show ((List.range (if (1:Int)>0 then (if (a:Int)<(b:Int) then ((b:Int)-(a:Int)+1-1)/1 else 0) else (if (a:Int)>(b:Int) then ((a:Int)-(b:Int)-1-1)/(-1) else 0)).toNat).map fun (k:Nat)=>((a:Int)+1*(k:Int)).toNat)=_;rw[e3];exact nT fun k _=>by left
def qu (x:Str) (lo hi:Option Int) (t u:Tok):slicePicked x (gN lo t) (gN hi u) none=(List.range (HT.sIx x.length x.length hi-HT.sIx x.length 0 lo)).map fun j=>HT.sIx x.length 0 lo+j:=by
 unfold slicePicked;have e1:(gN lo t).map (·.1)=lo:=by cases lo<;>rfl
 have e2:(gN hi u).map (·.1)=hi:=by cases hi<;>rfl
 rw[e1,e2];show Builtin.Str.strSliceIndices lo hi 1 x.length=_;rw[wO,yV,yV,range_one]
def Ar (x:Str) (lo hi:Option Int) (t u:Tok):(slicePicked x (gN lo t) (gN hi u) none).filterMap (x.cps[·]?)=rJ x.cps.toList lo hi:=by
 have e5:(fun i:Nat=>x.cps[i]?)=fun i:Nat=>x.cps.toList[i]?:=by funext i;rw[oJ]
 rw[qu,e5,Aq];unfold rJ;rw[←dE]
def Ju :SlR X (fun x lo hi H Q=>∃ z,x=.str z/\z.length<=sizeLine/\Q (.str (tx (rJ z.cps.toList lo hi))) H):=by
 intro Yp s σ H x v vl vu lo hi sl Q I rx hs pl pu h;obtain⟨z,rfl,hz,q⟩:=h;obtain⟨t,rfl⟩:=rx;refine⟨"str",_,F.slot_str_getitem.lookup,hX s z t,?_⟩;have h1:∃ tl,vl=partValue (gN lo tl):=by cases pl with | none=>exact⟨0,rfl⟩ | int i t=>exact⟨t,rfl⟩
 have h2:∃ tu,vu=partValue (gN hi tu):=by cases pu with | none=>exact⟨0,rfl⟩ | int i t=>exact⟨t,rfl⟩
 obtain⟨tl,rfl⟩:=h1;obtain⟨tu,rfl⟩:=h2;refine wpAny_getItem_str_slice (l:=gN lo tl) (u:=gN hi tu) (st:=none) hs rfl ?_;have ec:=Ar z lo hi tl tu;have key:tx (rJ z.cps.toList lo hi)=⟨((slicePicked z (gN lo tl) (gN hi tu) none).filterMap (z.cps[·]?)).toArray⟩:=by rw[ec];rfl
 unfold sliceMade;split;next hh =>
  have hl:(slicePicked z (gN lo tl) (gN hi tu) none).length=z.length:=by simpa using hh
  rw[qu,ak,jL] at hl;have b1:=HT.GQ z.length 0 (bH _) lo;have b2:=HT.GQ z.length z.length (aq _) hi;have e:tx (rJ z.cps.toList lo hi)=z:=by
   unfold rJ;rw[←dE,hl]
   by_cases hz0:z.length=0
   ·have:z.cps.toList=[]:=by rw[←List.length_eq_zero_iff,←dE];exact hz0
    rw[this];have:=nE z;rw[‹z.cps.toList=[]›] at this
    simpa using this
   ·rw[show HT.sIx z.length 0 lo=0 by left,List.drop_zero,di (by rw[←dE];exact aq _)];exact nE z
  rw[e] at q;exact⟨.str z,H,I,⟨t,rfl⟩,q⟩
 next =>rw[←key];refine⟨?_,.str _,H,I.tok _,⟨_,rfl⟩,q⟩;rw[bM];have:=xW z.cps.toList lo hi;rw[←dE] at this;left
def Jm (K:Zf):V->Option Int->Option Int->Hp->VK->Prop:=fun x lo hi H Q=>match x with
 | .ref a=>∃ xs,SqL K H a xs/\nw H (.lst (pV xs lo hi)) Q
 | .str z=>z.length<=sizeLine/\Q (.str (tx (rJ z.cps.toList lo hi))) H
 | _=>False
def Nu :SlR X (Jm X.K):=by
 intro Yp s σ H x v vl vu lo hi sl Q I rx hs pl pu h;cases x with
 | ref a =>obtain⟨xs,h1,h2⟩:=h;exact Jt Yp s σ H _ v vl vu lo hi sl Q I rx hs pl pu ⟨a,xs,rfl,h1,h2.go⟩
 | str z=>exact Ju Yp s σ H _ v vl vu lo hi sl Q I rx hs pl pu ⟨z,rfl,h.1,h.2⟩
 | _=>exact False.elim h
def tj (hK:X.K=K):SlR X (Jm K):=hK ▸ Nu
def fw.mark {k:Nat}{A:Around}{e:Option Value} (r:fw k A):fw k (A.mark e):=⟨r.dp,r.un⟩
end
section
def iR (x:Key) (l:List Key):Bool:=l.any fun y=>decide (y=x)
def u7 {x:Key}{l:List Key}:iR x l=true↔x∈l:=by unfold iR;rw[List.any_eq_true];exact⟨fun ⟨y,h,e⟩=>lL e ▸ h,fun h=>⟨x,h,ar rfl⟩⟩
def Dv (x y:Key) (l:List Key):iR x (l++[y])=(iR x l||decide (y=x)):=by unfold iR;rw[List.any_append];simp
def dI (val:Nat->Key):Nat->List Key
 | 0=>[]
 | i+1=>if iR (val i) (dI val i)=true then dI val i else dI val i++[val i]
theorem u9 (val:Nat->Key):∀ i,(dI val i).length<=i
 | 0=>aq _
 | i+1=>by
  have ih:=u9 val i;unfold dI;split
  ·left
  ·rw[aK,jM];left
def yZ {S S':Key->Bool}{n n':Nat} (x:h.SetOf (bu P w) a S n) (e:∀ k,S k=S' k) (en:n=n'):h.SetOf (bu P w) a S' n':=by have z:S=S':=funext e;subst z;subst en;exact x
section
variable {prog:Zh}{w:Zi}{A:Around}{R:Result->Zg->Prop}{c:Addr}{fp wr:List Addr}{G:Array GenState->Array GenState->Prop}{n:Nat}{Pv:Nat->Value->Prop}{Sv:Nat->Zg->Prop}
def zi (W:WalksS prog w A.in1 c fp wr G n Pv Sv) (a:Addr) (na:a∉fp) (val:Nat->Key) (hv:∀ i v,Pv i v->mK (val i) v=true/\v.scannable=true) (hb:n+1<scanBound) :
  ∀ (k i:Nat) (s:Zg),n-i=k->i<=n->Sv i s->s.heap.SetOf (bu prog w) a (fun x=>iR x (dI val i)) (dI val i).length →
   (∀ s',Moved (a::wr) G s s'->s'.heap.SetOf (bu prog w) a (fun x=>iR x (dI val n)) (dI val n).length->R (.ok (.ret .none)) s') →
   codeAny (model prog w) A (.builtin "set.update.loop" ⟨[.ref a,.ref c],[]⟩) R s:=by
 have nw':a∉wr:=fun z=>na (W.sub _ z);have sb:∀ b∈wr,b∈a::wr:=fun b h=>bD _ h;have pL:∀ {s s':Zg}{S:Key->Bool}{m:Nat},Moved wr G s s'->s.heap.SetOf (bu prog w) a S m->s'.heap.SetOf (bu prog w) a S m:=fun mv x=>by obtain⟨o,es,ep,t,ho,r⟩:=x;exact⟨o,es,ep,t,mv.heap a _ nw' ho,r⟩
 intro k
 induction k with
 | zero =>
  intro i s hk hi st x q;have e:i=n:=by left
  subst e;refine lK PyProof.Rows.F.entry_set_update_loop ?_;rw[Around.under_plainId vn _];show wpAny _ A.in1 (pyNext (.ref c) >>= _) _ _ s;refine ag (W.done s _ _ st fun s' mv=>?_);exact a8 (q s' (mv.mono sb) (pL mv x))
 | succ k ih =>
  intro i s hk hi st x q;have lt:i<n:=by left
  refine lK PyProof.Rows.F.entry_set_update_loop ?_;rw[Around.under_plainId vn _];show wpAny _ A.in1 (pyNext (.ref c) >>= _) _ _ s;refine ag (W.item i s _ _ lt st fun v s' pv st' mv=>?_);obtain⟨hk1,hk2⟩:=hv i v pv;have x':=pL mv x;show wpAny _ A.in1 (holding [v] (setAdd a v) >>= _) _ _ s';refine ag (dR ?_);unfold setAdd;refine dR ?_;refine ag ((bu prog w).pyHash (k:=val i) hk1 ?_);have room:(dI val i).length+1<scanBound:=by have:=u9 val i;left
  refine wpAny_setAddHashed_of (knd:=bu prog w) (s:={ s' with toks:=s'.toks+1 }) hk1 hk2 x' room fun g sg xg=>?_;have x2:g.SetOf (bu prog w) a (fun y=>iR y (dI val (i+1))) (dI val (i+1)).length:=by
   refine yZ xg (fun y=>?_) ?_
   ·show (iR y (dI val i)||decide (y=val i))=iR y (if iR (val i) (dI val i)=true then dI val i else dI val i++[val i])
    by_cases hc:iR (val i) (dI val i)=true
    ·rw[ai hc]
     by_cases e:y=val i
     ·subst e;rw[hc,Bool.true_or]
     ·rw[ay e,Bool.or_false]
    ·rw[af hc,Dv]
     congr 1
     by_cases e:y=val i
     ·rw[ar e,ar e.symm]
     ·rw[ay e,ay (cI e)]
   ·show (if iR (val i) (dI val i)=true then (dI val i).length else (dI val i).length+1)=(if iR (val i) (dI val i)=true then dI val i else dI val i++[val i]).length
    by_cases hc:iR (val i) (dI val i)=true
    ·rw[ai hc,ai hc]
    ·rw[af hc,af hc,aK];rfl
  refine a8 ⟨plainId_quiet vn _,ih (i+1) _ (by left) lt (W.frame _ s' _ _ st' (jO _) fun b hb o e=>?_) x2 fun s'' mv2 x3=>?_⟩
  ·rw[sg.2 b (fun z:b=a=>na (by rw[←z];exact hb))];exact e
  ·refine q s'' (Moved.trans W.gtrans ((mv.mono sb).then_heap (jO _) fun b o hb e=>?_) mv2) x3;rw[sg.2 b (fun z:b=a=>hb (by rw[z];exact bq))];exact e
end
def kH (z:Str) (i:Nat):Key:=Sum.inr ⟨#[z.cps.toList.getD i 0]⟩
def sub_str_set:isSubtype (.type "str") (.type "set")=pure false:=by rw[isSubtype_type];ext
def vh:isSubtype (.type "str") (.type "frozenset")=pure false:=by rw[isSubtype_type];ext
set_option maxRecDepth 100000 in
set_option maxHeartbeats 4000000 in
def za {prog:Zh}{w:Zi}{E:Zq}{s:Zg}{z:Str}{t:Tok}{Q:Zq} (hh:A.handled=none) (hb:z.cps.size+1<scanBound)
  (q:∀ (g:Heap) (tk:Nat),g.SetOf (bu prog w) s.heap.objs.size (fun x=>iR x (dI (kH z) z.cps.size)) (dI (kH z) z.cps.size).length->(∀ b o,b<s.heap.objs.size->s.heap.get? b=some o->g.get? b=some o) →
   Q (.ref s.heap.objs.size) { s with heap:=g,toks:=tk }):wpAny (model prog w) A (call (.type "set") [.str z t]) Q E s:=by
 obtain⟨c,tl,hmro⟩:=kl.mro;have hmade:=kl.made;have hsub:=kl.sub;refine hZ (codeAny_of_tree ?_);show wpAny _ _ (callAny (.type "set") _) _ _ _;refine a8 ⟨Code.quiet_builtin _ (by nofun),lK F.entry_type_call ?_⟩;rw[Around.under_plain (weight_type_call_type "set" [.str z t] []) rfl];have h1:=kl.notType;have h2:=kl.canCreate;have hct:=F.typeCall_set_1 (.str z t)
 repeat (any_goals (first | assumption | wp_step))
 refine gk (code_set_new_1 (.str z t) (E:=E) (Q₁:=fun ob s1=>∃ led:Bool,ob=.ref s.heap.objs.size/\s1={ s with heap:=s.heap.push { cls:=.type "set",dict:=none,data:=.set #[] 0 (.fresh 0 0 led) } }) fun led=>⟨led,rfl,rfl⟩) fun r s1 hr=>?_;cases r with
 | error e=>exact hr
 | ok fl =>
  cases fl with
  | ret ob =>
   obtain⟨led,rfl,rfl⟩:=hr;generalize hg1:s.heap.push { cls:=.type "set",dict:=none,data:=.set #[] 0 (.fresh 0 0 led) }=g1;have hS:g1.get? s.heap.objs.size=some { cls:=.type "set",dict:=none,data:=.set #[] 0 (.fresh 0 0 led) }:=by rw[←hg1];exact bj _ rfl
   have hsz:g1.objs.size=s.heap.objs.size+1:=by rw[←hg1,hO]
   have hkp:∀ b o,s.heap.get? b=some o->g1.get? b=some o:=fun b o e=>by rw[←hg1];exact aL _ e
   have hT:Shared.TypeIs { s with heap:=g1 } (.ref s.heap.objs.size) "set":=⟨_,hS,rfl⟩;have hli:=kl.init.lookup;have hbi:=kl.init.bind (.ref s.heap.objs.size)
   repeat (any_goals (first | assumption | wp_step))
   refine gk (codeAny_call_builtin (R:=wants (fun r s2=>r=.none/\∃ g tk,s2={ s with heap:=g,toks:=tk }/\g.SetOf (bu prog w) s.heap.objs.size (fun x=>iR x (dI (kH z) z.cps.size)) (dI (kH z) z.cps.size).length ∧
     (∀ b o,b<s.heap.objs.size->s.heap.get? b=some o->g.get? b=some o)) E) kl.init.plain F.entry_set_init (check_set_init_1 hT ?_)) fun r2 s2 hr2=>?_
   ·have k1:=sub_str_set;have k2:=vh;have k3:(Value.type "str"==Value.type "dict")=false:=by decide
    have hh3:A.in1.in1.in1.handled=none:=by simp [hh]
    have hval:∀ i v,SignAt z i v->mK (kH z i) v=true/\v.scannable=true:=by
     rintro i v ⟨ch,u,e,rfl⟩;refine⟨?_,rfl⟩;have e2:z.cps.toList.getD i 0=ch:=by rw[cp,oJ,e];rfl
     unfold kH;rw[e2];exact vQ _ _
    have fin:∀ (g2:Heap),(∀ b o,g1.get? b=some o->g2.get? b=some o)->∀ s',Moved (s.heap.objs.size::[g1.objs.size]) (fun a b=>b=a) { s with heap:=g2 } s' →
      s'.heap.SetOf (bu prog w) s.heap.objs.size (fun x=>iR x (dI (kH z) z.cps.size)) (dI (kH z) z.cps.size).length →
      ∃ g tk,s'={ s with heap:=g,toks:=tk }/\g.SetOf (bu prog w) s.heap.objs.size (fun x=>iR x (dI (kH z) z.cps.size)) (dI (kH z) z.cps.size).length/\(∀ b o,b<s.heap.objs.size->s.heap.get? b=some o->g.get? b=some o):=by
     intro g2 k4 s' mv x;obtain⟨g,ge,d,tk,os⟩:=s';have eg:ge=s.gens:=mv.gens;have ed:d=s.drawn:=mv.drawn;have eo:os=s.os:=mv.os;subst eg;subst ed;subst eo;refine⟨g,tk,rfl,x,fun b o hb e=>mv.heap b o ?_ (k4 b o (hkp b o e))⟩;simp only[aJ,dh,dm,not_or];rw[hsz];exact⟨bz hb,bz (fj hb)⟩
    have start:∀ g2:Heap,(∀ b o,g1.get? b=some o->g2.get? b=some o)->g2.SetOf (bu prog w) s.heap.objs.size (fun x=>iR x (dI (kH z) 0)) (dI (kH z) 0).length:=fun g2 k4 =>
     letI:BEq Key:=instBEqOfDecidableEq
     yZ ((PyProof.Rows.setObjOf_fresh (knd:=bu prog w) led).setOf (k4 _ _ hS) (by unfold scanBound;left)) (fun _=>rfl) rfl
    have na:s.heap.objs.size∉[g1.objs.size]:=by simp only[aJ,dh,dm];left
    unfold Builtin.«set.__init__» noKeywords Builtin.Frozenset.updateFrom;generalize hPI:pyIter=PI
    wp_walk
    subst hPI;cases ha:z.cps.all (·<128) with
    | true =>refine wpAny_pyIter_ascii ha ?_;refine ag (wpAny_runValue ?_);refine zi ((Walks.strAscii hh3 g1.objs.size z t).toS) s.heap.objs.size na (kH z) hval hb (z.cps.size-0) 0 _ (by left) (bH _) ⟨_,bj _ rfl,rfl,rfl⟩ (start _ fun b o e=>aL _ e) fun s' mv x=>?_;obtain⟨g,tk,e,r1,r2⟩:=fin _ (fun b o e=>aL _ e) s' mv x;refine a8 ?_;show wpAny _ _ (ret Value.none) _ _ _;exact a8 ⟨rfl,g,tk,e,r1,r2⟩
    | false =>refine wpAny_pyIter_wide ha ?_;refine ag (wpAny_runValue ?_);refine zi ((Walks.strWide hh3 g1.objs.size z t).toS) s.heap.objs.size na (kH z) hval hb (z.cps.size-0) 0 _ (by left) (bH _) ⟨_,bj _ rfl,rfl,rfl⟩ (start _ fun b o e=>aL _ e) fun s' mv x=>?_;obtain⟨g,tk,e,r1,r2⟩:=fin _ (fun b o e=>aL _ e) s' mv x;refine a8 ?_;show wpAny _ _ (ret Value.none) _ _ _;exact a8 ⟨rfl,g,tk,e,r1,r2⟩
   ·cases r2 with
    | error e=>exact hr2
    | ok fl2 =>
     cases fl2 with
     | ret v =>
      obtain⟨rfl,g,tk,rfl,x1,x2⟩:=hr2
      repeat (any_goals (first | assumption | wp_step))
      exact q _ _ x1 x2
     | _=>exact hr2.elim
  | _=>exact hr.elim
end
section
def A3 (P:Zh) (w:Zi) (a:Addr) (l:List Key):HO:=.ext fun h=>h.SetOf (bu P w) a (fun x=>iR x l) l.length
def Jr {l:List Key} (x:h.SetOf (bu P w) a (fun x=>iR x l) l.length):bT P w H h a (A3 P w a l):=by
 refine⟨x,?_,fun h1 h2 y k=>?_⟩
 ·obtain⟨o,_,_,_,e,_⟩:=x;exact⟨o,e⟩
 ·obtain⟨o,es,ep,t,e,r⟩:=y;exact⟨o,es,ep,t,k o e,r⟩
def GC (P:Zh) (w:Zi):List V->Hp->VK->Prop:=fun vs H Q=>match vs with
 | [.str z]=>z.length<=4000/\∀ p H',H p=none->ax H H'->H' p=some (A3 P w p (dI (kH z) z.length))->Q (.ref p) H'
 | _=>False
def C9 (hc:X.calm=true):cS X (.type "set") (GC X.prog X.w):=by
 intro Yp s σ H xs us Q I r h
 match xs,h with
 | [.str z],h =>obtain⟨u,rfl,t,rfl⟩:=vals1 r;have hf:H s.heap.objs.size=none:=I.hok.fresh (aq _);have hz:z.cps.size<=4000:=h.1;refine za (I.ok.hd hc) (by unfold scanBound;left) fun g tk x k=>?_;have kk:∀ b o,s.heap.get? b=some o->g.get? b=some o:=fun b o e=>k b o (aM e) e;exact⟨.ref s.heap.objs.size,upd H s.heap.objs.size (A3 X.prog X.w s.heap.objs.size (dI (kH z) z.length)),I.laid (t':=tk) kk (aq _) (Jr x),rfl,h.2 _ _ hf (eG hf) aB⟩
def GA (P:Zh) (w:Zi):List V->Hp->VK->Prop:=fun vs H Q=>match vs with
 | [.ref p]=>∃ l,H p=some (A3 P w p l)/\Q (.int l.length) H
 | _=>False
def Cu :cS X (.builtin "len") (GA X.prog X.w):=by
 intro Yp s σ H xs us Q I r h
 match xs,h with
 | [.ref p],h =>obtain⟨l,e,q⟩:=h;obtain⟨u,rfl,ru⟩:=vals1 r;cases ru;obtain⟨⟨o,es,ep,t,e1,e2,e3,_,_,e4,e5,e6⟩,_⟩:=(show bT X.prog X.w H s.heap p (A3 X.prog X.w p l) from I.hok p _ e);refine call_len_set e1 e2 e3 e5 (by have:es.size<4096:=e4;left) ⟨.int es.size,H,I.tok _,⟨_,rfl⟩,?_⟩;rw[e6];exact q
def C8 (hP:X.prog=P) (hw:X.w=w) (hc:X.calm=true):cS X (.type "set") (GC P w):=by subst hP hw;exact C9 hc
def zq (hP:X.prog=P) (hw:X.w=w):cS X (.builtin "len") (GA P w):=by subst hP hw;exact Cu
theorem uA (val:Nat->Key):∀ (n:Nat) (x:Key),x∈dI val n↔∃ i,i<n/\val i=x
 | 0,x=>⟨fun h=>(by cases h),fun ⟨i,h,_⟩=>absurd h (Nat.not_lt_zero _)⟩
 | n+1,x=>by
  have ih:=uA val n;unfold dI
  by_cases hc:iR (val n) (dI val n)=true
  ·rw[ai hc,ih x];obtain⟨j,hj,ej⟩:=(ih (val n)).mp (u7.mp hc);constructor
   ·rintro⟨i,h,e⟩;exact⟨i,fj h,e⟩
   ·rintro⟨i,h,e⟩;rcases rg.mp h with h | h
    ·exact⟨i,h,e⟩
    ·exact⟨j,hj,by rw[ej,←h,e]⟩
  ·rw[af hc,bI,bA,ih x];constructor
   ·rintro (⟨i,h,e⟩ | e)
    ·exact⟨i,fj h,e⟩
    ·exact⟨n,jP _,e.symm⟩
   ·rintro⟨i,h,e⟩;rcases rg.mp h with h | h
    ·exact .inl ⟨i,h,e⟩
    ·exact .inr (by rw[←e,h])
theorem vU (val:Nat->Key):∀ n,(dI val n).length=n↔∀ i j,i<n->j<n->val i=val j->i=j
 | 0=>⟨fun _ i _ h=>absurd h (Nat.not_lt_zero _),fun _=>rfl⟩
 | n+1=>by
  have ih:=vU val n;have hl:=u9 val n;unfold dI
  by_cases hc:iR (val n) (dI val n)=true
  ·rw[ai hc];obtain⟨j,hj,ej⟩:=(uA val n (val n)).mp (u7.mp hc);constructor
   ·intro h;left
   ·intro h;have:=h j n (fj hj) (jP _) ej;left
  ·rw[af hc,aK,jM];have nm:∀ i,i<n->val i≠val n:=fun i hi e=>hc (u7.mpr ((uA val n (val n)).mpr ⟨i,hi,e⟩));constructor
   ·intro h i j hi hj e;have h2:=ih.mp (by left);rcases rg.mp hi with hi | hi<;>rcases rg.mp hj with hj | hj
    ·exact h2 i j hi hj e
    ·subst hj;exact absurd e (nm i hi)
    ·subst hi;exact absurd e.symm (nm j hj)
    ·left
   ·intro h;have:=ih.mpr fun i j hi hj=>h i j (fj hi) (fj hj);left
def vV (z:Str):(dI (kH z) z.length).length=z.length↔z.cps.toList.Nodup:=by
 rw[vU,List.nodup_iff_pairwise_ne,List.pairwise_iff_getElem];have hl:=dE z;constructor
 ·intro h i j hi hj hij e;have:=h i j (by left) (by left) (by unfold kH;rw[cp,cp,b9 hi,b9 hj,e]);left
 ·intro h i j hi hj e;have hi':i<z.cps.toList.length:=by left
  have hj':j<z.cps.toList.length:=by left
  have e2:z.cps.toList[i]=z.cps.toList[j]:=by
   unfold kH at e;rw[cp,cp,b9 hi',b9 hj'] at e;have e4:=aV Str.cps (Sum.inr.inj e)
   simpa using e4
  rcases Nat.lt_trichotomy i j with z1 | z1 | z1
  ·exact absurd e2 (h i j hi' hj' z1)
  ·exact z1
  ·exact absurd e2.symm (h j i hj' hi' z1)
def BE:V->List V->Hp->VK->Prop:=fun x vs H Q=>match x,vs with
 | .ref l,[.int i,y]=>∃ xs,H l=some (.lst xs)/\0<=i/\i<2^62/\xs.length<sizeLine/\Q .non (upd H l (.lst (xs.take i.toNat++y::xs.drop i.toNat)))
 | _,_=>False
def Dy :MtM X "list.insert" BE:=by
 intro Yp s σ H x vs v us Q I rx rv h
 match x,vs,h with
 | .ref l,[.int i,y],h =>
  obtain⟨xs,hH,h0,h1,hz,q⟩:=h;cases rx;obtain⟨u1,u2,rfl,⟨t,rfl⟩,ry⟩:=rv.two;obtain⟨z,its,n,r,hl,e⟩:=I.FH hH;have hfit:¬(!Builtin.List.listFitsIndex i)=true:=by unfold Builtin.List.listFitsIndex;simp;left
  refine iO F.slot_list_insert ⟨_,e,rfl⟩ F.entry_list_insert (F.args_list_insert_3 _ _ _) (AutoListH.list_insert_list_int_val_1 l its.toArray n i t u2 hfit (by rw[aZ];left)) ⟨e,?_⟩;refine⟨.non,_,I.Ml (ys:=xs.take i.toNat++y::xs.drop i.toNat) (its':=its.take i.toNat++u2::its.drop i.toNat) hH e ?_ ((r.take i.toNat).append (.cons ry (r.drop i.toNat))) ?_,rfl,q⟩
  ·have e0:(if i<0 then (i+((its.toArray.size:Nat):Int)).toNat else min i.toNat its.toArray.size)=min i.toNat its.length:=by rw[af (by left),aZ]
   show (its.toArray.extract 0 (if i<0 then (i+((its.toArray.size:Nat):Int)).toNat else min i.toNat its.toArray.size)).push u2++its.toArray.extract (if i<0 then (i+((its.toArray.size:Nat):Int)).toNat else min i.toNat its.toArray.size)=_;rw[e0];apply Array.toList_inj.mp
   by_cases hb:i.toNat<=its.length
   ·rw[iN hb];simp;rw[di (by rw[cR];left)]
   ·rw[lE (by left)];simp [di (show its.length<=i.toNat by left),List.drop_of_length_le (show its.length<=i.toNat by left)]
  ·rw[aK,aN,fK,cR];left
def CG (l:Za):rJ l none (some (-1))=l.dropLast:=by
 unfold rJ;rw[List.dropLast_eq_take];have e1:HT.sIx l.length 0 none=0:=rfl;have e2:HT.sIx l.length l.length (some (-1))=l.length-1:=by unfold HT.sIx;simp;left
 rw[e1,e2];rfl
def vp:bootBuiltins "ValueError"=some (.type "ValueError"):=by ext
def ndB:List Addr->Bool
 | []=>true
 | a::r=>!r.contains a&&ndB r
theorem J9:∀ {l:List Addr} (_:ndB l=true) {i j:Nat}{a b:Addr},l[i]?=some a->l[j]?=some b->(a==b)=decide (i=j)
 | [],_,_,_,_,_,h,_=>by simp at h
 | x::l,hn,0,0,a,b,ha,hb=>by simp at ha hb;subst ha hb;simp
 | x::l,hn,0,j+1,a,b,ha,hb=>by
  unfold ndB at hn;rw[cm,Bool.not_eq_true'] at hn;simp at ha hb;subst ha;have hm:b∈l:=bw hb;have:x≠b:=fun e=>by rw[e,List.contains_iff_mem.mpr hm] at hn;cases hn.1
  simp [this]
 | x::l,hn,i+1,0,a,b,ha,hb=>by
  unfold ndB at hn;rw[cm,Bool.not_eq_true'] at hn;simp at ha hb;subst hb;have hm:a∈l:=bw ha;have:a≠x:=fun e=>by rw[←e,List.contains_iff_mem.mpr hm] at hn;cases hn.1
  simp [this]
 | x::l,hn,i+1,j+1,a,b,ha,hb=>by unfold ndB at hn;rw[cm] at hn;rw[J9 hn.2 (i:=i) (j:=j) (by simpa using ha) (by simpa using hb)];exact iP.mpr (by left)
def kX {H H':Hp} (s:ax H H') {x:V}{t:Tg} (h:fT H x=some t):fT H' x=some t:=by
 cases x with
 | ref a =>
  have h':mF (H a)=some t:=h;cases e:H a with
  | none=>rw[e] at h';cases h'
  | some o =>show mF (H' a)=some t;rw[s a o e,←e];exact h'
 | _=>exact h
end
section
def tR {k:Nat}:items[((k:Nat):Int).toNat]?=(items.toList.drop k)[0]?:=by rw[qQ,nI,Nat.add_zero,oJ]
def Bc {k:Nat}{r:Zc} (h:items.toList.drop k=v::r):items.toList.drop (k+1)=r:=by rw[←List.drop_drop,h];rfl
def mL:Zb->Zb->Bool
 | [],[]=>true
 | [],_::_=>false
 | _::_,[]=>true
 | a::x,c::y=>if a=c then mL x y else decide (c<=a)
def Iw (l b:Addr) (items items2:Array Value) (n n2:Nat) (dd dd2:Option Addr) (sl sl2:Array (Option Value)) {prog:Zh}{w:Zi}{A:Around}{R:Result->Zg->Prop}{s:Zg}
  (hl:s.heap.get? l=some { cls:=.type "list",dict:=dd,data:=.seq items n,slots:=sl }) (hb:s.heap.get? b=some { cls:=.type "list",dict:=dd2,data:=.seq items2 n2,slots:=sl2 }) :
  ∀ (xs:Zc) (k:Nat) (ns ms:Zb),items.toList.drop k=xs->IntsAre xs ns->IntsAre (items2.toList.drop k) ms->k<=items.size->k<=items2.size->R (.ok (.ret (.bool (mL ns ms)))) s →
   codeAny (model prog w) A (Code.builtin "list.__eq__.loop" { pos:=[.ref l,.ref b,rawInt (k:Int),rawInt 5] }) R s:=by
 obtain⟨hp,g,d,tk,os⟩:=s;simp only at hl hb;intro xs
 induction xs with
 | nil =>
  intro k ns ms hx hi hj hk hk2 h;refine lK MeetsSeq3.entry_eq_loop ?_;show wpAny _ _ (Builtin.«list.__eq__.loop» { pos:=[.ref l,.ref b,Value.int (k:Int) 0,Value.int 5 0] }) _ _ _;unfold Builtin.«list.__eq__.loop»;have e1:items[((k:Nat):Int).toNat]?=none:=by rw[tR,hx];rfl
  have hz:items.size=k:=by have:=aV List.length hx;rw[cR,jq,cf] at this;left
  have hz2:items2.size-k=ms.length:=by have:=hj.length;rw[cR,jq] at this;exact this
  wp_walk using AutoSeq1.wpAny_loadPart' hl,AutoSeq1.wpAny_loadPart' hb
  rw[e1]
  wp_walk using AutoSeq1.wpAny_loadPart' hl,AutoSeq1.wpAny_loadPart' hb
  cases hi
  have e2:mL [] ms=decide (items.size≥items2.size):=by
   cases ms with
   | nil=>exact (ar (by simp only[cf] at hz2;left)).symm
   | cons c y=>exact (ay (by simp only[aN] at hz2;left)).symm
  rw[e2] at h;exact h
 | cons v xs ih =>
  intro k ns ms hx hi hj hk hk2 h;refine lK MeetsSeq3.entry_eq_loop ?_;show wpAny _ _ (Builtin.«list.__eq__.loop» { pos:=[.ref l,.ref b,Value.int (k:Int) 0,Value.int 5 0] }) _ _ _;unfold Builtin.«list.__eq__.loop»;have e1:items[((k:Nat):Int).toNat]?=some v:=by rw[tR,hx];rfl
  have hz:items.size=k+(xs.length+1):=by have:=aV List.length hx;rw[cR,jq,aN] at this;left
  wp_walk using AutoSeq1.wpAny_loadPart' hl,AutoSeq1.wpAny_loadPart' hb
  rw[e1];cases hi with
  | cons a t hi' =>
  generalize hy:items2.toList.drop k=ys at hj;cases hj with
  | nil =>
   have e2:items2[((k:Nat):Int).toNat]?=none:=by rw[tR,hy];rfl
   have hz2:items2.size=k:=by have:=aV List.length hy;rw[cR,jq,cf] at this;left
   rw[e2]
   wp_walk using AutoSeq1.wpAny_loadPart' hl,AutoSeq1.wpAny_loadPart' hb
   have e3:∀ z,mL (a::z) []=decide (items.size≥items2.size):=fun z=>(ar (by left)).symm;rw[e3] at h;exact h
  | cons c u hj' =>
   have e2:items2[((k:Nat):Int).toNat]?=some (.int c u):=by rw[tR,hy];rfl
   have hz2:k+1<=items2.size:=by have:=aV List.length hy;rw[cR,jq,aN] at this;left
   rw[e2];obtain⟨e,he,hiff⟩:=HT.EL (A.under (Code.builtin "list.__eq__.loop" { pos:=[.ref l,.ref b,rawInt (k:Int),rawInt 5] })) ⟨hp,g,d,tk,os⟩ a t c u;refine ag (he prog w _ _ ?_);unfold mL at h;cases e with
   | true =>
    rw[ai (hiff.mp rfl)] at h
    wp_walk
    exact⟨by with_unfolding_all rfl,ih (k+1) _ _ (Bc hx) hi' (by rw[Bc hy];exact hj') (by left) (by left) h⟩
   | false =>
    rw[af (fun q=>absurd (hiff.mpr q) bO)] at h
    wp_walk using AutoSeq1.wpAny_loadPart' hl,AutoSeq1.wpAny_loadPart' hb
    rw[e1,e2];have hri:∀ (A:Around) (E:Zq) (Q:Zq),Q (.bool (decide (c<=a))) ⟨hp,g,d,tk,os⟩->wpAny (model prog w) A (richCompare .GtE (.int a t) (.int c u)) Q E ⟨hp,g,d,tk,os⟩:=fun A E Q h=>(PyProof.Rows.ge_int h:wpAny (model prog w) A (compareOp .GtE (.int a t) (.int c u)) Q E _);refine ag (hri _ _ _ ?_)
    wp_walk
    exact h
def Fn {l b:Addr}{items items2:Array Value}{ns ms:Zb}{prog:Zh}{w:Zi}{A:Around}{E:Zq}{Q:Zq} (hl:s.heap.IsList l items) (hb:s.heap.IsList b items2) (hi:IntsAre items.toList ns) (hj:IntsAre items2.toList ms)
  (hu:A.units<cLine) (h:Q (.bool (mL ns ms)) s):wpAny (model prog w) A (compareOp .GtE (.ref l) (.ref b)) Q E s:=by
 obtain⟨⟨c1,dd,d1,sl⟩,ho,g1,n,g2⟩:=id hl;obtain⟨⟨c2,dd2,d2,sl2⟩,ho2,g3,n2,g4⟩:=id hb;simp only at g1 g2 g3 g4;subst g1 g2 g3 g4;have m:Meets (Builtin.«list.__ge__» ⟨[.ref l,.ref b],[]⟩) (fun _ R s=>s.heap.get? l=some { cls:=.type "list",dict:=dd,data:=.seq items n,slots:=sl }/\s.heap.get? b=some { cls:=.type "list",dict:=dd2,data:=.seq items2 n2,slots:=sl2 } ∧
    R (.ok (.ret (.bool (mL ns ms)))) s):=by
  intro prog w A R s h;obtain⟨hp,g,d,tk,os⟩:=s;obtain⟨hl,hb,h⟩:=h;simp only at hl hb;have f2:=AutoSeq1.sub_list_list;unfold Builtin.«list.__ge__»
  wp_walk using AutoSeq1.wpAny_loadPart' hl,AutoSeq1.wpAny_loadPart' hb
  exact⟨by with_unfolding_all rfl,Iw l b items items2 n n2 dd dd2 sl sl2 hl hb _ 0 ns ms rfl hi hj (bH _) (bH _) h⟩
 exact PySem.W.cmp_ofGtE (richCompare_meets_room (op:=.GtE) ⟨_,ho,rfl⟩ ⟨_,ho2,rfl⟩ PySem.F.slot_list_ge PySem.F.entry_list_ge (PySem.F.args_list_ge_2 _ _) m
  ⟨ho,ho2,show Value.bool (mL ns ms)≠Value.notImplemented/\Q (.bool (mL ns ms)) s from ⟨(fun x=>nomatch x),h⟩⟩ hu)
section
variable {X:Cx}{K:Zf}
def My (K:Zf):R2:=fun x y H Q=>match x,y with
 | .int i,.int j=>Q (.bl (decide (j<=i))) H
 | .ref a,.ref b=>∃ ns ms,SqL K H a (ns.map V.int)/\SqL K H b (ms.map V.int)/\Q (.bl (mL ns ms)) H
 | _,_=>False
def xp (hK:X.K=K) (hu:X.A.units<cLine):OpR X (compareOp .GtE) (My K):=by
 subst hK;intro Yp s σ H x y v u Q I rx ry h;cases x with
 | int i=>cases y with
  | int j=>exact Ld Yp s σ H _ _ v u Q I rx ry h
  | _=>exact False.elim h
 | ref a=>cases y with
  | ref b =>obtain⟨ns,ms,ha,hb,q⟩:=h;cases rx;cases ry;obtain⟨its,r1,p1,_⟩:=I.list ha;obtain⟨its2,r2,p2,_⟩:=I.list hb;exact Fn p1.isList p2.isList (intsAre_of r1) (intsAre_of r2) hu ⟨.bl (mL ns ms),H,I,rfl,q⟩
  | _=>exact False.elim h
 | _=>exact False.elim h
end
def dY {t u:TS} (h:∀ nn:TS,nn=u->t { D with nx:=fun σ' H'=>nn D σ' H' } σ H):AD t u D σ H:=h u rfl
def Ff {lo:Int}{n:Nat}{g:TG}{tb:TS}{D:Ends} (Pv:Nat->St->Hp->Prop) (h0:Pv 0 σ H)
  (hs:∀ i σ H,i<n->Pv i σ H->∀ N:St->Hp->Prop,(∀ σ' H',Pv (i+1) σ' H'->N σ' H')->g (.int (lo+i)) σ H fun σ2 H2=>tb { D with nx:=N,ct:=N,bk:=D.nx } σ2 H2) (hd:∀ σ H,Pv n σ H->D.nx σ H):iB g tb D (Itr lo n) σ H :=
 Bi Pv h0 (fun i σ H hi hp=>hs i σ H hi hp _ fun _ _ h=>h) hd
def jw {g:TG}{tb:TS}{D:Ends} (Pv:Nat->St->Hp->Prop) (h0:Pv 0 σ H) (hl:∀ i σ H,i<=xs.length->Pv i σ H->SqL K H a xs)
  (hs:∀ i x σ H,xs[i]?=some x->Pv i σ H->∀ N:St->Hp->Prop,(∀ σ' H',Pv (i+1) σ' H'->N σ' H')->g x σ H fun σ2 H2=>tb { D with nx:=N,ct:=N,bk:=D.nx } σ2 H2) (hd:∀ σ H,Pv xs.length σ H->D.nx σ H):iB g tb D (Itl K a) σ H :=
 wL Pv h0 hl (fun i x σ H hi hp=>hs i x σ H hi hp _ fun _ _ h=>h) hd
end
section
theorem pM (c:Nat):∀ (ls:List (Za)),(tx [c]).join (ls.map tx)=tx (Mk.cz c ls)
 | []=>rfl
 | [w]=>by rfl
 | w::v::ws=>by have ih:=pM c (v::ws);show tx w++tx [c]++(tx [c]).join ((v::ws).map tx)=tx (w++c::Mk.cz c (v::ws));rw[ih,nD,nD,nK];rfl
def LJ (ls:Ze):(ls.map fun z=>z.cps.toList).map tx=ls:=by
 rw[aX]
 conv=>rhs;rw[←List.map_id ls]
 exact nT fun z _=>nE z
def zc (l:Za) (c:Nat):Txt.split (tx l) (tx [c])=(Mk.cc c l).map tx:=by
 have h1:=StrLaws.join_split (tx l) (tx [c]);have h2:∀ p∈Txt.split (tx l) (tx [c]),c∉p.cps.toList:=fun p hp=>StrLaws.split_free (tx l) c p hp;have h3:=PyProof.Rows.split_pos (tx l) (tx [c]);generalize Txt.split (tx l) (tx [c])=ps at h1 h2 h3;rw[←LJ ps] at h1 ⊢;rw[pM] at h1;rw[←vi h1,Mk.gI]
 ·intro e;have:=aV List.length e;simp at this;rw[this] at h3;simp at h3
 ·intro w hw;obtain⟨p,hp,rfl⟩:=aD.mp hw;exact h2 p hp
def wq (c:Nat) (ls:List (Za)):Txt.join (tx [c]) (ls.map tx)=tx (Mk.cz c ls):=by
 have go:∀ (r:List (Za)) (acc:Za),(r.map tx).foldl (fun acc p=>acc++(tx [c]).cps++p.cps) acc.toArray=(acc++(r.map fun w=>c::w).flatten).toArray:=by
  intro r
  induction r with
  | nil=>intro acc;simp
  | cons a r ih =>
   intro acc;rw[bp,List.foldl_cons];have e:acc.toArray++(tx [c]).cps++(tx a).cps=(acc++c::a).toArray:=by simp [tx]
   rw[e,ih];simp
 have jl:∀ (a:Za) (r:List (Za)),Mk.cz c (a::r)=a++(r.map fun w=>c::w).flatten:=by
  intro a r
  induction r generalizing a with
  | nil=>simp [Mk.cz]
  | cons b r ih =>show a++c::Mk.cz c (b::r)=_;rw[ih b];simp
 unfold Txt.join Builtin.Str.glued;cases ls with
 | nil=>rfl
 | cons a r =>have:=go r a;show Str.mk ((r.map tx).foldl (fun acc p=>acc++(tx [c]).cps++p.cps) a.toArray)=tx (Mk.cz c (a::r));rw[this,jl];rfl
def GG:V->List V->Hp->VK->Prop:=fun x vs H Q=>match x,vs with
 | .str z,[.str y]=>z.length<=100000/\∃ c,y=tx [c]/\nw H (.lst ((Mk.cc c z.cps.toList).map fun w=>.str (tx w))) Q
 | _,_=>False
theorem sD:∀ (l:List (Str×Tok)),Vals ((l.map fun p=>p.1).map V.str) (strValues l)
 | []=>.nil
 | p::l=>.cons ⟨p.2,rfl⟩ (sD l)
def A9 {prog:Zh}{w:Zi}{A:Around}{E:Zq}{s:Zg}{x y:Str}{t u:Tok}{Q:Zq} (hy:(y.length==0)=false) (hsz:x.length+2<=sizeLine)
  (h:∀ (l:List (Str×Tok)) (k:Nat),l.map (fun p=>p.1)=Txt.split x y->Q (.ref s.heap.objs.size) { s with heap:=s.heap.push { cls:=.type "list",data:=.seq (strValues l).toArray },toks:=k }) :
  wpAny (model prog w) A (call (.builtin "str.split") [.str x t,.str y u]) Q E s:=by
 have ex:Txt.split x y=if (decide (x.length<y.length)||decide (Builtin.Str.strKind x<Builtin.Str.strKind y))=true then [x] else if (Builtin.Str.occurrences x y 0 x.length (x.length+1)).isEmpty=true then [x] else Builtin.Str.partsBetween x (Builtin.Str.occurrences x y 0 x.length (x.length+1)) y.length:=rfl
 cases h1:(decide (x.length<y.length)||decide (Builtin.Str.strKind x<Builtin.Str.strKind y)) with
 | true =>rw[h1,ai rfl] at ex;refine iO kZ (hX s x t) oM (F.args_str_split_2 (Value.str x t) (Value.str y u)) (meets_str_split_cannot_occur x y t u h1) ?_;exact h [(x,_)] _ ex.symm
 | false =>
  rw[h1,af (by decide)] at ex;cases hf:(Builtin.Str.occurrences x y 0 x.length (x.length+1)).isEmpty with
  | true =>rw[hf,ai rfl] at ex;refine iO kZ (hX s x t) oM (F.args_str_split_2 (Value.str x t) (Value.str y u)) (meets_str_split_not_found x y t u h1 hy hf) ?_;exact h [(x,_)] _ ex.symm
  | false =>rw[hf,af (by decide)] at ex;have hl:=PyProof.Rows.split_le x y;rw[ex] at hl;refine iO kZ (hX s x t) oM (F.args_str_split_2 (Value.str x t) (Value.str y u)) (meets_str_split_sep x y t u h1 hy hf (by left) (by left)) ?_;show Q _ _;rw[strsFrom_eq];exact h _ _ ((numbered_texts _ _).trans ex.symm)
def qj :MtM X "str.split" GG:=by
 intro Yp s σ H x vs v us Q I rx rv h
 match x,vs,h with
 | .str z,[.str y],h =>
  obtain⟨hz,c,rfl,q⟩:=h;obtain⟨t,rfl⟩:=rx;obtain⟨u,rfl,ru⟩:=rv.one;obtain⟨t2,rfl⟩:=ru;have hb:z.length+2<=sizeLine:=by rw[fN];left
  refine A9 rfl hb fun l k e=>?_;have e2:l.map (fun p=>p.1)=(Mk.cc c z.cps.toList).map tx:=by rw[e,←zc,nE]
  have hl:(strValues l).length<=z.length+2:=by have:=PyProof.Rows.split_le z (tx [c]);rw[←e,ak] at this;rw[show (strValues l).length=l.length from ak ..];exact this
  have r:=sD l;rw[e2,aX] at r;refine⟨.ref s.heap.objs.size,_,I.laid (t':=k) (o:=.lst ((Mk.cc c z.cps.toList).map fun w=>.str (tx w))) (fun b ob q=>aL _ q) (aq _) ?_,rfl,q.go _ (I.hok.fresh (aq _))⟩;refine⟨?_,_,0,r,bj _ rfl⟩;have:=r.length;rw[show ((Mk.cc c z.cps.toList).map fun w=>V.str (tx w))=(Mk.cc c z.cps.toList).map (V.str ∘ tx) from rfl,this];left
end
section
def zA {i j}{H:Hp}{Q:VK}:BC (.int i) (.int j) H Q=(Q (.int (i+j)) H):=propext Iff.rfl
def zB {a b}{H:Hp}{Q:VK}:BC (.str a) (.str b) H Q=(a.length+b.length<=sizeLine/\Q (.str (a++b)) H):=propext Iff.rfl
def zC {l b}{H:Hp}{Q:VK}:BC (.ref l) (.ref b) H Q=(∃ xs zs,H l=some (.lst xs)/\H b=some (.lst zs)/\xs.length+zs.length<=sizeLine/\nw H (.lst (xs++zs)) Q):=propext Iff.rfl
def zP {i j}{H:Hp}{Q:VK}:JN (.int i) (.int j) H Q=(Q (.int (i-j)) H):=propext Iff.rfl
def zK {i j}{H:Hp}{Q:VK}:JH (.int i) (.int j) H Q=(Hv i j/\Q (.int (i*j)) H):=propext Iff.rfl
def yi {i j}{H:Hp}{Q:VK}:Gu (.int i) (.int j) H Q=((0<j/\j<2^1000)/\Q (.int (i/j)) H):=propext Iff.rfl
def zJ {i j}{H:Hp}{Q:VK}:JG (.int i) (.int j) H Q=(0<j/\Q (.int (i%j)) H):=propext Iff.rfl
def zL {i j}{H:Hp}{Q:VK}:JK (.int i) (.int j) H Q=((0<=j/\j<=1000000/\i.natAbs<2^64)/\Q (.int (i^j.toNat)) H):=propext Iff.rfl
def zD {f:Int->Int->Bool}{i j}{H:Hp}{Q:VK}:vZ f (.int i) (.int j) H Q=(Q (.bl (f i j)) H):=propext Iff.rfl
def CQ {K:Zf}{i j}{H:Hp}{Q:VK}:My K (.int i) (.int j) H Q=(Q (.bl (decide (j<=i))) H):=propext Iff.rfl
def CN {K:Zf}{i j}{H:Hp}{Q:VK}:vy K (.int i) (.int j) H Q=(Q (.bl (decide (i=j))) H):=propext Iff.rfl
def CO {K:Zf}{i j}{H:Hp}{Q:VK}:vy K (.str i) (.str j) H Q=(Q (.bl (decide (i=j))) H):=propext Iff.rfl
def CP {K:Zf}{a b}{H:Hp}{Q:VK}:vy K (.ref a) (.ref b) H Q=(∃ xs ys,SqL K H a xs/\SqL K H b ys/\xs.all dZ=true/\ys.all dZ=true/\Q (.bl (oW xs ys)) H):=propext Iff.rfl
def CV {K:Zf}{i j}{H:Hp}{Q:VK}:yU K (.int i) (.int j) H Q=(Q (.bl (!decide (i=j))) H):=propext Iff.rfl
def CW {K:Zf}{i j}{H:Hp}{Q:VK}:yU K (.str i) (.str j) H Q=(Q (.bl (!decide (i=j))) H):=propext Iff.rfl
def CY {K:Zf}{a b}{H:Hp}{Q:VK}:yU K (.ref a) (.ref b) H Q=(∃ xs ys,SqL K H a xs/\SqL K H b ys/\xs.all dZ=true/\ys.all dZ=true/\Q (.bl (!oW xs ys)) H):=propext Iff.rfl
def CT {K:Zf}{p i}{H:Hp}{Q:VK}:Jl K (.ref p) (.int i) H Q=(∃ xs v,Sq K H p xs/\atI xs i=some v/\Q v H):=propext Iff.rfl
def CU {K:Zf}{z i}{H:Hp}{Q:VK}:Jl K (.str z) (.int i) H Q=(z.length<=sizeLine/\∃ c,atI z.cps.toList i=some c/\Q (.str ⟨#[c]⟩) H):=propext Iff.rfl
def zG {K:Zf}{z}{H:Hp}{Q:VK}:BF K [.str z] H Q=(z.length<=sizeLine/\Q (.int z.length) H):=propext Iff.rfl
def zH {K:Zf}{p}{H:Hp}{Q:VK}:BF K [.ref p] H Q=(∃ xs,Sq K H p xs/\Q (.int xs.length) H):=propext Iff.rfl
def zz {i}{H:Hp}{Q:VK}:JC [.int i] H Q=(Q (.int (i.natAbs:Int)) H):=propext Iff.rfl
def zI {i j}{H:Hp}{Q:VK}:JF [.int i,.int j] H Q=(Q (.int (min i j)) H):=propext Iff.rfl
def yk {K:Zf}{a}{H:Hp}{Q:VK}:Au K [.ref a] H Q=(∃ ys,(Sq K H a ys∨∃ lo hi,H a=some (.rng lo hi)/\(-(2^62)<=lo/\lo<2^62/\-(2^62)<=hi/\hi<2^62)/\(hi-lo).toNat<=2^20/\ys=xA lo (hi-lo).toNat)/\nw H (.lst ys) Q):=propext Iff.rfl
def zM {j}{H:Hp}{Q:VK}:JL [.int j] H Q=(nw H (.rng 0 j) Q):=propext Iff.rfl
def zE {c:Tg}{x n}{H:Hp}{Q:VK}:JE c [x,.ty n] H Q=(n=c.name/\∃ t,fT H x=some t/\Q (.bl (t.sub c)) H):=propext Iff.rfl
def CZ {K:Zf}{a}{lo}{hi}{H:Hp}{Q:VK}:Jm K (.ref a) lo hi H Q=(∃ xs,SqL K H a xs/\nw H (.lst (pV xs lo hi)) Q):=propext Iff.rfl
def Dc {K:Zf}{z}{lo}{hi}{H:Hp}{Q:VK}:Jm K (.str z) lo hi H Q=(z.length<=sizeLine/\Q (.str (tx (rJ z.cps.toList lo hi))) H):=propext Iff.rfl
def wK {l i y}{H:Hp}{Q:VK}:BE (.ref l) [.int i,y] H Q=(∃ xs,H l=some (.lst xs)/\0<=i/\i<2^62/\xs.length<sizeLine/\Q .non (upd H l (.lst (xs.take i.toNat++y::xs.drop i.toNat)))):=propext Iff.rfl
def wJ {z y}{H:Hp}{Q:VK}:BD (.str z) [.str y] H Q=(0<=Txt.find z y/\Q (.int (Txt.find z y)) H):=propext Iff.rfl
def yj {K:Zf}{z p}{H:Hp}{Q:VK}:As K (.str z) [.ref p] H Q=(∃ ys:Ze,SqL K H p (ys.map V.str)/\(ys.map (·.length)).sum+ys.length*z.length<=16777216/\Q (.str (Txt.join z ys)) H):=propext Iff.rfl
def ym {z y}{H:Hp}{Q:VK}:GG (.str z) [.str y] H Q=(z.length<=100000/\∃ c,y=tx [c]/\nw H (.lst ((Mk.cc c z.cps.toList).map fun w=>.str (tx w))) Q):=propext Iff.rfl
def zN {P:Zh}{w:Zi}{z}{H:Hp}{Q:VK}:GC P w [.str z] H Q=(z.length<=4000/\∀ p H',H p=none->ax H H'->H' p=some (A3 P w p (dI (kH z) z.length))->Q (.ref p) H'):=propext Iff.rfl
def zF {P:Zh}{w:Zi}{p}{H:Hp}{Q:VK}:GA P w [.ref p] H Q=(∃ l,H p=some (A3 P w p l)/\Q (.int l.length) H):=propext Iff.rfl
def zx {K:Zf}{a:Addr}{H:Hp}{R:It->Hp->Prop}:Bm K (.ref a) H R=(((∃ xs,SqL K H a xs)/\R (Itl K a) H)∨((∃ xs,SqT K H a xs)/\R (Itt K a) H)):=propext Iff.rfl
def zy {K:Zf}{z:Str}{H:Hp}{R:It->Hp->Prop}:Bm K (.str z) H R=R (Itx z) H:=propext Iff.rfl
end
section
section
variable {X:Cx}
end
section
variable {X:Cx}{tg:Expr}
end
def Iti (ob:Obj) (a:Addr) (kvs:List (Key×V)):It :=
 ⟨fun i H=>i<kvs.length/\H a=some (.frz ob (.dK kvs)),
  fun i H v H'=>∃ k x p,kvs[i]?=some (k,x)/\v=.ref p/\H p=none/\H'=upd H p (.tup [kV k,x]),
  fun i H=>kvs.length<=i/\H a=some (.frz ob (.dK kvs))⟩
def BI {k:Key} (h:mK k v=true):RelV (kV k) v:=by
 rcases cP h with ⟨i,t,rfl,rfl⟩ | ⟨x,t,rfl,rfl⟩
 ·exact⟨t,rfl⟩
 ·exact⟨t,rfl⟩
def FA {vs:List (Key×Value)} (r:KV kvs vs):∀ {i:Nat}{p:Key×V},kvs[i]?=some p->∃ q,vs[i]?=some q/\p.1=q.1/\RelV p.2 q.2:=by
 unfold KV at r
 induction r with
 | nil=>intro i p h;simp at h
 | @cons a b as bs h t ih =>
  intro i p hp;cases i with
  | zero =>rw[List.getElem?_cons_zero] at hp;cases hp;exact⟨b,rfl,h⟩
  | succ i=>exact ih (by simpa using hp)
def oO:entryFor table "dict_itemiterator.__iter__"=some Builtin.«dict_keyiterator.__iter__»:=entryFor_alias (id':="dict_keyiterator.__iter__") (by ext) (by ext) (by ext) (by ext)
def vv {it d:Addr}{i n ep:Nat}{ok ov:Value} (st:IsItemIter s.heap it d i n ep ok ov) (h:Q (.ref it) s):wpAny (model prog w) A (pyIter (.ref it)) Q E s:=by have hT:s.TypeIs (.ref it) "dict_itemiterator":=⟨_,st,rfl⟩;refine wpAny_pyIter_slot hT F.slot_dict_itemiterator_iter (ia F.slot_dict_itemiterator_iter hT oO ?_ (F.args_dict_itemiterator_iter_1 (Value.ref it)));exact a8 ⟨.ref it,rfl,"dict_itemiterator",.builtin "dict_itemiterator.__next__",hT,F.slot_dict_itemiterator_next.lookup,h⟩
def yp {es:Array DictEntry}{ep:Nat} (x:HOk P w H h) (e:H a=some (.frz ob (.dK kvs))) (hd:ob.data=.dict es ep) :
  ∃ vs,KV kvs vs/\h.DictAt (bu P w) a vs ep:=by
 obtain⟨h1,_,_,vs,r,o,es',ep',h2,h3,h4,h5⟩:=(show bT P w H h a (.frz ob (.dK kvs)) from x a _ e);have:o=ob:=Option.some.inj (h2.symm.trans h1);subst this;rw[hd] at h4
 injection h4 with e1 e2
 subst e1 e2;exact⟨vs,r,o,es,h2,h3,hd,h5⟩
def AE {k:Nat} (ob:Obj) (a it:Addr) (kvs:List (Key×V)) (es:Array DictEntry) (ep:Nat) (hd:ob.data=.dict es ep):Turn P w K (.Tuple elts k pos) (Iti ob a kvs) [it] it
  (fun i h=>∃ ok ov,IsItemIter h it a i kvs.length ep ok ov) where
 mem:=by simp
 obj:=fun i h st b hb=>by
  obtain rfl:b=it:=by simpa using hb
  obtain⟨ok,ov,st⟩:=st;exact⟨_,st,fun v z=>by have z':Data.fields _=Data.cell v:=z;cases z'⟩
 keep:=fun i h h' st k=>by obtain⟨ok,ov,st⟩:=st;exact⟨ok,ov,k it (by simp) _ st⟩
 item:=by
  intro X hP hw hK hc i Yp s σ H E I hf st hg;subst hP hw hK;obtain⟨hi,hH⟩:=hg;obtain⟨ok,ov,st⟩:=id st;obtain⟨vs,r,dd⟩:=yp I.hok hH hd;have hl:kvs.length=vs.length:=Paired.length r;obtain⟨⟨k1,x⟩,hk⟩:∃ p,kvs[i]?=some p:=⟨_,b9 hi⟩;obtain⟨⟨k2,u⟩,hu,hke,ru⟩:∃ q:Key×Value,vs[i]?=some q/\k1=q.1/\RelV x q.2:=by obtain⟨q,h1,h2⟩:=FA r hk;exact⟨q,h1,h2.1,h2.2⟩
  have hke:k1=k2:=hke;subst hke;rw[hl] at st;refine wpAny_pyNext_items_item st dd hu fun key h' kk0 a1 a3 a4 a5=>?_;refine⟨_,rfl,wpAny_letOwnedTupleGo_items (s:={ s with heap:=h' }) a1 fun h'' b1 b2=>?_⟩;have b2':Heap.SameBut it h' h'':=b2;have ne:it<s.heap.objs.size:=aM st;have kk:∀ c o,c∉[it]->s.heap.get? c=some o->h''.get? c=some o:=fun c o hc e=>by
   have hc':c≠it:=by simpa using hc
   exact (b2'.2 c hc').trans (a5 c o hc' e)
  have hT:h''.get? s.heap.objs.size=some { cls:=.type "tuple",data:=.seq #[key,u] }:=(b2'.2 _ (lF ne)).trans a3;have I1:Inv X Yp σ (upd H s.heap.objs.size (.tup [kV k1,x])) { s with heap:=h'' }:=by
   refine I.BV (t':=s.toks) (ch:=[it]) hf kk (fun c o ee=>?_) (aq _) (show bT X.prog X.w _ h'' _ (.tup [kV k1,x]) from ⟨by show 2<=sizeLine;decide,[key,u],.cons (BI kk0) (.cons ru .nil),⟨_,hT,rfl,_,rfl⟩⟩)
   by_cases hc:c∈[it]
   ·obtain rfl:c=it:=by simpa using hc
    exact⟨_,b1⟩
   ·exact⟨_,kk c o hc ee⟩
  refine⟨.ref s.heap.objs.size,_,I1,rfl,⟨k1,x,_,hk,rfl,I.hok.fresh (aq _),rfl⟩,⟨_,_,by rw[hl];exact b1⟩,fun c hc=>?_⟩;obtain rfl:c=it:=by simpa using hc
  rw[az (bz ne)];exact (hf _ (by simp)).1
 done:=by intro X hP hw hK hc i Yp s σ H E I hf st hg;subst hP hw hK;obtain⟨hi,hH⟩:=hg;obtain⟨ok,ov,st⟩:=id st;obtain⟨vs,r,dd⟩:=yp I.hok hH hd;have hl:kvs.length=vs.length:=Paired.length r;rw[hl] at st;refine wpAny_pyNext_items_end (I.ok.hd hc) st dd (lB (by left)) fun h' kk=>⟨rfl,I.BU (t':=s.toks) (ch:=[it]) hf fun c o hc e=>?_⟩;exact kk c o (by simpa using hc) e
 self:=fun _ _ _ _ _ st h=>by obtain⟨ok,ov,st⟩:=st;exact vv st h
def vk (p d:Addr):HO:=.ext fun h=>h.IsItemsView p d
def Ht {p d:Addr} (x:h.IsItemsView p d):bT P w H h p (vk p d):=by
 refine⟨x,?_,fun h1 h2 y k=>?_⟩
 ·obtain⟨o,e,_⟩:=x;exact⟨o,e⟩
 ·obtain⟨o,e,r⟩:=y;exact⟨o,k o e,r⟩
def Gz:V->List V->Hp->VK->Prop:=fun x vs H Q=>match x,vs with
 | .ref d,[]=>∃ kvs,H d=some (.dK kvs)/\∀ p H',H p=none->ax H H'->H' p=some (vk p d)->Q (.ref p) H'
 | _,_=>False
def CS {d:Addr}{H:Hp}{Q:VK}:Gz (.ref d) [] H Q=(∃ kvs,H d=some (.dK kvs)/\∀ p H',H p=none->ax H H'->H' p=some (vk p d)->Q (.ref p) H'):=propext Iff.rfl
def FN :MtM X "dict.items" Gz:=by
 intro Yp s σ H x vs v us Q I rx rv h
 match x,vs,h with
 | .ref d,[],h =>
  obtain⟨kvs,hd,q⟩:=h;cases rx;obtain rfl:=rv.zero;obtain⟨z,hs,xs,rel,dd⟩:=ye I.hok hd;have hT:s.TypeIs (.ref d) "dict":=by obtain⟨o,_,_,e,ex,_⟩:=dd;exact⟨o,e,ex.1⟩
  refine call_meetsIn F.slot_dict_items hT F.entry_dict_items (F.args_dict_items_1 _) (meets_dict_items (bu X.prog X.w) d hs) ⟨⟨xs,dd⟩,?_⟩;have hn:=I.hok.fresh (aq s.heap.objs.size);refine⟨.ref s.heap.objs.size,_,I.laid (t':=s.toks) (o:=vk s.heap.objs.size d) (fun b ob q=>aL _ q) (aq _) (Ht ⟨_,bj _ rfl,rfl,rfl⟩),rfl,q _ _ hn (eG hn) aB⟩
def J8 (te:TE):TI:=fun σ H R=>te σ H fun x H1=>∃ p a kvs,x=.ref p/\H1 p=some (vk p a)/\H1 a=some (.dK kvs)/\∀ ob H2,(∀ b o,b≠a->H1 b=some o->H2 b=some o)->H2 a=some (.frz ob (.dK kvs))->R (Iti ob a kvs) H2
def Er {te:TE}{σ:St}{H:Hp}{R:It->Hp->Prop}:J8 te σ H R=te σ H fun x H1=>∃ p a kvs,x=.ref p/\H1 p=some (vk p a)/\H1 a=some (.dK kvs)/\∀ ob H2,(∀ b o,b≠a->H1 b=some o->H2 b=some o)->H2 a=some (.frz ob (.dK kvs))->R (Iti ob a kvs) H2:=propext Iff.rfl
def Jc {k:Nat}{l:Expr} (hl:PE X l tl):PI X (.Tuple elts k tpos) l (J8 tl):=by
 intro Yp s σ H R I h;refine thn (hl Yp s σ H _ I h) fun v s1 ⟨x,H1,I1,r1,q1⟩=>?_;obtain⟨p,a,kvs,rfl,hp,ha,q⟩:=q1;cases r1;have hv:s1.heap.IsItemsView p a:=(show bT X.prog X.w H1 s1.heap p (vk p a) from I1.hok p _ hp).1;obtain⟨z,hs,vs,rel,ob,es,ep,e1,e2,e3,e4⟩:=ye I1.hok ha;have hl':kvs.length=vs.length:=Paired.length rel;have dd:s1.heap.DictAt (bu X.prog X.w) a vs ep:=⟨ob,es,e1,e2,e3,e4⟩;refine wpAny_pyIter_items hv dd ?_;have I2:Inv X Yp σ (upd H1 a (.frz ob (.dK kvs))) s1:=I1.write (x:=a) (e:=a) (h':=s1.heap) (t':=s1.toks) (o:=.frz ob (.dK kvs)) (by rw[ha];exact True.intro) (.inl rfl) (fun _ _ _ e=>e) ⟨ob,e1⟩ ⟨e1,z,hs,vs,rel,ob,es,ep,e1,e2,e3,e4⟩;have I3:Inv X Yp σ (upd H1 a (.frz ob (.dK kvs))) { s1 with heap:=s1.heap.push { cls:=.type "dict_itemiterator",data:=.fields #[.none,.bool false,.ref a,.int 0 0,.int (vs.length:Int) 0,.int (ep:Int) 0,.none,.none] } }:=I2.kept (t':=s1.toks) fun b o e=>aL _ e;refine⟨s1.heap.objs.size,[s1.heap.objs.size],_,_,_,rfl,I3,AE ob a s1.heap.objs.size kvs es ep e3,⟨.none,.none,?_⟩,fun b hb=>?_,q ob _ (fun b o hb e=>by rw[az hb];exact e) aB⟩
 ·rw[hl'];exact bj _ rfl
 ·obtain rfl:b=s1.heap.objs.size:=by simpa using hb
  exact I2.tI (aq _) (I2.hok.fresh (aq _))
def EZ {g:TG}{tb:TS}{D:Ends} (Pv:Nat->St->Hp->Prop) (h0:Pv 0 σ H) (hl:∀ i σ H,i<=kvs.length->Pv i σ H->H a=some (.frz ob (.dK kvs)))
  (hs:∀ i k x σ H,kvs[i]?=some (k,x)->Pv i σ H->∀ N:St->Hp->Prop,(∀ σ' H',Pv (i+1) σ' H'->N σ' H')->∀ p H',H p=none->ax H H'->H' p=some (.tup [kV k,x])->g (.ref p) σ H' fun σ2 H2=>tb { D with nx:=N,ct:=N,bk:=D.nx } σ2 H2) (hd:∀ σ H,Pv kvs.length σ H->D.nx σ H):iB g tb D (Iti ob a kvs) σ H:=by
 refine⟨fun i m σ H=>i+m=kvs.length/\Pv i σ H,⟨kvs.length,by left,h0⟩,fun i m σ H hw=>?_⟩;obtain⟨e,hp⟩:=hw;have hL:=hl i σ H (by left) hp
 by_cases hm:m=0
 ·subst hm;have:i=kvs.length:=by left
  subst this;exact .inl ⟨⟨aq _,hL⟩,hd σ H hp⟩
 ·refine .inr ⟨⟨by left,hL⟩,Pv (i+1),fun σ' H' n=>⟨m-1,by left,by left,n⟩,fun v H' hy=>?_⟩;obtain⟨k,x,p,h1,rfl,h2,rfl⟩:=hy;exact hs i k x σ H h1 hp _ (fun _ _ h=>h) p _ h2 (eG h2) aB
section
variable {X:Cx}
def HE {td ty:TE}{σ:St}{H:Hp}{Q:VK}:Hc td ty σ H Q=td σ H fun x H1=>ty σ H1 fun y H2=>∃ a v,x=.ref a/\oN H2 a y (some v)/\Q v H2:=propext Iff.rfl
def El {td ty:TE}{σ:St}{H:Hp}{Q:VK}:AB td ty σ H Q=td σ H fun x H1=>∃ a,x=.ref a/\IsD H1 a/\ty σ H1 fun y H2=>∃ o,oN H2 a y o/\Q (o.getD .non) H2:=propext Iff.rfl
def qt {o i:Expr}{td ty:TE} (hu:X.A.units+1<cLine) (ho:PE X o td) (hi:PE X i ty) (hs:Hy i:=by exact fun _ _=>rfl):PE X (.Subscript o i pos) (Hc td ty):=Ja hu ho hi hs
def rX {o e:Expr}{td ty:TE}{apos cpos:Pos} (hu:X.A.units+1<cLine) (ho:PE X o td) (he:PE X e ty) (hbase:attributeBase o "get" X.env (eval o X.env)=eval o X.env:=by ext) (hs:dO [e]=true:=by ext)
  (hline:(apos.endLine==cpos.line)=true:=by ext) (htr:backTo cpos (starEach [e] X.env)=[(false,eval e X.env)]:=by rfl):PE X (.Call (.Attribute o "get" apos) [e] [] cpos) (AB td ty):=by
 refine Ge hu ho he ⟨hbase,?_,hline,htr⟩;rw[oT hs];rfl
def IY {o:Expr}{to:TE}{name:Str}{apos cpos:Pos}{T id:String}{r:V->List V->Hp->VK->Prop} (hK:X.K=K) (pa:PlainAttrs T) (slot:Slot T name id) (hty:typeOf (.builtin id)=pure (.type "method_descriptor"))
  (hm:MtR X id r) (ho:PE X o to) (hbase:attributeBase o name X.env (eval o X.env)=eval o X.env:=by ext) (hline:(apos.endLine==cpos.line)=true:=by ext):PE X (.Call (.Attribute o name apos) [] [] cpos) (LA K T r to) :=
 hK ▸ Lp pa slot hty hm ho hbase hline
end
end
section
def FE:V->Bool
 | .ref _=>true
 | x=>dZ x
theorem qd:∀ {x:V},dZ x=true->eqV x x=true
 | .non,_=>rfl
 | .bl b,_=>by show (b==b)=true;simp
 | .int i,_=>by show (i==i)=true;simp
 | .str z,_=>by show (z==z)=true;simp
def CM {x:V}{u v:Value} (ru:RelV x u) (rv:RelV x v) (h:FE x=true):SeqAt.EqAt A s u v true:=by
 cases x with
 | ref a=>cases ru;cases rv;exact SeqAt.EqAt.same _
 | non=>have:=oV (A:=A) (s:=s) ru rv rfl rfl;rwa [qd rfl] at this
 | bl b=>have:=oV (A:=A) (s:=s) ru rv rfl rfl;rwa [qd rfl] at this
 | int b=>have:=oV (A:=A) (s:=s) ru rv rfl rfl;rwa [qd rfl] at this
 | str b=>have:=oV (A:=A) (s:=s) ru rv rfl rfl;rwa [qd rfl] at this
 | _=>cases h
def dM (r:Vals xs us) {j:Nat} (h:j<us.toArray.size):∃ x,xs[j]?=some x/\RelV x us.toArray[j]:=by
 have l:=r.length;rw[aZ] at h;have e1:xs[j]?=some (xs[j]'(by left)):=b9 _;obtain⟨u,hu,ru⟩:=r.get e1;refine⟨_,e1,?_⟩;have:us.toArray[j]=u:=by
  have:=bN.mp hu
  simpa using this.2
 rw[this];exact ru
section
variable {X:Cx}
end
end
section
abbrev jG (q:Str):HO:=.tbl #[.str q 0]
section
variable {X:Cx}{Yp:Zp}{σ:St}{H:Hp}{s:Zg}
def tab_of {P:Addr} (I:Inv X Yp σ H s) (e:H P=some (jG q)):∃ qs:Array Value,s.heap.get? P=some { cls:=.none,data:=.fields qs }/\TriplesOk qs.toList ∧
  ∀ pos c,codeAmong pos qs.toList=some c->∃ c' oc vs t,c=.ref c'/\H c'=some (.frz oc (.own P))/\s.heap.get? c'=some oc/\oc.data=.fields vs/\vs[1]?=some (.str q t):=by
 obtain⟨qs,h1,h2,h3⟩:=(show bT X.prog X.w H s.heap P (jG q) from I.hok P _ e);refine⟨qs,h1,h2,fun pos c z=>?_⟩;obtain⟨c',oc,vs,t,q',a1,a2,a4,a5,a6⟩:=h3 pos c z;have a7:q=q':=by have:=aV Array.toList a6;simp at this;exact this
 subst a7;exact⟨c',oc,vs,t,a1,a2,(I.hok c' _ a2).1,a4,a5⟩
def Inv.tabled {P c':Addr}{ps more:Array Value}{tk:Nat}{oc:Obj}{vs:Array Value}{tq:Tok} (I:Inv X Yp σ H s) (e:H P=some (jG q)) (hx:∀ b o,b≠P->s.heap.get? b=some o->h'.get? b=some o) (hc:s.heap.objs.size<=c')
  (h1:h'.get? P=some { cls:=.none,data:=.fields more }) (h2:TriplesOk more.toList) (h3:∀ pos c,codeAmong pos more.toList=some c->codeAmong pos ps.toList=some c∨c=.ref c') (h0:s.heap.get? P=some { cls:=.none,data:=.fields ps })
  (c1:h'.get? c'=some oc) (c2:oc.data=.fields vs) (c3:vs[1]?=some (.str q tq)):Inv X Yp σ (upd H c' (.frz oc (.own P))) { s with heap:=h',toks:=tk }:=by
 have hn:=I.hok.fresh hc;have nP:∀ b,H b=none->b≠P:=fun b hb z=>by rw[z,e] at hb;cases hb
 have lt:∀ b o,s.heap.get? b=some o->b≠c':=fun b o z=>bz (bE (aM z) hc);obtain⟨qs,g1,g2,g3⟩:=tab_of I e;have eq:qs=ps:=by
  rw[h0] at g1;have:=Option.some.inj g1
  injection this with _ _ z
  injection z with z
  exact z.symm
 subst eq;refine I.un ⟨fun b o z n _ _=>hx b o (nP b n) z,fun b o z n _ _=>⟨o.slots,hx b o (nP b n) z⟩,fun b o z n _=>by rw[az (lt b o z)];exact n,fun b o z _=>?_,fun b xs z=>by rw[az (bK z hn)];exact z,fun b u xs z=>by rw[az (bK z hn)];exact z,
  fun b xs z=>⟨#[],by rw[az (bK z hn),z];simp⟩⟩ fun b u z=>?_
 ·by_cases hb:b=P
  ·rw[hb];exact⟨_,h1⟩
  ·exact⟨o,hx b o hb z⟩
 ·by_cases hb:b=c'
  ·subst hb;rw[aB] at z;cases z;exact⟨c1,_,c1⟩
  ·rw[az hb] at z
   by_cases hp:b=P
   ·subst hp;rw[e] at z;cases z;refine⟨more,h1,h2,fun pos c w=>?_⟩;rcases h3 pos c w with w | rfl
    ·obtain⟨c2',oc2,vs2,t2,a1,a2,a3,a4,a5⟩:=g3 pos c w;exact⟨c2',oc2,vs2,t2,q,a1,by rw[az (bK a2 hn)];exact a2,a4,a5,rfl⟩
    ·exact⟨c',oc,vs,tq,q,rfl,aB,c2,c3,rfl⟩
   ·refine (I.hok b u z).pL (fun c v hc2 w=>hx c v ?_ w) (fun c w=>by rw[az (bK w hn)];exact w) fun c xs w=>by rw[az (bK w hn)];exact w
    rcases hc2 with rfl | w2
    ·exact hp
    ·exact bh w2 e (by intro z;cases z)
end
def zm {pos p2:Pos}:∀ (l:Zc),TriplesOk l->∀ x,codeAmong pos (l++[rawInt p2.line,rawInt p2.col,c])=some x->codeAmong pos l=some x∨x=c:=by
 intro l h
 fun_induction TriplesOk l with
 | case1 =>
  intro x e;simp only[gf,codeAmong,rawInt] at e;split at e
  ·exact .inr (Option.some.inj e).symm
  ·cases e
 | case2 a t b u y rest ih =>
  intro x e;simp only[fZ,codeAmong] at e ⊢;split at e
  ·rename_i hc
   rw[ai hc];exact .inl e
  ·rename_i hc
   rw[af hc];exact ih h x e
 | case3=>exact h.elim
section
variable {X:Cx}{Yp:Zp}{σ:St}{H:Hp}{s:Zg}{a:Addr}{y v:V}{u:Value}{A:Around}{E:Zq}
end
section
variable {X:Cx}{Yp:Zp}{σ:St}{H:Hp}{s:Zg}
def tZ (H:Hp) (P:Addr) (q:Str) (c':Addr):Prop:=∃ oc vs t,H c'=some (.frz oc (.own P))/\oc.data=.fields vs/\vs[1]?=some (.str q t)
def tZ.same {H H':Hp}{P c':Addr} (h:tZ H P q c') (s:ax H H'):tZ H' P q c':=by obtain⟨oc,vs,t,h1,h2⟩:=h;exact⟨oc,vs,t,s _ _ h1,h2⟩
end
section
variable {prog:Zh}{w:Zi}{A:Around}{E:Zq}{s:Zg}{d it:Addr}{D J:Obj}{es:Array DictEntry}{ep i:Nat}
def GI {Q:Zq} (n0:(d==sysModules)=false) (g1:s.heap.get? d=some D) (g2:D.ExactDict) (g3:D.data=.dict es ep)
  (k:Q (.ref s.heap.objs.size) { s with heap:=s.heap.push { cls:=.type "dict_keyiterator",data:=.fields #[.ref d,.int 0 0,.int es.size 0,.int ep 0] } }):wpAny (model prog w) A (pyIter (.ref d)) Q E s:=by
 have ty:s.TypeIs (.ref d) "dict":=⟨D,g1,g2.1⟩;refine wpAny_pyIter_slot ty F.slot_dict_iter (ia F.slot_dict_iter ty F.entry_dict_iter ?_ (F.args_dict_iter_1 _));unfold Builtin.«dict.__iter__» Builtin.Dict.dictSlotNone;refine ag (ag (wpAny_notOrdered_dict ty ?_));refine a8 (show wpAny _ _ (Builtin.Dict.showsAll d >>= _) _ _ s from ?_);unfold Builtin.Dict.showsAll;rw[af (fun z=>by rw[n0] at z;cases z)];refine ag (a8 (ag (ou g1 g3 (ag (wpAny_dictEpoch g1 g3 ?_)))));refine ag (gm (a8 ⟨_,rfl,"dict_keyiterator",_,⟨_,bj _ rfl,rfl⟩,rB.lookup,?_⟩))
 simpa [rawInt] using k
def GJ {Q:Option Value->Zg->Prop} (j:s.heap.IsKeyIter it d i es.size ep) (g1:s.heap.get? d=some D) (g3:D.data=.dict es ep) (hi:i<es.size)
  (k:∀ h',h'.IsKeyIter it d (i+1) es.size ep->Heap.SameBut it s.heap h'->Q (some es[i].key) { s with heap:=h' }):wpAny (model prog w) A (pyNext (.ref it)) Q E s:=by
 obtain⟨J,j1,j2,j3⟩:=id j;unfold pyNext;refine ag (lO (wpAny_callSpecial?_slot (name:=Str.ofString "__next__") j.typeIs rB (ia rB j.typeIs F.entry_dict_keyiterator_next ?_ (F.args_dict_keyiterator_next_1 _))));refine ag (a8 (ag (ag ?_)))
 first | refine ag (r6 j.typeIs (a8 (ag (wpAny_fieldsOf j1 j3 ?_)))) | refine ag (rA j.typeIs (a8 (ag (wpAny_fieldsOf j1 j3 ?_))))
 have ow:Builtin.Dict_items.ownsTuple "dict_keyiterator"=false:=by decide
 simp only[ow,m4,fM];show wpAny _ _ (if (Value.ref d==Value.none)=true then _ else _) _ _ _;rw[af (fun z:(Value.ref d==Value.none)=true=>bO z)];refine ag (a8 (ag (ou g1 g3 ?_)));rw[af (by simp)];refine ag (a8 (ag (wpAny_dictEpoch g1 g3 ?_)));rw[af (by simp)];refine a8 ?_;simp only[show ¬ ((i:Int)<0) from by left,fM,nI,Array.getElem?_eq_getElem hi];refine ag ?_
 first | refine ag (r6 j.typeIs (a8 (ag (wpAny_isOneOf_keyiter j.typeIs ?_)))) | refine ag (rA j.typeIs (a8 (ag (wpAny_isOneOf_keyiter j.typeIs ?_))))
 refine show wpAny _ _ (setField (.ref it) 1 (rawInt ((i:Int)+1)) >>= _) _ _ s from ag (wpAny_setField j1 j3 (by simp) ?_)
 have jn:(s.heap.update it (Obj.mapFields (·.setIfInBounds 1 (rawInt ((i:Int)+1))))).IsKeyIter it d (i+1) es.size ep :=
  ⟨_,lb _ j1 (Obj.isFreed_of_fields (Obj.data_mapFields j3 _)),(Obj.cls_mapFields ..).trans j2,by rw[Obj.data_mapFields j3];simp [rawInt]⟩
 refine ag (dR (ag (wpAny_isOneOf_keyiter (s:={ s with heap:=s.heap.update it (Obj.mapFields (·.setIfInBounds 1 (rawInt ((i:Int)+1)))) }) jn.typeIs ?_)));refine show wpAny _ _ (pure es[i].key) _ _ _ from ?_
 exact a8 (a8 ⟨_,rfl,a8 (k _ jn (Heap.SameBut.update ..))⟩)
def Jn {Q:Option Value->Zg->Prop} (ha:A.handled=none) (j:s.heap.IsKeyIter it d i es.size ep) (hi:es.size<=i) (g1:s.heap.get? d=some D) (g3:D.data=.dict es ep)
  (k:∀ h',Heap.ExtBut it s.heap h'->Q none { s with heap:=h' }):wpAny (model prog w) A (pyNext (.ref it)) Q E s:=by
 obtain⟨J,j1,j2,j3⟩:=id j;unfold pyNext;refine ag (lO (wpAny_callSpecial?_slot (name:=Str.ofString "__next__") j.typeIs rB (ia rB j.typeIs F.entry_dict_keyiterator_next ?_ (F.args_dict_keyiterator_next_1 _))));refine ag (a8 (ag (ag ?_)))
 first | refine ag (r6 j.typeIs (a8 (ag (wpAny_fieldsOf j1 j3 ?_)))) | refine ag (rA j.typeIs (a8 (ag (wpAny_fieldsOf j1 j3 ?_))))
 have ow:Builtin.Dict_items.ownsTuple "dict_keyiterator"=false:=by decide
 simp only[ow,m4,fM];show wpAny _ _ (if (Value.ref d==Value.none)=true then _ else _) _ _ _;rw[af (fun z:(Value.ref d==Value.none)=true=>bO z)];refine ag (a8 (ag (ou g1 g3 ?_)));rw[af (by simp)];refine ag (a8 (ag (wpAny_dictEpoch g1 g3 ?_)));rw[af (by simp)];refine a8 ?_;simp only[show ¬ ((i:Int)<0) from by left,fM,nI,xO hi];refine ag ?_
 first | refine ag (r6 j.typeIs (a8 ?_)) | refine ag (rA j.typeIs (a8 ?_))
 refine show wpAny _ _ (setField (.ref it) 0 .none >>= _) _ _ s from ag (wpAny_setField j1 j3 (by simp) ?_)
 refine show wpAny _ _ (newExc (.type "StopIteration") [] >>= _) _ _ _ from ag ?_
 simp only[newExc,newTuple];refine ag (gm (ag (m:=firstArgMember _ _) (wpAny_of_eq (a:=Value.none) (by first | rfl | (simp only[firstArgMember];rfl)) ?_)) (by size_fits));refine gm ?_ (by size_fits);simp only[raiseNew];refine ag (wpAny_handled ?_);rw[show A.in1.handled=none from ha];refine ag (a8 (wpAny_throw ?_));refine ag (wpAny_isInstance (T:="StopIteration") (b:=true) ⟨_,bj _ rfl,rfl⟩ isSubtype_stop (a8 ?_));exact (k _ (((Heap.SameBut.update ..).extBut.push _).push _))
end
section
variable {X:Cx}{Yp:Zp}{σ:St}{H:Hp}{A:Around}{s0:Zg}{l q I S:Addr}{vs:Zc}{R:Result->Zg->Prop}
end
section
variable {X:Cx}
end
def jV (a:Addr) (D:Obj):HO:=.ext fun h=>h.get? a=some D
def Fq {D:Obj} (e:h.get? a=some D):bT P w H h a (jV a D):=⟨e,⟨D,e⟩,fun h1 h2 y k=>k D y⟩
def BP:TE:=fun _ H Q=>nw H (.dT []) Q
def En {σ:St}{H:Hp}{Q:VK}:BP σ H Q=nw H (.dT []) Q:=propext Iff.rfl
def DF :PE X (.Dict [] [] pos) BP:=fun Yp s σ H Q I h=>Gh Yp s σ H Q I (nw.go h)
def HG {td ty tv:TE}{D:Ends}{σ:St}{H:Hp}:GP td ty tv D σ H=tv σ H fun v H1=>td σ H1 fun x H2=>ty σ H2 fun y H3=>∃ a H4,x=.ref a/\DZ H3 a y v H4/\D.nx σ H4:=propext Iff.rfl
def j4 {o i value:Expr}{pos pos':Pos}{td ty tv:TE} (hu:X.A.units+1<cLine) (ho:PE X o td) (hi:PE X i ty) (hv:PE X value tv) (hs:swapsWith value (some (.Subscript o i pos')) pos.line X.env=pure false:=by ext) :
  PS X (.Assign [.Subscript o i pos'] value pos) (GP td ty tv):=Jg hu ho hi hv hs
theorem dz {α β:Type}{F:α->β->Prop}:∀ {l₁:List α}{l₂:List β},Paired F l₁ l₂->∀ {i:Nat}{x:α},l₁[i]?=some x->∃ y,l₂[i]?=some y/\F x y
 | _,_,.nil,i,x,e=>by simp at e
 | _,_,.cons r t,0,x,e=>by simp at e;subst e;exact⟨_,rfl,r⟩
 | _,_,.cons r t,i+1,x,e=>dz t (by simpa using e)
section
variable {P:Zh}{w:Zi}{K:Zf}{mg:Zk}{base:Heap}
end
end
section
section
variable {prog:Zh}{w:Zi}{A:Around}{E:Zq}{s:Zg}
end
section
variable {prog:Zh}{w:Zi}{A:Around}{E:Zq}{s:Zg}
end
section
variable {α:Type}
def Me {p:List α->Prop} (h:p []) (us:List α) (e:us.length=0):p us:=by
 cases us with
 | nil=>exact h
 | cons _ _=>cases e
def bind1 {p:List α->Prop} (h:∀ a,p [a]) (us:List α) (e:us.length=1):p us:=by
 cases us with
 | nil=>cases e
 | cons a r=>exact Me (p:=fun r=>p (a::r)) (h a) r (Nat.succ.inj e)
def eP {p:List α->Prop} (h:∀ a b,p [a,b]) (us:List α) (e:us.length=2):p us:=by
 cases us with
 | nil=>cases e
 | cons a r=>exact bind1 (p:=fun r=>p (a::r)) (h a) r (Nat.succ.inj e)
def ud {p:List α->Prop} (h:∀ a b c,p [a,b,c]) (us:List α) (e:us.length=3):p us:=by
 cases us with
 | nil=>cases e
 | cons a r=>exact eP (p:=fun r=>p (a::r)) (h a) r (Nat.succ.inj e)
def sE {p:List α->Prop} (h:∀ a b c d,p [a,b,c,d]) (us:List α) (e:us.length=4):p us:=by
 cases us with
 | nil=>cases e
 | cons a r=>exact ud (p:=fun r=>p (a::r)) (h a) r (Nat.succ.inj e)
end
end
section
end
section
def dw.hu9 {k:Nat} (r:dw k A):A.units+9<cLine:=by have:=r.un;left
def fw.hu9 {k:Nat} (r:fw k A):A.units+9<cLine:=by have:=r.un;left
inductive EqR (K:Zf) (H:Hp):Nat->V->V->Bool->Prop
 | same {n:Nat}{x:V} (h:FE x=true):EqR K H n x x true
 | flat {n:Nat}{x y:V} (h1:dZ x=true) (h2:dZ y=true):EqR K H n x y (eqV x y)
 | lst {n:Nat}{p q:Addr}{xs ys:List V} (e:Nat->Bool) (hne:p≠q) (h1:SqL K H p xs) (h2:SqL K H q ys) (hl:xs.length=ys.length) (h:∀ (i:Nat) x y,xs[i]?=some x->ys[i]?=some y->EqR K H n x y (e i)):EqR K H (n+1) (.ref p) (.ref q) ((List.range xs.length).all e)
 | tup {n:Nat}{p q:Addr}{xs ys:List V} (e:Nat->Bool) (hne:p≠q) (h1:SqT K H p xs) (h2:SqT K H q ys) (h:∀ (i:Nat) x y,xs[i]?=some x->ys[i]?=some y->EqR K H n x y (e i)):EqR K H (n+1) (.ref p) (.ref q) ((List.range (min xs.length ys.length)).all e&&xs.length==ys.length)
def EqR.at {X:Cx}{Yp:Zp}{s:Zg}{σ:St}{H:Hp} (I:Inv X Yp σ H s) {n:Nat}{x y:V}{b:Bool} (h:EqR X.K H n x y b):∀ {A:Around}{u v:Value},A.units+n<cLine->RelV x u->RelV y v->SeqAt.EqAt A s u v b:=by
 induction h with
 | same h=>intro A u v _ ru rv;exact CM ru rv h
 | flat h1 h2=>intro A u v _ ru rv;exact oV ru rv h1 h2
 | @lst n p q xs ys e hne h1 h2 hl _ ih =>
  intro A u v hu ru rv;cases ru;cases rv;obtain⟨us,r1,p1,_⟩:=I.list h1;obtain⟨vs,r2,p2,_⟩:=I.list h2;have l1:=r1.length;have l2:=r2.length;have:=SeqAt.RcAt.lists (A:=A) (s:=s) (e:=e) p1.isList p2.isList (by simp only[aZ];left) (by left) fun j j1 j2=>by obtain⟨x,ex,rx⟩:=dM r1 j1;obtain⟨y,ey,ry⟩:=dM r2 j2;exact ih j x y ex ey (show A.units+1+n<cLine by left) rx ry
  rw[aZ,←l1] at this;exact SeqAt.EqAt.of_refs hne this
 | @tup n p q xs ys e hne h1 h2 _ ih =>
  intro A u v hu ru rv;cases ru;cases rv;obtain⟨us,r1,p1,_⟩:=I.tuple h1;obtain⟨vs,r2,p2,_⟩:=I.tuple h2;have l1:=r1.length;have l2:=r2.length;have:=SeqAt.RcAt.tuples (A:=A) (s:=s) (e:=e) p1 p2 (by left) fun j j1 j2=>by obtain⟨x,ex,rx⟩:=dM r1 j1;obtain⟨y,ey,ry⟩:=dM r2 j2;exact ih j x y ex ey (show A.units+1+n<cLine by left) rx ry
  rw[aZ,aZ,←l1,←l2] at this;exact SeqAt.EqAt.of_refs hne this
def RcR (K:Zf) (H:Hp) (n:Nat) (x y:V) (b:Bool):Prop:=∃ p q,x=.ref p/\y=.ref q ∧
 ((∃ xs ys,SqL K H p xs/\SqL K H q ys/\((xs.length≠ys.length/\b=false)∨(xs.length=ys.length/\∃ e:Nat->Bool,(∀ (i:Nat) x y,xs[i]?=some x->ys[i]?=some y->EqR K H n x y (e i))/\b=(List.range xs.length).all e))) ∨
  ∃ xs ys,SqT K H p xs/\SqT K H q ys/\∃ e:Nat->Bool,(∀ (i:Nat) x y,xs[i]?=some x->ys[i]?=some y->EqR K H n x y (e i))/\b=((List.range (min xs.length ys.length)).all e&&xs.length==ys.length))
def Mx (K:Zf):R2:=fun x y H Q=>∃ n b,n<=6/\RcR K H n x y b/\Q (.bl b) H
def M4 (K:Zf):R2:=fun x y H Q=>∃ n b,n<=6/\RcR K H n x y b/\Q (.bl (!b)) H
def Ik {K:Zf}{x y:V}{H:Hp}{Q:VK}:Mx K x y H Q=(∃ n b,n<=6/\RcR K H n x y b/\Q (.bl b) H):=propext Iff.rfl
def Io {K:Zf}{x y:V}{H:Hp}{Q:VK}:M4 K x y H Q=(∃ n b,n<=6/\RcR K H n x y b/\Q (.bl (!b)) H):=propext Iff.rfl
section
variable {X:Cx}
def Am (hK:X.K=K) (hu:X.A.units+9<cLine):OpR X (compareOp .Eq) (Mx K):=by
 subst hK;intro Yp s σ H x y v u Q I rx ry h;obtain⟨n,b,hn,⟨p,q,rfl,rfl,h⟩,k⟩:=h;cases rx;cases ry;rcases h with ⟨xs,ys,h1,h2,h⟩ | ⟨xs,ys,h1,h2,e,h,rfl⟩
 ·obtain⟨us,r1,p1,_⟩:=I.list h1;obtain⟨vs,r2,p2,_⟩:=I.list h2;have l1:=r1.length;have l2:=r2.length;rcases h with ⟨hl,rfl⟩ | ⟨hl,e,h,rfl⟩
  ·exact SeqAt.eq_list_lengthsAt p1.isList p2.isList (by simp only[aZ];simpa using (by left:us.length≠vs.length)) (by left) ⟨.bl _,H,I,rfl,k⟩
  ·refine SeqAt.eq_listAt (e:=e) p1.isList p2.isList (by simp only[aZ];left) (by left) (fun j j1 j2=>?_) ⟨.bl _,H,I,rfl,?_⟩
   ·obtain⟨x,ex,rx⟩:=dM r1 j1;obtain⟨y,ey,ry⟩:=dM r2 j2;exact (h j x y ex ey).at I (show X.A.units+1+n<cLine by left) rx ry
   ·rw[aZ,←l1];exact k
 ·obtain⟨us,r1,p1,_⟩:=I.tuple h1;obtain⟨vs,r2,p2,_⟩:=I.tuple h2;have l1:=r1.length;have l2:=r2.length;refine SeqAt.eq_tupleAt (e:=e) p1 p2 (by left) (fun j j1 j2=>?_) ⟨.bl _,H,I,rfl,?_⟩
  ·obtain⟨x,ex,rx⟩:=dM r1 j1;obtain⟨y,ey,ry⟩:=dM r2 j2;exact (h j x y ex ey).at I (show X.A.units+1+n<cLine by left) rx ry
  ·rw[aZ,aZ,←l1,←l2];exact k
def xq (hK:X.K=K) (hu:X.A.units+9<cLine):OpR X (compareOp .NotEq) (M4 K):=by
 subst hK;intro Yp s σ H x y v u Q I rx ry h;obtain⟨n,b,hn,⟨p,q,rfl,rfl,h⟩,k⟩:=h;cases rx;cases ry;rcases h with ⟨xs,ys,h1,h2,h⟩ | ⟨xs,ys,h1,h2,e,h,rfl⟩
 ·obtain⟨us,r1,p1,_⟩:=I.list h1;obtain⟨vs,r2,p2,_⟩:=I.list h2;have l1:=r1.length;have l2:=r2.length;rcases h with ⟨hl,rfl⟩ | ⟨hl,e,h,rfl⟩
  ·exact SeqAt.RcNeAt.lists_lengths p1.isList p2.isList (by simp only[aZ];simpa using (by left:us.length≠vs.length)) (by left) _ _ _ _ ⟨.bl _,H,I,rfl,k⟩
  ·refine SeqAt.RcNeAt.lists (e:=e) p1.isList p2.isList (by simp only[aZ];left) (by left) (fun j j1 j2=>?_) _ _ _ _ ⟨.bl _,H,I,rfl,?_⟩
   ·obtain⟨x,ex,rx⟩:=dM r1 j1;obtain⟨y,ey,ry⟩:=dM r2 j2;exact (h j x y ex ey).at I (show X.A.units+1+n<cLine by left) rx ry
   ·rw[aZ,←l1];exact k
 ·obtain⟨us,r1,p1,_⟩:=I.tuple h1;obtain⟨vs,r2,p2,_⟩:=I.tuple h2;have l1:=r1.length;have l2:=r2.length;refine SeqAt.RcNeAt.tuples (e:=e) p1 p2 (by left) (fun j j1 j2=>?_) _ _ _ _ ⟨.bl _,H,I,rfl,?_⟩
  ·obtain⟨x,ex,rx⟩:=dM r1 j1;obtain⟨y,ey,ry⟩:=dM r2 j2;exact (h j x y ex ey).at I (show X.A.units+1+n<cLine by left) rx ry
  ·rw[aZ,aZ,←l1,←l2];exact k
end
section
variable {X:Cx}
end
def all_strs (us vs:Ze) (h:us.length=vs.length):((List.range us.length).all fun i=>eqV ((us.map V.str).getD i .non) ((vs.map V.str).getD i .non))=decide (us=vs):=by
 rw[mz,bP,cj];constructor
 ·intro k;apply List.ext_getElem h;intro i h1 h2;have:=k i (iJ.mpr h1);rw[cp,cp,bt,bt,b9 h1,b9 h2] at this;have this':(us[i]==vs[i])=true:=this;exact eq_of_beq this'
 ·rintro rfl i hi;have h1:=iJ.mp hi;rw[cp,bt,b9 h1];show (us[i]==us[i])=true;simp
def qh (us vs:Ze):(((List.range (min (us.map V.str).length (vs.map V.str).length)).all fun i=>eqV ((us.map V.str).getD i .non) ((vs.map V.str).getD i .non))&&(us.map V.str).length==(vs.map V.str).length)=decide (us=vs):=by
 rw[ak,ak]
 by_cases h:us.length=vs.length
 ·rw[h,Nat.min_self,oq,Bool.and_true,←h,all_strs us vs h]
 ·rw[show (us.length==vs.length)=false from by simpa using h,Bool.and_false,eq_comm,decide_eq_false_iff_not];exact fun e=>h (by rw[e])
def wk {n:Nat} (us vs:Ze):∀ (i:Nat) x y,(us.map V.str)[i]?=some x->(vs.map V.str)[i]?=some y->EqR K H n x y (eqV ((us.map V.str).getD i .non) ((vs.map V.str).getD i .non)):=fun i x y e1 e2=>by
 rw[cp,cp,e1,e2];have f:∀ {ws:Ze}{z:V},(ws.map V.str)[i]?=some z->dZ z=true:=fun {ws z} e=>by obtain⟨w,_,rfl⟩:=aD.mp (bw e);rfl
 exact .flat (f e1) (f e2)
def Jo {p q:Addr}{us vs:Ze} (h1:SqT K H p (us.map V.str)) (h2:SqT K H q (vs.map V.str)):RcR K H 0 (.ref p) (.ref q) (decide (us=vs)) :=
 ⟨p,q,rfl,rfl,.inr ⟨_,_,h1,h2,_,wk us vs,(qh us vs).symm⟩⟩
def Ii {p q:Addr}{us vs:Ze} (h1:SqT K H p (us.map V.str)) (h2:SqT K H q (vs.map V.str)) (hs:p=q->us=vs):EqR K H 1 (.ref p) (.ref q) (decide (us=vs)):=by
 by_cases e:p=q
 ·have:=hs e;subst e this;rw[ar rfl];exact .same rfl
 ·rw[←qh us vs];exact .tup _ e h1 h2 (wk us vs)
def yx {K:Zf}{js:Za}{σ:St}{tc:TT}{te:TE}{Q:VK} (hJ:J.Seq H1 xs) (hl:xs.length<sizeLine) (fx fy g:Nat->V) (pr:Nat->Bool) (hp:∀ (i:Nat) v,xs[i]?=some v->∃ t,v=.ref t/\H1 t=some (.tup [fx i,fy i]))
  (hc:∀ i,i<xs.length->∀ H,ax H1 H->∀ R:Bool->Hp->Prop,(∀ H',ax H H'->R (pr i) H')->tc (some (fx i)::some (fy i)::js.map fun j=>(σ[j]?).join) H R)
  (he:∀ i,i<xs.length->pr i=true->∀ H,ax H1 H->∀ R:VK,(∀ H',ax H H'->R (g i) H')->te (some (fx i)::some (fy i)::js.map fun j=>(σ[j]?).join) H R)
  (q:∀ D H,H1 D=none->ax H1 H->H D=some (.lst (((List.range xs.length).filter pr).map g))->Q (.ref D) H):gq (Fi K 2 (sN (gK 0) (sN (gK 1) Fh))) tc te (ic 2 js σ) J H1 Q:=by
 intro D hD;refine⟨fun i m ys σ1 H=>m=xs.length-i/\i<=xs.length/\(∃ o1 o2,σ1=o1::o2::js.map fun j=>(σ[j]?).join)/\ys=((List.range i).filter pr).map g/\ax H1 H/\H D=some (.lst ys),
  ⟨xs.length,by simp,bH _,⟨none,none,rfl⟩,by simp,(ax.refl H1).gu hD,aB⟩,?_⟩
 rintro i m ys σ1 H ⟨rfl,hi,⟨o1,o2,rfl⟩,rfl,sH,hL⟩;have hyl:(((List.range i).filter pr).map g).length<=i:=by
  rw[ak];have:=lC pr (List.range i)
  rwa [jL] at this
 refine⟨hL,by left,?_⟩
 by_cases hlt:i<xs.length
 ·have e:xs[i]?=some xs[i]:=b9 hlt;obtain⟨go,yl⟩:=(hJ H sH).1 i xs[i] e;refine .inr ⟨go,fun x H' y=>?_⟩;obtain⟨e1,e2⟩:=yl x H' y;subst e1 e2;obtain⟨t,et,ht⟩:=hp i _ e;rw[et];refine⟨t,_,rfl,SqT.of (sH _ _ ht),rfl,fx i,[fy i],rfl,fy i,[],rfl,rfl,?_⟩;show tc (some (fx i)::some (fy i)::js.map fun j=>(σ[j]?).join) _ _;refine hc i hlt _ sH _ fun H4 s4=>?_;have hL4:=s4 _ _ hL;have rs:List.range (i+1)=List.range i++[i]:=List.range_succ;cases hpr:pr i with
  | false =>rw[af bO];exact⟨xs.length-(i+1),by left,rfl,hlt,⟨_,_,rfl⟩,by rw[rs,qP];simp [hpr],sH.trans s4,hL4⟩
  | true =>rw[ai rfl];refine he i hlt hpr H4 (sH.trans s4) _ fun H5 s5=>⟨s5 _ _ hL4,xs.length-(i+1),by left,rfl,hlt,⟨_,_,rfl⟩,?_,((sH.trans s4).trans s5).gu hD,aB⟩;rw[rs,qP];simp [hpr]
 ·have e:i=xs.length:=by left
  subst e;exact .inl ⟨(hJ H sH).2 _ (aq _),q D H hD sH hL⟩
end
section
section
variable {X:Cx}
end
section
variable {prog:Zh}{w:Zi}{A:Around}{E:Zq}{s:Zg}
end
section
variable {X:Cx}
end
end
section
structure Eb (K:Zf) (x qual:Str) (st:Stmt) (f:Addr) (fd:FuncData):Prop where
 ex:∃ (oc:Value) (od:Option Addr) (dV kV doc pm:Value) (an:Option Addr) (cdv ct:Value) (osl:Array (Option Value)),
  fd=PySem.W.fnOf x qual (cu st) (bW st) (av st) dV kV doc pm an cdv ct/\K.lookup f=some ⟨oc,od,.func fd,osl⟩/\PySem.W.codeIn K cdv qual=true
 kp:PySem.W.keepIn K (.ref f)=true
section
variable {P:Zh}{w:Zi}{K:Zf}{mg:Zk}{base:Heap}
def Bj {x qual:Str}{oc:Value}{od an:Option Addr}{osl:Array (Option Value)}{dV kV doc pm cdv ct:Value} (l:K.lookup f=some ⟨oc,od,.func (PySem.W.fnOf x qual (cu st) (bW st) (av st) dV kV doc pm an cdv ct),osl⟩)
  (c:PySem.W.codeIn K cdv qual=true) (k:PySem.W.keepIn K (.ref f)=true):Eb K x qual st f (PySem.W.fnOf x qual (cu st) (bW st) (av st) dV kV doc pm an cdv ct):=⟨⟨oc,od,dV,kV,doc,pm,an,cdv,ct,osl,rfl,l,c⟩,k⟩
def Eb.okT {x qual:Str}{f c:Addr}{N ps:Ze}{k:Nat} (F:Eb K x qual st f fd) (hc:fd.code=.ref c) (S:aI N ps (av st)) (len:∀ vs H Q E,sp vs H Q E->vs.length=ps.length)
  (hbody:∀ (A:Around) (outer:List Env) (s:Zg) (H:Hp) (vs:List V) (Q:VK) (E:XK),dw k (A.deeper (envOfC qual (av st) s.heap.objs.size f (.ref c)))->sp vs H Q E →
   ∃ t,PSs (rK (CX1 P w) P w K mg base N qual (av st) f (.ref c) A outer s H E) (bW st) t/\t { nx:=fun _ H'=>Q .non H',rt:=Q } (start N vs) H):bS P w K mg base (CX1 P w) (k+1) f fd ps sp:=by
 obtain⟨oc,od,dV,kV,doc,pm,an,cdv,ct,osl,rfl,lk,hcd⟩:=F.ex;have e:cdv=.ref c:=hc;subst e;exact J7 lk hcd S len fun A outer s H vs Q E hr hsp=>hbody A outer s H vs Q E hr hsp
end
structure Ed (P:Zh) (w:Zi) (K:Zf) (mg:Zk) (base:Heap) (CX:CXT) (C:Addr) (m:Str) (k:Nat) (ps:Ze) (sp:Sp):Prop where
 ex:∃ (f:Addr) (fd:FuncData),bS P w K mg base CX k f fd ps sp/\Meth K C m f/\Binds K fd ps [.none]
 cl:Cls K C
def spD (sp:Sp):Sp:=fun vs H Q E=>sp (vs++[.non]) H Q E
section
variable {X:Cx}{CX:CXT}{E:St->XK}
def yO {pl:Sem Bool}{k:Nat}{o e:Expr}{ta:TE}{t:TA}{apos pos:Pos} (M:Ed X.prog X.w X.K X.mg X.base CX C m k ps sp) (hx:Passes CX X E) (hr:dw k X.A) (he:PE X o ta) (ha:PA X (e::es) t)
  (hs:dO (e::es)=true:=by ext)
  (ht:eval (.Call (.Attribute o m apos) (e::es) [] pos) X.env=(do
   let ov ←eval o X.env
   standAt apos.atName
   let (f,first) ←holding [ov] (getMethod ov m pl)
   callWith pos f first (backTo pos (starEach (e::es) X.env)) (backToKw pos (keywordEach [] X.env))):=by rfl) :
  PE X (.Call (.Attribute o m apos) (e::es) [] pos) (xJ C m (spD sp) E ta t):=by
 obtain⟨f,fd,F,hm,hb⟩:=M.ex;intro Yp s σ H Q I h;refine Bv (ta:=up ta) (t:=t) he.up M.cl hm F hr hb (.cons (show RelV .non .none from rfl) .nil) hx ha (aW (bg hs).1) (cY (bg hs).2) ht Yp s σ H Q I ⟨_,h,fun x H1 q=>?_⟩;cases x with
 | ref a =>obtain⟨dx,fs,h1,h2,h3⟩:=q;exact⟨a,dx,fs,rfl,h1,h2,h3⟩
 | _=>exact False.elim q
end
section
variable {X:Cx}{Yp:Zp}{σ:St}{H:Hp}{s:Zg}
abbrev vR (q:Str) (params:Arguments) (body:Expr) (scope:Scope) (cl:List (Str×Addr)) (pm cd ctv:Value):Obj :=
 { cls:=.type "function",data:=.func (PySem.W.kla_fn "<lambda>" q params body scope cl pm cd ctv) }
def Ds {A:Around}{E:Zq}{Q:Zq}{P c:Addr}{params:Arguments}{body:Expr}{scope:Scope}{lpos:Pos}{cl:List (Str×Addr)} (I:Inv X Yp σ H s) (e:H P=some (jG q))
  (hcd:X.env.code=.ref c) (hC:PySem.W.codeHdIn X.K c P=true) (hq:X.env.qual++"<lambda>"=q) (hd:defaultsOf params X.env=([],[])) (hcl:clo X.env.cells scope.names []=some cl)
  (k:∀ f c' ctv H' s',Inv X Yp σ H' s'->ax H H'->H f=none->H' f=some (.frz (vR q params body scope cl ((X.mg "__name__").getD .none) (.ref c') ctv) (.own P))->tZ H' P q c'->Q (.ref f) s') :
  wpAny (model X.prog X.w) A (eval (.Lambda params body scope lpos) X.env) Q E s:=by
 refine PySem.W.kla_eval hd ?_;rw[hq];have C:=PySem.W.codeHd_of_K I.kIn hC;obtain⟨qs,g1,g2,g3⟩:=tab_of I e;have hg:=I.mod.glob.keeps I.bk;obtain⟨bm,ob,b1,b2,b3,b4,b5,b6⟩:=I.mod.bmn;have hgP:mainGlobals≠P:=fun z=>by obtain⟨o,es,ep,w1,w2,_⟩:=I.mod.glob;have:=(I.bs _ _ w1).2;rw[z,e] at this;cases this
 have hbP:bm≠P:=fun z=>by have:=(I.bs _ _ b3).2;rw[z,e] at this;cases this
 have hbG:bm≠mainGlobals:=fun z=>by obtain⟨o,es,ep,w1,w2,_⟩:=I.mod.glob;rw[z,w1] at b3;cases b3;rw[w2] at b6;cases b6
 have hb:s.heap.BuiltinsAt X.mg P:=⟨bm,ob,b1,b2,hbG,hbP,I.bk _ _ b3,b4,b5,b6⟩;have hcl':=gJ hcl;cases hf:codeAmong lpos qs.toList with
 | none =>refine PySem.W.kla_makeFunction (mg:=X.mg) hcl' I.ok.glob hg hcd C g1 g2 hf hgP hb fun c' ctv h' tk hx hge hlt hrec htb=>?_;obtain⟨c2,oc,vs,t,z1,z2,z3,z4⟩:=id hrec;cases z1;have I1:Inv X Yp σ (upd H c' (.frz oc (.own P))) { s with heap:=h',toks:=tk }:=I.tabled (ps:=qs) e (fun b o hb z=>hx b o hb z) hge htb (by simpa using TriplesOk_snoc _ _ _ _ g2) (fun pos x z=>zm qs.toList g2 x (by simpa using z)) g1 z2 z3 z4;have hn:=I.hok.fresh hge;have kp:∀ b o,h'.get? b=some o->(h'.push (PySem.W.kla_obj "<lambda>" q params body scope cl ((X.mg "__name__").getD .none) c' ctv)).get? b=some o:=fun b o z=>aL _ z;have hf1:=I1.hok.fresh (aq h'.objs.size);have hfH:H h'.objs.size=none:=I.hok.fresh (aT (fi hge hlt));refine k h'.objs.size c' ctv _ _ (I1.laid (a:=h'.objs.size) (o:=.frz (vR q params body scope cl ((X.mg "__name__").getD .none) (.ref c') ctv) (.own P)) (t':=tk) kp (aq _) ⟨bj _ rfl,_,bj _ rfl⟩) ((eG hn).trans (eG hf1)) hfH aB ?_;exact tZ.same ⟨oc,vs,t,aB,z3,z4⟩ (eG hf1)
 | some cv =>obtain⟨c',oc,vs,t,a1,a2,a3,a4,a5⟩:=g3 lpos cv hf;subst a1;refine PySem.W.kla_makeFunctionHit (mg:=X.mg) hcl' I.ok.glob hg hcd C g1 g2 hf hb fun ctv h' tk hx hsz=>?_;have kp:∀ b o,s.heap.get? b=some o->(h'.push { cls:=.type "function",data:=.func (PySem.W.kla_fn "<lambda>" q params body scope cl ((X.mg "__name__").getD .none) (.ref c') ctv) }).get? b=some o:=fun b o z=>aL _ (hx b o z);have hf1:=I.hok.fresh hsz;refine k h'.objs.size c' ctv _ _ (I.laid (a:=h'.objs.size) (o:=.frz (vR q params body scope cl ((X.mg "__name__").getD .none) (.ref c') ctv) (.own P)) (t':=tk) kp hsz ⟨bj _ rfl,_,bj _ rfl⟩) (eG hf1) hf1 aB ?_;exact tZ.same ⟨oc,vs,t,a2,a4,a5⟩ (eG hf1)
end
section
variable {X:Cx}
end
def Mz:List V->Hp->VK->Prop:=fun vs H Q=>match vs with
 | [.ref a]=>∃ kvs,Rd H a (.dK kvs)/\Q (.int kvs.length) H
 | _=>False
def Ct :cS X (.builtin "len") Mz:=by
 intro Yp s σ H xs us Q I r h
 match xs,h with
 | [.ref a],h =>obtain⟨kvs,ha,q⟩:=h;obtain⟨u,rfl,r2⟩:=vals1 r;cases r2;exact Mf I ha fun t s' I'=>⟨.int kvs.length,H,I',⟨t,rfl⟩,q⟩
def GF:List V->Hp->VK->Prop:=fun vs H Q=>match vs with
 | [.ref a]=>∃ kvs:List (Int×V),Rd H a (.dK (kvs.map fun q=>(.inl q.1,q.2)))/\kvs.length<64/\∀ ns:Zb,ns.Perm (kvs.map (·.1))->ns.Pairwise (·<=·)->nw H (.lst (ns.map V.int)) Q
 | _=>False
def Dd {Q:VK}:GF [.ref a] H Q=(∃ kvs:List (Int×V),Rd H a (.dK (kvs.map fun q=>(.inl q.1,q.2)))/\kvs.length<64/\∀ ns:Zb,ns.Perm (kvs.map (·.1))->ns.Pairwise (·<=·)->nw H (.lst (ns.map V.int)) Q):=propext Iff.rfl
theorem yr:∀ {vs:Zc}{ns:Zb},vs.length=ns.length->(∀ (i:Nat) v,vs[i]?=some v->∃ n t,ns[i]?=some n/\v=.int n t)->IntsAre vs ns
 | [],[],_,_=>.nil
 | v::vs,n::ns,hl,h=>by obtain⟨m,t,e,rfl⟩:=h 0 v rfl;cases e;exact .cons _ t (yr (by simpa using hl) fun i v e=>h (i+1) v (by simpa using e))
theorem qN:∀ {ns:Zb}{us:Zc},IntsAre us ns->Vals (ns.map V.int) us
 | _,_,.nil=>.nil
 | _,_,.cons z t h=>.cons ⟨t,rfl⟩ (qN h)
section
variable {prog:Zh}{w:Zi}{A:Around}{E:Zq}{s:Zg}
def GV {r d:Addr}{n:Nat}{Pv:Nat->Value->Prop}{OK:Heap->Prop}{Q:Zq} (K:PySem.W.KdlSrc prog w T r d n Pv OK) (hh:A.handled=none) (hok:OK s.heap) (hn:n<64) (hl:ns.length=n)
  (hv:∀ (i:Nat) v,i<n->Pv i v->∃ m t,ns[i]?=some m/\v=.int m t)
  (k:∀ (h1 h':Heap) (tk:Nat) (out:Array Value) (ms:Zb) (c:Nat),(∀ b o,s.heap.get? b=some o->h1.get? b=some o)->(∀ b o,h1.get? b=some o->h'.get? b=some o)->h'.get? h1.objs.size=some (seqObj "list" out c)->IntsAre out.toList ms->ms.Perm ns->ms.Pairwise (·<=·)->Q (.ref h1.objs.size) { s with heap:=h',toks:=tk }) :
  wpAny (model prog w) A (call (.builtin "sorted") [.ref r]) Q E s:=by
 refine Calls.call_function_entry kind_sorted plain_sorted entry_sorted (args_sorted1 _) ?_;unfold Builtin.«sorted»;have hz:n<=sizeLine:=aT (bE hn (by rw[fN];left));refine ag (m:=checkCount "sorted" 1 1 _) (a8 (ag (PySem.W.kdu_collect (A:=A.in1) K hh hok hz fun h1 tk acc k1 hacc=>?_)));have la:acc.toList.length=n:=by rw[jq];exact hacc.1
 have hI:IntsAre acc.toList ns:=yr (by rw[la,hl]) fun i v e=>hv i v (by rw[←la];exact (bN.mp e).1) (hacc.2 i v (by rw[←oJ];exact e));generalize acc.toList=vs at hI la;refine ag (wpAny_newList ?_ (by rw[la];exact hz));have gL:(h1.push (seqObj "list" vs.toArray 0)).get? h1.objs.size=some (seqObj "list" vs.toArray 0):=bj _ rfl;refine ag (dR (ia slot_list_sort ⟨_,gL,rfl⟩ entry_list_sort (list_sort_tree gL hI (by left) fun out ms b1 b2 b3=>⟨_,rfl,a8 ⟨_,rfl,?_⟩⟩) (args_list_sort _)));obtain⟨e1,g1⟩:∃ e1,((h1.push (seqObj "list" vs.toArray 0)).update h1.objs.size (Obj.mapSeq fun _=>#[])).get? h1.objs.size=some (seqObj "list" #[] e1):=⟨_,get?_update_seq gL fun _=>#[]⟩;have g2:((((h1.push (seqObj "list" vs.toArray 0)).update h1.objs.size (Obj.mapSeq fun _=>#[])).push (seqObj "tuple" vs.toArray 0)).push (seqObj "list" #[] 0)).get? h1.objs.size=some (seqObj "list" #[] e1):=aL _ (aL _ g1);refine show Q (.ref h1.objs.size) { s with heap:=sortedHeap (h1.push (seqObj "list" vs.toArray 0)) h1.objs.size vs out,toks:=tk } from ?_
 obtain⟨c3,g3⟩:∃ c3,(sortedHeap (h1.push (seqObj "list" vs.toArray 0)) h1.objs.size vs out).get? h1.objs.size=some (seqObj "list" out c3):=⟨_,get?_update_seq g2 fun _=>out⟩;refine k h1 _ tk out ms c3 k1 (fun b o z=>?_) g3 b1 b2 b3;have hb:h1.objs.size≠b:=lF (aM z);exact (gZ _ _ hb).trans (aL _ (aL _ ((gZ _ _ hb).trans (aL _ z))))
end
def uf (hc:X.calm=true):cS X (.builtin "sorted") GF:=by
 intro Yp s σ H xs us Q I r h
 match xs,h with
 | [.ref a],h =>
  obtain⟨kvs,ha,h64,k⟩:=h;obtain⟨u,rfl,r2⟩:=vals1 r;cases r2;obtain⟨z,hd,vs,rel,dd⟩:=pX I.hok ha;obtain⟨ep,hat⟩:=dd.dictAt;have lv:(kvs.map fun q=>((.inl q.1,q.2):Key×V)).length=vs.length:=Paired.length rel;rw[ak] at lv;refine GV (ns:=kvs.map (·.1)) (PySem.W.kdl_dict (knd:=bu X.prog X.w) (kvs:=vs) (ep:=ep) hd) (I.ok.hd hc) hat (by left) (by rw[ak];left) (fun i v hi hP=>?_) fun h1 h' tk out ms c k1 k2 hg hS hp hs=>?_
  ·obtain⟨kk,x,e,hk⟩:=hP;have e1:kvs[i]?=some (kvs[i]'(by left)):=b9 _;have e2:(kvs.map fun q=>((.inl q.1,q.2):Key×V))[i]?=some (.inl (kvs[i]'(by left)).1,(kvs[i]'(by left)).2):=by rw[bt,e1];rfl
   obtain⟨y,ey,f1,f2⟩:=dz rel e2;rw[e] at ey;cases ey;have f1':kk=.inl (kvs[i]'(by left)).1:=f1.symm;subst f1';obtain⟨t,et⟩:∃ t,v=.int (kvs[i]'(by left)).1 t:=by
    have hk':mK (Sum.inl (kvs[i]'(by left)).1) v=true:=hk;rcases cP hk' with ⟨n,t,e3,e4⟩ | ⟨y,t,e3,e4⟩
    ·rw[Sum.inl.inj e3];exact⟨t,e4⟩
    ·cases e3
   exact⟨_,t,by rw[bt,e1];rfl,et⟩
  ·have I1:Inv X Yp σ H { s with heap:=h1,toks:=tk }:=I.kept (t':=tk) k1;have hn:=I1.hok.fresh (aq h1.objs.size);have lw:=hp.length_eq;rw[ak] at lw;exact⟨.ref h1.objs.size,upd H h1.objs.size (.lst (ms.map V.int)),I1.laid (t':=tk) (o:=.lst (ms.map V.int)) k2 (aq _) ⟨by rw[ak,lw];exact aT (bE h64 (by rw[fN];left)),out.toList,c,qN hS,by rw[Array.toArray_toList];exact hg⟩,rfl,k ms hp hs _ _ hn (eG hn) aB⟩
end
section
theorem Br {α β:Type} (f:α->β):∀ (l:List α) (j:Nat),(l.map f).eraseIdx j=(l.eraseIdx j).map f
 | [],_=>rfl
 | _::_,0=>rfl
 | x::r,j+1=>by show f x::(r.map f).eraseIdx j=f x::(r.eraseIdx j).map f;rw[Br f r j]
def mP {κ:Type} [DecidableEq κ] (kvs:List (κ×V)) (k:κ):List (κ×V):=kvs.filter fun q=>decide (q.1≠k)
def yL {κ:Type} [DecidableEq κ] (kvs:List (κ×V)) (k:κ):(mP kvs k).length<=kvs.length:=lC _ _
def KV.out {xs:List (Key×Value)} (r:KV kvs xs) (k:Key):KV (mP kvs k) (without xs k):=by
 induction r with
 | nil=>exact .nil
 | @cons a b l₁ l₂ f t ih =>
  obtain⟨e,rv⟩:=f;unfold mP without at *
  by_cases h:a.1=k
  ·rw[lx (by simp [h]),lx (by simp [←e,h])];exact ih
  ·rw[ly (by simp [h]),ly (by simp [←e,h])];exact .cons ⟨e,rv⟩ ih
def JI:V->List V->Hp->VK->Prop:=fun x vs H Q=>match x,vs with
 | .ref d,[y]=>∃ kvs k v,H d=some (.dK kvs)/\y=kV k/\dJ kvs k=some v/\Q v (upd H d (.dK (mP kvs k)))
 | _,_=>False
def ER {d:Addr}{y:V}{H:Hp}{Q:VK}:JI (.ref d) [y] H Q=(∃ kvs k v,H d=some (.dK kvs)/\y=kV k/\dJ kvs k=some v/\Q v (upd H d (.dK (mP kvs k)))):=propext Iff.rfl
def wV :MtM X "dict.pop" JI:=by
 intro Yp s σ H x vs v us Q I rx rv h
 match x,vs,h with
 | .ref d,[y],h =>
  obtain⟨kvs,k,v',hd,rfl,hv,q⟩:=h;cases rx;obtain⟨u1,rfl,ry⟩:=rv.one;obtain⟨z,hs,xs,rel,dd⟩:=ye I.hok hd;have hxl:xs.length<=sizeLine:=by rw[←rel.length];exact z
  have hT:s.TypeIs (.ref d) "dict":=by obtain⟨o,_,_,e,ex,_⟩:=dd;exact⟨o,e,ex.1⟩
  obtain⟨w2,hw2,rw2⟩:=ko.some_of (v:=v') (o:=valueAt xs k) (by rw[←hv];exact rel.val k);have hpart:(keyPart u1).isSome=true:=by
   cases k with
   | inl i=>obtain⟨t,rfl⟩:=ry;rfl
   | inr i=>obtain⟨t,rfl⟩:=ry;rfl
  refine call_meetsIn F.slot_dict_pop hT F.entry_dict_pop (F.args_dict_pop_2 _ _) (meets_dict_pop_there (bu X.prog X.w) d (sP ry) [] (.inl rfl) hpart) ⟨xs,w2,dd,hxl,hw2,fun h' dd' hsb=>?_⟩;have he:∃ q,h'.get? d=some q:=let ⟨q,_,_,hq,_⟩:=dd';⟨q,hq⟩;exact⟨v',_,tS I (by rw[hd];exact True.intro) hsb he (EG (bQ (yL _ _) z) hs (rel.out k) dd'),rw2,q⟩
section
variable {prog:Zh}{w:Zi}{K:Type} [DecidableEq K] {knd:HeapKind prog w K}{A:Around}{E:Zq}{s:Zg}{d a:Addr}{xs:List (K×Addr×Value)}{k:K}
def xx (xs:List (K×Addr×Value)) (k:K):List (K×Addr×Value):=xs.filter fun q=>decide (q.1≠k)
theorem vJ:∀ {xs:List (K×Addr×Value)}{j:Nat}{x:K×Addr×Value},(xs.map (·.1)).Nodup->xs[j]?=some x->xs.eraseIdx j=xx xs x.1
 | y::r,0,x,hn,h=>by
  have e:y=x:=by simpa using h
  subst e;obtain⟨h1,h2⟩:=df.mp hn;show r=xx (y::r) y.1;unfold xx;rw[lx (by simp)];refine (nO.mpr fun q hq=>?_).symm;exact ar fun e=>h1 (by show y.1∈_;rw[←e];exact fh hq)
 | y::r,j+1,x,hn,h=>by
  obtain⟨h1,h2⟩:=df.mp hn;have hx:r[j]?=some x:=by simpa using h
  show y::r.eraseIdx j=xx (y::r) x.1;unfold xx;have hne:y.1≠x.1:=fun e=>h1 (by show y.1∈_;rw[e];exact fh (bw hx));rw[ly (by rw[ar hne]),vJ h2 hx];rfl
def Gq {Q:Option DictEntry->Zg->Prop}{p:Addr×Value} (hu:knd.room A) (hkey:knd.is s.heap k a) (hm:s.heap.DictOfH knd d xs) (hsz:xs.length<=sizeLine) (hp:atKey xs k=some p)
  (h:∀ e:DictEntry,e.val=p.2->∀ h',h'.DictOfH knd d (xx xs k)->Heap.SameBut d s.heap h'->Q (some e) { s with heap:=h',toks:=s.toks+knd.draws k }):wpAny (model prog w) A (Builtin.Dict.takeOut d (.ref a)) Q E s:=by
 obtain⟨o,es,ep,g1,g2,g3,g4,g5,g6⟩:=hm;unfold Builtin.Dict.takeOut
 try with_reducible refine dR ?_
 refine ag (knd.pyHash hu hkey (ag (wpAny_dictFind_heap (s:={ s with toks:=s.toks+knd.draws k }) hu hkey g1 g3 g4 g5 g6 (fun hno=>?_) fun j p' hj=>?_)))
 ·rw[atKey_none_of_get hno] at hp;cases hp
 ·have e1:=atKey_of_get g6 hj;rw[hp] at e1;cases e1;have ez:=size_of_entries g4;refine ag (ou (s:={ s with toks:=s.toks+knd.draws k }) g1 g3 ?_);rw[entry_at g4 j,hj];refine ag (wpAny_updateDictKeys (hz:=by left) (s:={ s with toks:=s.toks+knd.draws k }) g1 g3 (a8 (h _ rfl _ ⟨_,_,ep+1,lb _ g1 (Obj.isFreed_of_dict (Obj.data_mapDictKeys g3 _)),g2.mapDictKeys _,Obj.data_mapDictKeys g3 _,?_,?_,?_⟩ (Heap.SameBut.update ..))))
  ·rw[←vJ g6 hj,←Br,←g4];obtain⟨l⟩:=es;simp
  ·intro x hx;exact knd.keeps (g5 x ((gd.mp hx).1)) g1 g3 (Heap.SameBut.update ..)
  ·exact lr (lu _ lz) g6
def Ac:MeetsIn prog w (Builtin.«dict.pop» ⟨[.ref d,.ref a],[]⟩) (fun A R s=>knd.room A.in1/\∃ k xs p,knd.is s.heap k a/\s.heap.DictOfH knd d xs/\xs.length<=sizeLine/\atKey xs k=some p ∧
  (∀ h',h'.DictOfH knd d (xx xs k)->Heap.SameBut d s.heap h'->R (.ok (.ret p.2)) { s with heap:=h',toks:=s.toks+knd.draws k })) :=
 .of_wp fun A R s ⟨hu,k,xs,p,hkey,hm,hz,hp,h⟩=>by
  unfold Builtin.«dict.pop» Builtin.Dict.keyAndDefault;refine ag (ag (wpAny_notOrdered_dict hm.typeIs ?_));refine show wpAny _ _ (pure (d,Value.ref a,none)) _ _ s from a8 ?_
  have hm':=hm;obtain⟨o,es,ep,g1,g2,g3,g4,g5,g6⟩:=hm';refine ag (ou g1 g3 ?_);refine ag (a8 ?_);have ne:es.isEmpty=false:=by
   cases hx:xs with
   | nil=>rw[hx] at hp;cases hp
   | cons x r =>have:=size_of_entries g4;rw[hx,aN] at this;simp [Array.isEmpty,this]
  rw[ne];refine ag (Gq hu hkey hm hz hp fun e ev h' m' s'=>?_);refine ag (wpAny_letGo (a8 ⟨e.val,rfl,by rw[ev];exact h h' m' s'⟩))
end
def KT.out {kvs:List (List Key×V)}{xs:List (List Key×Addr×Value)} (r:KT H kvs xs) (k:List Key):KT H (mP kvs k) (xx xs k):=by
 unfold KT at *
 induction r with
 | nil=>exact .nil
 | @cons a b l₁ l₂ f t ih =>
  have e:a.1=b.1:=f.1;unfold mP xx at *
  by_cases h:a.1=k
  ·rw[lx (by simp [h]),lx (by simp [←e,h])];exact ih
  ·rw[ly (by simp [h]),ly (by simp [←e,h])];exact .cons f ih
def JJ:V->List V->Hp->VK->Prop:=fun x vs H Q=>match x,vs with
 | .ref d,[.ref b]=>∃ kvs k v,H d=some (.dT kvs)/\H b=some (.tup (k.map kV))/\dJ kvs k=some v/\Q v (upd H d (.dT (mP kvs k)))
 | _,_=>False
def ES {d b:Addr}{H:Hp}{Q:VK}:JJ (.ref d) [.ref b] H Q=(∃ kvs k v,H d=some (.dT kvs)/\H b=some (.tup (k.map kV))/\dJ kvs k=some v/\Q v (upd H d (.dT (mP kvs k)))):=propext Iff.rfl
def II (hu:X.A.units+1<cLine):MtM X "dict.pop" JJ:=by
 intro Yp s σ H x vs v us Q I rx rv h
 match x,vs,h with
 | .ref d,[.ref b],h =>
  obtain⟨kvs,k,v',hd,hb,hv,q⟩:=h;cases rx;obtain⟨u1,rfl,ry⟩:=rv.one;cases ry;obtain⟨z,hs,xs,rel,dd⟩:=J5 I.hok hd;have hxl:xs.length<=sizeLine:=by rw[←Paired.length rel];exact z
  obtain⟨w2,hw2,rw2⟩:=ko.some_of (v:=v') (o:=(atKey xs k).map (·.2)) (by rw[←hv];exact rel.val k);obtain⟨p,hp,hp2⟩:=gi.mp hw2;refine call_meetsIn F.slot_dict_pop dd.typeIs F.entry_dict_pop (F.args_dict_pop_2 _ _) (Ac (knd:=tupleKind (bu X.prog X.w))) ⟨lN hu,k,xs,p,oZ I.hok hb,dd,hxl,hp,fun h' dd' hsb=>?_⟩;obtain⟨q',es,ep,e1,e2,e3,e4,_,e5⟩:=dd';refine⟨v',upd H d (.dT (mP kvs k)),tS I (by rw[hd];exact True.intro) hsb ⟨q',e1⟩ ⟨bQ (yL _ _) z,hs,_,(rel.out k).keeps fun c ys ec=>?_,q',es,ep,e1,e2,e3,e4,e5⟩,by rw[hp2];exact rw2,q⟩;rw[az (bh ec hd (fun z=>nomatch z))];exact ec
end
section
section
variable {prog:Zh}{w:Zi}{A:Around}{E:Zq}{s:Zg}
end
section
variable {prog:Zh}{w:Zi}{A:Around}{E:Zq}{s:Zg}
end
section
variable {X:Cx}
end
end
section
def UnX (H H':Hp) (h h':Heap):Prop:=∃ fs,Un fs [] H H' h h'
def Un.Kd {fs fs':List Addr}{H H':Hp}{h h':Heap} (u:Un fs [] H H' h h') (hs:∀ b∈fs,b∈fs'):Un fs' [] H H' h h' where
 keep:=fun b o e n hb he=>u.keep b o e n (fun z=>hb (hs b z)) he
 slot:=fun b o e n _ he=>u.any e n he
 free:=u.free
 there:=u.there
 tups:=u.tups
 frzs:=u.frzs
 tbls:=u.tbls
def UnX.trans {H H1 H2:Hp}{h h1 h2:Heap} (a:UnX H H1 h h1) (b:UnX H1 H2 h1 h2):UnX H H2 h h2:=by obtain⟨f,a⟩:=a;obtain⟨g,b⟩:=b;exact⟨f++g,(a.Kd fun x hx=>nV _ hx).trans (b.Kd fun x hx=>cA _ hx)⟩
def iZ (H:Hp) (f:Addr):Prop:=∃ (q:Str) (params:Arguments) (body:Expr) (scope:Scope) (cl:List (Str×Addr)) (pm cd ctv:Value) (u:HO),H f=some (.frz (vR q params body scope cl pm cd ctv) u)
def iZ.same {H H':Hp} (h:iZ H f) (s:ax H H'):iZ H' f:=by obtain⟨q,a,b,c,d,e,g,i,u,h⟩:=h;exact⟨q,a,b,c,d,e,g,i,u,s _ _ h⟩
def iZ.fn (I:Inv X Yp σ H s) (h:iZ H f):PySem.W.FnAt f s.heap:=by obtain⟨q,a,b,c,d,e,g,i,u,h⟩:=h;exact⟨_,_,_,_,(I.hok f _ h).1⟩
abbrev XF:XK:=fun _ _ _=>False
section
variable {P:Zh}{w:Zi}{K:Zf}{mg:Zk}{base:Heap}
def lT (P:Zh) (w:Zi) (K:Zf) (mg:Zk) (base:Heap) (k n:Nat) (f:Addr) (sp:Sp) (s₀:Zg) (H₀:Hp):Prop :=
 ∀ (A:Around) (outer:List Env) (s:Zg) (H:Hp) (us:Zc) (vs:List V) (Q:VK),dw k A->ua P w K mg base A outer s H->UnX H₀ H s₀.heap s.heap->Vals vs us->vs.length=n->sp vs H Q XF →
  codeAny (model P w) A (.call (.ref f) ⟨us,[]⟩) (CR (CX1 P w) outer P w H s Q XF) s
def lT.later {k n:Nat}{s₀ s₁:Zg}{H₀ H₁:Hp} (S:lT P w K mg base k n f sp s₀ H₀) (u:UnX H₀ H₁ s₀.heap s₁.heap):lT P w K mg base k n f sp s₁ H₁ :=
 fun A outer s H us vs Q hr e0 u2=>S A outer s H us vs Q hr e0 (u.trans u2)
structure xP (P:Zh) (w:Zi) (K:Zf) (mg:Zk) (base:Heap) (CX:CXT) (k:Nat) (f:Addr) (fd:FuncData) (ps:Ze) (sp:Zg->Sp):Prop where
 len:∀ s vs H Q E,sp s vs H Q E->vs.length=ps.length
 run:∀ (A:Around) (outer:List Env) (s:Zg) (H:Hp) (args:Args) (us:Zc) (vs:List V) (Q:VK) (E:XK),dw k A->ua P w K mg base A outer s H->BindsTo s fd args (ps.zip us)->Vals vs us->sp s vs H Q E →
  codeAny (model P w) A (.call (.ref f) args) (CR CX outer P w H s Q E) s
end
def K5 {CX:CXT}{P:Zh}{w:Zi}{K:Zf}{mg:Zk}{base:Heap}{k:Nat}{f:Addr}{name qual:Str}{params:Arguments}{body:List Stmt}{scope:Scope}{dV kV doc pm cdv ct oc:Value}{an od:Option Addr}
  {osl:Array (Option Value)}{N ps:Ze}{sp:Zg->Sp} (lk:K.lookup f=some ⟨oc,od,.func (PySem.W.fnOf name qual params body scope dV kV doc pm an cdv ct),osl⟩) (hcd:PySem.W.codeIn K cdv qual=true) (S:aI N ps scope)
  (len:∀ s vs H Q E,sp s vs H Q E->vs.length=ps.length)
  (hbody:∀ (A:Around) (outer:List Env) (s:Zg) (H:Hp) (vs:List V) (Q:VK) (E:XK),dw k (A.deeper (envOfC qual scope s.heap.objs.size f cdv))->sp s vs H Q E →
   ∃ t,PSs (rK CX P w K mg base N qual scope f cdv A outer s H E) body t/\t { nx:=fun _ H'=>Q .non H',rt:=Q } (start N vs) H) :
  xP P w K mg base CX (k+1) f (PySem.W.fnOf name qual params body scope dV kV doc pm an cdv ct) ps sp:=by
 refine⟨len,fun A outer s H args us vs Q E hr e0 hb r hsp=>?_⟩;have hl:=len _ _ _ _ _ hsp;have KX:K.In s.heap:=e0.mod.kin.keeps fun b o e=>(e0.bs b o e).1;have lim:s.heap.NoLimit:=e0.mod.nolimit.keeps fun b o e=>(e0.bs b o e).1;have hkind:∀ y∈ps.zip us,scope.names.lookup y.1=some .local∨(scope.names.lookup y.1=some .cell/\((cellsFrom (s.heap.objs.size+1) scope.names []).lookup y.1).isSome=true):=fun ⟨n,v⟩ hy=>by
  rcases S.par n (iK hy).1 with q | q
  ·exact .inl q
  ·exact .inr ⟨q,rz _ _ _ (.inl q)⟩
 refine codeAny_call_function hr.depth (KX _ _ lk) rfl S.co S.gen rfl (PySem.W.codeRec_of KX hcd) (hb _ _ _ _ ?_);refine wpAny_newFunctionEnv_cells S.kind hkind fun env he s1 x=>?_;subst he;refine⟨lim.keeps x.toInCall.keep,codeAny_func ?_⟩;obtain⟨t,ht,hq⟩:=hbody A outer s H vs Q E (hr.deeper _) hsp;have I:Inv (rK CX P w K mg base N qual scope f cdv A outer s H E) [] (start N vs) H s1:=vN S hr.hd e0 hl r x;refine bB (ht [] s1 (start N vs) H _ I hq) (fun fl s' hs=>?_) fun e s' hs=>hs;have fin:∀ {σ':St}{H':Hp}{v:V}{u:Value},Inv (rK CX P w K mg base N qual scope f cdv A outer s H E) [] σ' H' s'->RelV v u->Q v H'->CE outer P w H s Q u s' :=
  fun {σ' H' v u} J rv q=>⟨v,H',J.os,J.bare,J.base,J.hok,rv,q⟩
 cases fl with
 | ret u =>obtain⟨v,σ',H',J,rv,q⟩:=hs;exact fin J rv q
 | next =>obtain⟨σ',H',J,q⟩:=hs;exact fin (v:=V.non) (u:=Value.none) J rfl q
 | brk =>obtain⟨_,_,_,q⟩:=hs;exact False.elim q
 | cont =>obtain⟨_,_,_,q⟩:=hs;exact False.elim q
def AV (P:Zh) (w:Zi) (K:Zf) (mg:Zk) (base:Heap) (N:Ze) (q:Str) (scope:Scope) (f:Addr) (cd:Value) (cl:List (Str×Addr)) (A:Around) (outer:List Env) (s:Zg) (H:Hp):Cx where
 prog:=P
 w:=w
 K:=K
 mg:=mg
 base:=base
 A:=A.deeper (PySem.W.envX q scope s.heap.objs.size f cd cl)
 N:=N
 s₀:=s
 H₀:=H
 env:=PySem.W.envX q scope s.heap.objs.size f cd cl
 outer:=outer
 stack:=PySem.W.envX q scope s.heap.objs.size f cd cl::outer
 ex:=[]
 calm:=true
 fn:=fun _=>false
 pn:=[]
 xe:=fun _ _=>False
theorem vT {x:Str}{u:Value}:∀ {l:List (Str×Value)},(l.map (·.1)).Nodup->(x,u)∈l->l.lookup x=some u
 | [],_,h=>by cases h
 | (y,v)::l,hn,h=>by
  rw[dP];rcases aJ.mp h with e | e
  ·cases e
   simp
  ·have hne:x≠y:=fun z=>(df.mp hn).1 (by rw[←z];exact aD.mpr ⟨_,e,rfl⟩);rw[show (x==y)=false by simpa using hne];exact vT (df.mp hn).2 e
def IsCell.on {H H':Hp}{h h':Heap}{c:Addr}{v:Option Value} (u:UnX H H' h h') (n:H c=none) (e:h.IsCell c v):h'.IsCell c v:=by obtain⟨fs,u⟩:=u;obtain⟨o,e1,e2⟩:=e;obtain⟨sl,z⟩:=u.any e1 n (by simp);exact⟨_,z,e2⟩
def Hw (X:Cx) (scope:Scope) (fr:Ze) (js:Za):Prop:=Paired (fun (x:Str) (j:Nat)=>X.N[j]?=some x/\Vis X.env.scope x/\scope.names.lookup x=some .free/\(x,NameKind.free)∈scope.names/\X.env.kindOf x=some .cell) fr js
abbrev xT (js:Za) (σ:St):St:=js.map fun j=>σ[j]?.join
theorem AS {X:Cx}{scope:Scope}:∀ {fr:Ze}{js:Za},Hw X scope fr js->∀ {i:Nat}{x:Str},fr[i]?=some x->∃ j,js[i]?=some j/\X.N[j]?=some x/\Vis X.env.scope x/\scope.names.lookup x=some .free/\(x,NameKind.free)∈scope.names/\X.env.kindOf x=some .cell
 | _,_,.nil,i,x,e=>by simp at e
 | _,_,.cons h r,0,x,e=>by simp at e;subst e;exact⟨_,rfl,h⟩
 | _,_,.cons h r,i+1,x,e=>AS r (by simpa using e)
theorem xU {X:Cx}{scope:Scope}:∀ {fr:Ze}{js:Za},Hw X scope fr js->fr.length=js.length
 | _,_,.nil=>rfl
 | _,_,.cons h r=>aV (·+1) (xU r)
def FC {X:Cx}{Yp:Zp}{σ:St}{H:Hp}{s:Zg}{ps fr:Ze}{js:Za}{q:Str}{params:Arguments}{body:Expr}{scope:Scope}{cl:List (Str×Addr)}{pm ctv:Value}{c' Pt f:Addr}{te:TE}{k:Nat}
  (I:Inv X Yp σ H s) (hf:H f=some (.frz (vR q params body scope cl pm (.ref c') ctv) (.own Pt))) (hc:tZ H Pt q c') (hcl:clo X.env.cells scope.names []=some cl)
  (hbind:∀ us:Zc,us.length=ps.length->bindArgs (PySem.W.kla_fn "<lambda>" q params body scope cl pm (.ref c') ctv) ⟨us,[]⟩=pure (ps.zip us))
  (hco:scope.isCoroutine=false) (hgen:scope.isGenerator=false) (hk:scope.kind=.function) (hcell:∀ y∈scope.names,y.2≠.cell) (hps:∀ x∈ps,scope.names.lookup x=some .local) (hnd:ps.Nodup) (hcap:Hw X scope fr js)
  (hbody:∀ (A:Around) (outer:List Env) (s:Zg) (H:Hp),dw k (A.deeper (PySem.W.envX q scope s.heap.objs.size f (.ref c') cl))->PE (AV X.prog X.w X.K X.mg X.base (ps++fr) q scope f (.ref c') cl A outer s H) body te) :
  lT X.prog X.w X.K X.mg X.base (k+1) ps.length f (fun vs H Q _=>te (vs.map some++xT js σ) H Q) s H:=by
 intro A outer s' H' us vs Q hr e0 u r hl hq;have hf':H' f=some (.frz (vR q params body scope cl pm (.ref c') ctv) (.own Pt)):=by obtain⟨fs,u⟩:=u;exact u.frzs _ _ _ hf
 have lus:us.length=ps.length:=by rw[←r.length];exact hl
 have hrec:s'.heap.CodeRec (.ref c') q:=by obtain⟨oc,vs',t,h1,h2,h3⟩:=hc;obtain⟨fs,u⟩:=u;exact⟨c',oc,vs',t,rfl,(e0.hok c' _ (u.frzs _ _ _ h1)).1,h2,h3⟩
 have sub:=oA scope.names [] cl hcl (fun x c e=>by cases e);have cells:∀ x c,cl.lookup x=some c->(∀ v,s.heap.IsCell c v->s'.heap.IsCell c v)/\H' c=none:=fun x c e=>by have n:=I.freeC x c (sub x c e);obtain⟨v,o,o1,o2⟩:=I.cell x c (sub x c e);refine⟨fun v hv=>IsCell.on u n hv,?_⟩;obtain⟨fs,u⟩:=u;exact u.free c o o1 n (by simp)
 refine PySem.W.kla_callFunE hr.depth (e0.hok f _ hf').1 rfl hco hgen rfl hrec ?_;rw[hbind us lus];refine a8 (wpAny_newFunctionEnv hcell (fun y hy=>?_) (fun h₁ hns hsb=>⟨?_,?_⟩) hk)
 ·exact hps _ (iK hy).1
 ·exact (e0.mod.nolimit.keeps fun b o e=>(e0.bs b o e).1).fresh _ hsb
 show codeAny _ _ (.expr _ (PySem.W.envX q scope s'.heap.objs.size f (.ref c') cl)) _ _;have k1:∀ b o,s'.heap.get? b=some o->h₁.get? b=some o:=fun b o z=>hsb.extBut b o (bz (aM z)) (aL _ z);have noA:∀ b:Addr,b∉(AV X.prog X.w X.K X.mg X.base (ps++fr) q scope f (.ref c') cl A outer s' H').ex:=fun b z=>absurd (show b∈([]:List Addr) from z) (by simp);have cl1:∀ c v,s'.heap.IsCell c v->h₁.IsCell c v:=fun c v ⟨o,z1,z2⟩=>⟨o,k1 _ _ z1,z2⟩;have J:Inv (AV X.prog X.w X.K X.mg X.base (ps++fr) q scope f (.ref c') cl A outer s' H') [] (vs.map some++xT js σ) H' { heap:=h₁,gens:=s'.gens,drawn:=s'.drawn,toks:=s'.toks+(ps.zip us).length,os:=s'.os }:=by
  refine⟨⟨e0.mod,hk,rfl,rfl,aq _,fun y z c h1 h2=>I.ok.inj y z c (sub y c h1) (sub z c h2),fun y hy=>?_,fun y c z h=>?_,fun _=>hr.hd,Around.frames_deeper e0.frames,.inr ⟨rfl,rfl⟩,fun b z=>absurd z (noA b),e0.bs,e0.bsz,fun b _ _=>noA b,fun b z=>absurd z (noA b),e0.mJ,e0.frf⟩,
   rfl,e0.bare,Un.kept k1,⟨_,hns,fun i y v h1 h2 h3=>?_⟩,fun y c h=>?_,e0.hok.fresh (aq _),fun y c h=>(cells y c h).2,fun p hp=>absurd (show p∈([]:Zp) from hp) (by simp),e0.hok.kept k1,?_⟩
  ·have hy:scope.names.lookup y=some .cell∨scope.names.lookup y=some .free:=hy;rcases hy with hy | hy
   ·exact absurd rfl (hcell _ (fk hy))
   ·exact oz scope.names [] cl hcl y (fk hy)
  ·cases z
  ·have h1':(ps++fr)[i]?=some y:=h1
   by_cases hi:i<ps.length
   ·rw[gb hi] at h1';rw[gb (by rw[ak];left),bt] at h2;cases ev:vs[i]? with
    | none=>rw[ev] at h2;cases h2
    | some a =>
     rw[ev] at h2;cases h2;obtain⟨u',hu',rv⟩:=r.get ev;refine⟨u',rv,.inl ⟨hps y (bw h1'),?_⟩⟩;have hz:(ps.zip us)[i]?=some (y,u'):=by rw[List.getElem?_zip_eq_some];exact⟨h1',hu'⟩
     refine vT ?_ (List.mem_reverse.mpr (bw hz));rw[List.map_reverse];refine List.pairwise_reverse.mpr ?_;rw[show (fun x:Str×Value=>x.1)=Prod.fst from rfl,List.map_fst_zip (by left)];exact hnd.imp fun h=>h.symm
   ·rw[gc (by left)] at h1';rw[gc (by rw[ak];left),ak,hl] at h2;obtain⟨j,hj,hN,hv,hfree,hmem,hkd⟩:=AS hcap h1';unfold xT at h2;rw[bt,hj] at h2;have h2':σ[j]?=some (some v):=by
     have h2:some (σ[j]?.join)=some (some v):=h2;cases es:σ[j]? with
     | none=>rw[es] at h2;cases h2
     | some o=>rw[es] at h2;cases o with
      | none=>cases h2
      | some v'=>cases h2;rfl
    obtain⟨m,_,hlk⟩:=I.loc;obtain⟨u',rv,lk⟩:=hlk j y v hN h2' hv;refine⟨u',rv,.inr ⟨.inr hfree,?_⟩⟩;obtain⟨c,hcy⟩:=oz scope.names [] cl hcl y hmem;refine⟨c,hcy,?_⟩;rcases lk with ⟨z,_⟩ | ⟨_,c2,z1,z2⟩
    ·rw[hkd] at z;cases z
    ·rw[sub y c hcy] at z1;cases z1;exact cl1 _ _ ((cells y c hcy).1 _ z2)
  ·obtain⟨v,hv⟩:=I.cell y c (sub y c h);exact⟨v,cl1 _ _ ((cells y c h).1 _ hv)⟩
  ·show _=(ps++fr).length;rw[aK,ak,aK,hl,ak,xU hcap]
 refine PySem.W.kla_codeExpr (bB (hbody A outer s' H' (hr.deeper _) [] _ _ _ Q J hq) (fun u2 s2 h2=>?_) fun _ _ z=>z.elim);obtain⟨v,H2,J2,rv,q2⟩:=h2;exact⟨v,H2,J2.os,J2.bare,J2.base,J2.hok,rv,q2⟩
def GY (f:Addr) (n:Nat) (sp:Sp) (tv:TE) (t:TA):TE:=fun σ H Q=>tv σ H fun x H1=>x=.ref f/\iZ H1 f/\t σ H1 fun vs H2=>iZ H2 f/\vs.length=n/\sp vs H2 Q XF
def Ej {f:Addr}{n:Nat}{sp:Sp}{tv:TE}{t:TA}{σ:St}{H:Hp}{Q:VK}:GY f n sp tv t σ H Q=tv σ H fun x H1=>x=.ref f/\iZ H1 f/\t σ H1 fun vs H2=>iZ H2 f/\vs.length=n/\sp vs H2 Q XF:=propext Iff.rfl
section
variable {X:Cx}
def pvF (i:Nat) {pos:Pos} (hN:X.N[i]?=some x:=by ext) (hv:X.env.scope.names.lookup x=some .free:=by ext) (hd:(x==("__debug__":Str))=false:=by ext)
  (hcd:(x==("__classdict__":Str))=false:=by ext):PE X (.Name x pos) (Hj i):=An hN (.inr (.inr hv)) hd hcd
def GO {k n:Nat}{Q:VK}{vs:List V} (S:lT X.prog X.w X.K X.mg X.base k n f sp X.s₀ X.H₀) (hex:X.ex=[]) (hr:dw k X.A) (I:Inv X Yp σ H s) (r:Vals vs us) (hl:vs.length=n) (h:sp vs H Q XF) :
  wpAny (model X.prog X.w) X.A (call (.ref f) us) (EP X Yp σ Q) X.xe s:=by
 have u:=I.base;rw[hex] at u;refine hZ (gk (S X.A X.stack s H us vs Q hr I.CL ⟨_,u⟩ r hl h) fun r s' hq=>?_);cases r with
 | error e=>exact (vH hq).elim
 | ok fl =>
  cases fl with
  | ret u=>exact I.after hq
  | next=>exact False.elim hq
  | brk=>exact False.elim hq
  | cont=>exact False.elim hq
def sV {k n:Nat}{tv:TE}{t:TA}{p pos:Pos} (S:lT X.prog X.w X.K X.mg X.base k n f sp X.s₀ X.H₀) (hex:X.ex=[]) (hr:dw k X.A) (hv:PE X (.Name x p) tv) (ha:PA X (e::es) t) (hs:dO (e::es)=true:=by ext) :
  PE X (.Call (.Name x p) (e::es) [] pos) (GY f n sp tv t):=by
 intro Yp s σ H Q I h;refine ot (thn (hv Yp s σ H _ I h) fun u s1 ⟨v,H1,I1,r,ev,B1,q1⟩=>?_);subst ev;cases r;refine PySem.W.callWith_F (B1.fn I1) (thn (ha pos Yp s1 σ H1 _ I1 q1) fun us s2 ⟨vs,H2,I2,r2,B2,l2,q2⟩=>⟨B2.fn I2,?_⟩) (aW (bg hs).1) (cY (bg hs).2);exact GO S hex hr I2 r2 l2 q2
end
def Jv (P:Zh) (w:Zi) (K:Zf) (mg:Zk) (base:Heap) (k n:Nat) (spA:Sp->Sp):Zg->Sp:=fun s vs H Q E=>∃ (f:Addr) (spf:Sp),vs.getLast?=some (.ref f)/\iZ H f/\lT P w K mg base k n f spf s H/\spA spf vs H Q E
section
variable {X:Cx}
end
def nC (ts:List (Addr×Str)):Hp:=fun b=>(ts.lookup b).map jG
theorem xK:∀ {ts:List (Addr×Str)},(ts.map (·.1)).Nodup->∀ p∈ts,nC ts p.1=some (jG p.2)
 | [],_,p,h=>by cases h
 | t::r,hn,p,h=>by
  unfold nC;rw[dP];rcases aJ.mp h with e | e
  ·subst e;simp
  ·have hne:p.1≠t.1:=fun z=>(df.mp hn).1 (aD.mpr ⟨_,e,z⟩);rw[show (p.1==t.1)=false by simpa using hne];exact xK (df.mp hn).2 p e
theorem FL {b:Addr}{q:Str}:∀ {ts:List (Addr×Str)},ts.lookup b=some q->(b,q)∈ts
 | [],h=>by cases h
 | (c,r)::ts,h=>by
  rw[dP] at h
  by_cases e:b=c
  ·subst e;simp at h;subst h;exact bq
  ·rw[show (b==c)=false by simpa using e] at h;exact bD _ (FL h)
def qM (h:nC ts b=some o):∃ p∈ts,p.1=b/\o=jG p.2:=by unfold nC at h;obtain⟨q,e,rfl⟩:=gi.mp h;exact⟨(b,q),FL e,rfl,rfl⟩
def zY {P:Zh}{w:Zi}{K:Zf}{mg mb:Zk}{CX:CXT}{k:Nat}{fa a:Addr}{ts:List (Addr×Str)}{fd:FuncData}{x:Str}{sp:Sp}{s₁:Zg}{vs:Zc}{ns:Zb}
  (KX:K.In s₁.heap) (hns:s₁.heap.Ns mainGlobals mg) (hb:s₁.heap.Ns builtinsNs mb) (hbb:∀ x:Str,x≠"__name__"->mb x=bootBuiltins x) (hlim:s₁.heap.NoLimit)
  (hbm:∃ bm ob,mg "__builtins__"=some (.ref bm)/\bm≠builtinsNs/\s₁.heap.get? bm=some ob/\ob.cls=.type "module"/\ob.dict=some builtinsNs/\ob.data=.plain) (hg:s₁.gens=#[])
  (ha:s₁.heap.get? a=some { cls:=.type "list",data:=.seq vs.toArray }) (hi:IntsAre vs ns) (hl:ns.length<=sizeLine) (hr:dw k callerA) (hnd:(ts.map (·.1)).Nodup) (hC:∀ p∈ts,∃ c,PySem.W.codeHdIn K c p.1=true) (hPt:∀ p∈ts,s₁.heap.get? p.1=some { cls:=.none,data:=.fields #[] }) (hKP:∀ p∈ts,K.lookup p.1=none)
  (F:∀ base:Heap,K.In base->base.Ns mainGlobals mg->bS P w K mg base CX k fa fd [x] sp) (hbind:∀ (s:Zg) (u:Value),BindsTo s fd ⟨[u],[]⟩ [(x,u)])
  (hsp:∀ H:Hp,SqL K H a (ns.map V.int)->(∀ p∈ts,H p.1=some (jG p.2))->sp [.ref a] H (fun v _=>v=.bl true) fun _ _ _=>False)
  (hCX:∀ H e s',CX [] H s₁ (fun _ _ _=>False) e s'->False) :
  codeAny (model P w) callerA (.call (.ref fa) ⟨[.ref a],[]⟩) (fun r s'=>r=.ok (.ret (.bool true))/\OldK s₁.heap s'.heap/\s'.os=s₁.os/\AllBare s'.gens) s₁:=by
 have rv:=wu hi;have lenV:=hi.length;have nPa:∀ p∈ts,p.1≠a:=fun p hp z=>by have:=hPt p hp;rw[z,ha] at this;cases this
 have core:∀ H:Hp,SqL K H a (ns.map V.int)->HOk P w H s₁.heap->(∀ p∈ts,H p.1=some (jG p.2))->(∀ b,H b≠none->(∃ p∈ts,b=p.1)∨(b=a/\∃ o xs,H b=some (.frz o (.lst xs))))->(H a≠none->K.lookup a=none) →
   codeAny (model P w) callerA (.call (.ref fa) ⟨[.ref a],[]⟩) (fun r s'=>r=.ok (.ret (.bool true))/\OldK s₁.heap s'.heap/\s'.os=s₁.os/\AllBare s'.gens) s₁:=by
  intro H hS hok hT hA hK;have base_of:∀ {b:Addr}{o:Obj},s₁.heap.get? b=some o->H b=none->(wM s₁.heap H).get? b=some o:=fun e n=>Fs e n;have noO:∀ {b:Addr}{o:Obj},s₁.heap.get? b=some o->(∀ xs n,o.data≠.seq xs n)->(∀ xs,o.data≠.fields xs)->H b=none:=fun {b o} e d1 d2=>by
   cases qb:H b with
   | none=>rfl
   | some u =>
    rcases hA b (by rw[qb];simp) with ⟨p,hp,z⟩ | ⟨z,_⟩
    ·subst z;rw[hPt p hp] at e;cases e;exact absurd rfl (d2 _)
    ·subst z;rw[ha] at e;cases e;exact absurd rfl (d1 _ _)
  have nsK:∀ {b:Addr}{m:Zk},s₁.heap.Ns b m->(wM s₁.heap H).Ns b m:=fun {b m} ⟨o,es,ep,e,d,r⟩=>⟨o,es,ep,base_of e (noO e (fun _ _ z=>by rw[d] at z;cases z) fun _ z=>by rw[d] at z;cases z),d,r⟩;have hKb:K.In (wM s₁.heap H):=fun b o e=>base_of (KX b o e) (by
   cases qb:H b with
   | none=>rfl
   | some u =>
    rcases hA b (by rw[qb];simp) with ⟨p,hp,z⟩ | ⟨z,_⟩
    ·subst z;rw[hKP p hp] at e;cases e
    ·subst z;rw[hK (by rw[qb];simp)] at e;cases e)
  have hM:Mod K mg (wM s₁.heap H):=⟨hKb,nsK hns,⟨mb,nsK hb,hbb⟩,let ⟨mc,h1,h2⟩:=hlim;⟨mc,nsK h1,h2⟩,let ⟨bm,ob,b1,b2,b3,b4,b5,b6⟩:=hbm;⟨bm,ob,b1,b2,base_of b3 (noO b3 (fun _ _ z=>by rw[b6] at z;cases z) fun _ z=>by rw[b6] at z;cases z),b4,b5,b6⟩⟩;have e0:ua P w K mg (wM s₁.heap H) callerA [] s₁ H:=⟨rfl,hM,fun b o e=>IL e,Nat.le_of_eq (Dl _ _),trivial,fun b hb=>absurd (show b∈([]:List Addr) from hb) (by simp),hok,.of_eq hg⟩;refine gk ((F _ hKb (nsK hns)).run callerA [] s₁ H ⟨[.ref a],[]⟩ [.ref a] [.ref a] _ _ hr e0 (hbind s₁ (.ref a)) (.cons rfl .nil) (hsp H hS hT)) fun r s' h=>?_;cases r with
  | error e=>exact (hCX H e s' h).elim
  | ok fl =>
   cases fl with
   | next=>exact False.elim h
   | brk=>exact False.elim h
   | cont=>exact False.elim h
   | ret u =>
    obtain⟨v,H',os,bare,un,hok',r',qv⟩:=h;have qv':v=.bl true:=qv;subst qv';obtain rfl:u=Value.bool true:=r';refine⟨rfl,⟨fun b o e=>?_,fun b o e=>un.there b o e (by simp)⟩,os,bare⟩;cases qb:H b with
    | none=>exact .inl (un.keep b o e qb (by intro z;exact absurd (show b∈([]:List Addr) from z) (by simp)) (by simp))
    | some u =>
     rcases hA b (by rw[qb];simp) with ⟨p,hp,z⟩ | ⟨z,ob,xs,z1⟩
     ·subst z;obtain⟨c,hc⟩:=hC p hp;have hCd:=PySem.W.codeHd_of_K KX hc;rw[hPt p hp] at e;cases e;obtain⟨more,z2⟩:=un.tbls p.1 _ (hT p hp);obtain⟨qs,z3,_⟩:=(show bT P w H' s'.heap p.1 _ from hok' p.1 _ z2);exact .inr (.inl ⟨(hCd.tab (hPt p hp)).isCodeTable,rfl,#[],qs,rfl,by simpa using z3⟩)
     ·have z2:=un.frzs b ob _ z1;obtain⟨e1,_⟩:=hok b _ z1;obtain⟨e2,_⟩:=hok' b _ z2;rw[e] at e1;cases e1;exact .inl e2
 have okT:∀ (H:Hp),∀ p∈ts,bT P w H s₁.heap p.1 (jG p.2):=fun H p hp=>⟨#[],hPt p hp,trivial,fun pos c z=>by simp [codeAmong] at z⟩;have noa:nC ts a=none:=by
  cases q:nC ts a with
  | none=>rfl
  | some o =>obtain⟨p,hp,z,_⟩:=qM q;exact absurd z (nPa p hp)
 cases hk:K.lookup a with
 | some o =>
  have e:=KX a o hk;rw[ha] at e;cases e;refine core (nC ts) (.inr ⟨_,vs.toArray,_,hk,rfl,rfl,rfl,by rw[aZ,lenV];exact hl,by simpa using rv⟩) (fun b u z=>?_) (xK hnd) (fun b z=>?_) fun z=>absurd noa z
  ·obtain⟨p,hp,rfl,rfl⟩:=qM z;exact okT _ p hp
  ·cases q:nC ts b with
   | none=>exact absurd q z
   | some o =>obtain⟨p,hp,e,_⟩:=qM q;exact .inl ⟨p,hp,e.symm⟩
 | none =>
  have hT:∀ p∈ts,upd (nC ts) a (.frz { cls:=.type "list",data:=.seq vs.toArray } (.lst (ns.map V.int))) p.1=some (jG p.2):=fun p hp=>(az (nPa p hp)).trans (xK hnd p hp);refine core (upd (nC ts) a (.frz { cls:=.type "list",data:=.seq vs.toArray } (.lst (ns.map V.int)))) (.inl (.inr ⟨{ cls:=.type "list",data:=.seq vs.toArray },aB⟩)) (fun b u z=>?_) hT (fun b z=>?_) fun _=>hk
  ·by_cases hb2:b=a
   ·subst hb2;rw[aB] at z;cases z;exact⟨ha,by rw[ak];exact hl,vs,_,rv,ha⟩
   ·rw[az hb2] at z;obtain⟨p,hp,rfl,rfl⟩:=qM z;exact okT _ p hp
  ·by_cases hb2:b=a
   ·exact .inr ⟨hb2,_,_,by rw[hb2];exact aB⟩
   ·rw[az hb2] at z;cases q:nC ts b with
    | none=>exact absurd q z
    | some o =>obtain⟨p,hp,e,_⟩:=qM q;exact .inl ⟨p,hp,e.symm⟩
def DU {l:PySem.W.OpenLaw}{n k:Nat}{qq:Zh}{loose:Ze}{XP:(Zk)->Heap->Prop}{YP:Zi->Heap->Prop}{d:DefRec}{K:Params->Zf}{CX:Zi->CXT}{sp:Zi->Sp}{x:Str} (ts:List (Addr×Str))
  (hn:l.most=some n) (hn2:n<=sizeLine) (hdf:d.params.defaults=[]) (hr:dw k callerA) (hnd:(ts.map (·.1)).Nodup)
  (hY:∀ (w:Zi) (h:Heap),YP w h->(K w.params).In h/\∀ p∈ts,h.get? p.1=some { cls:=.none,data:=.fields #[] })
  (F:∀ (w:Zi) (mg:Zk) (fa:Addr) (h:Heap),(K w.params).In h->h.Ns mainGlobals mg->mg d.name=some (.ref fa) →
   (∀ p∈ts,∃ c,PySem.W.codeHdIn (K w.params) c p.1=true)/\∃ fd:FuncData,(∀ (s:Zg) (u:Value),BindsTo s fd ⟨[u],[]⟩ [(x,u)]) ∧
    ∀ base:Heap,(K w.params).In base->base.Ns mainGlobals mg->bS l.prog w (K w.params) mg base (CX w) k fa fd [x] (sp w))
  (hKP:∀ w:Zi,∀ p∈ts,(K w.params).lookup p.1=none)
  (hsp:∀ (w:Zi) (H:Hp) (a:Addr) (ns:Zb),ns.length<=n->SqL (K w.params) H a (ns.map V.int)->(∀ p∈ts,H p.1=some (jG p.2))->sp w [.ref a] H (fun v _=>v=.bl true) fun _ _ _=>False)
  (hCX:∀ (w:Zi) (H:Hp) (s:Zg) (e:Value) (s':Zg),CX w [] H s (fun _ _ _=>False) e s'->False) :
  PySem.W.WalkO qq loose XP YP l.row.toRowW d [] (fun f vs=>PySem.call f vs):=by
 refine Att.xQ hn hdf fun w s₀ s₁ mg mb fa o pm cd doc a vs ns G Y ho hd hcd hmg hobj hints hlen hg=>?_;obtain⟨KX,hPt⟩:=hY w _ Y;obtain⟨hC,fd,hb,hF⟩:=F w mg fa _ KX G.T.g hmg;exact zY KX G.T.g G.T.b G.T.builtins G.T.nolimit G.T.bmain hg hobj hints (bQ hlen hn2) hr hnd hC hPt (hKP w) hF hb (fun H hS hT=>hsp w H a ns hlen hS hT) fun H e s'=>hCX w H s₁ e s'
end
section
section
variable {prog:Zh}{w:Zi}{A:Around}{E:Zq}{h:Heap}{g:Array GenState}{d:Drawn}{t:Nat}{os:OsState}
variable {nm q:Str}{C N:Addr}{bs bm bmB:Zc}{hdct:Bool}{sn:Ze}{sub:Zc}{ab:Bool}{col:Option Bool}{dd:Option Addr}{k0 k1 k2 k3 k5:Option Value}{B newId initId:String}
end
section
variable {prog:Zh}{w:Zi}{A:Around}{E:Zq}{s:Zg}{K:Zf}{x C t:Addr}{name:Str}{v:Value}
end
section
variable {X:Cx}{Yp:Zp}{σ:St}{H:Hp}{s:Zg}
end
section
variable {P:Zh}{w:Zi}{K:Zf}{mg:Zk}{base:Heap}{N:Ze}{qual:Str}{scope:Scope}{f:Addr}{cd:Value}{A:Around}{outer:List Env}{s:Zg}{H:Hp}{E:XK}
end
section
variable {X:Cx}
end
section
variable {X:Cx}
end
section
variable {X:Cx}
end
section
variable {X:Cx}
end
abbrev TH:=Value->Addr->TS
structure Ke (X:Cx) (Yp:Zp) (σ:St) (H:Hp) (s:Zg) (ea C t:Addr) (B:Heap) (d:Option Addr):Prop where
 mkI:∀ h6,Heap.FlyingW B X.stack ea (.ref C) (.ref t) h6->s.heap.UpToSlots h6->(∃ o6,h6.get? ea=some o6/\XD o6 d)->Inv X Yp σ (upd H ea (oP ea (.ref C) d)) { s with heap:=h6 }
 fl:Heap.FlyingW B X.stack ea (.ref C) (.ref t) s.heap
 obj:∃ oe,s.heap.get? ea=some oe/\XD oe d
def PH (X:Cx) (hs:List ExceptHandler) (th:TH):Prop:=∀ (Yp:Zp) (s:Zg) (σ:St) (H:Hp) (D:Ends) (ea C t:Addr) (B:Heap) (d:Option Addr),X.Ok->Ke X Yp σ H s ea C t B d->th (.ref C) ea D σ (upd H ea (oP ea (.ref C) d)) →
 wpAny (model X.prog X.w) X.A (handleBy (.ref ea) X.env hs) (SP X Yp D) X.xe s
def Hs (h:Heap):h.UpToSlots h:=Heap.UpToSlots.of_keeps fun _ _ e=>e
def Ka:TH:=fun _ _ _ _ _=>False
def MG (K:Zf) (CE:Addr) (t1:Addr->TS) (r:TH):TH:=fun c ea D σ H=>∃ b,PySem.W.exmOne K c (.ref CE)=some b/\if b=true then t1 ea D σ H else r c ea D σ H
def Eu {c:Value}{ea:Addr}{D:Ends}{σ:St}{H:Hp}:Ka c ea D σ H=False:=propext Iff.rfl
def HU {K:Zf}{CE:Addr}{t1:Addr->TS}{r:TH}{c:Value}{ea:Addr}{D:Ends}{σ:St}{H:Hp}:MG K CE t1 r c ea D σ H=(∃ b,PySem.W.exmOne K c (.ref CE)=some b/\if b=true then t1 ea D σ H else r c ea D σ H):=propext Iff.rfl
section
variable {X:Cx}
def Lw:PH X [] Ka:=fun _ _ _ _ _ _ _ _ _ _ _ _ h=>h.elim
def Mu {CE:Addr}{np hpos:Pos}{b₀:Stmt}{suite:List Stmt}{hs:List ExceptHandler}{t1:Addr->TS}{r:TH} (hm:X.mg x=some (.ref CE))
  (hh:∀ ea:Addr,PSs { X with A:=X.A.mark (some (.ref ea)),calm:=false,xe:=fun _ _=>False } (b₀::suite) (t1 ea)) (hr:PH X hs r)
  (hg:X.env.kindOf x=some .globalImplicit:=by ext) (hd:(x==("__debug__":Str))=false:=by ext) :
  PH X (.ExceptHandler (some (.Name x np)) none (b₀::suite) hpos::hs) (MG X.K CE t1 r):=by
 intro Yp s σ H D ea C t B d ok L h;obtain⟨bb,hb,q⟩:=h;obtain⟨oe,hoe,hdo⟩:=L.obj;have I5:=L.mkI s.heap L.fl (Hs _) ⟨oe,hoe,hdo⟩;obtain⟨o5',v5,e5',c5,t5,_⟩:=L.fl.first;rw[hoe] at e5';cases e5';refine wpAny_handleBy_cons (codeAny_handlers_test ?_) (by intro q;cases q);refine oE (X:={ X with A:=X.A.mark (some (.ref ea)),calm:=false,xe:=fun _ _=>False }) I5.wU hg hm ?_ hd;have LT:PySem.W.Looks (model X.prog X.w) s.heap (typeOf (.ref ea)) (.ref C):=c5 ▸ (PySem.W.Looks.ld hoe).andThen .now;refine PySem.W.exm_one I5.kIn LT hb _ _ _ _ (fun _ _ e=>e) ?_;cases bb with
 | false=>exact hr Yp s σ H D ea C t B d ok L (by simpa using q)
 | true =>
 rw[ai rfl] at q;refine codeAny_handlers_suite ?_;refine bB (KD.any (E:=fun _ _=>False) (kM _ _) (lands_againW (s:=s) (Q:=fun _ s''=>∃ h6,s''={ s with heap:=h6 }/\Heap.FlyingW B X.stack ea (.ref C) (.ref t) h6/\s.heap.UpToSlots h6) L.fl fun h6 x1 x2=>⟨h6,rfl,x1,x2⟩)) ?_ (fun _ _ z=>False.elim z.1);rintro _ _ ⟨⟨h6,rfl,f6,sm6⟩,dk6⟩;obtain⟨o6,e6,_,d6,g6⟩:=dk6 ea oe hoe;have I6:=L.mkI h6 f6 sm6 ⟨o6,e6,hdo.dk d6 g6⟩;refine bB (hh ea Yp _ _ _ D I6.wU q) (fun f s8 hsp=>?_) (fun _ _ z=>False.elim z);cases f with
 | next =>obtain⟨σ9,H9,I9,q9⟩:=hsp;exact⟨σ9,H9,Inv.markFrom ok I9,q9⟩
 | brk =>obtain⟨σ9,H9,I9,q9⟩:=hsp;exact⟨σ9,H9,Inv.markFrom ok I9,q9⟩
 | cont =>obtain⟨σ9,H9,I9,q9⟩:=hsp;exact⟨σ9,H9,Inv.markFrom ok I9,q9⟩
 | ret u =>obtain⟨v9,σ9,H9,I9,r9,q9⟩:=hsp;exact⟨v9,σ9,H9,Inv.markFrom ok I9,r9,q9⟩
def JQ (tb:(St->XK)->TS) (th:TH):TS:=fun D σ H=>tb (fun σ' c d H'=>∀ ea H2,H' ea=none->ax H' H2->H2 ea=some (oP ea c d)->(∀ dx,d=some dx->∃ fs,H2 dx=some (.xd fs))->th c ea D σ' H2) D σ H
def HV {tb:(St->XK)->TS}{th:TH}{D:Ends}{σ:St}{H:Hp}:JQ tb th D σ H=tb (fun σ' c d H'=>∀ ea H2,H' ea=none->ax H' H2->H2 ea=some (oP ea c d)->(∀ dx,d=some dx->∃ fs,H2 dx=some (.xd fs))->th c ea D σ' H2) D σ H:=propext Iff.rfl
def Jj {body:List Stmt}{h₀:ExceptHandler}{hs:List ExceptHandler}{pos:Pos}{tb:(St->XK)->TS}{th:TH} (hst:X.stack=X.env::X.outer) (hf:X.env.frame=some X.env.locals) (hex:X.ex=[])
  (hb:∀ (pn:Zp) (xe:Zq) (E:St->XK),PassesOwn (model X.prog X.w) X.A X.env xe->Passes (CX1 X.prog X.w) { X with pn:=pn,xe:=xe } E->PSs { X with pn:=pn,xe:=xe } body (tb E))
  (hh:PH X (h₀::hs) th):PS X (.Try body (h₀::hs) [] [] pos) (JQ tb th):=by
 intro Yp s σ H D I h;refine wpAny_Try_except ?_;refine bB (hb (X.pn++Yp) _ _ PassesOwn.looking ?_ [] s σ H D I.Lz h) ?_ (fun e s1 he=>he)
 ·intro pins' σ' H1 s1 e s' I' hcx;obtain⟨ea,C,t,B,H',d,rfl,os,bare,un,hok,fl,⟨oe,hoe,hdo⟩,hdx,hkb,hE⟩:=hcx;have IX:Inv X Yp σ' H1 s1:=I'.gQ;have I2:Inv X Yp σ' H' s':=IX.ue (ch:=[]) os un hok bare (fun b z=>absurd z (by simp));have hfr:∀ b∈frs X.stack,∃ o,s'.heap.get? b=some o/\∀ vs,o.data≠.fields vs:=fun b hb=>(I2.stack.mem hb).2;have hff:∀ b∈frs X.stack,H' b=none:=I2.qK;obtain⟨oe0,vs0,hoe0,_,hdat0,_⟩:=fl.first;have nfr:ea∉frs X.stack:=fun z=>by
   obtain⟨o,e1,e2⟩:=hfr ea z;rw[hoe0] at e1;cases e1;exact e2 _ hdat0
  have hea:H' ea=none:=by
   cases q:H' ea with
   | none=>rfl
   | some o=>have:=hkb ea oe hoe nfr (.inl (by rw[q];simp));rw[fl.2.1] at this;cases this
  have new1:s1.heap.get? ea=none:=by
   cases q:s1.heap.get? ea with
   | none=>rfl
   | some o=>have:=hkb ea oe hoe nfr (.inr ⟨o,q⟩);rw[fl.2.1] at this;cases this
  have new0:X.s₀.heap.get? ea=none:=by
   cases q:X.s₀.heap.get? ea with
   | none=>rfl
   | some o =>obtain⟨o2,e2⟩:=IX.base.there ea o q (by rw[hex];simp);rw[new1] at e2;cases e2
  have mk:∀ h6,Heap.FlyingW B X.stack ea (.ref C) (.ref t) h6->s'.heap.UpToSlots h6->(∃ o6,h6.get? ea=some o6/\XD o6 d)->Inv X Yp σ' (upd H' ea (oP ea (.ref C) d)) { s' with heap:=h6 }:=by
   intro h6 f6 sm6 ⟨o6,e6,d6⟩;have J:Inv X Yp σ' H' { s' with heap:=h6 }:=IX.ue (s':={ s' with heap:=h6 }) (ch:=[]) os (BW un hkb f6.1 sm6 hfr) (yq hok hkb f6.1 hff) bare (fun b z=>absurd z (by simp));obtain⟨o7,v7,e7,c7,t7,_⟩:=f6.first;rw[e6] at e7;cases e7;refine J.Kc hea new0 (fun z=>?_) (fun y c e z=>?_) (fun p hp z=>?_) (Bh e6 c7 d6)
   ·obtain⟨m,⟨ob,_,_,e9,_⟩,_⟩:=IX.loc;rw[←z,new1] at e9;cases e9
   ·obtain⟨w9,o9,e9,_⟩:=IX.cell y c e;rw[z,new1] at e9;cases e9
   ·have e9:=(IX.pin p hp).1;rw[z,new1] at e9;cases e9
  refine bB (KD.any (E:=fun _ _=>False) (wQ _ _) (wpAny_looks_onW (Q:=fun _ s''=>∃ h4,s''={ s' with heap:=h4 }/\Heap.HeldW B X.stack ea (.ref C) (.ref t) X.env.locals h4/\s'.heap.UpToSlots h4) (by rw[←hst];exact I.ok.frames) hf (by rw[←hst];exact fl) fun h4 x1 x2=>⟨h4,rfl,by rw[hst];exact x1,x2⟩)) ?_ (fun _ _ z=>False.elim z.1);rintro _ _ ⟨⟨h4,rfl,l4,sm4⟩,dk4⟩;refine bB (KD.any (E:=fun _ _=>False) (kM _ _) (wpAny_landsW (s:={ s' with heap:=h4 }) (Q:=fun _ s''=>∃ h5,s''={ s' with heap:=h5 }/\Heap.FlyingW B X.stack ea (.ref C) (.ref t) h5/\h4.UpToSlots h5) l4 fun h5 x1 x2=>⟨h5,rfl,x1,x2⟩)) ?_ (fun _ _ z=>False.elim z.1);rintro _ _ ⟨⟨h5,rfl,f5,sm5⟩,dk5⟩;obtain⟨o5,e5,_,d5,g5⟩:=(dk4.trans dk5) ea oe hoe;have hne:∀ dx,d=some dx->dx≠ea:=fun dx z y=>by obtain⟨fs,q⟩:=hdx dx z;rw[y,hea] at q;cases q
  exact hh Yp { s' with heap:=h5 } σ' H' D ea C t B d I.ok ⟨fun h6 x1 x2 x3=>mk h6 x1 ((sm4.trans sm5).trans x2) x3,f5,⟨o5,e5,hdo.dk d5 g5⟩⟩ (hE ea _ hea (eG hea) aB (fun dx z=>by obtain⟨fs,q⟩:=hdx dx z;exact⟨fs,by rw[az (hne dx z)];exact q⟩))
 ·intro f s1 hsp;cases f with
  | next =>obtain⟨σ9,H9,I9,q9⟩:=hsp;exact jQ ⟨σ9,H9,I9.gQ,q9⟩
  | brk =>obtain⟨σ9,H9,I9,q9⟩:=hsp;exact⟨σ9,H9,I9.gQ,q9⟩
  | cont =>obtain⟨σ9,H9,I9,q9⟩:=hsp;exact⟨σ9,H9,I9.gQ,q9⟩
  | ret u =>obtain⟨v9,σ9,H9,I9,r9,q9⟩:=hsp;exact⟨v9,σ9,H9,I9.gQ,r9,q9⟩
end
end
section
def vt:entryFor table "proto.unchain"=some Builtin.«proto.unchain»:=entryFor_of_fast (by ext)
section
variable {prog:Zh}{w:Zi}{A:Around}{E:Zq}{s:Zg}
def xM {e:Value} (h1:s.heap.get? ea=some ob) (h2:ob.data=.fields vs) (h3:vs[2]?=some .none) (h:Q .none s) :
  wpAny (model prog w) A (runValue (.builtin "proto.unchain" ⟨[e,.ref ea,.ref ea,.bool false],[]⟩)) Q E s:=by
 refine wpAny_runValue (lK vt ?_);show wpAny _ _ (field (.ref ea) 2 >>= _) _ _ s;refine ag (wpAny_field h1 h2 h3 ?_);exact a8 h
def sY {e ea:Addr}{o ob:Obj}{us vs:Array Value}{Q:α->Zg->Prop} (hh:A.handled=some (.ref ea)) (hne:ea≠e) (h1:s.heap.get? ea=some ob) (h2:ob.data=.fields vs) (h3:vs[2]?=some .none)
  (o1:s.heap.get? e=some o) (o2:o.data=.fields us) (o3:2<us.size) (h:E (.ref e) { s with heap:=s.heap.update e (Obj.mapFields (·.setIfInBounds 2 (.ref ea))) }) :
  wpAny (model prog w) A (raiseNew (.ref e):Sem α) Q E s:=by
 unfold raiseNew;refine ag (wpAny_handled ?_);rw[hh];dsimp only;rw[ai (by simp only[bne_iff_ne,ne_eq,Value.ref.injEq];exact hne)];refine ag (dR (xM h1 h2 h3 (ag ?_)));refine bB (wpAny_setField (E:=E) o1 o2 o3 (Q:=fun _ s'=>E (.ref e) s') h) (fun _ s' q=>wpAny_throw q) (fun _ _ q=>q)
def tO {it ea:Addr}{x left step:Int}{Q:Option Value->Zg->Prop} (hh:A.handled=some (.ref ea)) (h1:s.heap.get? ea=some ob) (h2:ob.data=.fields vs) (h3:vs[2]?=some .none)
  (hit:IsRangeIter s.heap it x left step) (hleft:left<=0) (hQ:∀ h',Heap.ExtBut it s.heap h'->Q none { s with heap:=h' }):wpAny (model prog w) A (pyNext (.ref it)) Q E s:=by
 have hT:s.TypeIs (.ref it) "range_iterator":=⟨_,hit,rfl⟩;unfold pyNext;refine ag (lO (wpAny_callSpecial?_slot (name:=Str.ofString "__next__") hT F.slot_range_iterator_next
  (ia F.slot_range_iterator_next hT F.entry_range_iterator_next ?_ (F.args_range_iterator_next_1 _))))
 show wpAny _ _ (field (.ref it) 0 >>= _) _ _ s;refine ag (wpAny_field hit rfl (x:=rawInt x) rfl ?_);show wpAny _ _ (field (.ref it) 1 >>= _) _ _ s;refine ag (wpAny_field hit rfl (x:=rawInt left) rfl ?_);show wpAny _ _ (field (.ref it) 2 >>= _) _ _ s;refine ag (wpAny_field hit rfl (x:=rawInt step) rfl ?_);show wpAny _ _ (if left<=0 then _ else _) _ _ s;rw[ai hleft];refine ag (wpAny_rule ?_);refine ag ?_;show wpAny _ _ (newExc (.type "StopIteration") [] >>= _) _ _ _;refine ag ?_;simp only[newExc,newTuple];refine ag (gm ?_ (by size_fits));refine ag (m:=firstArgMember _ _) (wpAny_of_eq (a:=Value.none) (by first | rfl | (simp only[firstArgMember];rfl)) ?_);refine gm ?_ (by size_fits);have lt:=aM h1;refine sY (A:=A.in1) hh ?_ (aL _ (aL _ h1)) h2 h3 (bj _ rfl) rfl (bE (show 2<6 by decide) (by rw[Array.size_append];exact Nat.le_add_right _ _)) ?_
 ·rw[hO];exact bz (fj lt)
 refine ag (wpAny_isInstance (T:="StopIteration") (b:=true) ⟨_,lb _ (bj _ rfl) rfl,rfl⟩ isSubtype_stop ?_);refine a8 (hQ _ fun b o hb e=>?_);have:=aM e;refine (gZ _ _ ?_).trans (aL _ (aL _ e));rw[hO];exact lF (fj this)
end
structure AO (hd:Option Value) (P:Zh) (w:Zi) (K:Zf) (tg:Expr) (J:It) (fp:List Addr) (it:Addr) (tn:Nat->Heap->Prop):Prop where
 mem:it∈fp
 obj:∀ i h,tn i h->∀ b∈fp,∃ o,h.get? b=some o/\∀ v,o.data≠.cell v
 keep:∀ i h h',tn i h->(∀ b∈fp,∀ o,h.get? b=some o->h'.get? b=some o)->tn i h'
 item:∀ (X:Cx),X.prog=P->X.w=w->X.K=K->X.A.handled=hd->∀ (i:Nat) (Yp:Zp) (s:Zg) (σ:St) (H:Hp) (E:Zq),Inv X Yp σ H s->(∀ b∈fp,lR X Yp H b)->tn i s.heap->J.go i H →
  wpAny (model P w) X.A (pyNext (.ref it)) (fun r s1=>∃ u,r=some u ∧
   wpAny (model P w) X.A (letOwnedTupleGo tg (.ref it) u) (fun _ s2=>∃ x H',Inv X Yp σ H' s2/\RelV x u/\J.yld i H x H'/\tn (i+1) s2.heap/\∀ b∈fp,H' b=none) E s1) E s
 done:∀ (X:Cx),X.prog=P->X.w=w->X.K=K->X.A.handled=hd->∀ (i:Nat) (Yp:Zp) (s:Zg) (σ:St) (H:Hp) (E:Zq),Inv X Yp σ H s->(∀ b∈fp,lR X Yp H b)->tn i s.heap->J.stop i H →
  wpAny (model P w) X.A (pyNext (.ref it)) (fun r s1=>r=none/\Inv X Yp σ H s1) E s
 self:∀ (A:Around) (i:Nat) (s:Zg) (Q:Zq) (E:Zq),tn i s.heap->Q (.ref it) s->wpAny (model P w) A (pyIter (.ref it)) Q E s
def LP (X:Cx) (Yp:Zp) (σ:St) (tg:Expr) (R:It->Hp->Prop) (itv:Value) (s2:Zg):Prop :=
 ∃ (it:Addr) (fp:List Addr) (tn:Nat->Heap->Prop) (J:It) (H':Hp),itv=.ref it/\Inv X Yp σ H' s2/\AO X.A.handled X.prog X.w X.K tg J fp it tn/\tn 0 s2.heap/\(∀ b∈fp,lR X Yp H' b)/\R J H'
def PIH (X:Cx) (tg iter:Expr) (wi:TI):Prop :=
 ∀ (Yp:Zp) (s:Zg) (σ:St) (H:Hp) (R:It->Hp->Prop),Inv X Yp σ H s->wi σ H R →
  wpAny (model X.prog X.w) X.A (eval iter X.env) (fun v s1=>wpAny (model X.prog X.w) X.A (pyIter v) (LP X Yp σ tg R) X.xe s1) X.xe s
def BZ (hd:Option Value) (lo:Int) (n:Nat):It:=⟨fun i _=>i<n,fun i H x H'=>H'=H/\x=.int (lo+i),fun i H=>n<=i/\fz hd H⟩
def zg (it:Addr) (lo:Int) (n:Nat):AO hd P w K tg (BZ hd lo n) [it] it (fun i h=>IsRangeIter h it (lo+(i:Nat)*1) ((n:Int)-(i:Nat)) 1) where
 mem:=(jH (P:=P) (w:=w) (K:=K) (tg:=tg) it lo n).mem
 obj:=(jH (P:=P) (w:=w) (K:=K) (tg:=tg) it lo n).obj
 keep:=(jH (P:=P) (w:=w) (K:=K) (tg:=tg) it lo n).keep
 self:=(jH (P:=P) (w:=w) (K:=K) (tg:=tg) it lo n).self
 item:=by
  intro X hP hw hK hc i Yp s σ H E I hf st hg;subst hP hw hK;obtain⟨f0,f1,f2,f3,f4,f5⟩:=hf it (by simp);refine wpAny_pyNext_range_item st (by have:i<n:=hg;left) fun h' st' sb=>?_;have I1:Inv X Yp σ H { s with heap:=h',toks:=s.toks+1 }:=I.turned (fun b o hb e=>(sb.2 b hb).trans e) f0 f1 f3 f4 f5;have e1:lo+((i+1:Nat):Int)*1=lo+((i:Nat):Int)*1+1:=by left
  have e2:(n:Int)-((i+1:Nat):Int)=(n:Int)-((i:Nat):Int)-1:=by left
  have st2:IsRangeIter h' it (lo+((i+1:Nat):Int)*1) ((n:Int)-((i+1:Nat):Int)) 1:=by rw[e1,e2];exact st'
  refine⟨_,rfl,uv (s:={ s with heap:=h',toks:=s.toks+1 }) (n:="range_iterator") st' rfl rfl Zd ⟨.int (lo+i),H,I1,⟨s.toks,?_⟩,⟨rfl,rfl⟩,st2,fun b hb=>(hf b hb).1⟩⟩;rw[Int.mul_one]
 done:=by
  intro X hP hw hK hc i Yp s σ H E I hf st hg;subst hP hw hK;obtain⟨f0,f1,f2,f3,f4,f5⟩:=hf it (by simp);obtain⟨hn,hin⟩:=hg;rcases hin with hin | ⟨ea,φ,e1,e2,e3⟩
  ·exact wpAny_pyNext_range_end (hc.trans hin) st (by left) fun h' eb=>⟨rfl,I.turned (t':=s.toks) (fun b o hb e=>eb b o hb e) f0 f1 f3 f4 f5⟩
  ·obtain⟨p,_,_⟩:=(show bT X.prog X.w H s.heap ea (.ext φ) from I.hok ea _ e2);obtain⟨ob,vs,q1,q2,q3⟩:=e3 _ p;exact tO (hc.trans e1) q1 q2 q3 st (by left) fun h' eb=>⟨rfl,I.turned (t':=s.toks) (fun b o hb e=>eb b o hb e) f0 f1 f3 f4 f5⟩
def zT (hd:Option Value) (ta:TA):TI:=fun σ H R=>ta σ H fun vs H1=>∃ j:Int,vs=[.int j]/\-(2^62)<=j/\j<2^62/\R (BZ hd 0 j.toNat) H1
def Cc {hd:Option Value}{σ:St}{H:Hp}{ta:TA}{R:It->Hp->Prop}:zT hd ta σ H R=ta σ H fun vs H1=>∃ j:Int,vs=[.int j]/\-(2^62)<=j/\j<2^62/\R (BZ hd 0 j.toNat) H1:=propext Iff.rfl
section
variable {X:Cx}{tg:Expr}
def DM {R:It->Hp->Prop}{E:Zq}{lo hi:Int}{t u v:Tok}{tk:Nat} (I:Inv X Yp σ H s) (h1:-(2^62)<=lo) (h2:lo<2^62) (h3:-(2^62)<=hi) (h4:hi<2^62)
  (q:R (BZ X.A.handled lo (hi-lo).toNat) H):wpAny (model X.prog X.w) X.A (pyIter (.ref s.heap.objs.size)) (LP X Yp σ tg R) E { s with heap:=s.heap.push { cls:=.type "range",data:=.fields #[.int lo t,.int hi u,.int 1 v] },toks:=tk }:=by
 refine wpAny_pyIter_range (IsRange.new ..) (small_one h1 h2 h3 h4) ?_;have I1:Inv X Yp σ H { s with heap:=s.heap.push { cls:=.type "range",data:=.fields #[.int lo t,.int hi u,.int 1 v] },toks:=tk }:=I.kept fun b o e=>aL _ e;refine⟨(s.heap.push { cls:=.type "range",data:=.fields #[.int lo t,.int hi u,.int 1 v] }).objs.size,[(s.heap.push { cls:=.type "range",data:=.fields #[.int lo t,.int hi u,.int 1 v] }).objs.size],_,_,H,rfl,
  I1.kept (t':=tk) fun b o e=>aL _ e,zg _ lo (hi-lo).toNat,?_,fun b hb=>?_,q⟩
 ·have e1:lo+((0:Nat):Int)*1=lo:=by simp
  have e2:(((hi-lo).toNat:Nat):Int)-((0:Nat):Int)=Builtin.Range.rangeSize lo hi 1:=by rw[rangeSize_one];split<;>left
  show IsRangeIter _ _ (lo+((0:Nat):Int)*1) ((((hi-lo).toNat:Nat):Int)-((0:Nat):Int)) 1;rw[e1,e2];exact bj _ rfl
 ·have e:b=(s.heap.push { cls:=.type "range",data:=.fields #[.int lo t,.int hi u,.int 1 v] }).objs.size:=by simpa using hb
  subst e;exact I1.tI (aq _) (I1.hok.fresh (aq _))
def Ap {a:Expr}{p pos:Pos} (hg:Gl X "range") (hm:X.mg "range"=none) (ha:PA X [a] ta) (hs:starEach [a] X.env=[(false,eval a X.env)]:=by rfl):PIH X tg (.Call (.Name "range" p) [a] [] pos) (zT X.A.handled ta):=by
 intro Yp s σ H R I h;refine Call_ (rO I hg hm boot_range (ri (thn (ha pos Yp s σ H _ I h) fun us s1 ⟨vs,H1,I1,r1,q1⟩=>?_) hs rfl));obtain⟨j,e,q1,q2,q⟩:=q1;subst e;cases r1 with
 | cons r rr =>
  cases rr
  obtain⟨t,rfl⟩:=r;exact call_range_1 (DM I1 (by left) (by left) q1 q2 (by simpa using q))
def sW {a:Expr}{p pos:Pos} (hm:X.mg "range"=none) (ha:PA X [a] ta) (hg:X.env.kindOf "range"=some .globalImplicit:=by ext) (hs:noStar a=true:=by ext):PIH X tg (.Call (.Name "range" p) [a] [] pos) (zT X.A.handled ta) :=
 Ap hg hm ha (aW hs)
end
def A2 {n:Nat} (hin:fz hd H1):(BZ hd lo n).Seq H1 ((List.range n).map fun (k:Nat)=>V.int (lo+(k:Int))):=fun H s=>by obtain⟨h1,h2⟩:=we (lo:=lo) (n:=n) H s;exact⟨fun i x e=>h1 i x e,fun i hi=>⟨h2 i hi,hin.same s⟩⟩
section
variable {X:Cx}{Yp:Zp}{σ:St}{H1:Hp}{s₂:Zg}{E:Zq}
def Ey {elt target iter:Expr}{ifs:List Expr}{scope:Scope}{pos:Pos}{cl:List (Str×Addr)}{own frn:Ze}{js:Za}{g:TG}{tc:TT}{te:TE}{Q:VK}{it:Addr}{fp:List Addr}{tn:Nat->Heap->Prop}{J:It}
  {RR:Value->Addr->Result->Zg->Prop} (B:vB X scope cl) (hfr:rC X frn js) (hloc:∀ x∈frn,scope.names.lookup x≠some .local)
  (hg:∀ C s₀ H₀ ex,PG (X.blk (own++frn) scope cl C s₀ H₀ ex) target g) (hi:∀ C s₀ H₀ ex,PIf (X.blk (own++frn) scope cl C s₀ H₀ ex) ifs tc) (he:∀ C s₀ H₀ ex,PE (X.blk (own++frn) scope cl C s₀ H₀ ex) elt te)
  (I:Inv X Yp σ H1 s₂) (T:AO X.A.handled X.prog X.w X.K target J fp it tn) (st0:tn 0 s₂.heap) (hf:∀ b∈fp,lR X Yp H1 b) (hq:gq g tc te (ic own.length js σ) J H1 Q)
  (fin:∀ D C s' H' m,s₂.heap.objs.size<=C->Inv X Yp σ H' s'->s'.heap.Ns C m->lR X Yp H' C->Q (.ref D) H'->RR (.ref D) C (.ok .next) s') :
  wpAny (model X.prog X.w) X.A (newList []) (fun acc s₃=>wpAny (model X.prog X.w) X.A (newFunctionEnv scope X.env.globals cl [] X.env.qual none .none (some X.env)) (fun cenv s₄ =>codeAny (model X.prog X.w) X.A (.compStart (.ListComp elt [⟨target,iter,ifs,0⟩] scope pos) 0 (.ref it) acc { cenv with scope:=relabel scope X.env }) (RR acc cenv.locals) s₄) E s₃) E s₂:=by
 have sub:=oA scope.names [] cl B.clo (fun x c e=>by cases e);refine gm (wpAny_newFunctionEnv B.cell (by intro y hy;simp at hy) (fun h₁ hns₁ hsb₁=>?_) B.kind);dsimp only at hns₁ hsb₁ ⊢;generalize hH2:s₂.heap.push { cls:=.type "list",dict:=none,data:=.seq ([]:Zc).toArray }=H2 at hns₁ hsb₁ ⊢;have hC:H2.objs.size=s₂.heap.objs.size+1:=by rw[←hH2,hO]
 have hDC:s₂.heap.objs.size≠H2.objs.size:=by rw[hC];exact bz (jP _)
 have hCle:s₂.heap.objs.size<=H2.objs.size:=by rw[hC];exact jO _
 have below:∀ b,b<s₂.heap.objs.size->b≠H2.objs.size/\b≠s₂.heap.objs.size:=fun b hb=>⟨by rw[hC];exact bz (fj hb),bz hb⟩;have old:∀ b o,s₂.heap.get? b=some o->h₁.get? b=some o:=fun b o e=>hsb₁.extBut b o (below b (aM e)).1 (aL _ (hH2 ▸ aL _ e));have hacc:h₁.get? s₂.heap.objs.size=some { cls:=.type "list",dict:=none,data:=.seq ([]:Zc).toArray }:=hsb₁.extBut _ _ hDC (aL _ (hH2 ▸ bj _ rfl));have hfo:∀ b∈fp,∃ o,s₂.heap.get? b=some o/\∀ v,o.data≠.cell v:=T.obj 0 _ st0;have D0:H1 s₂.heap.objs.size=none:=I.hok.fresh (aq _);have C0:H1 H2.objs.size=none:=I.hok.fresh hCle;obtain⟨W,⟨m0,w0⟩,turn⟩:=hq _ D0;have okX:(X.blk (own++frn) scope cl H2.objs.size s₂ H1 fp).Ok:=I.J4 (N':=own++frn) B hCle hf fun b hb=>let ⟨o,e,_⟩:=hfo b hb;⟨o,e⟩;have I0:Inv (X.blk (own++frn) scope cl H2.objs.size s₂ H1 fp) [] (ic own.length js σ) (upd H1 s₂.heap.objs.size (.lst [])) { s₂ with heap:=h₁,toks:=s₂.toks+([]:List (Str×Value)).length }:=by
  obtain⟨m,hn,hl⟩:=id I.loc;refine⟨okX,rfl,I.bare,Un.laid old (aq _) D0,⟨_,hns₁,fun i x v e1 e2 e3=>?_⟩,fun x c e=>?_,?_,fun x c e=>?_,fun p hp=>?_,?_,?_⟩
  ·have e1:(own++frn)[i]?=some x:=e1;unfold ic at e2
   by_cases hik:i<own.length
   ·rw[gb (by simpa using hik),qS,ai hik] at e2;cases e2
   ·rw[gc (by simpa using hik),lD,bt] at e2;rw[gc (by left)] at e1;obtain⟨j,hj,hNj,hk⟩:=hfr.get e1;rw[hj] at e2;have e2':(σ[j]?).join=some v:=Option.some.inj e2;have e2'':σ[j]?=some (some v):=by
     cases q:σ[j]? with
     | none=>rw[q] at e2';cases e2'
     | some o=>rw[q] at e2';cases o with
      | none=>cases e2'
      | some y=>have:y=v:=Option.some.inj e2';rw[this]
    obtain⟨u,r,lk⟩:=hl j x v hNj e2'' (hk.elim (fun z=>.inr (.inl z)) fun z=>.inr (.inr z));refine⟨u,r,?_⟩;rcases lk with ⟨k1,_⟩ | ⟨_,c,hcl,hcell⟩
    ·rcases hk with z | z<;>(rw[k1] at z;cases z)
    ·have hx3:(compEnvC scope cl H2.objs.size X.env).kindOf x=some .local∨(compEnvC scope cl H2.objs.size X.env).kindOf x=some .cell∨(compEnvC scope cl H2.objs.size X.env).kindOf x=some .free:=e3;rcases hx3 with z | z
     ·exfalso;have z':(scope.names.map fun (n,k)=>if (k==NameKind.free&&X.env.scope.kind==.function&&X.env.kindOf n==some .cell) then (n,NameKind.cell) else (n,k)).lookup x=some .local:=z;rcases jk z' with q | ⟨q,_⟩
      ·exact hloc x (bw e1) (B.names _ q rfl)
      ·cases q
     ·obtain⟨c',hc'⟩:=okX.has x z;have q:=sub x c' hc';rw[hcl] at q;have q':c=c':=Option.some.inj q;subst q';refine .inr ⟨z,c,hc',?_⟩;obtain⟨o,ho,hd⟩:=hcell;exact⟨o,old _ _ ho,hd⟩
  ·obtain⟨v,o,ho,hd⟩:=I.cell x c (sub x c e);exact⟨v,o,old _ _ ho,hd⟩
  ·show upd H1 _ _ H2.objs.size=none;rw[az (cI hDC)];exact C0
  ·obtain⟨v,o,ho,hd⟩:=I.cell x c (sub x c e);rw[az (below c (aM ho)).2];exact I.freeC x c (sub x c e)
  ·cases hp
  ·exact I.hok.laid old (aq _) ⟨bH _,[],_,.nil,hacc⟩
  ·unfold ic;show _=(own++frn).length;rw[aK,aK,lD,ak,hfr.len]
 -- the iterator's objects in the block
 have fpx:∀ {H:Hp},(∀ b∈fp,H b=none)->∀ b∈fp,lR (X.blk (own++frn) scope cl H2.objs.size s₂ H1 fp) [] H b:=fun {H} hn b hb=>by
  obtain⟨f0,f1,f2,f3,f4,f5⟩:=hf b hb;obtain⟨o,e,_⟩:=hfo b hb;refine⟨hn b hb,(below b (aM e)).1,fun z=>?_,.inl hb,fun x c e=>f4 x c (sub x c e),fun p hp=>by cases hp⟩;rcases aJ.mp (I.vg b z) with z | z
  ·exact f1 z
  ·exact f2 z
 have st1:tn 0 h₁:=T.keep _ _ _ st0 fun b _ o e=>old b o e;have fr0:∀ b∈fp,upd H1 s₂.heap.objs.size (.lst []) b=none:=fun b hb=>by obtain⟨o,e,_⟩:=hfo b hb;rw[az (below b (aM e)).2];exact (hf b hb).1
 have loop:codeAny (model X.prog X.w) X.A (.compLoop (.ListComp elt [⟨target,iter,ifs,0⟩] scope pos) 0 (.ref it) (.ref s₂.heap.objs.size) (compEnvC scope cl H2.objs.size X.env))
   (RR (.ref s₂.heap.objs.size) H2.objs.size) { s₂ with heap:=h₁,toks:=s₂.toks+([]:List (Str×Value)).length }:=by
  refine sM (fun n s'=>∃ i ys σ1 H,Inv (X.blk (own++frn) scope cl H2.objs.size s₂ H1 fp) [] σ1 H s'/\tn i s'.heap/\(∀ b∈fp,H b=none)/\W i n ys σ1 H) ?_ m0 ⟨0,[],_,_,I0,st1,fr0,w0⟩;rintro n s3 ⟨i,ys,σ3,H3,I3,st3,fr3,w3⟩;obtain⟨hD3,hsz,alt⟩:=turn i n ys σ3 H3 w3;rcases alt with ⟨stop,qn⟩ | ⟨go,step⟩
  ·refine thn (T.done (X.blk (own++frn) scope cl H2.objs.size s₂ H1 fp) rfl rfl rfl rfl i [] s3 σ3 H3 _ I3 (fpx fr3) st3 stop) fun r s4 ⟨hr,I4⟩=>?_;subst hr;obtain⟨m,hn,_⟩:=id I4.loc;have hch:∀ b∈fp,(b∈X.ex∨X.s₀.heap.objs.size<=b)/\b≠X.env.locals/\(∀ x c,X.env.cells.lookup x=some c->c≠b)/\∀ p∈X.pn++Yp,p.1≠b:=fun b hb=>by
    obtain⟨f0,f1,f2,f3,f4,f5⟩:=hf b hb;exact⟨f3,f1,f4,f5⟩
   have IX:Inv X Yp σ H3 s4:=I.ue I4.os I4.base I4.hok I4.bare hch;exact fin _ _ s4 H3 m hCle IX hn (I.tI hCle I4.free) qn
  ·refine thn (T.item (X.blk (own++frn) scope cl H2.objs.size s₂ H1 fp) rfl rfl rfl rfl i [] s3 σ3 H3 _ I3 (fpx fr3) st3 go) fun r s4 ⟨u,hr,h4⟩=>?_;subst hr;refine thn h4 fun _ s5 ⟨x,H5,I5,r5,y5,st5,fr5⟩=>?_;have I5':=I5.pinned (fpx fr5) (T.obj _ _ st5);refine thn (hg _ _ _ _ _ s5 σ3 H5 x u _ I5' r5 (step x H5 y5)) fun _ s6 ⟨σ6,H6,I6,q6⟩=>?_;refine thn (hi _ _ _ _ _ s6 σ6 H6 _ I6 q6) fun b s7 ⟨H7,I7,q7⟩=>?_;have again:∀ {ys':List V}{H8:Hp}{s8:Zg}{m':Nat},Inv (X.blk (own++frn) scope cl H2.objs.size s₂ H1 fp) ([]++pk fp s5.heap) σ6 H8 s8->m'<n->W (i+1) m' ys' σ6 H8 →
     ∃ m,m<n/\∃ i ys σ1 H,Inv (X.blk (own++frn) scope cl H2.objs.size s₂ H1 fp) [] σ1 H s8/\tn i s8.heap/\(∀ b∈fp,H b=none)/\W i m ys σ1 H:=fun {ys' H8 s8 m'} I8 hm w8=>by
    refine⟨m',hm,i+1,ys',σ6,H8,I8.iG,T.keep _ _ _ st5 fun b hb o e=>(I8.pin (b,o) (cA _ (cA _ (fA hb e)))).1,fun b hb=>?_,w8⟩;obtain⟨o,e,d⟩:=T.obj _ _ st5 b hb;exact (I8.pin (b,o) (cA _ (cA _ (fA hb e)))).2.1
   cases b with
   | false =>rw[af bO] at q7 ⊢;obtain⟨m',hm,w7⟩:=q7;exact again I7 hm w7
   | true =>rw[ai rfl] at q7 ⊢;refine thn (he _ _ _ _ _ s7 σ6 H7 _ I7 q7) fun v s8 ⟨y,H8,I8,r8,hD8,m',hm,w8⟩=>?_;refine thn (iq (X:=X.blk (own++frn) scope cl H2.objs.size s₂ H1 fp) _ s8 σ6 H8 (.ref s₂.heap.objs.size) [y] _ [v] (fun _ H9=>W (i+1) m' (ys++[y]) σ6 H9) I8 rfl (.cons r8 .nil) ⟨_,ys,y,rfl,rfl,hD8,hsz,w8⟩) fun _ s9 ⟨_,H9,I9,_,w9⟩=>?_;exact again I9 hm w9
 exact codeAny_compStart_list loop (T.self X.A 0 _ _ _ st1 loop)
def Ls {elt target iter:Expr}{ifs:List Expr}{pos:Pos}{wi:TI}{g:TG}{tc:TT}{te:TE} (own:Ze) (B:vB X scope cl) (hfr:rC X frn js)
  (hloc:∀ x∈frn,scope.names.lookup x≠some .local) (hi:PIH X target iter wi)
  (hg:∀ C s₀ H₀ ex,PG (X.blk (own++frn) scope cl C s₀ H₀ ex) target g) (hif:∀ C s₀ H₀ ex,PIf (X.blk (own++frn) scope cl C s₀ H₀ ex) ifs tc) (he:∀ C s₀ H₀ ex,PE (X.blk (own++frn) scope cl C s₀ H₀ ex) elt te)
  (hs:∀ x,foldedSetIterable iter X.env x=pure x:=by intro _;rfl):PE X (.ListComp elt [⟨target,iter,ifs,0⟩] scope pos) (tLC own.length js wi g tc te):=by
 intro Yp s σ H Q I h;rw[eval_ListComp];refine wpAny_comprehension_free (use:=none) rfl hs (gJ B.clo) B.kind B.names (thn (hi Yp s σ H _ I h) fun v s1 h1=>thn h1 fun itv s2 h2=>?_);obtain⟨it,fp,tn,J,H2,e,I2,T,st2,f2,hq⟩:=h2;subst e;refine Ey (RR:=fun acc C=>compPost (model X.prog X.w) X.A X.xe none (EP X Yp σ Q) acc C) B hfr hloc hg hif he I2 T st2 f2 hq ?_;intro D C s' H' m hC I' hn fC q;exact⟨m,hn,fun h' sb=>⟨.ref D,H',I'.turned (t':=s'.toks) (fun b o hb e=>(sb.2 b hb).trans e) fC.1 fC.2.1 fC.2.2.2.1 fC.2.2.2.2.1 fC.2.2.2.2.2,rfl,q⟩⟩
end
def BJ (K:Zf) (tb:(St->XK)->TS) (CE:Addr) (i:Nat) (th:Addr->TS):TS:=fun D σ H =>tb (fun σ' c d H'=>PySem.W.exmOne K c (.ref CE)=some true/\∀ ea H2,H' ea=none->ax H' H2->H2 ea=some (oP ea c d)->th ea (D.un i) (σ'.set i (some (.ref ea))) H2) D σ H
section
variable {X:Cx}{Yp:Zp}{σ:St}{H:Hp}{s:Zg}
def Ji {body:List Stmt}{b₀:Stmt}{suite:List Stmt}{x n:Str}{i:Nat}{CE:Addr}{np hpos pos:Pos}{tb:(St->XK)->TS}{th:Addr->TS} (hst:X.stack=X.env::X.outer) (hf:X.env.frame=some X.env.locals) (hex:X.ex=[]) (hN:X.N.Nodup) (hm:X.mg x=some (.ref CE))
  (hb:∀ (pn:Zp) (xe:Zq) (E:St->XK),PassesOwn (model X.prog X.w) X.A X.env xe->Passes (CX1 X.prog X.w) { X with pn:=pn,xe:=xe } E->PSs { X with pn:=pn,xe:=xe } body (tb E))
  (hh:∀ ea:Addr,PSs { X with A:=X.A.mark (some (.ref ea)),calm:=false,xe:=fun _ _=>False } (b₀::suite) (th ea))
  (hi:X.N[i]?=some n:=by ext) (hn:X.env.scope.names.lookup n=some .local:=by ext) (hg:X.env.kindOf x=some .globalImplicit:=by ext) (hd:(x==("__debug__":Str))=false:=by ext) :
  PS X (.Try body [.ExceptHandler (some (.Name x np)) (some n) (b₀::suite) hpos] [] [] pos) (BJ X.K tb CE i th):=by
 intro Yp s σ H D I h;refine wpAny_Try_except ?_;refine bB (hb (X.pn++Yp) _ _ PassesOwn.looking ?_ [] s σ H D I.Lz h) ?_ (fun e s1 he=>he)
 ·intro pins' σ' H1 s1 e s' I' hcx;obtain⟨ea,C,t,B,H',d,rfl,os,bare,un,hok,fl,⟨oe,hoe,hdo⟩,hdx,hkb,htrue,hE⟩:=hcx;have IX:Inv X Yp σ' H1 s1:=I'.gQ;have I2:Inv X Yp σ' H' s':=IX.ue (ch:=[]) os un hok bare (fun b z=>absurd z (by simp));have hfr:∀ b∈frs X.stack,∃ o,s'.heap.get? b=some o/\∀ vs,o.data≠.fields vs:=fun b hb=>(I2.stack.mem hb).2;have hff:∀ b∈frs X.stack,H' b=none:=I2.qK;obtain⟨oe0,vs0,hoe0,_,hdat0,_⟩:=fl.first;have nfr:ea∉frs X.stack:=fun z=>by
   obtain⟨o,e1,e2⟩:=hfr ea z;rw[hoe0] at e1;cases e1;exact e2 _ hdat0
  have hea:H' ea=none:=by
   cases q:H' ea with
   | none=>rfl
   | some o=>have:=hkb ea oe hoe nfr (.inl (by rw[q];simp));rw[fl.2.1] at this;cases this
  have new1:s1.heap.get? ea=none:=by
   cases q:s1.heap.get? ea with
   | none=>rfl
   | some o=>have:=hkb ea oe hoe nfr (.inr ⟨o,q⟩);rw[fl.2.1] at this;cases this
  have new0:X.s₀.heap.get? ea=none:=by
   cases q:X.s₀.heap.get? ea with
   | none=>rfl
   | some o =>obtain⟨o2,e2⟩:=IX.base.there ea o q (by rw[hex];simp);rw[new1] at e2;cases e2
  have mk:∀ h6,Heap.FlyingW B X.stack ea (.ref C) (.ref t) h6->s'.heap.UpToSlots h6->(∃ o6,h6.get? ea=some o6/\XD o6 d)->Inv X Yp σ' (upd H' ea (oP ea (.ref C) d)) { s' with heap:=h6 }:=by
   intro h6 f6 sm6 ⟨o6,e6,d6⟩;have J:Inv X Yp σ' H' { s' with heap:=h6 }:=IX.ue (s':={ s' with heap:=h6 }) (ch:=[]) os (BW un hkb f6.1 sm6 hfr) (yq hok hkb f6.1 hff) bare (fun b z=>absurd z (by simp));obtain⟨o7,v7,e7,c7,t7,_⟩:=f6.first;rw[e6] at e7;cases e7;refine J.Kc hea new0 (fun z=>?_) (fun y c e z=>?_) (fun p hp z=>?_) (Bh e6 c7 d6)
   ·obtain⟨m,⟨ob,_,_,e9,_⟩,_⟩:=IX.loc;rw[←z,new1] at e9;cases e9
   ·obtain⟨w9,o9,e9,_⟩:=IX.cell y c e;rw[z,new1] at e9;cases e9
   ·have e9:=(IX.pin p hp).1;rw[z,new1] at e9;cases e9
  refine bB (KD.any (E:=fun _ _=>False) (wQ _ _) (wpAny_looks_onW (Q:=fun _ s''=>∃ h4,s''={ s' with heap:=h4 }/\Heap.HeldW B X.stack ea (.ref C) (.ref t) X.env.locals h4/\s'.heap.UpToSlots h4) (by rw[←hst];exact I.ok.frames) hf (by rw[←hst];exact fl) fun h4 x1 x2=>⟨h4,rfl,by rw[hst];exact x1,x2⟩)) ?_ (fun _ _ z=>False.elim z.1);rintro _ _ ⟨⟨h4,rfl,l4,sm4⟩,dk4⟩;refine bB (KD.any (E:=fun _ _=>False) (kM _ _) (wpAny_landsW (s:={ s' with heap:=h4 }) (Q:=fun _ s''=>∃ h5,s''={ s' with heap:=h5 }/\Heap.FlyingW B X.stack ea (.ref C) (.ref t) h5/\h4.UpToSlots h5) l4 fun h5 x1 x2=>⟨h5,rfl,x1,x2⟩)) ?_ (fun _ _ z=>False.elim z.1);rintro _ _ ⟨⟨h5,rfl,f5,sm5⟩,dk5⟩;obtain⟨o5,e5,_,d5,g5⟩:=(dk4.trans dk5) ea oe hoe;have I5:=mk h5 f5 (sm4.trans sm5) ⟨o5,e5,hdo.dk d5 g5⟩;obtain⟨o5',v5,e5',c5,t5,_⟩:=f5.first;rw[e5] at e5';cases e5';refine wpAny_handleBy_cons (codeAny_handlers_test ?_) (by intro q;cases q);refine oE (X:={ X with A:=X.A.mark (some (.ref ea)),calm:=false,xe:=fun _ _=>False }) I5.wU hg hm ?_ hd;have LT:PySem.W.Looks (model X.prog X.w) h5 (typeOf (.ref ea)) (.ref C):=c5 ▸ (PySem.W.Looks.ld e5).andThen .now;refine PySem.W.exm_one I5.kIn LT htrue _ _ _ _ (fun _ _ e=>e) ?_;refine codeAny_handlers_suite_as ?_;refine bB (KD.any (E:=fun _ _=>False) (kM _ _) (lands_againW (s:={ s' with heap:=h5 }) (Q:=fun _ s''=>∃ h6,s''={ s' with heap:=h6 }/\Heap.FlyingW B X.stack ea (.ref C) (.ref t) h6/\h5.UpToSlots h6) f5 fun h6 x1 x2=>⟨h6,rfl,x1,x2⟩)) ?_ (fun _ _ z=>False.elim z.1);rintro _ _ ⟨⟨h6,rfl,f6,sm6⟩,dk6⟩;obtain⟨o6,e6,_,d6,g6⟩:=dk6 ea o5 e5;have I6:=mk h6 f6 ((sm4.trans sm5).trans sm6) ⟨o6,e6,(hdo.dk d5 g5).dk d6 g6⟩;refine kW (X:={ X with A:=X.A.mark (some (.ref ea)),calm:=false,xe:=fun _ _=>False }) (v:=.ref ea) I6.wU hN hi (.inl hn) rfl (fun s7 I7=>?_) (.inr hn);refine bB (hh ea Yp s7 _ _ (D.un i) I7 (hE ea _ hea (eG hea) aB)) (fun f s8 hsp=>?_) (fun _ _ z=>False.elim z);cases f with
  | next =>obtain⟨σ9,H9,I9,q9⟩:=hsp;exact oI (Inv.markFrom I.ok I9) hN hi hn fun s9 J=>⟨_,H9,J,q9⟩
  | brk =>obtain⟨σ9,H9,I9,q9⟩:=hsp;exact oI (Inv.markFrom I.ok I9) hN hi hn fun s9 J=>⟨_,H9,J,q9⟩
  | cont =>obtain⟨σ9,H9,I9,q9⟩:=hsp;exact oI (Inv.markFrom I.ok I9) hN hi hn fun s9 J=>⟨_,H9,J,q9⟩
  | ret u =>obtain⟨v9,σ9,H9,I9,r9,q9⟩:=hsp;exact oI (Inv.markFrom I.ok I9) hN hi hn fun s9 J=>⟨v9,_,H9,J,r9,q9⟩
 ·intro f s1 hsp;cases f with
  | next =>obtain⟨σ9,H9,I9,q9⟩:=hsp;exact jQ ⟨σ9,H9,I9.gQ,q9⟩
  | brk =>obtain⟨σ9,H9,I9,q9⟩:=hsp;exact⟨σ9,H9,I9.gQ,q9⟩
  | cont =>obtain⟨σ9,H9,I9,q9⟩:=hsp;exact⟨σ9,H9,I9.gQ,q9⟩
  | ret u =>obtain⟨v9,σ9,H9,I9,r9,q9⟩:=hsp;exact⟨v9,σ9,H9,I9.gQ,r9,q9⟩
end
def AQ {K:Zf}{tb:(St->XK)->TS}{CE:Addr}{i:Nat}{th:Addr->TS}{D:Ends}{σ:St}{H:Hp}:BJ K tb CE i th D σ H =
 tb (fun σ' c d H'=>PySem.W.exmOne K c (.ref CE)=some true/\∀ ea H2,H' ea=none->ax H' H2->H2 ea=some (oP ea c d)->th ea (D.un i) (σ'.set i (some (.ref ea))) H2) D σ H:=propext Iff.rfl
def Jy {tb:(St->XK)->TS}{CE:Addr} (h:∀ th',th'=th->BJ K tb CE i th' D σ H):BJ K tb CE i th D σ H:=h th rfl
section
variable {X:Cx}{tg:Expr}
def BB {iter:Expr}{pos:Pos} (hp:PassesOwn (model X.prog X.w) X.A X.env X.xe) (hi:PIH X tg iter wi) (hg:PG X tg g) (hb:PSs X body tb)
  (hs:∀ x,foldedSetIterable iter X.env x=pure x:=by intro _;rfl):PS X (.For tg iter body [] pos) (LF wi g tb):=by
 intro Yp s σ H D I h;refine wpAny_For (thn (hi Yp s σ H _ I h) fun v s1 h1=>thn h1 fun itv s2 h2=>?_) hs;obtain⟨it,fp,tn,J,H2,e,I2,T,st2,f2,W,⟨m0,w0⟩,turn⟩:=h2;subst e
 -- what stays true of the iterator's objects through the loop
 have stat:∀ {H':Hp},(∀ b∈fp,H' b=none)->∀ b∈fp,lR X Yp H' b:=fun hn b hb=>⟨hn b hb,(f2 b hb).2⟩;refine codeAny_forLoop_any (fun n s'=>∃ i σ' H',Inv X Yp σ' H' s'/\tn i s'.heap/\(∀ b∈fp,H' b=none)/\W i n σ' H') ?_ m0 ⟨0,σ,H2,I2,st2,fun b hb=>(f2 b hb).1,w0⟩;rintro n s3 ⟨i,σ3,H3,I3,st3,fr3,w3⟩;rcases turn i n σ3 H3 w3 with ⟨stop,qn⟩ | ⟨go,N,hN,step⟩
 ·refine fo hp (thn (T.done X rfl rfl rfl rfl i Yp s3 σ3 H3 X.xe I3 (stat fr3) st3 stop) fun r s4 ⟨hr,I4⟩=>?_);subst hr;exact jQ ⟨σ3,H3,I4,qn⟩
 ·refine fo hp (thn (T.item X rfl rfl rfl rfl i Yp s3 σ3 H3 X.xe I3 (stat fr3) st3 go) fun r s4 ⟨u,hr,h4⟩=>?_);subst hr;refine fo hp (thn h4 fun _ s5 ⟨x,H5,I5,r5,y5,st5,fr5⟩=>?_);have I5':=I5.pinned (stat fr5) (T.obj _ _ st5);refine fo hp (thn (hg _ s5 σ3 H5 x u _ I5' r5 (step x H5 y5)) fun _ s6 ⟨σ6,H6,I6,q6⟩=>?_);refine fo hp (thn (hb _ s6 σ6 H6 _ I6 q6) fun f s7 q7=>?_);have again:∀ {σ7:St}{H7:Hp},Inv X (Yp++pk fp s5.heap) σ7 H7 s7->N σ7 H7->∃ m,m<n/\∃ i σ' H',Inv X Yp σ' H' s7/\tn i s7.heap/\(∀ b∈fp,H' b=none)/\W i m σ' H':=fun {σ7 H7} I7 n7=>by
   obtain⟨m',hm,w7⟩:=hN σ7 H7 n7;refine⟨m',hm,i+1,σ7,H7,I7.iG,T.keep _ _ _ st5 fun b hb o e=>(I7.pin (b,o) (cA _ (cA _ (fA hb e)))).1,fun b hb=>?_,w7⟩;obtain⟨o,e,d⟩:=T.obj _ _ st5 b hb;exact (I7.pin (b,o) (cA _ (cA _ (fA hb e)))).2.1
  cases f with
  | next=>obtain⟨σ7,H7,I7,n7⟩:=q7;exact again I7 n7
  | cont=>obtain⟨σ7,H7,I7,n7⟩:=q7;exact again I7 n7
  | brk=>obtain⟨σ7,H7,I7,q7⟩:=q7;exact⟨σ7,H7,I7.iG,q7⟩
  | ret v=>obtain⟨x7,σ7,H7,I7,r7,q7⟩:=q7;exact⟨x7,σ7,H7,I7.iG,r7,q7⟩
end
def Fe {lo:Int}{n:Nat}{g:TG}{tb:TS}{D:Ends} (Pv:Nat->St->Hp->Prop) (h0:Pv 0 σ H) (hin:∀ σ H,Pv n σ H->fz hd H)
  (hs:∀ i σ H,i<n->Pv i σ H->∀ N:St->Hp->Prop,(∀ σ' H',Pv (i+1) σ' H'->N σ' H')->g (.int (lo+i)) σ H fun σ2 H2=>tb { D with nx:=N,ct:=N,bk:=D.nx } σ2 H2) (he:∀ σ H,Pv n σ H->D.nx σ H):iB g tb D (BZ hd lo n) σ H:=by
 refine⟨fun i m σ H=>m=n-i/\i<=n/\Pv i σ H,⟨n,by simp,bH _,h0⟩,?_⟩;rintro i m σ H ⟨rfl,hi,p⟩
 by_cases hlt:i<n
 ·refine .inr ⟨hlt,Pv (i+1),fun σ' H' p'=>⟨n-(i+1),by left,rfl,hlt,p'⟩,fun x H' y=>?_⟩;obtain⟨e,y⟩:=y;subst e y;exact hs i σ _ hlt p _ fun _ _ h=>h
 ·have e:i=n:=by left
  subst e;exact .inl ⟨⟨aq _,hin _ _ p⟩,he _ _ p⟩
end
section
end
section
def eh (K:Zf) (x:Str) (st:Stmt):Prop:=∃ f fd,Fun K x x st f fd/\PySem.W.nsIn K mainGlobals x=some (some (.ref f))
def lP (K:Zf) (C:Addr) (m q:Str) (st:Stmt):Prop:=∃ f fd,Fun K m q st f fd/\PySem.W.findIn K (.ref C) m=some (some (.ref f))/\PySem.W.isFn K (.ref f)=true
section
variable {K:Zf}{x m q:Str}{st:Stmt}{f C:Addr}{oc:Value}{od an:Option Addr}{osl:Array (Option Value)}{kV doc pm cdv ct:Value}
def Ie (a:PySem.W.nsIn K mainGlobals x=some (some (.ref f))) (l:K.lookup f=some ⟨oc,od,.func (PySem.W.fnOf x x (cu st) (bW st) (av st) .none kV doc pm an cdv ct),osl⟩) (c:PySem.W.codeIn K cdv x=true) (k:PySem.W.keepIn K (.ref f)=true):eh K x st:=⟨f,_,kq l c k,a⟩
def Ig (a:PySem.W.findIn K (.ref C) m=some (some (.ref f))) (i:PySem.W.isFn K (.ref f)=true) (l:K.lookup f=some ⟨oc,od,.func (PySem.W.fnOf m q (cu st) (bW st) (av st) .none kV doc pm an cdv ct),osl⟩) (c:PySem.W.codeIn K cdv q=true) (k:PySem.W.keepIn K (.ref f)=true):lP K C m q st:=⟨f,_,kq l c k,a,i⟩
end
section
variable {P:Zh}{w:Zi}{K:Zf}{h base:Heap}{mg:Zk}{k:Nat}{x m q:Str}{st:Stmt}{C:Addr}{ps:Ze}{sp:Sp}
def eh.fnc {CX:CXT} (X:K.In h) (G:h.Ns mainGlobals mg) (d:eh K x st) (o:∀ f fd,Fun K x x st f fd->bS P w K mg base CX k f fd ps sp)
  (b:∀ (kV doc pm:Value) (an:Option Addr) (cdv ct:Value) (us:Zc),us.length=ps.length->bindArgs (PySem.W.fnOf x x (cu st) (bW st) (av st) .none kV doc pm an cdv ct) ⟨us,[]⟩=pure (ps.zip us)):Fnc P w K mg base CX k x ps sp:=by
 obtain⟨f,fd,F,a⟩:=d;exact⟨f,fd,o f fd F,cg X G a,F.kp,F.binds b⟩
def lP.mtd (c:Cls K C) (d:lP K C m q st) (o:∀ f fd,Fun K m q st f fd->bS P w K mg base (CX1 P w) k f fd ps sp)
  (b:∀ (kV doc pm:Value) (an:Option Addr) (cdv ct:Value) (us:Zc),us.length=ps.length->bindArgs (PySem.W.fnOf m q (cu st) (bW st) (av st) .none kV doc pm an cdv ct) ⟨us,[]⟩=pure (ps.zip us)):Mtd P w K mg base (CX1 P w) C m k ps sp:=by
 obtain⟨f,fd,F,a,i⟩:=d;exact⟨⟨f,fd,o f fd F,⟨a,i,F.kp⟩,F.binds b⟩,c⟩
end
end
section
def EE (m:Nat):Str.ofString (toString ((m:Nat):Int))=tx (Mk.dgN m):=by rw[←nE (Str.ofString (toString ((m:Nat):Int))),PySem.W.KIN.signs_num];rfl
def vS {i:Int} (h0:0<=i) (h1:i<1000000000):i.natAbs.log2<1920:=by
 by_cases h:i.natAbs=0
 ·rw[h];decide
 ·exact (Nat.log2_lt h).mpr (bE (by left:i.natAbs<2^30) (nX Zd Zd))
def JM:List V->Hp->VK->Prop:=fun vs H Q=>match vs with
 | [.int i]=>0<=i/\i<1000000000/\Q (.str (tx (Mk.dgN i.toNat))) H
 | _=>False
def ET {i:Int}{H:Hp}{Q:VK}:JM [.int i] H Q=(0<=i/\i<1000000000/\Q (.str (tx (Mk.dgN i.toNat))) H):=propext Iff.rfl
def CA :cS X (.type "str") JM:=by
 intro Yp s σ H xs us Q I r h
 match xs,h with
 | [.int i],h =>obtain⟨h0,h1,q⟩:=h;obtain⟨u,rfl,ru⟩:=vals1 r;obtain⟨t,rfl⟩:=ru;refine PySem.P.str_of_int (vS h0 h1) ?_;obtain⟨m,rfl⟩:=jI h0;rw[EE];exact⟨.str _,H,I.tok _,⟨_,rfl⟩,q⟩
def JD:List V->Hp->VK->Prop:=fun vs H Q=>match vs with
 | [.str z]=>∃ m:Nat,z=tx (Mk.dgN m)/\m<1000000000/\Q (.int m) H
 | _=>False
def EO {z:Str}{H:Hp}{Q:VK}:JD [.str z] H Q=(∃ m:Nat,z=tx (Mk.dgN m)/\m<1000000000/\Q (.int m) H):=propext Iff.rfl
def Cr :cS X (.type "int") JD:=by
 intro Yp s σ H xs us Q I r h
 match xs,h with
 | [.str z],h =>obtain⟨m,rfl,h1,q⟩:=h;obtain⟨u,rfl,ru⟩:=vals1 r;obtain⟨t,rfl⟩:=ru;rw[←EE];exact PySem.W.KIN.call_num (by left) (by left) ⟨.int m,H,I.tok _,⟨_,rfl⟩,q⟩
abbrev TF:=St->Hp->Za->VK->Prop
def rFV (v:V) (acc:Za) (k:Za->Prop):Prop:=match v with
 | .str z=>(acc++z.cps.toList).length<=100000/\k (acc++z.cps.toList)
 | .int i=>0<=i/\i<1000000000/\(acc++Mk.dgN i.toNat).length<=100000/\k (acc++Mk.dgN i.toNat)
 | _=>False
def Il {z:Str}{acc:Za}{k:Za->Prop}:rFV (.str z) acc k=((acc++z.cps.toList).length<=100000/\k (acc++z.cps.toList)):=propext Iff.rfl
def Im {i:Int}{acc:Za}{k:Za->Prop}:rFV (.int i) acc k=(0<=i/\i<1000000000/\(acc++Mk.dgN i.toNat).length<=100000/\k (acc++Mk.dgN i.toNat)):=propext Iff.rfl
def tF0:TF:=fun _ H acc Q=>Q (.str (tx acc)) H
def tFc (lit:Str) (t:TF):TF:=fun σ H acc Q=>(acc++lit.cps.toList).length<=100000/\t σ H (acc++lit.cps.toList) Q
def tFv (te:TE) (t:TF):TF:=fun σ H acc Q=>te σ H fun v H1=>rFV v acc fun acc'=>t σ H1 acc' Q
def tFN (t:TF):TE:=fun σ H Q=>t σ H [] Q
def LU {σ:St}{H:Hp}{acc:Za}{Q:VK}:tF0 σ H acc Q=Q (.str (tx acc)) H:=propext Iff.rfl
def LW {lit:Str}{t:TF}{σ:St}{H:Hp}{acc:Za}{Q:VK}:tFc lit t σ H acc Q=((acc++lit.cps.toList).length<=100000/\t σ H (acc++lit.cps.toList) Q):=propext Iff.rfl
def LX {te:TE}{t:TF}{σ:St}{H:Hp}{acc:Za}{Q:VK}:tFv te t σ H acc Q=te σ H fun v H1=>rFV v acc fun acc'=>t σ H1 acc' Q:=propext Iff.rfl
def LV {t:TF}{σ:St}{H:Hp}{Q:VK}:tFN t σ H Q=t σ H [] Q:=propext Iff.rfl
section
variable {X:Cx}
def PF (X:Cx) (parts:List Expr) (t:TF):Prop:=∀ Yp s σ H acc Q,Inv X Yp σ H s->acc.length<=100000->t σ H acc Q->wpAny (model X.prog X.w) X.A (joinParts (tx acc) (evalEach parts X.env)) (EP X Yp σ Q) X.xe s
def fits {acc:Za} (h:acc.length<=100000):(tx acc).length<=sizeLine:=by rw[bM,fN];left
def MT (acc:Za) (z:Str):tx acc++z=tx (acc++z.cps.toList):=by rw[←nD,nE]
def Ao:PF X [] tF0:=fun Yp s σ H acc Q I hl h=>PyProof.Rows.joinParts_nil ⟨.str _,H,I.tok _,⟨_,rfl⟩,h⟩ (fits hl)
def rY {lit:Str}{k:Nat}{p:Pos}{t:TF} (h:PF X es t):PF X (.Constant (.str lit) k p::es) (tFc lit t):=by intro Yp s σ H acc Q I hl q;refine PyProof.Rows.joinParts_consE (PyProof.Rows.joinParts_cons (Calls.Constant_str ?_));show (tx acc++lit).length<=sizeLine/\wpAny _ _ (joinParts (tx acc++lit) _) _ _ _;rw[MT];exact⟨fits q.1,h Yp _ σ H _ Q (I.tok _) q.1 q.2⟩
def pj {p:Pos}{t:TF} (he:PE X e te) (h:PF X es t):PF X (.FormattedValue e (-1) none p::es) (tFv te t):=by
 intro Yp s σ H acc Q I hl q;refine PyProof.Rows.joinParts_consE (PyProof.Rows.joinParts_cons (PyProof.Rows.FormattedValue_plain (thn (he Yp _ σ H _ I q) fun u s1 ⟨x,H1,I1,rx,q1⟩=>?_)))
 replace q1:rFV x acc fun acc'=>t σ H1 acc' Q:=q1
 unfold rFV at q1;split at q1;next z =>
  obtain⟨l1,q2⟩:=q1;obtain⟨tk,rfl⟩:=(show ∃ t,u=Value.str z t from rx);have hz:z.length<=sizeLine:=by
   have:z.cps.toList.length=z.length:=by show _=z.cps.size;simp
   rw[aK] at l1;rw[fN];left
  refine PyProof.Rows.formatField_str (fun t' tk=>?_) hz;show (tx acc++z).length<=sizeLine/\wpAny _ _ (joinParts (tx acc++z) _) _ _ _;rw[MT];exact⟨fits l1,h Yp _ σ H1 _ Q (I1.tok _) l1 q2⟩
 next i =>obtain⟨h0,h1,l1,q2⟩:=q1;obtain⟨tk,rfl⟩:=(show ∃ t,u=Value.int i t from rx);refine PyProof.Rows.formatField_int_small (vS h0 h1) ?_;obtain⟨m,rfl⟩:=jI h0;rw[EE];show (tx acc++tx (Mk.dgN m)).length<=sizeLine/\wpAny _ _ (joinParts (tx acc++tx (Mk.dgN m)) _) _ _ _;rw[nD];exact⟨fits l1,h Yp _ σ H1 _ Q (I1.tok _) l1 q2⟩
 next=>exact q1.elim
def Gi {a b:Expr}{t:TF} (h:PF X (a::b::es) t):PE X (.JoinedStr (a::b::es) pos) (tFN t) :=
 fun Yp s σ H Q I q=>PyProof.Rows.JoinedStr_many (h Yp s σ H [] Q I (bH _) q)
def Jh {t:TS} (hb:∀ pn:Zp,PSs { X with pn:=pn,xe:=fun _ _=>False } body t):PS X (.Try body (h₀::hs) [] [] pos) t:=by
 intro Yp s σ H D I h;refine wpAny_Try_except ?_;refine bB (hb (X.pn++Yp) [] s σ H D I.Lz h) ?_ (fun e s1 he=>he.elim);intro f s1 z;cases f with
 | next =>obtain⟨σ',H',I',q⟩:=z;exact a8 ⟨σ',H',I'.gQ,q⟩
 | brk=>obtain⟨σ',H',I',q⟩:=z;exact⟨σ',H',I'.gQ,q⟩
 | cont=>obtain⟨σ',H',I',q⟩:=z;exact⟨σ',H',I'.gQ,q⟩
 | ret u=>obtain⟨v,σ',H',I',r,q⟩:=z;exact⟨v,σ',H',I'.gQ,r,q⟩
end
def subAt_one (l:Za) (c i:Nat):Builtin.Str.subAt (tx l) (tx [c]) i=decide (l[i]?=some c):=by
 unfold Builtin.Str.subAt;show (l.toArray.extract i (i+1)==#[c])=_;rw[mz,fL,cj];constructor
 ·intro h;have:=aV Array.toList h;simp only[Array.toList_extract,List.extract_eq_take_drop] at this;rw[show i+1-i=1 by left] at this;cases e:l.drop i with
  | nil=>rw[e] at this;simp at this
  | cons x r =>
   rw[e] at this;have e2:l[i]?=some x:=by
    have:=aV (fun l=>l[0]?) e
    simpa using this
   simp at this;rw[e2,this]
 ·intro h;apply Array.ext';simp only[Array.toList_extract,List.extract_eq_take_drop];rw[show i+1-i=1 by left];obtain⟨hi,e⟩:=bN.mp h;rw[nL hi,e];rfl
theorem wX (l:Za) (c n:Nat):∀ (suf:Za) (i:Nat) (acc:Za) (free:Nat),free<=i->l.drop i=suf →
  (forIn (List.range' i (suf.length+1)) (acc.toArray,free) (StrLaws.occBody (tx l) (tx [c]) l.length n)).run.fst.toList=acc++(Mk.qx c i suf).take (n-acc.length)
 | [],i,acc,free,hf,hd=>by
  have hl:l.length<=i:=by simpa using hd
  rw[show List.range' i (([]:Za).length+1)=[i] from rfl,List.forIn_cons];unfold StrLaws.occBody;have:¬ ((((acc.toArray,free).fst.size<n/\(acc.toArray,free).snd<=i)/\i+(tx [c]).length<=l.length)/\Builtin.Str.subAt (tx l) (tx [c]) i=true):=fun h=>by have h2:i+1<=l.length:=h.1.2;left
  rw[af this];simp [Mk.qx]
 | x::suf,i,acc,free,hf,hd=>by
  have hi:i<l.length:=by have:=aV List.length hd;simp at this;left
  have hx:l[i]?=some x:=by
   have:=aV (fun l=>l[0]?) hd
   simpa using this
  have hd':l.drop (i+1)=suf:=by
   have:=aV List.tail hd
   simpa using this
  rw[show List.range' i ((x::suf).length+1)=i::List.range' (i+1) (suf.length+1) from rfl,List.forIn_cons];unfold StrLaws.occBody;rw[subAt_one,hx]
  by_cases h:acc.length<n/\x=c
  ·have c1:(((acc.toArray,free).fst.size<n/\(acc.toArray,free).snd<=i)/\i+(tx [c]).length<=l.length)/\decide (some x=some c)=true:=⟨⟨⟨by simpa using h.1,hf⟩,hi⟩,by rw[h.2];simp⟩;rw[ai c1];have ih:=wX l c n suf (i+1) (acc++[i]) (i+1) (aq _) hd';have e:(acc++[i]).toArray=acc.toArray.push i:=by simp
   rw[e] at ih;refine Eq.trans ih ?_;rw[Mk.qx,ai h.2,aK,nK];obtain⟨m,hm⟩:∃ m,n-acc.length=m+1:=⟨n-acc.length-1,by left⟩;rw[hm,qZ,show n-(acc.length+[i].length)=m by simp;left];rfl
  ·have c2:¬ ((((acc.toArray,free).fst.size<n/\(acc.toArray,free).snd<=i)/\i+(tx [c]).length<=l.length)/\decide (some x=some c)=true):=fun q=>h ⟨by simpa using q.1.1.1,by simpa using q.2⟩;rw[af c2];have ih:=wX l c n suf (i+1) acc free (by left) hd';refine Eq.trans ih ?_;rw[Mk.qx]
   by_cases hx2:x=c
   ·have:n-acc.length=0:=by
     rcases Nat.lt_or_ge acc.length n with z | z
     ·exact absurd ⟨z,hx2⟩ h
     ·left
    rw[this,jN,jN]
   ·rw[af hx2]
def Bs (l:Za) (c n:Nat):Builtin.Str.occurrences (tx l) (tx [c]) 0 (tx l).length n=(Mk.qx c 0 l).take n:=by
 rw[StrLaws.occ_eq,bM];have:=wX l c n l 0 [] 0 (aq _) rfl
 simpa using this
theorem vX (l:Za):∀ (cuts:Za) (i:Nat),((i::cuts.map (·+1)).zip (cuts++[l.length])).map (fun (a,b)=>Builtin.Str.strSub (tx l) a b)=(Mk.zu l i cuts).map tx
 | [],i=>by
  show [Builtin.Str.strSub (tx l) i l.length]=[tx (l.drop i)]
  congr 1
  unfold Builtin.Str.strSub tx
  congr 1
  apply Array.ext';simp;exact di (by simp)
 | q::qs,i=>by
  have ih:=vX l qs (q+1);show Builtin.Str.strSub (tx l) i q::_=tx ((l.drop i).take (q-i))::(Mk.zu l (q+1) qs).map tx;rw[←ih]
  congr 1
  unfold Builtin.Str.strSub tx
  congr 1
  apply Array.ext';simp
def yN (l:Za) (c n:Nat):Builtin.Str.partsBetween (tx l) (Builtin.Str.occurrences (tx l) (tx [c]) 0 (tx l).length n) 1=(Mk.dB c n [] l).map tx:=by
 rw[Bs];unfold Builtin.Str.partsBetween;rw[bM,vX]
 congr 1
 exact Mk.zv l n l [] [] rfl
def BH:V->List V->Hp->VK->Prop:=fun x vs H Q=>match x,vs with
 | .str z,[.str y,.int k]=>z.length<=100000/\1<=k/\k<=1000/\∃ c,y=tx [c]/\nw H (.lst ((Mk.dB c k.toNat [] z.cps.toList).map fun w=>.str (tx w))) Q
 | _,_=>False
def zO {z y:Str}{k:Int}{H:Hp}{Q:VK}:BH (.str z) [.str y,.int k] H Q=(z.length<=100000/\1<=k/\k<=1000/\∃ c,y=tx [c]/\nw H (.lst ((Mk.dB c k.toNat [] z.cps.toList).map fun w=>.str (tx w))) Q):=propext Iff.rfl
def F8 {c:Nat}{l:Za} (hc:c∈l) (h:Builtin.Str.strKind (tx l)<Builtin.Str.strKind (tx [c])):False:=by
 unfold Builtin.Str.strKind at h;have e1:(tx [c]).cps.all (·<256)=decide (c<256):=by simp [tx]
 have e2:(tx [c]).cps.all (·<65536)=decide (c<65536):=by simp [tx]
 have f1:(tx l).cps.all (·<256)=true->c<256:=fun h=>by simp [tx] at h;exact h c hc
 have f2:(tx l).cps.all (·<65536)=true->c<65536:=fun h=>by simp [tx] at h;exact h c hc
 rw[e1,e2] at h;generalize (tx l).cps.all (·<256)=p at h f1;generalize (tx l).cps.all (·<65536)=q at h f2;cases p<;>cases q<;>by_cases h1:c<256<;>by_cases h2:c<65536<;>simp [h1,h2] at h f1 f2
def zb {prog:Zh}{w:Zi}{A:Around}{E:Zq}{s:Zg}{l:Za}{c:Nat}{k:Int}{t u v:Tok}{Q:Zq} (hsz:l.length<=100000) (hk:1<=k/\k<=1000)
  (h:∀ (ps:List (Str×Tok)) (m:Nat),ps.map (fun p=>p.1)=(Mk.dB c k.toNat [] l).map tx->ps.length<=1001->Q (.ref s.heap.objs.size) { s with heap:=s.heap.push { cls:=.type "list",data:=.seq (strValues ps).toArray },toks:=m }) :
  wpAny (model prog w) A (call (.builtin "str.split") [.str (tx l) t,.str (tx [c]) u,.int k v]) Q E s:=by
 have hk2:(decide (k < -(2^63:Int))||decide (k≥2^63))=false:=by rw[Bool.or_eq_false_iff,decide_eq_false_iff_not,decide_eq_false_iff_not];left
 have hlim:limitOf (tx l) k=k.toNat:=af (by left);have hp:=yN l c k.toNat
 have lo:=StrLaws.occ_length_le (tx l) (tx [c]) 0 (tx l).length k.toNat
 have key:(occs:c∉l)->(Mk.dB c k.toNat [] l).map tx=[tx l]:=fun occs=>by rw[Mk.nB _ _ _ occs];rfl
 obtain⟨raising,tree⟩:=split_sep_max_tree (tx l) (tx [c]) k t u v hk2;have one:c∉l->∀ m,Q (.ref s.heap.objs.size) { s with heap:=s.heap.push { cls:=.type "list",data:=.seq #[.str (tx l) t] },toks:=m }:=fun hc m=>h [(tx l,t)] m (by rw[key hc];rfl) (by show 1<=1001;decide);cases h1:(decide ((tx l).length<(tx [c]).length)||decide (Builtin.Str.strKind (tx l)<Builtin.Str.strKind (tx [c]))) with
 | true =>
  have hc:c∉l:=fun hc=>by
   rw[Bool.or_eq_true,cj,cj,bM,bM] at h1;have:=List.length_pos_of_mem hc;rcases h1 with h1 | h1
   ·simp at h1;rw[h1] at hc;cases hc
   ·exact F8 hc h1
  refine ia kZ (hX s (tx l) t) oM ?_ (F.args_str_split_3 _ _ _);rw[tree,h1,ai rfl];exact ag (wpAny_rule (ag (wpAny_newList (a8 ⟨_,rfl,one hc s.toks⟩) (by show 1<=sizeLine;decide))))
 | false =>
  cases hf:(Builtin.Str.occurrences (tx l) (tx [c]) 0 (tx l).length (limitOf (tx l) k)).isEmpty with
  | true =>
   have hc:c∉l:=by
    rw[hlim,Bs,List.isEmpty_iff] at hf;refine Mk.yS 0 l ?_;obtain⟨m,hm⟩:∃ m,k.toNat=m+1:=⟨k.toNat-1,by left⟩;rw[hm] at hf;cases e:Mk.qx c 0 l with
    | nil=>rfl
    | cons a b=>rw[e,qZ] at hf;cases hf
   refine ia kZ (hX s (tx l) t) oM ?_ (F.args_str_split_3 _ _ _);rw[tree,h1,af (by decide),af (by rw[bM];simp),hf,ai (by rfl)];exact ag (wpAny_rule (ag (wpAny_newList (a8 ⟨_,rfl,one hc s.toks⟩) (by show 1<=sizeLine;decide))))
  | false =>
   have hp':Builtin.Str.partsBetween (tx l) (Builtin.Str.occurrences (tx l) (tx [c]) 0 (tx l).length (limitOf (tx l) k)) 1=(Mk.dB c k.toNat [] l).map tx:=by rw[hlim];exact hp
   rw[←hlim] at lo;have l2:(Builtin.Str.partsBetween (tx l) (Builtin.Str.occurrences (tx l) (tx [c]) 0 (tx l).length (limitOf (tx l) k)) 1).length<=1001:=by unfold Builtin.Str.partsBetween;rw[ak,List.length_zip,aN,ak];rw[hlim] at lo ⊢;left
   refine iO kZ (hX s (tx l) t) oM (F.args_str_split_3 _ _ _) (meets_str_split_sep_max (tx l) (tx [c]) k t u v hk2 h1 (by rw[bM];rfl) hf (by rw[bM,fN];left) (by rw[fN];exact bQ l2 Zd)) ?_;show Q _ _;rw[strsFrom_eq];refine h _ _ ((numbered_texts _ _).trans hp') ?_;have:=aV List.length (numbered_texts s.toks (Builtin.Str.partsBetween (tx l) (Builtin.Str.occurrences (tx l) (tx [c]) 0 (tx l).length (limitOf (tx l) k)) 1));rw[ak] at this;rw[show (tx [c]).length=1 from rfl,this];exact l2
def Dz :MtM X "str.split" BH:=by
 intro Yp s σ H x vs v us Q I rx rv h
 match x,vs,h with
 | .str z,[.str y,.int k],h =>
  obtain⟨hz,k1,k2,c,rfl,q⟩:=h;obtain⟨t,rfl⟩:=rx;obtain⟨u1,u2,rfl,r1,r2⟩:=rv.two;obtain⟨t2,rfl⟩:=r1;obtain⟨t3,rfl⟩:=r2;have hl:z.cps.toList.length<=100000:=by rw[show z.cps.toList.length=z.length from by show _=z.cps.size;simp];exact hz
  have:=zb (prog:=X.prog) (w:=X.w) (A:=X.A) (E:=X.xe) (s:=s) (c:=c) (t:=t) (u:=t2) (v:=t3) (Q:=EP X Yp σ Q) hl ⟨k1,k2⟩ fun ps m e lp=>?_
  ·rw[nE] at this;exact this
  have r:=sD ps;rw[e,aX] at r;refine⟨.ref s.heap.objs.size,_,I.laid (t':=m) (o:=.lst ((Mk.dB c k.toNat [] z.cps.toList).map fun w=>.str (tx w))) (fun b ob q=>aL _ q) (aq _) ⟨?_,_,0,r,bj _ rfl⟩,rfl,q.go _ (I.hok.fresh (aq _))⟩;have:=aV List.length e;rw[ak,ak] at this;rw[ak,←this,fN];exact bQ lp Zd
end
section
structure uc (P:Zh) (w:Zi) (K:Zf) (mg:Zk) (base:Heap) (CX:CXT) (C:Addr) (m:Str) (d n:Nat) (ps:Ze) (spA:Sp->Sp):Prop where
 ex:∃ (f:Addr) (fd:FuncData),(∀ k,xP P w K mg base CX (k+d) f fd ps (Jv P w K mg base k n spA))/\Meth K C m f/\Binds K fd ps []
 cl:Cls K C
def Fun.okH {P:Zh}{w:Zi}{mg:Zk}{base:Heap}{x qual:Str}{N ps:Ze}{j k n:Nat} (F:Fun K x qual st f fd) (S:aI N ps (av st)) (len:∀ spf vs H Q E,spA spf vs H Q E->vs.length=ps.length)
  (hbody:∀ (cdv:Value) (A:Around) (outer:List Env) (s:Zg) (H:Hp) (vs:List V) (Q:VK) (E:XK),dw j (A.deeper (envOfC qual (av st) s.heap.objs.size f cdv))->∀ (lf:Addr) (spf:Sp),vs.getLast?=some (.ref lf)->iZ H lf->lT P w K mg base k n lf spf s H->spA spf vs H Q E →
   ∃ t,PSs (rK (CX1 P w) P w K mg base N qual (av st) f cdv A outer s H E) (bW st) t/\t { nx:=fun _ H'=>Q .non H',rt:=Q } (start N vs) H):xP P w K mg base (CX1 P w) (j+1) f fd ps (Jv P w K mg base k n spA):=by
 obtain⟨oc,od,kV,doc,pm,an,cdv,ct,osl,rfl,lk,hcd⟩:=F.ex;exact K5 lk hcd S (fun s vs H Q E ⟨_,_,_,_,_,h⟩=>len _ _ _ _ _ h) fun A outer s H vs Q E hr ⟨lf,spf,h1,h2,h3,h4⟩=>hbody cdv A outer s H vs Q E hr lf spf h1 h2 h3 h4
def BQ (C:Addr) (m:Str) (spA:Sp->Sp) (q:Str) (Pt:Addr) (js:Za) (te:TE) (E:St->XK) (ta t1 t2:TE):TE:=fun σ H Q=>ta σ H fun x H0=>mf C m x H0 fun H0=>t1 σ H0 fun y H1=>t2 σ H1 fun z H2=>H2 Pt=some (jG q)/\∀ f H',H2 f=none->ax H2 H'->iZ H' f->spA (fun vs H Q _=>te (vs.map some++xT js σ) H Q) [x,y,z,.ref f] H' Q (E σ)
def Cd {C:Addr}{m:Str}{spA:Sp->Sp}{q:Str}{Pt:Addr}{js:Za}{te:TE}{E:St->XK}{ta t1 t2:TE}{σ:St}{H:Hp}{Q:VK}:BQ C m spA q Pt js te E ta t1 t2 σ H Q=ta σ H fun x H0=>mf C m x H0 fun H0=>t1 σ H0 fun y H1=>t2 σ H1 fun z H2=>H2 Pt=some (jG q)/\∀ f H',H2 f=none->ax H2 H'->iZ H' f->spA (fun vs H Q _=>te (vs.map some++xT js σ) H Q) [x,y,z,.ref f] H' Q (E σ):=propext Iff.rfl
def BR (C:Addr) (m:Str) (spA:Sp->Sp) (lf:Addr) (spf:Sp) (E:St->XK) (ta tv:TE):TE:=fun σ H Q=>ta σ H fun x H0=>mf C m x H0 fun H0=>tv σ H0 fun y H1=>y=.ref lf/\iZ H1 lf/\spA spf [x,.ref lf] H1 Q (E σ)
def Ce {C:Addr}{m:Str}{spA:Sp->Sp}{lf:Addr}{spf:Sp}{E:St->XK}{ta tv:TE}{σ:St}{H:Hp}{Q:VK}:BR C m spA lf spf E ta tv σ H Q=ta σ H fun x H0=>mf C m x H0 fun H0=>tv σ H0 fun y H1=>y=.ref lf/\iZ H1 lf/\spA spf [x,.ref lf] H1 Q (E σ):=propext Iff.rfl
section
variable {X:Cx}
def vY {pl:Sem Bool}{E:St->XK}{k d n:Nat}{C:Addr}{m q:Str}{gps ps fr:Ze}{js:Za}{spA:Sp->Sp}{o e1 e2:Expr}{ta t1 t2 te:TE}{apos pos lpos:Pos}{params:Arguments}{body:Expr}{scope:Scope}{cl:List (Str×Addr)}{c Pt:Addr}
  (M:uc X.prog X.w X.K X.mg X.base (CX1 X.prog X.w) C m d n gps spA) (hn:ps.length=n) (hg4:gps.length=4) (hx:Passes (CX1 X.prog X.w) X E) (hr:dw (k+1+d) X.A) (he:PE X o ta) (h1:PE X e1 t1) (h2:PE X e2 t2)
  (hcd:X.env.code=.ref c) (hC:PySem.W.codeHdIn X.K c Pt=true) (hq:X.env.qual++"<lambda>"=q) (hcl:clo X.env.cells scope.names []=some cl) (hcap:Hw X scope fr js)
  (hbind:∀ (pm ctv:Value) (c':Addr) (us:Zc),us.length=ps.length->bindArgs (PySem.W.kla_fn "<lambda>" q params body scope cl pm (.ref c') ctv) ⟨us,[]⟩=pure (ps.zip us))
  (hbody:∀ (f c':Addr) (A:Around) (outer:List Env) (s:Zg) (H:Hp),dw k (A.deeper (PySem.W.envX q scope s.heap.objs.size f (.ref c') cl))->PE (AV X.prog X.w X.K X.mg X.base (ps++fr) q scope f (.ref c') cl A outer s H) body te)
  (hps:∀ y∈ps,scope.names.lookup y=some .local) (hnd:ps.Nodup)
  (hd:defaultsOf params X.env=([],[]):=by rfl)
  (hco:scope.isCoroutine=false:=by rfl) (hgen:scope.isGenerator=false:=by rfl) (hk:scope.kind=.function:=by rfl) (hcell:∀ y∈scope.names,y.2≠.cell:=by nofun)
  (hs:dO [e1,e2,.Lambda params body scope lpos]=true:=by ext)
  (ht:eval (.Call (.Attribute o m apos) [e1,e2,.Lambda params body scope lpos] [] pos) X.env=(do
   let ov ←eval o X.env
   standAt apos.atName
   let (f,first) ←holding [ov] (getMethod ov m pl)
   callWith pos f first (backTo pos (starEach [e1,e2,.Lambda params body scope lpos] X.env)) (backToKw pos (keywordEach [] X.env))):=by rfl) :
  PE X (.Call (.Attribute o m apos) [e1,e2,.Lambda params body scope lpos] [] pos) (BQ C m spA q Pt js te E ta t1 t2):=by
 obtain⟨g,fd,F,hm,hb⟩:=M.ex;have s1:=bg hs;have s2:=bg s1.2;have s3:=bg s2.2;intro Yp s σ H Q I h;refine oo (pl:=pl) (thn (he Yp s σ H _ I h) fun u s0 ⟨x,H0,I0,rx,q0⟩=>?_) ht;cases x<;>try exact q0.elim
 next a =>
 obtain⟨dx,fs,ea,l,q1⟩:=q0;obtain rfl:u=Value.ref a:=rx;refine jx I0 ea M.cl hm l ?_;refine oj (first:=[.ref a]) (h₀:=X.base) I.ok.mod.kin hm.kp ?_ (aW s1.1) (cY s1.2);rw[aW s1.1,aW s2.1,aW s3.1];refine oK (thn (h1 Yp s0 σ H0 _ I0 q1) fun u1 sa ⟨x1,Ha,Ia,ra,qa⟩=>?_);refine oK (thn (h2 Yp sa σ Ha _ Ia qa) fun u2 sb ⟨x2,Hb,Ib,rb,hP,qb⟩=>?_);refine oK (Ds Ib hP hcd hC hq hd hcl fun f c' ctv H' s' I' sm hn' hf hc=>?_);refine Calls.spliced_nil ⟨I'.kIn,?_⟩;have la:iZ H' f:=⟨_,_,_,_,_,_,_,_,_,hf⟩;have st:=FC (k:=k) I' hf hc hcl (hbind _ _ _) hco hgen hk hcell hps hnd hcap (fun A outer s H hr=>hbody f c' A outer s H hr);rw[hn] at st;have r:Vals [.ref a,x1,x2,.ref f] [.ref a,u1,u2,.ref f]:=.cons rfl (.cons ra (.cons rb (.cons rfl .nil)));refine hZ (gk ((F (k+1)).run X.A X.stack s' H' ⟨[.ref a,u1,u2,.ref f],[]⟩ [.ref a,u1,u2,.ref f] [.ref a,x1,x2,.ref f] Q (E σ) hr I'.CL (by have:=hb s' [.ref a,u1,u2,.ref f] I'.kIn (by rw[hg4];rfl);simpa using this) r ⟨f,_,rfl,la,st,qb f H' hn' sm la⟩) fun r s'' hq=>?_);cases r with
 | error e=>exact hx Yp σ H' s' e s'' I' hq
 | ok fl =>
  cases fl with
  | ret u=>exact I'.after hq
  | next=>exact False.elim hq
  | brk=>exact False.elim hq
  | cont=>exact False.elim hq
def DI {pl:Sem Bool}{E:St->XK}{k d n:Nat}{C lf:Addr}{m:Str}{gps:Ze}{spA:Sp->Sp}{spf:Sp}{o ev:Expr}{ta tv:TE}{apos pos:Pos}
  (M:uc X.prog X.w X.K X.mg X.base (CX1 X.prog X.w) C m d n gps spA) (S:lT X.prog X.w X.K X.mg X.base k n lf spf X.s₀ X.H₀) (hex:X.ex=[]) (hg2:gps.length=2) (hx:Passes (CX1 X.prog X.w) X E) (hr:dw (k+d) X.A) (he:PE X o ta) (hv:PE X ev tv)
  (hs:dO [ev]=true:=by ext)
  (ht:eval (.Call (.Attribute o m apos) [ev] [] pos) X.env=(do
   let ov ←eval o X.env
   standAt apos.atName
   let (f,first) ←holding [ov] (getMethod ov m pl)
   callWith pos f first (backTo pos (starEach [ev] X.env)) (backToKw pos (keywordEach [] X.env))):=by rfl) :
  PE X (.Call (.Attribute o m apos) [ev] [] pos) (BR C m spA lf spf E ta tv):=by
 obtain⟨g,fd,F,hm,hb⟩:=M.ex;have s1:=bg hs;intro Yp s σ H Q I h;refine oo (pl:=pl) (thn (he Yp s σ H _ I h) fun u s0 ⟨x,H0,I0,rx,q0⟩=>?_) ht;cases x<;>try exact q0.elim
 next a =>
 obtain⟨dx,fs,ea,l,q1⟩:=q0;obtain rfl:u=Value.ref a:=rx;refine jx I0 ea M.cl hm l ?_;refine oj (first:=[.ref a]) (h₀:=X.base) I.ok.mod.kin hm.kp ?_ (aW s1.1) (cY s1.2);rw[aW s1.1];refine oK (thn (hv Yp s0 σ H0 _ I0 q1) fun u1 s' ⟨x1,H',I',ra,e1,la,qa⟩=>?_);refine Calls.spliced_nil ⟨I'.kIn,?_⟩;subst e1;obtain rfl:u1=Value.ref lf:=ra;have ub:=I'.base;rw[hex] at ub;have st:=S.later (s₁:=s') ⟨_,ub⟩;have r:Vals [.ref a,.ref lf] [.ref a,.ref lf]:=.cons rfl (.cons rfl .nil);refine hZ (gk ((F k).run X.A X.stack s' H' ⟨[.ref a,.ref lf],[]⟩ [.ref a,.ref lf] [.ref a,.ref lf] Q (E σ) hr I'.CL (by have:=hb s' [.ref a,.ref lf] I'.kIn (by rw[hg2];rfl);simpa using this) r ⟨lf,_,rfl,la,st,qa⟩) fun r s'' hq=>?_);cases r with
 | error e=>exact hx Yp σ H' s' e s'' I' hq
 | ok fl =>
  cases fl with
  | ret u=>exact I'.after hq
  | next=>exact False.elim hq
  | brk=>exact False.elim hq
  | cont=>exact False.elim hq
end
end
section
def tH (P:Zh) (w:Zi) (a:Addr) (kvs:List (Key×V)) (D:Obj):Prop :=
 kvs.length<=sizeLine/\(a==sysModules)=false/\∃ vs,KV kvs vs/\∃ es ep,D.ExactDict/\D.data=.dict es ep/\KeysOf (bu P w) es/\Pairs (bu P w) es.toList vs/\(vs.map (·.1)).Nodup
def tH.ok {D:Obj} (r:tH P w a kvs D) (g:h.get? a=some D):bT P w H h a (.dK kvs):=by obtain⟨z,hs,vs,rel,es,ep,e2,e3,e4,e5,e6⟩:=r;exact⟨z,hs,vs,rel,D,es,ep,g,e2,e3,e4,e5,e6⟩
def tH.dict {D:Obj} (r:tH P w a kvs D) (g:h.get? a=some D):∃ vs,KV kvs vs/\h.DictOf (bu P w) a vs:=by obtain⟨z,hs,vs,rel,es,ep,e2,e3,e4,e5,e6⟩:=r;exact⟨vs,rel,D,es,ep,g,e2,e3,e4,e5,e6⟩
def Ith (a:Addr) (D:Obj) (kvs:List (Key×V)):It :=
 ⟨fun i H=>i<kvs.length/\H a=some (jV a D),fun i H v H'=>(∃ k x,kvs[i]?=some (k,x)/\v=kV k)/\H'=H,fun i H=>kvs.length<=i/\H a=some (jV a D)⟩
def DQ {D:Obj} (h:H1 a=some (jV a D)):(Ith a D kvs).Seq H1 (kvs.map fun kv=>kV kv.1):=fun H s =>⟨fun i x e=>by rw[bt] at e;obtain⟨⟨k,v⟩,hk,e2⟩:=gi.mp e;have e2':kV k=x:=e2;refine⟨⟨(bN.mp hk).1,s _ _ h⟩,fun y H' z=>?_⟩;obtain⟨⟨k',v',h1,h2⟩,h3⟩:=z;rw[hk] at h1;cases h1;exact⟨h3,h2.trans e2'⟩,fun i hi=>⟨by rw[ak] at hi;exact hi,s _ _ h⟩⟩
def qe {D:Obj} (I:Inv X Yp σ H s) (h:H a=some (jV a D)):s.heap.get? a=some D:=(show bT X.prog X.w H s.heap a (jV a D) from I.hok a _ h).1
def AG {K:Zf}{tg:Expr} (D:Obj) (a it:Addr) (kvs:List (Key×V)) (es:Array DictEntry) (ep:Nat) (kr:tH P w a kvs D) (hd:D.data=.dict es ep) (hz:es.size=kvs.length) :
  Turn P w K tg (Ith a D kvs) [it] it (fun i h=>h.IsKeyIter it a i es.size ep) where
 mem:=by simp
 obj:=fun i h st b hb=>by
  obtain rfl:b=it:=by simpa using hb
  obtain⟨o,e1,e2,e3⟩:=st;exact⟨o,e1,fun v z=>by rw[e3] at z;cases z⟩
 keep:=fun i h h' st k=>by obtain⟨o,e1,e2,e3⟩:=st;exact⟨o,k it (by simp) o e1,e2,e3⟩
 item:=by
  intro X hP hw hK hc i Yp s σ H E I hf st hg;subst hP hw hK;obtain⟨hi,hH⟩:=hg;have g1:=qe I hH;obtain⟨z,hs,vs,r,es',ep',f2,f3,f4,f5,f6⟩:=id kr;rw[hd] at f3
  injection f3 with e1 e2
  subst e1;obtain⟨⟨k1,x⟩,hk⟩:∃ p,kvs[i]?=some p:=⟨_,b9 hi⟩;obtain⟨⟨k2,u⟩,hu,hke,ru⟩:∃ q:Key×Value,vs[i]?=some q/\k1=q.1/\RelV x q.2:=by obtain⟨q,h1,h2⟩:=FA r hk;exact⟨q,h1,h2.1,h2.2⟩
  have hke:k1=k2:=hke;subst hke;have hi':i<es.size:=by left
  have ek:mK k1 (es[i]'hi').key=true:=(f5.get? (e:=es[i]'hi') (by simp [hi']) hu).1;refine GJ (es:=es) st g1 hd hi' fun h' st' sb=>⟨_,rfl,?_⟩;obtain⟨o',q1,q2,q3⟩:=id st';refine uv (s:={ s with heap:=h' }) q1 q2 q3 Zd ?_;exact⟨kV k1,H,I.BU (t':=s.toks) (ch:=[it]) hf (fun c o hc e=>(sb.2 c (by simpa using hc)).trans e),BI ek,⟨⟨k1,x,hk,rfl⟩,rfl⟩,st',fun b hb=>(hf b hb).1⟩
 done:=by intro X hP hw hK hc i Yp s σ H E I hf st hg;subst hP hw hK;obtain⟨hi,hH⟩:=hg;have g1:=qe I hH;refine Jn (I.ok.hd hc) st (by left) g1 hd fun h' kk=>⟨rfl,I.BU (t':=s.toks) (ch:=[it]) hf fun c o hc e=>?_⟩;exact kk c o (by simpa using hc) e
 self:=fun _ _ _ _ _ st h=>wpAny_pyIter_keyiter st h
def Ft (P:Zh) (w:Zi) (te:TE):TI:=fun σ H R=>te σ H fun x H1=>∃ a kvs,x=.ref a/\H1 a=some (.dK kvs) ∧
 ∀ D H2,tH P w a kvs D->(∀ b o,b≠a->H1 b=some o->H2 b=some o)->H2 a=some (jV a D)->R (Ith a D kvs) H2
def Ca {P:Zh}{w:Zi}{te:TE}{σ:St}{H:Hp}{R:It->Hp->Prop}:Ft P w te σ H R=te σ H fun x H1=>∃ a kvs,x=.ref a/\H1 a=some (.dK kvs) ∧
 ∀ D H2,tH P w a kvs D->(∀ b o,b≠a->H1 b=some o->H2 b=some o)->H2 a=some (jV a D)->R (Ith a D kvs) H2:=propext Iff.rfl
def Gn {tg l:Expr} (hP:X.prog=P) (hw:X.w=w) (hl:PE X l tl):PI X tg l (Ft P w tl):=by
 subst hP hw;intro Yp s σ H R I h;refine thn (hl Yp s σ H _ I h) fun v s1 ⟨x,H1,I1,r1,q1⟩=>?_;obtain⟨a,kvs,rfl,ha,q⟩:=q1;cases r1;obtain⟨z,hs,vs,rel,ob,es,ep,e1,e2,e3,e4,e5,e6⟩:=ye I1.hok ha;have kr:tH X.prog X.w a kvs ob:=⟨z,hs,vs,rel,es,ep,e2,e3,e4,e5,e6⟩;have I2:Inv X Yp σ (upd H1 a (jV a ob)) s1:=I1.write (x:=a) (e:=a) (h':=s1.heap) (t':=s1.toks) (o:=jV a ob) (by rw[ha];exact True.intro) (.inl rfl) (fun _ _ _ e=>e) ⟨ob,e1⟩ (Fq e1);have hz:es.size=kvs.length:=by have h1:kvs.length=vs.length:=Paired.length rel;have h2:=e5.length;simp at h2;left
 refine GI hs e1 e2 e3 ?_;refine⟨s1.heap.objs.size,[s1.heap.objs.size],_,_,_,rfl,I2.kept (t':=s1.toks) (fun b o e=>aL _ e),AG ob a _ kvs es ep kr e3 hz,⟨_,bj _ rfl,rfl,rfl⟩,fun b hb=>?_,q ob _ kr (fun b o hb e=>by rw[az hb];exact e) aB⟩;obtain rfl:b=s1.heap.objs.size:=by simpa using hb
 exact I2.tI (aq _) (I2.hok.fresh (aq _))
def He (P:Zh) (w:Zi) (td ty:TE):TE:=fun σ H Q=>td σ H fun x H1=>ty σ H1 fun y H2=>∃ a D kvs k v,x=.ref a/\H2 a=some (jV a D)/\tH P w a kvs D/\y=kV k/\dJ kvs k=some v/\Q v H2
def Em {P:Zh}{w:Zi}{td ty:TE}{σ:St}{H:Hp}{Q:VK}:He P w td ty σ H Q=td σ H fun x H1=>ty σ H1 fun y H2=>∃ a D kvs k v,x=.ref a/\H2 a=some (jV a D)/\tH P w a kvs D/\y=kV k/\dJ kvs k=some v/\Q v H2:=propext Iff.rfl
def Gf {o i:Expr}{td ty:TE} (hP:X.prog=P) (hw:X.w=w) (ho:PE X o td) (hi:PE X i ty) (hs:Hy i:=by exact fun _ _=>rfl):PE X (.Subscript o i pos) (He P w td ty):=by subst hP hw;intro Yp s σ H Q I h;refine BN PySem.F.slot_dict_getitem.lookup hs (thn (ho Yp s σ H _ I h) fun u s1 ⟨x,H1,I1,rx,q1⟩=>thn (hi Yp s1 σ H1 _ I1 q1) fun iv s2 ⟨y,H2,I2,ry,a,D,kvs,k,v,ex,hH,kr,ey,l,q2⟩=>?_);subst ex ey;obtain rfl:u=Value.ref a:=rx;obtain⟨vs,rel,dd⟩:=kr.dict (qe I2 hH);obtain⟨w',hw,rw'⟩:=ko.some_of (v:=v) (o:=valueAt vs k) (by rw[←l];exact rel.val k);exact⟨dd.typeIs,wpAny_getItem_of (sP ry) dd.mapOf hw ⟨v,H2,I2.tok _,rw',q2⟩⟩
def Hm (P:Zh) (w:Zi) (E:Ends):St->Hp->Prop:=fun σ' H3=>∃ a D kvs,H3 a=some (jV a D)/\tH P w a kvs D/\∀ H4,(∀ b u,b≠a->H3 b=some u->H4 b=some u)->H4 a=some (.dK kvs)->E.nx σ' H4
def GU (P:Zh) (w:Zi) (t:TS):TS:=fun E σ H=>t { E with nx:=Hm P w E } σ H
def Ew {P:Zh}{w:Zi}{t:TS}{E:Ends}{σ:St}{H:Hp}:GU P w t E σ H=t { E with nx:=Hm P w E } σ H:=propext Iff.rfl
def Cg {E:Ends}{σ':St}{H3:Hp}:Hm P w E σ' H3=(∃ a D kvs,H3 a=some (jV a D)/\tH P w a kvs D/\∀ H4,(∀ b u,b≠a->H3 b=some u->H4 b=some u)->H4 a=some (.dK kvs)->E.nx σ' H4):=propext Iff.rfl
def Gs {t:TS} (hP:X.prog=P) (hw:X.w=w) (h:PS X st t):PS X st (GU P w t):=by
 subst hP hw;intro Yp s σ H D I q;refine thn (h Yp s σ H _ I q) fun f s1 z=>?_;cases f with
 | next =>obtain⟨σ1,H1,I1,a,o,kvs,e1,kr,k⟩:=z;have g1:=qe I1 e1;refine⟨σ1,upd H1 a (.dK kvs),?_,k _ (fun b u hb e=>by rw[az hb];exact e) aB⟩;exact I1.write (x:=a) (e:=a) (h':=s1.heap) (t':=s1.toks) (o:=.dK kvs) (by rw[e1];exact True.intro) (.inl rfl) (fun _ _ _ e=>e) ⟨o,g1⟩ (kr.ok g1)
 | ret u=>exact z
 | brk=>exact z
 | cont=>exact z
end
section
section
variable {prog:Zh}{w:Zi}{A:Around}{E:Zq}{s:Zg}
def uR {it ea l:Addr}{i:Nat}{items:Array Value}{Q:Option Value->Zg->Prop} (hh:A.handled=some (.ref ea)) (h1:s.heap.get? ea=some ob) (h2:ob.data=.fields vs) (h3:vs[2]?=some .none) (hne:ea≠it)
  (hit:s.heap.IsListIter it l i) (hl:s.heap.IsList l items) (hx:items[i]?=none) (hQ:∀ h',Heap.ExtBut it s.heap h'->Q none { s with heap:=h' }):wpAny (model prog w) A (pyNext (.ref it)) Q E s:=by
 obtain⟨o,ho,hc,hd⟩:=id hit;obtain⟨ol,hol,_,nl,hdl⟩:=hl;unfold pyNext;refine ag (lO (wpAny_callSpecial?_slot (name:=Str.ofString "__next__") hit.typeIs slot_listiter_next
  (ia slot_listiter_next hit.typeIs entry_listiter_next ?_ (args_listiter_next _))))
 show wpAny _ _ (field (.ref it) 0 >>= _) _ _ s;refine ag (wpAny_field ho hd (x:=.ref l) rfl ?_);show wpAny _ _ (if (Value.ref l==Value.none)=true then _ else _) _ _ s;rw[af (show ¬ ((Value.ref l==Value.none)=true) from bO)];show wpAny _ _ (field (.ref it) 1 >>= _) _ _ s;refine ag (wpAny_field ho hd (x:=.int i 0) rfl ?_);show wpAny _ _ (seqItems? (.ref l) >>= _) _ _ s;refine ag (wpAny_seqItems hol hdl ?_);simp only[nI,hx];refine ag (wpAny_rule (ag (wpAny_setField ho hd (by simp) ?_)));show wpAny _ _ (newExc (.type "StopIteration") [] >>= _) _ _ _;refine ag ?_;simp only[newExc,newTuple];refine ag (gm ?_ (by size_fits));refine ag (m:=firstArgMember _ _) (wpAny_of_eq (a:=Value.none) (by first | rfl | (simp only[firstArgMember];rfl)) ?_);refine gm ?_ (by size_fits);have g1:(s.heap.update it (Obj.mapFields (·.setIfInBounds 0 Value.none))).get? ea=some ob:=(gZ _ _ hne.symm).trans h1;have lt:=aM g1;refine sY (A:=A.in1) hh ?_ (aL _ (aL _ g1)) h2 h3 (bj _ rfl) rfl (bE (show 2<6 by decide) (by rw[Array.size_append];exact Nat.le_add_right _ _)) ?_
 ·rw[hO];exact bz (fj lt)
 refine ag (wpAny_isInstance (T:="StopIteration") (b:=true) ⟨_,lb _ (bj _ rfl) rfl,rfl⟩ isSubtype_stop ?_);refine a8 (hQ _ fun b o hb e=>?_);have e':(s.heap.update it (Obj.mapFields (·.setIfInBounds 0 Value.none))).get? b=some o:=(gZ _ _ (cI hb)).trans e;have:=aM e';refine (gZ _ _ ?_).trans (aL _ (aL _ e'));rw[hO];exact lF (fj this)
end
def Hx (hd:Option Value) (K:Zf) (a:Addr):It:=⟨(Itl K a).go,(Itl K a).yld,fun i H=>(Itl K a).stop i H/\fz hd H⟩
def AH (a it:Addr):AO hd P w K tg (Hx hd K a) [it] it (fun i h=>h.IsListIter it a i) where
 mem:=(kY (P:=P) (w:=w) (K:=K) (tg:=tg) a it).mem
 obj:=(kY (P:=P) (w:=w) (K:=K) (tg:=tg) a it).obj
 keep:=(kY (P:=P) (w:=w) (K:=K) (tg:=tg) a it).keep
 self:=(kY (P:=P) (w:=w) (K:=K) (tg:=tg) a it).self
 item:=by intro X hP hw hK hc i Yp s σ H E I hf st hg;subst hP hw hK;obtain⟨xs,x,hq,hx⟩:=hg;obtain⟨its,rv,p,hz⟩:=I.list hq;obtain⟨u,hu,ru⟩:=rv.get hx;obtain⟨f0,f1,f2,f3,f4,f5⟩:=hf it (by simp);refine wpAny_pyNext_list_item st p.isList (x:=u) (by simpa using hu) fun h' st' sb=>?_;have I1:Inv X Yp σ H { s with heap:=h' }:=I.turned (t':=s.toks) (fun b o hb e=>(sb.2 b hb).trans e) f0 f1 f3 f4 f5;obtain⟨o,e,c,d⟩:=id st';exact⟨u,rfl,uv (s:={ s with heap:=h' }) e c d Zd ⟨x,H,I1,ru,⟨rfl,fun ys hy=>by rw[I.qg hy hq];exact hx⟩,st',fun b hb=>(hf b hb).1⟩⟩
 done:=by
  intro X hP hw hK hc i Yp s σ H E I hf st hg;subst hP hw hK;obtain⟨⟨xs,hq,hx⟩,hin⟩:=hg;obtain⟨its,rv,p,hz⟩:=I.list hq;obtain⟨f0,f1,f2,f3,f4,f5⟩:=hf it (by simp);have hl:=rv.length;rcases hin with hin | ⟨ea,φ,e1,e2,e3⟩
  ·exact wpAny_pyNext_list_end (hc.trans hin) st p.isList (by simp;left) fun h' eb=>⟨rfl,I.turned (t':=s.toks) (fun b o hb e=>eb b o hb e) f0 f1 f3 f4 f5⟩
  ·obtain⟨q,_,_⟩:=(show bT X.prog X.w H s.heap ea (.ext φ) from I.hok ea _ e2);obtain⟨ob,vs,q1,q2,q3⟩:=e3 _ q;exact uR (hc.trans e1) q1 q2 q3 (fun z=>by rw[z,f0] at e2;cases e2) st p.isList (by simp;left) fun h' eb=>⟨rfl,I.turned (t':=s.toks) (fun b o hb e=>eb b o hb e) f0 f1 f3 f4 f5⟩
def Fu (hd:Option Value) (K:Zf) (tl:TE):TI:=fun σ H R=>tl σ H fun x H1=>∃ a,x=.ref a/\(∃ xs,SqL K H1 a xs)/\R (Hx hd K a) H1
def Cb {hd:Option Value}{σ:St}{H:Hp}{K:Zf}{tl:TE}{R:It->Hp->Prop}:Fu hd K tl σ H R=tl σ H fun x H1=>∃ a,x=.ref a/\(∃ xs,SqL K H1 a xs)/\R (Hx hd K a) H1:=propext Iff.rfl
def Gp {tg l:Expr} (hK:X.K=K) (hl:PE X l tl):PIH X tg l (Fu X.A.handled K tl):=by
 subst hK;intro Yp s σ H R I h;refine thn (hl Yp s σ H _ I h) fun v s1 ⟨x,H1,I1,r1,q1⟩=>?_;obtain⟨a,e,⟨xs,hq⟩,q⟩:=q1;subst e;cases r1;obtain⟨its,rv,p,hz⟩:=I1.list hq;refine wpAny_pyIter_list p.isList ?_;refine⟨s1.heap.objs.size,[s1.heap.objs.size],_,_,H1,rfl,I1.kept (t':=s1.toks) fun b o e=>aL _ e,AH a _,⟨_,bj _ rfl,rfl,rfl⟩,fun b hb=>?_,q⟩;have e:b=s1.heap.objs.size:=by simpa using hb
 subst e;exact I1.tI (aq _) (I1.hok.fresh (aq _))
def Fd {g:TG}{tb:TS}{D:Ends} (Pv:Nat->St->Hp->Prop) (h0:Pv 0 σ H) (hin:∀ σ H,Pv xs.length σ H->fz hd H) (hl:∀ i σ H,i<=xs.length->Pv i σ H->SqL K H a xs)
  (hs:∀ i x σ H,xs[i]?=some x->Pv i σ H->∀ N:St->Hp->Prop,(∀ σ' H',Pv (i+1) σ' H'->N σ' H')->g x σ H fun σ2 H2=>tb { D with nx:=N,ct:=N,bk:=D.nx } σ2 H2) (he:∀ σ H,Pv xs.length σ H->D.nx σ H):iB g tb D (Hx hd K a) σ H:=by
 refine⟨fun i m σ H=>m=xs.length-i/\i<=xs.length/\Pv i σ H,⟨xs.length,by simp,bH _,h0⟩,?_⟩;rintro i m σ H ⟨rfl,hi,p⟩
 by_cases hlt:i<xs.length
 ·refine .inr ⟨⟨xs,xs[i],hl i σ H hi p,b9 hlt⟩,Pv (i+1),fun σ' H' p'=>⟨xs.length-(i+1),by left,rfl,hlt,p'⟩,fun x H' y=>?_⟩;obtain⟨e,y⟩:=y;subst e;exact hs i x σ _ (y xs (hl i σ _ hi p)) p _ fun _ _ h=>h
 ·have e:i=xs.length:=by left
  subst e;exact .inl ⟨⟨⟨xs,hl _ σ H hi p,aq _⟩,hin _ _ p⟩,he _ _ p⟩
section
variable {X:Cx}{CX:CXT}{E:St->XK}
def DH {pl:Sem Bool}{C f:Addr}{k:Nat}{o:Expr}{ta:TE}{apos pos:Pos}{ds:Zc}{dvs:List V} (he:PE X o ta) (c:Cls X.K C) (hm:Meth X.K C m f) (F:pO X.prog X.w X.K X.mg X.base CX k f fd ps sp) (hr:fw k X.A) (hb:Binds X.K fd ps ds) (hd:Vals dvs ds) (hx:Passes CX X E)
  (ht:eval (.Call (.Attribute o m apos) [] [] pos) X.env=(do
   let ov ←eval o X.env
   standAt apos.atName
   let (f,first) ←holding [ov] (getMethod ov m pl)
   callWith pos f first (backTo pos (starEach [] X.env)) (backToKw pos (keywordEach [] X.env))):=by rfl) :
  PE X (.Call (.Attribute o m apos) [] [] pos) (fun σ H Q=>ta σ H fun x H1=>∃ a dx fs,x=.ref a/\H1 a=some (.ins C dx fs)/\fs.lookup m=none/\fz X.A.handled H1/\sp (.ref a::dvs) H1 Q (E σ)):=by
 intro Yp s σ H Q I h;refine oo (pl:=pl) (thn (he Yp s σ H _ I h) fun u s1 ⟨x,H1,I1,rx,a,dx,fs,ex,ea,l,q⟩=>?_) ht;subst ex;obtain rfl:u=Value.ref a:=rx;refine jx I1 ea c hm l ?_;exact PySem.W.callWith_K0 (first:=[.ref a]) I1.kIn hm.kp (Jp (us:=[.ref a]) (vs:=[.ref a]) F hr hb hd hx I1 (.cons rfl .nil) q)
structure pP (P:Zh) (w:Zi) (K:Zf) (mg:Zk) (base:Heap) (CX:CXT) (C:Addr) (m:Str) (k:Nat) (ps:Ze) (sp:Sp):Prop where
 ex:∃ (f:Addr) (fd:FuncData),pO P w K mg base CX k f fd ps sp/\Meth K C m f/\Binds K fd ps []
 cl:Cls K C
def pP.mtd {P:Zh}{w:Zi}{K:Zf}{mg:Zk}{base:Heap}{C:Addr}{m:Str}{k:Nat}{ps:Ze}{sp:Sp} (M:pP P w K mg base CX C m k ps sp):Mtd P w K mg base CX C m k ps sp:=by obtain⟨⟨f,fd,F,h⟩,c⟩:=M;exact⟨⟨f,fd,F.ok,h⟩,c⟩
def Hh (hd:Option Value) (C:Addr) (m:Str) (sp:Sp) (E:St->XK) (ta:TE):TE:=fun σ H Q=>ta σ H fun x H1=>mf C m x H1 fun H1=>fz hd H1/\sp [x] H1 Q (E σ)
def Es {hd:Option Value}{C:Addr}{m:Str}{sp:Sp}{ta:TE}{σ:St}{H:Hp}{Q:VK}:Hh hd C m sp E ta σ H Q=ta σ H fun x H1=>mf C m x H1 fun H1=>fz hd H1/\sp [x] H1 Q (E σ):=propext Iff.rfl
def uP {pl:Sem Bool}{k:Nat}{o:Expr}{ta:TE}{apos pos:Pos} (M:pP X.prog X.w X.K X.mg X.base CX C m k ps sp) (hx:Passes CX X E) (hr:fw k X.A) (he:PE X o ta)
  (ht:eval (.Call (.Attribute o m apos) [] [] pos) X.env=(do
   let ov ←eval o X.env
   standAt apos.atName
   let (f,first) ←holding [ov] (getMethod ov m pl)
   callWith pos f first (backTo pos (starEach [] X.env)) (backToKw pos (keywordEach [] X.env))):=by rfl) :
  PE X (.Call (.Attribute o m apos) [] [] pos) (Hh X.A.handled C m sp E ta):=by
 obtain⟨f,fd,F,hm,hb⟩:=M.ex;intro Yp s σ H Q I h;refine DH (ta:=up ta) he.up M.cl hm F hr hb .nil hx ht Yp s σ H Q I ⟨_,h,fun x H1 q=>?_⟩;cases x with
 | ref a =>obtain⟨dx,fs,h1,h2,h3⟩:=q;exact⟨a,dx,fs,rfl,h1,h2,h3⟩
 | _=>exact False.elim q
end
end
end L2
namespace Kb
open PySem L2
variable {E:XK}{H:Hp}{K:Zf}{M:Int}{Q:VK}{R:Addr->Hp->Prop}{al:Za}{b:Int}{c:Addr}{ca:Addr}{cs:List V}{f:Addr}{fd:FuncData}{i:Nat}{key:List Key}{ks:List Key}{kvs:List (Key×V)}{l0:Int}{ls:List V}{m:Nat}{r:Int}{v:V}{vs:List V}{ws:Zb}{x:V}{xs:List V}{α:Type}{κ:Type}
seal L2.PE L2.PA L2.PS L2.PSs L2.PT L2.PW L2.PG L2.PGs L2.PI L2.PO L2.MV L2.PIf
def top (i:Nat):Stmt:=PySem.Challenge.pw_cablehouse_k38_books_of_editions.main.body.getD i (.Pass ⟨0,0,0,0⟩)
abbrev pB:Stmt:=top 12
abbrev iw:Stmt:=top 13
abbrev pz:Stmt:=top 14
abbrev kA:Stmt:=top 17
abbrev p9:Stmt:=top 18
abbrev k9:Stmt:=top 19
abbrev si:Stmt:=top 20
abbrev nr:Stmt:=top 21
abbrev sr:Stmt:=top 22
abbrev pq:Stmt:=top 23
abbrev sh:Stmt:=top 24
abbrev gG:Stmt:=inClass (top 25) 0
abbrev iU:Stmt:=inClass (top 25) 1
abbrev j8:Stmt:=inClass (top 25) 2
abbrev mX:Stmt:=inClass (top 25) 3
abbrev gH:Stmt:=inClass (top 25) 4
abbrev mY:Stmt:=inClass (top 25) 5
abbrev k6:Stmt:=inClass (top 25) 6
abbrev iV:Stmt:=inClass (top 25) 7
abbrev k8:Stmt:=top 30
abbrev mZ:Stmt:=top 31
abbrev iz:Stmt:=top 32
abbrev j9:Stmt:=top 33
abbrev pA:Stmt:=top 38
abbrev gE:Stmt:=inClass (top 39) 0
abbrev gC:Stmt:=inClass (top 39) 1
abbrev da:Stmt:=inClass (top 39) 2
abbrev fq:Stmt:=inClass (top 39) 3
abbrev cU:Stmt:=inClass (top 39) 4
abbrev kz:Stmt:=inClass (top 39) 5
abbrev mm:Stmt:=inClass (top 39) 6
abbrev ky:Stmt:=inClass (top 39) 7
abbrev j7:Stmt:=inClass (top 39) 8
abbrev uS:Stmt:=top 43
abbrev dN:Stmt:=inClass (top 44) 0
abbrev bV:Stmt:=inClass (top 44) 1
abbrev gS:Stmt:=inClass (top 44) 2
abbrev iW:Stmt:=inClass (top 44) 3
abbrev eE:Stmt:=inClass (top 44) 5
abbrev fE:Stmt:=inClass (top 44) 6
abbrev eU:Stmt:=inClass (top 44) 7
abbrev p8:Stmt:=top 46
abbrev nc:Stmt:=top 47
abbrev xD:Stmt:=top 48
abbrev iX:Stmt:=top 49
abbrev xC:Stmt:=top 50
abbrev Aw:Stmt:=top 51
abbrev kB:Stmt:=top 53
abbrev nj:Stmt:=top 55
abbrev ng:Stmt:=top 56
abbrev kD:Stmt:=top 57
abbrev ix:Stmt:=top 58
abbrev pF:Stmt:=top 59
abbrev pG:Stmt:=top 60
abbrev pC:Stmt:=top 61
abbrev sq:Stmt:=top 62
abbrev pE:Stmt:=top 63
abbrev kC:Stmt:=top 64
abbrev ni:Stmt:=top 65
abbrev sj:Stmt:=top 66
abbrev iy:Stmt:=top 67
abbrev nq:Stmt:=top 68
abbrev qy:Stmt:=top 69
structure Bl (mg:Zk):Prop where
 isinstance:mg "isinstance"=none
 bool:mg "bool"=none
 int:mg "int"=none
 abs:mg "abs"=none
 all:mg "all"=none
 zip:mg "zip"=none
 len:mg "len"=none
 set:mg "set"=none
 str:mg "str"=none
 list:mg "list"=none
 sum:mg "sum"=none
 range:mg "range"=none
 tuple:mg "tuple"=none
 sorted:mg "sorted"=none
 min:mg "min"=none
 ValueError:mg "ValueError"=none
structure Ads where
 Code:Addr
 Book:Addr
 Editions:Addr
 CableError:Addr
 NoCode:Addr
 NoNumber:Addr
 NoWord:Addr
 NoEntry:Addr
 Twice:Addr
 TooMany:Addr
 NoBook:Addr
 NoDay:Addr
 cd:Addr
 tb:Addr
 cd1:Addr
 tb1:Addr
 none:Unit:=()
def Ads.Ij (Ad:Ads):List Addr:=[Ad.NoCode,Ad.NoNumber,Ad.NoWord,Ad.NoEntry,Ad.Twice,Ad.TooMany,Ad.NoBook,Ad.NoDay]
structure AdF (K:Zf) (mg:Zk) (Ad:Ads):Prop where
 g_Code:mg "Code"=some (.ref Ad.Code)
 g_Book:mg "Book"=some (.ref Ad.Book)
 g_Editions:mg "Editions"=some (.ref Ad.Editions)
 g_CableError:mg "CableError"=some (.ref Ad.CableError)
 g_NoCode:mg "NoCode"=some (.ref Ad.NoCode)
 g_NoNumber:mg "NoNumber"=some (.ref Ad.NoNumber)
 g_NoWord:mg "NoWord"=some (.ref Ad.NoWord)
 g_NoEntry:mg "NoEntry"=some (.ref Ad.NoEntry)
 g_Twice:mg "Twice"=some (.ref Ad.Twice)
 g_TooMany:mg "TooMany"=some (.ref Ad.TooMany)
 g_NoBook:mg "NoBook"=some (.ref Ad.NoBook)
 g_NoDay:mg "NoDay"=some (.ref Ad.NoDay)
 c_Code:Cls K Ad.Code
 n_Code_letters:ft K Ad.Code "letters"
 n_Code_factors:ft K Ad.Code "factors"
 n_Code_remainder:ft K Ad.Code "remainder"
 c_Book:Cls K Ad.Book
 n_Book_basis:ft K Ad.Book "basis"
 n_Book_by_number:ft K Ad.Book "by_number"
 n_Book_by_entry:ft K Ad.Book "by_entry"
 c_Editions:Cls K Ad.Editions
 n_Editions_current:ft K Ad.Editions "current"
 n_Editions_changes:ft K Ad.Editions "changes"
 n_Editions_struck:ft K Ad.Editions "struck"
 n_Editions_latest:ft K Ad.Editions "latest"
 q_NoCode:PySem.W.excIn K Ad.NoCode [.type "ValueError",.type "Exception",.type "BaseException",.type "object"] "ValueError.__new__"=true
 q_NoNumber:PySem.W.excIn K Ad.NoNumber [.type "ValueError",.type "Exception",.type "BaseException",.type "object"] "ValueError.__new__"=true
 q_NoWord:PySem.W.excIn K Ad.NoWord [.type "ValueError",.type "Exception",.type "BaseException",.type "object"] "ValueError.__new__"=true
 q_NoEntry:PySem.W.excIn K Ad.NoEntry [.type "ValueError",.type "Exception",.type "BaseException",.type "object"] "ValueError.__new__"=true
 q_Twice:PySem.W.excIn K Ad.Twice [.type "ValueError",.type "Exception",.type "BaseException",.type "object"] "ValueError.__new__"=true
 q_TooMany:PySem.W.excIn K Ad.TooMany [.type "ValueError",.type "Exception",.type "BaseException",.type "object"] "ValueError.__new__"=true
 q_NoBook:PySem.W.excIn K Ad.NoBook [.type "ValueError",.type "Exception",.type "BaseException",.type "object"] "ValueError.__new__"=true
 q_NoDay:PySem.W.excIn K Ad.NoDay [.type "ValueError",.type "Exception",.type "BaseException",.type "object"] "ValueError.__new__"=true
 x_TooMany:PySem.W.exmOne K (.ref Ad.TooMany) (.ref Ad.TooMany)=some true
 t_tab:PySem.W.codeHdIn K Ad.cd Ad.tb=true
 t_tab1:PySem.W.codeHdIn K Ad.cd1 Ad.tb1=true
 err:wI K Ad.CableError Ad.Ij=true
 nd:ndB Ad.Ij=true
 v_SMALL_LETTERS:∃ u,mg "SMALL_LETTERS"=some u/\RelV (.str "abcdefghijklmnopqrstuvwxyz") u
 v_FIGURES:∃ u,mg "FIGURES"=some u/\RelV (.str "0123456789") u
 v_MOST_FIGURES:∃ u,mg "MOST_FIGURES"=some u/\RelV (.int 9) u
 v_LONGEST_WORD:∃ u,mg "LONGEST_WORD"=some u/\RelV (.int 20) u
 v_MOST_ENTRIES:∃ u,mg "MOST_ENTRIES"=some u/\RelV (.int 300) u
 v_MOST_PHRASE_WORDS:∃ u,mg "MOST_PHRASE_WORDS"=some u/\RelV (.int 6) u
 v_MOST_PART_LETTERS:∃ u,mg "MOST_PART_LETTERS"=some u/\RelV (.int 6) u
 v_LATEST_DAY:∃ u,mg "LATEST_DAY"=some u/\RelV (.int 1000000000) u
 v_DAYS_BARRED:∃ u,mg "DAYS_BARRED"=some u/\RelV (.int 31) u
section
variable {P:Zh}{w:Zi}{K:Zf}{mg:Zk}{base:Heap}{Ad:Ads}
def bc {p q:Prop} (a:p) (b:q):p/\q:=⟨a,b⟩
noncomputable def zzV:=bc @Ki<|bc @HR<|bc @HM<|bc @HL<|bc @Et<|bc @Ks<|bc @Eo<|bc @HI<|bc @Kg<|bc @pR<|bc @Kt<|bc @MZ<|bc @Ma<|bc @Md<|bc @LS<|bc @HD<|bc @Km<|bc @HC<|bc @Kq<|bc @LY<|bc @HN<|bc @HH<|bc @HS<|bc @MY<|bc @Kn<|bc @Kf<|bc @Mb<|bc @HB<|bc @Ko<|bc @HP<|bc @Kk<|bc @Kl<|bc @Kr<|bc @HF<|bc @LZ<|bc @Mc<|bc @Cf<|bc @HQ<|bc @HJ<|bc @Ep<|bc @HK<|bc @Kj<|bc @Kp<|bc @LR<|bc @Kh<|bc @Ek<|bc @J6<|bc @EU<|bc @EV<|bc @Ip<|bc @Iq<|bc @Ir<|bc @Kz<|bc @Iu<|bc @Er<|bc @HE<|bc @El<|bc @CS<|bc @En<|bc @HG<|bc @GW<|bc @zA<|bc @zB<|bc @zC<|bc @zP<|bc @zK<|bc @yi<|bc @zJ<|bc @zL<|bc @zD<|bc @CQ<|bc @CN<|bc @CO<|bc @CP<|bc @CV<|bc @CW<|bc @CY<|bc @CT<|bc @CU<|bc @zG<|bc @zH<|bc @zz<|bc @zI<|bc @yk<|bc @zM<|bc @zE<|bc @CZ<|bc @Dc<|bc @wK<|bc @wJ<|bc @yj<|bc @ym<|bc @zN<|bc @zF<|bc @zx<|bc @zy<|bc @Ik<|bc @Io<|bc @Cd<|bc @Ce<|bc @Ej<|bc @Ca<|bc @Em<|bc @Ew<|bc @Es<|bc @Cb<|bc @HV<|bc @HU<|bc @Eu<|bc @LU<|bc @LW<|bc @LX<|bc @LV<|bc @Il<|bc @Im<|bc @ET<|bc @EO<|bc @zO<|bc @AQ<|bc @Cc<|bc @ER<|@ES
local macro_rules | `(tactic| symm) => `(tactic| try simp only [zzV, Gv, GD, mf, Gy, Ends.un, gw, nw, Gx, isV, fT, mF, Tg.sub, Tg.name, rU, Gw, Option.join_some, Int.toNat_natCast, List.getElem?_cons_zero, List.getElem?_cons_succ, List.set_cons_zero, List.set_cons_succ, List.map_cons, List.map_nil, List.cons_append, List.nil_append, List.length_cons, List.length_nil, List.replicate_succ, List.replicate_zero, Nat.reduceAdd, Nat.reduceSub, Nat.zero_add, bne_self_eq_false, Bool.true_bne, Bool.false_bne, Bool.not_true, Bool.not_false, if_true, if_false, Bool.false_eq_true, Bool.true_eq_false, reduceIte])
local macro_rules | `(tactic| ac_nf) => `(tactic| (symm; repeat (simp only [dH]; symm)))
local macro_rules | `(tactic| bv_omega) => `(tactic| try simp only [J6, EU, EV, Bool.not_false, Bool.not_true, if_true, if_false, Bool.false_eq_true, Bool.true_eq_false, true_and, and_true])
set_option hygiene false in
local macro_rules | `(tactic| bv_decide) => `(tactic| (intro vs H Q E h; first | (cases h; subst_vars; rfl) | repeat (first | (obtain ⟨rfl, _⟩ := h; rfl) | obtain ⟨_, h⟩ := h)))
set_option hygiene false in
local macro_rules | `(tactic| cbv) => `(tactic| (rw [hN]; clear hN nn))
set_option hygiene false in
local macro_rules | `(tactic| grind) => `(tactic| (refine dY fun nn hN => ?_; symm))
set_option hygiene false in
local macro_rules | `(tactic| right) => `(tactic| (intro cdv A outer s H vs Q E hr h; have hu := hr.fJ; have hu1 := jW hr))
local macro_rules | `(tactic| subst_eqs) => `(tactic| exact ⟨rfl, rfl, rfl, by nofun, rfl, by nofun, by nofun⟩)
structure cO (al:Za) (ws:Zb) (r:Int):Prop where
 a3:3<=al.length
 a26:al.length<=26
 nd:al.Nodup
 abc:∀ c∈al,97<=c/\c<123
 w3:3<=ws.length
 w8:ws.length<=8
 wm:∀ x∈ws,0<=x/\x<(al.length:Int)
 safe:Mk.safe al.length ws=true
 rm:0<=r/\r<(al.length:Int)
def cO.sml {al:Za}{ws:Zb}{r:Int} (h:cO al ws r):Mk.sml ws:=by intro x hx;have:=h.wm x hx;have:=h.a26;left
def sJ (al:Za) (q:Addr) (r:Int):List (Str×V):=[("letters",.str (tx al)),("factors",.ref q),("remainder",.int r)]
def dU (al:Za) (q:Addr) (r:Int):(sJ al q r).lookup ("letters":Str)=some (V.str (tx al)):=rfl
def fU (al:Za) (q:Addr) (r:Int):(sJ al q r).lookup ("factors":Str)=some (V.ref q):=rfl
def iQ (al:Za) (q:Addr) (r:Int):(sJ al q r).lookup ("remainder":Str)=some (V.int r):=rfl
def cZ {m:Str} (h1:m≠("letters":Str)) (h2:m≠("factors":Str)) (h3:m≠("remainder":Str)) (al:Za) (q:Addr) (r:Int):(sJ al q r).lookup m=none:=by unfold sJ;rw[dP,dP,dP,lJ h1,lJ h2,lJ h3];rfl
def dq (Ad:Ads) (H:Hp) (a:Addr) (al:Za) (ws:Zb) (r:Int):Prop:=∃ dx q,H a=some (.ins Ad.Code dx (sJ al q r))/\H q=some (.lst (ws.map V.int))
def dq.same {Ad:Ads}{H H':Hp}{a:Addr} (h:dq Ad H a al ws r) (s:ax H H'):dq Ad H' a al ws r:=by obtain⟨dx,q,h1,h2⟩:=h;exact⟨dx,q,s _ _ h1,s _ _ h2⟩
def Parts (H:Hp) (p:Addr) (q:Addr) (al:Za) (ws:Zb) (r:Int):Prop:=H p=some (.lst [.str (tx al),.ref q,.int r])/\H q=some (.lst (ws.map V.int))
def ui (H:Hp) (xa xw xr:V) (al:Za) (p:Addr) (ws:Zb) (r:Int):Prop:=xa=.str (tx al)/\xw=.ref p/\H p=some (.lst (ws.map V.int))/\xr=.int r/\cO al ws r
def HZ (H:Hp) (xa xw xr:V):Prop:=∀ al p ws r,¬ ui H xa xw xr al p ws r
theorem sU {α β:Type}{F:α->β->Prop}:∀ {a:List α}{b:List β}{c:List α}{d:List β},Paired F a b->Paired F c d->Paired F (a++c) (b++d)
 | _,_,_,_,.nil,h=>h
 | _,_,_,_,.cons r t,h=>.cons r (sU t h)
theorem gB {α β:Type}{F G:α->β->Prop} (f:∀ x y,F x y->G x y):∀ {a:List α}{b:List β},Paired F a b->Paired G a b
 | _,_,.nil=>.nil
 | _,_,.cons r t=>.cons (f _ _ r) (gB f t)
def Ck {l:List α}{v:α} (h:l.getLast?=some v):atI l (-1)=some v:=by
 have hne:l≠[]:=fun e=>by subst e;cases h
 have hl:=List.length_pos_iff.mpr hne;unfold atI ixN;rw[af (by decide),ai (by left)];show l[_]?=some v;rw[List.getLast?_eq_getElem?] at h;rw[←h]
 congr 1
 left
def FJ {β γ:Type}{f:β->γ}{xs:List β}{v:γ} (h:(xs.map f)[i]?=some v):∃ x,xs[i]?=some x/\f x=v:=by rw[bt] at h;exact gi.mp h
def dS (n:Nat) (l:Za):Bool:=decide (1<=l.length)&&decide (l.length<=n)&&l.all fun c=>decide (97<=c/\c<123)
def i7 (n:Nat):V->Bool
 | .str z=>dS n z.cps.toList
 | _=>false
def ju (n:Nat) (l:Za):Bool:=decide ((Mk.cc 32 l).length<=n)&&(Mk.cc 32 l).all (dS 20)
def jS (n:Nat):V->Bool
 | .str z=>ju n z.cps.toList
 | _=>false
def jy:List V->Bool
 | [.str z]=>decide (z=("end":Str))
 | [.str z,y]=>if z=("phrase":Str) then jS 6 y else if z=("part":Str) then i7 6 y else false
 | _=>false
def rL (H:Hp):V->Bool
 | .ref p=>match H p with
  | some (.tup xs)=>jy xs
  | _=>false
 | _=>false
def Ci {n:Nat}{l:Za} (h1:1<=l.length) (h2:l.length<=n) (h3:∀ c∈l,97<=c/\c<123):dS n l=true:=by unfold dS;rw[ar h1,ar h2,dQ,dQ,bP];exact fun c hc=>ar (h3 c hc)
def Cj {n:Nat}{ws:List (Za)} (h1:1<=ws.length) (h2:ws.length<=n) (h3:∀ w∈ws,1<=w.length/\w.length<=20/\∀ c∈w,97<=c/\c<123):ju n (Mk.cz 32 ws)=true:=by unfold ju;rw[Mk.gI ws (fun e=>by rw[e] at h1;simp at h1) fun w hw hc=>by have:=(h3 w hw).2.2 32 hc;left,ar h2,dQ,bP];exact fun w hw=>Ci (h3 w hw).1 (h3 w hw).2.1 (h3 w hw).2.2
def Fx {n:Nat}{ws:List (Za)} (h2:ws.length<=n) (h3:∀ w∈ws,w.length<=20):(Mk.cz 32 ws).length<=21*n/\(ws.map fun w=>w.length+1).sum<=21*n:=by
 have h:=Mk.oB (c:=32) ws;have:(ws.map fun w=>w.length+1).sum<=21*ws.length:=by
  clear h2 h
  induction ws with
  | nil=>simp
  | cons w r ih =>have h1:=ih fun x hx=>h3 x (bD _ hx);have h2:=h3 w bq;simp only[bp,iL,aN];left
 left
def vw:Str:="Book.put.<locals>.<lambda>"
structure Ben where
 num:Int
 key:List Key
 adr:Addr
def sI (ca dn de:Addr):List (Str×V):=[("basis",.ref ca),("by_number",.ref dn),("by_entry",.ref de)]
def jT (p q r:Addr):(sI p q r).lookup ("basis":Str)=some (V.ref p):=rfl
def gz (p q r:Addr):(sI p q r).lookup ("by_number":Str)=some (V.ref q):=rfl
def oy (p q r:Addr):(sI p q r).lookup ("by_entry":Str)=some (V.ref r):=rfl
def bJ {m:Str} (h1:m≠("basis":Str)) (h2:m≠("by_number":Str)) (h3:m≠("by_entry":Str)) (p q r:Addr):(sI p q r).lookup m=none:=by unfold sI;rw[dP,dP,dP,lJ h1,lJ h2,lJ h3];rfl
def fu (es:List Ben):List (Key×V):=(es.map fun e=>(e.num,V.ref e.adr)).map fun q=>(.inl q.1,q.2)
def mC (es:List Ben):List (List Key×V):=es.map fun e=>(e.key,V.int e.num)
structure cq (Ad:Ads) (H:Hp) (b ca dn de:Addr) (es:List Ben):Prop where
 bk:∃ dx,H b=some (.ins Ad.Book dx (sI ca dn de))
 hn:H dn=some (.dK (fu es))
 he:H de=some (.dT (mC es))
 en:∀ e∈es,H e.adr=some (.tup (e.key.map kV))
 nn:(es.map (·.num)).Nodup
 nk:(es.map (·.key)).Nodup
def cq.same {Ad:Ads}{H H':Hp}{b ca dn de:Addr}{es:List Ben} (h:cq Ad H b ca dn de es) (s:ax H H'):cq Ad H' b ca dn de es:=by obtain⟨⟨dx,h1⟩,h2,h3,h4,h5,h6⟩:=h;exact⟨⟨dx,s _ _ h1⟩,s _ _ h2,s _ _ h3,fun e he=>s _ _ (h4 e he),h5,h6⟩
theorem tY {α κ:Type} [DecidableEq κ] {f:α->κ}{g:α->V}:∀ {es:List α}{e:α},(es.map f).Nodup->e∈es->dJ (es.map fun x=>(f x,g x)) (f e)=some (g e)
 | x::r,e,hn,he=>by
  obtain⟨h1,h2⟩:=df.mp hn;unfold dJ;rw[bp,iI]
  by_cases h:f x=f e
  ·rw[ar h];rcases aJ.mp he with rfl | he
   ·rfl
   ·exact absurd (fh (f:=f) he) (by rw[←h];exact h1)
  ·rw[ay h];rcases aJ.mp he with rfl | he
   ·exact absurd rfl h
   ·exact tY h2 he
theorem AK {α κ:Type} [DecidableEq κ] {f:α->κ}{g:α->V}{k:κ}:∀ {es:List α},k∉es.map f->dJ (es.map fun x=>(f x,g x)) k=none
 | [],_=>rfl
 | x::r,h=>by rw[bp,aJ,not_or] at h;unfold dJ;rw[bp,iI,ay (show ¬ f x=k from fun e=>h.1 e.symm)];exact AK h.2
def lX (es:List Ben):fu es=es.map fun e=>(.inl e.num,V.ref e.adr):=by unfold fu;rw[aX];rfl
def K8 {es:List Ben} (h:(es.map (·.num)).Nodup):(es.map fun e=>(.inl e.num:Key)).Nodup:=by
 have e:(es.map fun e=>(.inl e.num:Key))=(es.map (·.num)).map Sum.inl:=by rw[aX];rfl
 rw[e];exact List.Pairwise.map _ (fun a b (h:a≠b) z=>h (Sum.inl.inj z)) h
def jX {es:List Ben}{e:Ben} (hn:(es.map (·.num)).Nodup) (he:e∈es):dJ (fu es) (.inl e.num)=some (.ref e.adr):=by rw[lX];exact tY (f:=fun e:Ben=>(.inl e.num:Key)) (K8 hn) he
def uD {es:List Ben}{k:Int} (h:k∉es.map (·.num)):dJ (fu es) (.inl k)=none:=by rw[lX];refine AK (f:=fun e:Ben=>(.inl e.num:Key)) fun m=>h ?_;obtain⟨e,he,ee⟩:=aD.mp m;exact aD.mpr ⟨e,he,Sum.inl.inj ee⟩
def Ae {es:List Ben}{k:Int} (hn:(es.map (·.num)).Nodup):(dJ (fu es) (.inl k)).isSome=decide (k∈es.map (·.num)):=by
 by_cases h:k∈es.map (·.num)
 ·obtain⟨e,he,rfl⟩:=aD.mp h;rw[jX hn he,ar h];rfl
 ·rw[uD h,ay h];rfl
def Bg {es:List Ben}{e:Ben} (hn:(es.map (·.key)).Nodup) (he:e∈es):dJ (mC es) e.key=some (.int e.num):=tY (f:=fun e:Ben=>e.key) hn he
def zw {es:List Ben}{k:List Key} (h:k∉es.map (·.key)):dJ (mC es) k=none:=AK (f:=fun e:Ben=>e.key) h
def tW [DecidableEq κ] {kvs:List (κ×V)}{k:κ} (h:dJ kvs k=none):putK kvs k v=kvs++[(k,v)]:=by unfold putK;rw[nH,h];rfl
def rQ (es:List Ben) (e:Ben):fu (es++[e])=fu es++[(.inl e.num,.ref e.adr)]:=by unfold fu;simp
def CJ (es:List Ben) (e:Ben):mC (es++[e])=mC es++[(e.key,.int e.num)]:=by unfold mC;simp
def qk (es:List Ben):(fu es).length=es.length:=by unfold fu;simp
def Ec (ns:Zb) (n:Int):Prop:=0<=n/\n∉ns/\∀ m,0<=m->m<n->m∈ns
def FF (ns:Zb):∃ n:Nat,Ec ns n/\n<=ns.length:=by
 have key:∀ k:Nat,(∀ m:Int,0<=m->m<k->m∈ns)∨∃ n:Nat,n<k/\Ec ns n:=by
  intro k
  induction k with
  | zero=>exact .inl fun m h1 h2=>by left
  | succ k ih =>
   rcases ih with h | ⟨n,h1,h2⟩
   ·by_cases hk:(k:Int)∈ns
    ·exact .inl fun m h1 h2=>by
      by_cases e:m=k
      ·rw[e];exact hk
      ·exact h m h1 (by left)
    ·exact .inr ⟨k,jP _,by left,hk,h⟩
   ·exact .inr ⟨n,by left,h2⟩
 rcases key (ns.length+1) with h | ⟨n,h1,h2⟩
 ·exfalso;have hs:∀ c∈(List.range (ns.length+1)).map (fun i:Nat=>(i:Int)),c∈ns:=fun c hc=>by
   obtain⟨i,hi,rfl⟩:=aD.mp hc;have:=iJ.mp hi;exact h _ (by left) (by left)
  have nd:((List.range (ns.length+1)).map (fun i:Nat=>(i:Int))).Nodup:=List.Pairwise.map _ (fun a b (h:a≠b) z=>h (by left)) List.nodup_range;have:=List.Nodup.length_le_of_subset nd hs;rw[ak,jL] at this;left
 ·exact⟨n,h2,by left⟩
structure eu (key:List Key):Prop where
 is:jy (key.map kV)=true
 few:key.length<=2
 short:∀ z,V.str z∈key.map kV->z.length<=10000
def bX (al:Za) (ws:Zb):Int:=(al.length:Int)^(ws.length-1)
def pZ {t:Addr} (ht:H t=some (.tup (key.map kV))) (ok:eu key):rL H (.ref t)=true:=by show (match H t with | some (.tup xs)=>jy xs | _=>false)=true;rw[ht];exact ok.is
def E7 {es:List Ben}{ns:Zb} (hp:ns.Perm ((es.map fun e=>(e.num,V.ref e.adr)).map (·.1))) (hs:ns.Pairwise (·<=·)) (hn:(es.map (·.num)).Nodup):∃ ms:List Ben,ms.Perm es/\ms.map (·.num)=ns/\(ms.map (·.num)).Pairwise (·<·):=by rw[aX] at hp;have p1:(es.mergeSort fun a b=>decide (a.num<=b.num)).Perm es:=List.mergeSort_perm _ _;have p2:=List.pairwise_mergeSort (le:=fun a b:Ben=>decide (a.num<=b.num)) (fun a b c h1 h2=>by simp only[cj] at *;left) (fun a b=>by simp only[Bool.or_eq_true,cj];left) es;generalize es.mergeSort (fun a b=>decide (a.num<=b.num))=ms at p1 p2;have p3:(ms.map (·.num)).Pairwise (·<=·):=List.pairwise_map.mpr (List.Pairwise.imp (fun h=>by simpa using h) p2);have e:ms.map (·.num)=ns:=PySem.W.ksm_same ((p1.map _).trans hp.symm) p3 hs;refine⟨ms,p1,e,?_⟩;have nd:(ms.map (·.num)).Nodup:=(p1.map _).nodup_iff.mpr hn;exact List.Pairwise.imp (fun {a b} (h:a<=b/\a≠b)=>by left) (p3.and nd)
def J3 (H:Hp) (vs:List V) (tss:List (List V)):Prop:=Paired (fun v ts=>∃ p,v=V.ref p/\H p=some (.tup ts)) vs tss
theorem mR {α β γ:Type}{F:α->γ->Prop}{f:β->γ}:∀ {l₁:List α}{l₂:List β},Paired F l₁ (l₂.map f)->Paired (fun a b=>F a (f b)) l₁ l₂
 | [],[],_=>.nil
 | _::_,_::_,.cons r t=>.cons r (mR t)
def Bq {J:It}{H1:Hp}{js:Za}{σ:St}{te:TE}{Q:VK} (hJ:J.Seq H1 xs) (hl:xs.length<sizeLine) (tss:List (List V)) (hn:tss.length=xs.length)
  (he:∀ (i:Nat) x ts,xs[i]?=some x->tss[i]?=some ts->∀ H,ax H1 H->∀ R:VK,(∀ p H',H p=none->ax H H'->H' p=some (.tup ts)->R (.ref p) H')->te (some x::js.map fun j=>(σ[j]?).join) H R)
  (q:∀ D vs H,H1 D=none->ax H1 H->H D=some (.lst vs)->J3 H vs tss->Q (.ref D) H):gq (gK 0) DS te (ic 1 js σ) J H1 Q:=by
 intro D hD;refine⟨fun i m ys σ1 H=>m=xs.length-i/\i<=xs.length/\(∃ o,σ1=o::js.map fun j=>(σ[j]?).join)/\ys.length=i/\J3 H ys (tss.take i)/\ax H1 H/\H D=some (.lst ys),
  ⟨xs.length,by simp,bH _,⟨none,rfl⟩,rfl,.nil,(ax.refl H1).gu hD,aB⟩,?_⟩
 rintro i m ys σ1 H ⟨rfl,hi,⟨o,rfl⟩,hy,hg,sH,hL⟩;refine⟨hL,by left,?_⟩
 by_cases hlt:i<xs.length
 ·have e:xs[i]?=some xs[i]:=b9 hlt;have e2:tss[i]?=some (tss[i]'(by left)):=b9 _;obtain⟨go,yl⟩:=(hJ H sH).1 i xs[i] e;refine .inr ⟨go,fun x H' y=>?_⟩;obtain⟨q1,q2⟩:=yl x H' y;subst q1 q2;show te (some xs[i]::js.map fun j=>(σ[j]?).join) H' _;refine he i _ _ e e2 H' sH _ fun p H4 w4 s4 hp=>?_;have hL4:=s4 _ _ hL;have pD:p≠D:=(bK hL w4).symm;refine⟨hL4,xs.length-(i+1),by left,rfl,hlt,⟨_,rfl⟩,by rw[aK,hy];rfl,?_,(sH.trans s4).gu hD,aB⟩;rw[hV,e2];refine sU (gB (fun v ts ⟨b,eb,hb⟩=>⟨b,eb,?_⟩) hg) (.cons ⟨p,rfl,by rw[az pD];exact hp⟩ .nil);have h4:=s4 _ _ hb;rw[az (bh h4 hL4 (by intro z;cases z))];exact h4
 ·have e:i=xs.length:=by left
  subst e;rw[di (by left)] at hg;exact .inl ⟨(hJ H sH).2 _ (aq _),q D ys H hD sH hL hg⟩
def F0 (H:Hp) (z:Key):∃ t,fT H (kV z)=some t:=by
 cases z with
 | inl i=>exact⟨.int,rfl⟩
 | inr s=>exact⟨.str,rfl⟩
def ku {f:Ben->α}{es:List Ben}{x e:Ben} (hn:(es.map f).Nodup) (hx:x∈es) (he:e∈es) (h:f x=f e):x=e:=by
 obtain⟨i,hi,rfl⟩:=List.getElem_of_mem hx;obtain⟨j,hj,rfl⟩:=List.getElem_of_mem he;have:=List.pairwise_iff_getElem.mp hn;rcases Nat.lt_trichotomy i j with l | l | l
 ·exact absurd (by rw[List.getElem_map,List.getElem_map];exact h) (this i j (by rw[ak];exact hi) (by rw[ak];exact hj) l)
 ·subst l;rfl
 ·exact absurd (by rw[List.getElem_map,List.getElem_map];exact h.symm) (this j i (by rw[ak];exact hj) (by rw[ak];exact hi) l)
def wH {p:Addr} (hp:H p=some (.tup (ks.map kV))) (ok:eu ks):fT H (.ref p)=some Tg.tup/\∀ q xs,V.ref p=.ref q->H q=some (.tup xs)->xs.length<=1000/\∀ y∈xs,(∃ t,fT H y=some t)/\∀ z,y=.str z->z.length<=10000:=by refine⟨by show mF (H p)=_;rw[hp];rfl,fun q xs e e2=>?_⟩;cases e;rw[hp] at e2;cases e2;refine⟨by rw[ak];have:=ok.few;left,fun y hy=>⟨?_,fun z ez=>ok.short z (by rw[←ez];exact hy)⟩⟩;obtain⟨x,_,rfl⟩:=aD.mp hy;exact F0 H x
def Dw (c:Int):Int:=(c%10^60*314159265358979323846264338327950288419716939937510582097494+27182818284590452353602874713527)%(10^60+7)
def tU (c:Int):0<=Dw c:=dC _ Zd
def Eh:∀ i:Nat,i<26->(Str.ofString "abcdefghijklmnopqrstuvwxyz").cps.toList[i]?=some (97+i):=by nofun
def yw:Str:="Editions.put.<locals>.<lambda>"
def Bar (spf:Sp) (bar:Int->Bool) (H:Hp):Prop:=∀ (n:Int) (H':Hp) (Q:VK),ax H H'->(∀ H'',ax H' H''->Q (.bl (bar n)) H'')->spf [.int n] H' Q XF
def Bar.same {spf:Sp}{bar:Int->Bool}{H H':Hp} (b:Bar spf bar H) (s:ax H H'):Bar spf bar H':=fun n G Q t k=>b n G Q (s.trans t) k
structure km (ns:Zb) (bar:Int->Bool) (n:Int):Prop where
 pos:0<=n
 out:n∉ns
 fr:bar n=false
 all:∀ m,0<=m->m<n->m∈ns∨bar m=true
def edF (b cl sd:Addr) (day:Int):List (Str×V):=[("current",.ref b),("changes",.ref cl),("struck",.ref sd),("latest",.int day)]
def ja (al:Za) (ws:Zb) (r:Int):Za:=[99,111,100,101,32]++al++[32]++Mk.cz 44 (ws.map fun w=>Mk.dgN w.toNat)++[32]++Mk.dgN r.toNat
def vq:List Key->Za
 | [.inr z,.inr y]=>if z=("phrase":Str) then [32,61,32]++y.cps.toList else [32,43,32]++y.cps.toList
 | _=>[32,46]
def wdL (al:Za) (ws:Zb) (r:Int) (k:Int):Za:=Mk.jF al (Mk.kj al.length ws r k)
def mD (al:Za) (ws:Zb) (r:Int) (m:Ben):Za:=wdL al ws r m.num++vq m.key
def pS (al:Za) (ws:Zb) (r:Int) (ms:List Ben):Za:=Mk.cz 10 (ja al ws r::ms.map (mD al ws r))
def pY (ok:eu key):key=[.inr ("end":Str)]∨(∃ l,key=[.inr ("phrase":Str),.inr (tx l)]/\ju 6 l=true/\l.length<=10000)∨∃ l,key=[.inr ("part":Str),.inr (tx l)]/\dS 6 l=true/\l.length<=10000:=by
 have h:=ok.is;have hs:=ok.short
 match key,h,hs with
 | [.inr z],h,_=>exact .inl (by rw[lL (show decide (z=("end":Str))=true from h)])
 | [.inr z,.inr y],h,hs =>
  have hl:y.cps.toList.length<=10000:=by rw[show y.cps.toList.length=y.length from by show _=y.cps.size;simp];exact hs y (by simp [kV])
  have h':(if z=("phrase":Str) then ju 6 y.cps.toList else if z=("part":Str) then dS 6 y.cps.toList else false)=true:=h;split at h'
  ·rename_i e
   exact .inr (.inl ⟨y.cps.toList,by rw[e,nE],h',hl⟩)
  ·split at h'
   ·rename_i e
    exact .inr (.inr ⟨y.cps.toList,by rw[e,nE],h',hl⟩)
   ·cases h'
 | [.inr z,.inl y],h,_ =>
  have h':(if z=("phrase":Str) then false else if z=("part":Str) then false else false)=true:=h;split at h'
  ·cases h'
  ·split at h'<;>cases h'
 | [],h,_=>cases h
 | [.inl _],h,_=>cases h
 | .inl _::_::_,h,_=>cases h
 | .inr _::_::_::_,h,_=>cases h
def AM (hws:∀ w∈ws,0<=w/\w<26) (w8:ws.length<=8):(Mk.cz 44 (ws.map fun w=>Mk.dgN w.toNat)).length<=24:=by
 have h1:=Mk.oB (c:=44) (ws.map fun w=>Mk.dgN w.toNat);have h2:((ws.map fun w=>Mk.dgN w.toNat).map fun w=>w.length+1).sum<=3*ws.length:=by
  clear h1 w8
  induction ws with
  | nil=>simp
  | cons w r ih =>have h3:=ih (fun x hx=>hws x (bD _ hx));have h5:=hws w bq;have h4:=(Mk.ip w.toNat (by left)).2.1;simp only[bp,iL,aN] at h3 h4 ⊢;left
 left
def BX {r g:Int} (ok:cO al ws r) (h0:0<=g) (h1:g<bX al ws):(wdL al ws r g).length=ws.length/\(∀ c∈wdL al ws r g,97<=c/\c<123)/\Mk.i8 al ws r (wdL al ws r g)=true/\Mk.numOf al.length (Mk.plc al (wdL al ws r g).dropLast)=g:=by
 have a3:=ok.a3;have a26:=ok.a26;have w3:=ok.w3;have hl:=Mk.DW (m:=(al.length:Int)) (r:=r) (k:=g) (ws:=ws) (by left);have hm:=Mk.DX (m:=(al.length:Int)) (r:=r) (k:=g) (ws:=ws) (by left) (by left) ok.wm ok.safe (by left);have hg:=Mk.AN (m:=(al.length:Int)) (r:=r) (k:=g) (ws:=ws) (by left) (by left) ok.wm ok.safe (by left);have hn:=Mk.DY (m:=(al.length:Int)) (r:=r) (k:=g) (ws:=ws) (by left) h0 h1;unfold wdL;refine⟨by rw[Mk.sC,hl],fun c hc=>?_,by rw[Mk.zS ok.nd hl hm];exact hg,?_⟩
 ·unfold Mk.jF at hc;obtain⟨x,hx,rfl⟩:=aD.mp hc;have:=hm x hx;refine ok.abc _ ?_;rw[cp,b9 (show x.toNat<al.length by left)];exact nS _
 ·have e:(Mk.jF al (Mk.kj al.length ws r g)).dropLast=Mk.jF al (Mk.kj al.length ws r g).dropLast:=by unfold Mk.jF;rw[List.map_dropLast]
  rw[e,Mk.rZ ok.nd (fun p hp=>hm p (List.dropLast_subset _ hp))];exact hn
def sO (c:Nat) (l:Za):Mk.cz c (Mk.cc c l)=l:=by have h:=StrLaws.join_split (tx l) (tx [c]);rw[zc,pM] at h;exact vi h
def wG (l:Za):vq [.inr (Str.ofString "phrase"),.inr (tx l)]=[32,61,32]++l:=by simp [vq,ck]
def wF (l:Za):vq [.inr (Str.ofString "part"),.inr (tx l)]=[32,43,32]++l:=by
 have:¬ Str.ofString "part"=Str.ofString "phrase":=by decide
 simp [vq,this,ck]
def DV {n:Nat}{l:Za} (h:ju n l=true):l.length<=21*n/\∀ c∈l,c=32∨(97<=c/\c<123):=by
 unfold ju at h;rw[cm,cj,bP] at h;have hw:∀ w∈Mk.cc 32 l,w.length<=20/\∀ c∈w,97<=c/\c<123:=fun w hw=>by have:=h.2 w hw;unfold dS at this;simp only[cm,cj,bP] at this;exact⟨this.1.2,this.2⟩
 refine⟨?_,fun c hc=>?_⟩
 ·have:=(Fx h.1 fun w hx=>(hw w hx).1).1
  rwa [sO] at this
 ·rw[←sO 32 l] at hc;have mj:∀ (ls:List (Za)),c∈Mk.cz 32 ls->c=32∨∃ w∈ls,c∈w:=by
   intro ls
   induction ls with
   | nil=>intro h;cases h
   | cons a r ih =>
    intro h;cases r with
    | nil=>exact .inr ⟨a,bq,h⟩
    | cons b r =>
     rcases bI.mp (show c∈a++32::Mk.cz 32 (b::r) from h) with h | h
     ·exact .inr ⟨a,bq,h⟩
     ·rcases aJ.mp h with h | h
      ·exact .inl h
      ·rcases ih h with h | ⟨w,hw,h⟩
       ·exact .inl h
       ·exact .inr ⟨w,bD _ hw,h⟩
  rcases mj _ hc with h | ⟨w,hx,h⟩
  ·exact .inl h
  ·exact .inr ((hw w hx).2 c h)
def Dt {n:Nat}{l:Za} (h:dS n l=true):l.length<=n/\∀ c∈l,97<=c/\c<123:=by unfold dS at h;simp only[cm,cj,bP] at h;exact⟨h.1.2,h.2⟩
def yh (ok:eu key):(vq key).length<=130/\10∉vq key:=by
 rcases pY ok with rfl | ⟨l,rfl,h,_⟩ | ⟨l,rfl,h,_⟩
 ·exact⟨Zd,Zd⟩
 ·obtain⟨h1,h2⟩:=DV h;rw[wG,aK];refine⟨by simp only[aN,cf];left,fun z=>?_⟩;rcases bI.mp z with z | z
  ·revert z;decide
  ·have:=h2 _ z;left
 ·obtain⟨h1,h2⟩:=Dt h;rw[wF,aK];refine⟨by simp only[aN,cf];left,fun z=>?_⟩;rcases bI.mp z with z | z
  ·revert z;decide
  ·have:=h2 _ z;left
def uk {m:Ben} (ok:cO al ws r) (h:eu m.key/\0<=m.num/\m.num<bX al ws):(mD al ws r m).length<=138:=by have:=(BX ok h.2.1 h.2.2).1;have:=(yh h.1).1;have:=ok.w8;unfold mD;rw[aK];left
def rH (ok:cO al ws r):(ja al ws r).length<=60:=by have a26:=ok.a26;have rm:=ok.rm;have h1:=AM (fun w hw=>by have:=ok.wm w hw;exact⟨this.1,by left⟩) ok.w8;have h2:=(Mk.ip r.toNat (by left)).2.1;unfold ja;simp only[aK,aN,cf];left
def GK {ls:List (Za)}{n:Nat} (h:∀ l∈ls,l.length<=n):(ls.map (·.length)).sum<=n*ls.length:=by
 induction ls with
 | nil=>simp
 | cons l r ih =>have h1:=ih fun x hx=>h x (bD _ hx);have h2:=h l bq;simp only[bp,iL,aN];rw[Nat.mul_add];left
def CK:List Key->List V
 | [.inr z,.inr y]=>if z=("phrase":Str) then [.str (tx [61]),.str y] else [.str (tx [43]),.str y]
 | _=>[.str (tx [46])]
def Bf (l:Za):CK [.inr (Str.ofString "phrase"),.inr (tx l)]=[.str (tx [61]),.str (tx l)]:=by simp [CK]
def Be (l:Za):CK [.inr (Str.ofString "part"),.inr (tx l)]=[.str (tx [43]),.str (tx l)]:=by
 have:¬ Str.ofString "part"=Str.ofString "phrase":=by decide
 simp [CK,this]
theorem rP {c d:Nat}:∀ (ls:List (Za)),c∈Mk.cz d ls->c=d∨∃ w∈ls,c∈w
 | [],h=>by cases h
 | [a],h=>.inr ⟨a,bq,h⟩
 | a::b::r,h=>by
  rcases bI.mp (show c∈a++d::Mk.cz d (b::r) from h) with h | h
  ·exact .inr ⟨a,bq,h⟩
  ·rcases aJ.mp h with h | h
   ·exact .inl h
   ·rcases rP (b::r) h with h | ⟨w,hw,h⟩
    ·exact .inl h
    ·exact .inr ⟨w,bD _ hw,h⟩
def sL (ok:cO al ws r):Mk.cc 32 (ja al ws r)=[[99,111,100,101],al,Mk.cz 44 (ws.map fun w=>Mk.dgN w.toNat),Mk.dgN r.toNat]/\10∉ja al ws r:=by
 have a26:=ok.a26;have rm:=ok.rm;have hd:∀ w:Int,0<=w/\w<26->∀ c∈Mk.dgN w.toNat,48<=c/\c<58:=fun w hw=>(Mk.ip w.toNat (by left)).2.2.1;have hr:=hd r (by left);have hj:∀ c∈Mk.cz 44 (ws.map fun w=>Mk.dgN w.toNat),c=44∨(48<=c/\c<58):=fun c hc=>by
  rcases rP _ hc with h | ⟨l,hl,h⟩
  ·exact .inl h
  ·obtain⟨w,hw,rfl⟩:=aD.mp hl;have:=ok.wm w hw;exact .inr (hd w (by left) c h)
 have e:ja al ws r=Mk.cz 32 [[99,111,100,101],al,Mk.cz 44 (ws.map fun w=>Mk.dgN w.toNat),Mk.dgN r.toNat]:=by unfold ja;simp [Mk.cz]
 constructor
 ·rw[e];refine Mk.gI _ (by simp) fun w hw=>?_;simp only[aJ,dh,dm] at hw;rcases hw with rfl | rfl | rfl | rfl
  ·decide
  ·intro h;have:=ok.abc _ h;left
  ·intro h;have:=hj _ h;left
  ·intro h;have:=hr _ h;left
 ·intro h;rw[e] at h;rcases rP _ h with h | ⟨w,hw,hx⟩
  ·left
  ·simp only[aJ,dh,dm] at hw;rcases hw with rfl | rfl | rfl | rfl
   ·revert hx;decide
   ·have:=ok.abc _ hx;left
   ·have:=hj _ hx;left
   ·have:=hr _ hx;left
def wd {m:Ben} (ok:cO al ws r) (h:eu m.key/\0<=m.num/\m.num<bX al ws):(Mk.dB 32 2 [] (mD al ws r m)).map (fun w=>V.str (tx w))=V.str (tx (wdL al ws r m.num))::CK m.key/\10∉mD al ws r m:=by
 obtain⟨w1,w2,_⟩:=BX ok h.2.1 h.2.2;have n32:32∉wdL al ws r m.num:=fun z=>by have:=w2 _ z;left
 constructor
 ·unfold mD;rcases pY h.1 with e | ⟨l,e,hl,_⟩ | ⟨l,e,hl,_⟩
  ·rw[e,show vq [.inr (Str.ofString "end")]=32::[46] from rfl,Mk.i6 1 _ _ _ n32,Mk.nB _ _ _ Zd];rfl
  ·rw[e,wG,Bf,show [32,61,32]++l=32::([61]++32::l) from rfl,Mk.i6 1 _ _ _ n32,Mk.i6 0 _ _ _ (by decide),Mk.dB];rfl
  ·rw[e,wF,Be,show [32,43,32]++l=32::([43]++32::l) from rfl,Mk.i6 1 _ _ _ n32,Mk.i6 0 _ _ _ (by decide),Mk.dB];rfl
 ·intro z;rcases bI.mp z with z | z
  ·have:=w2 _ z;left
  ·exact (yh h.1).2 z
def nk (m:Ben):Int×List Key:=(m.num,m.key)
def KW {a b:List Ben} (h:a.map nk=b.map nk):a.map (·.num)=b.map (·.num):=by
 have:=aV (List.map (·.1)) h
 rwa [aX,aX] at this
def KU {a b:List Ben} (h:a.map nk=b.map nk):a.map (·.key)=b.map (·.key):=by
 have:=aV (List.map (·.2)) h
 rwa [aX,aX] at this
theorem wR:∀ {l l':List (Int×List Key)},l.Perm l'->(l.map (·.1)).Pairwise (·<·)->(l'.map (·.1)).Pairwise (·<·)->l=l'
 | [],l',p,_,_=>(List.nil_perm.mp p).symm
 | a::r,[],p,_,_=>absurd (List.perm_nil.mp p) (by simp)
 | a::r,b::r',p,h1,h2=>by
  obtain⟨a1,a2⟩:=qY.mp h1;obtain⟨b1,b2⟩:=qY.mp h2;have e:a=b:=by
   rcases aJ.mp (p.mem_iff.mp bq) with h | h
   ·exact h
   ·rcases aJ.mp (p.mem_iff.mpr bq) with h' | h'
    ·exact h'.symm
    ·have q1:b.1<a.1:=b1 _ (fh (f:=fun e:Int×List Key=>e.1) h);have q2:a.1<b.1:=a1 _ (fh (f:=fun e:Int×List Key=>e.1) h');left
  subst e;rw[wR (List.Perm.cons_inv p) a2 b2]
def Ez {a b:List Ben} (h:a.map nk=b.map nk):pS al ws r a=pS al ws r b:=by
 have e:∀ l:List Ben,l.map (mD al ws r)=(l.map nk).map fun q=>wdL al ws r q.1++vq q.2:=fun l=>by rw[aX];rfl
 unfold pS;rw[e,e,h]
def IJ {ms' es ms:List Ben} (h:es.map nk=ms.map nk) (mp:ms'.Perm es) (h1:(ms'.map (·.num)).Pairwise (·<·)) (h2:(ms.map (·.num)).Pairwise (·<·)):ms'.map nk=ms.map nk:=by
 have e:∀ l:List Ben,(l.map nk).map (·.1)=l.map (·.num):=fun l=>by rw[aX];rfl
 exact wR ((mp.map nk).trans (by rw[h])) (by rw[e];exact h1) (by rw[e];exact h2)
def Cn {ms:List Ben} (ok:cO al ws r) (h:∀ m∈ms,eu m.key/\0<=m.num/\m.num<bX al ws) (l64:ms.length<64):(pS al ws r ms).length<=100000:=by
 unfold pS;have h1:=Mk.oB (c:=10) (ja al ws r::ms.map (mD al ws r));have h2:∀ (ls:List (Za)),(∀ l∈ls,l.length<=138)->(ls.map fun w=>w.length+1).sum<=139*ls.length:=fun ls=>by
  induction ls with
  | nil=>simp
  | cons l r ih =>intro h;have h1:=ih fun x hx=>h x (bD _ hx);have h2:=h l bq;simp only[bp,iL,aN];rw[Nat.mul_add];left
 have h3:=h2 (ja al ws r::ms.map (mD al ws r)) fun l hl=>by
  rcases aJ.mp hl with rfl | hl
  ·have:=rH ok;left
  ·obtain⟨m,hm,rfl⟩:=aD.mp hl;exact uk ok (h m hm)
 rw[aN,ak] at h3;left
structure LO (al:Za) (ws:Zb) (ms:List Ben):Prop where
 few:ms.length<64
 en:∀ m∈ms,eu m.key/\0<=m.num/\m.num<bX al ws
 up:(ms.map (·.num)).Pairwise (·<·)
 nk:(ms.map (·.key)).Nodup
def tE:Sp:=fun vs H Q _=>∃ x t,vs=[x]/\fT H x=some t/\Q (.bl (decide (t=Tg.int))) H
def yY:aI ["thing"] ["thing"] (av pB):=by subst_eqs
def yF (F:Fun K "is_whole" "is_whole" pB f fd) (T:Bl mg) (AF:AdF K mg Ad) :bS P w K mg base (CX1 P w) 1 f fd ["thing"] tE:=by
 refine F.okX (k:=0) yY ?_ ?_
 ·bv_decide
 ·right;obtain⟨x,t,rfl,ht,k⟩:=h;refine⟨_,aj (aH (ma (aA (e8 .int) T.isinstance bt_isinstance (ah (pvL 0) (ah (iS T.int E4) (aa)))) (md (Lu (aA (e8 .bl) T.isinstance bt_isinstance (ah (pvL 0) (ah (iS T.bool HY) (aa)))))))),?_⟩;ac_nf;refine⟨trivial,t,ht,?_⟩;cases t<;>(simp only[Tg.sub,if_true,fM,m4,reduceCtorEq];first | exact k | exact⟨trivial,_,ht,k⟩)
def kf:Sp:=fun vs H Q _=>∃ a b:Int,vs=[.int a,.int b]/\Q (.int ((Int.gcd a b:Nat):Int)) H
def cV:aI ["one","other","left","right","over"] ["one","other"] (av iw):=by subst_eqs
def ql (F:Fun K "common_divisor" "common_divisor" iw f fd) (T:Bl mg) (AF:AdF K mg Ad) :bS P w K mg base (CX1 P w) 1 f fd ["one","other"] kf:=by
 refine F.okX (k:=0) cV ?_ ?_
 ·bv_decide
 ·right;obtain⟨a,b,rfl,k⟩:=h;refine⟨_,ae (aF (i:=2) cV.nd (aA rG T.abs zp (ah (pvL 0) (aa)))) (ae (aF (i:=3) cV.nd (aA rG T.abs zp (ah (pvL 1) (aa)))) (ae (uQ dD (aP (iu (K:=K) rfl hu) (pvL 3) (au) (aU _)) (ae (aF (i:=4) cV.nd (aR cw (pvL 2) (pvL 3))) (ae (aF (i:=2) cV.nd (pvL 3)) (aj (aF (i:=3) cV.nd (pvL 4)))))) (aj (aH (pvL 2))))),?_⟩;ac_nf;refine xN (fun σ H'=>H'=H/\∃ (l r:Nat) (o:Option V),σ=[some (.int a),some (.int b),some (.int l),some (.int r),o]/\Nat.gcd l r=Int.gcd a b)
   (fun σ _=>match σ with | [_,_,_,some (.int r),_]=>r.toNat | _=>0) ⟨rfl,a.natAbs,b.natAbs,none,rfl,rfl⟩ ?_
  rintro σ H' ⟨rfl,l,r,o,rfl,hg⟩;ac_nf
  by_cases hr0:r=0
  ·subst hr0;rw[Nat.gcd_zero_right] at hg;subst hg;exact k
  ·have e:(!decide ((r:Int)=0))=true:=by simp [hr0]
   rw[ai e];refine⟨_,fun _ _ h=>h,by left,⟨rfl,r,l%r,some (.int ((l%r:Nat):Int)),?_,?_⟩,?_⟩
   ·rw[Int.natCast_emod]
   ·rw[←hg,Nat.gcd_comm l r,Nat.gcd_rec r l,Nat.gcd_comm]
   ·show ((l:Int)%(r:Int)).toNat<((r:Int)).toNat
    have h1:(l:Int)%(r:Int)<r:=eM _ (by left);have h2:0<=(l:Int)%(r:Int):=dC _ (by left);left
def gM (z:Za):Bool:=decide (3<=z.length)&&decide (z.length<=26)&&decide z.Nodup&&z.all fun c=>decide (97<=c/\c<123)
def iC:V->Bool
 | .str z=>gM z.cps.toList
 | _=>false
def nz:Sp:=fun vs H Q _=>∃ (x:V) (t:Tg),vs=[x]/\fT H x=some t/\(∀ z,x=.str z->z.length<=4000)/\∀ H',ax H H'->Q (.bl (iC x)) H'
def uX:aI ["thing"] ["thing"] (av kA):=by subst_eqs
def uK (F:Fun K "is_alphabet" "is_alphabet" kA f fd) (T:Bl mg) (AF:AdF K mg Ad) :bS P w K mg base (CX1 P w) 1 f fd ["thing"] nz:=by
 refine F.okX (k:=0) uX ?_ ?_
 ·bv_decide
 ·right;obtain⟨x,t,rfl,ht,hz,k⟩:=h;refine⟨_,ae (bC ((jd (c9 (cb (aA (e8 .str) T.isinstance bt_isinstance (ah (pvL 0) (ah (iS T.str mG) (aa)))))) (gx (c9 (mV ir ir (au) (aA (bG (K:=K) rfl) T.len cG (ah (pvL 0) (aa))) (au))))).pt) (aj (aH (gP))) (aQ)) (aj (aH (ma (cD (c8 (K:=K) rfl hu) (aA (zq (P:=P) (w:=w) rfl rfl) T.len cG (ah (fB (C8 (P:=P) (w:=w) rfl rfl rfl) T.set Kw (ah (pvL 0) (aa))) (aa))) (aA (bG (K:=K) rfl) T.len cG (ah (pvL 0) (aa))) (aU _)) (md (aA (ig (K:=K) rfl rfl) T.all oU (ah (jc ["sign"] rfl ⟨rfl,by nofun,rfl,by nofun⟩ (.nil) (by nofun) (cE (K:=K) rfl (pvL 0)) (fun _ _ _ _=>aC (i:=0) (show (["sign"]:Ze).Nodup from by nofun)) (fun _ _ _ _=>dv) (fun _ _ _ _=>cD (lZ (K:=K) rfl hu1) (pvL 0) (fV AF.v_SMALL_LETTERS) (by ext))) (aa))))))),?_⟩
  by_cases hs:∃ z,x=.str z
  ·obtain⟨z,rfl⟩:=hs;cases ht;have hl:=hz z rfl;have hc:=dE z;have ek:iC (.str z)=gM z.cps.toList:=rfl;ac_nf;refine⟨trivial,Tg.str,rfl,?_⟩;ac_nf;refine⟨aT (ao (by left)),?_⟩
   by_cases h3:3<=z.length/\z.length<=26
   ·have d1:decide ((3:Int)<=(z.length:Int))=true:=ar (by left);have d2:decide ((z.length:Int)<=26)=true:=ar (by left);rw[d1];bv_omega;rw[d2];bv_omega;refine⟨by left,fun p H1 hp s1 h1=>?_⟩;refine⟨_,h1,aT (ao (by left)),?_⟩
    by_cases hn:z.cps.toList.Nodup
    ·have e1:=(vV z).mpr hn;rw[e1,ar rfl];bv_omega;refine tK (fun c:Nat=>V.str ⟨#[c]⟩) uw (va z) (ao (by left)) (fun c=>.bl (decide (97<=c/\c<123))) ?_ ?_
     ·intro c hc H2 s2 R hR;ac_nf;rw[wN,vC];have e2:decide (c∈List.range' 97 26)=decide (97<=c/\c<123):=iP.mpr (by rw[List.mem_range'_1]);rw[e2];exact hR H2 (ax.refl _)
     ·intro D H2 hD s2 h2;refine⟨D,z.cps.toList.map fun c=>decide (97<=c/\c<123),rfl,.of (by rw[h2,aX];rfl),?_⟩;have e:(z.cps.toList.map fun c=>decide (97<=c/\c<123)).all id=iC (.str z):=by
       rw[ek];unfold gM;rw[ar (show 3<=z.cps.toList.length by left),ar (show z.cps.toList.length<=26 by left),ar hn,fY];rfl
      rw[e];exact k H2 (s1.trans s2)
    ·have e1:decide (((dI (kH z) z.length).length:Int)=(z.length:Int))=false:=ay fun e=>hn ((vV z).mp (by left));rw[e1];bv_omega;have e:iC (.str z)=false:=by rw[ek];unfold gM;rw[ay hn];simp
     rw[e] at k;exact k H1 s1
   ·have e:iC (.str z)=false:=by
     rw[ek];unfold gM
     by_cases h4:3<=z.length
     ·rw[ay (show ¬ z.cps.toList.length<=26 by left)];simp
     ·rw[ay (show ¬ 3<=z.cps.toList.length by left)];simp
    rw[e] at k
    by_cases h4:3<=z.length
    ·have d1:decide ((3:Int)<=(z.length:Int))=true:=ar (by left);have d2:decide ((z.length:Int)<=26)=false:=ay (by left);rw[d1];bv_omega;rw[d2];bv_omega;exact k H (ax.refl _)
    ·have d1:decide ((3:Int)<=(z.length:Int))=false:=ay (by left);rw[d1];bv_omega;exact k H (ax.refl _)
  ·have hv:iC x=false:=by
    cases x with
    | str z=>exact absurd ⟨z,rfl⟩ hs
    | _=>rfl
   have hne:=qL ht fun z e=>hs ⟨z,e⟩;rw[hv] at k;ac_nf;refine⟨trivial,t,ht,?_⟩;cases t<;>first
    | exact absurd rfl hne
    | exact k H (ax.refl _)
def qf (al:Str) (n:Int):V->Bool
 | .str z=>Mk.eS al.cps.toList n z.cps.toList
 | _=>false
def vc:Sp:=fun vs H Q _=>∃ (al:Str) (n:Int) (x:V) (t:Tg),vs=[.str al,.int n,x]/\fT H x=some t/\(∀ z,x=.str z->z.length<=100000)/\∀ H',ax H H'->Q (.bl (qf al n x)) H'
def Ay:aI ["alphabet","length","thing"] ["alphabet","length","thing"] (av si):=by subst_eqs
def Ah (F:Fun K "is_word" "is_word" si f fd) (T:Bl mg) (AF:AdF K mg Ad) :bS P w K mg base (CX1 P w) 1 f fd ["alphabet","length","thing"] vc:=by
 refine F.okX (k:=0) Ay ?_ ?_
 ·bv_decide
 ·right;obtain⟨al,n,x,t,rfl,ht,hz,k⟩:=h;refine⟨_,ae (bC ((jd (c9 (cb (aA (e8 .str) T.isinstance bt_isinstance (ah (pvL 2) (ah (iS T.str mG) (aa)))))) (gx (aP (iu (K:=K) rfl hu) (aA (bG (K:=K) rfl) T.len cG (ah (pvL 2) (aa))) (pvL 1) (aU _)))).pt) (aj (aH (gP))) (aQ)) (aj (aH (aA (ig (K:=K) rfl rfl) T.all oU (ah (jc ["sign"] rfl ⟨rfl,by nofun,rfl,by nofun⟩ (.cons (j:=0) rfl (.inl (by ext)) (.nil)) (by nofun) (cE (K:=K) rfl (pvL 2)) (fun _ _ _ _=>aC (i:=0) (show (["sign","alphabet"]:Ze).Nodup from by nofun)) (fun _ _ _ _=>dv) (fun _ _ _ _=>cD (lZ (K:=K) rfl hu1) (pvL 0) (pvC 1) (by ext))) (aa))))),?_⟩
  by_cases hs:∃ z,x=.str z
  ·obtain⟨z,rfl⟩:=hs;cases ht;have hl:=hz z rfl;ac_nf;refine⟨trivial,Tg.str,rfl,?_⟩;ac_nf;refine⟨aT (ao hl),?_⟩;have hl2:z.cps.toList.length<=100000:=by rw[←dE];exact hl
   by_cases hn:(z.length:Int)=n
   ·rw[af (by simp [hn])];refine tK (fun c:Nat=>V.str ⟨#[c]⟩) uw (va z) (ao hl2) (fun c=>.bl (decide (c∈al.cps.toList))) ?_ ?_
    ·intro c hc H2 s2 R hR;ac_nf;rw[wN];exact hR H2 (ax.refl _)
    ·intro D H2 hD s2 h2;refine⟨D,z.cps.toList.map fun c=>decide (c∈al.cps.toList),rfl,.of (by rw[h2,aX];rfl),?_⟩;have e:(z.cps.toList.map fun c=>decide (c∈al.cps.toList)).all id=qf al n (.str z):=by
      show _=Mk.eS al.cps.toList n z.cps.toList;unfold Mk.eS;rw[ar (by rw[←dE];exact hn),dQ,fY];rfl
     rw[e];exact k H2 s2
   ·rw[ai (by simp [hn])];have e:qf al n (.str z)=false:=by
     show Mk.eS al.cps.toList n z.cps.toList=false;unfold Mk.eS;rw[ay (by rw[←dE];exact hn),jr]
    rw[e] at k;exact k H (ax.refl _)
  ·have hv:qf al n x=false:=by
    cases x with
    | str z=>exact absurd ⟨z,rfl⟩ hs
    | _=>rfl
   have hne:=qL ht fun z e=>hs ⟨z,e⟩;rw[hv] at k;ac_nf;refine⟨trivial,t,ht,?_⟩;cases t<;>first
    | exact absurd rfl hne
    | exact k H (ax.refl _)
def my:Sp:=fun vs H Q _=>∃ al w:Str,vs=[.str al,.str w]/\w.length<=100000/\(∀ c∈w.cps.toList,c∈al.cps.toList)/\∀ p H',H p=none->ax H H'->H' p=some (.lst ((Mk.plc al.cps.toList w.cps.toList).map V.int))->Q (.ref p) H'
def xH:aI ["alphabet","word"] ["alphabet","word"] (av nr):=by subst_eqs
def xo (F:Fun K "places_of" "places_of" nr f fd) (T:Bl mg) (AF:AdF K mg Ad) :bS P w K mg base (CX1 P w) 1 f fd ["alphabet","word"] my:=by
 refine F.okX (k:=0) xH ?_ ?_
 ·bv_decide
 ·right;obtain⟨al,z,rfl,hl,hm,k⟩:=h;refine⟨_,aj (aH (jc ["letter"] rfl ⟨rfl,by nofun,rfl,by nofun⟩ (.cons (j:=0) rfl (.inl (by ext)) (.nil)) (by nofun) (cE (K:=K) rfl (pvL 1)) (fun _ _ _ _=>aC (i:=0) (show (["letter","alphabet"]:Ze).Nodup from by nofun)) (fun _ _ _ _=>dv) (fun _ _ _ _=>eD (K:=K) rfl gj PySem.F.slot_str_index PySem.F.type_str_index Dx (pvC 1) (ah (pvL 0) (aa))))),?_⟩;ac_nf;have hl2:z.cps.toList.length<=100000:=by rw[←dE];exact hl
  refine tK (fun c:Nat=>V.str ⟨#[c]⟩) uw (va z) (ao hl2) (fun c=>.int ((al.cps.toList.idxOf c:Nat):Int)) ?_ ?_
  ·intro c hc H2 s2 R hR;ac_nf;rw[EY (hm c hc)];exact⟨rfl,Int.natCast_nonneg _,hR H2 (ax.refl _)⟩
  ·intro D H2 hD s2 h2;refine k D H2 hD s2 ?_;rw[h2];unfold Mk.plc;rw[aX];rfl
def vd:Sp:=fun vs H Q _=>∃ (al:Str) (q:Addr) (ps:Zb),vs=[.str al,.ref q]/\al.length<=1000/\H q=some (.lst (ps.map V.int))/\ps.length<=1000/\(∀ p∈ps,0<=p/\p<al.cps.toList.length)/\∀ H',ax H H'->Q (.str (tx (Mk.jF al.cps.toList ps))) H'
def Az:aI ["alphabet","places"] ["alphabet","places"] (av sr):=by subst_eqs
def Ak (F:Fun K "spelled" "spelled" sr f fd) (T:Bl mg) (AF:AdF K mg Ad) :bS P w K mg base (CX1 P w) 1 f fd ["alphabet","places"] vd:=by
 refine F.okX (k:=0) Az ?_ ?_
 ·bv_decide
 ·right;obtain⟨al,q,ps,rfl,hal,hq,hl,hm,k⟩:=h;refine⟨_,aj (aH (eD (K:=K) rfl gj rk rq (qi (K:=K) rfl) (aO) (ah (jc ["place"] rfl ⟨rfl,by nofun,rfl,by nofun⟩ (.cons (j:=0) rfl (.inl (by ext)) (.nil)) (by nofun) (cE (K:=K) rfl (pvL 1)) (fun _ _ _ _=>aC (i:=0) (show (["place","alphabet"]:Ze).Nodup from by nofun)) (fun _ _ _ _=>dv) (fun _ _ _ _=>b7 (cn (K:=K) rfl) (pvC 1) (pvL 0) (fun _ _=>rfl))) (aa)))),?_⟩;ac_nf;refine⟨by rfl,.inl ⟨⟨_,.of hq⟩,tK V.int gr (fX (.of hq)) (ao (by left)) (fun x=>.str (tx [al.cps.toList.getD x.toNat 0])) ?_ ?_⟩⟩
  ·intro x hx H5 t5 R hR;ac_nf;refine⟨aT (ao (by left)),_,jv (hm x hx).1 (Mk.getD_at (hm x hx)),?_⟩;exact hR H5 (ax.refl _)
  ·intro D H5 hD t5 h5;ac_nf;refine⟨(Mk.jF al.cps.toList ps).map fun c=>tx [c],Fz (by rw[h5];unfold Mk.jF;rw[aX];rfl),Fy (by rw[Mk.sC];left),?_⟩;rw[Bo];exact k H5 t5
inductive ke (vs:List V) (H:Hp) (Q:VK) (E:XK):Prop
 | mk (m:Int) (p:Addr) (ws:Zb) (r:Int) (q:Addr) (ps:Zb) (q0:vs=[.int m,.ref p,.int r,.ref q]) (q1:0<m) (q2:H p=some (.lst (ws.map V.int))) (q3:H q=some (.lst (ps.map V.int))) (q4:ws.length<=100000) (q5:Mk.sml ws) (q6:Mk.sml ps) (q7:∀ H',ax H H'->Q (.bl (Mk.good m ws r ps)) H'):ke vs H Q E
def tf:aI ["m","weights","rest","places","total"] ["m","weights","rest","places"] (av pq):=by subst_eqs
def yA (F:Fun K "are_good" "are_good" pq f fd) (T:Bl mg) (AF:AdF K mg Ad) :bS P w K mg base (CX1 P w) 1 f fd ["m","weights","rest","places"] ke:=by
 refine F.okX (k:=0) tf ?_ ?_
 ·bv_decide
 ·right;obtain⟨m,p,ws,r,q,ps,rfl,hm,hp,hq,hl,hb,hb2,k⟩:=h;refine⟨_,ae (aF (i:=4) tf.nd (aA (CC (K:=K) rfl rfl) T.sum Kx (ah (jc ["weight","place"] rfl ⟨rfl,by nofun,rfl,by nofun⟩ (.nil) (by nofun) (Bx (K:=K) rfl T.zip (ah (pvL 1) (ah (pvL 3) (aa)))) (fun _ _ _ _=>jg (K:=K) (n:=2) rfl rfl (aY (aC (i:=0) (show (["weight","place"]:Ze).Nodup from by nofun)) (aY (aC (i:=1) (show (["weight","place"]:Ze).Nodup from by nofun)) (eT)))) (fun _ _ _ _=>dv) (fun _ _ _ _=>aR oF (pvL 0) (pvL 1))) (aa)))) (aj (aH (cD (c8 (K:=K) rfl hu) (aR cw (aR qr (pvL 4) (pvL 2)) (pvL 0)) (au) (aU _)))),?_⟩;ac_nf;refine⟨⟨_,.of hp⟩,⟨_,.of hq⟩,Mi V.int V.int gr gr (.of hp) (.of hq) (ao hl) (fun a b=>.int (a*b)) ?_ ?_⟩
  ·intro a b hab H2 s2 R hR;ac_nf;exact⟨zt (hb a (iK hab).1) (hb2 b (iK hab).2),hR H2 (ax.refl _)⟩
  ·intro D H2 hD s2 h2;ac_nf;refine⟨D,(ws.zip ps).map fun x=>x.1*x.2,rfl,.of (by rw[h2,aX];rfl),?_⟩;rw[Mk.Bb];ac_nf;exact⟨hm,k H2 s2⟩
def i3 (Ad:Ads):Sp:=fun vs H Q _=>∃ (a:Addr) (al:Za) (ws:Zb) (r:Int),vs=[.ref a]/\dq Ad H a al ws r/\Q (.str (tx al)) H
def su:aI ["self"] ["self"] (av iU):=by subst_eqs
def rR (F:Fun K "alphabet" "Code.alphabet" iU f fd) (T:Bl mg) (AF:AdF K mg Ad) :bS P w K mg base (CX1 P w) 1 f fd ["self"] (i3 Ad):=by
 refine F.okX (k:=0) su ?_ ?_
 ·bv_decide
 ·right;obtain⟨a,al,ws,r,rfl,⟨dx,q,h1,h2⟩,k⟩:=h;refine⟨_,aj (aH (b8 (K:=K) rfl (pvL 0))),?_⟩;ac_nf;exact⟨_,dx,_,_,h1,AF.c_Code,AF.n_Code_letters,dU al q r,k⟩
def m7 (Ad:Ads):Sp:=fun vs H Q _=>∃ (a:Addr) (al:Za) (ws:Zb) (r:Int),vs=[.ref a]/\dq Ad H a al ws r/\nw H (.lst (ws.map V.int)) Q
def tQ:aI ["self"] ["self"] (av j8):=by subst_eqs
def tM (F:Fun K "weights" "Code.weights" j8 f fd) (T:Bl mg) (AF:AdF K mg Ad) :bS P w K mg base (CX1 P w) 1 f fd ["self"] (m7 Ad):=by
 refine F.okX (k:=0) tQ ?_ ?_
 ·bv_decide
 ·right;obtain⟨a,al,ws,r,rfl,⟨dx,q,h1,h2⟩,k⟩:=h;refine⟨_,aj (aH (fB (lU (K:=K) rfl rfl) T.list pT (ah (b8 (K:=K) rfl (pvL 0)) (aa)))),?_⟩;ac_nf;exact⟨_,dx,_,_,h1,AF.c_Code,AF.n_Code_factors,fU al q r,_,.inl (.l h2),k⟩
def qF (Ad:Ads):Sp:=fun vs H Q _=>∃ (a:Addr) (al:Za) (ws:Zb) (r:Int),vs=[.ref a]/\dq Ad H a al ws r/\Q (.int r) H
def xG:aI ["self"] ["self"] (av mX):=by subst_eqs
def xf (F:Fun K "rest" "Code.rest" mX f fd) (T:Bl mg) (AF:AdF K mg Ad) :bS P w K mg base (CX1 P w) 1 f fd ["self"] (qF Ad):=by
 refine F.okX (k:=0) xG ?_ ?_
 ·bv_decide
 ·right;obtain⟨a,al,ws,r,rfl,⟨dx,q,h1,h2⟩,k⟩:=h;refine⟨_,aj (aH (b8 (K:=K) rfl (pvL 0))),?_⟩;ac_nf;exact⟨_,dx,_,_,h1,AF.c_Code,AF.n_Code_remainder,iQ al q r,k⟩
def eZ (Ad:Ads):Sp:=fun vs H Q _=>∃ (a:Addr) (al:Za) (ws:Zb) (r:Int),vs=[.ref a]/\dq Ad H a al ws r/\al.length<=26/\1<=ws.length/\ws.length<=8/\∀ H',ax H H'->Q (.int ((al.length:Int)^(ws.length-1))) H'
def jm:aI ["self","product","weight"] ["self"] (av gH):=by subst_eqs
def xc (F:Fun K "many" "Code.many" gH f fd) (T:Bl mg) (AF:AdF K mg Ad) :pO P w K mg base (CX1 P w) 1 f fd ["self"] (eZ Ad):=by
 refine F.okN (k:=0) jm ?_ (fun cdv A outer s H vs Q E hr hin h=>?_)
 ·bv_decide
 ·obtain⟨a,al,ws,r,rfl,⟨dx,q,h1,h2⟩,h26,hw1,hw8,k⟩:=h;have hu:=hr.fJ;have hu1:=hr.Hr;refine⟨_,ae (aF (i:=1) jm.nd (au)) (ae (BB PassesOwn.never (Gp (K:=K) rfl (iF (tj (K:=K) rfl) (b8 (K:=K) rfl (pvL 0)) (jh (au)) (me))) (aC (i:=2) jm.nd) (aj (aF (i:=1) jm.nd (aR oF (pvL 1) (aA (bG (K:=K) rfl) T.len cG (ah (b8 (K:=K) rfl (pvL 0)) (aa))))))) (aj (aH (pvL 1)))),?_⟩;symm;rw[dH];symm;rw[dH];symm;refine⟨_,dx,_,_,h1,AF.c_Code,AF.n_Code_factors,fU al q r,?_⟩;symm;refine⟨_,.of h2,fun p H1 hp s1 h3=>⟨⟨_,.of h3⟩,?_⟩⟩;rw[show (1:Int)=((1:Nat):Int) from rfl,jt,←nU] at h3;refine Fd (xs:=(ws.drop 1).map V.int) (fun i σ H'=>H'=H1/\∃ o,σ=[some (.ref a),some (.int ((al.length:Int)^i)),o]) ?_ ?_ ?_ ?_ ?_
  ·exact⟨rfl,none,by simp⟩
  ·rintro σ H' ⟨rfl,_⟩;exact hin.same s1
  ·rintro i σ H' _ ⟨rfl,_⟩;exact .of h3
  ·rintro i x σ H' hx ⟨rfl,o,rfl⟩ N hNx;have hi:i<ws.length-1:=by
    have:=(bN.mp hx).1;rw[ak,cR] at this;exact this
   ac_nf;refine⟨_,dx,_,_,s1 _ _ h1,AF.c_Code,AF.n_Code_letters,dU al q r,?_⟩;ac_nf;rw[bM];refine⟨aT (ao (by left)),⟨?_,bE (show ((al.length:Int)).natAbs<1000 by left) Zd⟩,hNx _ _ ⟨rfl,some x,?_⟩⟩
   ·have e:(((al.length:Int))^i).natAbs=al.length^i:=by rw[Int.natAbs_pow];rfl
    rw[e];refine fi (rh h26 i) (fi (nX Zd (show i<=8 by left)) Zd)
   ·rw[←Int.pow_succ]
  ·rintro σ H' ⟨rfl,o,rfl⟩;rw[ak,cR];ac_nf;exact k _ s1
def jC:Sp:=fun vs H Q _=>∃ (x:V) (t:Tg) (n:Nat),vs=[x,.int n]/\fT H x=some t/\(∀ z,x=.str z->z.length<=100000)/\n<=1000/\∀ H',ax H H'->Q (.bl (i7 n x)) H'
def uV:aI ["thing","most"] ["thing","most"] (av k8):=by subst_eqs
def uI (F:Fun K "are_letters" "are_letters" k8 f fd) (T:Bl mg) (AF:AdF K mg Ad) :bS P w K mg base (CX1 P w) 1 f fd ["thing","most"] jC:=by
 refine F.okX (k:=0) uV ?_ ?_
 ·bv_decide
 ·right;obtain⟨x,t,n,rfl,ht,hz,hn,k⟩:=h;refine⟨_,ae (bC ((jd (c9 (cb (aA (e8 .str) T.isinstance bt_isinstance (ah (pvL 0) (ah (iS T.str mG) (aa)))))) (gx (c9 (mV ir ir (au) (aA (bG (K:=K) rfl) T.len cG (ah (pvL 0) (aa))) (pvL 1))))).pt) (aj (aH (gP))) (aQ)) (aj (aH (aA (ig (K:=K) rfl rfl) T.all oU (ah (jc ["sign"] rfl ⟨rfl,by nofun,rfl,by nofun⟩ (.nil) (by nofun) (cE (K:=K) rfl (pvL 0)) (fun _ _ _ _=>aC (i:=0) (show (["sign"]:Ze).Nodup from by nofun)) (fun _ _ _ _=>dv) (fun _ _ _ _=>cD (lZ (K:=K) rfl hu1) (pvL 0) (fV AF.v_SMALL_LETTERS) (by ext))) (aa))))),?_⟩
  by_cases hs:∃ z,x=.str z
  ·obtain⟨z,rfl⟩:=hs;cases ht;have hl:=hz z rfl;have hc:=dE z;have ek:i7 n (.str z)=dS n z.cps.toList:=rfl;ac_nf;refine⟨trivial,Tg.str,rfl,?_⟩;ac_nf;refine⟨aT (ao (by left)),?_⟩
   by_cases h1:1<=z.length
   ·rw[ar (show (1:Int)<=(z.length:Int) by left)];bv_omega
    by_cases h2:z.length<=n
    ·rw[ar (show (z.length:Int)<=(n:Int) by left)];bv_omega;refine tK (fun c:Nat=>V.str ⟨#[c]⟩) uw (va z) (ao (by left)) (fun c=>.bl (decide (97<=c/\c<123))) ?_ ?_
     ·intro c hc H2 s2 R hR;ac_nf;rw[wN,vC];have e2:decide (c∈List.range' 97 26)=decide (97<=c/\c<123):=iP.mpr (by rw[List.mem_range'_1]);rw[e2];exact hR H2 (ax.refl _)
     ·intro D H2 hD s2 h2';refine⟨D,z.cps.toList.map fun c=>decide (97<=c/\c<123),rfl,.of (by rw[h2',aX];rfl),?_⟩;have e:(z.cps.toList.map fun c=>decide (97<=c/\c<123)).all id=i7 n (.str z):=by
       rw[ek];unfold dS;rw[ar (show 1<=z.cps.toList.length by left),ar (show z.cps.toList.length<=n by left),fY];rfl
      rw[e];exact k H2 s2
    ·have e:i7 n (.str z)=false:=by rw[ek];unfold dS;rw[ay (show ¬ z.cps.toList.length<=n by left)];simp
     rw[e] at k;rw[ay (show ¬ (z.length:Int)<=(n:Int) by left)];bv_omega;exact k H (ax.refl _)
   ·have e:i7 n (.str z)=false:=by rw[ek];unfold dS;rw[ay (show ¬ 1<=z.cps.toList.length by left)];simp
    rw[e] at k;rw[ay (show ¬ (1:Int)<=(z.length:Int) by left)];bv_omega;exact k H (ax.refl _)
  ·have hv:i7 n x=false:=by
    cases x with
    | str z=>exact absurd ⟨z,rfl⟩ hs
    | _=>rfl
   have hne:=qL ht fun z e=>hs ⟨z,e⟩;rw[hv] at k;ac_nf;refine⟨trivial,t,ht,?_⟩;cases t<;>first
    | exact absurd rfl hne
    | exact k H (ax.refl _)
def kh:Sp:=fun vs H Q _=>∃ m:Nat,vs=[.str (tx (Mk.dgN m))]/\m<26/\∀ H',ax H H'->Q (.int m) H'
def qD:aI ["text"] ["text"] (av iz):=by subst_eqs
def qp (F:Fun K "number_written" "number_written" iz f fd) (T:Bl mg) (AF:AdF K mg Ad) :bS P w K mg base (CX1 P w) 1 f fd ["text"] kh:=by
 refine F.okX (k:=0) qD ?_ ?_
 ·bv_decide
 ·right;obtain⟨m,rfl,hm,k⟩:=h;refine⟨_,ae (bC ((jd (c9 (mV ir ir (au) (aA (bG (K:=K) rfl) T.len cG (ah (pvL 0) (aa))) (fV AF.v_MOST_FIGURES))) (gx (c9 (cb (aA (ig (K:=K) rfl rfl) T.all oU (ah (jc ["sign"] rfl ⟨rfl,by nofun,rfl,by nofun⟩ (.nil) (by nofun) (cE (K:=K) rfl (pvL 0)) (fun _ _ _ _=>aC (i:=0) (show (["sign"]:Ze).Nodup from by nofun)) (fun _ _ _ _=>dv) (fun _ _ _ _=>cD (lZ (K:=K) rfl hu1) (pvL 0) (fV AF.v_FIGURES) (by ext))) (aa))))))).pt) (aj (aH (dW))) (aQ)) (ae (bC ((mW (aP Le (aA (bG (K:=K) rfl) T.len cG (ah (pvL 0) (aa))) (au) (aU _)) (jZ (aP (c8 (K:=K) rfl hu) (b7 (cn (K:=K) rfl) (pvL 0) (au) (fun _ _=>rfl)) (aO) (aU _)))).pt) (aj (aH (dW))) (aQ)) (aj (aH (fB Cr T.int E4 (ah (pvL 0) (aa)))))),?_⟩;obtain⟨d1,d2,d3,d4⟩:=Mk.ip m hm;have l9:(tx (Mk.dgN m)).length<=sizeLine:=aT (ao (by rw[bM];left));grind;refine⟨l9,?_⟩;rw[ar (by rw[bM];left),ar (by rw[bM];left)];bv_omega;refine tK (fun c:Nat=>V.str ⟨#[c]⟩) uw (va (tx (Mk.dgN m))) (ao (by rw[ck];left)) (fun c=>.bl true) ?_ ?_
  ·intro c hc H2 s2 R hR;rw[ck] at hc;have h48:=d3 c hc;ac_nf;rw[wN,ar (show c∈(Str.ofString "0123456789").cps.toList by
    rw[show (Str.ofString "0123456789").cps.toList=List.range' 48 10 from rfl,List.mem_range'_1];left)]
   exact hR H2 (ax.refl _)
  ·intro D H2 hD s2 h2';refine⟨D,(Mk.dgN m).map fun _=>true,rfl,.of (by rw[h2',ck,aX];rfl),?_⟩;rw[show ((Mk.dgN m).map fun _=>true).all id=true from by rw[fY];exact bP.mpr fun _ _=>rfl];bv_omega;cbv;have fin:∀ H3,ax H2 H3->∃ m':Nat,tx (Mk.dgN m)=tx (Mk.dgN m')/\m'<1000000000/\Q (.int m') H3:=fun H3 s3=>⟨m,rfl,by left,k H3 (s2.trans s3)⟩;grind;refine⟨l9,?_⟩
   by_cases h2:(Mk.dgN m).length=2
   ·rw[ar (by rw[bM];left)];bv_omega;obtain⟨c,hc⟩:∃ c,(Mk.dgN m)[0]?=some c:=⟨_,b9 (by left)⟩;refine⟨l9,c,?_,?_⟩
    ·rw[ck];exact bf hc
    rw[ay (fun e=>d4 h2 (by rw[hc];have:=aV (fun z:Str=>z.cps.toList) e;exact aV some (List.head_eq_of_cons_eq (show [c]=[48] from this))))];bv_omega;show nn _ _ _;cbv;symm;exact fin H2 (ax.refl _)
   ·rw[ay (by rw[bM];left)];bv_omega;show nn _ _ _;cbv;symm;exact fin H2 (ax.refl _)
def gW (Ad:Ads):Sp:=fun vs H Q _=>∃ (b dx ca:Addr),vs=[.ref b,.ref ca]/\H b=some (.ins Ad.Book dx [])/\∀ dn de H',H dn=none->H de=none->dn≠de->dn≠b->de≠b->(∀ c u,c≠b->H c=some u->H' c=some u)->H' b=some (.ins Ad.Book dx (sI ca dn de))->H' dn=some (.dK [])->H' de=some (.dT [])->Q .non H'
def xF:aI ["self","code"] ["self","code"] (av gE):=by subst_eqs
def wZ (F:Fun K "__init__" "Book.__init__" gE f fd) (T:Bl mg) (AF:AdF K mg Ad) :bS P w K mg base (CX1 P w) 1 f fd ["self","code"] (gW Ad):=by
 refine F.okX (k:=0) xF ?_ ?_
 ·bv_decide
 ·right;obtain⟨b,dx,ca,rfl,hb,k⟩:=h;refine⟨_,ae (gR (K:=K) rfl (pvL 0) (pvL 1)) (ae (gR (K:=K) rfl (pvL 0) (iE)) (aj (gR (K:=K) rfl (pvL 0) (DF)))),?_⟩;ac_nf;refine⟨_,_,_,hb,AF.c_Book,AF.n_Book_basis,Zd,fun p G1 z1 t1 g1=>?_⟩;have np1:p≠b:=fun e=>by rw[e,aB] at z1;cases z1
  have hb1:=t1 b _ aB;refine⟨_,_,_,hb1,AF.c_Book,AF.n_Book_by_number,fi (aq 1) Zd,fun p2 G2 z2 t2 g2=>?_⟩;have np2:p2≠b:=fun e=>by rw[e,aB] at z2;cases z2
  have hb2:=t2 b _ aB;have k1:∀ c u,c≠b->H c=some u->G1 c=some u:=fun c u hc h=>t1 c u (by rw[az hc];exact h);have k2:∀ c u,c≠b->G1 c=some u->G2 c=some u:=fun c u hc h=>t2 c u (by rw[az hc];exact h);have ne:p≠p2:=fun e=>by rw[←e,az np1,g1] at z2;cases z2
  refine⟨_,_,_,hb2,AF.c_Book,AF.n_Book_by_entry,fi (aq 2) Zd,k p p2 _ ?_ ?_ ne np1 np2 (fun c u hc h=>by rw[az hc];exact k2 c u hc (k1 c u hc h)) (by rw[aB];rfl) (by rw[az np1];exact k2 _ _ np1 g1) (by rw[az np2];exact g2)⟩
  ·cases e:H p with
   | none=>rfl
   | some o=>rw[az np1,e] at z1;cases z1
  ·cases e:H p2 with
   | none=>rfl
   | some o=>rw[az np2,k1 p2 o np2 e] at z2;cases z2
inductive eX (Ad:Ads) (vs:List V) (H:Hp) (Q:VK) (E:XK):Prop
 | mk (b ca dn de:Addr) (es:List Ben) (q0:vs=[.ref b]) (q1:cq Ad H b ca dn de es) (q2:Q (.ref ca) H):eX Ad vs H Q E
def xE:aI ["self"] ["self"] (av gC):=by subst_eqs
def wY (F:Fun K "code" "Book.code" gC f fd) (T:Bl mg) (AF:AdF K mg Ad) :pO P w K mg base (CX1 P w) 1 f fd ["self"] (eX Ad):=by
 refine F.okN (k:=0) xE ?_ (fun cdv A outer s H vs Q E hr hin h=>?_)
 ·bv_decide
 ·obtain⟨b,ca,dn,de,es,rfl,B,k⟩:=h;obtain⟨dx,h1⟩:=B.bk;have hu:=hr.fJ;have hu1:=hr.Hr;refine⟨_,aj (aH (b8 (K:=K) rfl (pvL 0))),?_⟩;ac_nf;exact⟨_,dx,_,_,h1,AF.c_Book,AF.n_Book_basis,jT ca dn de,k⟩
inductive fg (Ad:Ads) (vs:List V) (H:Hp) (Q:VK) (E:XK):Prop
 | mk (b ca dn de:Addr) (es:List Ben) (q0:vs=[.ref b]) (q1:cq Ad H b ca dn de es) (q2:es.length<64) (q3:∀ D ws (ms:List Ben) H',H D=none->ax H H'->H' D=some (.lst ws)->ms.Perm es->(ms.map (·.num)).Pairwise (·<·)->Paired (fun v (m:Ben)=>∃ p,v=V.ref p/\H' p=some (.tup [.int m.num,.ref m.adr])) ws ms->Q (.ref D) H'):fg Ad vs H Q E
def tP:aI ["self"] ["self"] (av j7):=by subst_eqs
def tL (F:Fun K "entries" "Book.entries" j7 f fd) (T:Bl mg) (AF:AdF K mg Ad) :bS P w K mg base (CX1 P w) 1 f fd ["self"] (fg Ad):=by
 refine F.okX (k:=0) tP ?_ (fun cdv A outer s H vs Q E hr h=>?_)
 ·bv_decide
 ·obtain⟨b,ca,dn,de,es,rfl,B,h64,k⟩:=h;obtain⟨dx,h1⟩:=B.bk;have hu:=hr.fJ;have hu1:=jW hr;refine⟨_,aj (aH (jc ["number"] rfl ⟨rfl,by nofun,rfl,by nofun⟩ (.cons (j:=0) rfl (.inl (by ext)) (.nil)) (by nofun) (cE (K:=K) rfl (aA (uf rfl) T.sorted vG (ah (b8 (K:=K) rfl (pvC 0)) (aa)))) (fun _ _ _ _=>aC (i:=0) (show (["number","self"]:Ze).Nodup from by nofun)) (fun _ _ _ _=>dv) (fun _ _ _ _=>cx (ah (pvL 0) (ah (qt hu1 (b8 (K:=K) rfl (pvC 1)) (pvL 0)) (aa)))))),?_⟩;ac_nf;refine⟨_,dx,_,_,h1,AF.c_Book,AF.n_Book_by_number,gz ca dn de,?_⟩;ac_nf;refine⟨es.map fun e:Ben=>(e.num,V.ref e.adr),.inl B.hn,by rw[ak];exact h64,fun ns hp hs p G1 z1 t1 g1=>?_⟩;ac_nf;obtain⟨ms,mp,mn,ml⟩:=E7 hp hs B.nn;have nl:(ns.map V.int).length<sizeLine:=ao (by rw[ak,hp.length_eq,ak,ak];left);refine .inl ⟨⟨_,.of g1⟩,Bq (fX (.of g1)) nl (ms.map fun m=>[V.int m.num,V.ref m.adr]) (by rw[ak,ak,←mn,ak]) ?_ ?_⟩
  ·intro i x ts hx hts G2 t2 R hR;rw[bt] at hx hts;obtain⟨m,hm,rfl⟩:=gi.mp hts;have:ns[i]?=some m.num:=by rw[←mn,bt,hm];rfl
   rw[this] at hx;cases hx;have B2:=B.same (t1.trans t2);obtain⟨dx2,h2⟩:=B2.bk;ac_nf;exact⟨_,dx2,_,_,h2,AF.c_Book,AF.n_Book_by_number,gz ca dn de,_,_,rfl,.inl ⟨_,.inl m.num,.inl B2.hn,rfl,(jX B2.nn (mp.mem_iff.mp (bw hm))).symm⟩,aT (ao Zd),fun p2 G3 z3 t3 g3=>hR p2 G3 z3 t3 g3⟩
  ·intro D ws G2 hD t2 g2 hT;refine k D ws ms G2 (t1.free hD) (t1.trans t2) g2 mp ml (mR hT)
def yu (ok:eu ks):∃ us:Ze,ks=us.map Sum.inr/\ks.map kV=us.map V.str:=by
 have h:=ok.is;cases ks with
 | nil=>cases h
 | cons a r =>
  cases a with
  | inl i=>cases h
  | inr z =>
   cases r with
   | nil=>exact⟨[z],rfl,rfl⟩
   | cons y r2 =>
    cases r2 with
    | cons _ _=>cases h
    | nil =>
     cases y with
     | inr y=>exact⟨[z,y],rfl,rfl⟩
     | inl i =>
      exfalso;have h':(if z=("phrase":Str) then false else if z=("part":Str) then false else false)=true:=h;split at h'
      ·cases h'
      ·split at h'<;>cases h'
def GX {us vs:Ze}:us.map (Sum.inr:Str->Key)=vs.map Sum.inr↔us=vs :=
 ⟨fun h=>(qV fun x y e=>Sum.inr.inj e).mp h,fun h=>by rw[h]⟩
def xy {K:Zf}{p q:Addr}{ks ks':List Key} (h1:H p=some (.tup (ks.map kV))) (h2:H q=some (.tup (ks'.map kV))) (o1:eu ks) (o2:eu ks'):RcR K H 0 (.ref p) (.ref q) (decide (ks=ks'))/\EqR K H 1 (.ref p) (.ref q) (decide (ks=ks')):=by
 obtain⟨us,e1,f1⟩:=yu o1;obtain⟨vs,e2,f2⟩:=yu o2;have hd:decide (ks=ks')=decide (us=vs):=by rw[e1,e2,iP];exact GX
 rw[hd];rw[f1] at h1;rw[f2] at h2;refine⟨Jo (.of h1) (.of h2),Ii (.of h1) (.of h2) fun e=>?_⟩;subst e;rw[h1] at h2;have:us.map V.str=vs.map V.str:=by injection h2 with h2;injection h2
 exact (qV fun x y e=>V.str.inj e).mp this
abbrev Lk:=Int->Option (Int×List Key)
def vo (H:Hp) (kvs:List (Key×V)) (lk:Lk):Prop:=∀ n:Int,(dJ kvs (.inl n)=none/\lk n=none)∨∃ (tp ad:Addr) (d:Int) (key:List Key),dJ kvs (.inl n)=some (.ref tp)/\H tp=some (.tup [.int d,.ref ad])/\H ad=some (.tup (key.map kV))/\eu key/\lk n=some (d,key)
def vo.same {H H':Hp}{lk:Lk} (h:vo H kvs lk) (s:ax H H'):vo H' kvs lk:=fun n=>(h n).imp id fun ⟨tp,ad,d,key,h1,h2,h3,h4⟩=>⟨tp,ad,d,key,h1,s _ _ h2,s _ _ h3,h4⟩
def jf (lk:Lk) (day:Int) (key:List Key) (n:Int):Bool:=match lk n with
 | none=>false
 | some (d,k)=>!decide (k=key)&&decide (day-d<31)
def Ex {lk:Lk}{day d n:Int}{key k:List Key} (h:lk n=some (d,k)):jf lk day key n=(!decide (k=key)&&decide (day-d<31)):=by unfold jf;rw[h]
def xR {lk:Lk}{day n:Int} (h:lk n=none):jf lk day key n=false:=by unfold jf;rw[h]
structure Chg where
 day:Int
 num:Int
 ent:Option Addr
def ChP (H:Hp) (v:V) (c:Chg):Prop:=∃ p,v=V.ref p/\H p=some (.tup [.int c.day,.int c.num,c.ent.elim V.non V.ref])
def kI {H H':Hp}{ch:List Chg} (h:Paired (ChP H) cs ch) (s:∀ c xs,H c=some (.tup xs)->H' c=some (.tup xs)):Paired (ChP H') cs ch:=by
 induction h with
 | nil=>exact .nil
 | cons f _ ih=>obtain⟨p,e,q⟩:=f;exact .cons ⟨p,e,s _ _ q⟩ ih
def mQ {α β:Type}{F:α->β->Prop}{a c:List α}{b d:List β} (h:Paired F a b) (h':Paired F c d):Paired F (a++c) (b++d):=by
 induction h with
 | nil=>exact h'
 | cons f _ ih=>exact .cons f ih
structure lQ (Ad:Ads) (H:Hp) (ed b ca dn de cl sd:Addr) (es:List Ben) (lk:Lk) (day:Int) (m:Nat) (ch:List Chg):Prop where
 eF:∃ dx,H ed=some (.ins Ad.Editions dx (edF b cl sd day))
 bF:cq Ad H b ca dn de es
 cF:∃ cs,H cl=some (.lst cs)/\cs.length<=m/\Paired (ChP H) cs ch
 sF:∃ kvs,H sd=some (.dK kvs)/\vo H kvs lk/\kvs.length<=m
 ne:dn≠sd
def lQ.same {Ad:Ads}{H H':Hp}{ed b ca dn de cl sd:Addr}{es:List Ben}{lk:Lk}{day:Int}{m:Nat}{ch:List Chg} (h:lQ Ad H ed b ca dn de cl sd es lk day m ch) (s:ax H H'):lQ Ad H' ed b ca dn de cl sd es lk day m ch:=by obtain⟨⟨dx,h1⟩,h2,⟨cs,h3,h4,h4'⟩,⟨kvs,h5,h6,h7⟩,h8⟩:=h;exact⟨⟨dx,s _ _ h1⟩,h2.same s,⟨cs,s _ _ h3,h4,kI h4' fun c xs e=>s _ _ e⟩,⟨kvs,s _ _ h5,h6.same s,h7⟩,h8⟩
def vo.past {H H':Hp}{lk:Lk} (h:vo H kvs lk) (s:∀ c xs,H c=some (.tup xs)->H' c=some (.tup xs)):vo H' kvs lk:=fun n=>(h n).imp id fun ⟨tp,ad,d,key,h1,h2,h3,h4⟩=>⟨tp,ad,d,key,h1,s _ _ h2,s _ _ h3,h4⟩
def Mg {Ad:Ads}{b ca dn de ed dx bx b' cl sd:Addr} (h:H b=some (.ins Ad.Book bx (sI ca dn de))) (h':H ed=some (.ins Ad.Editions dx (edF b' cl sd l0))):b≠ed:=fun e=>by
 rw[e,h'] at h
 injection h with h
 injection h with _ _ h
 have:=aV (fun l:List (Str×V)=>(l.head?.map (·.1))) h;have:some ("current":Str)=some ("basis":Str):=this;exact absurd this (by decide)
def cq.past {Ad:Ads}{H H':Hp}{b ca dn de ed dx b' cl sd:Addr}{es:List Ben} (B:cq Ad H b ca dn de es) (hed:H ed=some (.ins Ad.Editions dx (edF b' cl sd l0))) (hcl:H cl=some (.lst cs)) (k:∀ c o,c≠ed->c≠cl->H c=some o->H' c=some o):cq Ad H' b ca dn de es:=by obtain⟨⟨bx,h1⟩,h2,h3,h4,h5,h6⟩:=B;exact⟨⟨bx,k _ _ (Mg h1 hed) (bh h1 hcl (by intro z;cases z)) h1⟩,k _ _ (bh h2 hed (by intro z;cases z)) (bh h2 hcl (by intro z;cases z)) h2,k _ _ (bh h3 hed (by intro z;cases z)) (bh h3 hcl (by intro z;cases z)) h3,fun e he=>k _ _ (bh (h4 e he) hed (by intro z;cases z)) (bh (h4 e he) hcl (by intro z;cases z)) (h4 e he),h5,h6⟩
inductive dG (K:Zf) (Ad:Ads) (vs:List V) (H:Hp) (Q:VK) (E:XK):Prop
 | mk (ed dx b cl sd t:Addr) (l0 day n:Int) (kvs:List (Key×V)) (lk:Lk) (key:List Key) (q0:vs=[.ref ed,.int day,.ref t,.int n]) (q1:H ed=some (.ins Ad.Editions dx (edF b cl sd l0))) (q2:H sd=some (.dK kvs)) (q3:vo H kvs lk) (q4:H t=some (.tup (key.map kV))) (q5:eu key) (q6:∀ H',ax H H'->Q (.bl (jf lk day key n)) H'):dG K Ad vs H Q E
def ie:aI ["self","day","entry","number","lately"] ["self","day","entry","number"] (av fE):=by subst_eqs
def mE (F:Fun K "is_barred" "Editions.is_barred" fE f fd) (T:Bl mg) (AF:AdF K mg Ad) :bS P w K mg base (CX1 P w) 1 f fd ["self","day","entry","number"] (dG K Ad):=by
 refine F.okX (k:=0) ie ?_ ?_
 ·bv_decide
 ·right;obtain⟨ed,dx,b,cl,sd,t,l0,day,n,kvs,lk,key,rfl,h1,h2,S,ht,eo,k⟩:=h;have hu9:=hr.hu9;refine⟨_,ae (aF (i:=4) ie.nd (rX hu1 (b8 (K:=K) rfl (pvL 0)) (pvL 3))) (aj (aH (ma (cD kO (pvL 4) (dW) (aU _)) (ma (cD (xq (K:=K) rfl hu9) (b7 (cn (K:=K) rfl) (pvL 4) (au) (fun _ _=>rfl)) (pvL 2) (aU _)) (md (cD ph (aR qr (pvL 1) (b7 (cn (K:=K) rfl) (pvL 4) (au) (fun _ _=>rfl))) (fV AF.v_DAYS_BARRED) (aU _))))))),?_⟩;grind;refine⟨_,dx,_,_,h1,AF.c_Editions,AF.n_Editions_struck,rfl,sd,rfl,.inl ⟨_,.inl h2⟩,_,.inl ⟨_,.inl n,.inl h2,rfl,rfl⟩,?_⟩;cbv;rcases S n with ⟨e1,e2⟩ | ⟨tp,ad,d,key',e1,e2,e3,e4,e5⟩
  ·rw[e1];symm;have:=k H (ax.refl _);unfold jf at this;rw[e2] at this;exact this
  ·rw[e1,show (some (V.ref tp)).getD V.non=V.ref tp from rfl];symm;refine⟨_,_,.inr (.of e2),jv Zd rfl,0,_,Zd,(xy e3 ht e4 eo).1,?_⟩;have kk:=k H (ax.refl _);unfold jf at kk;rw[e5] at kk;have kk:Q (.bl (!decide (key'=key)&&decide (day-d<31))) H:=kk
   by_cases hk:key'=key
   ·rw[ar hk] at kk ⊢;rw[af (by decide)];exact kk
   ·rw[ay hk] at kk ⊢;rw[ai (by decide)];symm;refine⟨_,_,.inr (.of e2),jv Zd rfl,?_⟩;symm;exact kk
inductive cX (Ad:Ads) (vs:List V) (H:Hp) (Q:VK) (E:XK):Prop
 | mk (ed dx b cl sd:Addr) (l0 d:Int) (y z:V) (cs:List V) (q0:vs=[.ref ed,.int d,y,z]) (q1:H ed=some (.ins Ad.Editions dx (edF b cl sd l0))) (q2:H cl=some (.lst cs)) (q3:cs.length<1000) (q4:∀ p H',H p=none->(∀ c o,c≠ed->c≠cl->H c=some o->H' c=some o)->H' ed=some (.ins Ad.Editions dx (edF b cl sd d))->H' p=some (.tup [.int d,y,z])->H' cl=some (.lst (cs++[.ref p]))->Q .non H'):cX Ad vs H Q E
def kS:aI ["self","day","number","entry"] ["self","day","number","entry"] (av eU):=by subst_eqs
def kN (F:Fun K "note_change" "Editions.note_change" eU f fd) (T:Bl mg) (AF:AdF K mg Ad) :bS P w K mg base (CX1 P w) 1 f fd ["self","day","number","entry"] (cX Ad):=by
 refine F.okX (k:=0) kS ?_ ?_
 ·bv_decide
 ·right;obtain⟨ed,dx,b,cl,sd,l0,d,y,z,cs,rfl,h1,h2,hl,k⟩:=h;refine⟨_,ae (dF (eD (K:=K) rfl lH oa oh iq (b8 (K:=K) rfl (pvL 0)) (ah (cx (ah (pvL 1) (ah (pvL 2) (ah (pvL 3) (aa))))) (aa)))) (aj (gR (K:=K) rfl (pvL 0) (pvL 1))),?_⟩;grind;refine⟨_,dx,_,_,h1,AF.c_Editions,AF.n_Editions_changes,rfl,?_,aT (ao Zd),fun p G1 hp t1 g1=>?_⟩
  ·exact .inl ⟨rfl,_,.of h2⟩
  refine⟨cl,cs,_,rfl,rfl,t1 _ _ h2,ao (by left),?_⟩;have nec:ed≠cl:=bh h1 h2 (by intro z;cases z);have npc:p≠cl:=fun e=>by rw[e,h2] at hp;cases hp
  have npe:p≠ed:=fun e=>by rw[e,h1] at hp;cases hp
  have k2:∀ c o,c≠cl->G1 c=some o->upd G1 cl (.lst (cs++[V.ref p])) c=some o:=fun c o hc e=>by rw[az hc];exact e
  have g2:upd G1 cl (.lst (cs++[V.ref p])) cl=some (.lst (cs++[V.ref p])):=aB;generalize upd G1 cl (.lst (cs++[V.ref p]))=G2 at k2 g2;cbv;symm;refine⟨_,dx,_,k2 _ _ nec (t1 _ _ h1),AF.c_Editions,AF.n_Editions_latest,by show 4<1000;decide,?_⟩;exact k p _ hp (fun c o e1 e2 e=>by rw[az e1];exact k2 c o e2 (t1 _ _ e)) aB (by rw[az npe];exact k2 _ _ npc g1) (by rw[az nec.symm];exact g2)
def qH:Sp:=fun vs H Q _=>∃ (w:Za) (p:Addr) (key:List Key),vs=[.str (tx w),.ref p]/\H p=some (.tup (key.map kV))/\eu key/\w.length<=100/\∀ H',ax H H'->Q (.str (tx (w++vq key))) H'
def mq:aI ["word","entry","sign","letters"] ["word","entry"] (av nc):=by subst_eqs
def xj (F:Fun K "entry_row" "entry_row" nc f fd) (T:Bl mg) (AF:AdF K mg Ad) :bS P w K mg base (CX1 P w) 1 f fd ["word","entry"] qH:=by
 refine F.okX (k:=0) mq ?_ ?_
 ·bv_decide
 ·right;obtain⟨w,p,key,rfl,hp,ok,hw,k⟩:=h;refine⟨_,ae (bC (aP (c8 (K:=K) rfl hu) (b7 (cn (K:=K) rfl) (pvL 1) (au) (fun _ _=>rfl)) (aO) (aU _)) (aj (aH (Gi (pj (pvL 0) (rY (Ao)))))) (aQ)) (ae (aF (i:=2) mq.nd (mT (aP (c8 (K:=K) rfl hu) (b7 (cn (K:=K) rfl) (pvL 1) (au) (fun _ _=>rfl)) (aO) (aU _)) (aO) (aO))) (ae (aF (i:=3) mq.nd (b7 (cn (K:=K) rfl) (pvL 1) (au) (fun _ _=>rfl))) (aj (aH (Gi (pj (pvL 0) (rY (pj (pvL 2) (rY (pj (pvL 3) (Ao))))))))))),?_⟩;grind;rcases pY ok with rfl | ⟨l,rfl,_,hl⟩ | ⟨l,rfl,_,hl⟩
  ·refine⟨_,_,.t hp,bf (j:=0) rfl,?_⟩;show vy K (V.str (Str.ofString "end")) (V.str (Str.ofString "end")) H _;symm;rw[ai (ar trivial)];rw[ck];refine⟨by left,by rw[aK];exact bQ (Nat.add_le_add_right hw _) Zd,?_⟩;exact k H (ax.refl _)
  ·refine⟨_,_,.t hp,bf (j:=0) rfl,?_⟩;show vy K (V.str (Str.ofString "phrase")) (V.str (Str.ofString "end")) H _;symm;rw[ay (by decide:¬ Str.ofString "phrase"=Str.ofString "end")];bv_omega;show nn _ _ _;cbv;grind;refine⟨_,_,.t hp,bf (j:=0) rfl,?_⟩;show vy K (V.str (Str.ofString "phrase")) (V.str (Str.ofString "phrase")) H _;symm;rw[ai (ar trivial)];cbv;grind;refine⟨_,_,.t hp,bf (j:=1) rfl,?_⟩;show nn _ [some (V.str (tx w)),some (V.ref p),some (V.str (Str.ofString "=")),some (V.str (tx l))] H;cbv;symm;rw[ck,ck];have e:(Str.ofString " ").cps.toList=[32]:=rfl;have e2:(Str.ofString "=").cps.toList=[61]:=rfl;rw[e,e2];refine⟨by left,by rw[aK];simp only[aN,cf];left,by simp only[aK,aN,cf];left,by simp only[aK,aN,cf];left,by simp only[aK,aN,cf];left,?_⟩;have:=k H (ax.refl _);rw[wG] at this
   simpa using this
  ·refine⟨_,_,.t hp,bf (j:=0) rfl,?_⟩;show vy K (V.str (Str.ofString "part")) (V.str (Str.ofString "end")) H _;symm;rw[ay (by decide:¬ Str.ofString "part"=Str.ofString "end")];bv_omega;show nn _ _ _;cbv;grind;refine⟨_,_,.t hp,bf (j:=0) rfl,?_⟩;show vy K (V.str (Str.ofString "part")) (V.str (Str.ofString "phrase")) H _;symm;rw[ay (by decide:¬ Str.ofString "part"=Str.ofString "phrase"),af Zd];cbv;grind;refine⟨_,_,.t hp,bf (j:=1) rfl,?_⟩;show nn _ [some (V.str (tx w)),some (V.ref p),some (V.str (Str.ofString "+")),some (V.str (tx l))] H;cbv;symm;rw[ck,ck];have e:(Str.ofString " ").cps.toList=[32]:=rfl;have e2:(Str.ofString "+").cps.toList=[43]:=rfl;rw[e,e2];refine⟨by left,by rw[aK];simp only[aN,cf];left,by simp only[aK,aN,cf];left,by simp only[aK,aN,cf];left,by simp only[aK,aN,cf];left,?_⟩;have:=k H (ax.refl _);rw[wF] at this
   simpa using this
def kU:Sp:=fun vs H Q _=>∃ (p:Addr) (key:List Key),vs=[.ref p]/\H p=some (.lst (CK key))/\eu key/\∀ t H',H t=none->ax H H'->H' t=some (.tup (key.map kV))->Q (.ref t) H'
def sy:aI ["parts"] ["parts"] (av iX):=by subst_eqs
def rW (F:Fun K "entry_written" "entry_written" iX f fd) (T:Bl mg) (AF:AdF K mg Ad) :bS P w K mg base (CX1 P w) 1 f fd ["parts"] kU:=by
 refine F.okX (k:=0) sy ?_ ?_
 ·bv_decide
 ·right;obtain⟨p,key,rfl,hp,ok,k⟩:=h;refine⟨_,ae (bC (aP (c8 (K:=K) rfl hu) (pvL 0) (bR (ah (aO) (aa))) (aU _)) (aj (aH (cx (ah (aO) (aa))))) (aQ)) (ae (bC ((mW (aP (c8 (K:=K) rfl hu) (aA (bG (K:=K) rfl) T.len cG (ah (pvL 0) (aa))) (au) (aU _)) (jZ (aP (c8 (K:=K) rfl hu) (b7 (cn (K:=K) rfl) (pvL 0) (au) (fun _ _=>rfl)) (aO) (aU _)))).pt) (aj (aH (cx (ah (aO) (ah (b7 (cn (K:=K) rfl) (pvL 0) (au) (fun _ _=>rfl)) (aa)))))) (aQ)) (ae (bC ((mW (aP (c8 (K:=K) rfl hu) (aA (bG (K:=K) rfl) T.len cG (ah (pvL 0) (aa))) (au) (aU _)) (jZ (aP (c8 (K:=K) rfl hu) (b7 (cn (K:=K) rfl) (pvL 0) (au) (fun _ _=>rfl)) (aO) (aU _)))).pt) (aj (aH (cx (ah (aO) (ah (b7 (cn (K:=K) rfl) (pvL 0) (au) (fun _ _=>rfl)) (aa)))))) (aQ)) (aj (aH (dW))))),?_⟩;have le2:2<=sizeLine:=aT (ao Zd);grind;refine⟨aT (ao Zd),fun p1 H1 hp1 s1 h1=>?_⟩;rcases pY ok with rfl | ⟨l,rfl,_,hl⟩ | ⟨l,rfl,_,hl⟩
  ·refine⟨_,_,.of (s1 _ _ hp),.of h1,rfl,rfl,?_⟩;rw[ai (show oW _ _=true from rfl)];exact⟨aT (ao Zd),fun t H2 ht s2 h2=>k t H2 (s1.free ht) (s1.trans s2) h2⟩
  ·rw[Bf] at hp;refine⟨_,_,.of (s1 _ _ hp),.of h1,rfl,rfl,?_⟩;rw[af (by rw[mI (by simp)];decide)];show nn _ _ _;cbv;grind;refine⟨_,.l (s1 _ _ hp),?_⟩;rw[ai (by rfl)];refine⟨_,_,.l (s1 _ _ hp),bf (j:=0) rfl,?_⟩;symm;rw[ai (by decide)];exact⟨_,_,.l (s1 _ _ hp),bf (j:=1) rfl,le2,fun t H2 ht s2 h2=>k t H2 (s1.free ht) (s1.trans s2) h2⟩
  ·rw[Be] at hp;refine⟨_,_,.of (s1 _ _ hp),.of h1,rfl,rfl,?_⟩;rw[af (by rw[mI (by simp)];decide)];show nn _ _ _;cbv;grind;refine⟨_,.l (s1 _ _ hp),?_⟩;rw[ai (by rfl)];refine⟨_,_,.l (s1 _ _ hp),bf (j:=0) rfl,?_⟩;symm;rw[af (by decide)];show nn _ _ _;cbv;grind;refine⟨_,.l (s1 _ _ hp),?_⟩;rw[ai (by rfl)];refine⟨_,_,.l (s1 _ _ hp),bf (j:=0) rfl,?_⟩;symm;rw[ai (by decide)];exact⟨_,_,.l (s1 _ _ hp),bf (j:=1) rfl,le2,fun t H2 ht s2 h2=>k t H2 (s1.free ht) (s1.trans s2) h2⟩
def jD (K:Zf):Sp:=fun vs H Q _=>∃ (a:Addr) (ns:Zb) (k:Int),vs=[.ref a,.int k]/\SqL K H a (ns.map V.int)/\0<=k/\Q (.int (ns.getD k.toNat 0)) H
def uY:aI ["_law_script","_law_k"] ["_law_script","_law_k"] (av kB):=by subst_eqs
def uL (F:Fun K "_law_cell_at" "_law_cell_at" kB f fd) (T:Bl mg) (AF:AdF K mg Ad) :bS P w K mg base (CX1 P w) 1 f fd ["_law_script","_law_k"] (jD K):=by
 refine F.okX (k:=0) uY ?_ ?_
 ·bv_decide
 ·right;obtain⟨a,ns,i,rfl,hS,hi,k⟩:=h;refine⟨_,ae (bC (aP ph (pvL 1) (aA (bG (K:=K) rfl) T.len cG (ah (pvL 0) (aa))) (aU _)) (aj (aH (b7 (cn (K:=K) rfl) (pvL 0) (pvL 1) (fun _ _=>rfl)))) (aQ)) (aj (aH (au))),?_⟩;ac_nf;refine⟨_,.inl hS,?_⟩;rw[ak]
  by_cases hlt:i<(ns.length:Int)
  ·rw[ai (ar hlt)];refine⟨_,.int (ns.getD i.toNat 0),.inl hS,?_,k⟩;have e:(ns.map V.int)[i.toNat]?=some (.int (ns.getD i.toNat 0)):=by
    rw[bt,cp,b9 (by left)];rfl
   have:=bf e
   rwa [lq hi] at this
  ·rw[af (by rw[cj];exact hlt)];have e:ns.getD i.toNat 0=0:=by rw[cp,lB (by left)];rfl
   rw[e] at k;exact k
def jo:Sp:=fun vs H Q _=>∃ c:Int,vs=[.int c]/\Q (.int (Dw c)) H
def qC:aI ["_law_cell","_law_many_here"] ["_law_cell"] (av nj):=by subst_eqs
def xm (F:Fun K "_law_mixed" "_law_mixed" nj f fd) (T:Bl mg) (AF:AdF K mg Ad) :bS P w K mg base (CX1 P w) 1 f fd ["_law_cell"] jo:=by
 refine F.okX (k:=0) qC ?_ ?_
 ·bv_decide
 ·right;obtain⟨c,rfl,k⟩:=h;refine⟨_,ae (aF (i:=1) qC.nd (au)) (aj (aH (aR cw (aR br (aR oF (aR cw (pvL 0) (aR xv (au) (au))) (pvL 1)) (au)) (aR br (aR xv (au) (au)) (au))))),?_⟩;ac_nf;have h1:0<=c%10^60:=dC _ Zd;have h2:c%10^60<10^60:=eM _ Zd;refine⟨⟨Zd,Zd,Zd⟩,Zd,⟨?_,Zd⟩,⟨Zd,Zd,Zd⟩,Zd,k⟩;have e:(c%10^Int.toNat 60)=c%10^60:=rfl;rw[e];have h3:(10:Int)^60<=((2^1000:Nat):Int):=by decide
  left
def qI:Sp:=fun vs H Q _=>∃ n m:Int,vs=[.int n,.int m]/\0<=m/\Q (.bl (Mk.cop m n)) H
def qB:aI ["_law_number","_law_m"] ["_law_number","_law_m"] (av ng):=by subst_eqs
def xk (F:Fun K "_law_apart" "_law_apart" ng f fd) (T:Bl mg) (AF:AdF K mg Ad) :bS P w K mg base (CX1 P w) 1 f fd ["_law_number","_law_m"] qI:=by
 refine F.okX (k:=0) qB ?_ ?_
 ·bv_decide
 ·right;obtain⟨n,m,rfl,hm,k⟩:=h;refine⟨_,ae (uQ dD (aP (iu (K:=K) rfl hu) (pvL 1) (au) (aU _)) (aj (L7 (i:=0) (j:=1) rfl qB.nd rfl rfl Zd rfl rfl (ah (pvL 1) (ah (aR cw (pvL 0) (pvL 1)) (aa))) rfl))) (aj (aH (cD (c8 (K:=K) rfl hu) (aA rG T.abs zp (ah (pvL 0) (aa))) (au) (aU _)))),?_⟩;ac_nf;refine xN (fun σ H'=>H'=H/\∃ (a b:Int),σ=[some (.int a),some (.int b)]/\0<=b/\Int.gcd a b=Int.gcd n m)
   (fun σ _=>match σ with | [_,some (.int b)]=>b.toNat | _=>0) ⟨rfl,n,m,rfl,hm,rfl⟩ ?_
  rintro σ H' ⟨rfl,a,b,rfl,hb,hg⟩;ac_nf
  by_cases hb0:b=0
  ·subst hb0;have e:decide ((a.natAbs:Int)=1)=Mk.cop m n:=by
    unfold Mk.cop;rw[←hg,Int.gcd_zero]
    by_cases h:a.natAbs=1
    ·rw[ar h];exact ar (by left)
    ·rw[ay h];exact ay (by left)
   rw[←e] at k;exact k
  ·have e:(!decide (b=0))=true:=by simp [hb0]
   rw[ai e];refine⟨_,fun _ _ h=>h,by left,⟨rfl,b,a%b,rfl,dC _ hb0,?_⟩,?_⟩
   ·rw[Mk.Fm,hg]
   ·show (a%b).toNat<b.toNat
    have h1:a%b<b:=eM _ (by left);have h2:0<=a%b:=dC _ hb0;left
inductive n8 (vs:List V) (H:Hp) (Q:VK) (E:XK):Prop
 | mk (p q:Addr) (al:Za) (ws:Zb) (r:Int) (q0:vs=[.ref p]) (q1:Parts H p q al ws r) (q2:1<=ws.length) (q3:ws.length<=8) (q4:al.length<=26) (q5:∀ H',ax H H'->Q (.int (bX al ws)) H'):n8 vs H Q E
def kc:aI ["_law_parts","_law_many_here","_law_weight"] ["_law_parts"] (av pF):=by subst_eqs
def yI (F:Fun K "_law_many" "_law_many" pF f fd) (T:Bl mg) (AF:AdF K mg Ad) :bS P w K mg base (CX1 P w) 1 f fd ["_law_parts"] n8:=by
 refine F.okX (k:=0) kc ?_ ?_
 ·bv_decide
 ·right;obtain⟨p,q,al,ws,r,rfl,⟨h1,h2⟩,w1,w8,a26,k⟩:=h;refine⟨_,ae (aF (i:=1) kc.nd (au)) (ae (iT dD rfl (cE (K:=K) rfl (iF (tj (K:=K) rfl) (b7 (cn (K:=K) rfl) (pvL 0) (au) (fun _ _=>rfl)) (jh (au)) (me))) (aC (i:=2) kc.nd) (aj (aF (i:=1) kc.nd (aR oF (pvL 1) (aA (bG (K:=K) rfl) T.len cG (ah (b7 (cn (K:=K) rfl) (pvL 0) (au) (fun _ _=>rfl)) (aa))))))) (aj (aH (pvL 1)))),?_⟩;grind;cbv;grind;refine⟨_,_,.l h1,bf (j:=1) rfl,_,.of h2,fun p1 H1 hp1 s1 g1=>?_⟩;rw[show (1:Int)=((1:Nat):Int) from rfl,jt,←nU] at g1;refine .inl ⟨⟨_,.of g1⟩,jw (xs:=(ws.drop 1).map V.int) (fun i σ G=>(∃ o2,σ=[some (V.ref p),some (V.int ((al.length:Int)^i)),o2])/\G=H1) ⟨⟨_,rfl⟩,rfl⟩ ?_ ?_ ?_⟩
  ·rintro i σ G _ ⟨_,rfl⟩;exact .of g1
  ·rintro i v σ G hi ⟨⟨o2,rfl⟩,rfl⟩ N hNx;clear hN;have hil:=(bN.mp hi).1;rw[ak,cR] at hil;symm;refine⟨_,_,.l (s1 _ _ h1),bf (j:=0) rfl,?_⟩;symm;rw[bM];have hb:((al.length:Int)^i).natAbs<=26^8:=by
    have e1:((al.length:Int))^i=((al.length^i:Nat):Int):=by simp
    rw[e1,Int.natAbs_natCast];exact bQ (rh a26 _) (nX Zd (by left))
   refine⟨aT (ao (by left)),⟨fi hb Zd,bE (show ((al.length:Int)).natAbs<1000 by left) Zd⟩,hNx _ _ ⟨⟨some v,by rw[Int.pow_succ]⟩,rfl⟩⟩
  ·rintro σ G ⟨⟨o2,rfl⟩,rfl⟩;show nn _ _ _;cbv;symm;rw[ak,cR];exact k _ s1
def sX (a b:Nat):List (List Key):=[[.inr ("end":Str)],[.inr ("part":Str),.inr (tx [a])],[.inr ("phrase":Str),.inr (tx [a])],[.inr ("part":Str),.inr (tx [b])],[.inr ("phrase":Str),.inr (tx [a,b])],[.inr ("part":Str),.inr (tx [a,b])],
 [.inr ("phrase":Str),.inr (tx [b,32,a])],[.inr ("phrase":Str),.inr (tx [b])],[.inr ("part":Str),.inr (tx [a,b,a,b,a,a])],[.inr ("phrase":Str),.inr (tx [a,32,b])],[.inr ("part":Str),.inr (tx [b,a])],
 [.inr ("phrase":Str),.inr (tx [a,b,32,a])],[.inr ("phrase":Str),.inr (tx [b,a])],[.inr ("phrase":Str),.inr (tx [a,32,a,b,32,b])]]
def Jz {x y:Za}:(tx x=tx y)=(x=y):=propext ⟨fun h=>by have:=aV (fun z:Str=>z.cps.toList) h;rwa [ck,ck] at this,fun h=>by rw[h]⟩
def Jf {a b:Nat} (hab:a≠b) (a1:97<=a) (b1:97<=b):(sX a b).Nodup:=by
 have hba:b≠a:=hab.symm;have a32:a≠32:=by left
 have b32:b≠32:=by left
 have a32':32≠a:=by left
 have b32':32≠b:=by left
 have e1:(("part":Str)=("phrase":Str))=False:=by decide
 have e2:(("phrase":Str)=("part":Str))=False:=by decide
 have e3:(("end":Str)=("phrase":Str))=False:=by decide
 unfold sX;simp [Jz,hab,hba,a32,b32,a32',b32',e1,e2,e3]
def IG {l:Za} (h1:1<=l.length) (h2:l.length<=6) (h:∀ c∈l,97<=c/\c<123):dS 6 l=true:=by unfold dS;rw[ar h1,ar h2,dQ,dQ,bP];exact fun c hc=>ar (h c hc)
def Ih:eu [.inr ("end":Str)]:=⟨rfl,Zd,fun z hz=>by have:V.str z=V.str ("end":Str):=bA.mp hz;cases this;decide⟩
def mH {l:Za} (h1:1<=l.length) (h2:l.length<=6) (h:∀ c∈l,97<=c/\c<123):eu [.inr ("part":Str),.inr (tx l)]:=⟨by
 show dS 6 (tx l).cps.toList=true;rw[ck];exact IG h1 h2 h,aq 2,fun z hz=>by
 have hz':V.str z∈[V.str ("part":Str),V.str (tx l)]:=hz;rcases aJ.mp hz' with e | e
 ·cases e;decide
 ·have e2:V.str z=V.str (tx l):=bA.mp e;cases e2;rw[bM];left⟩
def jU {ws:List (Za)} (h1:1<=ws.length) (h2:ws.length<=6) (h:∀ w∈ws,1<=w.length/\w.length<=20/\∀ c∈w,97<=c/\c<123) (h4:(Mk.cz 32 ws).length<=1000):eu [.inr ("phrase":Str),.inr (tx (Mk.cz 32 ws))]:=⟨by
 show ju 6 (tx (Mk.cz 32 ws)).cps.toList=true;rw[ck];exact Cj h1 h2 h,aq 2,fun z hz=>by
 have hz':V.str z∈[V.str ("phrase":Str),V.str (tx (Mk.cz 32 ws))]:=hz;rcases aJ.mp hz' with e | e
 ·cases e;decide
 ·have e2:V.str z=V.str (tx (Mk.cz 32 ws)):=bA.mp e;cases e2;rw[bM];left⟩
def BA {a b:Nat} (a1:97<=a) (a2:a<123) (b1:97<=b) (b2:b<123):∀ key∈sX a b,eu key:=by
 have l1:∀ l:Za,(∀ c∈l,c=a∨c=b)->∀ c∈l,97<=c/\c<123:=fun l h c hc=>by rcases h c hc with rfl | rfl<;>exact⟨by left,by left⟩
 have w1:∀ l:Za,1<=l.length->l.length<=20->(∀ c∈l,c=a∨c=b)->1<=l.length/\l.length<=20/\∀ c∈l,97<=c/\c<123:=fun l h1 h2 h=>⟨h1,h2,l1 l h⟩;have wa:=w1 [a] (by simp) (by simp) (by simp);have wb:=w1 [b] (by simp) (by simp) (by simp);have wab:=w1 [a,b] (by simp) (by simp) (by simp);have wba:=w1 [b,a] (by simp) (by simp) (by simp);intro key hk;unfold sX at hk;simp only[aJ,dh,dm] at hk;rcases hk with rfl | rfl | rfl | rfl | rfl | rfl | rfl | rfl | rfl | rfl | rfl | rfl | rfl | rfl
 ·exact Ih
 ·exact mH (by simp) (by simp) wa.2.2
 ·exact jU (ws:=[[a]]) (by simp) (by simp) (by simpa using wa) (by simp [Mk.cz])
 ·exact mH (by simp) (by simp) wb.2.2
 ·exact jU (ws:=[[a,b]]) (by simp) (by simp) (by simpa using wab) (by simp [Mk.cz])
 ·exact mH (by simp) (by simp) wab.2.2
 ·exact jU (ws:=[[b],[a]]) (by simp) (by simp) (fun w hw=>by rcases aJ.mp hw with rfl | hw;exact wb;rw[bA.mp hw];exact wa) (by simp [Mk.cz])
 ·exact jU (ws:=[[b]]) (by simp) (by simp) (by simpa using wb) (by simp [Mk.cz])
 ·exact mH (by simp) (by simp) (l1 _ (by simp))
 ·exact jU (ws:=[[a],[b]]) (by simp) (by simp) (fun w hw=>by rcases aJ.mp hw with rfl | hw;exact wa;rw[bA.mp hw];exact wb) (by simp [Mk.cz])
 ·exact mH (by simp) (by simp) wba.2.2
 ·exact jU (ws:=[[a,b],[a]]) (by simp) (by simp) (fun w hw=>by rcases aJ.mp hw with rfl | hw;exact wab;rw[bA.mp hw];exact wa) (by simp [Mk.cz])
 ·exact jU (ws:=[[b,a]]) (by simp) (by simp) (by simpa using wba) (by simp [Mk.cz])
 ·exact jU (ws:=[[a],[a,b],[b]]) (by simp) (by simp) (fun w hw=>by rcases aJ.mp hw with rfl | hw;exact wa;rcases aJ.mp hw with rfl | hw;exact wab;rw[bA.mp hw];exact wb) (by simp [Mk.cz])
def oH {H H':Hp}{us:List Addr}{ls:List (List Key)} (s:ax H H') (h:Paired (fun (t:Addr) (key:List Key)=>H t=some (.tup (key.map kV))) us ls):Paired (fun (t:Addr) (key:List Key)=>H' t=some (.tup (key.map kV))) us ls:=by
 induction h with
 | nil=>exact .nil
 | cons f _ ih=>exact .cons (s _ _ f) ih
def Ef (H:Hp) (D:Addr) (a b:Nat):Prop:=∃ ts:List Addr,H D=some (.lst (ts.map V.ref))/\Paired (fun (t:Addr) (key:List Key)=>H t=some (.tup (key.map kV))) ts (sX a b)
def tF:Sp:=fun vs H Q _=>∃ y:Int,vs=[.int y]/\0<=y/\∀ D a b H',ax H H'->97<=a->a<123->97<=b->b<123->a≠b->Ef H' D a b->Q (.ref D) H'
def fG:aI ["_law_cell","_law_letters","_law_a","_law_b","_law_some"] ["_law_cell"] (av pG):=by subst_eqs
def yJ (F:Fun K "_law_pool" "_law_pool" pG f fd) (T:Bl mg) (AF:AdF K mg Ad) :bS P w K mg base (CX1 P w) 1 f fd ["_law_cell"] tF:=by
 refine F.okX (k:=0) fG ?_ ?_
 ·bv_decide
 ·right;obtain⟨y,rfl,y0,k⟩:=h;refine⟨_,ae (aF (i:=1) fG.nd (aO)) (ae (aF (i:=2) fG.nd (b7 (cn (K:=K) rfl) (pvL 1) (aR cw (pvL 0) (au)) (fun _ _=>rfl))) (ae (aF (i:=3) fG.nd (b7 (cn (K:=K) rfl) (pvL 1) (aR cw (aR br (aR br (pvL 0) (au)) (aR cw (aR cQ (pvL 0) (au)) (au))) (au)) (fun _ _=>rfl))) (ae (aF (i:=4) fG.nd (bR (ah (cx (ah (aO) (aa))) (ah (cx (ah (aO) (ah (pvL 2) (aa)))) (ah (cx (ah (aO) (ah (pvL 2) (aa)))) (ah (cx (ah (aO) (ah (pvL 3) (aa)))) (ah (cx (ah (aO) (ah (aR br (pvL 2) (pvL 3)) (aa)))) (ah (cx (ah (aO) (ah (aR br (pvL 2) (pvL 3)) (aa)))) (aa))))))))) (ae (aF (i:=4) fG.nd (aR br (pvL 4) (bR (ah (cx (ah (aO) (ah (aR br (aR br (pvL 3) (aO)) (pvL 2)) (aa)))) (ah (cx (ah (aO) (ah (pvL 3) (aa)))) (aa)))))) (ae (aF (i:=4) fG.nd (aR br (pvL 4) (bR (ah (cx (ah (aO) (ah (aR br (aR br (aR br (aR br (aR br (pvL 2) (pvL 3)) (pvL 2)) (pvL 3)) (pvL 2)) (pvL 2)) (aa)))) (ah (cx (ah (aO) (ah (aR br (aR br (pvL 2) (aO)) (pvL 3)) (aa)))) (ah (cx (ah (aO) (ah (aR br (pvL 3) (pvL 2)) (aa)))) (aa))))))) (aj (aH (aR br (pvL 4) (bR (ah (cx (ah (aO) (ah (aR br (aR br (aR br (pvL 2) (pvL 3)) (aO)) (pvL 2)) (aa)))) (ah (cx (ah (aO) (ah (aR br (pvL 3) (pvL 2)) (aa)))) (ah (cx (ah (aO) (ah (aR br (aR br (aR br (aR br (aR br (pvL 2) (aO)) (pvL 2)) (pvL 3)) (aO)) (pvL 3)) (aa)))) (aa))))))))))))),?_⟩;have big:∀ {u:Nat},u<=1000->u<=sizeLine:=fun hu=>aT (ao (by left));grind;cbv;grind;have ya:=dC y (show (26:Int)≠0 by decide);have yb:=eM y (show (0:Int)<26 by decide);refine⟨Zd,big Zd,97+(y%26).toNat,jv ya (Eh _ (by left)),?_⟩;cbv;grind;have y2a:=dC (y+1+y/26%25) (show (26:Int)≠0 by decide);have y2b:=eM (y+1+y/26%25) (show (0:Int)<26 by decide);refine⟨⟨Zd,Zd⟩,Zd,Zd,big Zd,97+((y+1+y/26%25)%26).toNat,jv y2a (Eh _ (by left)),?_⟩;have hab:97+(y%26).toNat≠97+((y+1+y/26%25)%26).toNat:=by left
  have a1:97<=97+(y%26).toNat/\97+(y%26).toNat<123:=by left
  have b1:97<=97+((y+1+y/26%25)%26).toNat/\97+((y+1+y/26%25)%26).toNat<123:=by left
  generalize 97+(y%26).toNat=a at hab a1;generalize 97+((y+1+y/26%25)%26).toNat=b at hab b1;clear ya yb y2a y2b;have e32:Str.ofString " "=tx [32]:=rfl;rw[show (⟨#[a]⟩:Str)=tx [a] from rfl,show (⟨#[b]⟩:Str)=tx [b] from rfl];cbv;grind;simp only[e32,nD,bM,fZ,gf,aN,cf]
  repeat refine⟨big Zd,?_⟩
  intro t0 G0 _ s0 g0
  repeat refine⟨big Zd,?_⟩
  intro t1 G1 _ s1 g1
  repeat refine⟨big Zd,?_⟩
  intro t2 G2 _ s2 g2
  repeat refine⟨big Zd,?_⟩
  intro t3 G3 _ s3 g3
  repeat refine⟨big Zd,?_⟩
  intro t4 G4 _ s4 g4
  repeat refine⟨big Zd,?_⟩
  intro t5 G5 _ s5 g5
  repeat refine⟨big Zd,?_⟩
  intro D0 H0 _ r0 q0;cbv;grind;simp only[e32,nD,bM,fZ,gf,aN,cf]
  repeat refine⟨big Zd,?_⟩
  intro t6 G6 _ s6 g6
  repeat refine⟨big Zd,?_⟩
  intro t7 G7 _ s7 g7
  repeat refine⟨big Zd,?_⟩
  intro M1 K1 _ u1 v1;have q1:=(s6.trans (s7.trans u1)) _ _ q0;refine⟨_,_,q1,v1,big (by simp),fun D1 H1 _ r1 w1=>?_⟩;simp only[fZ,gf] at w1;cbv;grind;simp only[e32,nD,bM,fZ,gf,aN,cf]
  repeat refine⟨big Zd,?_⟩
  intro t8 G8 _ s8 g8
  repeat refine⟨big Zd,?_⟩
  intro t9 G9 _ s9 g9
  repeat refine⟨big Zd,?_⟩
  intro t10 G10 _ s10 g10
  repeat refine⟨big Zd,?_⟩
  intro M2 K2 _ u2 v2;have q2:=(s8.trans (s9.trans (s10.trans u2))) _ _ w1;refine⟨_,_,q2,v2,big (by simp),fun D2 H2 _ r2 w2=>?_⟩;simp only[fZ,gf] at w2;cbv;symm;simp only[e32,nD,bM,fZ,gf,aN,cf]
  repeat refine⟨big Zd,?_⟩
  intro t11 G11 _ s11 g11
  repeat refine⟨big Zd,?_⟩
  intro t12 G12 _ s12 g12
  repeat refine⟨big Zd,?_⟩
  intro t13 G13 _ s13 g13
  repeat refine⟨big Zd,?_⟩
  intro M3 K3 _ u3 v3;have q3:=(s11.trans (s12.trans (s13.trans u3))) _ _ w2;refine⟨_,_,q3,v3,big (by simp),fun D3 H3 _ r3 w3=>?_⟩;simp only[fZ,gf] at w3;have z13:=u3.trans r3;have z12:=s13.trans z13;have z11:=s12.trans z12;have zH2:=s11.trans z11;have z10:=u2.trans (r2.trans zH2);have z9:=s10.trans z10;have z8:=s9.trans z9;have zH1:=s8.trans z8;have z7:=u1.trans (r1.trans zH1);have z6:=s7.trans z7;have z5:=r0.trans (s6.trans z6);have z4:=s5.trans z5;have z3:=s4.trans z4;have z2:=s3.trans z3;have z1:=s2.trans z2;have z0:=s1.trans z1;refine k D3 a b H3 (s0.trans z0) a1.1 a1.2 b1.1 b1.2 hab ⟨[t0,t1,t2,t3,t4,t5,t6,t7,t8,t9,t10,t11,t12,t13],w3,?_⟩;exact .cons (z0 _ _ g0) (.cons (z1 _ _ g1) (.cons (z2 _ _ g2) (.cons (z3 _ _ g3) (.cons (z4 _ _ g4) (.cons (z5 _ _ g5) (.cons (z6 _ _ g6) (.cons (z7 _ _ g7) (.cons (z8 _ _ g8) (.cons (z9 _ _ g9) (.cons (z10 _ _ g10) (.cons (z11 _ _ g11) (.cons (z12 _ _ g12) (.cons (z13 _ _ g13) .nil)))))))))))))
structure Lge where
 day:Int
 str:Bool
 adr:Addr
 num:Int
 key:List Key
def LgP (H:Hp) (v:V) (l:Lge):Prop:=∃ p,v=V.ref p/\H p=some (.tup [.int l.day,.str (if l.str then ("strike":Str) else ("put":Str)),.ref l.adr,.int l.num])
def mM {H H':Hp}{gs:List Lge} (h:Paired (LgP H) ls gs) (s:∀ c xs,H c=some (.tup xs)->H' c=some (.tup xs)):Paired (LgP H') ls gs:=by
 induction h with
 | nil=>exact .nil
 | cons f _ ih=>obtain⟨p,e,q⟩:=f;exact .cons ⟨p,e,s _ _ q⟩ ih
def fO (l:Lge):Chg:=⟨l.day,l.num,if l.str then none else some l.adr⟩
def fS (es:List Ben) (l:Lge):List Ben:=if l.str then es.filter fun x=>decide (x.num≠l.num) else es++[⟨l.num,l.key,l.adr⟩]
def fW (gs:List Lge):List Ben:=gs.foldl fS []
inductive jR:List Lge->Prop
 | nil:jR []
 | snoc {gs:List Lge}{l:Lge} (h:jR gs) (hs:l.str=true->l.num∈(fW gs).map (·.num)) (hp:l.str=false->l.num∉(fW gs).map (·.num)/\l.key∉(fW gs).map (·.key)):jR (gs++[l])
def kR (gs:List Lge) (l:Lge):fW (gs++[l])=fS (fW gs) l:=by unfold fW;rw[List.foldl_append];rfl
def jR.take {gs:List Lge} (h:jR gs):∀ n,jR (gs.take n):=by
 induction h with
 | nil=>intro n;rw[List.take_nil];exact .nil
 | @snoc gs l h hs hp ih =>
  intro n
  by_cases hn:n<=gs.length
  ·rw[List.take_append_of_le_length hn];exact ih n
  ·rw[di (by rw[aK];show gs.length+1<=n;left)];exact .snoc h hs hp
def jR.nn {gs:List Lge} (h:jR gs):((fW gs).map (·.num)).Nodup/\((fW gs).map (·.key)).Nodup:=by
 induction h with
 | nil=>exact⟨.nil,.nil⟩
 | @snoc gs l h hs hp ih =>
  rw[kR];unfold fS;cases hl:l.str with
  | true =>rw[ai rfl];exact⟨lr (lu _ lz) ih.1,lr (lu _ lz) ih.2⟩
  | false =>rw[af (by decide),bL,bL];exact⟨lW ih.1 (hp hl).1,lW ih.2 (hp hl).2⟩
structure StA (H:Hp) (st nw sk lg:Addr) (es:List Ben) (lk:Lk) (l0:Int) (m:Nat) (gs:List Lge):Prop where
 s:H st=some (.lst [.ref nw,.ref sk,.ref lg])
 n:H nw=some (.dK (fu es))
 k:∃ kvs,H sk=some (.dK kvs)/\vo H kvs lk/\kvs.length<=m
 g:∃ ls,H lg=some (.lst ls)/\ls.length<=m/\(ls=[]∨∃ t a b c,ls.getLast?=some (.ref t)/\H t=some (.tup [.int l0,a,b,c]))/\Paired (LgP H) ls gs
 en:∀ e∈es,H e.adr=some (.tup (e.key.map kV))/\eu e.key
 nn:(es.map (·.num)).Nodup
 ne:nw≠sk
 sl:st≠lg
def StA.same {H H':Hp}{st nw sk lg:Addr}{es:List Ben}{lk:Lk}{l0:Int}{m:Nat}{gs:List Lge} (h:StA H st nw sk lg es lk l0 m gs) (s:ax H H'):StA H' st nw sk lg es lk l0 m gs:=by obtain⟨h1,h2,⟨kvs,h3,h4,h5⟩,⟨ls,h6,h7,h8,h8'⟩,h9,h10,h11,h12⟩:=h;exact⟨s _ _ h1,s _ _ h2,⟨kvs,s _ _ h3,h4.same s,h5⟩,⟨ls,s _ _ h6,h7,h8.imp id fun ⟨t,a,b,c,e,e2⟩=>⟨t,a,b,c,e,s _ _ e2⟩,mM h8' fun c xs e=>s _ _ e⟩,fun e he=>⟨s _ _ (h9 e he).1,(h9 e he).2⟩,h10,h11,h12⟩
def jb (es:List Ben) (lk:Lk) (day:Int) (key:List Key) (n:Int):Bool:=!decide (n∈es.map (·.num))&&!jf lk day key n
inductive n5 (K:Zf) (vs:List V) (H:Hp) (Q:VK) (E:XK):Prop
 | mk (st nw sk lg t:Addr) (es:List Ben) (lk:Lk) (l0 n day:Int) (m:Nat) (gs:List Lge) (key:List Key) (q0:vs=[.ref st,.int n,.int day,.ref t]) (q1:StA H st nw sk lg es lk l0 m gs) (q2:H t=some (.tup (key.map kV))) (q3:eu key) (q4:∀ H',ax H H'->Q (.bl (jb es lk day key n)) H'):n5 K vs H Q E
def kb:aI ["_law_state","_law_number","_law_day","_law_entry","_law_now","_law_struck","_law_log"] ["_law_state","_law_number","_law_day","_law_entry"] (av pC):=by subst_eqs
def yG (F:Fun K "_law_free" "_law_free" pC f fd) (T:Bl mg) (AF:AdF K mg Ad) :bS P w K mg base (CX1 P w) 1 f fd ["_law_state","_law_number","_law_day","_law_entry"] (n5 K):=by
 refine F.okX (k:=0) kb ?_ (fun cdv A outer s H vs Q E hr h=>?_)
 ·bv_decide
 ·obtain⟨st,nw,sk,lg,t,es,lk,l0,n,day,m,gs,key,rfl,A0,ht,eo,k⟩:=h;obtain⟨kvs,hsk,S,_⟩:=A0.k;have hu:=hr.fJ;have hu1:=jW hr;have hu9:=hr.hu9;refine⟨_,ae (se (pvL 0) (oG (K:=K) (n:=3) rfl rfl (aY (aC (i:=4) kb.nd) (aY (aC (i:=5) kb.nd) (aY (aC (i:=6) kb.nd) (eT)))))) (ae (bC (aP (lZ (K:=K) rfl hu1) (pvL 1) (pvL 4) (by ext)) (aj (aH (gP))) (aQ)) (aj (aH (Gk (cD (vW (K:=K) rfl hu1) (pvL 1) (pvL 5) (by ext)) (Gk (cD (Am (K:=K) rfl hu9) (b7 (cn (K:=K) rfl) (qt hu1 (pvL 5) (pvL 1)) (au) (fun _ _=>rfl)) (pvL 3) (aU _)) (md (cD (xp (K:=K) rfl hu) (pvL 2) (aR br (b7 (cn (K:=K) rfl) (qt hu1 (pvL 5) (pvL 1)) (au) (fun _ _=>rfl)) (au)) (aU _)))))))),?_⟩;grind;refine⟨_,.l A0.s,rfl,?_⟩;symm;cbv;have kk:=k H (ax.refl _);grind;refine .inr ⟨_,.inl ⟨_,.inl n,.inl A0.n,rfl,rfl⟩,?_⟩;rw[Ae A0.nn];unfold jb at kk
  by_cases hm:n∈es.map (·.num)
  ·rw[ar hm,ai rfl];rw[ar hm] at kk;exact kk
  rw[ay hm,af (by decide)];rw[ay hm] at kk;have kk:Q (.bl (!jf lk day key n)) H:=kk;cbv;symm;refine .inr ⟨_,.inl ⟨_,.inl n,.inl hsk,rfl,rfl⟩,?_⟩;rcases S n with ⟨e1,e2⟩ | ⟨tp,ad,d,key',e1,e2,e3,e4,e5⟩
  ·rw[xR e2] at kk;rw[e1,ai (by decide)];exact kk
  rw[Ex e5] at kk;have dg:oN H sk (.int n) (some (.ref tp)):=.inl ⟨_,.inl n,.inl hsk,rfl,e1.symm⟩;rw[e1,af (by simp)];refine⟨sk,.ref tp,rfl,dg,?_⟩;symm;refine⟨_,_,.inr (.of e2),jv Zd rfl,0,_,Zd,(xy e3 ht e4 eo).1,?_⟩
  by_cases hk:key'=key
  ·rw[ar hk] at kk ⊢;rw[ai rfl];exact kk
  rw[ay hk] at kk ⊢;rw[af (by decide)];refine⟨sk,.ref tp,rfl,dg,?_⟩;symm;refine⟨_,_,.inr (.of e2),jv Zd rfl,?_⟩;symm;have ee:(!(!false&&decide (day-d<31)))=decide (d+31<=day):=by
   by_cases h:day-d<31
   ·rw[ar h,ay (by left)];rfl
   ·rw[ay h,ar (by left)];rfl
  rw[ee] at kk;exact kk
def FZ [DecidableEq κ] {es:List Ben}{f:Ben->κ}{g:Ben->V}{k:κ}:mP (es.map fun e=>(f e,g e)) k=(es.filter fun e=>decide (f e≠k)).map fun e=>(f e,g e):=by unfold mP;rw[nQ];rfl
def yM (es:List Ben) (n:Int):mP (fu es) (.inl n)=fu (es.filter fun e=>decide (e.num≠n)):=by
 rw[lX,lX,FZ]
 congr 1
 refine List.filter_congr fun e _=>?_;rw[iP];exact⟨fun h z=>h (by rw[z]),fun h z=>h (Sum.inl.inj z)⟩
inductive n6 (K:Zf) (vs:List V) (H:Hp) (Q:VK) (E:XK):Prop
 | mk (st nw sk lg q t:Addr) (es:List Ben) (lk:Lk) (l0 day n:Int) (m:Nat) (gs:List Lge) (key:List Key) (y:V) (str:Bool) (q0:vs=[.ref st,.ref q,.int n]) (q1:StA H st nw sk lg es lk l0 m gs) (q2:m<900) (q3:es.length<900) (q4:H q=some (.tup [.str (if str then ("strike":Str) else ("put":Str)),.int day,.ref t,y])) (q5:H t=some (.tup (key.map kV))) (q6:eu key) (q7:((str=true/\∃ e∈es,e.num=n/\e.key=key/\∀ H',(∀ c o,c≠nw->c≠sk->c≠lg->H c=some o->H' c=some o)->StA H' st nw sk lg (es.filter fun x=>decide (x.num≠n)) (fun i=>if i=n then some (day,key) else lk i) day (m+1) (gs++[⟨day,true,t,n,key⟩])->Q .non H')∨(str=false/\n∉es.map (·.num)/\∀ H',(∀ c o,c≠nw->c≠sk->c≠lg->H c=some o->H' c=some o)->StA H' st nw sk lg (es++[⟨n,key,t⟩]) lk day (m+1) (gs++[⟨day,false,t,n,key⟩])->Q .non H'))):n6 K vs H Q E
def eQ:aI ["_law_state","_law_deed","_law_number","_law_now","_law_struck","_law_log","_law_sort","_law_day","_law_entry","_law_told_one"] ["_law_state","_law_deed","_law_number"] (av pE):=by subst_eqs
def yH (F:Fun K "_law_kept" "_law_kept" pE f fd) (T:Bl mg) (AF:AdF K mg Ad) :bS P w K mg base (CX1 P w) 1 f fd ["_law_state","_law_deed","_law_number"] (n6 K):=by
 refine F.okX (k:=0) eQ ?_ (fun cdv A outer s H vs Q E hr h=>?_)
 ·bv_decide
 ·obtain⟨st,nw,sk,lg,q,t,es,lk,l0,day,n,m,gs,key,y,str,rfl,A0,m9,e9,hq,ht,eo,ks⟩:=h;obtain⟨kvs,hsk,S,lsk⟩:=A0.k;obtain⟨ls,hlg,lls,hlast,hgs⟩:=A0.g;have hu:=hr.fJ;have hu1:=jW hr;refine⟨_,ae (se (pvL 0) (oG (K:=K) (n:=3) rfl rfl (aY (aC (i:=3) eQ.nd) (aY (aC (i:=4) eQ.nd) (aY (aC (i:=5) eQ.nd) (eT)))))) (ae (se (pvL 1) (oG (K:=K) (n:=4) rfl rfl (aY (aC (i:=6) eQ.nd) (aY (aC (i:=7) eQ.nd) (aY (aC (i:=8) eQ.nd) (aY (aC (i:=9) eQ.nd) (eT))))))) (ae (bC (aP (c8 (K:=K) rfl hu) (pvL 6) (aO) (aU _)) (ae (dF (eD (K:=K) rfl lG rj rp wV (pvL 3) (ah (pvL 2) (aa)))) (aj (j4 hu1 (pvL 4) (pvL 2) (cx (ah (pvL 7) (ah (pvL 8) (aa))))))) (aj (j4 hu1 (pvL 3) (pvL 2) (pvL 8)))) (aj (dF (eD (K:=K) rfl lH oa oh iq (pvL 5) (ah (cx (ah (pvL 7) (ah (pvL 6) (ah (pvL 8) (ah (pvL 2) (aa)))))) (aa))))))),?_⟩;have big:∀ {u:Nat},u<=1000->u<=sizeLine:=fun hu=>aT (ao (by left));grind;refine⟨_,.l A0.s,rfl,?_⟩;symm;cbv;grind;refine⟨_,.inr (.of hq),rfl,?_⟩;symm;cbv;have nws:nw≠lg:=bh A0.n hlg (by intro z;cases z);have nks:sk≠lg:=bh hsk hlg (by intro z;cases z);refine dY fun nn hN=>?_;rcases ks with ⟨rfl,e,he,en,ek,k⟩ | ⟨rfl,hn,k⟩
  ·symm;rw[ai (by decide)];refine dY fun n2 hM=>?_;symm;subst en ek;refine⟨.inr (.inr (.inl ⟨rfl,.inl ⟨_,A0.n⟩⟩)),?_⟩;symm;refine⟨_,.inl e.num,_,A0.n,rfl,jX A0.nn he,?_⟩;rw[yM];have k1:∀ c o,c≠nw->H c=some o->upd H nw (.dK (fu (es.filter fun x=>decide (x.num≠e.num)))) c=some o:=fun c o hc z=>by rw[az hc];exact z
   have g1:upd H nw (.dK (fu (es.filter fun x=>decide (x.num≠e.num)))) nw=some (.dK (fu (es.filter fun x=>decide (x.num≠e.num)))):=aB;generalize upd H nw (.dK (fu (es.filter fun x=>decide (x.num≠e.num))))=G1 at k1 g1;rw[hM];clear hM n2;symm;have hsk1:=k1 _ _ A0.ne.symm hsk;have hlg1:=k1 _ _ nws.symm hlg;have tup1:∀ c xs,H c=some (.tup xs)->G1 c=some (.tup xs):=fun c xs z=>k1 _ _ (bh z A0.n (by intro z;cases z)) z;refine⟨big Zd,fun p G2 hp t2 g2=>⟨sk,_,rfl,.inl ⟨_,.inl e.num,t2 _ _ hsk1,rfl,ao (by left),rfl⟩,?_⟩⟩;have k3:∀ c o,c≠sk->G2 c=some o->upd G2 sk (.dK (putK kvs (.inl e.num) (V.ref p))) c=some o:=fun c o hc z=>by rw[az hc];exact z
   have g3:upd G2 sk (.dK (putK kvs (.inl e.num) (V.ref p))) sk=some (.dK (putK kvs (.inl e.num) (V.ref p))):=aB;generalize upd G2 sk (.dK (putK kvs (.inl e.num) (V.ref p)))=G3 at k3 g3;have hlg3:=k3 _ _ nks.symm (t2 _ _ hlg1);have tup3:∀ c xs,G2 c=some (.tup xs)->G3 c=some (.tup xs):=fun c xs z=>k3 _ _ (bh z (t2 _ _ hsk1) (by intro z;cases z)) z;have g31:=k3 _ _ A0.ne (t2 _ _ g1);cbv;symm;refine⟨.inl ⟨rfl,_,.of hlg3⟩,big Zd,fun p4 G4 hp4 t4 g4=>⟨lg,ls,_,rfl,rfl,t4 _ _ hlg3,ao (by left),?_⟩⟩;have k5:∀ c o,c≠lg->G4 c=some o->upd G4 lg (.lst (ls++[V.ref p4])) c=some o:=fun c o hc z=>by rw[az hc];exact z
   have g5:upd G4 lg (.lst (ls++[V.ref p4])) lg=some (.lst (ls++[V.ref p4])):=aB;generalize upd G4 lg (.lst (ls++[V.ref p4]))=G5 at k5 g5;have tup5:∀ c xs,G4 c=some (.tup xs)->G5 c=some (.tup xs):=fun c xs z=>k5 _ _ (bh z (t4 _ _ hlg3) (by intro z;cases z)) z;have tup:∀ c xs,H c=some (.tup xs)->G5 c=some (.tup xs):=fun c xs z=>tup5 _ _ (t4 _ _ (tup3 _ _ (t2 _ _ (tup1 _ _ z))));have hst:G5 st=some (.lst [.ref nw,.ref sk,.ref lg]):=by have nsn:st≠nw:=bh A0.s A0.n (by intro z;cases z);have nsk:st≠sk:=bh A0.s hsk (by intro z;cases z);exact k5 _ _ A0.sl (t4 _ _ (k3 _ _ nsk (t2 _ _ (k1 _ _ nsn A0.s))))
   refine k G5 (fun c o c1 c2 c3 z=>k5 c o c3 (t4 _ _ (k3 c o c2 (t2 _ _ (k1 c o c1 z))))) ⟨hst,k5 _ _ nws (t4 _ _ g31),⟨_,k5 _ _ nks (t4 _ _ g3),fun i=>?_,?_⟩,⟨_,g5,?_,.inr ⟨p4,_,_,_,?_,tup5 _ _ g4⟩,?_⟩,fun x hx=>?_,?_,A0.ne,A0.sl⟩
   ·rw[vj];dsimp only
    by_cases hi:i=e.num
    ·rw[ai (by rw[hi]),ai hi];exact .inr ⟨p,t,day,e.key,rfl,tup5 _ _ (t4 _ _ (tup3 _ _ g2)),tup _ _ ht,eo,rfl⟩
    ·rw[af (fun z=>hi (Sum.inl.inj z)),af hi];exact S.past tup i
   ·have:=iD kvs (Sum.inl e.num) (V.ref p);left
   ·rw[aK];show ls.length+1<=_;left
   ·rw[List.getLast?_append];rfl
   ·exact mQ (mM hgs tup) (.cons ⟨p4,rfl,tup5 _ _ g4⟩ .nil)
   ·obtain⟨hx1,_⟩:=gd.mp hx;exact⟨tup _ _ (A0.en x hx1).1,(A0.en x hx1).2⟩
   ·exact lr (lu _ lz) A0.nn
  ·symm;rw[af (by decide)];refine⟨nw,_,rfl,.inl ⟨_,.inl n,A0.n,rfl,by rw[qk];exact ao (by left),rfl⟩,?_⟩;rw[tW (uD hn),show fu es++[((.inl n:Key),V.ref t)]=fu (es++[⟨n,key,t⟩]) from (rQ es ⟨n,key,t⟩).symm];have k1:∀ c o,c≠nw->H c=some o->upd H nw (.dK (fu (es++[⟨n,key,t⟩]))) c=some o:=fun c o hc z=>by rw[az hc];exact z
   have g1:upd H nw (.dK (fu (es++[⟨n,key,t⟩]))) nw=some (.dK (fu (es++[⟨n,key,t⟩]))):=aB;generalize upd H nw (.dK (fu (es++[⟨n,key,t⟩])))=G1 at k1 g1;have hsk1:=k1 _ _ A0.ne.symm hsk;have hlg1:=k1 _ _ nws.symm hlg;have tup1:∀ c xs,H c=some (.tup xs)->G1 c=some (.tup xs):=fun c xs z=>k1 _ _ (bh z A0.n (by intro z;cases z)) z;cbv;symm;refine⟨.inl ⟨rfl,_,.of hlg1⟩,big Zd,fun p4 G4 hp4 t4 g4=>⟨lg,ls,_,rfl,rfl,t4 _ _ hlg1,ao (by left),?_⟩⟩;have k5:∀ c o,c≠lg->G4 c=some o->upd G4 lg (.lst (ls++[V.ref p4])) c=some o:=fun c o hc z=>by rw[az hc];exact z
   have g5:upd G4 lg (.lst (ls++[V.ref p4])) lg=some (.lst (ls++[V.ref p4])):=aB;generalize upd G4 lg (.lst (ls++[V.ref p4]))=G5 at k5 g5;have tup5:∀ c xs,G4 c=some (.tup xs)->G5 c=some (.tup xs):=fun c xs z=>k5 _ _ (bh z (t4 _ _ hlg1) (by intro z;cases z)) z;have tup:∀ c xs,H c=some (.tup xs)->G5 c=some (.tup xs):=fun c xs z=>tup5 _ _ (t4 _ _ (tup1 _ _ z));have hst:G5 st=some (.lst [.ref nw,.ref sk,.ref lg]):=k5 _ _ A0.sl (t4 _ _ (k1 _ _ (bh A0.s A0.n (by intro z;cases z)) A0.s));refine k G5 (fun c o c1 c2 c3 z=>k5 c o c3 (t4 _ _ (k1 c o c1 z))) ⟨hst,k5 _ _ nws (t4 _ _ g1),⟨_,k5 _ _ nks (t4 _ _ hsk1),S.past tup,by left⟩,⟨_,g5,?_,.inr ⟨p4,_,_,_,?_,tup5 _ _ g4⟩,?_⟩,fun x hx=>?_,?_,A0.ne,A0.sl⟩
   ·rw[aK];show ls.length+1<=_;left
   ·rw[List.getLast?_append];rfl
   ·exact mQ (mM hgs tup) (.cons ⟨p4,rfl,tup5 _ _ g4⟩ .nil)
   ·rcases bI.mp hx with hx | hx
    ·exact⟨tup _ _ (A0.en x hx).1,(A0.en x hx).2⟩
    ·rw[bA.mp hx];exact⟨tup _ _ ht,eo⟩
   ·rw[bL];exact lW A0.nn hn
def jR.last {gs:List Lge}{l:Lge} (h:jR (gs++[l])):(l.str=true->l.num∈(fW gs).map (·.num))/\(l.str=false->l.num∉(fW gs).map (·.num)/\l.key∉(fW gs).map (·.key)):=by
 generalize hx:gs++[l]=xs at h;cases h with
 | nil=>simp at hx
 | snoc h hs hp =>obtain⟨e1,e2⟩:=List.append_inj' hx rfl;cases e2;subst e1;exact⟨hs,hp⟩
inductive jE (K:Zf) (vs:List V) (H:Hp) (Q:VK) (E:XK):Prop
 | mk (st nw sk lg:Addr) (es:List Ben) (lk:Lk) (l0 day:Int) (m j:Nat) (gs:List Lge) (q0:vs=[.ref st,.int day]) (q1:StA H st nw sk lg es lk l0 m gs) (q2:m<64) (q3:jR gs) (q4:(∀ (i:Nat) l,gs[i]?=some l->(l.day<=day↔i<j))) (q5:∀ D ws (ms:List Ben) H',ax H H'->H D=none->H' D=some (.lst ws)->ms.Perm (fW (gs.take j))->(ms.map (·.num)).Pairwise (·<·)->Paired (fun v (m:Ben)=>∃ p,v=V.ref p/\H' p=some (.tup [.int m.num,.ref m.adr])) ws ms->Q (.ref D) H'):jE K vs H Q E
def eI:aI ["_law_state","_law_day","_law_found","_law_when","_law_sort","_law_entry","_law_number"] ["_law_state","_law_day"] (av kC):=by subst_eqs
def uM (F:Fun K "_law_edition" "_law_edition" kC f fd) (T:Bl mg) (AF:AdF K mg Ad) :bS P w K mg base (CX1 P w) 1 f fd ["_law_state","_law_day"] (jE K):=by
 refine F.okX (k:=0) eI ?_ (fun cdv A outer s H vs Q E hr h=>?_)
 ·bv_decide
 ·obtain⟨st,nw,sk,lg,es,lk,l0,day,m,j,gs,rfl,A0,m64,ok,hj,k⟩:=h;obtain⟨ls,hlg,lls,hlast,hgs⟩:=A0.g;have hu:=hr.fJ;have hu1:=jW hr;refine⟨_,ae (ji (i:=2) eI.nd (iE)) (ae (iT dD rfl (cE (K:=K) rfl (b7 (cn (K:=K) rfl) (pvL 0) (au) (fun _ _=>rfl))) (jg (K:=K) (n:=4) rfl rfl (aY (aC (i:=3) eI.nd) (aY (aC (i:=4) eI.nd) (aY (aC (i:=5) eI.nd) (aY (aC (i:=6) eI.nd) (eT)))))) (aj (bC (aP ir (pvL 3) (pvL 1) (aU _)) (aj (bC (aP (c8 (K:=K) rfl hu) (pvL 4) (aO) (aU _)) (aj (dF (eD (K:=K) rfl lG rj rp wV (pvC 2) (ah (pvL 6) (aa))))) (aj (j4 hu1 (pvC 2) (pvL 6) (pvL 5))))) (aQ)))) (aj (aH (jc ["_law_number"] rfl ⟨rfl,by nofun,rfl,by nofun⟩ (.cons (j:=2) rfl (.inl (by ext)) (.nil)) (by nofun) (cE (K:=K) rfl (aA (uf rfl) T.sorted vG (ah (pvC 2) (aa)))) (fun _ _ _ _=>aC (i:=0) (show (["_law_number","_law_found"]:Ze).Nodup from by nofun)) (fun _ _ _ _=>dv) (fun _ _ _ _=>cx (ah (pvL 0) (ah (qt hu1 (pvC 1) (pvL 0)) (aa)))))))),?_⟩;have big:∀ {u:Nat},u<=1000->u<=sizeLine:=fun hu=>aT (ao (by left));have lgs:ls.length=gs.length:=Paired.length hgs;grind;intro F G1 hF t1 g1;cbv;grind;refine⟨_,.ref lg,.l (t1 _ _ A0.s),bf (j:=2) rfl,?_⟩;symm;have nF:∀ {c:Addr}{o:HO},H c=some o->c≠F:=fun e z=>by rw[z,hF] at e;cases e
  have hlen:∀ i,(fW (gs.take i)).length<=i:=fun i=>by
   induction i with
   | zero=>rw[jN];exact aq _
   | succ i ih =>
    by_cases hi:i<gs.length
    ·rw[hV,b9 hi];show (fW (gs.take i++[gs[i]])).length<=_;rw[kR];unfold fS;split
     ·exact bQ (lC _ _) (by left)
     ·rw[aK];show (fW (gs.take i)).length+1<=_;left
    ·rw[di (by left)] at ih ⊢;left
  refine .inl ⟨⟨_,.of (t1 _ _ hlg)⟩,jw (xs:=ls) (fun i σ G=>(∃ o3 o4 o5 o6,σ=[some (V.ref st),some (V.int day),some (V.ref F),o3,o4,o5,o6])/\(∀ c o,c≠F->G1 c=some o->G c=some o)/\G F=some (.dK (fu (fW (gs.take (min i j)))))) ⟨⟨_,_,_,_,rfl⟩,fun _ _ _ e=>e,by rw[Nat.zero_min,jN];exact g1⟩ (fun i σ G _ ⟨_,kp,_⟩=>.of (kp _ _ (nF hlg) (t1 _ _ hlg))) ?_ ?_⟩
  ·rintro i v σ G hi ⟨⟨o3,o4,o5,o6,rfl⟩,kp,gF⟩ N hNx;clear hN;obtain⟨l,hl,p,rfl,hp⟩:=dz hgs hi;have hil:i<gs.length:=(bN.mp hl).1;have hpG:=kp _ _ (nF hp) (t1 _ _ hp);refine⟨p,_,rfl,.of hpG,rfl,?_⟩;symm
   by_cases hd:l.day<=day
   ·have ij:=(hj i l hl).mp hd;have et:gs.take (i+1)=gs.take i++[l]:=by rw[hV,hl];rfl
    rw[iN (by left)] at gF;have ro:=(ok.take (i+1));rw[et] at ro;have rn:=(ok.take i).nn;have hl64:=hlen i;have nx:∀ G' o4,(∀ c o,c≠F->G1 c=some o->G' c=some o)->G' F=some (.dK (fu (fS (fW (gs.take i)) l)))->N [some (V.ref st),some (V.int day),some (V.ref F),some (V.int l.day),o4,some (V.ref l.adr),some (V.int l.num)] G':=fun G' o4 kp' gF'=>hNx _ _ ⟨⟨_,_,_,_,rfl⟩,kp',by rw[iN (by left),et,kR];exact gF'⟩;rw[ar hd,ai rfl];cases hs:l.str with
    | true =>rw[ai (by decide)];obtain⟨e,he,ee⟩:=aD.mp (ro.last.1 hs);refine⟨.inr (.inr (.inl ⟨rfl,.inl ⟨_,gF⟩⟩)),_,.inl l.num,_,gF,rfl,by rw[←ee];exact jX rn.1 he,nx _ _ (fun c o hc z=>by rw[az hc];exact kp c o hc z) ?_⟩;rw[aB,yM];unfold fS;rw[ai hs]
    | false =>rw[af (by decide)];refine⟨F,_,rfl,.inl ⟨_,.inl l.num,gF,rfl,by rw[qk];exact ao (by left),rfl⟩,nx _ _ (fun c o hc z=>by rw[az hc];exact kp c o hc z) ?_⟩;rw[aB,tW (uD (ro.last.2 hs).1),show fu (fW (gs.take i))++[((.inl l.num:Key),V.ref l.adr)]=fu (fW (gs.take i)++[⟨l.num,l.key,l.adr⟩]) from (rQ _ ⟨l.num,l.key,l.adr⟩).symm];unfold fS;rw[af (by rw[hs];decide)]
   ·have ij:¬ i<j:=fun z=>hd ((hj i l hl).mpr z);rw[ay hd,af (by decide)];refine hNx _ _ ⟨⟨_,_,_,_,rfl⟩,kp,?_⟩;rw[lE (by left)] at gF ⊢;exact gF
  rintro σ G ⟨⟨o3,o4,o5,o6,rfl⟩,kp,gF⟩;show nn _ _ _;cbv;symm;have ej:min ls.length j=min gs.length j:=by rw[lgs]
  have er:fW (gs.take (min gs.length j))=fW (gs.take j):=by
   by_cases h:j<=gs.length
   ·rw[lE h]
   ·rw[iN (by left),di (aq _),di (by left)]
  rw[ej,er] at gF;have rn:=(ok.take j).nn;have l64:(fW (gs.take j)).length<64:=by have h1:=hlen (min gs.length j);rw[er] at h1;left
  have tG:ax H G:=fun c o e=>kp c o (nF e) (t1 _ _ e);generalize fW (gs.take j)=rs at gF rn l64 k;rw[Dd];refine⟨rs.map fun e:Ben=>(e.num,V.ref e.adr),.inl gF,by rw[ak];exact l64,fun ns hp hs p G2 z2 t2 g2=>?_⟩;symm;obtain⟨ms,mp,mn,ml⟩:=E7 hp hs rn.1;have nl:(ns.map V.int).length<sizeLine:=ao (by rw[ak,hp.length_eq,ak,ak];left);refine .inl ⟨⟨_,.of g2⟩,Bq (fX (.of g2)) nl (ms.map fun m=>[V.int m.num,V.ref m.adr]) (by rw[ak,ak,←mn,ak]) ?_ ?_⟩
  ·intro i x ts hx hts G3 t3 R hR;rw[bt] at hx hts;obtain⟨m',hm,rfl⟩:=gi.mp hts;have:ns[i]?=some m'.num:=by rw[←mn,bt,hm];rfl
   rw[this] at hx;cases hx;symm;exact⟨F,_,rfl,.inl ⟨_,.inl m'.num,.inl ((t2.trans t3) _ _ gF),rfl,(jX rn.1 (mp.mem_iff.mp (bw hm))).symm⟩,big Zd,fun p2 G4 z4 t4 g4=>hR p2 G4 z4 t4 g4⟩
  ·intro D ws G3 hD t3 g3 hT;exact k D ws ms G3 (tG.trans (t2.trans t3)) ((tG.trans t2).free hD) g3 mp ml (mR hT)
def tm:Sp:=fun vs H Q _=>∃ (p:Addr) (ws:Zb) (m:Int),vs=[.ref p,.int m]/\H p=some (.lst (ws.map V.int))/\ws.length<=1000/\∀ H',ax H H'->Q (.bl (Mk.safe m ws)) H'
def ti:aI ["weights","m","differences"] ["weights","m"] (av pz):=by subst_eqs
def yB (F:Fun K "are_safe" "are_safe" pz f fd) (T:Bl mg) (AF:AdF K mg Ad) (C_common_divisor:Fnc P w K mg base (CX1 P w) 1 "common_divisor" ["one","other"] kf):bS P w K mg base (CX1 P w) 2 f fd ["weights","m"] tm:=by
 refine F.okX (k:=1) ti ?_ ?_
 ·bv_decide
 ·right;obtain⟨p,ws,m,rfl,hp,hl,k⟩:=h;refine⟨_,ae (j6 (i:=2) ["ahead","behind"] ti.nd rfl (Or.inl rfl) rfl ⟨rfl,by nofun,rfl,by nofun⟩ (.nil) (by nofun) (Bx (K:=K) rfl T.zip (ah (pvL 0) (ah (iF (tj (K:=K) rfl) (pvL 0) (jh (au)) (me)) (aa)))) (fun _ _ _ _=>jg (K:=K) (n:=2) rfl rfl (aY (aC (i:=0) (show (["ahead","behind"]:Ze).Nodup from by nofun)) (aY (aC (i:=1) (show (["ahead","behind"]:Ze).Nodup from by nofun)) (eT)))) (fun _ _ _ _=>dv) (fun _ _ _ _=>aR qr (pvL 1) (pvL 0))) (aj (aH (aA (ig (K:=K) rfl rfl) T.all oU (ah (jc ["number"] rfl ⟨rfl,by nofun,rfl,by nofun⟩ (.cons (j:=1) rfl (.inl (by ext)) (.nil)) (by nofun) (cE (K:=K) rfl (aR br (pvL 0) (pvL 2))) (fun _ _ _ _=>aC (i:=0) (show (["number","m"]:Ze).Nodup from by nofun)) (fun _ _ _ _=>dv) (fun _ _ _ _=>cD (c8 (K:=K) rfl hu) (aG C_common_divisor gO (hr.mono Zd) (ah (pvL 0) (ah (pvC 1) (aa)))) (au) (aU _))) (aa))))),?_⟩;ac_nf;refine⟨_,.of hp,fun q H1 hq s1 h1=>?_⟩;have hp1:H1 p=some (.lst (ws.map V.int)):=s1 _ _ hp;have ec:pV (ws.map V.int) (some 1) none=(ws.drop 1).map V.int:=by rw[show (1:Int)=((1:Nat):Int) from rfl,jt,nU]
  rw[ec] at h1;refine⟨⟨_,.of hp1⟩,⟨_,.of h1⟩,Mi V.int V.int gr gr (.of hp1) (.of h1) (ao (by left)) (fun a b=>.int (b-a)) ?_ ?_⟩
  ·intro a b hab H' s' R hR;ac_nf;exact hR H' (ax.refl _)
  ·intro D H2 hD s2 h2;have e2:H2 D=some (.lst ((Mk.dif ws).map V.int)):=by rw[h2];unfold Mk.dif;rw[aX];rfl
   have hp2:H2 p=some (.lst (ws.map V.int)):=s2 _ _ hp1;have ldif:(Mk.dif ws).length<=1000:=by unfold Mk.dif;rw[ak,List.length_zip];left
   ac_nf;refine⟨_,_,hp2,e2,?_,fun r H3 hr s3 h3=>.inl ⟨⟨_,.of h3⟩,?_⟩⟩
   ·rw[ak,ak];exact aT (ao (by left))
   ·rw[←bL] at h3;refine tK (xs:=ws++Mk.dif ws) V.int gr (fX (.of h3)) (by rw[aK];exact ao (by left)) (fun n=>.bl (Mk.cop m n)) ?_ ?_
    ·intro n hn H' s' R hR;ac_nf;refine⟨n,m,rfl,?_⟩;have e:decide (((Int.gcd n m:Nat):Int)=1)=Mk.cop m n:=by
      unfold Mk.cop
      by_cases h:Int.gcd n m=1
      ·rw[ar h];exact ar (by left)
      ·rw[ay h];exact ay (by left)
     show R (V.bl (decide (((Int.gcd n m:Nat):Int)=1))) H';rw[e];exact hR H' (ax.refl _)
    ·intro D' H4 hD' s4 h4;refine⟨D',(ws++Mk.dif ws).map (Mk.cop m),rfl,.of (by rw[h4,aX];rfl),?_⟩;have ea:(((ws++Mk.dif ws).map (Mk.cop m)).all id)=Mk.safe m ws:=by unfold Mk.safe;rw[fY];rfl
     rw[ea];exact k H4 (s1.trans (s2.trans (s3.trans s4)))
def bU (b:Int):V->Bool
 | .int i=>decide (0<=i)&&decide (i<b)
 | _=>false
def fI:Sp:=fun vs H Q _=>∃ (x:V) (t:Tg) (b:Int),vs=[x,.int b]/\fT H x=some t/\Q (.bl (bU b x)) H
def yW:aI ["thing","bound"] ["thing","bound"] (av p9):=by subst_eqs
def yD (F:Fun K "is_below" "is_below" p9 f fd) (T:Bl mg) (AF:AdF K mg Ad) (C_is_whole:Fnc P w K mg base (CX1 P w) 1 "is_whole" ["thing"] tE):bS P w K mg base (CX1 P w) 2 f fd ["thing","bound"] fI:=by
 refine F.okX (k:=1) yW ?_ ?_
 ·bv_decide
 ·right;obtain⟨x,t,b,rfl,ht,k⟩:=h;refine⟨_,aj (aH (ma (aG C_is_whole aw (hr.mono Zd) (ah (pvL 0) (aa))) (md (Gd ir ph (au) (pvL 0) (pvL 1))))),?_⟩
  by_cases hs:∃ i,x=.int i
  ·obtain⟨i,rfl⟩:=hs;cases ht;ac_nf;refine⟨_,Tg.int,rfl,rfl,?_⟩;ac_nf;have ek:bU b (.int i)=(decide (0<=i)&&decide (i<b)):=rfl;rw[ek] at k;rw[ai (by simp)];cases h0:decide (0<=i) with
   | false=>rw[h0,jr] at k;bv_omega;exact k
   | true=>rw[h0,dQ] at k;bv_omega;exact k
  ·have hv:bU b x=false:=by
    cases x with
    | int i=>exact absurd ⟨i,rfl⟩ hs
    | _=>rfl
   have hne:t≠Tg.int:=fun e=>by
    subst e;cases x with
    | int i=>exact hs ⟨i,rfl⟩
    | ref a =>
     have h':mF (H a)=some .int:=ht;cases e:H a with
     | none=>rw[e] at h';cases h'
     | some o=>rw[e] at h';cases o with
      | frz ob u=>cases u<;>cases h'
      | _=>cases h'
    | _=>cases ht
   rw[hv] at k;ac_nf;refine⟨x,t,rfl,ht,?_⟩;ac_nf;rw[ay hne];bv_omega;exact k
def lV (al:Str) (ws:Zb) (r:Int):V->Bool
 | .str z=>Mk.i8 al.cps.toList ws r z.cps.toList
 | _=>false
inductive pH (vs:List V) (H:Hp) (Q:VK) (E:XK):Prop
 | mk (al:Str) (p:Addr) (ws:Zb) (r:Int) (x:V) (t:Tg) (q0:vs=[.str al,.ref p,.int r,x]) (q1:H p=some (.lst (ws.map V.int))) (q2:ws.length<=1000) (q3:0<al.length) (q4:al.length<=1000) (q5:Mk.sml ws) (q6:fT H x=some t) (q7:(∀ z,x=.str z->z.length<=100000)) (q8:∀ H',ax H H'->Q (.bl (lV al ws r x)) H'):pH vs H Q E
def Ax:aI ["alphabet","weights","rest","word"] ["alphabet","weights","rest","word"] (av sh):=by subst_eqs
def Ag (F:Fun K "is_good" "is_good" sh f fd) (T:Bl mg) (AF:AdF K mg Ad) (C_are_good:Fnc P w K mg base (CX1 P w) 1 "are_good" ["m","weights","rest","places"] ke) (C_places_of:Fnc P w K mg base (CX1 P w) 1 "places_of" ["alphabet","word"] my) (C_is_word:Fnc P w K mg base (CX1 P w) 1 "is_word" ["alphabet","length","thing"] vc):bS P w K mg base (CX1 P w) 2 f fd ["alphabet","weights","rest","word"] pH:=by
 refine F.okX (k:=1) Ax ?_ ?_
 ·bv_decide
 ·right;obtain⟨al,p,ws,r,x,t,rfl,hp,hwl,ha0,ha,hsm,ht,hz,k⟩:=h;refine⟨_,ae (bC (c9 (cb (aG C_is_word aw (hr.mono Zd) (ah (pvL 0) (ah (aA (bG (K:=K) rfl) T.len cG (ah (pvL 1) (aa))) (ah (pvL 3) (aa))))))) (aj (aH (gP))) (aQ)) (aj (aH (aG C_are_good aw (hr.mono Zd) (ah (aA (bG (K:=K) rfl) T.len cG (ah (pvL 0) (aa))) (ah (pvL 1) (ah (pvL 2) (ah (aG C_places_of aw (hr.mono Zd) (ah (pvL 0) (ah (pvL 3) (aa)))) (aa)))))))),?_⟩;ac_nf;refine⟨_,.l hp,?_⟩;rw[ak];refine⟨al,_,x,t,rfl,ht,hz,fun H1 s1=>?_⟩;have h1p:H1 p=some (.lst (ws.map V.int)):=s1 _ _ hp;ac_nf;cases hw:qf al ws.length x with
  | false =>
   have e:lV al ws r x=false:=by
    cases x with
    | str z =>show (Mk.eS al.cps.toList ws.length z.cps.toList&&_)=false;rw[show Mk.eS al.cps.toList ws.length z.cps.toList=false from hw,jr]
    | _=>rfl
   rw[e] at k;exact k H1 s1
  | true =>
   cases x with
   | str z =>
    have hw':Mk.eS al.cps.toList ws.length z.cps.toList=true:=hw;obtain⟨hw1,hw2⟩:=Mk.zV.mp hw';have hzl:z.cps.toList.length<=1000:=by left
    bv_omega;refine⟨aT (ao (by left)),al,z,rfl,by rw[dE];left,hw2,fun q H2 hq s2 h2=>?_⟩;have h2p:H2 p=some (.lst (ws.map V.int)):=s2 _ _ h1p;ac_nf;refine⟨_,p,ws,r,q,_,rfl,by left,h2p,h2,by left,hsm,Mk.L9 (Mk.B0 hw2) (by rw[dE] at ha;left),fun H3 s3=>?_⟩;have e:lV al ws r (.str z)=Mk.good al.length ws r (Mk.plc al.cps.toList z.cps.toList):=by show (Mk.eS al.cps.toList ws.length z.cps.toList&&Mk.good al.cps.toList.length ws r _)=_;rw[hw',dQ,←dE]
    rw[e] at k;exact k H3 (s1.trans (s2.trans s3))
   | _=>cases hw
def qG:Sp:=fun vs H Q _=>∃ (x:V) (t:Tg) (n:Nat),vs=[x,.int n]/\fT H x=some t/\(∀ z,x=.str z->z.length<=10000)/\n<=1000/\∀ H',ax H H'->Q (.bl (jS n x)) H'
def qA:aI ["thing","most","words"] ["thing","most"] (av mZ):=by subst_eqs
def xi (F:Fun K "are_words" "are_words" mZ f fd) (T:Bl mg) (AF:AdF K mg Ad) (C_are_letters:Fnc P w K mg base (CX1 P w) 1 "are_letters" ["thing","most"] jC):bS P w K mg base (CX1 P w) 2 f fd ["thing","most"] qG:=by
 refine F.okX (k:=1) qA ?_ ?_
 ·bv_decide
 ·right;obtain⟨x,t,n,rfl,ht,hz,hn,k⟩:=h;refine⟨_,ae (bC (c9 (cb (aA (e8 .str) T.isinstance bt_isinstance (ah (pvL 0) (ah (iS T.str mG) (aa)))))) (aj (aH (gP))) (aQ)) (ae (aF (i:=2) qA.nd (eD (K:=K) rfl gj og oi qj (pvL 0) (ah (aO) (aa)))) (aj (aH (ma (cD ir (aA (bG (K:=K) rfl) T.len cG (ah (pvL 2) (aa))) (pvL 1) (aU _)) (md (aA (ig (K:=K) rfl rfl) T.all oU (ah (jc ["word"] rfl ⟨rfl,by nofun,rfl,by nofun⟩ (.nil) (by nofun) (cE (K:=K) rfl (pvL 2)) (fun _ _ _ _=>aC (i:=0) (show (["word"]:Ze).Nodup from by nofun)) (fun _ _ _ _=>dv) (fun _ _ _ _=>aG C_are_letters gO (hr.mono Zd) (ah (pvL 0) (ah (fV AF.v_LONGEST_WORD) (aa))))) (aa)))))))),?_⟩
  by_cases hs:∃ z,x=.str z
  ·obtain⟨z,rfl⟩:=hs;cases ht;have hl:=hz z rfl;have hc:=dE z;have ek:jS n (.str z)=ju n z.cps.toList:=rfl;ac_nf;refine⟨trivial,Tg.str,rfl,?_⟩;ac_nf;obtain⟨sl1,sl2⟩:=Mk.vf (c:=32) z.cps.toList;refine⟨rfl,by left,32,rfl,fun p H1 hp s1 h1=>⟨_,.l h1,?_⟩⟩;rw[ak]
   by_cases h2:(Mk.cc 32 z.cps.toList).length<=n
   ·rw[ar (show ((Mk.cc 32 z.cps.toList).length:Int)<=(n:Int) by left)];bv_omega;refine .inl ⟨⟨_,.of h1⟩,tK (fun w:Za=>V.str (tx w)) (fun a b e=>vi (V.str.inj e)) (fX (.of h1)) (ao (by left)) (fun w=>.bl (dS 20 w)) ?_ ?_⟩
    ·intro w hw H2 s2 R hR;have hwl:=sl2 w hw;ac_nf;refine⟨_,Tg.str,20,rfl,rfl,(fun y e=>by cases e;rw[bM];left),Zd,fun H3 s3=>?_⟩;have e:i7 20 (.str (tx w))=dS 20 w:=by show dS 20 (tx w).cps.toList=_;rw[ck]
     rw[e];exact hR H3 s3
    ·intro D H2 hD s2 h2';refine⟨D,(Mk.cc 32 z.cps.toList).map (dS 20),rfl,.of (by rw[h2',aX];rfl),?_⟩;have e:((Mk.cc 32 z.cps.toList).map (dS 20)).all id=jS n (.str z):=by
      rw[ek];unfold ju;rw[ar h2,fY];rfl
     rw[e];exact k H2 (s1.trans s2)
   ·have e:jS n (.str z)=false:=by rw[ek];unfold ju;rw[ay h2];rfl
    rw[e] at k;rw[ay (show ¬ ((Mk.cc 32 z.cps.toList).length:Int)<=(n:Int) by left)];bv_omega;exact k H1 s1
  ·have hv:jS n x=false:=by
    cases x with
    | str z=>exact absurd ⟨z,rfl⟩ hs
    | _=>rfl
   have hne:=qL ht fun z e=>hs ⟨z,e⟩;rw[hv] at k;ac_nf;refine⟨trivial,t,ht,?_⟩;cases t<;>first
    | exact absurd rfl hne
    | exact k H (ax.refl _)
def m8:Sp:=fun vs H Q _=>∃ (p:Addr) (al:Za) (ws:Zb) (r:Int),vs=[.ref p]/\H p=some (.lst [.str (tx [99,111,100,101]),.str (tx al),.str (tx (Mk.cz 44 (ws.map fun w=>Mk.dgN w.toNat))),.str (tx (Mk.dgN r.toNat))])/\(∀ w∈ws,0<=w/\w<26)/\1<=ws.length/\ws.length<=8/\(0<=r/\r<26)/\∀ t q H',ax H H'->H' t=some (.tup [.str (tx al),.ref q,.int r])->H' q=some (.lst (ws.map V.int))->Q (.ref t) H'
def iY:aI ["words","weights","rest"] ["words"] (av j9):=by subst_eqs
def tN (F:Fun K "code_written" "code_written" j9 f fd) (T:Bl mg) (AF:AdF K mg Ad) (C_number_written:Fnc P w K mg base (CX1 P w) 1 "number_written" ["text"] kh):bS P w K mg base (CX1 P w) 2 f fd ["words"] m8:=by
 refine F.okX (k:=1) iY ?_ ?_
 ·bv_decide
 ·right;obtain⟨p,al,ws,r,rfl,hp,hws,w1,w8,hr0,k⟩:=h;refine⟨_,ae (bC ((jd (aP (iu (K:=K) rfl hu) (aA (bG (K:=K) rfl) T.len cG (ah (pvL 0) (aa))) (au) (aU _)) (gx (aP (iu (K:=K) rfl hu) (b7 (cn (K:=K) rfl) (pvL 0) (au) (fun _ _=>rfl)) (aO) (aU _)))).pt) (aj (aH (dW))) (aQ)) (ae (j6 (i:=1) ["part"] iY.nd rfl (Or.inl rfl) rfl ⟨rfl,by nofun,rfl,by nofun⟩ (.nil) (by nofun) (cE (K:=K) rfl (eD (K:=K) rfl gj og oi qj (b7 (cn (K:=K) rfl) (pvL 0) (au) (fun _ _=>rfl)) (ah (aO) (aa)))) (fun _ _ _ _=>aC (i:=0) (show (["part"]:Ze).Nodup from by nofun)) (fun _ _ _ _=>dv) (fun _ _ _ _=>aG C_number_written gO (hr.mono Zd) (ah (pvL 0) (aa)))) (ae (aF (i:=2) iY.nd (aG C_number_written aw (hr.mono Zd) (ah (b7 (cn (K:=K) rfl) (pvL 0) (au) (fun _ _=>rfl)) (aa)))) (ae (bC ((jd (aP (lZ (K:=K) rfl hu1) (dW) (pvL 1) (by ext)) (gx (aP uO (pvL 2) (dW) (aU _)))).pt) (aj (aH (dW))) (aQ)) (aj (aH (cx (ah (b7 (cn (K:=K) rfl) (pvL 0) (au) (fun _ _=>rfl)) (ah (pvL 1) (ah (pvL 2) (aa)))))))))),?_⟩;have big:∀ {u:Nat},u<=1000->u<=sizeLine:=fun hu=>aT (ao (by left));grind;refine⟨_,.l hp,?_⟩;rw[af (by simp)];refine⟨_,_,.l hp,bf (j:=0) rfl,?_⟩;symm;rw[af (by decide)];show nn _ _ _;cbv;have hdl:∀ d∈ws.map (fun w=>Mk.dgN w.toNat),d.length<=2/\44∉d:=fun d hd=>by
   obtain⟨w,hw,rfl⟩:=aD.mp hd;have:=hws w hw;obtain⟨d1,d2,d3,d4⟩:=Mk.ip w.toNat (by left);exact⟨d2,fun h=>by have:=d3 _ h;left⟩
  grind;refine⟨_,_,.l hp,bf (j:=2) rfl,?_⟩;symm;have hjl:=AM hws w8;refine⟨rfl,by rw[bM];left,44,rfl,fun p1 H1 hp1 s1 g1=>?_⟩;rw[ck,Mk.gI _ (fun e=>by have:=aV List.length e;simp at this;rw[this] at w1;simp at w1) fun w hw=>(hdl w hw).2] at g1;refine .inl ⟨⟨_,.of g1⟩,tK (fun d:Za=>V.str (tx d)) (fun a b e=>vi (V.str.inj e)) (fX (.of g1)) (ao (by rw[ak];left)) (fun d=>V.int (PySem.NumText.digitsVal d:Nat)) ?_ ?_⟩
  ·intro d hd H2 s2 R hR;obtain⟨w,hw,rfl⟩:=aD.mp hd;have hw0:=hws w hw;symm;refine⟨w.toNat,rfl,by left,fun H3 s3=>?_⟩;rw[show PySem.NumText.digitsVal (Mk.dgN w.toNat)=w.toNat from PySem.W.KIN.val_back _] at hR;exact hR H3 s3
  intro q H2 hq s2 g2;have eq2:(ws.map fun w=>Mk.dgN w.toNat).map (fun d=>V.int (PySem.NumText.digitsVal d:Nat))=ws.map V.int:=by rw[aX];refine nT fun w hw=>?_;show V.int ((PySem.NumText.digitsVal (Mk.dgN w.toNat):Nat):Int)=V.int w;rw[show PySem.NumText.digitsVal (Mk.dgN w.toNat)=w.toNat from PySem.W.KIN.val_back _,lq (hws w hw).1]
  rw[eq2] at g2;have s02:=s1.trans s2;cbv;grind;refine⟨_,_,.l (s02 _ _ hp),bf (j:=3) rfl,?_⟩;refine⟨r.toNat,rfl,by left,fun H3 s3=>?_⟩;rw[lq hr0.1,hN];clear hN nn;have s03:=s02.trans s3;grind;refine .inl ⟨_,.l (s3 _ _ g2),rfl,?_,?_⟩
  ·exact bP.mpr fun v hv=>by obtain⟨w,_,rfl⟩:=aD.mp hv;rfl
  rw[show inV V.non (ws.map V.int)=false from by clear hN hws w1 w8 hp k hdl hjl g1 g2 eq2;induction ws with | nil=>rfl | cons w r ih=>exact ih];bv_omega;show nn _ _ _;cbv;symm;refine⟨_,_,.l (s03 _ _ hp),bf (j:=1) rfl,big Zd,fun t H4 ht s4 g4=>?_⟩;exact k t q H4 (s03.trans s4) g4 ((s3.trans s4) _ _ g2)
inductive eY (Ad:Ads) (spf:Sp) (vs:List V) (H:Hp) (Q:VK) (E:XK):Prop
 | mk (b ca dn de f:Addr) (es:List Ben) (al:Za) (ws:Zb) (r n:Int) (bar:Int->Bool) (q0:vs=[.ref b,.ref f]) (q1:cq Ad H b ca dn de es) (q2:dq Ad H ca al ws r) (q3:cO al ws r) (q4:Bar spf bar H) (q5:km (es.map (·.num)) bar n) (q6:((n<bX al ws/\∀ H',ax H H'->Q (.int n) H')∨(bX al ws<=n/\∀ H',ax H H'->E (.ref Ad.TooMany) none H'))):eY Ad spf vs H Q E
def gy:aI ["self","is_barred","k"] ["self","is_barred"] (av cU):=by subst_eqs
def pe {k:Nat} (F:Fun K "least_free" "Book.least_free" cU f fd) (T:Bl mg) (AF:AdF K mg Ad) (M_Code_many:pP P w K mg base (CX1 P w) Ad.Code "many" 1 ["self"] (eZ Ad)):xP P w K mg base (CX1 P w) (k+2) f fd ["self","is_barred"] (Jv P w K mg base k 1 (eY Ad)):=by
 refine F.okH (j:=k+1) (k:=k) (n:=1) gy (fun spf vs H Q E h=>?_) (fun cdv A outer s H vs Q E hr lf spf hlf lam step h=>?_)
 ·obtain⟨b,ca,dn,de,f,es,al,ws,r,n,bar,rfl,_⟩:=h;rfl
 ·obtain⟨b,ca,dn,de,f,es,al,ws,r,n,bar,rfl,B,C,ok,Fb,Lf,k⟩:=h;obtain rfl:f=lf:=by cases hlf;rfl
  have hu:=hr.fJ;have hu1:=jW hr;refine⟨_,ae (aF (i:=2) gy.nd (au)) (ae (uQ dD ((jd (aP (lZ (K:=K) rfl hu1) (pvL 2) (b8 (K:=K) rfl (pvL 0)) (by ext)) (gx (cb (sV step rfl (hr.mono (by left)) (pvL 1) (ah (pvL 2) (aa)))))).pt) (aj (aF (i:=2) gy.nd (aR br (pvL 2) (au))))) (ae (bC (aP (xp (K:=K) rfl hu) (pvL 2) (cT M_Code_many.mtd aw (hr.mono (by left)) (b8 (K:=K) rfl (pvL 0))) (aU _)) (aj (cJ cK AF.q_TooMany AF.g_TooMany cy rfl (ah (aO) (aa)))) (aQ)) (aj (aH (pvL 2))))),?_⟩;grind;cbv;grind;refine xN (fun σ H'=>∃ k:Int,0<=k/\k<=n/\σ=[some (V.ref b),some (V.ref f),some (V.int k)]/\ax H H') (fun σ _=>match σ with | [_,_,some (V.int k)]=>(n-k).toNat | _=>0) ⟨0,Zd,Lf.pos,rfl,ax.refl _⟩ ?_;rintro σ G ⟨j,j0,jn,rfl,t⟩;have B1:=B.same t;obtain⟨dx,h1⟩:=B1.bk;symm;refine⟨_,dx,_,_,h1,AF.c_Book,AF.n_Book_by_number,gz ca dn de,?_⟩;refine .inr ⟨_,.inl ⟨_,.inl j,.inl B1.hn,rfl,rfl⟩,?_⟩;rw[Ae B.nn]
  by_cases hm:j∈es.map (·.num)
  ·rw[ar hm,ai rfl];have jl:j≠n:=fun e=>Lf.out (by rw[←e];exact hm);refine⟨fun σ G'=>σ=[some (V.ref b),some (V.ref f),some (V.int (j+1))]/\G'=G,?_,rfl,rfl⟩;rintro σ G' ⟨rfl,rfl⟩;exact⟨⟨j+1,by left,by left,rfl,t⟩,show (n-(j+1)).toNat<(n-j).toNat by left⟩
  ·rw[ay hm,af (by decide)];refine⟨trivial,lam.same t,lam.same t,trivial,Fb.same t j G _ (ax.refl _) fun G1 t1=>⟨_,rfl,?_⟩⟩
   by_cases hb:bar j=true
   ·rw[ai hb];have jl:j≠n:=fun e=>by rw[e,Lf.fr] at hb;cases hb
    refine⟨fun σ G'=>σ=[some (V.ref b),some (V.ref f),some (V.int (j+1))]/\G'=G1,?_,rfl,rfl⟩;rintro σ G' ⟨rfl,rfl⟩;exact⟨⟨j+1,by left,by left,rfl,t.trans t1⟩,show (n-(j+1)).toNat<(n-j).toNat by left⟩
   rw[af hb];have je:j=n:=by
    rcases Int.lt_or_eq_of_le jn with h | h
    ·rcases Lf.all j j0 h with h | h
     ·exact absurd h hm
     ·exact absurd h hb
    ·exact h
   subst je;cbv;have C1:=C.same (t.trans t1);have B2:=B1.same t1;obtain⟨dx2,h12⟩:=B2.bk;obtain⟨dc,qc,hc1,hc2⟩:=id C1;grind;refine⟨_,dx2,_,_,h12,AF.c_Book,AF.n_Book_basis,jT ca dn de,?_⟩;refine⟨dc,_,hc1,cZ Zd Zd Zd al qc r,ca,al,ws,r,rfl,C1,ok.a26,by have:=ok.w3;left,ok.w8,fun G2 t2=>?_⟩;symm;have em:(al.length:Int)^(ws.length-1)=bX al ws:=rfl;rw[em];rcases k with ⟨hn,k⟩ | ⟨hn,k⟩
   ·rw[ay (show ¬ bX al ws<=j by left)];bv_omega;show nn _ _ _;cbv;symm;exact k G2 (t.trans (t1.trans t2))
   ·rw[ar hn];bv_omega;exact⟨aT (ao Zd),k G2 (t.trans (t1.trans t2))⟩
def tD (Ad:Ads):Sp:=fun vs H Q _=>∃ (a:Addr) (al:Za) (ws:Zb) (r:Int),vs=[.ref a]/\dq Ad H a al ws r/\cO al ws r/\∀ H',ax H H'->Q (.str (tx (ja al ws r))) H'
def ka:aI ["code","alphabet","weights","rest"] ["code"] (av p8):=by subst_eqs
def yC (F:Fun K "code_row" "code_row" p8 f fd) (T:Bl mg) (AF:AdF K mg Ad) (M_Code_rest:Mtd P w K mg base (CX1 P w) Ad.Code "rest" 1 ["self"] (qF Ad)) (M_Code_weights:Mtd P w K mg base (CX1 P w) Ad.Code "weights" 1 ["self"] (m7 Ad)) (M_Code_alphabet:Mtd P w K mg base (CX1 P w) Ad.Code "alphabet" 1 ["self"] (i3 Ad)):bS P w K mg base (CX1 P w) 2 f fd ["code"] (tD Ad):=by
 refine F.okX (k:=1) ka ?_ ?_
 ·bv_decide
 ·right;obtain⟨a,al,ws,r,rfl,C,ok,k⟩:=h;refine⟨_,ae (aF (i:=1) ka.nd (cT M_Code_alphabet aw (hr.mono Zd) (pvL 0))) (ae (aF (i:=2) ka.nd (eD (K:=K) rfl gj rk rq (qi (K:=K) rfl) (aO) (ah (jc ["weight"] rfl ⟨rfl,by nofun,rfl,by nofun⟩ (.nil) (by nofun) (cE (K:=K) rfl (cT M_Code_weights aw (hr.mono Zd) (pvL 0))) (fun _ _ _ _=>aC (i:=0) (show (["weight"]:Ze).Nodup from by nofun)) (fun _ _ _ _=>dv) (fun _ _ _ _=>fB CA T.str mG (ah (pvL 0) (aa)))) (aa)))) (ae (aF (i:=3) ka.nd (cT M_Code_rest aw (hr.mono Zd) (pvL 0))) (aj (aH (Gi (rY (pj (pvL 1) (rY (pj (pvL 2) (rY (pj (pvL 3) (Ao)))))))))))),?_⟩;have a26:=ok.a26;have w3:=ok.w3;have w8:=ok.w8;obtain⟨dx,q,h1,h2⟩:=id C;grind;refine⟨dx,_,h1,cZ Zd Zd Zd al q r,a,al,ws,r,rfl,C,?_⟩;cbv;grind;refine⟨rfl,dx,_,h1,cZ Zd Zd Zd al q r,a,al,ws,r,rfl,C,fun p1 H1 hp1 s1 g1=>?_⟩;symm;have hdl:∀ w∈ws,0<=w/\w<26/\(Mk.dgN w.toNat).length<=2:=fun w hw=>by
   have:=ok.wm w hw;exact⟨by left,by left,(Mk.ip w.toNat (by left)).2.1⟩
  refine .inl ⟨⟨_,.of g1⟩,tK V.int gr (fX (.of g1)) (ao (by left)) (fun w=>V.str (tx (Mk.dgN w.toNat))) ?_ ?_⟩
  ·intro w hw H2 s2 R hR;have:=hdl w hw;symm;exact⟨by left,by left,hR H2 (ax.refl _)⟩
  intro D H2 hD s2 g2;have e44:Str.ofString ","=tx [44]:=rfl;symm;refine⟨(ws.map fun w=>Mk.dgN w.toNat).map tx,.of (by rw[g2,aX,aX];rfl),?_,?_⟩
  ·rw[ak,ak,e44,bM];have h2:(((ws.map fun w=>Mk.dgN w.toNat).map tx).map (·.length)).sum<=2*ws.length:=by
    clear hN g1 g2 w3 w8 C h2 h1 k ok
    induction ws with
    | nil=>simp
    | cons w r ih =>have h3:=ih fun x hx=>hdl x (bD _ hx);have h4:=(hdl w bq).2.2;simp only[bp,iL,aN,bM] at h3 h4 ⊢;left
   show _+ws.length*1<=_;left
  rw[e44,wq,hN];clear hN nn;have s02:=s1.trans s2;grind;refine⟨dx,_,s02 _ _ h1,cZ Zd Zd Zd al q r,a,al,ws,r,rfl,C.same s02,?_⟩;cbv;symm;have rm:=ok.rm;have j24:=AM (fun w hw=>⟨(hdl w hw).1,(hdl w hw).2.1⟩) w8;have dr:=(Mk.ip r.toNat (by left)).2.1;rw[ck,ck,show (Str.ofString "code ").cps.toList=[99,111,100,101,32] from rfl,show (Str.ofString " ").cps.toList=[32] from rfl];have:=k H2 s02;unfold ja at this;refine⟨Zd,?_,?_,?_,?_,by left,by left,?_,this⟩<;>simp only[aK,aN,cf]<;>left
def n9:Sp:=fun vs H Q _=>∃ c m n:Int,vs=[.int c,.int m,.int n]/\0<m/\m<=1000/\0<=n/\n<=1000/\∀ p H',H p=none->ax H H'->H' p=some (.lst ((Mk.wts c m n.toNat).map V.int))->Q (.ref p) H'
def eJ:aI ["_law_cell","_law_m","_law_many_here","_law_found","_law_k","_law_some"] ["_law_cell","_law_m","_law_many_here"] (av kD):=by subst_eqs
def uN (F:Fun K "_law_weights" "_law_weights" kD f fd) (T:Bl mg) (AF:AdF K mg Ad) (C_law_apart:Fnc P w K mg base (CX1 P w) 1 "_law_apart" ["_law_number","_law_m"] qI):bS P w K mg base (CX1 P w) 2 f fd ["_law_cell","_law_m","_law_many_here"] n9:=by
 refine F.okX (k:=1) eJ ?_ ?_
 ·bv_decide
 ·right;obtain⟨c,m,n,rfl,hm,hm2,hn0,hn,k⟩:=h;refine⟨_,ae (ji (i:=3) eJ.nd (bR (aa))) (ae (iT dD rfl (gv T.range (ah (pvL 2) (aa))) (mU (i:=4) eJ.nd) (ae (j6 (i:=5) ["_law_w"] eJ.nd rfl (Or.inl rfl) rfl ⟨rfl,by nofun,rfl,by nofun⟩ (.cons (j:=1) rfl (.inl (by ext)) (.cons (j:=4) rfl (.inl (by ext)) (.cons (j:=3) rfl (.inl (by ext)) (.nil)))) (by nofun) (gv T.range (ah (pvC 1) (aa))) (fun _ _ _ _=>aC (i:=0) (show (["_law_w","_law_m","_law_k","_law_found"]:Ze).Nodup from by nofun)) (fun _ _ _ _=>qw ((mW (cb (aG C_law_apart gO (hr.mono Zd) (ah (pvL 0) (ah (pvC 1) (aa))))) (jZ ((jd (aP (c8 (K:=K) rfl hu) (pvC 2) (au) (aU _)) (gx (cb (aG C_law_apart gO (hr.mono Zd) (ah (aR qr (pvL 0) (b7 (cn (K:=K) rfl) (pvC 3) (aR qr (pvC 2) (au)) (fun _ _=>rfl))) (ah (pvC 1) (aa))))))).pt))).pt)) (fun _ _ _ _=>pvL 0)) (ae (bC (aP (c8 (K:=K) rfl hu) (pvL 5) (bR (aa)) (aU _)) (aj (aF (i:=5) eJ.nd (fB (lU (K:=K) rfl rfl) T.list pT (ah (fB C2 T.range E5 (ah (pvC 1) (aa))) (aa))))) (aQ)) (ae (dF (eD (K:=K) rfl lH oa oh iq (pvC 3) (ah (b7 (cn (K:=K) rfl) (pvL 5) (aR cw (pvL 0) (aA (bG (K:=K) rfl) T.len cG (ah (pvL 5) (aa)))) (fun _ _=>rfl)) (aa)))) (aj (aF (i:=0) eJ.nd (aR cQ (pvL 0) (au)))))))) (aj (aH (pvC 3)))),?_⟩;ac_nf;refine⟨Zd,fun p H0 hp s0 h0=>?_⟩;ac_nf;refine⟨by left,by left,?_⟩;refine Bi (n:=n.toNat) (fun i σ H'=>∃ (ci:Int) (fnd:Zb) (o1 o2:Option V),σ=[some (.int ci),some (.int m),some (.int n),some (.ref p),o1,o2]/\fnd.length=i/\ax H H'/\H' p=some (.lst (fnd.map V.int))/\Mk.oR m (n.toNat-i) ci fnd=Mk.wts c m n.toNat) ?_ ?_ ?_
  ·exact⟨c,[],none,none,rfl,rfl,s0,h0,rfl⟩
  ·rintro i σ H' hi ⟨ci,fnd,o1,o2,rfl,hlen,s1,h1,hgo⟩;ac_nf;refine⟨by left,by left,?_⟩;refine zZ (xs:=(Mk.ofN m.toNat).map V.int) (qE _) (by rw[ak,Mk.lY];exact ao (by left)) (pI fun w=>Mk.cop m w&&(fnd.isEmpty||Mk.cop m (w-fnd.getLastD 0))) (fun x=>x) ?_ ?_ ?_
   ·intro x hx H2 s2 R hR;obtain⟨w,rfl,hw⟩:=FK hx;have h2:H2 p=some (.lst (fnd.map V.int)):=s2 _ _ h1;ac_nf;refine⟨w,m,rfl,by left,?_⟩;ac_nf;have e0:pI (fun w=>Mk.cop m w&&(fnd.isEmpty||Mk.cop m (w-fnd.getLastD 0))) (.int w)=(Mk.cop m w&&(fnd.isEmpty||Mk.cop m (w-fnd.getLastD 0))):=rfl;rw[e0] at hR;cases hc:Mk.cop m w with
    | false =>rw[hc,jr] at hR;exact hR H2 (ax.refl _)
    | true =>
     rw[hc,dQ] at hR;bv_omega;cases hf:fnd with
     | nil =>rw[hf] at hlen;have hi0:i=0:=hlen.symm;subst hi0;rw[ai (by simp)];rw[hf] at hR;exact hR H2 (ax.refl _)
     | cons a r =>
      have hne:i≠0:=by rw[←hlen,hf];simp
      rw[af (by simp;left)];have hlast:(fnd.map V.int)[i-1]?=some (.int (fnd.getLastD 0)):=by rw[bt,←hlen,←List.getLast?_eq_getElem?,List.getLastD_eq_getLast?,hf,List.getLast?_cons];rfl
      have e2:atI (fnd.map V.int) (0+(i:Int)-1)=some (.int (fnd.getLastD 0)):=by rw[show 0+(i:Int)-1=((i-1:Nat):Int) by left];exact bf hlast
      refine⟨_,_,.l h2,e2,_,m,rfl,by left,?_⟩;ac_nf;have e3:fnd.isEmpty=false:=by rw[hf];rfl
      rw[e3,Bool.false_or] at hR;exact hR H2 (ax.refl _)
   ·intro x hx _ H2 s2 R hR;ac_nf;exact hR H2 (ax.refl _)
   ·intro D H2 hD s2 h2;have h2':H2 D=some (.lst ((Mk.xS m fnd).map V.int)):=by
     rw[h2,List.map_id',Df];rfl
    have hp2:H2 p=some (.lst (fnd.map V.int)):=s2 _ _ h1;have hsame:∀ H3,ax H' H3->ax H H3:=fun H3 e b o hb=>by
     by_cases hbp:b=p
     ·subst hbp;rw[hp] at hb;cases hb
     ·exact e b o (s1 b o hb)
    have hpk:=Mk.By hm fnd ci;have hpos:=Mk.yR hm fnd;have hat:atI ((Mk.fv m fnd).map V.int) (ci%((Mk.fv m fnd).length:Int))=some (.int ((Mk.fv m fnd).getD (ci%((Mk.fv m fnd).length:Int)).toNat 0)):=by
     have e:((Mk.fv m fnd).map V.int)[(ci%((Mk.fv m fnd).length:Int)).toNat]?=some (.int ((Mk.fv m fnd).getD (ci%((Mk.fv m fnd).length:Int)).toNat 0)):=by rw[bt,cp,b9 (by left)];rfl
     have:=bf e
     rwa [lq hpk.1] at this
    have hgo2:Mk.oR m (n.toNat-(i+1)) (ci/7) (fnd++[(Mk.fv m fnd).getD (ci%((Mk.fv m fnd).length:Int)).toNat 0])=Mk.wts c m n.toNat:=by rw[←hgo,show n.toNat-i=(n.toNat-(i+1))+1 by left];rfl
    ac_nf;refine⟨bH _,fun r H3 hr s3 h3=>?_⟩;refine⟨_,_,.of (s3 _ _ h2'),.of h3,Dg _,rfl,?_⟩;have s4:ax H' H3:=s2.trans s3;have hp3:H3 p=some (.lst (fnd.map V.int)):=s3 _ _ hp2;cases hcand:Mk.xS m fnd with
    | nil =>
     have hpool:Mk.fv m fnd=Mk.ofN m.toNat:=by unfold Mk.fv;rw[ai hcand]
     rw[ai (show oW (([]:Zb).map V.int) []=true from rfl)];intro a H4 ha s5 h4;refine⟨_,.inr ⟨0,m,h4,⟨by left,by left,by left,by left⟩,by left,rfl⟩,fun l H5 hl s6 h5=>?_⟩;have hp5:H5 p=some (.lst (fnd.map V.int)):=s6 _ _ (s5 _ _ hp3);have hl5:H5 l=some (.lst ((Mk.fv m fnd).map V.int)):=by rw[h5,hpool,Int.sub_zero,wc]
     have s7:ax H' H5:=s4.trans (s5.trans s6);ac_nf;refine⟨.inl ⟨rfl,_,.of hp5⟩,_,.l hl5,by rw[ak];left,_,_,.l hl5,by rw[ak];exact hat,p,_,_,rfl,rfl,hp5,by rw[ak];exact ao (by left),⟨Zd,Zd⟩,_,_,_,_,rfl,?_,(hsame _ s7).gu hp,?_,hgo2⟩
     ·rw[aK,hlen];rfl
     ·rw[aB,bL];rfl
    | cons x y =>
     have hpool:Mk.fv m fnd=Mk.xS m fnd:=by unfold Mk.fv;rw[af (by rw[hcand];simp)]
     rw[af (by simp [oW])];have hl3:H3 D=some (.lst ((Mk.fv m fnd).map V.int)):=by rw[hpool];exact s3 _ _ h2'
     refine⟨.inl ⟨rfl,_,.of hp3⟩,_,.l hl3,by rw[ak];left,_,_,.l hl3,by rw[ak];exact hat,p,_,_,rfl,rfl,hp3,by rw[ak];exact ao (by left),⟨Zd,Zd⟩,_,_,_,_,rfl,?_,(hsame _ s4).gu hp,?_,hgo2⟩
     ·rw[aK,hlen];rfl
     ·rw[aB,bL];rfl
  ·rintro σ H' ⟨ci,fnd,o1,o2,rfl,hlen,s1,h1,hgo⟩;ac_nf;refine k p H' hp s1 ?_;rw[h1,←hgo,Nat.sub_self];rfl
inductive pN (es:List Ben) (lk:Lk) (M day:Int) (key:List Key) (y:V):Bool->V->Prop
 | no (h:key∉es.map (·.key)):pN es lk M day key y true (.str ("NoEntry":Str))
 | out (e:Ben) (he:e∈es) (hk:e.key=key):pN es lk M day key y true (.int e.num)
 | twice (h:key∈es.map (·.key)):pN es lk M day key y false (.str ("Twice":Str))
 | num (n:Int) (h:key∉es.map (·.key)) (hy:y=.int n) (h0:0<=n) (h1:n<M) (hf:jb es lk day key n=true):pN es lk M day key y false (.int n)
 | nonum (n:Int) (h:key∉es.map (·.key)) (hy:y=.int n) (h0:0<=n) (h1:n<M) (hf:jb es lk day key n=false):pN es lk M day key y false (.str ("NoNumber":Str))
 | least (n:Int) (h:key∉es.map (·.key)) (hy:y=.non) (hl:km (es.map (·.num)) (jf lk day key) n) (h1:n<M):pN es lk M day key y false (.int n)
 | many (h:key∉es.map (·.key)) (hy:y=.non) (hl:∀ n,0<=n->n<M->jb es lk day key n=false):pN es lk M day key y false (.str ("TooMany":Str))
def Dk (es:List Ben) (key:List Key) (n:Int):Bool:=es.any fun e=>decide (e.num=n)&&decide (e.key=key)
def Bk {es:List Ben}{e:Ben} (nn:(es.map (·.num)).Nodup) (he:e∈es):Dk es key e.num=decide (e.key=key):=by
 unfold Dk
 by_cases hk:e.key=key
 ·rw[ar hk,List.any_eq_true];exact⟨e,he,by rw[ar rfl,ar hk];rfl⟩
 ·rw[ay hk,List.any_eq_false];intro x hx
  by_cases hn:x.num=e.num
  ·rw[ku nn hx he hn,ay hk,Bool.and_false];decide
  ·rw[ay hn,jr];decide
theorem Mm {key:List Key}:∀ {es:List Ben},(es.map (·.key)).Nodup->(key∉es.map (·.key)/\es.filter (fun e=>decide (e.key=key))=[])∨∃ e∈es,e.key=key/\es.filter (fun e=>decide (e.key=key))=[e]
 | [],_=>.inl ⟨by simp,rfl⟩
 | x::es,nk=>by
  rw[bp,df] at nk
  by_cases hx:x.key=key
  ·refine .inr ⟨x,bq,hx,?_⟩;rw[ly (by rw[ar hx]),nN.mpr fun e he z=>nk.1 (by rw[hx,←lL z];exact fh he)]
  ·rw[lx (by rw[ay hx];decide)];rcases Mm nk.2 with ⟨h1,h2⟩ | ⟨e,he,h1,h2⟩
   ·exact .inl ⟨fun z=>by rcases aJ.mp z with z | z;exact hx z.symm;exact h1 z,h2⟩
   ·exact .inr ⟨e,bD _ he,h1,h2⟩
def LH {es:List Ben} (nn:(es.map (·.num)).Nodup) (nk:(es.map (·.key)).Nodup):(key∉es.map (·.key)/\(es.map (·.num)).filter (Dk es key)=[])∨∃ e∈es,e.key=key/\(es.map (·.num)).filter (Dk es key)=[e.num]:=by
 have e1:(es.map (·.num)).filter (Dk es key)=(es.filter fun e=>decide (e.key=key)).map (·.num):=by
  rw[nQ]
  congr 1
  exact List.filter_congr fun e he=>Bk nn he
 rcases Mm (key:=key) nk with ⟨h1,h2⟩ | ⟨e,he,h1,h2⟩
 ·exact .inl ⟨h1,by rw[e1,h2];rfl⟩
 ·exact .inr ⟨e,he,h1,by rw[e1,h2];rfl⟩
def yo {N:Nat}{p:Int->Bool}{n:Int}{r:Zb} (h:(Mk.ofN N).filter p=n::r):p n=true/\0<=n/\n<N/\∀ j,0<=j->j<n->p j=false:=by
 obtain⟨l1,l2,e,h1,h2,_⟩:=List.filter_eq_cons_iff.mp h;have at_:∀ i:Nat,i<N->(Mk.ofN N)[i]?=some (i:Int):=fun i hi=>by unfold Mk.ofN;rw[bt,qR hi];rfl
 have ln:l1.length<N:=by have:=aV List.length e;rw[Mk.lY,aK,aN] at this;left
 have hn:n=(l1.length:Int):=by have:=at_ l1.length ln;rw[e,gc (aq _),Nat.sub_self] at this;exact Option.some.inj this
 refine⟨h2,by left,by left,fun j j0 j1=>?_⟩;have:=at_ j.toNat (by left);rw[e,gb (by left)] at this;have hm:=bw this;rw[show ((j.toNat:Nat):Int)=j by left] at hm;have:=h1 j hm;cases hp:p j with
 | false=>rfl
 | true=>exact absurd hp this
inductive pK (K:Zf) (vs:List V) (H:Hp) (Q:VK) (E:XK):Prop
 | mk (st nw sk lg q t:Addr) (es:List Ben) (lk:Lk) (l0 M day:Int) (m:Nat) (gs:List Lge) (key:List Key) (y:V) (str:Bool) (q0:vs=[.ref st,.int M,.ref q]) (q1:StA H st nw sk lg es lk l0 m gs) (q2:m<=900) (q3:(es.map (·.key)).Nodup) (q4:es.length<=900) (q5:H q=some (.tup [.str (if str then ("strike":Str) else ("put":Str)),.int day,.ref t,y])) (q6:H t=some (.tup (key.map kV))) (q7:eu key) (q8:l0<=day) (q9:(y=.non∨∃ n,y=.int n/\0<=n/\n<M)) (q10:0<=M) (q11:M<=100000) (q12:∀ v H',ax H H'->pN es lk M day key y str v->Q v H'):pK K vs H Q E
def dX:aI ["_law_state","_law_many_here","_law_deed","_law_now","_law_struck","_law_log","_law_sort","_law_day","_law_entry","_law_number","_law_there","_law_some"] ["_law_state","_law_many_here","_law_deed"] (av sq):=by subst_eqs
def Aj (F:Fun K "_law_due" "_law_due" sq f fd) (T:Bl mg) (AF:AdF K mg Ad) (C_law_free:Fnc P w K mg base (CX1 P w) 1 "_law_free" ["_law_state","_law_number","_law_day","_law_entry"] (n5 K)):bS P w K mg base (CX1 P w) 2 f fd ["_law_state","_law_many_here","_law_deed"] (pK K):=by
 refine F.okX (k:=1) dX ?_ (fun cdv A outer s H vs Q E hr h=>?_)
 ·bv_decide
 ·obtain⟨st,nw,sk,lg,q,t,es,lk,l0,M,day,m,gs,key,y,str,rfl,A0,m9,nk,e9,hq,ht,eo,ld,hy,M0,M1,k⟩:=h;obtain⟨kvs,hsk,S,_⟩:=A0.k;obtain⟨ls,hlg,lls,hlast,_⟩:=A0.g;have hu:=hr.fJ;have hu1:=jW hr;have hu9:=hr.hu9;refine⟨_,ae (se (pvC 0) (oG (K:=K) (n:=3) rfl rfl (aY (mU (i:=3) dX.nd) (aY (aC (i:=4) dX.nd) (aY (aC (i:=5) dX.nd) (eT)))))) (ae (se (pvL 2) (oG (K:=K) (n:=4) rfl rfl (aY (aC (i:=6) dX.nd) (aY (mU (i:=7) dX.nd) (aY (mU (i:=8) dX.nd) (aY (aC (i:=9) dX.nd) (eT))))))) (ae (bC ((mW (aP (xq (K:=K) rfl hu9) (pvL 5) (bR (aa)) (aU _)) (jZ (aP ph (pvC 7) (b7 (cn (K:=K) rfl) (b7 (cn (K:=K) rfl) (pvL 5) (JB Hq (au)) (fun _ _=>rfl)) (au) (fun _ _=>rfl)) (aU _)))).pt) (aj (aH (aO))) (aQ)) (ae (Gs (P:=P) (w:=w) rfl rfl (j6 (i:=10) ["_law_one"] dX.nd rfl (Or.inl rfl) rfl ⟨rfl,by nofun,rfl,by nofun⟩ (.cons (j:=8) rfl (.inl (by ext)) (.cons (j:=3) rfl (.inl (by ext)) (.nil))) (by nofun) (Gn (P:=P) (w:=w) rfl rfl (pvC 3)) (fun _ _ _ _=>aC (i:=0) (show (["_law_one","_law_entry","_law_now"]:Ze).Nodup from by nofun)) (fun _ _ _ _=>qw (aP (Am (K:=K) rfl hu9) (Gf (P:=P) (w:=w) rfl rfl (pvC 2) (pvL 0)) (pvC 1) (aU _))) (fun _ _ _ _=>pvL 0))) (ae (bC (aP (c8 (K:=K) rfl hu) (pvL 6) (aO) (aU _)) (aj (aH (mT (aP (iu (K:=K) rfl hu) (pvL 10) (bR (aa)) (aU _)) (b7 (cn (K:=K) rfl) (pvL 10) (au) (fun _ _=>rfl)) (aO)))) (aQ)) (ae (bC (aP (iu (K:=K) rfl hu) (pvL 10) (bR (aa)) (aU _)) (aj (aH (aO))) (aQ)) (ae (bC (aP kO (pvL 9) (dW) (aU _)) (aj (aH (mT ((mW (mV ir ph (au) (pvL 9) (pvL 1)) (jZ (cb (aG C_law_free aw (hr.mono Zd) (ah (pvC 0) (ah (pvL 9) (ah (pvC 7) (ah (pvC 8) (aa))))))))).pt) (pvL 9) (aO)))) (aQ)) (ae (j6 (i:=11) ["_law_one"] dX.nd rfl (Or.inl rfl) rfl ⟨rfl,by nofun,rfl,by nofun⟩ (.cons (j:=0) rfl (.inl (by ext)) (.cons (j:=7) rfl (.inl (by ext)) (.cons (j:=8) rfl (.inl (by ext)) (.nil)))) (by nofun) (gv T.range (ah (pvL 1) (aa))) (fun _ _ _ _=>aC (i:=0) (show (["_law_one","_law_state","_law_day","_law_entry"]:Ze).Nodup from by nofun)) (fun _ _ _ _=>qw (cb (aG C_law_free gO (hr.mono Zd) (ah (pvC 1) (ah (pvL 0) (ah (pvC 2) (ah (pvC 3) (aa)))))))) (fun _ _ _ _=>pvL 0)) (aj (aH (mT (aP (iu (K:=K) rfl hu) (pvL 11) (bR (aa)) (aU _)) (b7 (cn (K:=K) rfl) (pvL 11) (au) (fun _ _=>rfl)) (aO))))))))))),?_⟩;grind;refine⟨_,.l A0.s,rfl,?_⟩;symm;cbv;grind;refine⟨_,.inr (.of hq),rfl,?_⟩;symm;cbv;grind;refine⟨bH _,fun p1 G1 _ t1 g1=>?_⟩;have A1:=A0.same t1;have hlg1:=t1 _ _ hlg;have nx:nn { nx:=fun x H'=>Q V.non H',rt:=Q } [some (V.ref st),some (V.int M),some (V.ref q),some (V.ref nw),some (V.ref sk),some (V.ref lg),some (V.str (if str=true then Str.ofString "strike" else Str.ofString "put")),some (V.int day),some (V.ref t),some y,none,none] G1:=by
   cbv;grind;refine⟨nw,_,rfl,A1.n,fun D G2 kr k2 g2=>?_⟩;have n2:∀ {c:Addr}{o:HO},(∀ kvs,o≠.dK kvs)->G1 c=some o->G2 c=some o:=fun {c o} ho e=>k2 c o (fun z=>by rw[z,A1.n] at e;cases e;exact ho _ rfl) e;have ek:(fu es).map (fun kv=>kV kv.1)=(es.map (·.num)).map V.int:=by rw[lX,aX,aX];rfl
   refine FD (xs:=es.map (·.num)) V.int gr (by rw[←ek];exact DQ g2) (by rw[ak];exact ao (by left)) (Dk es key) V.int ?_ ?_ ?_
   ·intro n hn G3 t3 R hR;symm;obtain⟨e,he,rfl⟩:=aD.mp hn;obtain⟨ea,eo'⟩:=A1.en e he;refine⟨nw,D,_,.inl e.num,.ref e.adr,rfl,t3 _ _ g2,kr,rfl,jX A0.nn he,0,_,Zd,(xy (t3 _ _ (n2 (fun _ z=>by cases z) ea)) (t3 _ _ (n2 (fun _ z=>by cases z) (t1 _ _ ht))) eo' eo).1,?_⟩;have:=hR G3 (ax.refl _);rw[Bk A0.nn he] at this;exact this
   ·intro n hn _ G3 t3 R hR;symm;exact hR G3 (ax.refl _)
   intro Th G3 hTh t3 g3;rw[Cg];refine⟨nw,D,_,t3 _ _ g2,kr,fun G4 k4 g4=>?_⟩;have t14:ax G1 G4:=fun c o e=>by
    by_cases hc:c=nw
    ·rw[hc,A1.n] at e;cases e;rw[hc];exact g4
    ·exact k4 c o hc (t3 _ _ (k2 c o hc e))
   have nTh:Th≠nw:=fun z=>by rw[z,g2] at hTh;cases hTh
   have g4':=k4 _ _ nTh g3;have A4:=A1.same t14;have ht4:=t14 _ _ (t1 _ _ ht);have kk:∀ v G,ax G4 G->pN es lk M day key y str v->Q v G:=fun v G tG h=>k v G (t1.trans (t14.trans tG)) h;show nn _ _ _;rw[hN];clear hN nn k2 t3 k4 g3 kr n2 g2 hTh ek;grind;have th:=LH (key:=key) A0.nn nk;cases str with
   | true =>
    rw[ai (by decide)];refine⟨bH _,fun p5 G5 _ t5 g5=>?_⟩;rcases th with ⟨kno,hth⟩ | ⟨e,he,hk,hth⟩
    ·rw[hth] at g4';refine⟨_,_,.of (t5 _ _ g4'),.of g5,rfl,rfl,?_⟩;rw[af (by decide)];exact kk _ G5 t5 (.no kno)
    ·rw[hth] at g4';refine⟨_,_,.of (t5 _ _ g4'),.of g5,rfl,rfl,?_⟩;rw[ai (by rfl)];exact⟨_,_,.l (t5 _ _ g4'),bf (j:=0) rfl,kk _ G5 t5 (.out e he hk)⟩
   | false =>
    rw[af (by decide)];show nn _ _ _;cbv;grind;refine⟨bH _,fun p5 G5 _ t5 g5=>?_⟩;rcases th with ⟨kno,hth⟩ | ⟨e,he,hk,hth⟩
    case inr =>rw[hth] at g4';refine⟨_,_,.of (t5 _ _ g4'),.of g5,rfl,rfl,?_⟩;rw[ai (by rfl)];exact kk _ G5 t5 (.twice (aD.mpr ⟨e,he,hk⟩))
    rw[hth] at g4';refine⟨_,_,.of (t5 _ _ g4'),.of g5,rfl,rfl,?_⟩;rw[af (by decide)];show nn _ _ _;cbv;have A5:=A4.same t5;have ht5:=t5 _ _ ht4;refine dY fun nn hN=>?_;rcases hy with rfl | ⟨n,rfl,n0,n1⟩
    ·symm;show nn _ _ _;cbv;grind;refine⟨by left,by left,FD (xs:=Mk.ofN M.toNat) V.int gr (qE M.toNat) (by rw[Mk.lY];exact ao (by left)) (jb es lk day key) V.int ?_ ?_ ?_⟩
     ·intro n hn G6 t6 R hR;symm;refine⟨st,nw,sk,lg,t,es,lk,l0,n,day,m,gs,key,rfl,A5.same t6,t6 _ _ ht5,eo,fun G7 t7=>⟨_,rfl,hR G7 t7⟩⟩
     ·intro n hn _ G6 t6 R hR;symm;exact hR G6 (ax.refl _)
     intro Sm G6 hSm t6 g6;cbv;symm;refine⟨bH _,fun p7 G7 _ t7 g7=>?_⟩;cases hf:(Mk.ofN M.toNat).filter (jb es lk day key) with
     | nil =>
      rw[hf] at g6;refine⟨_,_,.of (t7 _ _ g6),.of g7,rfl,rfl,?_⟩;rw[af (by decide)];refine kk _ G7 (t5.trans (t6.trans t7)) (.many kno rfl fun n n0 n1=>?_);have:=nN.mp hf n (Mk.i9.mpr ⟨n0,by left⟩);cases hp:jb es lk day key n with
      | false=>rfl
      | true=>exact absurd hp this
     | cons n r =>
      rw[hf] at g6;obtain⟨f1,f2,f3,f4⟩:=yo hf;have fr:∀ {j:Int},jb es lk day key j=true->j∉es.map (·.num)/\jf lk day key j=false:=fun {j} h=>by unfold jb at h;rw[cm] at h;exact⟨fun z=>by rw[ar z] at h;exact absurd h.1 (by decide),by cases hb:jf lk day key j with | false=>rfl | true=>rw[hb] at h;exact absurd h.2 (by decide)⟩
      refine⟨_,_,.of (t7 _ _ g6),.of g7,?_,rfl,?_⟩
      ·exact bP.mpr fun v hv=>by obtain⟨w,_,rfl⟩:=aD.mp hv;rfl
      rw[ai (by rfl)];refine⟨_,_,.l (t7 _ _ g6),bf (j:=0) rfl,kk _ G7 (t5.trans (t6.trans t7)) (.least n kno rfl ⟨f2,(fr f1).1,(fr f1).2,fun j j0 j1=>?_⟩ (by left))⟩;have:=f4 j j0 j1;unfold jb at this
      by_cases hj:j∈es.map (·.num)
      ·exact .inl hj
      ·rw[ay hj] at this;refine .inr ?_;cases hb:jf lk day key j with
       | true=>rfl
       | false=>rw[hb] at this;exact absurd this (by decide)
    ·symm;rw[ar n0,ai rfl,ar n1,ai rfl];refine⟨st,nw,sk,lg,t,es,lk,l0,n,day,m,gs,key,rfl,A5,ht5,eo,fun G6 t6=>⟨_,rfl,?_⟩⟩;cases hf:jb es lk day key n with
     | true =>rw[ai rfl];exact kk _ G6 (t5.trans t6) (.num n kno rfl n0 n1 hf)
     | false =>rw[af (by decide)];exact kk _ G6 (t5.trans t6) (.nonum n kno rfl n0 n1 hf)
  rcases hlast with rfl | ⟨tl,a,b,c,hl1,hl2⟩
  ·refine⟨0,true,Zd,⟨lg,p1,rfl,rfl,.inl ⟨_,_,.of hlg1,.of g1,.inr ⟨rfl,fun _=>true,fun i x y h=>by simp at h,rfl⟩⟩⟩,?_⟩;rw[af (by decide)];exact nx
  ·have hne:ls≠[]:=fun e=>by rw[e] at hl1;cases hl1
   refine⟨0,false,Zd,⟨lg,p1,rfl,rfl,.inl ⟨_,_,.of hlg1,.of g1,.inl ⟨fun e=>hne (List.eq_nil_of_length_eq_zero e),rfl⟩⟩⟩,?_⟩;rw[ai (by decide)];refine⟨_,.ref tl,.l hlg1,Ck hl1,?_⟩;symm;refine⟨_,_,.inr (.of (t1 _ _ hl2)),jv Zd rfl,?_⟩;symm;rw[ay (show ¬ day<l0 by left),af (by decide)];exact nx
structure Ded where
 str:Bool
 day:Int
 t:Addr
 key:List Key
 y:V
def DdP (H:Hp) (v:V) (d:Ded):Prop:=∃ p,v=V.ref p/\H p=some (.tup [.str (if d.str then ("strike":Str) else ("put":Str)),.int d.day,.ref d.t,d.y])
def EC {H H':Hp}{ds:List Ded} (h:Paired (DdP H) ls ds) (s:∀ c xs,H c=some (.tup xs)->H' c=some (.tup xs)):Paired (DdP H') ls ds:=by
 induction h with
 | nil=>exact .nil
 | cons f _ ih=>obtain⟨p,e,q⟩:=f;exact .cons ⟨p,e,s _ _ q⟩ ih
structure LN (ts:List Addr) (pl:List (List Key)) (M lo hi:Int) (ds:List Ded):Prop where
 fv:∀ d∈ds,∃ i:Nat,ts[i]?=some d.t/\pl[i]?=some d.key
 num:∀ d∈ds,d.y=.non∨∃ n,d.y=.int n/\0<=n/\n<M
 up:(ds.map (·.day)).Pairwise (·<=·)
 lo:∀ d∈ds,lo<=d.day/\d.day<=hi
inductive mw (K:Zf) (vs:List V) (H:Hp) (Q:VK) (E:XK):Prop
 | mk (cl D:Addr) (ns:Zb) (ts:List Addr) (M f0:Int) (x y:Nat) (q0:vs=[.ref cl,.ref D,.int M,.int f0]) (q1:SqL K H cl (ns.map V.int)) (q2:ns.length<=40) (q3:H D=some (.lst (ts.map V.ref))) (q4:Paired (fun (t:Addr) (key:List Key)=>H t=some (.tup (key.map kV))) ts (sX x y)) (q5:1<=M) (q6:M<=100000) (q7:0<=f0) (q8:f0<=1000) (q9:∀ L ls ds H',H L=none->ax H H'->H' L=some (.lst ls)->Paired (DdP H') ls ds->ds.length=ns.length->LN ts (sX x y) M f0 (f0+50*ns.length) ds->Q (.ref L) H'):mw K vs H Q E
def cM:aI ["_law_cells","_law_pool_here","_law_many_here","_law_first","_law_found","_law_day","_law_cell","_law_number","_law_entry","_law_sort","_law_told_one"] ["_law_cells","_law_pool_here","_law_many_here","_law_first"] (av ni):=by subst_eqs
def xl (F:Fun K "_law_deeds" "_law_deeds" ni f fd) (T:Bl mg) (AF:AdF K mg Ad) (C_law_mixed:Fnc P w K mg base (CX1 P w) 1 "_law_mixed" ["_law_cell"] jo):bS P w K mg base (CX1 P w) 2 f fd ["_law_cells","_law_pool_here","_law_many_here","_law_first"] (mw K):=by
 refine F.okX (k:=1) cM ?_ ?_
 ·bv_decide
 ·right;obtain⟨cl,D,ns,ts,M,f0,x,y,rfl,hS,n40,hD,hts,M1,M2,f0',f1,k⟩:=h;refine⟨_,ae (aF (i:=4) cM.nd (bR (aa))) (ae (aF (i:=5) cM.nd (pvL 3)) (ae (iT dD rfl (cE (K:=K) rfl (pvL 0)) (aC (i:=6) cM.nd) (ae (aF (i:=7) cM.nd (aG C_law_mixed aw (hr.mono Zd) (ah (pvL 6) (aa)))) (ae (aF (i:=5) cM.nd (aR br (pvL 5) (b7 (cn (K:=K) rfl) (bR (ah (au) (ah (au) (ah (au) (ah (au) (ah (au) (ah (au) (ah (au) (ah (aR cw (aR cQ (pvL 7) (au)) (au)) (aa)))))))))) (aR cw (pvL 7) (au)) (fun _ _=>rfl)))) (ae (aF (i:=8) cM.nd (b7 (cn (K:=K) rfl) (pvL 1) (aR cw (aR cQ (pvL 7) (au)) (aA (bG (K:=K) rfl) T.len cG (ah (pvL 1) (aa)))) (fun _ _=>rfl))) (ae (aF (i:=9) cM.nd (b7 (cn (K:=K) rfl) (bR (ah (aO) (ah (aO) (ah (aO) (aa))))) (aR cw (aR cQ (pvL 7) (au)) (au)) (fun _ _=>rfl))) (ae (aF (i:=10) cM.nd (dW)) (ae (bC (aP (c8 (K:=K) rfl hu) (aR cw (aR cQ (pvL 7) (au)) (au)) (au) (aU _)) (aj (aF (i:=10) cM.nd (aR cw (aR cQ (pvL 7) (aR xv (au) (au))) (aA (Cy rfl) T.min Kv (ah (pvL 2) (ah (au) (aa))))))) (aQ)) (aj (dF (eD (K:=K) rfl lH oa oh iq (pvL 4) (ah (cx (ah (pvL 9) (ah (pvL 5) (ah (pvL 8) (ah (pvL 10) (aa)))))) (aa)))))))))))) (aj (aH (pvL 4))))),?_⟩;have big:∀ {u:Nat},u<=1000->u<=sizeLine:=fun hu=>aT (ao (by left));have lt14:ts.length=14:=Paired.length hts;grind;refine⟨bH _,fun L G1 hL t1 g1=>?_⟩;cbv;grind;cbv;grind;have nLc:∀ {c:Addr}{o:HO},H c=some o->c≠L:=fun e z=>by rw[z,hL] at e;cases e
  refine .inl ⟨⟨_,t1.seq hS⟩,jw (xs:=ns.map V.int) (fun i σ G=>∃ (o6 o7 o8 o9 o10:Option V) (day:Int) (ls:List V) (ds:List Ded),σ=[some (V.ref cl),some (V.ref D),some (V.int M),some (V.int f0),some (V.ref L),some (V.int day),o6,o7,o8,o9,o10]/\ax H G/\G L=some (.lst ls)/\Paired (DdP G) ls ds/\ds.length=i/\f0<=day/\day<=f0+50*i/\LN ts (sX x y) M f0 day ds) ?_ ?_ ?_ ?_⟩
  ·exact⟨_,_,_,_,_,f0,[],[],rfl,t1,g1,.nil,rfl,lj _,by left,⟨(fun d h=>by cases h),(fun d h=>by cases h),.nil,(fun d h=>by cases h)⟩⟩
  ·rintro i σ G _ ⟨o6,o7,o8,o9,o10,day,ls,ds,_,t,_⟩;exact t.seq hS
  ·rintro i v σ G hi ⟨o6,o7,o8,o9,o10,day,ls,ds,rfl,t,gL,pd,dl,b0,b1,ok⟩ N hNx;clear hN;obtain⟨c1,hci,rfl⟩:=FJ hi;have hil:i<ns.length:=(bN.mp hci).1;rw[pR];refine dY fun n2 hM=>?_;symm;refine⟨c1,rfl,?_⟩;have v0:=tU c1;generalize Dw c1=v at v0;rw[hM];clear hM n2;refine dY fun n2 hM=>?_;symm;obtain⟨st,hst,st0,st1⟩:∃ st:Int,atI [V.int 0,V.int 0,V.int 1,V.int 10,V.int 29,V.int 30,V.int 31,V.int (v/1000%50)] (v%8)=some (V.int st)/\0<=st/\st<=50:=by
    rcases (show v%8=0∨v%8=1∨v%8=2∨v%8=3∨v%8=4∨v%8=5∨v%8=6∨v%8=7 by left) with e | e | e | e | e | e | e | e<;>rw[e]
    ·exact⟨0,rfl,by left,by left⟩
    ·exact⟨0,rfl,by left,by left⟩
    ·exact⟨1,rfl,by left,by left⟩
    ·exact⟨10,rfl,by left,by left⟩
    ·exact⟨29,rfl,by left,by left⟩
    ·exact⟨30,rfl,by left,by left⟩
    ·exact⟨31,rfl,by left,by left⟩
    ·exact⟨v/1000%50,rfl,by left,by left⟩
   refine⟨⟨Zd,Zd⟩,Zd,big Zd,fun p2 G2 _ t2 g2=>⟨Zd,_,_,.l g2,hst,?_⟩⟩;clear hst g2;symm;rw[hM];clear hM n2;refine dY fun n2 hM=>?_;symm;refine⟨⟨Zd,Zd⟩,_,.l ((t.trans t2) _ _ hD),?_⟩;symm;rw[ak,lt14];obtain⟨u,hu,ul⟩:∃ u:Nat,v/8%14=(u:Int)/\u<14:=⟨(v/8%14).toNat,by left,by left⟩;obtain⟨tt,htt⟩:∃ t,ts[u]?=some t:=⟨_,b9 (by left)⟩;obtain⟨key,hk,hkt⟩:=dz hts htt;refine⟨Zd,_,.ref tt,.l ((t.trans t2) _ _ hD),by rw[show v/8%((14:Nat):Int)=(u:Int) from hu];exact bf (by rw[bt,htt];rfl),?_⟩;rw[hM];clear hM n2;refine dY fun n2 hM=>?_;symm;obtain⟨str,hstr⟩:∃ str:Bool,atI [V.str (Str.ofString "put"),V.str (Str.ofString "put"),V.str (Str.ofString "strike")] (v/128%3)=some (V.str (if str then ("strike":Str) else ("put":Str))):=by
    rcases (show v/128%3=0∨v/128%3=1∨v/128%3=2 by left) with e | e | e<;>rw[e]
    ·exact⟨false,rfl⟩
    ·exact⟨false,rfl⟩
    ·exact⟨true,rfl⟩
   refine⟨big Zd,fun p3 G3 _ t3 g3=>⟨⟨Zd,Zd⟩,Zd,_,_,.l g3,hstr,?_⟩⟩;clear hstr g3;rw[hM];clear hM n2;refine dY fun n2 hM=>?_;symm;rw[hM];clear hM n2;have tG3:=t.trans (t2.trans t3);refine pW (fun σ G'=>∃ yv:V,σ=[some (V.ref cl),some (V.ref D),some (V.int M),some (V.int f0),some (V.ref L),some (V.int (day+st)),some (V.int c1),some (V.int v),some (V.ref tt),some (V.str (if str=true then Str.ofString "strike" else Str.ofString "put")),some yv]/\G'=G3/\(yv=.non∨∃ n,yv=.int n/\0<=n/\n<M)) ?_ ?_
   ·rintro σ G' ⟨yv,rfl,rfl,hyv⟩;symm;have gL3:=(t2.trans t3) _ _ gL;refine⟨.inl ⟨rfl,_,.of gL3⟩,big Zd,fun p4 G4 hp4 t4 g4=>⟨L,ls,_,rfl,rfl,t4 _ _ gL3,?_,?_⟩⟩
    ·have:=Paired.length pd;exact ao (by left)
    have k5:∀ c o,c≠L->G4 c=some o->upd G4 L (.lst (ls++[V.ref p4])) c=some o:=fun c o hc z=>by rw[az hc];exact z
    have g5:upd G4 L (.lst (ls++[V.ref p4])) L=some (.lst (ls++[V.ref p4])):=aB;generalize upd G4 L (.lst (ls++[V.ref p4]))=G5 at k5 g5;have tup5:∀ c xs,G4 c=some (.tup xs)->G5 c=some (.tup xs):=fun c xs z=>k5 _ _ (bh z (t4 _ _ gL3) (by intro z;cases z)) z;have tup:∀ c xs,G c=some (.tup xs)->G5 c=some (.tup xs):=fun c xs z=>tup5 _ _ (t4 _ _ ((t2.trans t3) _ _ z));refine hNx _ _ ⟨_,_,_,_,_,day+st,ls++[V.ref p4],ds++[⟨str,day+st,tt,key,yv⟩],rfl,fun c o z=>k5 c o (nLc z) (t4 _ _ (tG3 _ _ z)),g5,mQ (EC pd tup) (.cons ⟨p4,rfl,tup5 _ _ g4⟩ .nil),by rw[aK,dl];rfl,by left,by left,⟨fun d hd=>?_,fun d hd=>?_,?_,fun d hd=>?_⟩⟩
    ·rcases bI.mp hd with hd | hd
     ·exact ok.fv d hd
     ·rw[bA.mp hd];exact⟨u,htt,hk⟩
    ·rcases bI.mp hd with hd | hd
     ·exact ok.num d hd
     ·rw[bA.mp hd];exact hyv
    ·rw[bL];refine qX.mpr ⟨ok.up,List.pairwise_singleton _ _,fun a ha b hb=>?_⟩;obtain⟨d,hd,rfl⟩:=aD.mp ha;have hb':b=day+st:=bA.mp hb;have:=(ok.lo d hd).2;left
    ·rcases bI.mp hd with hd | hd
     ·have:=ok.lo d hd;exact⟨this.1,by left⟩
     ·rw[bA.mp hd];exact⟨by show f0<=day+st;left,lj _⟩
   ·intro U hU;symm;refine⟨⟨Zd,Zd⟩,Zd,?_⟩
    by_cases h5:v/512%2=1
    ·rw[ar h5,ai rfl];have hm:0<min M 12/\min M 12<=M:=by left
     refine⟨⟨Zd,Zd,Zd⟩,⟨Zd,Zd⟩,hm.1,hU _ _ ⟨_,rfl,rfl,.inr ⟨_,rfl,dC _ (by left),?_⟩⟩⟩;have:=eM (v/10^Int.toNat 6) hm.1;left
    ·rw[ay h5,af (by decide)];exact hU _ _ ⟨.non,rfl,rfl,.inl rfl⟩
  rintro σ G ⟨o6,o7,o8,o9,o10,day,ls,ds,rfl,t,gL,pd,dl,b0,b1,ok⟩;show nn _ _ _;cbv;symm;rw[ak] at dl b1;exact k L ls ds G hL t gL pd dl ⟨ok.fv,ok.num,ok.up,fun d hd=>⟨(ok.lo d hd).1,Int.le_trans (ok.lo d hd).2 b1⟩⟩
def eO (H:Hp) (m:Int):V->Bool
 | .ref p=>match H p with
  | some (.lst xs)=>decide (3<=xs.length)&&decide (xs.length<=8)&&xs.all (bU m)
  | _=>false
 | _=>false
def ny:Sp:=fun vs H Q _=>∃ (x:V) (t:Tg) (m:Int),vs=[x,.int m]/\fT H x=some t/\(∀ p o u,x=.ref p->H p≠some (.frz o u))/\(∀ p xs,x=.ref p->H p=some (.lst xs)->xs.length<=1000/\∀ y∈xs,∃ t,fT H y=some t) ∧
 ∀ H',ax H H'->Q (.bl (eO H m x)) H'
def uW:aI ["thing","m"] ["thing","m"] (av k9):=by subst_eqs
def uJ (F:Fun K "are_weights" "are_weights" k9 f fd) (T:Bl mg) (AF:AdF K mg Ad) (C_is_below:Fnc P w K mg base (CX1 P w) 2 "is_below" ["thing","bound"] fI):bS P w K mg base (CX1 P w) 3 f fd ["thing","m"] ny:=by
 refine F.okX (k:=2) uW ?_ ?_
 ·bv_decide
 ·right;obtain⟨x,t,m,rfl,ht,hfz,hit,k⟩:=h;refine⟨_,ae (bC ((jd (c9 (cb (aA (e8 .lst) T.isinstance bt_isinstance (ah (pvL 0) (ah (iS T.list pT) (aa)))))) (gx (c9 (mV ir ir (au) (aA (bG (K:=K) rfl) T.len cG (ah (pvL 0) (aa))) (au))))).pt) (aj (aH (gP))) (aQ)) (aj (aH (aA (ig (K:=K) rfl rfl) T.all oU (ah (jc ["weight"] rfl ⟨rfl,by nofun,rfl,by nofun⟩ (.cons (j:=1) rfl (.inl (by ext)) (.nil)) (by nofun) (cE (K:=K) rfl (pvL 0)) (fun _ _ _ _=>aC (i:=0) (show (["weight","m"]:Ze).Nodup from by nofun)) (fun _ _ _ _=>dv) (fun _ _ _ _=>aG C_is_below gO (hr.mono Zd) (ah (pvL 0) (ah (pvC 1) (aa))))) (aa))))),?_⟩
  by_cases hs:∃ p xs,x=.ref p/\H p=some (.lst xs)
  ·obtain⟨p,xs,rfl,hp⟩:=hs;obtain⟨hl,hty⟩:=hit p xs rfl hp;have et:t=Tg.lst:=by
    have:mF (H p)=some t:=ht;rw[hp] at this;cases this;rfl
   subst et;have ek:eO H m (.ref p)=(decide (3<=xs.length)&&decide (xs.length<=8)&&xs.all (bU m)):=by show (match H p with | some (.lst xs)=>_ | _=>false)=_;rw[hp]
   rw[ek] at k;ac_nf;refine⟨trivial,Tg.lst,ht,?_⟩;ac_nf;refine⟨_,.l hp,?_⟩
   by_cases h3:3<=xs.length
   ·rw[ar h3,dQ] at k;rw[ar (show (3:Int)<=(xs.length:Int) by left)];bv_omega
    by_cases h8:xs.length<=8
    ·rw[ar h8,dQ] at k;rw[ar (show (xs.length:Int)<=8 by left)];bv_omega;refine .inl ⟨⟨_,.of hp⟩,KP (xs:=xs) (fX (.of hp)) (ao (by left)) (fun y=>.bl (bU m y)) ?_ ?_⟩
     ·intro y hy H2 s2 R hR;obtain⟨ty,hty⟩:=hty y hy;have hty2:fT H2 y=some ty:=kX s2 hty;ac_nf;refine⟨y,ty,m,rfl,hty2,?_⟩;exact hR H2 (ax.refl _)
     ·intro D H2 hD s2 h2;refine⟨D,xs.map (bU m),rfl,.of (by rw[h2,aX];rfl),?_⟩;have e:(xs.map (bU m)).all id=xs.all (bU m):=by rw[fY];rfl
      rw[e];exact k H2 s2
    ·rw[ay h8,jr] at k;rw[ay (show ¬ (xs.length:Int)<=8 by left)];bv_omega;exact k H (ax.refl _)
   ·rw[ay h3,jr,jr] at k;rw[ay (show ¬ (3:Int)<=(xs.length:Int) by left)];bv_omega;exact k H (ax.refl _)
  ·have hv:eO H m x=false:=by
    cases x with
    | ref p =>
     show (match H p with | some (.lst xs)=>_ | _=>false)=_;split
     ·rename_i xs hp;exact absurd ⟨p,xs,rfl,hp⟩ hs
     ·rfl
    | _=>rfl
   have hne:t≠Tg.lst:=fun e=>by
    subst e;cases x with
    | ref a =>
     have h':mF (H a)=some .lst:=ht;cases e:H a with
     | none=>rw[e] at h';cases h'
     | some o=>rw[e] at h';cases o with
      | lst xs=>exact hs ⟨a,xs,rfl,e⟩
      | frz ob u=>exact hfz a ob u rfl e
      | _=>cases h'
    | _=>cases ht
   rw[hv] at k;ac_nf;refine⟨trivial,t,ht,?_⟩;cases t<;>first
    | exact absurd rfl hne
    | exact k H (ax.refl _)
inductive mr (Ad:Ads) (vs:List V) (H:Hp) (Q:VK) (E:XK):Prop
 | mk (a:Addr) (al:Za) (ws:Zb) (r:Int) (x:V) (t:Tg) (q0:vs=[.ref a,x]) (q1:dq Ad H a al ws r) (q2:cO al ws r) (q3:fT H x=some t) (q4:(bU ((al.length:Int)^(ws.length-1)) x=false->∀ H',ax H H'->E (.ref Ad.NoNumber) none H')) (q5:(∀ k,x=.int k->0<=k->k<(al.length:Int)^(ws.length-1)->∀ H',ax H H'->Q (.str (tx (Mk.jF al (Mk.kj al.length ws r k)))) H')):mr Ad vs H Q E
def eV:aI ["self","k","m","left","ahead","weight","lasts"] ["self","k"] (av mY):=by subst_eqs
def xh (F:Fun K "word" "Code.word" mY f fd) (T:Bl mg) (AF:AdF K mg Ad) (C_spelled:Fnc P w K mg base (CX1 P w) 1 "spelled" ["alphabet","places"] vd) (C_are_good:Fnc P w K mg base (CX1 P w) 1 "are_good" ["m","weights","rest","places"] ke) (C_is_below:Fnc P w K mg base (CX1 P w) 2 "is_below" ["thing","bound"] fI) (M_Code_many:pP P w K mg base (CX1 P w) Ad.Code "many" 1 ["self"] (eZ Ad)):bS P w K mg base (CX1 P w) 3 f fd ["self","k"] (mr Ad):=by
 refine F.okX (k:=2) eV ?_ ?_
 ·bv_decide
 ·right;obtain⟨a,al,ws,r,x,t,rfl,⟨dx,q,h1,h2⟩,ok,ht,kE,kQ⟩:=h;refine⟨_,ae (bC (c9 (cb (aG C_is_below aw (hr.mono Zd) (ah (pvL 1) (ah (cT M_Code_many.mtd aw (hr.mono Zd) (pvC 0)) (aa)))))) (aj (cJ cK AF.q_NoNumber AF.g_NoNumber cy rfl (ah (aO) (aa)))) (aQ)) (ae (ji (i:=2) eV.nd (aA (bG (K:=K) rfl) T.len cG (ah (b8 (K:=K) rfl (pvC 0)) (aa)))) (ae (aF (i:=3) eV.nd (pvL 1)) (ae (ji (i:=4) eV.nd (bR (aa))) (ae (iT dD rfl (cE (K:=K) rfl (iF (tj (K:=K) rfl) (b8 (K:=K) rfl (pvC 0)) (jh (au)) (me))) (aC (i:=5) eV.nd) (ae (dF (eD (K:=K) rfl lH PySem.F.slot_list_insert PySem.F.type_list_insert Dy (pvC 4) (ah (au) (ah (aR cw (pvL 3) (pvC 2)) (aa))))) (aj (aF (i:=3) eV.nd (aR cQ (pvL 3) (pvC 2)))))) (ae (j6 (i:=6) ["last"] eV.nd rfl (Or.inl rfl) rfl ⟨rfl,by nofun,rfl,by nofun⟩ (.cons (j:=2) rfl (.inl (by ext)) (.cons (j:=0) rfl (.inl (by ext)) (.cons (j:=4) rfl (.inl (by ext)) (.nil)))) (by nofun) (gv T.range (ah (pvC 2) (aa))) (fun _ _ _ _=>aC (i:=0) (show (["last","m","self","ahead"]:Ze).Nodup from by nofun)) (fun _ _ _ _=>qw (cb (aG C_are_good gO (hr.mono Zd) (ah (pvC 1) (ah (b8 (K:=K) rfl (pvC 2)) (ah (b8 (K:=K) rfl (pvC 2)) (ah (aR br (pvC 3) (bR (ah (pvL 0) (aa)))) (aa)))))))) (fun _ _ _ _=>pvL 0)) (aj (aH (aG C_spelled aw (hr.mono Zd) (ah (b8 (K:=K) rfl (pvC 0)) (ah (aR br (pvC 4) (pvL 6)) (aa))))))))))),?_⟩;have g3:=ok.a3;have g26:=ok.a26;have w3:=ok.w3;have w8:=ok.w8;rw[dH];symm;refine⟨dx,_,h1,cZ Zd Zd Zd al q r,a,al,ws,r,rfl,⟨dx,q,h1,h2⟩,g26,by left,w8,fun H1 s1=>?_⟩;symm;refine⟨x,t,_,rfl,kX s1 ht,?_⟩;cases hG:bU ((al.length:Int)^(ws.length-1)) x with
  | false =>bv_omega;exact⟨Zd,kE hG H1 s1⟩
  | true =>
   bv_omega;obtain⟨k,rfl⟩:∃ k,x=.int k:=by
    cases x with
    | int k=>exact⟨k,rfl⟩
    | _=>cases hG
   have hG':(decide (0<=k)&&decide (k<(al.length:Int)^(ws.length-1)))=true:=hG;rw[cm,cj,cj] at hG';have kQ':=kQ k rfl hG'.1 hG'.2;have h11:=s1 _ _ h1;have h21:=s1 _ _ h2;rw[dH];symm;refine⟨_,dx,_,_,h11,AF.c_Code,AF.n_Code_letters,dU al q r,?_⟩;symm;rw[bM];refine⟨aT (ao (by left)),?_⟩;symm;rw[dH];symm;rw[dH];symm;refine⟨bH _,fun p H2 hp s2 hp2=>?_⟩;rw[dH];symm;refine⟨_,dx,_,_,s2 _ _ h11,AF.c_Code,AF.n_Code_factors,fU al q r,?_⟩;symm;refine⟨_,.of (s2 _ _ h21),fun q1 H3 hq1 s3 h3=>.inl ⟨⟨_,.of h3⟩,?_⟩⟩;rw[show (1:Int)=((1:Nat):Int) from rfl,jt,←nU] at h3;have hp3:=s3 _ _ hp2;have hqp:q1≠p:=fun e=>by rw[e,hp2] at hq1;cases hq1
   have hap:a≠p:=fun e=>by rw[←e,h11] at hp;cases hp
   have hqq:q≠p:=fun e=>by rw[←e,h21] at hp;cases hp
   have h13:=s3 _ _ (s2 _ _ h11);have h23:=s3 _ _ (s2 _ _ h21);have m0:(0:Int)<al.length:=by left
   refine wL (xs:=(ws.drop 1).map V.int) (fun i σ H'=>(∀ b o,b≠p->H3 b=some o->H' b=some o)/\H' p=some (.lst ((Mk.kJ al.length i k).map V.int))/\∃ o,σ=[some (.ref a),some (.int k),some (.int al.length),some (.int (k/(al.length:Int)^i)),some (.ref p),o,none]) ?_ ?_ ?_ ?_
   ·exact⟨fun _ _ _ h=>h,hp3,none,by rw[Int.pow_zero,Int.ediv_one]⟩
   ·rintro i σ H' _ ⟨f1,_⟩;exact .of (f1 _ _ hqp h3)
   ·rintro i x σ H' hx ⟨f1,f2,o,rfl⟩;have hi:i<ws.length-1:=by
     have:=(bN.mp hx).1;rw[ak,cR] at this;exact this
    ac_nf;refine⟨.inl ⟨rfl,_,.of f2⟩,m0,_,f2,lj 0,Zd,?_,⟨m0,Int.lt_of_lt_of_le (show (al.length:Int)<1000 by left) Zd⟩,fun b o hb e=>?_,?_,some x,?_⟩
    ·rw[ak,Mk.kK];exact ao (by left)
    ·rw[az hb];exact f1 b o hb e
    ·rw[aB,Mk.vK m0];rfl
    ·rw[Int.ediv_ediv_of_nonneg (Int.pow_nonneg (iH m0)),Int.pow_succ]
   ·rintro σ H' ⟨f1,f2,o,rfl⟩;rw[ak,cR] at f2;have f13:=f1 _ _ hap h13;have f23:=f1 _ _ hqq h23;have fm:=Mk.uq m0 (ws.length-1) k;have fl:=Mk.kK al.length (ws.length-1) k;obtain⟨l1,l2,l3,-⟩:=Mk.rN (r:=r) m0 (by left) ok.wm (Mk.nu.mp ok.safe).1 (show (Mk.kJ al.length (ws.length-1) k).length+1=ws.length by left);ac_nf;refine⟨by left,by omega,?_⟩;refine FD V.int gr (qE al.length) (by rw[Mk.lY];exact ao (by left)) (fun x=>Mk.good al.length ws r (Mk.kJ al.length (ws.length-1) k++[x])) V.int ?_ ?_ ?_
    ·intro x hx H5 s5 R hR;have hxm:=Mk.i9.mp hx;ac_nf;refine⟨_,dx,_,_,s5 _ _ f13,AF.c_Code,AF.n_Code_factors,fU al q r,?_⟩;refine⟨_,dx,_,_,s5 _ _ f13,AF.c_Code,AF.n_Code_remainder,iQ al q r,?_⟩;refine⟨aT (ao Zd),fun p1 H6 hp1 s6 h6=>?_⟩;have f26:=s6 _ _ (s5 _ _ f2);refine⟨_,_,f26,h6,by rw[ak,fl];show ws.length-1+1<=sizeLine;exact aT (ao (by left)),fun p2 H7 hp2 s7 h7=>?_⟩;refine⟨_,q,ws,r,p2,Mk.kJ al.length (ws.length-1) k++[x],rfl,m0,s7 _ _ (s6 _ _ (s5 _ _ f23)),by rw[h7,bL];rfl,by left,ok.sml,?_,fun H8 s8=>⟨_,rfl,hR H8 ((s6.trans s7).trans s8)⟩⟩;intro y hy;rcases bI.mp hy with hy | hy
     ·have:=fm y hy;left
     ·rw[bA.mp hy];left
    ·intro x hx _ H5 s5 R hR;ac_nf;exact hR H5 (ax.refl _)
    ·intro D H5 hD s5 h5;have f15:=s5 _ _ f13;have f25:=s5 _ _ f2;have h5':H5 D=some (.lst ([Mk.sQ al.length ws r (Mk.kJ al.length (ws.length-1) k)].map V.int)):=by
      rw[h5,←l1];rfl
     ac_nf;refine⟨_,dx,_,_,f15,AF.c_Code,AF.n_Code_letters,dU al q r,_,_,f25,h5',by rw[ak,fl];show ws.length-1+1<=sizeLine;exact aT (ao (by left)),fun p1 H6 hp1 s6 h6=>?_⟩;refine⟨tx al,p1,Mk.kj al.length ws r k,rfl,by rw[bM];left,by rw[h6,←bL];rfl,?_,?_,fun H7 s7=>?_⟩
     ·unfold Mk.kj;rw[aK,fl];show ws.length-1+1<=_;left
     ·rw[ck];unfold Mk.kj;intro y hy;rcases bI.mp hy with hy | hy
      ·exact fm y hy
      ·rw[bA.mp hy];exact⟨l2,l3⟩
     ·rw[ck];refine kQ' H7 fun b o e=>?_;have hbp:b≠p:=fun e2=>by rw[←e2,s1 _ _ e] at hp;cases hp
      exact s7 _ _ (s6 _ _ (s5 _ _ (f1 b o hbp (s3 _ _ (s2 _ _ (s1 _ _ e))))))
inductive i4 (Ad:Ads) (vs:List V) (H:Hp) (Q:VK) (E:XK):Prop
 | mk (a:Addr) (al:Za) (ws:Zb) (r:Int) (x:V) (t:Tg) (q0:vs=[.ref a,x]) (q1:dq Ad H a al ws r) (q2:cO al ws r) (q3:fT H x=some t) (q4:(∀ z,x=.str z->z.length<=100000)) (q5:∀ H',ax H H'->Q (.bl (lV (tx al) ws r x)) H'):i4 Ad vs H Q E
def sv:aI ["self","thing"] ["self","thing"] (av iV):=by subst_eqs
def rS (F:Fun K "has_good" "Code.has_good" iV f fd) (T:Bl mg) (AF:AdF K mg Ad) (C_is_good:Fnc P w K mg base (CX1 P w) 2 "is_good" ["alphabet","weights","rest","word"] pH):bS P w K mg base (CX1 P w) 3 f fd ["self","thing"] (i4 Ad):=by
 refine F.okX (k:=2) sv ?_ ?_
 ·bv_decide
 ·right;obtain⟨a,al,ws,r,x,t,rfl,⟨dx,q,h1,h2⟩,ok,ht,hz,k⟩:=h;refine⟨_,aj (aH (aG C_is_good aw (hr.mono Zd) (ah (b8 (K:=K) rfl (pvL 0)) (ah (b8 (K:=K) rfl (pvL 0)) (ah (b8 (K:=K) rfl (pvL 0)) (ah (pvL 1) (aa))))))),?_⟩;ac_nf;refine⟨_,dx,_,_,h1,AF.c_Code,AF.n_Code_letters,dU al q r,?_⟩;refine⟨_,dx,_,_,h1,AF.c_Code,AF.n_Code_factors,fU al q r,?_⟩;refine⟨_,dx,_,_,h1,AF.c_Code,AF.n_Code_remainder,iQ al q r,?_⟩;have g3:=ok.a3;have g26:=ok.a26;have w8:=ok.w8;refine⟨tx al,q,ws,r,x,t,rfl,h2,by left,by rw[bM];left,by rw[bM];left,ok.sml,ht,hz,k⟩
def n4:Sp:=fun vs H Q _=>∃ (x:V) (t:Tg),vs=[x]/\fT H x=some t/\(∀ p xs,x=.ref p->H p=some (.tup xs)->xs.length<=1000/\∀ y∈xs,(∃ t,fT H y=some t)/\∀ z,y=.str z->z.length<=10000)/\∀ H',ax H H'->Q (.bl (rL H x)) H'
def yX:aI ["thing"] ["thing"] (av pA):=by subst_eqs
def yE (F:Fun K "is_entry" "is_entry" pA f fd) (T:Bl mg) (AF:AdF K mg Ad) (C_are_letters:Fnc P w K mg base (CX1 P w) 1 "are_letters" ["thing","most"] jC) (C_are_words:Fnc P w K mg base (CX1 P w) 2 "are_words" ["thing","most"] qG):bS P w K mg base (CX1 P w) 3 f fd ["thing"] n4:=by
 refine F.okX (k:=2) yX ?_ ?_
 ·bv_decide
 ·right;obtain⟨x,t,rfl,ht,hit,k⟩:=h;refine⟨_,ae (bC ((jd (c9 (cb (aA (e8 .tup) T.isinstance bt_isinstance (ah (pvL 0) (ah (iS T.tuple E6) (aa)))))) (jd (aP (c8 (K:=K) rfl hu) (aA (bG (K:=K) rfl) T.len cG (ah (pvL 0) (aa))) (au) (aU _)) (gx (c9 (cb (aA (e8 .str) T.isinstance bt_isinstance (ah (b7 (cn (K:=K) rfl) (pvL 0) (au) (fun _ _=>rfl)) (ah (iS T.str mG) (aa))))))))).pt) (aj (aH (gP))) (aQ)) (ae (bC (aP (c8 (K:=K) rfl hu) (aA (bG (K:=K) rfl) T.len cG (ah (pvL 0) (aa))) (au) (aU _)) (aj (aH (cD (c8 (K:=K) rfl hu) (b7 (cn (K:=K) rfl) (pvL 0) (au) (fun _ _=>rfl)) (aO) (aU _)))) (aQ)) (ae (bC (aP (iu (K:=K) rfl hu) (aA (bG (K:=K) rfl) T.len cG (ah (pvL 0) (aa))) (au) (aU _)) (aj (aH (gP))) (aQ)) (ae (bC (aP (c8 (K:=K) rfl hu) (b7 (cn (K:=K) rfl) (pvL 0) (au) (fun _ _=>rfl)) (aO) (aU _)) (aj (aH (aG C_are_words aw (hr.mono Zd) (ah (b7 (cn (K:=K) rfl) (pvL 0) (au) (fun _ _=>rfl)) (ah (fV AF.v_MOST_PHRASE_WORDS) (aa)))))) (aQ)) (aj (aH (ma (cD (c8 (K:=K) rfl hu) (b7 (cn (K:=K) rfl) (pvL 0) (au) (fun _ _=>rfl)) (aO) (aU _)) (md (aG C_are_letters aw (hr.mono Zd) (ah (b7 (cn (K:=K) rfl) (pvL 0) (au) (fun _ _=>rfl)) (ah (fV AF.v_MOST_PART_LETTERS) (aa))))))))))),?_⟩
  by_cases hs:∃ p xs,x=.ref p/\H p=some (.tup xs)
  ·obtain⟨p,xs,rfl,hp⟩:=hs;obtain⟨hl,hty⟩:=hit p xs rfl hp;have et:t=Tg.tup:=by
    have:mF (H p)=some t:=ht;rw[hp] at this;cases this;rfl
   subst et;have ek:rL H (.ref p)=jy xs:=by show (match H p with | some (.tup xs)=>jy xs | _=>false)=_;rw[hp]
   rw[ek] at k;have hT:Sq K H p xs:=.t hp;rw[dH];symm;refine⟨trivial,Tg.tup,ht,?_⟩;symm;refine⟨_,hT,?_⟩
   match xs,hT,hty,hl,k with
   | [],hT,hty,hl,k =>symm;exact k H (ax.refl _)
   | v::r,hT,hty,hl,k =>
    rw[ay (show ¬ (((v::r).length:Nat):Int)=0 by rw[aN];left)];bv_omega;have a0:atI (v::r) 0=some v:=bf (xs:=v::r) (j:=0) rfl;refine⟨_,v,hT,a0,?_⟩;obtain⟨⟨tv,htv⟩,hzv⟩:=hty v bq
    by_cases hvs:∃ z,v=.str z
    ·obtain⟨z,rfl⟩:=hvs;refine⟨Tg.str,rfl,?_⟩;symm;rw[dH];symm;refine⟨_,hT,?_⟩
     match r,hT,hty,hl,k with
     | [],hT,hty,hl,k =>symm;rw[ai (by rfl)];refine⟨_,_,hT,bf (xs:=[V.str z]) (j:=0) rfl,k H (ax.refl _)⟩
     | [y],hT,hty,hl,k =>
      rw[ay (show ¬ ((([V.str z,y]:List V).length:Nat):Int)=1 by show ¬ (2:Int)=1;decide)];bv_omega;obtain⟨⟨ty,hty1⟩,hzy⟩:=hty y (bD _ bq);have a0:atI [V.str z,y] 0=some (.str z):=bf (xs:=[V.str z,y]) (j:=0) rfl;have a1:atI [V.str z,y] 1=some y:=bf (xs:=[V.str z,y]) (j:=1) rfl;rw[dH];symm;refine⟨_,hT,?_⟩;rw[af (show ¬ (!decide ((([V.str z,y].length:Nat):Int)=2))=true by rw[show [V.str z,y].length=2 from rfl];decide)];rw[dH];symm;refine⟨_,_,hT,a0,?_⟩;symm;have ek2:jy [.str z,y]=if z=("phrase":Str) then jS 6 y else if z=("part":Str) then i7 6 y else false:=rfl
      rw[ek2] at k
      by_cases e1:z=("phrase":Str)
      ·rw[ai e1] at k;rw[ar e1];bv_omega;refine⟨_,_,hT,a1,?_⟩;exact⟨y,ty,6,rfl,hty1,hzy,Zd,k⟩
      ·rw[af e1] at k;rw[ay e1];bv_omega;symm;refine⟨_,_,hT,a0,?_⟩;symm
       by_cases e2:z=("part":Str)
       ·rw[ai e2] at k;rw[ar e2];bv_omega;refine⟨_,_,hT,a1,?_⟩;exact⟨y,ty,6,rfl,hty1,(fun w e=>by have:=hzy w e;left),Zd,k⟩
       ·rw[af e2] at k;rw[ay e2];bv_omega;exact k H (ax.refl _)
     | y::y2::r,hT,hty,hl,k =>have hlen:(V.str z::y::y2::r).length=r.length+3:=rfl;rw[hlen,ay (show ¬ (((r.length+3:Nat)):Int)=1 by left)];bv_omega;rw[dH];symm;refine⟨_,hT,?_⟩;rw[hlen,ay (show ¬ (((r.length+3:Nat)):Int)=2 by left)];bv_omega;exact k H (ax.refl _)
    ·have hv:jy (v::r)=false:=by
      cases v with
      | str z=>exact absurd ⟨z,rfl⟩ hvs
      | _=>cases r with
       | nil=>rfl
       | cons y r=>cases r<;>rfl
     have hne:=qL htv fun z e=>hvs ⟨z,e⟩;rw[hv] at k;refine⟨tv,htv,?_⟩;cases tv<;>first
      | exact absurd rfl hne
      | exact k H (ax.refl _)
  ·have hv:rL H x=false:=by
    cases x with
    | ref p =>
     show (match H p with | some (.tup xs)=>jy xs | _=>false)=_;split
     ·rename_i xs hp;exact absurd ⟨p,xs,rfl,hp⟩ hs
     ·rfl
    | _=>rfl
   have hne:t≠Tg.tup:=fun e=>by
    subst e;cases x with
    | ref a =>
     have h':mF (H a)=some .tup:=ht;cases e:H a with
     | none=>rw[e] at h';cases h'
     | some o=>rw[e] at h';cases o with
      | tup xs=>exact hs ⟨a,xs,rfl,e⟩
      | frz ob u=>cases u<;>cases h'
      | _=>cases h'
    | _=>cases ht
   rw[hv] at k;rw[dH];symm;refine⟨trivial,t,ht,?_⟩;cases t<;>first
    | exact absurd rfl hne
    | exact k H (ax.refl _)
def rD {b k:Int} (h0:0<=k) (h1:k<b):bU b (.int k)=true:=by show (decide (0<=k)&&decide (k<b))=true;rw[ar h0,ar h1];rfl
def Cm (h:bU b x=true):∃ k,x=.int k/\0<=k/\k<b:=by
 cases x with
 | int k =>have h':(decide (0<=k)&&decide (k<b))=true:=h;rw[cm,cj,cj] at h';exact⟨k,rfl,h'⟩
 | _=>cases h
inductive iA (Ad:Ads) (vs:List V) (H:Hp) (Q:VK) (E:XK):Prop
 | mk (b ca dn de:Addr) (es:List Ben) (al:Za) (ws:Zb) (r:Int) (x:V) (t:Tg) (q0:vs=[.ref b,x]) (q1:cq Ad H b ca dn de es) (q2:dq Ad H ca al ws r) (q3:cO al ws r) (q4:fT H x=some t) (q5:(bU (bX al ws) x=false->∀ H',ax H H'->Q .non H')) (q6:(∀ n,x=.int n->0<=n->n<bX al ws->n∉es.map (·.num)->∀ H',ax H H'->Q .non H')) (q7:(∀ n,x=.int n->0<=n->n<bX al ws->∀ e∈es,e.num=n->∀ H',ax H H'->Q (.ref e.adr) H')):iA Ad vs H Q E
def vz:aI ["self","number"] ["self","number"] (av mm):=by subst_eqs
def vx (F:Fun K "entry" "Book.entry" mm f fd) (T:Bl mg) (AF:AdF K mg Ad) (C_is_below:Fnc P w K mg base (CX1 P w) 2 "is_below" ["thing","bound"] fI) (M_Code_many:pP P w K mg base (CX1 P w) Ad.Code "many" 1 ["self"] (eZ Ad)):bS P w K mg base (CX1 P w) 3 f fd ["self","number"] (iA Ad):=by
 refine F.okX (k:=2) vz ?_ (fun cdv A outer s H vs Q E hr h=>?_)
 ·bv_decide
 ·obtain⟨b,ca,dn,de,es,al,ws,r,x,t,rfl,B,C,ok,ht,k1,k2,k3⟩:=h;obtain⟨dx,h1⟩:=B.bk;have hu:=hr.fJ;have hu1:=jW hr;refine⟨_,ae (bC (c9 (cb (aG C_is_below aw (hr.mono Zd) (ah (pvL 1) (ah (cT M_Code_many.mtd aw (hr.mono Zd) (b8 (K:=K) rfl (pvL 0))) (aa)))))) (aj (aH (dW))) (aQ)) (aj (aH (rX hu1 (b8 (K:=K) rfl (pvL 0)) (pvL 1)))),?_⟩;grind;refine⟨_,dx,_,_,h1,AF.c_Book,AF.n_Book_basis,jT ca dn de,?_⟩;obtain⟨dc,qc,hc1,hc2⟩:=id C;refine⟨dc,_,hc1,cZ Zd Zd Zd al qc r,ca,al,ws,r,rfl,C,ok.a26,by have:=ok.w3;left,ok.w8,fun G1 t1=>?_⟩;refine⟨x,t,_,rfl,kX t1 ht,?_⟩;cases hb:bU ((al.length:Int)^(ws.length-1)) x with
  | false =>symm;exact k1 hb G1 t1
  | true =>
   symm;cbv;obtain⟨n,rfl,n0,n1⟩:=Cm hb;have B1:=B.same t1;obtain⟨dx1,h11⟩:=B1.bk;symm;refine⟨_,dx1,_,_,h11,AF.c_Book,AF.n_Book_by_number,gz ca dn de,dn,rfl,.inl ⟨_,.inl B1.hn⟩,_,.inl ⟨_,.inl n,.inl B1.hn,rfl,rfl⟩,?_⟩
   by_cases hm:n∈es.map (·.num)
   ·obtain⟨e,he,ee⟩:=aD.mp hm;rw[←ee,jX B.nn he];exact k3 n rfl n0 n1 e he ee G1 t1
   ·rw[uD hm];exact k2 n rfl n0 n1 hm G1 t1
def sA:Sp:=fun vs H Q _=>∃ (x:V) (t:Tg),vs=[x]/\fT H x=some t/\Q (.bl (bU 1000000001 x)) H
def DO:aI ["thing"] ["thing"] (av uS):=by subst_eqs
def D8 (F:Fun K "is_day" "is_day" uS f fd) (T:Bl mg) (AF:AdF K mg Ad) (C_is_below:Fnc P w K mg base (CX1 P w) 2 "is_below" ["thing","bound"] fI):bS P w K mg base (CX1 P w) 3 f fd ["thing"] sA:=by
 refine F.okX (k:=2) DO ?_ ?_
 ·bv_decide
 ·right;obtain⟨x,t,rfl,ht,k⟩:=h;refine⟨_,aj (aH (aG C_is_below aw (hr.mono Zd) (ah (pvL 0) (ah (aR br (fV AF.v_LATEST_DAY) (au)) (aa))))),?_⟩;symm;exact⟨x,t,_,rfl,ht,k⟩
def fR (Ad:Ads):Sp:=fun vs H Q _=>∃ (x dx ca:Addr),vs=[.ref x,.ref ca]/\H x=some (.ins Ad.Editions dx [])/\∀ b dn de cl sd H',H b=none->H dn=none->H de=none->H cl=none->H sd=none->dn≠sd->(∀ c o,c≠x->H c=some o->H' c=some o)->H' x=some (.ins Ad.Editions dx (edF b cl sd 0))->cq Ad H' b ca dn de []->H' cl=some (.lst [])->H' sd=some (.dK [])->Q .non H'
def sx:aI ["self","code"] ["self","code"] (av dN):=by subst_eqs
def rV (F:Fun K "__init__" "Editions.__init__" dN f fd) (T:Bl mg) (AF:AdF K mg Ad) (K_Book:Mak P w K mg base (CX1 P w) Ad.Book "Book" 1 ["self","code"] (gW Ad)):bS P w K mg base (CX1 P w) 3 f fd ["self","code"] (fR Ad):=by
 refine F.okX (k:=2) sx ?_ ?_
 ·bv_decide
 ·right;obtain⟨x,dx,ca,rfl,hx,k⟩:=h;refine⟨_,ae (gR (K:=K) rfl (pvL 0) (jz K_Book aw (hr.mono Zd) (ah (pvL 1) (aa)))) (ae (gR (K:=K) rfl (pvL 0) (bR (aa))) (ae (gR (K:=K) rfl (pvL 0) (iE)) (aj (gR (K:=K) rfl (pvL 0) (au))))),?_⟩;grind;intro b bx G1 hb hbx hbb t1 g1 g1x;refine⟨b,bx,ca,rfl,g1,fun dn de G2 hdn hde ne1 ne2 ne3 k2 g2 gn ge=>⟨rfl,?_⟩⟩;have nxb:x≠b:=fun z=>by rw[←z,hx] at hb;cases hb
  have hx2:=k2 x _ nxb (t1 _ _ hx);have hdn0:H dn=none:=t1.free hdn;have hde0:H de=none:=t1.free hde;have nxn:x≠dn:=fun z=>by rw[←z,hx] at hdn0;cases hdn0
  have nxe:x≠de:=fun z=>by rw[←z,hx] at hde0;cases hde0
  refine⟨_,_,_,hx2,AF.c_Editions,AF.n_Editions_current,Zd,?_⟩;cbv;have h3:upd G2 x (HO.ins Ad.Editions dx (gw (Str.ofString "current") (V.ref b) [])) x=some (.ins Ad.Editions dx [("current",.ref b)]):=aB;have k3:∀ c o,c≠x->G2 c=some o->upd G2 x (HO.ins Ad.Editions dx (gw (Str.ofString "current") (V.ref b) [])) c=some o:=fun c o hc e=>by rw[az hc];exact e
  have f3:∀ c,c≠x->upd G2 x (HO.ins Ad.Editions dx (gw (Str.ofString "current") (V.ref b) [])) c=none->G2 c=none:=fun c hc e=>by rw[az hc] at e;exact e
  generalize upd G2 x (HO.ins Ad.Editions dx (gw (Str.ofString "current") (V.ref b) []))=G3 at h3 k3 f3;grind;refine⟨bH _,fun cl G4 hcl t4 g4=>⟨_,_,_,t4 _ _ h3,AF.c_Editions,AF.n_Editions_changes,by show 1<1000;decide,?_⟩⟩;cbv;have nxc:x≠cl:=fun z=>by rw[←z,h3] at hcl;cases hcl
  have h5:upd G4 x (HO.ins Ad.Editions dx (gw (Str.ofString "changes") (V.ref cl) [("current",.ref b)])) x=some (.ins Ad.Editions dx [("current",.ref b),("changes",.ref cl)]):=aB;have k5:∀ c o,c≠x->G4 c=some o->upd G4 x (HO.ins Ad.Editions dx (gw (Str.ofString "changes") (V.ref cl) [("current",.ref b)])) c=some o:=fun c o hc e=>by rw[az hc];exact e
  have f5:∀ c,c≠x->upd G4 x (HO.ins Ad.Editions dx (gw (Str.ofString "changes") (V.ref cl) [("current",.ref b)])) c=none->G4 c=none:=fun c hc e=>by rw[az hc] at e;exact e
  generalize upd G4 x (HO.ins Ad.Editions dx (gw (Str.ofString "changes") (V.ref cl) [("current",.ref b)]))=G5 at h5 k5 f5;grind;refine fun sd G6 hsd t6 g6=>⟨_,_,_,t6 _ _ h5,AF.c_Editions,AF.n_Editions_struck,by show 2<1000;decide,?_⟩;cbv;have nxs:x≠sd:=fun z=>by rw[←z,h5] at hsd;cases hsd
  have h7:upd G6 x (HO.ins Ad.Editions dx (gw (Str.ofString "struck") (V.ref sd) [("current",.ref b),("changes",.ref cl)])) x=some (.ins Ad.Editions dx [("current",.ref b),("changes",.ref cl),("struck",.ref sd)]):=aB;have k7:∀ c o,c≠x->G6 c=some o->upd G6 x (HO.ins Ad.Editions dx (gw (Str.ofString "struck") (V.ref sd) [("current",.ref b),("changes",.ref cl)])) c=some o:=fun c o hc e=>by rw[az hc];exact e
  generalize upd G6 x (HO.ins Ad.Editions dx (gw (Str.ofString "struck") (V.ref sd) [("current",.ref b),("changes",.ref cl)]))=G7 at h7 k7;symm;refine⟨_,_,_,h7,AF.c_Editions,AF.n_Editions_latest,by show 3<1000;decide,?_⟩;have e24:∀ c o,c≠x->G2 c=some o->G4 c=some o:=fun c o hc e=>t4 _ _ (k3 c o hc e);have e46:∀ c o,c≠x->G4 c=some o->G6 c=some o:=fun c o hc e=>t6 _ _ (k5 c o hc e);have e02:∀ c o,H c=some o->G2 c=some o:=fun c o e=>k2 c o (fun z=>by rw[z,hb] at e;cases e) (t1 _ _ e);have c2:G2 cl=none:=f3 cl nxc.symm hcl;have s4:G4 sd=none:=f5 sd nxs.symm hsd;have fin:∀ c o,c≠x->G6 c=some o->upd G7 x (HO.ins Ad.Editions dx (gw (Str.ofString "latest") (V.int 0) [("current",.ref b),("changes",.ref cl),("struck",.ref sd)])) c=some o:=fun c o hc e=>by rw[az hc];exact k7 c o hc e
  have fin2:∀ c o,c≠x->G2 c=some o->upd G7 x (HO.ins Ad.Editions dx (gw (Str.ofString "latest") (V.int 0) [("current",.ref b),("changes",.ref cl),("struck",.ref sd)])) c=some o:=fun c o hc e=>fin c o hc (e46 c o hc (e24 c o hc e));refine k b dn de cl sd _ hb hdn0 hde0 ?_ ?_ ?_ (fun c o hc e=>fin2 c o hc (e02 c o e)) aB ⟨⟨bx,fin2 _ _ nxb.symm g2⟩,fin2 _ _ nxn.symm gn,fin2 _ _ nxe.symm ge,(fun e he=>by cases he),.nil,.nil⟩ (fin _ _ nxc.symm (e46 _ _ nxc.symm g4)) (fin _ _ nxs.symm g6)
  ·cases e:H cl with
   | none=>rfl
   | some o=>rw[e02 cl o e] at c2;cases c2
  ·cases e:H sd with
   | none=>rfl
   | some o=>rw[e24 sd o nxs.symm (e02 sd o e)] at s4;cases s4
  ·intro z;rw[←z,e24 dn _ nxn.symm gn] at s4;cases s4
def lets (b st:Int) (m:Nat):Za:=(List.range m).map fun k:Nat=>97+((b+st*(k:Int))%26).toNat
def IH {b st:Int} (hm:m<=9) (hs:st=1∨st=25∨st=3∨st=7):(lets b st m).Nodup:=by unfold lets;refine List.pairwise_map.mpr (List.Pairwise.imp_of_mem (R:=(·<·)) (fun {i j} hi hj hij e=>?_) List.pairwise_lt_range);have hi':=iJ.mp hi;have hj':=iJ.mp hj;rcases hs with rfl | rfl | rfl | rfl<;>left
def FG {b st:Int}:∀ c∈lets b st m,97<=c/\c<123:=fun c hc=>by unfold lets at hc;obtain⟨k,_,rfl⟩:=aD.mp hc;have:=dC (b+st*(k:Int)) (show (26:Int)≠0 by decide);have:=eM (b+st*(k:Int)) (show (0:Int)<26 by decide);left
def kg (K:Zf):Sp:=fun vs H Q _=>∃ (a:Addr) (ns:Zb),vs=[.ref a]/\SqL K H a (ns.map V.int)/\∀ p q al ws r H',ax H H'->Parts H' p q al ws r->cO al ws r->al.length<=9->3<=ws.length->ws.length<=6->Q (.ref p) H'
def cW:aI ["_law_script","_law_cell","_law_some","_law_m","_law_step","_law_alphabet"] ["_law_script"] (av ix):=by subst_eqs
def qm (F:Fun K "_law_code_parts" "_law_code_parts" ix f fd) (T:Bl mg) (AF:AdF K mg Ad) (C_law_weights:Fnc P w K mg base (CX1 P w) 2 "_law_weights" ["_law_cell","_law_m","_law_many_here"] n9) (C_law_mixed:Fnc P w K mg base (CX1 P w) 1 "_law_mixed" ["_law_cell"] jo) (C_law_cell_at:Fnc P w K mg base (CX1 P w) 1 "_law_cell_at" ["_law_script","_law_k"] (jD K)):bS P w K mg base (CX1 P w) 3 f fd ["_law_script"] (kg K):=by
 refine F.okX (k:=2) cW ?_ ?_
 ·bv_decide
 ·right;obtain⟨a,ns,rfl,hS,k⟩:=h;refine⟨_,ae (ji (i:=1) cW.nd (aG C_law_mixed aw (hr.mono Zd) (ah (aG C_law_cell_at aw (hr.mono Zd) (ah (pvL 0) (ah (au) (aa)))) (aa)))) (ae (ji (i:=2) cW.nd (aO)) (ae (aF (i:=3) cW.nd (b7 (cn (K:=K) rfl) (bR (ah (au) (ah (au) (ah (au) (ah (au) (aa)))))) (aR cw (pvC 1) (au)) (fun _ _=>rfl))) (ae (ji (i:=4) cW.nd (b7 (cn (K:=K) rfl) (bR (ah (au) (ah (au) (ah (au) (ah (au) (aa)))))) (aR cw (aR cQ (pvC 1) (au)) (au)) (fun _ _=>rfl))) (ae (aF (i:=5) cW.nd (eD (K:=K) rfl gj rk rq (qi (K:=K) rfl) (aO) (ah (jc ["_law_k"] rfl ⟨rfl,by nofun,rfl,by nofun⟩ (.cons (j:=2) rfl (.inl (by ext)) (.cons (j:=1) rfl (.inl (by ext)) (.cons (j:=4) rfl (.inl (by ext)) (.nil)))) (by nofun) (gv T.range (ah (pvL 3) (aa))) (fun _ _ _ _=>aC (i:=0) (show (["_law_k","_law_some","_law_cell","_law_step"]:Ze).Nodup from by nofun)) (fun _ _ _ _=>dv) (fun _ _ _ _=>b7 (cn (K:=K) rfl) (pvC 1) (aR cw (aR br (aR cQ (pvC 2) (au)) (aR oF (pvC 3) (pvL 0))) (au)) (fun _ _=>rfl))) (aa)))) (aj (aH (bR (ah (pvL 5) (ah (aG C_law_weights aw (hr.mono Zd) (ah (aR cQ (pvC 1) (au)) (ah (pvL 3) (ah (aR br (au) (aR cw (aR cQ (pvC 1) (au)) (au))) (aa))))) (ah (aR cw (aR cQ (pvC 1) (au)) (pvL 3)) (aa))))))))))),?_⟩;have big:∀ {u:Nat},u<=1000->u<=sizeLine:=fun hu=>aT (ao (by left));grind;refine⟨a,ns,0,rfl,hS,Zd,?_⟩;generalize ns.getD (0:Int).toNat 0=c0;refine⟨c0,rfl,?_⟩;have y0:=tU c0;generalize Dw c0=y at y0;cbv;grind;cbv;grind;obtain⟨m,hm,hb⟩:∃ m:Nat,(m=3∨m=5∨m=7∨m=9)/\atI [V.int 3,V.int 3,V.int 5,V.int 7] (y%4)=some (V.int m):=by
   have hy:y%4=0∨y%4=1∨y%4=2∨y%4=3:=by left
   rcases hy with e | e | e | e<;>rw[e]
   ·exact⟨3,.inl rfl,rfl⟩
   ·exact⟨3,.inl rfl,rfl⟩
   ·exact⟨5,.inr (.inl rfl),rfl⟩
   ·exact⟨7,.inr (.inr (.inl rfl)),rfl⟩
  refine⟨big Zd,fun p1 H1 hp1 s1 h1=>⟨Zd,_,_,.l h1,hb,?_⟩⟩;rw[hN];clear hN nn hb;grind;obtain⟨st,hst,hb⟩:∃ st:Int,(st=1∨st=25∨st=3∨st=7)/\atI [V.int 1,V.int 25,V.int 3,V.int 7] (y/4%4)=some (V.int st):=by
   have hy:y/4%4=0∨y/4%4=1∨y/4%4=2∨y/4%4=3:=by left
   rcases hy with e | e | e | e<;>rw[e]
   ·exact⟨1,.inl rfl,rfl⟩
   ·exact⟨25,.inr (.inl rfl),rfl⟩
   ·exact⟨3,.inr (.inr (.inl rfl)),rfl⟩
   ·exact⟨7,.inr (.inr (.inr rfl)),rfl⟩
  refine⟨big Zd,fun p2 H2 hp2 s2 h2=>⟨⟨Zd,Zd⟩,Zd,_,_,.l h2,hb,?_⟩⟩;rw[hN];clear hN nn hb;grind;have m9:m<=9:=by left
  have m3:3<=m:=by left
  refine⟨by rfl,by left,by omega,tK V.int gr (qE m) (by rw[Mk.lY];exact ao (by left)) (fun x=>.str (tx [97+((y/16+st*x)%26).toNat])) ?_ ?_⟩
  ·intro x hx G t R hR;obtain⟨x0,x1⟩:=Mk.i9.mp hx;have f0:=dC (y/16+st*x) (show (26:Int)≠0 by decide);have f1:=eM (y/16+st*x) (show (0:Int)<26 by decide);symm;refine⟨⟨Zd,Zd⟩,⟨fi (show st.natAbs<=1000 by left) Zd,fi (show x.natAbs<=1000 by left) Zd⟩,Zd,big Zd,97+((y/16+st*x)%26).toNat,jv f0 (Eh _ (by left)),hR G (ax.refl _)⟩
  intro D H3 hD s3 h3;have el:H3 D=some (.lst ((lets (y/16) st m).map fun c=>V.str (tx [c]))):=by rw[h3];unfold lets Mk.ofN;rw[aX,aX];rfl
  symm;refine⟨(lets (y/16) st m).map fun c=>tx [c],Fz el,Fy (by unfold lets;rw[ak,jL];left),?_⟩;rw[Bo];cbv;have ll:(lets (y/16) st m).length=m:=by unfold lets;rw[ak,jL]
  have lnd:=IH (b:=y/16) m9 hst;have labc:=FG (b:=y/16) (st:=st) (m:=m);generalize lets (y/16) st m=al at ll lnd labc;symm;have w0:0<=y/64%2/\y/64%2<2:=by left
  refine⟨⟨Zd,Zd⟩,⟨Zd,Zd⟩,Zd,y/1000,m,_,rfl,by left,by left,by left,by left,fun q H4 hq s4 h4=>?_⟩;refine⟨⟨Zd,Zd⟩,by left,big Zd,fun p H5 hp s5 h5=>?_⟩;have wl:=Mk.J0 (y/1000) (m:Int) (3+y/64%2).toNat
  have wm:=Mk.J1 (m:=(m:Int)) (by left) (y/1000) (3+y/64%2).toNat
  have wsf:=Mk.Hu (m:=(m:Int)) (by left) (by left) (by left) (y/1000) (3+y/64%2).toNat
  refine k p q al _ _ H5 (s1.trans (s2.trans (s3.trans (s4.trans s5)))) ⟨h5,s5 _ _ h4⟩ ⟨by left,by left,lnd,labc,by left,by left,?_,?_,?_⟩ (by left) (by left) (by left)
  ·rw[ll];exact wm
  ·rw[ll];exact wsf
  ·rw[ll];exact⟨dC _ (by left),eM _ (by left)⟩
theorem vD {b:Int}:∀ {xs:List V},xs.all (bU b)=true->∃ ws:Zb,xs=ws.map V.int/\∀ x∈ws,0<=x/\x<b
 | [],_=>⟨[],rfl,fun _ h=>nomatch h⟩
 | y::ys,h=>by
  rw[jJ,cm] at h;obtain⟨ws,e,hw⟩:=vD h.2;cases y with
  | int i =>
   have h1:(decide (0<=i)&&decide (i<b))=true:=h.1;rw[cm,cj,cj] at h1;refine⟨i::ws,by rw[e];rfl,fun x hx=>?_⟩;cases hx with
   | head=>exact h1
   | tail _ hx=>exact hw x hx
  | _=>cases h.1
def HW (h:eO H b x=true):∃ (p:Addr) (ws:Zb),x=.ref p/\H p=some (.lst (ws.map V.int))/\3<=ws.length/\ws.length<=8/\∀ y∈ws,0<=y/\y<b:=by
 cases x with
 | ref p =>
  have h1:(match H p with | some (.lst xs)=>decide (3<=xs.length)&&decide (xs.length<=8)&&xs.all (bU b) | _=>false)=true:=h;split at h1
  ·rename_i xs e
   simp only[cm,cj] at h1;obtain⟨ws,e1,hw⟩:=vD h1.2;subst e1;rw[ak] at h1;exact⟨p,ws,rfl,e,h1.1.1,h1.1.2,hw⟩
  ·cases h1
 | _=>cases h
inductive fQ (Ad:Ads) (vs:List V) (H:Hp) (Q:VK) (E:XK):Prop
 | mk (a dx:Addr) (xa xw xr:V) (ta tw tr:Tg) (q0:vs=[.ref a,xa,xw,xr]) (q1:H a=some (.ins Ad.Code dx [])) (q2:fT H xa=some ta) (q3:fT H xw=some tw) (q4:fT H xr=some tr) (q5:(∀ z,xa=.str z->z.length<=4000)) (q6:(∀ p o u,xw=.ref p->H p≠some (.frz o u))) (q7:(∀ p xs,xw=.ref p->H p=some (.lst xs)->xs.length<=1000/\∀ y∈xs,∃ t,fT H y=some t)) (q8:(HZ H xa xw xr->∀ H',ax H H'->E (.ref Ad.NoCode) none H')) (q9:(∀ al p ws r,ui H xa xw xr al p ws r->∀ q H',H q=none->(∀ b o,b≠a->H b=some o->H' b=some o)->H' a=some (.ins Ad.Code dx (sJ al q r))->H' q=some (.lst (ws.map V.int))->Q .non H')):fQ Ad vs H Q E
def vM {Ad:Ads}{ca cd qn:Addr}{Q:VK}{E:XK} (ha:H ca=some (.ins Ad.Code cd [])) (hq:H qn=some (.lst (ws.map V.int))) (ok:cO al ws r)
  (k:∀ H',(∀ b o,b≠ca->H b=some o->H' b=some o)->dq Ad H' ca al ws r->Q .non H'):fQ Ad [.ref ca,.str (tx al),.ref qn,.int r] H Q E:=by
 have g26:=ok.a26;have w8:=ok.w8;refine⟨ca,cd,.str (tx al),.ref qn,.int r,Tg.str,Tg.lst,Tg.int,rfl,ha,rfl,?_,rfl,?_,?_,?_,?_,?_⟩
 ·show mF (H qn)=_;rw[hq];rfl
 ·intro z e;cases e;rw[bM];left
 ·intro p o u e e2;cases e;rw[hq] at e2;cases e2
 ·intro p xs e e2;cases e;rw[hq] at e2;cases e2;refine⟨by rw[ak];left,fun y hy=>?_⟩;obtain⟨x,_,rfl⟩:=aD.mp hy;exact⟨Tg.int,rfl⟩
 ·intro hb;exact absurd ⟨rfl,rfl,hq,rfl,ok⟩ (hb al qn ws r)
 ·intro al' p ws' r' hm q H' hq' hs h1 h2;obtain⟨e1,e2,e3,e4,_⟩:=hm;have ea:al=al':=by injection e1 with e1;exact vi e1
  have er:r=r':=by injection e4
  have ep:qn=p:=by injection e2
  subst ea er ep;rw[hq] at e3;have e6:ws.map V.int=ws'.map V.int:=by injection e3 with e3;injection e3
  have ew:ws=ws':=(qV (fun x y h=>by injection h)).mp e6;subst ew;exact k H' hs ⟨cd,q,h1,h2⟩
def qz:aI ["self","alphabet","weights","rest","m"] ["self","alphabet","weights","rest"] (av gG):=by subst_eqs
def xb (F:Fun K "__init__" "Code.__init__" gG f fd) (T:Bl mg) (AF:AdF K mg Ad) (C_are_safe:Fnc P w K mg base (CX1 P w) 2 "are_safe" ["weights","m"] tm) (C_is_below:Fnc P w K mg base (CX1 P w) 2 "is_below" ["thing","bound"] fI) (C_are_weights:Fnc P w K mg base (CX1 P w) 3 "are_weights" ["thing","m"] ny) (C_is_alphabet:Fnc P w K mg base (CX1 P w) 1 "is_alphabet" ["thing"] nz):bS P w K mg base (CX1 P w) 4 f fd ["self","alphabet","weights","rest"] (fQ Ad):=by
 refine F.okX (k:=3) qz ?_ ?_
 ·bv_decide
 ·right;obtain⟨a,dx,xa,xw,xr,ta,tw,tr,rfl,ha,hta,htw,htr,hza,hfz,hit,kE,kQ⟩:=h;refine⟨_,ae (bC (c9 (cb (aG C_is_alphabet aw (hr.mono Zd) (ah (pvL 1) (aa))))) (aj (cJ cK AF.q_NoCode AF.g_NoCode cy rfl (ah (aO) (aa)))) (aQ)) (ae (aF (i:=4) qz.nd (aA (bG (K:=K) rfl) T.len cG (ah (pvL 1) (aa)))) (ae (bC (c9 (cb (aG C_are_weights aw (hr.mono Zd) (ah (pvL 2) (ah (pvL 4) (aa)))))) (aj (cJ cK AF.q_NoCode AF.g_NoCode cy rfl (ah (aO) (aa)))) (aQ)) (ae (bC (c9 (cb (aG C_is_below aw (hr.mono Zd) (ah (pvL 3) (ah (pvL 4) (aa)))))) (aj (cJ cK AF.q_NoCode AF.g_NoCode cy rfl (ah (aO) (aa)))) (aQ)) (ae (bC (c9 (cb (aG C_are_safe aw (hr.mono Zd) (ah (pvL 2) (ah (pvL 4) (aa)))))) (aj (cJ cK AF.q_NoCode AF.g_NoCode cy rfl (ah (aO) (aa)))) (aQ)) (ae (gR (K:=K) rfl (pvL 0) (pvL 1)) (ae (gR (K:=K) rfl (pvL 0) (fB (lU (K:=K) rfl rfl) T.list pT (ah (pvL 2) (aa)))) (aj (gR (K:=K) rfl (pvL 0) (pvL 3))))))))),?_⟩;rw[dH];symm;refine⟨xa,ta,rfl,hta,hza,fun H1 s1=>?_⟩;symm;cases hA:iC xa with
  | false =>
   bv_omega;refine⟨Zd,kE (fun al p ws r ⟨e1,_,_,_,e5⟩=>?_) H1 s1⟩;have:iC xa=true:=by rw[e1];show gM (tx al).cps.toList=true;rw[ck];unfold gM;rw[ar e5.a3,ar e5.a26,ar e5.nd,bP.mpr fun c hc=>ar (e5.abc c hc)];rfl
   rw[hA] at this;cases this
  | true =>
   bv_omega;obtain⟨z,rfl⟩:∃ z,xa=.str z:=by
    cases xa with
    | str z=>exact⟨z,rfl⟩
    | _=>cases hA
   have hA':gM z.cps.toList=true:=hA;have hz:=dE z;unfold gM at hA';simp only[cm,cj,bP] at hA';obtain⟨⟨⟨g3,g26⟩,gnd⟩,gabc⟩:=hA';rw[dH];symm;refine⟨aT (ao (by left)),?_⟩;symm;rw[dH];symm;refine⟨xw,tw,_,rfl,kX s1 htw,fun p o u e e2=>?_,fun p xs e e2=>?_,fun H2 s2=>?_⟩
   ·subst e;have:mF (H p)=some tw:=htw;cases e3:H p with
    | none=>rw[e3] at this;cases this
    | some ob =>have e4:=s1 p ob e3;rw[e2] at e4;cases e4;exact hfz p o u rfl e3
   ·subst e;have:mF (H p)=some tw:=htw;cases e3:H p with
    | none=>rw[e3] at this;cases this
    | some ob =>have e4:=s1 p ob e3;rw[e2] at e4;cases e4;obtain⟨i1,i2⟩:=hit p xs rfl e3;exact⟨i1,fun y hy=>by obtain⟨ty,hty⟩:=i2 y hy;exact⟨ty,kX s1 hty⟩⟩
   symm;have eW:eO H1 (z.length:Int) xw=eO H (z.length:Int) xw:=by
    cases xw with
    | ref p =>
     have:mF (H p)=some tw:=htw;cases e3:H p with
     | none=>rw[e3] at this;cases this
     | some ob =>show (match H1 p with | some (.lst xs)=>_ | _=>false)=(match H p with | some (.lst xs)=>_ | _=>false);rw[s1 p ob e3,e3]
    | _=>rfl
   rw[eW];cases hW:eO H (z.length:Int) xw with
   | false =>
    bv_omega;refine⟨Zd,kE (fun al p ws r ⟨e1,e2,e3,_,e5⟩=>?_) H2 (s1.trans s2)⟩;have hal:z=tx al:=by cases e1;rfl
    have:eO H (z.length:Int) xw=true:=by rw[e2,hal,bM];show (match H p with | some (.lst xs)=>decide (3<=xs.length)&&decide (xs.length<=8)&&xs.all (bU (al.length:Int)) | _=>false)=true;rw[e3];simp only[ak];rw[ar e5.w3,ar e5.w8,fY,bP.mpr];rfl;intro x hx;have:=e5.wm x hx;show (decide (0<=x)&&decide (x<(al.length:Int)))=true;rw[ar this.1,ar this.2];rfl
    rw[hW] at this;cases this
   | true =>
    bv_omega;rw[dH];symm;refine⟨xr,tr,_,rfl,kX (s1.trans s2) htr,?_⟩;symm;cases hB:bU (z.length:Int) xr with
    | false =>
     bv_omega;refine⟨Zd,kE (fun al p ws r ⟨e1,e2,e3,e4,e5⟩=>?_) H2 (s1.trans s2)⟩;have hal:z=tx al:=by cases e1;rfl
     have:bU (z.length:Int) xr=true:=by rw[e4,hal,bM];show (decide (0<=r)&&decide (r<(al.length:Int)))=true;rw[ar e5.rm.1,ar e5.rm.2];rfl
     rw[hB] at this;cases this
    | true =>
     bv_omega;obtain⟨r,rfl⟩:∃ r,xr=.int r:=by
      cases xr with
      | int r=>exact⟨r,rfl⟩
      | _=>cases hB
     have hB':(decide (0<=r)&&decide (r<(z.length:Int)))=true:=hB;rw[cm,cj,cj] at hB';obtain⟨p,ws,rfl,hp,w3,w8,wm⟩:=HW hW;have hp2:H2 p=some (.lst (ws.map V.int)):=s2 _ _ (s1 _ _ hp);rw[dH];symm;refine⟨p,ws,_,rfl,hp2,by left,fun H3 s3=>?_⟩;symm;have s03:ax H H3:=(s1.trans s2).trans s3;have el:(z.length:Int)=(z.cps.toList.length:Int):=by rw[hz]
     cases hS:Mk.safe (z.length:Int) ws with
     | false =>
      bv_omega;refine⟨Zd,kE (fun al p' ws' r' ⟨e1,e2,e3,e4,e5⟩=>?_) H3 s03⟩;have hal:z=tx al:=by cases e1;rfl
      have hpp:p'=p:=by cases e2;rfl
      subst hpp;have hww:ws'=ws:=by
       rw[hp] at e3;have e6:ws.map V.int=ws'.map V.int:=by injection e3 with e3;injection e3
       exact (qV (fun x y h=>by injection h)).mp e6.symm
      subst hww;have:=e5.safe;rw[hal,bM] at hS;rw[hS] at this;cases this
     | true =>
      bv_omega;have ha3:=s03 _ _ ha;have hp3:H3 p=some (.lst (ws.map V.int)):=s03 _ _ hp;have hne:p≠a:=fun e=>by rw[e,ha] at hp;cases hp
      have hM:ui H (.str z) (.ref p) (.int r) z.cps.toList p ws r:=⟨by rw[nE],rfl,hp,rfl,⟨g3,g26,gnd,gabc,w3,w8,by rw[←el];exact wm,by rw[←el];exact hS,by rw[←el];exact hB'⟩⟩;ac_nf;refine⟨_,_,_,ha3,AF.c_Code,AF.n_Code_letters,Zd,ws.map V.int,.inl (.inl (.of (by rw[az hne];exact hp3))),fun q H4 hq s4 h4=>?_⟩;have ha4:=s4 a _ aB;refine⟨_,_,_,ha4,AF.c_Code,AF.n_Code_factors,fi (aq 1) Zd,_,_,_,aB,AF.c_Code,AF.n_Code_remainder,fi (aq 2) Zd,?_⟩;have hqa:q≠a:=fun e=>by rw[e,aB] at hq;cases hq
      rw[az hqa] at hq;have hq0:H q=none:=by
       cases e:H q with
       | none=>rfl
       | some o=>rw[s03 q o e] at hq;cases hq
      refine kQ z.cps.toList p ws r hM q _ hq0 (fun b o hb e=>?_) ?_ ?_
      ·rw[az hb,az hb];exact s4 b o (by rw[az hb];exact s03 b o e)
      ·rw[aB];unfold sJ;rw[nE];rfl
      ·rw[az hqa,az hqa];exact h4
inductive jB (Ad:Ads) (vs:List V) (H:Hp) (Q:VK) (E:XK):Prop
 | mk (a:Addr) (al:Za) (ws:Zb) (r:Int) (x:V) (t:Tg) (q0:vs=[.ref a,x]) (q1:dq Ad H a al ws r) (q2:cO al ws r) (q3:fT H x=some t) (q4:(∀ z,x=.str z->z.length<=100000)) (q5:(lV (tx al) ws r x=false->∀ H',ax H H'->E (.ref Ad.NoWord) none H')) (q6:(∀ z,x=.str z->Mk.i8 al ws r z.cps.toList=true->∀ H',ax H H'->Q (.int (Mk.numOf al.length (Mk.plc al z.cps.toList.dropLast))) H')):jB Ad vs H Q E
def gT:aI ["self","word","k","place"] ["self","word"] (av k6):=by subst_eqs
def uH (F:Fun K "number" "Code.number" k6 f fd) (T:Bl mg) (AF:AdF K mg Ad) (C_places_of:Fnc P w K mg base (CX1 P w) 1 "places_of" ["alphabet","word"] my) (M_Code_has_good:Mtd P w K mg base (CX1 P w) Ad.Code "has_good" 3 ["self","thing"] (i4 Ad)):bS P w K mg base (CX1 P w) 4 f fd ["self","word"] (jB Ad):=by
 refine F.okX (k:=3) gT ?_ ?_
 ·bv_decide
 ·right;obtain⟨a,al,ws,r,x,t,rfl,⟨dx,q,h1,h2⟩,ok,ht,hz,kE,kQ⟩:=h;refine⟨_,ae (bC (c9 (cb (bZ M_Code_has_good aw (hr.mono Zd) (pvL 0) (ah (pvL 1) (aa))))) (aj (cJ cK AF.q_NoWord AF.g_NoWord cy rfl (ah (aO) (aa)))) (aQ)) (ae (aF (i:=2) gT.nd (au)) (ae (iT dD rfl (cE (K:=K) rfl (aG C_places_of aw (hr.mono Zd) (ah (b8 (K:=K) rfl (pvL 0)) (ah (iF (tj (K:=K) rfl) (pvL 1) (me) (jh (JB Hq (au)))) (aa))))) (aC (i:=3) gT.nd) (aj (aF (i:=2) gT.nd (aR br (aR oF (pvL 2) (aA (bG (K:=K) rfl) T.len cG (ah (b8 (K:=K) rfl (pvL 0)) (aa)))) (pvL 3))))) (aj (aH (pvL 2))))),?_⟩;have g3:=ok.a3;have g26:=ok.a26;have w8:=ok.w8;rw[dH];symm;refine⟨dx,_,h1,cZ Zd Zd Zd al q r,a,al,ws,r,x,t,rfl,⟨dx,q,h1,h2⟩,ok,ht,hz,fun H1 s1=>?_⟩;symm;cases hG:lV (tx al) ws r x with
  | false =>bv_omega;exact⟨Zd,kE hG H1 s1⟩
  | true =>
   bv_omega;obtain⟨z,rfl⟩:∃ z,x=.str z:=by
    cases x with
    | str z=>exact⟨z,rfl⟩
    | _=>cases hG
   have hG':Mk.i8 al ws r z.cps.toList=true:=by have:Mk.i8 (tx al).cps.toList ws r z.cps.toList=true:=hG;rw[ck] at this;exact this
   symm;rw[dH];symm;rw[dH];symm;refine⟨_,dx,_,_,s1 _ _ h1,AF.c_Code,AF.n_Code_letters,dU al q r,?_⟩;symm;have e0:rJ z.cps.toList none (some (-1))=z.cps.toList.dropLast:=CG _;rw[e0];have hzl:=hz z rfl;have hzc:=dE z;unfold Mk.i8 Mk.eS at hG';simp only[cm,cj,bP] at hG';obtain⟨⟨hl,hm⟩,-⟩:=hG';have hd:z.cps.toList.dropLast.length<=z.cps.toList.length:=by rw[List.length_dropLast];left
   have hdm:∀ c∈z.cps.toList.dropLast,c∈al:=fun c hc=>hm c (List.dropLast_subset _ hc);refine⟨aT (ao (by left)),tx al,tx z.cps.toList.dropLast,rfl,by rw[bM];left,by rw[ck,ck];exact hdm,fun p H2 hp s2 h3=>.inl ⟨⟨_,.of h3⟩,?_⟩⟩;rw[ck,ck] at h3;have hpm:=Mk.B0 hdm;have hpl:(Mk.plc al z.cps.toList.dropLast).length<=8:=by rw[Mk.Je];left
   have kQ':=kQ z rfl (by have:Mk.i8 (tx al).cps.toList ws r z.cps.toList=true:=hG;rw[ck] at this;exact this);generalize Mk.plc al z.cps.toList.dropLast=ps at h3 hpm hpl kQ';refine wL (xs:=ps.map V.int) (fun i σ H'=>H'=H2/\∃ o,σ=[some (.ref a),some (.str z),some (.int (Mk.numOf al.length (ps.take i))),o]) ?_ ?_ ?_ ?_
   ·exact⟨rfl,none,rfl⟩
   ·rintro i σ H' _ ⟨rfl,_⟩;exact .of h3
   ·rintro i x σ H' hx ⟨rfl,o,rfl⟩;rw[bt] at hx;obtain⟨x,hy,rfl⟩:=gi.mp hx;have hi:=(bN.mp hy).1;have hb:=Mk.wW (m:=al.length) (by left) (ps.take i) fun p hp=>hpm p (qW hp);have hxm:=hpm x (bw hy);ac_nf;refine⟨_,dx,_,_,s2 _ _ (s1 _ _ h1),AF.c_Code,AF.n_Code_letters,dU al q r,?_⟩;ac_nf;rw[bM];refine⟨aT (ao (by left)),⟨?_,bE (show ((al.length:Int)).natAbs<1000 by left) Zd⟩,?_⟩
    ·refine bE (show (Mk.numOf (al.length:Int) (ps.take i)).natAbs<26^8 from ?_) Zd;have e1:((al.length:Int))^(ps.take i).length<=((26^8:Nat):Int):=by
      rw[←Int.natCast_pow];exact Int.ofNat_le.mpr (bQ (rh g26 _) (nX Zd (by rw[fK];left)))
     left
    ·refine⟨trivial,some (.int x),?_⟩;have e:ps.take (i+1)=ps.take i++[x]:=by rw[hV,hy];rfl
     rw[e,Mk.pb]
   ·rintro σ H' ⟨rfl,o,rfl⟩;rw[ak,List.take_length];ac_nf;exact kQ' _ (s1.trans s2)
def zo {b k:Int} (h0:0<=k) (h1:k<b):bU b (.int k)=true:=by show (decide (0<=k)&&decide (k<b))=true;rw[ar h0,ar h1];rfl
inductive dA (Ad:Ads) (spf:Sp) (vs:List V) (H:Hp) (Q:VK) (E:XK):Prop
 | mk (b ca dn de f t:Addr) (es:List Ben) (al:Za) (ws:Zb) (r n:Int) (key:List Key) (y:V) (bar:Int->Bool) (q0:vs=[.ref b,.ref t,y,.ref f]) (q1:cq Ad H b ca dn de es) (q2:dq Ad H ca al ws r) (q3:cO al ws r) (q4:Bar spf bar H) (q5:H t=some (.tup (key.map kV))) (q6:eu key) (q7:es.length<300) (q8:((key∈es.map (·.key)/\(∀ H',ax H H'->E (.ref Ad.Twice) none H'))∨(key∉es.map (·.key)/\y=.int n/\0<=n/\n<bX al ws/\n∉es.map (·.num)/\bar n=false/\∀ H',ax H H'->Q (.int n) H')∨(key∉es.map (·.key)/\y=.int n/\0<=n/\n<bX al ws/\(n∈es.map (·.num)∨bar n=true)/\∀ H',ax H H'->E (.ref Ad.NoNumber) none H')∨(key∉es.map (·.key)/\y=.non/\km (es.map (·.num)) bar n/\n<bX al ws/\∀ H',ax H H'->Q (.int n) H')∨(key∉es.map (·.key)/\y=.non/\km (es.map (·.num)) bar n/\bX al ws<=n/\∀ H',ax H H'->E (.ref Ad.TooMany) none H'))):dA Ad spf vs H Q E
def uT:aI ["self","entry","number","is_barred"] ["self","entry","number","is_barred"] (av fq):=by subst_eqs
def uE {k:Nat} (F:Fun K "choose" "Book.choose" fq f fd) (T:Bl mg) (AF:AdF K mg Ad) (C_is_below:Fnc P w K mg base (CX1 P w) 2 "is_below" ["thing","bound"] fI) (C_is_entry:Fnc P w K mg base (CX1 P w) 3 "is_entry" ["thing"] n4) (M_Book_least_free:uc P w K mg base (CX1 P w) Ad.Book "least_free" 2 1 ["self","is_barred"] (eY Ad)) (M_Code_many:pP P w K mg base (CX1 P w) Ad.Code "many" 1 ["self"] (eZ Ad)):xP P w K mg base (CX1 P w) (k+4) f fd ["self","entry","number","is_barred"] (Jv P w K mg base k 1 (dA Ad)):=by
 refine F.okH (j:=k+3) (k:=k) (n:=1) uT (fun spf vs H Q E h=>?_) (fun cdv A outer s H vs Q E hr lf spf hlf lam step h=>?_)
 ·obtain⟨b,ca,dn,de,f,t,es,al,ws,r,n,key,y,bar,rfl,_⟩:=h;rfl
 ·obtain⟨b,ca,dn,de,f,t,es,al,ws,r,n,key,y,bar,rfl,B,C,ok,Fb,ht,eo,h300,ks⟩:=h;obtain rfl:f=lf:=by cases hlf;rfl
  obtain⟨dx,h1⟩:=B.bk;have hu:=hr.fJ;have hu1:=jW hr;refine⟨_,ae (bC (c9 (cb (aG C_is_entry aw (hr.mono (by left)) (ah (pvL 1) (aa))))) (aj (cJ cK AF.q_NoEntry AF.g_NoEntry cy rfl (ah (aO) (aa)))) (aQ)) (ae (bC (aP (lZ (K:=K) rfl hu1) (pvL 1) (b8 (K:=K) rfl (pvL 0)) (by ext)) (aj (cJ cK AF.q_Twice AF.g_Twice cy rfl (ah (aO) (aa)))) (aQ)) (ae (bC (aP kO (pvL 2) (dW) (aU _)) (ae (bC (c9 (cb (aG C_is_below aw (hr.mono (by left)) (ah (pvL 2) (ah (cT M_Code_many.mtd aw (hr.mono (by left)) (b8 (K:=K) rfl (pvL 0))) (aa)))))) (aj (cJ cK AF.q_NoNumber AF.g_NoNumber cy rfl (ah (aO) (aa)))) (aQ)) (aj (bC ((jd (aP (lZ (K:=K) rfl hu1) (pvL 2) (b8 (K:=K) rfl (pvL 0)) (by ext)) (gx (cb (sV step rfl (hr.mono (by left)) (pvL 3) (ah (pvL 2) (aa)))))).pt) (aj (cJ cK AF.q_NoNumber AF.g_NoNumber cy rfl (ah (aO) (aa)))) (aQ)))) (aQ)) (ae (bC (aP (xp (K:=K) rfl hu) (aA Ct T.len cG (ah (b8 (K:=K) rfl (pvL 0)) (aa))) (fV AF.v_MOST_ENTRIES) (aU _)) (aj (cJ cK AF.q_TooMany AF.g_TooMany cy rfl (ah (aO) (aa)))) (aQ)) (aj (aH (mT (aP uO (pvL 2) (dW) (aU _)) (DI M_Book_least_free step rfl rfl aw (hr.mono (by left)) (pvL 0) (pvL 3)) (pvL 2))))))),?_⟩;grind;refine⟨_,.tup,rfl,(show mF (H t)=_ by rw[ht];rfl),(fun p xs ep hp=>?_),fun G1 t1=>?_⟩
  ·cases ep
   rw[ht] at hp;cases hp;refine⟨by rw[ak];have:=eo.few;left,fun v hv=>?_⟩;obtain⟨z,hz,rfl⟩:=aD.mp hv;exact⟨F0 H z,fun s es=>eo.short s (by rw[←es];exact hv)⟩
  rw[pZ ht eo];symm;cbv;have B1:=B.same t1;obtain⟨dx1,h11⟩:=B1.bk;grind;refine⟨_,dx1,_,_,h11,AF.c_Book,AF.n_Book_by_entry,oy ca dn de,?_⟩;refine .inr ⟨_,.inr ⟨_,key,t,.inl B1.he,rfl,t1 _ _ ht,rfl⟩,?_⟩
  by_cases hk:key∈es.map (·.key)
  ·obtain⟨e,he,rfl⟩:=aD.mp hk;rw[show dJ (mC es) e.key=some (V.int e.num) from tY (f:=fun e:Ben=>e.key) B.nk he];bv_omega;rcases ks with ⟨_,k⟩ | ⟨h,_⟩ | ⟨h,_⟩ | ⟨h,_⟩ | ⟨h,_⟩
   ·exact⟨aT (ao Zd),k G1 t1⟩
   all_goals exact absurd hk h
  rw[zw hk];bv_omega;show nn _ _ _;cbv;refine pW (fun σ G=>σ=[some (V.ref b),some (V.ref t),some y,some (V.ref f)]/\ax H G/\((y=.int n/\∀ H',ax H H'->Q (.int n) H')∨(y=.non/\km (es.map (·.num)) bar n/\((n<bX al ws/\∀ H',ax H H'->Q (.int n) H')∨(bX al ws<=n/\∀ H',ax H H'->E (.ref Ad.TooMany) none H'))))) ?_ ?_
  ·rintro σ G2 ⟨rfl,t2,hz⟩;have B2:=B.same t2;obtain⟨dx2,h12⟩:=B2.bk;grind;refine⟨_,dx2,_,_,h12,AF.c_Book,AF.n_Book_by_number,gz ca dn de,?_⟩;symm;refine⟨_,.inl B2.hn,?_⟩;symm;rw[qk,ay (show ¬ (300:Int)<=(es.length:Int) by left)];bv_omega;show nn _ _ _;cbv;rcases hz with ⟨rfl,k⟩ | ⟨rfl,Lf,k⟩
   ·symm;exact k G2 t2
   ·symm;refine⟨dx2,_,h12,bJ Zd Zd Zd ca dn de,trivial,lam.same t2,b,ca,dn,de,f,es,al,ws,r,n,bar,rfl,B2,C.same t2,ok,Fb.same t2,Lf,k.imp (fun ⟨u,k⟩=>⟨u,fun G3 t3=>k G3 (t2.trans t3)⟩) fun ⟨u,k⟩=>⟨u,fun G3 t3=>k G3 (t2.trans t3)⟩⟩
  ·intro U hU;have em:(al.length:Int)^(ws.length-1)=bX al ws:=rfl;rcases ks with ⟨h,_⟩ | ks
   ·exact absurd h hk
   by_cases hy:y=.int n
   ·subst hy;obtain⟨n0,n1,kk⟩:0<=n/\n<bX al ws/\((n∉es.map (·.num)/\bar n=false/\∀ H',ax H H'->Q (.int n) H')∨((n∈es.map (·.num)∨bar n=true)/\∀ H',ax H H'->E (.ref Ad.NoNumber) none H')):=by
     rcases ks with ⟨_,_,a,b,c,d,e⟩ | ⟨_,_,a,b,c,d⟩ | ⟨_,e,_⟩ | ⟨_,e,_⟩
     ·exact⟨a,b,.inl ⟨c,d,e⟩⟩
     ·exact⟨a,b,.inr ⟨c,d⟩⟩
     ·cases e
     ·cases e
    have C1:=C.same t1;obtain⟨dc,qc,hc1,hc2⟩:=id C1;symm;refine dY fun n2 hM=>?_;symm;refine⟨_,dx1,_,_,h11,AF.c_Book,AF.n_Book_basis,jT ca dn de,?_⟩;refine⟨dc,_,hc1,cZ Zd Zd Zd al qc r,ca,al,ws,r,rfl,C1,ok.a26,by have:=ok.w3;left,ok.w8,fun G2 t2=>?_⟩;refine⟨_,.int,_,rfl,rfl,?_⟩;rw[zo (b:=(al.length:Int)^(ws.length-1)) n0 n1];symm;rw[hM];clear hM n2;have t02:=t1.trans t2;have B2:=B.same t02;obtain⟨dx2,h12⟩:=B2.bk;symm;refine⟨_,dx2,_,_,h12,AF.c_Book,AF.n_Book_by_number,gz ca dn de,?_⟩;refine .inr ⟨_,.inl ⟨_,.inl n,.inl B2.hn,rfl,rfl⟩,?_⟩;rw[Ae B.nn]
    by_cases hm:n∈es.map (·.num)
    ·rw[ar hm,ai rfl];rcases kk with ⟨a,_⟩ | ⟨_,k⟩
     ·exact absurd hm a
     ·exact⟨aT (ao Zd),k G2 t02⟩
    ·rw[ay hm,af (by decide)];refine⟨trivial,lam.same t02,lam.same t02,trivial,Fb.same t02 n G2 _ (ax.refl _) fun G3 t3=>⟨_,rfl,?_⟩⟩;rcases kk with ⟨_,b,k⟩ | ⟨a,k⟩
     ·rw[b,af (by decide)];exact hU _ _ ⟨rfl,t02.trans t3,.inl ⟨rfl,k⟩⟩
     ·rw[a.resolve_left hm,ai rfl];exact⟨aT (ao Zd),k G3 (t02.trans t3)⟩
   ·obtain⟨rfl,Lf,kk⟩:y=.non/\km (es.map (·.num)) bar n/\((n<bX al ws/\∀ H',ax H H'->Q (.int n) H')∨(bX al ws<=n/\∀ H',ax H H'->E (.ref Ad.TooMany) none H')):=by
     rcases ks with ⟨_,e,_⟩ | ⟨_,e,_⟩ | ⟨_,a,b,c,d⟩ | ⟨_,a,b,c,d⟩
     ·exact absurd e hy
     ·exact absurd e hy
     ·exact⟨a,b,.inl ⟨c,d⟩⟩
     ·exact⟨a,b,.inr ⟨c,d⟩⟩
    symm;exact hU _ _ ⟨rfl,t1,.inr ⟨rfl,Lf,kk⟩⟩
def EJ (h:jy xs=true):∃ key:List Key,xs=key.map kV:=by
 cases xs with
 | nil=>cases h
 | cons a r =>
  cases a with
  | str z =>
   cases r with
   | nil=>exact⟨[.inr z],rfl⟩
   | cons y r2 =>
    cases r2 with
    | cons _ _=>cases h
    | nil =>
     have h':(if z=("phrase":Str) then jS 6 y else if z=("part":Str) then i7 6 y else false)=true:=h;cases y with
     | str y=>exact⟨[.inr z,.inr y],rfl⟩
     | _ =>
      exfalso;split at h'
      ·cases h'
      ·split at h'
       ·cases h'
       ·cases h'
  | _=>cases h
inductive fH (Ad:Ads) (vs:List V) (H:Hp) (Q:VK) (E:XK):Prop
 | mk (b ca dn de:Addr) (es:List Ben) (x:V) (t:Tg) (q0:vs=[.ref b,x]) (q1:cq Ad H b ca dn de es) (q2:fT H x=some t) (q3:(∀ p xs,x=.ref p->H p=some (.tup xs)->xs.length<=1000/\∀ y∈xs,(∃ t,fT H y=some t)/\∀ z,y=.str z->z.length<=10000)) (q4:(rL H x=false->∀ H',ax H H'->Q .non H')) (q5:(∀ p key,x=.ref p->H p=some (.tup (key.map kV))->jy (key.map kV)=true->(∀ e∈es,e.key=key->∀ H',ax H H'->Q (.int e.num) H')/\(key∉es.map (·.key)->∀ H',ax H H'->Q .non H'))):fH Ad vs H Q E
def uU:aI ["self","entry"] ["self","entry"] (av ky):=by subst_eqs
def uF (F:Fun K "number" "Book.number" ky f fd) (T:Bl mg) (AF:AdF K mg Ad) (C_is_entry:Fnc P w K mg base (CX1 P w) 3 "is_entry" ["thing"] n4):bS P w K mg base (CX1 P w) 4 f fd ["self","entry"] (fH Ad):=by
 refine F.okX (k:=3) uU ?_ ?_
 ·bv_decide
 ·right;obtain⟨b,ca,dn,de,es,x,t,rfl,B,ht,hx,k1,k2⟩:=h;refine⟨_,ae (bC (c9 (cb (aG C_is_entry aw (hr.mono Zd) (ah (pvL 1) (aa))))) (aj (aH (dW))) (aQ)) (aj (aH (rX hu1 (b8 (K:=K) rfl (pvL 0)) (pvL 1)))),?_⟩;grind;refine⟨x,t,rfl,ht,hx,fun H1 s1=>⟨_,rfl,?_⟩⟩;cases hv:rL H x with
  | false =>bv_omega;exact k1 hv H1 s1
  | true =>
   bv_omega;show nn _ _ _;cbv;cases x with
   | ref p =>
    have hv':(match H p with | some (.tup xs)=>jy xs | _=>false)=true:=hv;cases hp:H p with
    | none=>rw[hp] at hv';cases hv'
    | some o =>
     rw[hp] at hv';cases o with
     | tup xs =>
      obtain⟨key,rfl⟩:=EJ hv';obtain⟨q1,q2⟩:=k2 p key rfl hp hv';have B1:=B.same s1;obtain⟨dx1,h11⟩:=B1.bk;symm;refine⟨_,dx1,_,_,h11,AF.c_Book,AF.n_Book_by_entry,oy ca dn de,de,rfl,.inr ⟨_,.inl B1.he⟩,_,oN.t (k:=key) B1.he (s1 _ _ hp),?_⟩
      by_cases hm:key∈es.map (·.key)
      ·obtain⟨e,he,ee⟩:=aD.mp hm;rw[←ee,Bg B.nk he];exact q1 e he ee H1 s1
      ·rw[zw hm];exact q2 hm H1 s1
     | _=>cases hv'
   | _=>cases hv
inductive cN (Ad:Ads) (vs:List V) (H:Hp) (Q:VK) (E:XK):Prop
 | mk (ed dx b cl sd:Addr) (l0 d:Int) (q0:vs=[.ref ed,.int d]) (q1:H ed=some (.ins Ad.Editions dx (edF b cl sd l0))) (q2:0<=d) (q3:d<=1000000000) (q4:((l0<=d/\Q .non H)∨(d<l0/\E (.ref Ad.NoDay) none H))):cN Ad vs H Q E
def kF:aI ["self","day"] ["self","day"] (av eE):=by subst_eqs
def kx (F:Fun K "check_change" "Editions.check_change" eE f fd) (T:Bl mg) (AF:AdF K mg Ad) (C_is_day:Fnc P w K mg base (CX1 P w) 3 "is_day" ["thing"] sA):bS P w K mg base (CX1 P w) 4 f fd ["self","day"] (cN Ad):=by
 refine F.okX (k:=3) kF ?_ ?_
 ·bv_decide
 ·right;obtain⟨ed,dx,b,cl,sd,l0,d,rfl,h1,d0,d1,k⟩:=h;refine⟨_,aj (bC ((jd (c9 (cb (aG C_is_day aw (hr.mono Zd) (ah (pvL 1) (aa))))) (gx (aP ph (pvL 1) (b8 (K:=K) rfl (pvL 0)) (aU _)))).pt) (aj (cJ cK AF.q_NoDay AF.g_NoDay cy rfl (ah (aO) (aa)))) (aQ)),?_⟩;symm;refine⟨_,.int,rfl,rfl,?_⟩;have e:bU 1000000001 (.int d)=true:=by
   show (decide (0<=d)&&decide (d<1000000001))=true;rw[ar d0,ar (show d<1000000001 by left)];rfl
  rw[e];symm;refine⟨_,dx,_,_,h1,AF.c_Editions,AF.n_Editions_latest,rfl,?_⟩;symm;rcases k with ⟨a,k⟩ | ⟨a,k⟩
  ·rw[ay (show ¬ d<l0 by left),af (by decide)];exact k
  ·rw[ar a,ai rfl];exact⟨aT (ao Zd),k⟩
inductive qJ (Ad:Ads) (vs:List V) (H:Hp) (Q:VK) (E:XK):Prop
 | mk (b ca dn de:Addr) (es:List Ben) (al:Za) (ws:Zb) (r:Int) (q0:vs=[.ref b]) (q1:cq Ad H b ca dn de es) (q2:dq Ad H ca al ws r) (q3:cO al ws r) (q4:es.length<64) (q5:(∀ e∈es,eu e.key/\0<=e.num/\e.num<bX al ws)) (q6:∀ ms H',ms.Perm es->(ms.map (·.num)).Pairwise (·<·)->ax H H'->Q (.str (tx (pS al ws r ms))) H'):qJ Ad vs H Q E
def uZ:aI ["book","code","rows"] ["book"] (av xD):=by subst_eqs
def FT (F:Fun K "shown" "shown" xD f fd) (T:Bl mg) (AF:AdF K mg Ad) (C_code_row:Fnc P w K mg base (CX1 P w) 2 "code_row" ["code"] (tD Ad)) (C_entry_row:Fnc P w K mg base (CX1 P w) 1 "entry_row" ["word","entry"] qH) (M_Book_entries:Mtd P w K mg base (CX1 P w) Ad.Book "entries" 1 ["self"] (fg Ad)) (M_Code_word:Mtd P w K mg base (CX1 P w) Ad.Code "word" 3 ["self","k"] (mr Ad)) (M_Book_code:pP P w K mg base (CX1 P w) Ad.Book "code" 1 ["self"] (eX Ad)):bS P w K mg base (CX1 P w) 4 f fd ["book"] (qJ Ad):=by
 refine F.okX (k:=3) uZ ?_ ?_
 ·bv_decide
 ·right;obtain⟨b,ca,dn,de,es,al,ws,r,rfl,B,C,ok,l64,hes,k⟩:=h;refine⟨_,ae (ji (i:=1) uZ.nd (cT M_Book_code.mtd aw (hr.mono Zd) (pvL 0))) (ae (j6 (i:=2) ["number","entry"] uZ.nd rfl (Or.inl rfl) rfl ⟨rfl,by nofun,rfl,by nofun⟩ (.cons (j:=1) rfl (.inl (by ext)) (.nil)) (by nofun) (cE (K:=K) rfl (cT M_Book_entries aw (hr.mono Zd) (pvL 0))) (fun _ _ _ _=>jg (K:=K) (n:=2) rfl rfl (aY (aC (i:=0) (show (["number","entry","code"]:Ze).Nodup from by nofun)) (aY (aC (i:=1) (show (["number","entry","code"]:Ze).Nodup from by nofun)) (eT)))) (fun _ _ _ _=>dv) (fun _ _ _ _=>aG C_entry_row gO (hr.mono Zd) (ah (bZ M_Code_word gO (hr.mono Zd) (pvC 2) (ah (pvL 0) (aa))) (ah (pvL 1) (aa))))) (aj (aH (eD (K:=K) rfl gj rk rq (qi (K:=K) rfl) (aO) (ah (aR br (bR (ah (aG C_code_row aw (hr.mono Zd) (ah (pvC 1) (aa))) (aa))) (pvL 2)) (aa)))))),?_⟩;obtain⟨dx,hb⟩:=B.bk;grind;refine⟨dx,_,hb,bJ Zd Zd Zd ca dn de,b,ca,dn,de,es,rfl,B,?_⟩;cbv;grind;refine⟨dx,_,hb,bJ Zd Zd Zd ca dn de,b,ca,dn,de,es,rfl,B,l64,fun D vs ms H1 hD s1 g1 mp ml hp=>?_⟩;symm;have lm:=mp.length_eq;have hms:∀ m∈ms,eu m.key/\0<=m.num/\m.num<bX al ws:=fun m hm=>hes m (mp.mem_iff.mp hm);have lv:vs.length=ms.length:=Paired.length hp;have C1:=C.same s1;obtain⟨dc,qc,hc1,hc2⟩:=id C1;refine .inl ⟨⟨_,.of g1⟩,yx (fX (.of g1)) (ao (by left)) (fun i=>V.int (ms.getD i ⟨0,[],0⟩).num) (fun i=>V.ref (ms.getD i ⟨0,[],0⟩).adr) (fun i=>V.str (tx (mD al ws r (ms.getD i ⟨0,[],0⟩)))) (fun _=>true) ?_ ?_ ?_ ?_⟩
  ·intro i v hv;obtain⟨m,hm,p,e,h2⟩:=dz hp hv;rw[cp,hm];exact⟨p,e,h2⟩
  ·intro i _ H2 s2 R hR;exact hR H2 (ax.refl _)
  ·intro i hi _ H2 s2 R hR;obtain⟨m,hm⟩:∃ m,ms[i]?=some m:=⟨_,b9 (by left)⟩;have hmm:=hms m (bw hm);have ea:H m.adr=some (.tup (m.key.map kV)):=B.en m (mp.mem_iff.mp (bw hm));rw[show ms.getD i ⟨0,[],0⟩=m from by rw[cp,hm];rfl] at hR ⊢;symm;refine⟨dc,_,s2 _ _ hc1,cZ Zd Zd Zd al qc r,ca,al,ws,r,_,.int,rfl,C1.same s2,ok,rfl,(fun h=>by rw[show bU ((al.length:Int)^(ws.length-1)) (V.int m.num)=true from rD hmm.2.1 hmm.2.2] at h;cases h),fun n e n0 n1 H3 s3=>?_⟩;cases e;refine⟨wdL al ws r m.num,m.adr,m.key,rfl,s3 _ _ (s2 _ _ (s1 _ _ ea)),hmm.1,by rw[(BX ok hmm.2.1 hmm.2.2).1];have:=ok.w8;left,fun H4 s4=>hR H4 (s3.trans s4)⟩
  intro D2 H2 hD2 s2 g2;cbv;have e2:((List.range vs.length).filter fun _=>true).map (fun i=>V.str (tx (mD al ws r (ms.getD i ⟨0,[],0⟩))))=(ms.map (mD al ws r)).map fun l=>V.str (tx l):=by
   rw[nO.mpr fun _ _=>rfl,aX];apply List.ext_getElem?;intro i;rw[bt,bt]
   by_cases hi:i<ms.length
   ·rw[qR (by left),b9 hi];simp [hi]
   ·rw[lB (by simp;left),lB (by left)];rfl
  rw[e2] at g2;have s02:=s1.trans s2;symm;refine⟨rfl,ca,al,ws,r,rfl,C.same s02,ok,fun H3 s3=>⟨aT (ao Zd),fun p4 H4 hp4 s4 g4=>⟨_,_,g4,(s3.trans s4) _ _ g2,?_,fun p5 H5 hp5 s5 g5=>?_⟩⟩⟩
  ·simp only[ak,aN,cf];exact aT (ao (by left))
  have e10:Str.ofString "\n"=tx [10]:=rfl;refine⟨(ja al ws r::ms.map (mD al ws r)).map tx,.of (by rw[g5];simp [Function.comp_def]),?_,?_⟩
  ·have h1:=GK (ls:=ja al ws r::ms.map (mD al ws r)) (n:=138) fun l hl=>by
    rcases aJ.mp hl with rfl | hl
    ·have:=rH ok;left
    ·obtain⟨m,hm,rfl⟩:=aD.mp hl;exact uk ok (hms m hm)
   rw[aX,show (fun x:Str=>x.length) ∘ tx=fun l:Za=>l.length from funext bM,e10,ak];simp only[aN,ak] at h1 ⊢;rw[show (tx [10]).length=1 from rfl];left
  rw[e10,wq];exact k ms H5 mp ml (s02.trans (s3.trans (s4.trans s5)))
def Bt [DecidableEq κ] {es:List Ben}{f:Ben->κ}{g:Ben->V}{k:κ}:mP (es.map fun e=>(f e,g e)) k=(es.filter fun e=>decide (f e≠k)).map fun e=>(f e,g e):=by unfold mP;rw[nQ];rfl
def IU (es:List Ben) (n:Int):mP (fu es) (.inl n)=fu (es.filter fun e=>decide (e.num≠n)):=by
 rw[lX,lX,Bt]
 congr 1
 refine List.filter_congr fun e _=>?_;rw[iP];exact⟨fun h z=>h (by rw[z]),fun h z=>h (Sum.inl.inj z)⟩
def IT (es:List Ben) (k:List Key):mP (mC es) k=mC (es.filter fun e=>decide (e.key≠k)):=by unfold mC;rw[Bt]
def IK {es:List Ben}{e:Ben} (h1:(es.map (·.num)).Nodup) (h2:(es.map (·.key)).Nodup) (he:e∈es):es.filter (fun x=>decide (x.num≠e.num))=es.filter fun x=>decide (x.key≠e.key):=by
 refine List.filter_congr fun x hx=>?_;rw[iP];refine not_congr ⟨fun h=>?_,fun h=>?_⟩
 ·rw[ku h1 hx he h]
 ·rw[ku h2 hx he h]
inductive gX (Ad:Ads) (vs:List V) (H:Hp) (Q:VK) (E:XK):Prop
 | mk (b ca dn de p:Addr) (es:List Ben) (key0:List Key) (q0:vs=[.ref b,.ref p]) (q1:cq Ad H b ca dn de es) (q2:H p=some (.tup (key0.map kV))) (q3:eu key0) (q4:(∀ e∈es,e.key=key0->∀ H',(∀ c o,c≠dn->c≠de->H c=some o->H' c=some o)->cq Ad H' b ca dn de (es.filter fun x=>decide (x.num≠e.num))->Q (.int e.num) H')) (q5:(key0∉es.map (·.key)->∀ H',ax H H'->E (.ref Ad.NoEntry) none H')):gX Ad vs H Q E
def nv:aI ["self","entry","freed"] ["self","entry"] (av kz):=by subst_eqs
def uG (F:Fun K "strike" "Book.strike" kz f fd) (T:Bl mg) (AF:AdF K mg Ad) (M_Book_number:Mtd P w K mg base (CX1 P w) Ad.Book "number" 4 ["self","entry"] (fH Ad)):bS P w K mg base (CX1 P w) 5 f fd ["self","entry"] (gX Ad):=by
 refine F.okX (k:=4) nv ?_ (fun cdv A outer s H vs Q E hr h=>?_)
 ·bv_decide
 ·obtain⟨b,ca,dn,de,p,es,key0,rfl,B,hp,ok,k,kn⟩:=h;obtain⟨dx,h1⟩:=B.bk;have hu:=hr.fJ;have hu1:=jW hr;refine⟨_,ae (aF (i:=2) nv.nd (bZ M_Book_number aw (hr.mono Zd) (pvL 0) (ah (pvL 1) (aa)))) (ae (bC (aP uO (pvL 2) (dW) (aU _)) (aj (cJ cK AF.q_NoEntry AF.g_NoEntry cy rfl (ah (aO) (aa)))) (aQ)) (ae (dF (eD (K:=K) rfl lG rj rp (II hu1) (b8 (K:=K) rfl (pvL 0)) (ah (pvL 1) (aa)))) (ae (dF (eD (K:=K) rfl lG rj rp wV (b8 (K:=K) rfl (pvL 0)) (ah (pvL 2) (aa)))) (aj (aH (pvL 2)))))),?_⟩;grind;refine⟨dx,_,h1,bJ Zd Zd Zd ca dn de,b,ca,dn,de,es,.ref p,.tup,rfl,B,by show mF (H p)=_;rw[hp];rfl,fun q xs e1 e2=>?_,fun hv=>?_,fun q key e1 e2 e3=>⟨fun e' he' ek H1 s1=>?_,fun hno=>?_⟩⟩
  ·cases e1
   rw[hp] at e2;cases e2;refine⟨by rw[ak];have:=ok.few;left,fun y hy=>⟨?_,fun z ez=>ok.short z (by rw[←ez];exact hy)⟩⟩;obtain⟨x,_,rfl⟩:=aD.mp hy;cases x with
   | inl i=>exact⟨.int,rfl⟩
   | inr i=>exact⟨.str,rfl⟩
  ·rw[pZ hp ok] at hv;cases hv
  ·cases e1
   rw[hp] at e2;have ekk:key0.map kV=key.map kV:=by injection e2 with e2;injection e2
   have ek2:key0=e'.key:=by rw[oC ekk,ek]
   subst ek2;have he:=he';have B1:=B.same s1;obtain⟨dx1,h11⟩:=B1.bk;cbv;grind;show nn _ _ _;cbv;grind;have dne:dn≠de:=fun e=>by have:=B1.hn;rw[e,B1.he] at this;cases this
   have pne:p≠de:=fun e=>by have:=B1.he;rw[←e,s1 _ _ hp] at this;cases this
   have bne:b≠de:=fun e=>by rw[e,B1.he] at h11;cases h11
   have bnn:b≠dn:=fun e=>by rw[e,B1.hn] at h11;cases h11
   refine⟨_,dx1,_,_,h11,AF.c_Book,AF.n_Book_by_entry,oy ca dn de,.inr (.inr (.inl ⟨rfl,.inr ⟨_,B1.he⟩⟩)),?_⟩;symm;refine⟨_,e'.key,_,B1.he,s1 _ _ hp,Bg B.nk he,?_⟩;cbv;grind;refine⟨_,dx1,_,_,by rw[az bne];exact h11,AF.c_Book,AF.n_Book_by_number,gz ca dn de,.inr (.inr (.inl ⟨rfl,.inl ⟨_,by rw[az dne];exact B1.hn⟩⟩)),?_⟩;symm;refine⟨_,.inl e'.num,_,by rw[az dne];exact B1.hn,rfl,jX B.nn he,?_⟩;cbv;symm;rw[IU,IT,←IK B.nn B.nk he];refine k e' he rfl _ (fun c o c1 c2 ec=>by rw[az c1,az c2];exact s1 _ _ ec) ⟨⟨dx1,by rw[az bnn,az bne];exact h11⟩,aB,by rw[az (cI dne)];exact aB,fun u hu=>?_,lr (lu _ lz) B.nn,lr (lu _ lz) B.nk⟩;have hu1:=B1.en u (gd.mp hu).1;have u1:u.adr≠dn:=fun e=>by rw[e,B1.hn] at hu1;cases hu1
   have u2:u.adr≠de:=fun e=>by rw[e,B1.he] at hu1;cases hu1
   rw[az u1,az u2];exact hu1
  ·cases e1
   rw[hp] at e2;have ekk:key0.map kV=key.map kV:=by injection e2 with e2;injection e2
   intro H1 s1;cbv;grind;exact⟨aT (ao Zd),kn (by rw[oC ekk];exact hno) H1 s1⟩
def ID (z:Key):FE (kV z)=true:=by cases z<;>rfl
def F6 {K:Zf}{n:Nat} (i:Nat) (x y:V) (a1:(key.map kV)[i]?=some x) (a2:(key.map kV)[i]?=some y):EqR K H n x y true:=by rw[a1] at a2;cases a2;obtain⟨z,_,rfl⟩:=aD.mp (bw a1);exact .same (ID z)
def Ei (n:Nat):((List.range n).all fun _=>true)=true:=bP.mpr fun _ _=>rfl
def MS {K:Zf}{p q:Addr} (h1:H p=some (.tup (key.map kV))) (h2:H q=some (.tup (key.map kV))):RcR K H 0 (.ref p) (.ref q) true:=⟨p,q,rfl,rfl,.inr ⟨_,_,.of h1,.of h2,fun _=>true,F6,by rw[Ei,dQ,oq]⟩⟩
def LI {K:Zf}{n:Nat}{p q:Addr} (h1:H p=some (.tup (key.map kV))) (h2:H q=some (.tup (key.map kV))):EqR K H (n+1) (.ref p) (.ref q) true:=by
 by_cases e:p=q
 ·subst e;exact .same rfl
 ·have:=EqR.tup (K:=K) (H:=H) (n:=n) (fun _=>true) e (.of h1) (.of h2) F6
  rwa [Ei,dQ,oq] at this
def EK {K:Zf}{D1 D2:Addr}{ws1 ws2:List V}{ms1 ms2:List Ben} (g1:H D1=some (.lst ws1)) (g2:H D2=some (.lst ws2)) (P1:Paired (fun v (m:Ben)=>∃ p,v=V.ref p/\H p=some (.tup [.int m.num,.ref m.adr])) ws1 ms1)
  (P2:Paired (fun v (m:Ben)=>∃ p,v=V.ref p/\H p=some (.tup [.int m.num,.ref m.adr])) ws2 ms2) (hn:ms1.map nk=ms2.map nk) (h1:∀ m∈ms1,H m.adr=some (.tup (m.key.map kV))) (h2:∀ m∈ms2,H m.adr=some (.tup (m.key.map kV))):RcR K H 2 (.ref D1) (.ref D2) true:=by
 have hl:ms1.length=ms2.length:=by have:=aV List.length hn;rwa [ak,ak] at this
 refine⟨D1,D2,rfl,rfl,.inl ⟨ws1,ws2,.of g1,.of g2,.inr ⟨(Paired.length P1).trans (hl.trans (Paired.length P2).symm),fun _=>true,fun i x y e1 e2=>?_,(Ei _).symm⟩⟩⟩;obtain⟨m1,f1,p1,rfl,q1⟩:=dz P1 e1;obtain⟨m2,f2,p2,rfl,q2⟩:=dz P2 e2;have z:=aV (·[i]?) hn;simp only[bt,f1,f2,nZ,Option.some.injEq] at z;have n1:m1.num=m2.num:=aV Prod.fst z;have n2:m1.key=m2.key:=aV Prod.snd z;have a1:=h1 m1 (bw f1);have a2:=h2 m2 (bw f2);rw[n2] at a1;rw[n1] at q1
 by_cases e:p1=p2
 ·subst e;exact .same rfl
 ·refine EqR.tup (K:=K) (H:=H) (n:=1) (fun _=>true) e (.of q1) (.of q2) (fun j u v b1 b2=>?_)
  match j,b1,b2 with
  | 0,b1,b2=>cases b1;cases b2;exact .same rfl
  | 1,b1,b2=>cases b1;cases b2;exact LI a1 a2
inductive gY (K:Zf) (Ad:Ads) (vs:List V) (H:Hp) (Q:VK) (E:XK):Prop
 | mk (b ca dn de D:Addr) (es ms:List Ben) (ws1:List V) (al:Za) (ws:Zb) (r:Int) (q0:vs=[.ref b,.ref D]) (q1:cq Ad H b ca dn de es) (q2:dq Ad H ca al ws r) (q3:cO al ws r) (q4:es.length<64) (q5:(∀ e∈es,eu e.key/\0<=e.num/\e.num<bX al ws)) (q6:H D=some (.lst ws1)) (q7:Paired (fun v (m:Ben)=>∃ p,v=V.ref p/\H p=some (.tup [.int m.num,.ref m.adr])) ws1 ms) (q8:(∀ m∈ms,H m.adr=some (.tup (m.key.map kV)))) (q9:(ms.map (·.num)).Pairwise (·<·)) (q10:(ms.map nk).Perm (es.map nk)) (q11:∀ H',ax H H'->Q (.bl true) H'):gY K Ad vs H Q E
def gU:aI ["_law_book","_law_due_here","_law_number","_law_entry"] ["_law_book","_law_due_here"] (av iy):=by subst_eqs
def qo (F:Fun K "_law_is_edition" "_law_is_edition" iy f fd) (T:Bl mg) (AF:AdF K mg Ad) (M_Book_number:Mtd P w K mg base (CX1 P w) Ad.Book "number" 4 ["self","entry"] (fH Ad)) (M_Book_entry:Mtd P w K mg base (CX1 P w) Ad.Book "entry" 3 ["self","number"] (iA Ad)) (M_Book_entries:Mtd P w K mg base (CX1 P w) Ad.Book "entries" 1 ["self"] (fg Ad)):bS P w K mg base (CX1 P w) 5 f fd ["_law_book","_law_due_here"] (gY K Ad):=by
 refine F.okX (k:=4) gU ?_ ?_
 ·bv_decide
 ·right;obtain⟨b,ca,dn,de,D,es,ms,ws1,al,ws,r,rfl,B,C,ok,l64,hes,gD,P1,hm,up,pm,k⟩:=h;have hu9:=hr.hu9;refine⟨_,ae (bC (aP (xq (K:=K) rfl hu9) (cT M_Book_entries aw (hr.mono Zd) (pvL 0)) (pvL 1) (aU _)) (aj (aH (gP))) (aQ)) (ae (iT dD rfl (cE (K:=K) rfl (pvL 1)) (jg (K:=K) (n:=2) rfl rfl (aY (aC (i:=2) gU.nd) (aY (aC (i:=3) gU.nd) (eT)))) (aj (bC ((jd (aP (xq (K:=K) rfl hu9) (bZ M_Book_entry aw (hr.mono Zd) (pvL 0) (ah (pvL 2) (aa))) (pvL 3) (aU _)) (gx (aP (iu (K:=K) rfl hu) (bZ M_Book_number aw (hr.mono Zd) (pvL 0) (ah (pvL 3) (aa))) (pvL 2) (aU _)))).pt) (aj (aH (gP))) (aQ)))) (aj (aH (gP)))),?_⟩;obtain⟨dx,hb⟩:=B.bk;have ef:∀ l:List Ben,(l.map nk).map (·.1)=l.map (·.num):=fun l=>by rw[aX];rfl
  grind;refine⟨dx,_,hb,bJ Zd Zd Zd ca dn de,b,ca,dn,de,es,rfl,B,l64,fun D1 ws2 ms2 H1 hD1 s1 g1 mp ml P2=>?_⟩;have e1:ms2.map nk=ms.map nk:=wR ((mp.map nk).trans pm.symm) (by rw[ef];exact ml) (by rw[ef];exact up);refine⟨2,true,Zd,EK g1 (s1 _ _ gD) P2 (gB (fun v m ⟨p,e,h⟩=>⟨p,e,s1 _ _ h⟩) P1) e1 (fun m h=>s1 _ _ (B.en m (mp.mem_iff.mp h))) (fun m h=>s1 _ _ (hm m h)),?_⟩;rw[af (by decide),hN];clear hN nn;grind;refine .inl ⟨⟨_,.of (s1 _ _ gD)⟩,jw (xs:=ws1) (fun _ σ G=>(∃ o2 o3,σ=[some (V.ref b),some (V.ref D),o2,o3])/\ax H G) ?_ ?_ ?_ ?_⟩
  ·exact⟨⟨_,_,rfl⟩,s1⟩
  ·rintro _ σ G _ ⟨_,sG⟩;exact .of (sG _ _ gD)
  ·rintro j v σ G hj ⟨⟨o2,o3,rfl⟩,sG⟩ N hNx;clear hN;obtain⟨m,hmj,p,rfl,hp⟩:=dz P1 hj;have hmm:=bw hmj;obtain⟨e,he,ee⟩:=aD.mp (pm.mem_iff.mp (aD.mpr ⟨m,hmm,rfl⟩));have en:e.num=m.num:=aV Prod.fst ee;have ek:e.key=m.key:=aV Prod.snd ee;have hee:=hes e he;refine⟨p,_,rfl,SqT.of (sG _ _ hp),rfl,?_⟩;symm;have BG:=B.same sG;obtain⟨dx1,hb1⟩:=BG.bk;refine⟨dx1,_,hb1,bJ Zd Zd Zd ca dn de,b,ca,dn,de,es,al,ws,r,.int m.num,.int,rfl,BG,C.same sG,ok,rfl,(fun h=>by rw[rD (by left) (by left)] at h;cases h),(fun n e0 _ _ hn=>by cases e0;exact absurd (aD.mpr ⟨e,he,en⟩) hn),fun n e0 _ _ x hx ex G1 t1=>?_⟩;cases e0;have exe:x=e:=ku B.nn hx he (by rw[ex,en]);subst exe;have sG1:=sG.trans t1;have hmG:=sG1 _ _ (hm m hmm);refine⟨0,true,Zd,MS (key:=m.key) (by rw[←ek];exact sG1 _ _ (B.en x he)) hmG,?_⟩;rw[af (by decide)];have eo:eu m.key:=by rw[←ek];exact hee.1
   have B1:=B.same sG1;obtain⟨dx2,hb2⟩:=B1.bk;obtain⟨tt1,tt2⟩:=wH hmG eo;refine⟨dx2,_,hb2,bJ Zd Zd Zd ca dn de,b,ca,dn,de,es,.ref m.adr,.tup,rfl,B1,tt1,tt2,(fun hv=>by rw[pZ hmG eo] at hv;cases hv),fun q' key e1 e2 e3=>?_⟩;cases e1;have ekk:m.key=key:=oC (by rw[hmG] at e2;injection e2 with e2;injection e2);subst ekk;refine⟨fun u hu eku G2 t2=>?_,fun hno=>absurd (aD.mpr ⟨x,he,ek⟩) hno⟩;have hux:u=x:=ku B.nk hu he (by rw[eku,ek]);subst hux;symm;rw[en,af (by simp)];exact hNx _ _ ⟨⟨_,_,rfl⟩,sG1.trans t2⟩
  rintro σ G ⟨⟨o2,o3,rfl⟩,sG⟩;show nn _ _ _;cbv;symm;exact k G sG
inductive eR (Ad:Ads) (vs:List V) (H:Hp) (Q:VK) (E:XK):Prop
 | mk (b ca dn de t:Addr) (es:List Ben) (al:Za) (ws:Zb) (r n:Int) (key:List Key) (y:V) (q0:vs=[.ref b,.ref t,y]) (q1:cq Ad H b ca dn de es) (q2:dq Ad H ca al ws r) (q3:cO al ws r) (q4:H Ad.tb=some (jG vw)) (q5:H t=some (.tup (key.map kV))) (q6:eu key) (q7:key∉es.map (·.key)) (q8:es.length<300) (q9:((0<=n/\n<bX al ws/\n∉es.map (·.num)/\y=.int n/\∀ H',(∀ c o,c≠dn->c≠de->H c=some o->H' c=some o)->cq Ad H' b ca dn de (es++[⟨n,key,t⟩])->Q (.int n) H')∨(y=.non/\km (es.map (·.num)) (fun _=>false) n/\(n<bX al ws->∀ H',(∀ c o,c≠dn->c≠de->H c=some o->H' c=some o)->cq Ad H' b ca dn de (es++[⟨n,key,t⟩])->Q (.int n) H')/\(bX al ws<=n->∀ H',ax H H'->E (.ref Ad.TooMany) none H')))):eR Ad vs H Q E
def sZ:aI ["self","entry","number","given"] ["self","entry","number"] (av da):=by subst_eqs
def sT (F:Eb K "put" "Book.put" da f fd) (T:Bl mg) (AF:AdF K mg Ad) (CD:fd.code=.ref Ad.cd) (M_Book_choose:uc P w K mg base (CX1 P w) Ad.Book "choose" 4 1 ["self","entry","number","is_barred"] (dA Ad)):bS P w K mg base (CX1 P w) 6 f fd ["self","entry","number"] (eR Ad):=by
 refine F.okT (k:=5) CD sZ ?_ (fun A outer s H vs Q E hr h=>?_)
 ·bv_decide
 ·obtain⟨b,ca,dn,de,t,es,al,ws,r,n,key,y,rfl,B,C,ok,Tb,ht,eo,hk,h300,ks⟩:=h;obtain⟨dx,h1⟩:=B.bk;have hu:=hr.fJ;have hu1:=jW hr;refine⟨_,ae (aF (i:=3) sZ.nd (vY (k:=0) (ps:=["k"]) (fr:=[]) (js:=[]) (q:=vw) M_Book_choose rfl rfl aw (hr.mono Zd) (pvL 0) (pvL 1) (pvL 2) rfl AF.t_tab (by ext) rfl (.nil) (fun _ _ _=>L2.bind1 fun _=>rfl) (fun _ _ _ _ _ _ hr=>gP) (by nofun) (by nofun))) (ae (j4 hu1 (b8 (K:=K) rfl (pvL 0)) (pvL 3) (pvL 1)) (ae (j4 hu1 (b8 (K:=K) rfl (pvL 0)) (pvL 1) (pvL 3)) (aj (aH (pvL 3))))),?_⟩;grind;refine⟨dx,_,h1,bJ Zd Zd Zd ca dn de,Tb,fun f G1 z1 t1 _=>?_⟩;have ch:∀ {spf:Sp}{Q':VK},Bar spf (fun _=>false) G1->(∀ G2,ax G1 G2->n∉es.map (·.num)->(∀ H',(∀ c o,c≠dn->c≠de->H c=some o->H' c=some o)->cq Ad H' b ca dn de (es++[⟨n,key,t⟩])->Q (.int n) H')->Q' (.int n) G2)->dA Ad spf [V.ref b,V.ref t,y,V.ref f] G1 Q' E:=fun {spf Q'} hB hQ=>by
   refine⟨b,ca,dn,de,f,t,es,al,ws,r,n,key,y,fun _=>false,rfl,B.same t1,C.same t1,ok,hB,t1 _ _ ht,eo,h300,?_⟩;rcases ks with ⟨n0,n1,hnn,hy,k⟩ | ⟨hy,L,k,kE⟩
   ·exact .inr (.inl ⟨hk,hy,n0,n1,hnn,rfl,fun G2 t2=>hQ G2 t2 hnn k⟩)
   ·by_cases hM:n<bX al ws
    ·exact .inr (.inr (.inr (.inl ⟨hk,hy,L,hM,fun G2 t2=>hQ G2 t2 L.out (k hM)⟩)))
    ·exact .inr (.inr (.inr (.inr ⟨hk,hy,L,by left,fun G2 t2=>kE (by left) G2 (t1.trans t2)⟩)))
  refine ch (fun _ G Q' _ k=>k G (ax.refl _)) fun G2 t2 hnn k=>?_;clear ch ks;have t02:=t1.trans t2;have B2:=B.same t02;obtain⟨dx2,h12⟩:=B2.bk;cbv;grind;refine⟨_,dx2,_,_,h12,AF.c_Book,AF.n_Book_by_number,gz ca dn de,dn,_,rfl,.inl ⟨_,.inl n,B2.hn,rfl,by rw[qk];exact ao (by left),rfl⟩,?_⟩;rw[tW (uD hnn),show fu es++[((.inl n:Key),V.ref t)]=fu (es++[⟨n,key,t⟩]) from (rQ es ⟨n,key,t⟩).symm];have hnb:dn≠b:=bh B2.hn h12 (by intro z;cases z);have heb:de≠b:=bh B2.he h12 (by intro z;cases z);have hne:dn≠de:=bh B2.hn B2.he (by intro z;cases z);have hdt:∀ {c:Addr}{xs:List V},G2 c=some (.tup xs)->c≠dn/\c≠de:=fun h=>⟨bh h B2.hn (by intro z;cases z),bh h B2.he (by intro z;cases z)⟩;have k3:∀ c o,c≠dn->G2 c=some o->upd G2 dn (.dK (fu (es++[⟨n,key,t⟩]))) c=some o:=fun c o hc h=>by rw[az hc];exact h
  have g3:upd G2 dn (.dK (fu (es++[⟨n,key,t⟩]))) dn=some (.dK (fu (es++[⟨n,key,t⟩]))):=aB;generalize upd G2 dn (.dK (fu (es++[⟨n,key,t⟩])))=G3 at k3 g3;cbv;have ht2:=t02 _ _ ht;have hb3:=k3 _ _ hnb.symm h12;grind;refine⟨_,dx2,_,_,hb3,AF.c_Book,AF.n_Book_by_entry,oy ca dn de,de,_,rfl,.inr ⟨_,key,t,k3 _ _ hne.symm B2.he,rfl,k3 _ _ (hdt ht2).1 ht2,by show (mC es).length<_;unfold mC;rw[ak];exact ao (by left),rfl⟩,?_⟩;rw[tW (zw hk),show mC es++[(key,V.int n)]=mC (es++[⟨n,key,t⟩]) from (CJ es ⟨n,key,t⟩).symm];have k4:∀ c o,c≠de->G3 c=some o->upd G3 de (.dT (mC (es++[⟨n,key,t⟩]))) c=some o:=fun c o hc h=>by rw[az hc];exact h
  have g4:upd G3 de (.dT (mC (es++[⟨n,key,t⟩]))) de=some (.dT (mC (es++[⟨n,key,t⟩]))):=aB;generalize upd G3 de (.dT (mC (es++[⟨n,key,t⟩])))=G4 at k4 g4;cbv;symm;refine k G4 (fun c o h1 h2 h=>k4 _ _ h2 (k3 _ _ h1 (t02 _ _ h))) ⟨⟨dx2,k4 _ _ heb.symm hb3⟩,k4 _ _ hne g3,g4,fun e he=>?_,?_,?_⟩
  ·rcases bI.mp he with he | he
   ·have:=B2.en e he;exact k4 _ _ (hdt this).2 (k3 _ _ (hdt this).1 this)
   ·rw[bA.mp he];exact k4 _ _ (hdt ht2).2 (k3 _ _ (hdt ht2).1 ht2)
  ·rw[bL];exact lW B.nn hnn
  ·rw[bL];exact lW B.nk hk
inductive cL (Ad:Ads) (vs:List V) (H:Hp) (Q:VK) (E:XK):Prop
 | mk (ed b ca dn de cl sd t:Addr) (es:List Ben) (lk:Lk) (l0 day:Int) (m:Nat) (ch:List Chg) (key0:List Key) (q0:vs=[.ref ed,.int day,.ref t]) (q1:lQ Ad H ed b ca dn de cl sd es lk l0 m ch) (q2:H t=some (.tup (key0.map kV))) (q3:eu key0) (q4:m<999) (q5:0<=day) (q6:day<=1000000000) (q7:((day<l0/\E (.ref Ad.NoDay) none H)∨(l0<=day/\(∀ e∈es,e.key=key0->∀ H',(∀ c o,c≠ed->c≠dn->c≠de->c≠cl->c≠sd->H c=some o->H' c=some o)->lQ Ad H' ed b ca dn de cl sd (es.filter fun x=>decide (x.num≠e.num)) (fun i=>if i=e.num then some (day,e.key) else lk i) day (m+1) (ch++[⟨day,e.num,none⟩])->Q (.int e.num) H')/\(key0∉es.map (·.key)->∀ H',ax H H'->E (.ref Ad.NoEntry) none H')))):cL Ad vs H Q E
def jA:aI ["self","day","entry","freed"] ["self","day","entry"] (av gS):=by subst_eqs
def pf (F:Fun K "strike" "Editions.strike" gS f fd) (T:Bl mg) (AF:AdF K mg Ad) (M_Editions_note_change:Mtd P w K mg base (CX1 P w) Ad.Editions "note_change" 1 ["self","day","number","entry"] (cX Ad)) (M_Book_strike:Mtd P w K mg base (CX1 P w) Ad.Book "strike" 5 ["self","entry"] (gX Ad)) (M_Editions_check_change:Mtd P w K mg base (CX1 P w) Ad.Editions "check_change" 4 ["self","day"] (cN Ad)):bS P w K mg base (CX1 P w) 6 f fd ["self","day","entry"] (cL Ad):=by
 refine F.okX (k:=5) jA ?_ (fun cdv A outer s H vs Q E hr h=>?_)
 ·bv_decide
 ·obtain⟨ed,b,ca,dn,de,cl,sd,t,es,lk,l0,day,m,ch,key0,rfl,D,ht,eo,m9,d0,d1,ks⟩:=h;obtain⟨dx,h1⟩:=D.eF;obtain⟨cs,hcl,lcl,hch⟩:=D.cF;obtain⟨kvs,hsd,S,lsd⟩:=D.sF;have B:=D.bF;obtain⟨bx,hb⟩:=B.bk;have hu:=hr.fJ;have hu1:=jW hr;refine⟨_,ae (dF (bZ M_Editions_check_change aw (hr.mono Zd) (pvL 0) (ah (pvL 1) (aa)))) (ae (aF (i:=3) jA.nd (bZ M_Book_strike aw (hr.mono Zd) (b8 (K:=K) rfl (pvL 0)) (ah (pvL 2) (aa)))) (ae (j4 hu1 (b8 (K:=K) rfl (pvL 0)) (pvL 3) (cx (ah (pvL 1) (ah (pvL 2) (aa))))) (ae (dF (bZ M_Editions_note_change aw (hr.mono Zd) (pvL 0) (ah (pvL 1) (ah (pvL 3) (ah (dW) (aa)))))) (aj (aH (pvL 3)))))),?_⟩;grind;refine⟨dx,_,h1,rfl,ed,dx,b,cl,sd,l0,day,rfl,h1,d0,d1,?_⟩;rcases ks with ⟨a,k⟩ | ⟨ld,k,kn⟩
  ·exact .inr ⟨a,k⟩
  refine .inl ⟨ld,?_⟩;cbv;grind;refine⟨_,dx,_,_,h1,AF.c_Editions,AF.n_Editions_current,rfl,?_⟩;symm;refine⟨bx,_,hb,bJ Zd Zd Zd ca dn de,b,ca,dn,de,t,es,key0,rfl,B,ht,eo,fun e he ekk G1 k1 B1=>?_,kn⟩;subst ekk;cbv;have nen:ed≠dn:=bh h1 B.hn (by intro z;cases z);have nee:ed≠de:=bh h1 B.he (by intro z;cases z);have ncn:cl≠dn:=bh hcl B.hn (by intro z;cases z);have nce:cl≠de:=bh hcl B.he (by intro z;cases z);have nse:sd≠de:=bh hsd B.he (by intro z;cases z);have h11:=k1 _ _ nen nee h1;have hcl1:=k1 _ _ ncn nce hcl;have hsd1:=k1 _ _ D.ne.symm nse hsd;have ht1:=k1 _ _ (bh ht B.hn (by intro z;cases z)) (bh ht B.he (by intro z;cases z)) ht;grind;refine⟨aT (ao Zd),fun p G2 hp t2 g2=>?_⟩;have h12:=t2 _ _ h11;have hcl2:=t2 _ _ hcl1;have hsd2:=t2 _ _ hsd1;have ht2:=t2 _ _ ht1;refine⟨_,dx,_,_,h12,AF.c_Editions,AF.n_Editions_struck,rfl,sd,_,rfl,.inl ⟨_,.inl e.num,hsd2,rfl,ao (by left),rfl⟩,?_⟩;have k3:∀ c o,c≠sd->G2 c=some o->upd G2 sd (HO.dK (putK kvs (Sum.inl e.num) (V.ref p))) c=some o:=fun c o hc z=>by rw[az hc];exact z
  have g3:upd G2 sd (HO.dK (putK kvs (Sum.inl e.num) (V.ref p))) sd=some (.dK (putK kvs (Sum.inl e.num) (V.ref p))):=aB;generalize upd G2 sd (HO.dK (putK kvs (Sum.inl e.num) (V.ref p)))=G3 at k3 g3;have ns:∀ {c:Addr}{o:HO},G2 c=some o->(∀ kvs,o≠.dK kvs)->c≠sd:=fun {c o} z hz y=>by rw[y,hsd2] at z;cases z;exact hz _ rfl
  have h13:=k3 _ _ (ns h12 fun _ z=>by cases z) h12;have hcl3:=k3 _ _ (ns hcl2 fun _ z=>by cases z) hcl2;cbv;grind;refine⟨dx,_,h13,rfl,ed,dx,b,cl,sd,l0,day,.int e.num,.non,cs,rfl,h13,hcl3,by left,fun p' G4 hp' k4 h14 g4 hcl4=>?_⟩;cbv;symm;have B2:=B1.same t2;obtain⟨bx2,hb2⟩:=B2.bk;have B3:cq Ad G3 b ca dn de (es.filter fun x=>decide (x.num≠e.num)):=⟨⟨bx2,k3 _ _ (ns hb2 fun _ z=>by cases z) hb2⟩,k3 _ _ D.ne B2.hn,k3 _ _ (ns B2.he fun _ z=>by cases z) B2.he,fun x hx=>k3 _ _ (ns (B2.en x hx) fun _ z=>by cases z) (B2.en x hx),B2.nn,B2.nk⟩;have tup2:∀ c xs,G2 c=some (.tup xs)->G4 c=some (.tup xs):=fun c xs z=>by have z3:=k3 _ _ (ns z fun _ z=>by cases z) z;exact k4 _ _ (bh z3 h13 (by intro z;cases z)) (bh z3 hcl3 (by intro z;cases z)) z3
  refine k e he rfl G4 (fun c o e1 e2 e3 e4 e5 z=>k4 c o e1 e4 (k3 c o e5 (t2 _ _ (k1 c o e2 e3 z)))) ⟨⟨dx,h14⟩,B3.past h13 hcl3 k4,⟨_,hcl4,by rw[aK];show cs.length+1<=_;left,mQ (kI (kI hch fun c xs z=>k1 _ _ (bh z B.hn (by intro z;cases z)) (bh z B.he (by intro z;cases z)) z) fun c xs z=>tup2 c xs (t2 _ _ z)) (.cons ⟨p',rfl,g4⟩ .nil)⟩,⟨_,k4 _ _ (bh g3 h13 (by intro z;cases z)) (bh g3 hcl3 (by intro z;cases z)) g3,fun i=>?_,?_⟩,D.ne⟩
  ·rw[vj];dsimp only
   by_cases hi:i=e.num
   ·rw[ai (by rw[hi]),ai hi];exact .inr ⟨p,t,day,e.key,rfl,tup2 _ _ g2,tup2 _ _ ht2,eo,rfl⟩
   ·rw[af (fun z=>hi (Sum.inl.inj z)),af hi];have S1:vo G1 kvs lk:=S.past fun c xs z=>k1 _ _ (bh z B.hn (by intro z;cases z)) (bh z B.he (by intro z;cases z)) z;exact (S1.same t2).past tup2 i
  ·have:=iD kvs (Sum.inl e.num) (V.ref p);left
inductive cB (Ad:Ads) (vs:List V) (H:Hp) (Q:VK) (E:XK):Prop
 | mk (ed b ca dn de cl sd t:Addr) (es:List Ben) (lk:Lk) (l0 day n:Int) (m:Nat) (ch:List Chg) (al:Za) (ws:Zb) (r:Int) (key:List Key) (y:V) (q0:vs=[.ref ed,.int day,.ref t,y]) (q1:lQ Ad H ed b ca dn de cl sd es lk l0 m ch) (q2:dq Ad H ca al ws r) (q3:cO al ws r) (q4:H Ad.tb=some (jG vw)) (q5:H Ad.tb1=some (jG yw)) (q6:H t=some (.tup (key.map kV))) (q7:eu key) (q8:es.length<300) (q9:m<999) (q10:0<=day) (q11:day<=1000000000) (q12:((day<l0/\E (.ref Ad.NoDay) none H)∨(l0<=day/\((key∈es.map (·.key)/\(∀ H',ax H H'->E (.ref Ad.Twice) none H'))∨(key∉es.map (·.key)/\y=.int n/\0<=n/\n<bX al ws/\(n∈es.map (·.num)∨jf lk day key n=true)/\∀ H',ax H H'->E (.ref Ad.NoNumber) none H')∨(key∉es.map (·.key)/\y=.non/\km (es.map (·.num)) (jf lk day key) n/\bX al ws<=n/\∀ H',ax H H'->E (.ref Ad.TooMany) none H')∨(key∉es.map (·.key)/\((y=.int n/\0<=n/\n∉es.map (·.num)/\jf lk day key n=false)∨(y=.non/\km (es.map (·.num)) (jf lk day key) n))/\n<bX al ws/\∀ H',(∀ c o,c≠ed->c≠dn->c≠de->c≠cl->H c=some o->H' c=some o)->lQ Ad H' ed b ca dn de cl sd (es++[⟨n,key,t⟩]) lk day (m+1) (ch++[⟨day,n,some t⟩])->Q (.int n) H'))))):cB Ad vs H Q E
def m6:aI ["self","day","entry","number","given"] ["self","day","entry","number"] (av bV):=by subst_eqs
def m5 (F:Eb K "put" "Editions.put" bV f fd) (T:Bl mg) (AF:AdF K mg Ad) (CD:fd.code=.ref Ad.cd1) (M_Editions_note_change:Mtd P w K mg base (CX1 P w) Ad.Editions "note_change" 1 ["self","day","number","entry"] (cX Ad)) (M_Book_put:Mtd P w K mg base (CX1 P w) Ad.Book "put" 6 ["self","entry","number"] (eR Ad)) (M_Book_choose:uc P w K mg base (CX1 P w) Ad.Book "choose" 4 1 ["self","entry","number","is_barred"] (dA Ad)) (M_Editions_is_barred:Mtd P w K mg base (CX1 P w) Ad.Editions "is_barred" 1 ["self","day","entry","number"] (dG K Ad)) (M_Editions_check_change:Mtd P w K mg base (CX1 P w) Ad.Editions "check_change" 4 ["self","day"] (cN Ad)):bS P w K mg base (CX1 P w) 7 f fd ["self","day","entry","number"] (cB Ad):=by
 refine F.okT (k:=6) CD m6 ?_ (fun A outer s H vs Q E hr h=>?_)
 ·bv_decide
 ·obtain⟨ed,b,ca,dn,de,cl,sd,t,es,lk,l0,day,n,m,ch,al,ws,r,key,y,rfl,D,C,ok,Tb,Tb1,ht,eo,h300,m9,d0,d1,ks⟩:=h;obtain⟨dx,h1⟩:=D.eF;obtain⟨cs,hcl,lcl,hch⟩:=D.cF;obtain⟨kvs,hsd,S,lsd⟩:=D.sF;have hu:=hr.fJ;have hu1:=jW hr;refine⟨_,ae (dF (bZ M_Editions_check_change aw (hr.mono Zd) (pvC 0) (ah (pvC 1) (aa)))) (ae (aF (i:=4) m6.nd (vY (k:=1) (ps:=["k"]) (fr:=["day","entry","self"]) (js:=[1,2,0]) (q:=yw) M_Book_choose rfl rfl aw (hr.mono Zd) (b8 (K:=K) rfl (pvC 0)) (pvC 2) (pvL 3) rfl AF.t_tab1 (by ext) rfl (.cons ⟨rfl,.inr (.inl rfl),rfl,by nofun,rfl⟩ (.cons ⟨rfl,.inr (.inl rfl),rfl,by nofun,rfl⟩ (.cons ⟨rfl,.inr (.inl rfl),rfl,by nofun,rfl⟩ (.nil)))) (fun _ _ _=>L2.bind1 fun _=>rfl) (fun _ _ _ _ _ _ hr=>bZ M_Editions_is_barred gO (hr.mono Zd) (pvF 3) (ah (pvF 1) (ah (pvF 2) (ah (pvL 0) (aa))))) (by nofun) (by nofun))) (ae (dF (bZ M_Book_put aw (hr.mono Zd) (b8 (K:=K) rfl (pvC 0)) (ah (pvC 2) (ah (pvL 4) (aa))))) (ae (dF (bZ M_Editions_note_change aw (hr.mono Zd) (pvC 0) (ah (pvC 1) (ah (pvL 4) (ah (pvC 2) (aa)))))) (aj (aH (pvL 4)))))),?_⟩;grind;refine⟨dx,_,h1,rfl,ed,dx,b,cl,sd,l0,day,rfl,h1,d0,d1,?_⟩;rcases ks with ⟨a,k⟩ | ⟨ld,ks⟩
  ·exact .inr ⟨a,k⟩
  refine .inl ⟨ld,?_⟩;cbv;obtain⟨bx,hb⟩:=D.bF.bk;grind;refine⟨_,dx,_,_,h1,AF.c_Editions,AF.n_Editions_current,rfl,?_⟩;symm;have B:=D.bF;refine⟨bx,_,hb,bJ Zd Zd Zd ca dn de,Tb1,fun f G1 hf t1 _=>?_⟩;have D1:=D.same t1;have hbar:∀ {spf:Sp},(∀ (i:Int) (G:Hp) (Q':VK),dG K Ad [.ref ed,.int day,.ref t,.int i] G Q' XF->(∃ dx fs,G ed=some (HO.ins Ad.Editions dx fs)/\fs.lookup (Str.ofString "is_barred")=none)->spf [.int i] G Q' XF)->Bar spf (jf lk day key) G1:=fun {spf} h i G Q' tG kG=>by refine h i G Q' ⟨ed,dx,b,cl,sd,t,l0,day,i,kvs,lk,key,rfl,tG _ _ (t1 _ _ h1),tG _ _ (t1 _ _ hsd),S.same (t1.trans tG),tG _ _ (t1 _ _ ht),eo,fun G' t'=>kG G' t'⟩ ⟨dx,_,tG _ _ (t1 _ _ h1),rfl⟩
  have cho:∀ {spf:Sp}{Q':VK},Bar spf (jf lk day key) G1->(∀ G2,ax G1 G2->n<bX al ws->key∉es.map (·.key)->n∉es.map (·.num)->0<=n->(∀ H',(∀ c o,c≠ed->c≠dn->c≠de->c≠cl->H c=some o->H' c=some o)->lQ Ad H' ed b ca dn de cl sd (es++[⟨n,key,t⟩]) lk day (m+1) (ch++[⟨day,n,some t⟩])->Q (.int n) H')->Q' (.int n) G2)->dA Ad spf [V.ref b,V.ref t,y,V.ref f] G1 Q' E:=fun {spf Q'} hB hQ=>by
   refine⟨b,ca,dn,de,f,t,es,al,ws,r,n,key,y,jf lk day key,rfl,B.same t1,C.same t1,ok,hB,t1 _ _ ht,eo,h300,?_⟩;rcases ks with ⟨a,k⟩ | ⟨a,e,n0,n1,o,k⟩ | ⟨a,e,L,n1,k⟩ | ⟨a,⟨e,n0,o,p⟩ | ⟨e,L⟩,n1,k⟩
   ·exact .inl ⟨a,fun G2 t2=>k G2 (t1.trans t2)⟩
   ·exact .inr (.inr (.inl ⟨a,e,n0,n1,o,fun G2 t2=>k G2 (t1.trans t2)⟩))
   ·exact .inr (.inr (.inr (.inr ⟨a,e,L,n1,fun G2 t2=>k G2 (t1.trans t2)⟩)))
   ·exact .inr (.inl ⟨a,e,n0,n1,o,p,fun G2 t2=>hQ G2 t2 n1 a o n0 k⟩)
   ·exact .inr (.inr (.inr (.inl ⟨a,e,L,n1,fun G2 t2=>hQ G2 t2 n1 a L.out L.pos k⟩)))
  refine cho (hbar fun i G Q' hs hf'=>?_) fun G2 t2 n1 hk hn n0 k=>?_
  ·obtain⟨dx',fs',e1,e2⟩:=hf';exact⟨_,rfl,dx',fs',e1,e2,_,rfl,_,rfl,_,rfl,hs⟩
  rw[hN];clear hN nn cho hbar ks;have t02:=t1.trans t2;have h12:=t02 _ _ h1;have B2:=B.same t02;obtain⟨bx2,hb2⟩:=B2.bk;grind;refine⟨_,dx,_,_,h12,AF.c_Editions,AF.n_Editions_current,rfl,?_⟩;symm;refine⟨bx2,_,hb2,bJ Zd Zd Zd ca dn de,b,ca,dn,de,t,es,al,ws,r,n,key,.int n,rfl,B2,C.same t02,ok,t02 _ _ Tb,t02 _ _ ht,eo,hk,h300,.inl ⟨n0,n1,hn,rfl,fun G3 k3 B3=>?_⟩⟩;cbv;have nen:ed≠dn:=bh h12 B2.hn (by intro z;cases z);have nee:ed≠de:=bh h12 B2.he (by intro z;cases z);have ncn:cl≠dn:=bh (t02 _ _ hcl) B2.hn (by intro z;cases z);have nce:cl≠de:=bh (t02 _ _ hcl) B2.he (by intro z;cases z);have nse:sd≠de:=bh (t02 _ _ hsd) B2.he (by intro z;cases z);have h13:=k3 _ _ nen nee h12;have hcl3:=k3 _ _ ncn nce (t02 _ _ hcl);have hsd3:=k3 _ _ D.ne.symm nse (t02 _ _ hsd);grind;refine⟨dx,_,h13,rfl,ed,dx,b,cl,sd,l0,day,.int n,.ref t,cs,rfl,h13,hcl3,by left,fun p G4 hp k4 h14 g4 hcl4=>?_⟩;cbv;symm;have tup4:∀ c xs,H c=some (.tup xs)->G4 c=some (.tup xs):=fun c xs e=>by have e2:=t02 _ _ e;have e3:=k3 _ _ (bh e2 B2.hn (by intro z;cases z)) (bh e2 B2.he (by intro z;cases z)) e2;exact k4 _ _ (bh e3 h13 (by intro z;cases z)) (bh e3 hcl3 (by intro z;cases z)) e3
  refine k G4 (fun c o e1 e2 e3 e4 e=>k4 c o e1 e4 (k3 c o e2 e3 (t02 _ _ e))) ⟨⟨dx,h14⟩,B3.past h13 hcl3 k4,⟨_,hcl4,by rw[aK];show cs.length+1<=_;left,?_⟩,⟨kvs,?_,S.past tup4,by left⟩,D.ne⟩
  ·exact mQ (kI hch tup4) (.cons ⟨p,rfl,g4⟩ .nil)
  ·exact k4 _ _ (bh hsd3 h13 (by intro z;cases z)) (bh hsd3 hcl3 (by intro z;cases z)) hsd3
def zd (kvs:List (Key×V)) (c:Chg):List (Key×V):=putK kvs (.inl c.num) (c.ent.elim V.non V.ref)
def oQ (ch:List Chg):List (Key×V):=ch.foldl zd []
def sf (ch:List Chg) (c:Chg):oQ (ch++[c])=zd (oQ ch) c:=by unfold oQ;rw[List.foldl_append];rfl
def GL {gs:List Lge} (h:jR gs) (n:Int):(∀ e∈fW gs,e.num=n->dJ (oQ (gs.map fO)) (.inl n)=some (.ref e.adr))/\(n∉(fW gs).map (·.num)->dJ (oQ (gs.map fO)) (.inl n)=none∨dJ (oQ (gs.map fO)) (.inl n)=some .non):=by
 induction h with
 | nil=>exact⟨(fun e he=>by cases he),fun _=>.inl rfl⟩
 | @snoc gs l h hs hp ih =>
  rw[bL,List.map_singleton,sf,kR];unfold zd fS;rw[vj,show (fO l).num=l.num from rfl];cases hl:l.str with
  | true =>
   have ec:(fO l).ent=none:=by unfold fO;rw[hl];rfl
   rw[ai rfl,ec];refine⟨fun e he en=>?_,fun hn=>?_⟩
   ·obtain⟨h1,h2⟩:=gd.mp he;have hne:e.num≠l.num:=lL h2;rw[af (fun z=>hne (en.trans (Sum.inl.inj z)))];exact ih.1 e h1 en
   ·by_cases hnl:n=l.num
    ·rw[ai (by rw[hnl])];exact .inr rfl
    ·rw[af (fun z=>hnl (Sum.inl.inj z))];refine ih.2 fun hm=>hn ?_;obtain⟨e,he,ee⟩:=aD.mp hm;exact aD.mpr ⟨e,gd.mpr ⟨he,ar (by rw[ee];exact hnl)⟩,ee⟩
  | false =>
   have ec:(fO l).ent=some l.adr:=by unfold fO;rw[hl];rfl
   rw[af (by decide),ec];refine⟨fun e he en=>?_,fun hn=>?_⟩
   ·rcases bI.mp he with he | he
    ·have hne:n≠l.num:=fun z=>(hp hl).1 (aD.mpr ⟨e,he,en.trans z⟩);rw[af (fun z=>hne (Sum.inl.inj z))];exact ih.1 e he en
    ·have e1:=bA.mp he;subst e1;rw[ai (by rw[←en])];rfl
   ·rw[bL,bI] at hn;have hnl:n≠l.num:=fun z=>hn (.inr (by rw[z];exact bA.mpr rfl));rw[af (fun z=>hnl (Sum.inl.inj z))];exact ih.2 fun hm=>hn (.inl hm)
def F7 {k:Key}{y:V} (h:(kvs.map (·.1)).Nodup):((putK kvs k y).map (·.1)).Nodup/\∀ q∈(putK kvs k y).map (·.1),q=k∨q∈kvs.map (·.1):=by
 unfold putK
 by_cases a:(kvs.any fun kv=>decide (kv.1=k))=true
 ·rw[ai a,aX,show ((fun x:Key×V=>x.1) ∘ fun kv:Key×V=>if kv.1=k then (kv.1,y) else kv)=fun x:Key×V=>x.1 from funext fun kv=>by show (if kv.1=k then (kv.1,y) else kv).1=kv.1;split<;>rfl];exact⟨h,fun q hq=>.inr hq⟩
 ·rw[af a,bL];refine⟨lW h fun hm=>a ?_,fun q hq=>?_⟩
  ·obtain⟨kv,h1,h2⟩:=aD.mp hm;exact List.any_eq_true.mpr ⟨kv,h1,ar h2⟩
  ·rcases bI.mp hq with hq | hq
   ·exact .inr hq
   ·exact .inl (bA.mp hq)
theorem uu:∀ (ch:List Chg) (kvs:List (Key×V)),(kvs.map (·.1)).Nodup->(∀ q∈kvs.map (·.1),∃ n,q=(Sum.inl n:Key))->((ch.foldl zd kvs).map (·.1)).Nodup/\∀ q∈(ch.foldl zd kvs).map (·.1),∃ n,q=(Sum.inl n:Key)
 | [],_,h1,h2=>⟨h1,h2⟩
 | c::ch,kvs,h1,h2=>by
  obtain⟨a,b⟩:=F7 (k:=.inl c.num) (y:=c.ent.elim V.non V.ref) h1;exact uu ch _ a fun q hq=>by
   rcases b q hq with e | e
   ·exact⟨_,e⟩
   ·exact h2 q e
theorem ur:∀ (gs:List Lge) (es:List Ben),∀ e∈gs.foldl fS es,e∈es∨∃ l∈gs,e=⟨l.num,l.key,l.adr⟩
 | [],_,_,h=>.inl h
 | l::gs,es,e,h=>by
  rcases ur gs (fS es l) e h with h1 | ⟨l',h1,h2⟩
  ·unfold fS at h1;split at h1
   ·exact .inl (gd.mp h1).1
   ·rcases bI.mp h1 with h1 | h1
    ·exact .inl h1
    ·exact .inr ⟨l,bq,bA.mp h1⟩
  ·exact .inr ⟨l',bD _ h1,h2⟩
def kP {gs:List Lge}{e:Ben} (h:e∈fW gs):∃ l∈gs,e=⟨l.num,l.key,l.adr⟩:=(ur gs [] e h).resolve_left (by intro z;cases z)
def LK {k:Key}:dJ kvs k=some v->∃ i:Nat,kvs[i]?=some (k,v):=by
 induction kvs with
 | nil=>intro h;cases h
 | cons p kvs ih =>
  intro h
  by_cases e:p.1=k
  ·rw[eL e] at h;exact⟨0,by rw[←e,←Option.some.inj h];rfl⟩
  ·rw[eK e] at h;obtain⟨i,hi⟩:=ih h;exact⟨i+1,hi⟩
def LL {k:Key} (hn:(kvs.map (·.1)).Nodup) (h:(k,v)∈kvs):dJ kvs k=some v:=by
 induction kvs with
 | nil=>cases h
 | cons p kvs ih =>
  rw[bp] at hn;have hn:=df.mp hn;rcases aJ.mp h with rfl | h
  ·exact eL rfl
  ·have:¬ p.1=k:=fun e=>hn.1 (by rw[e];exact aD.mpr ⟨(k,v),h,rfl⟩);rw[eK this];exact ih hn.2 h
def JA {es:List Ben} (h:(es.map (·.num)).Nodup):es.Nodup:=(List.pairwise_map.mp h).imp fun h e=>h (by rw[e])
inductive i5 (Ad:Ads) (vs:List V) (H:Hp) (Q:VK) (E:XK):Prop
 | mk (ed b ca dn de cl sd:Addr) (es:List Ben) (lk:Lk) (l0 day:Int) (m j:Nat) (al:Za) (ws:Zb) (r:Int) (gs:List Lge) (q0:vs=[.ref ed,.int day]) (q1:lQ Ad H ed b ca dn de cl sd es lk l0 m (gs.map fO)) (q2:dq Ad H ca al ws r) (q3:cO al ws r) (q4:H Ad.tb=some (jG vw)) (q5:m<64) (q6:jR gs) (q7:(∀ (i:Nat) l,gs[i]?=some l->(l.day<=day↔i<j))) (q8:(∀ l∈gs,H l.adr=some (.tup (l.key.map kV))/\eu l.key/\0<=l.num/\l.num<bX al ws)) (q9:0<=day) (q10:day<=1000000000) (q11:∀ b' dn' de' es' H',ax H H'->H b'=none->H dn'=none->H de'=none->cq Ad H' b' ca dn' de' es'->es'.Perm (fW (gs.take j))->Q (.ref b') H'):i5 Ad vs H Q E
def cC:aI ["self","day","standing","changed","number","entry","edition"] ["self","day"] (av iW):=by subst_eqs
def rT (F:Fun K "book" "Editions.book" iW f fd) (T:Bl mg) (AF:AdF K mg Ad) (C_is_day:Fnc P w K mg base (CX1 P w) 3 "is_day" ["thing"] sA) (M_Book_put:Mtd P w K mg base (CX1 P w) Ad.Book "put" 6 ["self","entry","number"] (eR Ad)) (M_Book_code:pP P w K mg base (CX1 P w) Ad.Book "code" 1 ["self"] (eX Ad)) (K_Book:Mak P w K mg base (CX1 P w) Ad.Book "Book" 1 ["self","code"] (gW Ad)):bS P w K mg base (CX1 P w) 7 f fd ["self","day"] (i5 Ad):=by
 refine F.okX (k:=6) cC ?_ (fun cdv A outer s H vs Q E hr h=>?_)
 ·bv_decide
 ·obtain⟨ed,b,ca,dn,de,cl,sd,es,lk,l0,day,m,j,al,ws,r,gs,rfl,D,C,ok,Tb,m64,ro,hj,hg,d0,d1,k⟩:=h;obtain⟨dx,h1⟩:=D.eF;obtain⟨cs,hcl,lcl,hch⟩:=D.cF;have hu:=hr.fJ;have hu1:=jW hr;refine⟨_,ae (bC (c9 (cb (aG C_is_day aw (hr.mono Zd) (ah (pvL 1) (aa))))) (aj (cJ cK AF.q_NoDay AF.g_NoDay cy rfl (ah (aO) (aa)))) (aQ)) (ae (aF (i:=2) cC.nd (iE)) (ae (iT dD rfl (cE (K:=K) rfl (b8 (K:=K) rfl (pvL 0))) (jg (K:=K) (n:=3) rfl rfl (aY (aC (i:=3) cC.nd) (aY (aC (i:=4) cC.nd) (aY (aC (i:=5) cC.nd) (eT))))) (aj (bC (aP ir (pvL 3) (pvL 1) (aU _)) (aj (j4 hu1 (pvL 2) (pvL 4) (pvL 5))) (aQ)))) (ae (aF (i:=6) cC.nd (jz K_Book aw (hr.mono Zd) (ah (cT M_Book_code.mtd aw (hr.mono Zd) (b8 (K:=K) rfl (pvL 0))) (aa)))) (ae (iT dD rfl (Jc (IY (K:=K) rfl lG PySem.F.slot_dict_items PySem.F.type_dict_items FN (pvL 2))) (jg (K:=K) (n:=2) rfl rfl (aY (aC (i:=4) cC.nd) (aY (aC (i:=5) cC.nd) (eT)))) (aj (bC (aP kO (pvL 5) (dW) (aU _)) (aj (dF (bZ M_Book_put aw (hr.mono Zd) (pvL 6) (ah (pvL 5) (ah (pvL 4) (aa)))))) (aQ)))) (aj (aH (pvL 6))))))),?_⟩;grind;refine⟨_,.int,rfl,rfl,_,rfl,?_⟩;have e0:bU 1000000001 (.int day)=true:=by
   show (decide (0<=day)&&decide (day<1000000001))=true;rw[ar d0,ar (show day<1000000001 by left)];rfl
  rw[e0,af (by decide)];show nn _ _ _;cbv;grind;intro F G1 hF t1 g1;cbv;grind;refine⟨_,dx,_,_,t1 _ _ h1,AF.c_Editions,AF.n_Editions_changes,rfl,?_⟩;symm;have nF:∀ {c:Addr}{o:HO},H c=some o->c≠F:=fun e z=>by rw[z,hF] at e;cases e
  have lcs:cs.length=gs.length:=by have:=Paired.length hch;rwa [ak] at this
  have lS:∀ i,(oQ ((gs.take i).map fO)).length<=i:=fun i=>by
   induction i with
   | zero=>rw[jN];exact aq _
   | succ i ih =>
    by_cases hi:i<gs.length
    ·rw[hV,b9 hi];show (oQ ((gs.take i++[gs[i]]).map fO)).length<=_;rw[bL,List.map_singleton,sf];have:=iD (oQ ((gs.take i).map fO)) (.inl (fO gs[i]).num) ((fO gs[i]).ent.elim V.non V.ref);show (putK _ _ _).length<=_;left
    ·rw[di (by left)] at ih ⊢;left
  refine .inl ⟨⟨_,.of (t1 _ _ hcl)⟩,jw (xs:=cs) (fun i σ G=>(∃ o3 o4 o5,σ=[some (V.ref ed),some (V.int day),some (V.ref F),o3,o4,o5,none])/\(∀ c o,c≠F->G1 c=some o->G c=some o)/\G F=some (.dK (oQ ((gs.take (min i j)).map fO)))) ⟨⟨_,_,_,rfl⟩,fun _ _ _ e=>e,by rw[Nat.zero_min,jN];exact g1⟩ (fun i σ G _ ⟨_,kp,_⟩=>.of (kp _ _ (nF hcl) (t1 _ _ hcl))) ?_ ?_⟩
  ·rintro i v σ G hi ⟨⟨o3,o4,o5,rfl⟩,kp,gF⟩ N hNx;clear hN;obtain⟨c,hc,p,rfl,hp⟩:=dz hch hi;rw[bt] at hc;obtain⟨l,hl,rfl⟩:=gi.mp hc;have hil:i<gs.length:=(bN.mp hl).1;have hpG:=kp _ _ (nF hp) (t1 _ _ hp);refine⟨p,_,rfl,.of hpG,rfl,?_⟩;symm
   by_cases hd:l.day<=day
   ·have ij:=(hj i l hl).mp hd;have et:gs.take (i+1)=gs.take i++[l]:=by rw[hV,hl];rfl
    rw[iN (by left)] at gF;have l64:=lS i;rw[show decide ((fO l).day<=day)=true from ar hd,ai rfl];refine⟨F,_,rfl,.inl ⟨_,.inl l.num,gF,rfl,ao (by left),rfl⟩,hNx _ _ ⟨⟨_,_,_,rfl⟩,fun c o hc z=>by rw[az hc];exact kp c o hc z,?_⟩⟩;rw[iN (by left),et,bL,List.map_singleton,sf];exact aB
   ·have ij:¬ i<j:=fun z=>hd ((hj i l hl).mpr z);rw[show decide ((fO l).day<=day)=false from ay hd,af (by decide)];refine hNx _ _ ⟨⟨_,_,_,rfl⟩,kp,?_⟩;rw[lE (by left)] at gF ⊢;exact gF
  rintro σ G ⟨⟨o3,o4,o5,rfl⟩,kp,gF⟩;show nn _ _ _;cbv;have er:oQ ((gs.take (min cs.length j)).map fO)=oQ ((gs.take j).map fO):=by
   rw[lcs]
   by_cases h:j<=gs.length
   ·rw[lE h]
   ·rw[iN (by left),di (aq _),di (by left)]
  have lSj:(oQ ((gs.take j).map fO)).length<64:=by have h1:=lS (min cs.length j);rw[er] at h1;left
  rw[er] at gF;have tG:ax H G:=fun c o e=>kp c o (nF e) (t1 _ _ e);have DG:=D.same tG;obtain⟨bx,hb⟩:=DG.bF.bk;grind;refine⟨_,dx,_,_,tG _ _ h1,AF.c_Editions,AF.n_Editions_current,rfl,?_⟩;symm;refine⟨bx,_,hb,bJ Zd Zd Zd ca dn de,b,ca,dn,de,es,rfl,DG.bF,?_⟩;intro b' bx' G2 hb2 hbx2 hbb2 t2 g2 g2x;refine⟨b',bx',ca,rfl,g2,fun dn' de' G3 hdn hde ne1 ne2 ne3 k3 g3 gn ge=>⟨rfl,?_⟩⟩;have s3:ax G G3:=fun c o e=>k3 c o (fun z=>by rw[z,hb2] at e;cases e) (t2 _ _ e);have B3:cq Ad G3 b' ca dn' de' []:=⟨⟨bx',g3⟩,gn,ge,(fun e he=>by cases he),.nil,.nil⟩;have fn:G dn'=none:=t2.free hdn;have fe:G de'=none:=t2.free hde;have gF3:=s3 _ _ gF;cbv;grind;refine⟨.inr (.inr (.inl ⟨rfl,.inl ⟨_,gF3⟩⟩)),_,gF3,fun p G4 hp t4 g4=>⟨p,F,_,rfl,g4,t4 _ _ gF3,fun ob G5 k5 g5=>?_⟩⟩;have T5:ax H G5:=fun c o e=>k5 _ _ (nF e) (t4 _ _ (s3 _ _ (tG _ _ e)));have nbF:∀ {c:Addr},G c=none->c≠F:=fun e z=>by rw[z,gF] at e;cases e
  have B5:cq Ad G5 b' ca dn' de' []:=⟨⟨bx',k5 _ _ (nbF hb2) (t4 _ _ g3)⟩,k5 _ _ (nbF fn) (t4 _ _ gn),k5 _ _ (nbF fe) (t4 _ _ ge),(fun e he=>by cases he),.nil,.nil⟩;obtain⟨kn,ki⟩:=uu ((gs.take j).map fO) [] .nil (by intro q hq;cases hq);have kn:((oQ ((gs.take j).map fO)).map (·.1)).Nodup:=kn;have ki:∀ q∈(oQ ((gs.take j).map fO)).map (·.1),∃ n,q=(Sum.inl n:Key):=ki;have rn:=(ro.take j).nn;have rv:=fun n=>GL (ro.take j) n;have rf:∀ e∈fW (gs.take j),G5 e.adr=some (.tup (e.key.map kV))/\eu e.key/\0<=e.num/\e.num<bX al ws:=fun e he=>by obtain⟨l,hl,rfl⟩:=kP he;obtain⟨a1,a2⟩:=hg l (qW hl);exact⟨T5 _ _ a1,a2⟩
  clear er hch hcl lcl lS lcs hj hg ro gF3 t4 g4 gF kp B3;have fn5:H dn'=none:=tG.free fn;have fe5:H de'=none:=tG.free fe;generalize fW (gs.take j)=rs at rn rv rf k;generalize oQ ((gs.take j).map fO)=kvs at kn ki rv g5 lSj;refine EZ (fun i σ G'=>(∃ o4 o5,σ=[some (V.ref ed),some (V.int day),some (V.ref F),o3,o4,o5,some (V.ref b')])/\(∀ c o,c≠dn'->c≠de'->G5 c=some o->G' c=some o)/\∃ es',cq Ad G' b' ca dn' de' es'/\es'.length<=i/\(∀ e∈es',e∈rs/\∃ u,u<i/\∃ x,kvs[u]?=some (.inl e.num,x))/\∀ u,u<i->∀ n ad,kvs[u]?=some (.inl n,V.ref ad)->n∈es'.map (·.num)) ⟨⟨_,_,rfl⟩,fun _ _ _ _ e=>e,[],B5,aq _,(fun e he=>by cases he),fun u hu=>by left⟩ (fun i σ G' _ ⟨_,kp',_⟩=>kp' _ _ (fun z=>by rw[←z] at fn;exact nbF fn rfl) (fun z=>by rw[←z] at fe;exact nbF fe rfl) g5) ?_ ?_
  ·rintro i key x σ G' hi ⟨⟨o4,o5,rfl⟩,kp',es',B,le,h1',h2'⟩ N hNx p' G6 hp' t6 g6;clear hN;obtain⟨n,rfl⟩:=ki key (fh (bw hi));have hx:=LL kn (bw hi);have il:i<kvs.length:=(bN.mp hi).1;refine⟨p',_,rfl,.of g6,rfl,?_⟩;have un:n∉es'.map (·.num):=fun hm=>by
    obtain⟨e,he,ee⟩:=aD.mp hm;obtain⟨_,u,hu,x',hu'⟩:=h1' e he;have:=(List.getElem?_inj (i:=u) (j:=i) (by rw[ak];left) kn).mp (by rw[bt,bt,hu',hi,ee];rfl);left
   by_cases hm:n∈rs.map (·.num)
   ·obtain⟨e,he,rfl⟩:=aD.mp hm;have hv:=(rv e.num).1 e he rfl;rw[hx] at hv;obtain rfl:=Option.some.inj hv;obtain⟨a1,a2,a3,a4⟩:=rf e he;have B6:=B.same t6;obtain⟨bx6,hb6⟩:=B6.bk;have T6:ax H G6:=fun c o z=>t6 _ _ (kp' c o (fun y=>by rw[y,fn5] at z;cases z) (fun y=>by rw[y,fe5] at z;cases z) (T5 _ _ z));have ek:e.key∉es'.map (·.key):=fun hk=>by
     obtain⟨e',he',ee⟩:=aD.mp hk;have:=ku rn.2 (h1' e' he').1 he ee;rw[this] at he';exact un (fh he')
    have B5n:=B5.hn;have B5e:=B5.he;symm;refine⟨bx6,_,hb6,bJ Zd Zd Zd ca dn' de',b',ca,dn',de',e.adr,es',al,ws,r,e.num,e.key,.int e.num,rfl,B6,C.same T6,ok,T6 _ _ Tb,t6 _ _ (kp' _ _ (bh a1 B5n (by intro z;cases z)) (bh a1 B5e (by intro z;cases z)) a1),a2,ek,by left,.inl ⟨a3,a4,un,rfl,fun G7 k7 B7=>hNx _ _ ⟨⟨_,_,rfl⟩,fun c o c1 c2 z=>k7 c o c1 c2 (t6 _ _ (kp' c o c1 c2 z)),_,B7,by rw[aK];show es'.length+1<=_;left,fun e' he'=>?_,fun u hu n' ad' hu'=>?_⟩⟩⟩
    ·rcases bI.mp he' with he' | he'
     ·obtain⟨b1,u,b2,b3⟩:=h1' e' he';exact⟨b1,u,by left,b3⟩
     ·rw[bA.mp he'];exact⟨he,i,by left,_,hi⟩
    ·rw[bL,bI]
     by_cases hui:u=i
     ·subst hui;rw[hi] at hu';cases hu';exact .inr (bA.mpr rfl)
     ·exact .inl (h2' u (by left) n' ad' hu')
   ·have hv:x=V.non:=by
     rcases (rv n).2 hm with z | z
     ·rw[hx] at z;cases z
     ·rw[hx] at z;exact Option.some.inj z
    subst hv;symm;refine hNx _ _ ⟨⟨_,_,rfl⟩,fun c o c1 c2 z=>t6 _ _ (kp' c o c1 c2 z),es',B.same t6,by left,fun e' he'=>?_,fun u hu n' ad' hu'=>?_⟩
    ·obtain⟨b1,u,b2,b3⟩:=h1' e' he';exact⟨b1,u,by left,b3⟩
    ·by_cases hui:u=i
     ·subst hui;rw[hi] at hu';cases hu'
     ·exact h2' u (by left) n' ad' hu'
  rintro σ G' ⟨⟨o4,o5,rfl⟩,kp',es',B,le,h1',h2'⟩;show nn _ _ _;cbv;symm;refine k b' dn' de' es' G' (fun c o z=>kp' c o (fun y=>by rw[y,fn5] at z;cases z) (fun y=>by rw[y,fe5] at z;cases z) (T5 _ _ z)) (tG.free hb2) fn5 fe5 B ((List.perm_ext_iff_of_nodup (JA B.nn) (JA rn.1)).mpr fun e=>⟨fun he=>(h1' e he).1,fun he=>?_⟩);obtain⟨u,hu⟩:=LK ((rv e.num).1 e he rfl);obtain⟨e',he',ee⟩:=aD.mp (h2' u (bN.mp hu).1 _ _ hu);rw[←ku rn.1 (h1' e' he').1 he ee];exact he'
inductive vb (Ad:Ads) (vs:List V) (H:Hp) (Q:VK) (E:XK):Prop
 | mk (p:Addr) (al:Za) (ws:Zb) (r:Int) (ms:List Ben) (q0:vs=[.ref p]) (q1:H p=some (.lst ((ja al ws r::ms.map (mD al ws r)).map fun l=>V.str (tx l)))) (q2:cO al ws r) (q3:LO al ws ms) (q4:H Ad.tb=some (jG vw)) (q5:∀ b ca dn de es H',ax H H'->H dn=none->H de=none->cq Ad H' b ca dn de es->dq Ad H' ca al ws r->es.map nk=ms.map nk->Q (.ref b) H'):vb Ad vs H Q E
def kT:aI ["rows","fields","code","book","row","parts"] ["rows"] (av xC):=by subst_eqs
def FR (F:Fun K "built" "built" xC f fd) (T:Bl mg) (AF:AdF K mg Ad) (C_entry_written:Fnc P w K mg base (CX1 P w) 1 "entry_written" ["parts"] kU) (C_code_written:Fnc P w K mg base (CX1 P w) 2 "code_written" ["words"] m8) (M_Book_put:Mtd P w K mg base (CX1 P w) Ad.Book "put" 6 ["self","entry","number"] (eR Ad)) (M_Code_number:Mtd P w K mg base (CX1 P w) Ad.Code "number" 4 ["self","word"] (jB Ad)) (K_Book:Mak P w K mg base (CX1 P w) Ad.Book "Book" 1 ["self","code"] (gW Ad)) (K_Code:Mak P w K mg base (CX1 P w) Ad.Code "Code" 4 ["self","alphabet","weights","rest"] (fQ Ad)):bS P w K mg base (CX1 P w) 7 f fd ["rows"] (vb Ad):=by
 refine F.okX (k:=6) kT ?_ ?_
 ·bv_decide
 ·right;obtain⟨p,al,ws,r,ms,rfl,hp,ok,om,Tb,k⟩:=h;refine⟨_,ae (aF (i:=1) kT.nd (aG C_code_written aw (hr.mono Zd) (ah (eD (K:=K) rfl gj og oi qj (b7 (cn (K:=K) rfl) (pvL 0) (au) (fun _ _=>rfl)) (ah (aO) (aa))) (aa)))) (ae (bC (aP uO (pvL 1) (dW) (aU _)) (aj (cJ cK AF.q_NoBook AF.g_NoBook cy rfl (ah (aO) (aa)))) (aQ)) (ae (aF (i:=2) kT.nd (jz K_Code aw (hr.mono Zd) (ah (b7 (cn (K:=K) rfl) (pvL 1) (au) (fun _ _=>rfl)) (ah (b7 (cn (K:=K) rfl) (pvL 1) (au) (fun _ _=>rfl)) (ah (b7 (cn (K:=K) rfl) (pvL 1) (au) (fun _ _=>rfl)) (aa)))))) (ae (aF (i:=3) kT.nd (jz K_Book aw (hr.mono Zd) (ah (pvL 2) (aa)))) (ae (iT dD rfl (cE (K:=K) rfl (iF (tj (K:=K) rfl) (pvL 0) (jh (au)) (me))) (aC (i:=4) kT.nd) (ae (aF (i:=5) kT.nd (eD (K:=K) rfl gj og oi Dz (pvL 4) (ah (aO) (ah (au) (aa))))) (aj (dF (bZ M_Book_put aw (hr.mono Zd) (pvL 3) (ah (aG C_entry_written aw (hr.mono Zd) (ah (iF (tj (K:=K) rfl) (pvL 5) (jh (au)) (me)) (aa))) (ah (bZ M_Code_number aw (hr.mono Zd) (pvL 2) (ah (b7 (cn (K:=K) rfl) (pvL 5) (au) (fun _ _=>rfl)) (aa))) (aa)))))))) (aj (aH (pvL 3))))))),?_⟩;have big:∀ {u:Nat},u<=1000->u<=sizeLine:=fun hu=>aT (ao (by left));have a26:=ok.a26;have w3:=ok.w3;have w8:=ok.w8;have rm:=ok.rm;have l64:=om.few;grind;refine⟨_,_,.l hp,bf (j:=0) rfl,?_⟩;show tyV K "str" (V.str (tx (ja al ws r))) H/\_;symm;have cl:=rH ok;refine⟨rfl,by rw[bM];left,32,rfl,fun p1 H1 hp1 s1 g1=>?_⟩;rw[ck,(sL ok).1] at g1;refine⟨p1,al,ws,r,rfl,g1,(fun w hw=>by have:=ok.wm w hw;exact⟨this.1,by left⟩),by left,w8,⟨rm.1,by left⟩,fun t q H2 s2 g2 g3=>?_⟩;cbv;grind;cbv;grind;refine⟨_,_,.t g2,bf (j:=0) rfl,_,_,.t g2,bf (j:=1) rfl,_,_,.t g2,bf (j:=2) rfl,?_⟩;intro ca dc H3 hca hdc _ s3 hi ho;refine vM hi (s3 _ _ g3) ok fun H4 kp4 C4=>⟨rfl,?_⟩;have s4:ax H2 H4:=fun c o e=>kp4 c o (bK e hca) (s3 _ _ e);cbv;have s04:=s1.trans (s2.trans s4);grind;intro b bx G0 hb hbx hbb t0 g0 g0x;refine⟨b,bx,ca,rfl,g0,fun dn de G1 hdn hde ne1 ne2 ne3 k1 g1 gn ge=>⟨rfl,?_⟩⟩;have t01:ax H4 G1:=fun x o e=>k1 x o (fun z=>by rw[z,hb] at e;cases e) (t0 _ _ e);have B1:cq Ad G1 b ca dn de []:=⟨⟨bx,g1⟩,gn,ge,(fun e he=>by cases he),.nil,.nil⟩;have hdn0:H4 dn=none:=t0.free hdn;have hde0:H4 de=none:=t0.free hde;cbv;grind;have sp1:=s04.trans t01;refine⟨_,.of (sp1 _ _ hp),fun p5 G2 hp5 t2 g5=>?_⟩;rw[show pV _ (some 1) none=_ from jt _ 1,bp,List.drop_one,List.tail_cons] at g5;have n5n:p5≠dn:=fun z=>by rw[z,gn] at hp5;cases hp5
  have n5e:p5≠de:=fun z=>by rw[z,ge] at hp5;cases hp5
  refine .inl ⟨⟨_,.of g5⟩,jw (xs:=(ms.map (mD al ws r)).map fun l=>V.str (tx l)) (fun i σ G=>(∃ o4 o5,σ=[some (V.ref p),some (V.ref t),some (V.ref ca),some (V.ref b),o4,o5])/\(∀ c o,c≠dn->c≠de->G2 c=some o->G c=some o)/\∃ es,cq Ad G b ca dn de es/\es.map nk=(ms.take i).map nk) ?_ ?_ ?_ ?_⟩
  ·exact⟨⟨_,_,rfl⟩,(fun c o _ _ e=>e),[],B1.same t2,rfl⟩
  ·rintro i σ G _ ⟨_,kp,_⟩;exact .of (kp _ _ n5n n5e g5)
  ·rintro i v σ G3 hi ⟨⟨o4,o5,rfl⟩,kp,es,B,he⟩ N hNx;clear hN;rw[aX,bt] at hi;obtain⟨m,hm,rfl⟩:=gi.mp hi;have hil:=(bN.mp hm).1;have hmm:=om.en m (bw hm);have etk:ms.take (i+1)=ms.take i++[m]:=by rw[hV,hm];rfl
   rw[etk,bL] at hNx;have sG:ax H4 G3:=fun c o e=>kp c o (fun z=>by rw[z,hdn0] at e;cases e) (fun z=>by rw[z,hde0] at e;cases e) (t2 _ _ (t01 _ _ e));have rl:=uk ok hmm;have wo:=BX ok hmm.2.1 hmm.2.2;have kno:m.key∉es.map (·.key):=fun h=>by rw[KU he] at h;have:=om.nk;rw[←List.take_append_drop i ms,bL,List.nodup_append] at this;refine this.2.2 _ h _ ?_ rfl;rw[nL hil,bp,(bN.mp hm).2];exact bq
   have nno:m.num∉es.map (·.num):=fun h=>by rw[KW he] at h;have:=om.up;rw[←List.take_append_drop i ms,bL,qX] at this;have:=this.2.2 _ h m.num (by rw[nL hil,bp,(bN.mp hm).2];exact bq);left
   have les:es.length<=i:=by have:=aV List.length he;rw[ak,ak,fK] at this;left
   show AD _ _ _ [some (V.ref p),some (V.ref t),some (V.ref ca),some (V.ref b),some (V.str (tx (mD al ws r m))),o5] _;refine dY fun n2 hM=>?_;symm;refine⟨rfl,by rw[bM];left,Zd,Zd,32,rfl,fun pp G4 hpp t4 g4=>?_⟩;rw[ck,show (2:Int).toNat=2 from rfl,(wd ok hmm).1] at g4;rw[hM];clear hM n2;have B4:=B.same t4;obtain⟨dx,hb4⟩:=B4.bk;symm;refine⟨dx,_,hb4,bJ Zd Zd Zd ca dn de,_,.of g4,fun p6 G6 hp6 t6 g6=>?_⟩;rw[show pV _ (some 1) none=_ from jt _ 1,List.drop_one,List.tail_cons] at g6;refine⟨p6,m.key,rfl,g6,hmm.1,fun t7 G7 ht7 t67 g7=>?_⟩;have s47:=t6.trans t67;have sG7:=sG.trans (t4.trans s47);have C7:=C4.same sG7;obtain⟨dc7,qc7,hc71,hc72⟩:=id C7;refine⟨dc7,_,hc71,cZ Zd Zd Zd al qc7 r,_,_,.l (s47 _ _ g4),bf (j:=0) rfl,ca,al,ws,r,V.str (tx (wdL al ws r m.num)),.str,rfl,C7,ok,rfl,(fun z e=>by cases e;rw[bM,wo.1];left),(fun hg=>?_),fun z e hg G8 t8=>?_⟩
   ·rw[show lV (tx al) ws r (V.str (tx (wdL al ws r m.num)))=true from by show Mk.i8 (tx al).cps.toList ws r (tx (wdL al ws r m.num)).cps.toList=true;rw[ck,ck];exact wo.2.2.1] at hg;cases hg
   cases e
   rw[ck,wo.2.2.2];have s48:=t4.trans (s47.trans t8);refine⟨b,ca,dn,de,t7,es,al,ws,r,m.num,m.key,.int m.num,rfl,B.same s48,C4.same (sG7.trans t8),ok,(sG7.trans t8) _ _ (s04 _ _ Tb),t8 _ _ g7,hmm.1,kno,by left,.inl ⟨hmm.2.1,hmm.2.2,nno,rfl,fun G9 kp9 B9=>hNx _ _ ⟨⟨_,_,rfl⟩,(fun c o h1 h2 e=>kp9 c o h1 h2 (s48 _ _ (kp c o h1 h2 e))),_,B9,?_⟩⟩⟩;rw[bL,he];rfl
  ·rintro σ G3 ⟨⟨o4,o5,rfl⟩,kp,es,B,he⟩;show nn _ _ _;cbv;rw[ak,ak,di (aq _)] at he;have sG:ax H4 G3:=fun c o e=>kp c o (fun z=>by rw[z,hdn0] at e;cases e) (fun z=>by rw[z,hde0] at e;cases e) (t2 _ _ (t01 _ _ e));symm;exact k b ca dn de es G3 (s04.trans sG) (s04.free hdn0) (s04.free hde0) B (C4.same sG) he
theorem Bn (x:Int):∀ ns:Zb,inV (.int x) (ns.map V.int)=decide (x∈ns)
 | []=>rfl
 | y::ys=>by show ((y==x)||inV (.int x) (ys.map V.int))=_;rw[Bn x ys,mz,Bool.or_eq_true,decide_eq_true_iff,decide_eq_true_iff,aJ,fL];exact⟨fun h=>h.imp Eq.symm id,fun h=>h.imp Eq.symm id⟩
inductive mx (Ad:Ads) (vs:List V) (H:Hp) (Q:VK) (E:XK):Prop
 | mk (b ca dn de D:Addr) (es:List Ben) (al:Za) (ws:Zb) (r n:Int) (x y:Nat) (q0:vs=[.ref b,.ref D,.int n]) (q1:cq Ad H b ca dn de es) (q2:dq Ad H ca al ws r) (q3:cO al ws r) (q4:H Ad.tb=some (jG vw)) (q5:es.length<64) (q6:(∀ e∈es,eu e.key/\0<=e.num/\e.num<bX al ws)) (q7:Ef H D x y) (q8:(97<=x/\x<123/\97<=y/\y<123)) (q9:0<=n) (q10:∀ H',(∀ c o,c≠dn->c≠de->H c=some o->H' c=some o)->Q (.bl true) H'):mx Ad vs H Q E
def fP:aI ["_law_book","_law_pool_here","_law_number","_law_entry","_law_taken","_law_least","_law_found"] ["_law_book","_law_pool_here","_law_number"] (av nq):=by subst_eqs
def xn (F:Fun K "_law_spoil" "_law_spoil" nq f fd) (T:Bl mg) (AF:AdF K mg Ad) (M_Book_entry:Mtd P w K mg base (CX1 P w) Ad.Book "entry" 3 ["self","number"] (iA Ad)) (M_Book_number:Mtd P w K mg base (CX1 P w) Ad.Book "number" 4 ["self","entry"] (fH Ad)) (M_Code_many:pP P w K mg base (CX1 P w) Ad.Code "many" 1 ["self"] (eZ Ad)) (M_Book_code:pP P w K mg base (CX1 P w) Ad.Book "code" 1 ["self"] (eX Ad)) (M_Book_entries:Mtd P w K mg base (CX1 P w) Ad.Book "entries" 1 ["self"] (fg Ad)) (M_Book_strike:Mtd P w K mg base (CX1 P w) Ad.Book "strike" 5 ["self","entry"] (gX Ad)) (D_Book_put:Ed P w K mg base (CX1 P w) Ad.Book "put" 6 ["self","entry","number"] (eR Ad)):bS P w K mg base (CX1 P w) 7 f fd ["_law_book","_law_pool_here","_law_number"] (mx Ad):=by
 refine F.okX (k:=6) fP ?_ ?_
 ·bv_decide
 ·right;obtain⟨b,ca,dn,de,D,es,al,ws,r,n,x,y,rfl,B,C,ok,Tb,l64,hes,⟨ts,hD,hts⟩,hxy,hn,k⟩:=h;have hu9:=hr.hu9;refine⟨_,ae (aF (i:=3) fP.nd (b7 (cn (K:=K) rfl) (pvL 1) (aR cw (pvL 2) (aA (bG (K:=K) rfl) T.len cG (ah (pvL 1) (aa)))) (fun _ _=>rfl))) (ae (bC (aP kO (bZ M_Book_number aw (hr.mono Zd) (pvL 0) (ah (pvL 3) (aa))) (dW) (aU _)) (aj (aH (cD (xp (K:=K) rfl hu) (bZ M_Book_strike aw (hr.mono Zd) (pvL 0) (ah (pvL 3) (aa))) (au) (aU _)))) (aQ)) (ae (ji (i:=4) fP.nd (jc ["_law_one","_law_other"] rfl ⟨rfl,by nofun,rfl,by nofun⟩ (.nil) (by nofun) (cE (K:=K) rfl (cT M_Book_entries aw (hr.mono Zd) (pvL 0))) (fun _ _ _ _=>jg (K:=K) (n:=2) rfl rfl (aY (aC (i:=0) (show (["_law_one","_law_other"]:Ze).Nodup from by nofun)) (aY (aC (i:=1) (show (["_law_one","_law_other"]:Ze).Nodup from by nofun)) (eT)))) (fun _ _ _ _=>dv) (fun _ _ _ _=>pvL 0))) (ae (aF (i:=5) fP.nd (b7 (cn (K:=K) rfl) (jc ["_law_one"] rfl ⟨rfl,by nofun,rfl,by nofun⟩ (.cons (j:=4) rfl (.inl (by ext)) (.nil)) (by nofun) (gv T.range (ah (aR br (aA (bG (K:=K) rfl) T.len cG (ah (pvC 4) (aa))) (au)) (aa))) (fun _ _ _ _=>aC (i:=0) (show (["_law_one","_law_taken"]:Ze).Nodup from by nofun)) (fun _ _ _ _=>qw (aP (vW (K:=K) rfl hu1) (pvL 0) (pvC 1) (by ext))) (fun _ _ _ _=>pvL 0)) (au) (fun _ _=>rfl))) (ae (aF (i:=6) fP.nd (dW)) (ae (Jj rfl rfl rfl (fun pn xe E1 po px=>aj (aF (i:=6) fP.nd (yO D_Book_put px (hr.mono Zd) (pvL 0) (ah (pvL 3) (aa))))) (Mu AF.g_TooMany (fun _=>aj (aH (cD (c8 (K:=K) rfl hu) (pvL 5) (uP M_Code_many gO (hr.n.mark.mono Zd) (uP M_Book_code gO (hr.n.mark.mono Zd) (pvL 0))) (aU _)))) (Lw))) (aj (aH (ma (cD (c8 (K:=K) rfl hu) (pvL 6) (pvL 5) (aU _)) (ma (cD (c8 (K:=K) rfl hu) (bZ M_Book_number aw (hr.mono Zd) (pvL 0) (ah (pvL 3) (aa))) (pvL 5) (aU _)) (md (cD (Am (K:=K) rfl hu9) (bZ M_Book_entry aw (hr.mono Zd) (pvL 0) (ah (pvL 5) (aa))) (pvL 3) (aU _)))))))))))),?_⟩;have big:∀ {u:Nat},u<=1000->u<=sizeLine:=fun hu=>aT (ao (by left));have en:=BA hxy.1 hxy.2.1 hxy.2.2.1 hxy.2.2.2;have tl:ts.length=14:=Paired.length hts;grind;refine⟨_,.l hD,?_⟩;rw[ak,tl];obtain⟨v,hv,t,key,rfl,ht,eo⟩:∃ v,atI (ts.map V.ref) (n%((14:Nat):Int))=some v/\∃ t key,v=.ref t/\H t=some (.tup (key.map kV))/\eu key:=by
   obtain⟨j,hj⟩:=jI (show 0<=n%((14:Nat):Int) by left);have hj14:j<ts.length:=by left
   obtain⟨key,hk,hkt⟩:=dz hts (b9 hj14);exact⟨_,by rw[hj];exact bf (by rw[bt,b9 hj14];rfl),_,key,rfl,hkt,en _ (bw hk)⟩
  refine⟨Zd,_,_,.l hD,hv,?_⟩;rw[hN];clear hN nn hv;obtain⟨dx,hb⟩:=B.bk;obtain⟨tt1,tt2⟩:=wH ht eo;grind;refine⟨dx,_,hb,bJ Zd Zd Zd ca dn de,b,ca,dn,de,es,.ref t,.tup,rfl,B,tt1,tt2,(fun hv=>by rw[pZ ht eo] at hv;cases hv),fun q' key' e1 e2 e3=>?_⟩;cases e1;have ekk:key=key':=oC (by rw[ht] at e2;injection e2 with e2;injection e2);subst ekk;refine⟨fun u hu eku H1 s1=>?_,fun hno H1 s1=>?_⟩
  ·symm;have B1:=B.same s1;obtain⟨dx1,hb1⟩:=B1.bk;symm;refine⟨dx1,_,hb1,bJ Zd Zd Zd ca dn de,b,ca,dn,de,t,es,key,rfl,B1,s1 _ _ ht,eo,fun e he ek H2 k2 _=>?_,fun hno=>absurd (aD.mpr ⟨u,hu,eku⟩) hno⟩;symm;rw[ar (hes e he).2.1];exact k H2 fun c o c1 c2 z=>k2 c o c1 c2 (s1 _ _ z)
  symm;cbv;have B1:=B.same s1;obtain⟨dx1,hb1⟩:=B1.bk;grind;refine⟨dx1,_,hb1,bJ Zd Zd Zd ca dn de,b,ca,dn,de,es,rfl,B1,l64,fun D2 vs ms H2 hD2 s2 g2 mp ml P2=>?_⟩;have lv:vs.length=ms.length:=Paired.length P2;have lm:ms.length=es.length:=mp.length_eq;refine .inl ⟨⟨_,.of g2⟩,yx (fX (.of g2)) (ao (by left)) (fun i=>V.int (ms.getD i ⟨0,[],0⟩).num) (fun i=>V.ref (ms.getD i ⟨0,[],0⟩).adr) (fun i=>V.int (ms.getD i ⟨0,[],0⟩).num) (fun _=>true) ?_ ?_ ?_ ?_⟩
  ·intro i v hv;obtain⟨m,hm,p,e,h2⟩:=dz P2 hv;rw[cp,hm];exact⟨p,e,h2⟩
  ·intro i _ H3 s3 R hR;exact hR H3 (ax.refl _)
  ·intro i hi _ H3 s3 R hR;symm;exact hR H3 (ax.refl _)
  intro D3 H3 hD3 s3 g3;cbv;have e3:((List.range vs.length).filter fun _=>true).map (fun i=>V.int (ms.getD i ⟨0,[],0⟩).num)=(ms.map (·.num)).map V.int:=by
   rw[nO.mpr fun _ _=>rfl,aX];apply List.ext_getElem?;intro i;rw[bt,bt]
   by_cases hi:i<ms.length
   ·rw[qR (by left),b9 hi];simp [hi]
   ·rw[lB (by simp;left),lB (by left)];rfl
  rw[e3] at g3;grind;refine⟨_,.l g3,?_⟩;rw[ak,ak,lm];refine⟨by left,by omega,FD (xs:=Mk.ofN ((es.length:Int)+1).toNat) V.int gr (qE _) (by rw[Mk.lY];exact ao (by left)) (fun x=>(true != decide (x∈ms.map (·.num)))) V.int ?_ ?_ ?_⟩
  ·intro x hx H4 s4 R hR;symm;refine .inl ⟨_,.l (s4 _ _ g3),rfl,bP.mpr fun v hv=>by obtain⟨w,_,rfl⟩:=aD.mp hv;rfl,?_⟩;rw[Bn];refine Eq.mp ?_ (hR H4 (ax.refl _));rw[Bool.true_bne]
  ·intro x hx _ H4 s4 R hR;symm;exact hR H4 (ax.refl _)
  intro D4 H4 hD4 s4 g4;obtain⟨n1,L1,l1⟩:=FF (es.map (·.num));rw[ak] at l1;have emm:∀ x:Int,(x∈ms.map (·.num))↔x∈es.map (·.num):=fun x=>(mp.map _).mem_iff;cases hf:(Mk.ofN ((es.length:Int)+1).toNat).filter (fun x=>(true != decide (x∈ms.map (·.num)))) with
  | nil =>have:=nN.mp hf (n1:Int) (Mk.i9.mpr ⟨by left,by left⟩);rw[ay (fun z=>L1.2.1 ((emm _).mp z))] at this;exact absurd rfl this
  | cons n0 rr =>
  rw[hf] at g4;obtain⟨f1,f2,f3,f4⟩:=yo hf;have hn0:n0∉es.map (·.num):=fun z=>by rw[ar ((emm _).mpr z)] at f1;cases f1
  have LB:km (es.map (·.num)) (fun _=>false) n0:=⟨f2,hn0,rfl,fun m m0 m1=>.inl (by
   have:=f4 m m0 m1
   by_cases hm:m∈ms.map (·.num)
   ·exact (emm _).mp hm
   ·rw[ay hm] at this;cases this)⟩
  symm;refine⟨_,_,.l g4,bf (j:=0) rfl,?_⟩;rw[hN];clear hN nn hf f4 L1 g4;have s04:=s1.trans (s2.trans (s3.trans s4));have B4:=B.same s04;have C4:=C.same s04;obtain⟨dx4,hb4⟩:=B4.bk;grind;cbv;grind;refine⟨dx4,_,hb4,bJ Zd Zd Zd ca dn de,b,ca,dn,de,t,es,al,ws,r,n0,key,.non,rfl,B4,C4,ok,s04 _ _ Tb,s04 _ _ ht,eo,hno,by left,.inr ⟨rfl,LB,fun hM H5 k5 B5=>?_,fun hM H5 s5=>?_⟩⟩
  ·show nn _ _ _;cbv;symm;rw[ai (by simp)];have kt:∀ {c:Addr}{xs:List V},H4 c=some (.tup xs)->H5 c=some (.tup xs):=fun z=>k5 _ _ (bh z B4.hn (by intro z;cases z)) (bh z B4.he (by intro z;cases z)) z;obtain⟨dc,qc,hc1,hc2⟩:=C4;have C5:dq Ad H5 ca al ws r:=⟨dc,qc,k5 _ _ (bh hc1 B4.hn (by intro z;cases z)) (bh hc1 B4.he (by intro z;cases z)) hc1,k5 _ _ (bh hc2 B4.hn (by intro z;cases z)) (bh hc2 B4.he (by intro z;cases z)) hc2⟩;have ht5:=kt (s04 _ _ ht);obtain⟨dx5,hb5⟩:=B5.bk;obtain⟨t51,t52⟩:=wH ht5 eo;have mn:(⟨n0,key,t⟩:Ben)∈es++[⟨n0,key,t⟩]:=cA _ bq;refine⟨dx5,_,hb5,bJ Zd Zd Zd ca dn de,b,ca,dn,de,_,.ref t,.tup,rfl,B5,t51,t52,(fun hv=>by rw[pZ ht5 eo] at hv;cases hv),fun q' key' e1 e2 e3=>?_⟩;cases e1;have ekk:key=key':=oC (by rw[ht5] at e2;injection e2 with e2;injection e2);subst ekk;refine⟨fun u hu eku H6 s6=>?_,fun hno'=>absurd (aD.mpr ⟨_,mn,rfl⟩) hno'⟩;obtain rfl:=ku B5.nk hu mn eku;symm;rw[ai (by simp)];have B6:=B5.same s6;obtain⟨dx6,hb6⟩:=B6.bk;refine⟨dx6,_,hb6,bJ Zd Zd Zd ca dn de,b,ca,dn,de,_,al,ws,r,.int n0,.int,rfl,B6,C5.same s6,ok,rfl,(fun h=>by rw[rD f2 hM] at h;cases h),(fun n e0 _ _ hn=>by cases e0;exact absurd (aD.mpr ⟨_,mn,rfl⟩) hn),fun n e0 _ _ x hx ex H7 s7=>?_⟩;cases e0;obtain rfl:=ku B5.nn hx mn ex;have ht7:=(s6.trans s7) _ _ ht5;exact⟨0,true,Zd,MS (key:=key) ht7 ht7,k H7 fun c o c1 c2 z=>(s6.trans s7) _ _ (k5 c o c1 c2 (s04 _ _ z))⟩
  intro ea H6 hea s6 g6 _;refine⟨true,AF.x_TooMany,?_⟩;rw[ai rfl];symm;have s06:=s04.trans (s5.trans s6);have B6:=B.same s06;have C6:=C.same s06;obtain⟨dx6,hb6⟩:=B6.bk;obtain⟨dc,qc,hc1,hc2⟩:=id C6;refine⟨dx6,_,hb6,bJ Zd Zd Zd ca dn de,oY g6,b,ca,dn,de,es,rfl,B6,?_⟩;symm;refine⟨dc,_,hc1,cZ Zd Zd Zd al qc r,oY g6,ca,al,ws,r,rfl,C6,ok.a26,by have:=ok.w3;left,ok.w8,fun H7 s7=>?_⟩;symm;have hMe:n0=bX al ws:=by
   rcases Int.lt_or_eq_of_le hM with hlt | he
   ·rcases LB.all (bX al ws) (by show (0:Int)<=(al.length:Int)^(ws.length-1);exact Int.pow_nonneg (by left)) hlt with z | z
    ·obtain⟨e,he,ee⟩:=aD.mp z;have:=(hes e he).2.2;have ee:e.num=bX al ws:=ee;left
    ·cases z
   ·exact he.symm
  rw[ar (show n0=(al.length:Int)^(ws.length-1) from hMe)];exact k H7 fun c o c1 c2 z=>(s06.trans s7) _ _ z
def BL (Ad:Ads):Sp:=fun vs H Q _=>∃ (al:Za) (ws:Zb) (r:Int) (ms:List Ben),vs=[.str (tx (pS al ws r ms))]/\cO al ws r/\LO al ws ms/\H Ad.tb=some (jG vw)/\∀ b ca dn de es H',ax H H'->H dn=none->H de=none->cq Ad H' b ca dn de es->dq Ad H' ca al ws r->es.map nk=ms.map nk->Q (.ref b) H'
def BK:aI ["text","book"] ["text"] (av Aw):=by subst_eqs
def IM (F:Fun K "read" "read" Aw f fd) (T:Bl mg) (AF:AdF K mg Ad) (C_shown:Fnc P w K mg base (CX1 P w) 4 "shown" ["book"] (qJ Ad)) (C_built:Fnc P w K mg base (CX1 P w) 7 "built" ["rows"] (vb Ad)):bS P w K mg base (CX1 P w) 8 f fd ["text"] (BL Ad):=by
 refine F.okX (k:=7) BK ?_ ?_
 ·bv_decide
 ·right;obtain⟨al,ws,r,ms,rfl,ok,om,Tb,k⟩:=h;refine⟨_,ae (bC (c9 (cb (aA (e8 .str) T.isinstance bt_isinstance (ah (pvL 0) (ah (iS T.str mG) (aa)))))) (aj (cJ cK AF.q_NoBook AF.g_NoBook cy rfl (ah (aO) (aa)))) (aQ)) (ae (Jh (fun pn=>aj (aF (i:=1) BK.nd (aG C_built gO (hr.mono Zd) (ah (eD (K:=K) rfl gj og oi qj (pvL 0) (ah (aO) (aa))) (aa)))))) (ae (bC (aP (iu (K:=K) rfl hu) (aG C_shown aw (hr.mono Zd) (ah (pvL 1) (aa))) (pvL 0) (aU _)) (aj (cJ cK AF.q_NoBook AF.g_NoBook cy rfl (ah (aO) (aa)))) (aQ)) (aj (aH (pvL 1))))),?_⟩;grind;refine⟨trivial,.str,rfl,?_⟩;rw[af (by decide)];show nn _ _ _;cbv;grind;have bl:=Cn ok om.en om.few;refine⟨rfl,by rw[bM];exact bl,10,rfl,fun p1 H1 hp1 s1 g1=>?_⟩;have es1:Mk.cc 10 (pS al ws r ms)=ja al ws r::ms.map (mD al ws r):=by
   unfold pS;refine Mk.gI _ (by simp) fun w hw=>?_;rcases aJ.mp hw with rfl | hw
   ·exact (sL ok).2
   ·obtain⟨m,hm,rfl⟩:=aD.mp hw;exact (wd ok (om.en m hm)).2
  rw[ck,es1] at g1;refine⟨p1,al,ws,r,ms,rfl,g1,ok,om,s1 _ _ Tb,fun b ca dn de es H2 s2 hd0 he0 B C he=>?_⟩;cbv;have s02:=s1.trans s2;have les:es.length=ms.length:=by have:=aV List.length he;rwa [ak,ak] at this
  have hen:∀ e∈es,eu e.key/\0<=e.num/\e.num<bX al ws:=fun e h=>by
   have h1:nk e∈ms.map nk:=by rw[←he];exact aD.mpr ⟨e,h,rfl⟩
   obtain⟨m,hm,e1⟩:=aD.mp h1;have h2:=om.en m hm;have e2:m.num=e.num:=aV Prod.fst e1;have e3:m.key=e.key:=aV Prod.snd e1
   rwa [e2,e3] at h2
  grind;refine⟨b,ca,dn,de,es,al,ws,r,rfl,B,C,ok,by have:=om.few;left,hen,fun ms' H3 mp ml s3=>?_⟩;symm;rw[Ez (IJ he mp ml om.up)];rw[af (by simp)];show nn _ _ _;cbv;symm;exact k b ca dn de es H3 (s02.trans s3) (s1.free hd0) (s1.free he0) (B.same s3) (C.same s3) he
def xV (Ad:Ads):Nat->Addr
 | 0=>Ad.NoDay
 | 1=>Ad.NoEntry
 | 2=>Ad.Twice
 | 3=>Ad.NoNumber
 | _=>Ad.TooMany
def ixD:Nat->Nat
 | 0=>7
 | 1=>3
 | 2=>4
 | 3=>1
 | _=>5
def nmD:Nat->Str
 | 0=>"NoDay"
 | 1=>"NoEntry"
 | 2=>"Twice"
 | 3=>"NoNumber"
 | _=>"TooMany"
def EdN (Ad:Ads) (Q:VK):XK:=fun C d H1=>∃ j,j<5/\C=.ref (xV Ad j)/\d=none/\∀ H',ax H1 H'->Q (.str (nmD j)) H'
def yT {Ad:Ads}{Q Q':VK}{E E':XK} (h:cB Ad vs H Q E) (hq:∀ x G,Q x G->Q' x G) (hE:∀ c d G,E c d G->E' c d G):cB Ad vs H Q' E':=by
 obtain⟨ed,b,ca,dn,de,cl,sd,t,es,lk,l0,day,n,m,ch,al,ws,r,key,y,e0,D,C,ok,Tb,Tb1,ht,eo,h300,m9,d0,d1,ks⟩:=h;refine⟨ed,b,ca,dn,de,cl,sd,t,es,lk,l0,day,n,m,ch,al,ws,r,key,y,e0,D,C,ok,Tb,Tb1,ht,eo,h300,m9,d0,d1,?_⟩;rcases ks with ⟨a,k⟩ | ⟨a,⟨u,k⟩ | ⟨u,v,w,x,z,k⟩ | ⟨u,v,w,x,k⟩ | ⟨u,v,w,k⟩⟩
 ·exact .inl ⟨a,hE _ _ _ k⟩
 ·exact .inr ⟨a,.inl ⟨u,fun G t=>hE _ _ _ (k G t)⟩⟩
 ·exact .inr ⟨a,.inr (.inl ⟨u,v,w,x,z,fun G t=>hE _ _ _ (k G t)⟩)⟩
 ·exact .inr ⟨a,.inr (.inr (.inl ⟨u,v,w,x,fun G t=>hE _ _ _ (k G t)⟩))⟩
 ·exact .inr ⟨a,.inr (.inr (.inr ⟨u,v,w,fun G f e=>hq _ _ (k G f e)⟩))⟩
def ze {Ad:Ads}{Q Q':VK}{E E':XK} (h:cL Ad vs H Q E) (hq:∀ x G,Q x G->Q' x G) (hE:∀ c d G,E c d G->E' c d G):cL Ad vs H Q' E':=by
 obtain⟨ed,b,ca,dn,de,cl,sd,t,es,lk,l0,day,m,ch,key0,e0,D,ht,eo,m9,d0,d1,ks⟩:=h;refine⟨ed,b,ca,dn,de,cl,sd,t,es,lk,l0,day,m,ch,key0,e0,D,ht,eo,m9,d0,d1,?_⟩;rcases ks with ⟨a,k⟩ | ⟨a,k,kn⟩
 ·exact .inl ⟨a,hE _ _ _ k⟩
 ·exact .inr ⟨a,fun e he ek G f x=>hq _ _ (k e he ek G f x),fun hn G t=>hE _ _ _ (kn hn G t)⟩
inductive pJ (K:Zf) (Ad:Ads) (vs:List V) (H:Hp) (Q:VK) (E:XK):Prop
 | mk (ed q t:Addr) (srt:Str) (day:Int) (y:V) (q0:vs=[.ref ed,.ref q]) (q1:H q=some (.tup [.str srt,.int day,.ref t,y])) (q2:(∃ dx fs,H ed=some (.ins Ad.Editions dx fs)/\fs.lookup (Str.ofString "put")=none/\fs.lookup (Str.ofString "strike")=none)) (q3:((srt=("strike":Str)/\cL Ad [.ref ed,.int day,.ref t] H Q (EdN Ad Q))∨(srt=("put":Str)/\(y=.non∨∃ i,y=.int i)/\cB Ad [.ref ed,.int day,.ref t,y] H Q (EdN Ad Q)))):pJ K Ad vs H Q E
def cH:aI ["_law_editions","_law_deed","_law_sort","_law_day","_law_entry","_law_number","_law_found","e","_law_some","_law_k"] ["_law_editions","_law_deed"] (av sj):=by subst_eqs
def Ai (F:Fun K "_law_did" "_law_did" sj f fd) (T:Bl mg) (AF:AdF K mg Ad) (M_Editions_strike:Mtd P w K mg base (CX1 P w) Ad.Editions "strike" 6 ["self","day","entry"] (cL Ad)) (M_Editions_put:Mtd P w K mg base (CX1 P w) Ad.Editions "put" 7 ["self","day","entry","number"] (cB Ad)) (D_Editions_put:Ed P w K mg base (CX1 P w) Ad.Editions "put" 7 ["self","day","entry","number"] (cB Ad)):bS P w K mg base (CX1 P w) 8 f fd ["_law_editions","_law_deed"] (pJ K Ad):=by
 refine F.okX (k:=7) cH ?_ ?_
 ·bv_decide
 ·right;obtain⟨ed,q,t,srt,day,y,rfl,hq,⟨dx,fs,he,hfp,hfs⟩,k⟩:=h;refine⟨_,ae (se (pvL 1) (oG (K:=K) (n:=4) rfl rfl (aY (aC (i:=2) cH.nd) (aY (aC (i:=3) cH.nd) (aY (aC (i:=4) cH.nd) (aY (aC (i:=5) cH.nd) (eT))))))) (ae (aF (i:=6) cH.nd (aO)) (ae (Ji (i:=7) rfl rfl rfl cH.nd AF.g_CableError (fun pn xe E1 po px=>aj (bC (aP (c8 (K:=K) rfl hu) (pvL 2) (aO) (aU _)) (aj (aF (i:=6) cH.nd (bZ M_Editions_strike px (hr.mono Zd) (pvL 0) (ah (pvL 3) (ah (pvL 4) (aa)))))) (aj (bC (aP uO (pvL 5) (dW) (aU _)) (aj (aF (i:=6) cH.nd (yO D_Editions_put px (hr.mono Zd) (pvL 0) (ah (pvL 3) (ah (pvL 4) (aa)))))) (aj (aF (i:=6) cH.nd (bZ M_Editions_put px (hr.mono Zd) (pvL 0) (ah (pvL 3) (ah (pvL 4) (ah (pvL 5) (aa))))))))))) (fun _=>ae (aF (i:=8) cH.nd (bR (ah (aA (ik (K:=K) rfl) T.isinstance bt_isinstance (ah (pvL 7) (ah (mS AF.g_NoDay) (aa)))) (ah (aA (ik (K:=K) rfl) T.isinstance bt_isinstance (ah (pvL 7) (ah (mS AF.g_NoEntry) (aa)))) (ah (aA (ik (K:=K) rfl) T.isinstance bt_isinstance (ah (pvL 7) (ah (mS AF.g_Twice) (aa)))) (ah (aA (ik (K:=K) rfl) T.isinstance bt_isinstance (ah (pvL 7) (ah (mS AF.g_NoNumber) (aa)))) (aa))))))) (ae (aF (i:=8) cH.nd (aR br (pvL 8) (bR (ah (aA (ik (K:=K) rfl) T.isinstance bt_isinstance (ah (pvL 7) (ah (mS AF.g_TooMany) (aa)))) (ah (aA (ik (K:=K) rfl) T.isinstance bt_isinstance (ah (pvL 7) (ah (iS T.ValueError vp) (aa)))) (aa)))))) (aj (BB PassesOwn.never (sW T.range (ah (au) (aa))) (mU (i:=9) cH.nd) (aj (bC (aP (c8 (K:=K) rfl hu) (pvL 8) (Ls ["_law_j"] ⟨rfl,by nofun,rfl,by nofun⟩ (.cons (j:=9) rfl (.inl (by ext)) (.nil)) (by nofun) (sW T.range (ah (au) (aa))) (fun _ _ _ _=>aC (i:=0) (show (["_law_j","_law_k"]:Ze).Nodup from by nofun)) (fun _ _ _ _=>dv) (fun _ _ _ _=>Gk (cD (c8 (K:=K) rfl hu) (pvL 0) (pvC 1) (aU _)) (md (cD (c8 (K:=K) rfl hu) (pvL 0) (au) (aU _))))) (aU _)) (aj (aF (i:=6) cH.nd (b7 (cn (K:=K) rfl) (bR (ah (aO) (ah (aO) (ah (aO) (ah (aO) (ah (aO) (aa))))))) (pvC 9) (fun _ _=>rfl)))) (aQ)))))))) (aj (aH (pvL 6))))),?_⟩;have big:∀ {u:Nat},u<=1000->u<=sizeLine:=fun hu=>aT (ao (by left));grind;refine⟨_,.inr (.of hq),rfl,?_⟩;symm;cbv;grind;cbv;refine dY fun nn hN=>?_;refine Jy fun th hTh=>?_;rw[AQ];symm;have hj:∀ j,j<5->Ad.Ij[ixD j]?=some (xV Ad j):=fun j hj=>by
   rcases (show j=0∨j=1∨j=2∨j=3∨j=4 by left) with rfl | rfl | rfl | rfl | rfl<;>rfl
  have hand:∀ (j:Nat) (H1 H2:Hp) (ea:Addr),j<5->(∀ H',ax H1 H'->Q (.str (nmD j)) H')->ax H1 H2->H2 ea=some (oP ea (.ref (xV Ad j)) none)->th ea { nx:=fun σ H=>nn { nx:=fun x H'=>Q V.non H',rt:=Q } (List.set σ 7 none) H,rt:=Q } [some (V.ref ed),some (V.ref q),some (V.str srt),some (V.int day),some (V.ref t),some y,some (V.str (Str.ofString "none")),some (V.ref ea),none,none] H2:=fun j H1 H2 ea j5 kk s2 h2=>by
   rw[hTh];clear hTh th k;have eC:=EN AF.err (c:=xV Ad j) (bw (hj j j5));have kd:∀ {i:Nat}{d:Addr},Ad.Ij[i]?=some d->PySem.W.kitOne K (.ref (xV Ad j)) (.ref d)=some (decide (ixD j=i)):=fun {i d} hd=>by rw[eC.kd d (bw hd),J9 AF.nd (hj j j5) hd]
   have tX:∀ {H'},ax H2 H'->TyX K H' (.ref ea) (.ref (xV Ad j)):=fun s=>.inr ⟨ea,_,rfl,rfl,s _ _ h2,eC.ex⟩;have r0:=ax.refl H2;refine dY fun n2 hM=>?_;symm;refine⟨_,_,tX r0,.inl (kd (i:=7) rfl),_,_,tX r0,.inl (kd (i:=3) rfl),_,_,tX r0,.inl (kd (i:=4) rfl),_,_,tX r0,.inl (kd (i:=1) rfl),big Zd,fun p3 H3 hp3 s3 h3=>?_⟩;rw[hM];clear hM n2;refine dY fun n2 hM=>?_;symm;refine⟨_,_,tX s3,.inl (kd (i:=5) rfl),?_⟩;symm;refine⟨_,_,tX s3,eC.ve,big Zd,fun p4 H4 hp4 s4 h4=>⟨_,_,s4 _ _ h3,h4,big (by simp),fun p5 H5 hp5 s5 h5=>?_⟩⟩;have h5':H5 p5=some (.lst [V.bl (decide (ixD j=7)),V.bl (decide (ixD j=3)),V.bl (decide (ixD j=4)),V.bl (decide (ixD j=1)),V.bl (decide (ixD j=5)),V.bl true]):=h5;have s25:=s3.trans (s4.trans s5);clear h5 h4 h3;rw[hM];clear hM n2;symm;have hin:∀ {G:Hp},ax H5 G->fz (some (.ref ea)) G:=fun t=>oY ((s25.trans t) _ _ h2);refine⟨Zd,Zd,Fe (fun i σ G=>(∃ o,σ=[some (V.ref ed),some (V.ref q),some (V.str srt),some (V.int day),some (V.ref t),some y,some (V.str (if i<=j then Str.ofString "none" else nmD j)),some (V.ref ea),some (V.ref p5),o])/\ax H5 G) ⟨⟨_,by rw[ai (bH _)]⟩,ax.refl _⟩ (fun σ G ⟨_,tG⟩=>hin tG) ?_ ?_⟩
   ·rintro i σ G hi ⟨⟨o,rfl⟩,tG⟩ N hNx;rw[pR,Int.zero_add];symm;refine⟨Zd,Zd,tK (xs:=List.range 6) (fun k:Nat=>V.int (0+(k:Int))) (fun x y e=>by have:=V.int.inj e;left) (A2 (n:=6) (hin tG)) (by rw[jL];exact ao Zd) (fun k:Nat=>V.bl (decide (k=i)||decide (k=5))) ?_ ?_⟩
    ·intro u hu' G1 t1 R hR;symm;have hR1:=hR G1 (ax.refl _)
     by_cases hji:u=i
     ·rw[ar (show 0+(u:Int)=i by left),ai rfl];rw[ar hji,Bool.true_or] at hR1;exact hR1
     ·rw[ay (show ¬ 0+(u:Int)=i by left),af (by decide),show decide (0+(u:Int)=5)=decide (u=5) from iP.mpr (by left)];rw[ay hji,Bool.false_or] at hR1;exact hR1
    intro D G1 hD t1 g1;symm;have g5:=(tG.trans t1) _ _ h5';have tG1:=tG.trans t1;have hi5:i<5:=hi;have eqv:oW [V.bl (decide (ixD j=7)),V.bl (decide (ixD j=3)),V.bl (decide (ixD j=4)),V.bl (decide (ixD j=1)),V.bl (decide (ixD j=5)),V.bl true] ((List.range 6).map fun k:Nat=>V.bl (decide (k=i)||decide (k=5)))=decide (i=j):=by rcases (show i=0∨i=1∨i=2∨i=3∨i=4 by left) with rfl | rfl | rfl | rfl | rfl<;>rcases (show j=0∨j=1∨j=2∨j=3∨j=4 by left) with rfl | rfl | rfl | rfl | rfl<;>rfl
    have at5:atI [V.str (Str.ofString "NoDay"),V.str (Str.ofString "NoEntry"),V.str (Str.ofString "Twice"),V.str (Str.ofString "NoNumber"),V.str (Str.ofString "TooMany")] (i:Int)=some (V.str (nmD i)):=by rcases (show i=0∨i=1∨i=2∨i=3∨i=4 by left) with rfl | rfl | rfl | rfl | rfl<;>rfl
    refine⟨_,_,.of g5,.of g1,rfl,bP.mpr (fun v hv=>by obtain⟨w,_,rfl⟩:=aD.mp hv;rfl),?_⟩;rw[eqv]
    by_cases hij:i=j
    ·subst hij;rw[ai (by rw[ar rfl])];refine⟨big Zd,fun p6 G6 _ t6 g6=>⟨_,_,.l g6,at5,hNx _ _ ⟨⟨_,by rw[af (by left)]⟩,tG1.trans t6⟩⟩⟩
    ·rw[ay hij,af (by decide)];refine hNx _ _ ⟨⟨some (V.int i),?_⟩,tG1⟩
     by_cases hle:i<=j
     ·rw[ai hle,ai (show i+1<=j by left)]
     ·rw[af hle,af (show ¬ i+1<=j by left)]
   rintro σ G ⟨⟨o,rfl⟩,tG⟩;show nn _ _ _;rw[hN];symm;rw[af (show ¬ (5:Int).toNat<=j by show ¬ 5<=j;left)];exact kk G (s2.trans (s25.trans tG))
  have fin:∀ (c:Value) (d:Option Addr) (G:Hp),EdN Ad Q c d G->PySem.W.exmOne K c (.ref Ad.CableError)=some true/\∀ (ea:Addr) (H2:Hp),G ea=none->ax G H2->H2 ea=some (oP ea c d)->th ea { nx:=fun σ H=>nn { nx:=fun x H'=>Q V.non H',rt:=Q } (List.set σ 7 none) H,rt:=Q } [some (V.ref ed),some (V.ref q),some (V.str srt),some (V.int day),some (V.ref t),some y,some (V.str (Str.ofString "none")),some (V.ref ea),none,none] H2:=fun c d G ⟨j,j5,e1,e2,kk⟩=>by subst e1 e2;exact⟨(EN AF.err (c:=xV Ad j) (bw (hj j j5))).em,fun ea H2 _ s2 h2=>hand j G H2 ea j5 kk s2 h2⟩
  rcases k with ⟨rfl,k⟩ | ⟨rfl,hy,k⟩
  ·rw[ai (by decide)];refine⟨dx,fs,he,hfs,ze k (fun x G hx=>?_) fun c d G hE=>fin c d G hE⟩;rw[hN];symm;exact hx
  rw[af (by decide)];rcases hy with rfl | ⟨i,rfl⟩
  ·symm;refine⟨dx,fs,he,hfp,yT k (fun x G hx=>?_) fun c d G hE=>fin c d G hE⟩;rw[hN];symm;exact hx
  ·symm;refine⟨dx,fs,he,hfp,yT k (fun x G hx=>?_) fun c d G hE=>fin c d G hE⟩;rw[hN];symm;exact hx
def StA.keep {Ad:Ads}{H H':Hp}{ed b ca dn de cl sd st nw sk lg:Addr}{es es2:List Ben}{lk lk2:Lk}{l0 l2:Int}{m m2:Nat}{gs:List Lge}{ch:List Chg} (h:StA H st nw sk lg es lk l0 m gs) (E:lQ Ad H ed b ca dn de cl sd es2 lk2 l2 m2 ch) (ap:∀ c∈[ed,b,dn,de,cl,sd],∀ c'∈[st,nw,sk,lg],c'≠c)
  (k:∀ c o,c≠ed->c≠dn->c≠de->c≠cl->c≠sd->H c=some o->H' c=some o):StA H' st nw sk lg es lk l0 m gs/\∀ c xs,H c=some (.tup xs)->H' c=some (.tup xs):=by
 obtain⟨dx,he⟩:=E.eF;obtain⟨cs,hcl,_⟩:=E.cF;obtain⟨kv2,hsd,_⟩:=E.sF;have tup:∀ c xs,H c=some (.tup xs)->H' c=some (.tup xs):=fun c xs e=>k c _ (bh e he (by intro z;cases z)) (bh e E.bF.hn (by intro z;cases z)) (bh e E.bF.he (by intro z;cases z)) (bh e hcl (by intro z;cases z)) (bh e hsd (by intro z;cases z)) e;have at_:∀ c∈[st,nw,sk,lg],∀ o,H c=some o->H' c=some o:=fun c hc o e=>k c o (ap ed (by simp) c hc) (ap dn (by simp) c hc) (ap de (by simp) c hc) (ap cl (by simp) c hc) (ap sd (by simp) c hc) e;obtain⟨h1,h2,⟨kvs,h3,h4,h5⟩,⟨ls,h6,h7,h8,h8'⟩,h9,h10,h11,h12⟩:=h;exact⟨⟨at_ _ (by simp) _ h1,at_ _ (by simp) _ h2,⟨kvs,at_ _ (by simp) _ h3,h4.past tup,h5⟩,⟨ls,at_ _ (by simp) _ h6,h7,h8.imp id fun ⟨t,a,b,c,e,e2⟩=>⟨t,a,b,c,e,tup _ _ e2⟩,mM h8' tup⟩,fun e he=>⟨tup _ _ (h9 e he).1,(h9 e he).2⟩,h10,h11,h12⟩,tup⟩
def lQ.keep {Ad:Ads}{H H':Hp}{ed b ca dn de cl sd st nw sk lg:Addr}{es es2:List Ben}{lk lk2:Lk}{l0 l2:Int}{m m2:Nat}{gs:List Lge}{ch:List Chg} (E:lQ Ad H ed b ca dn de cl sd es lk l0 m ch) (h:StA H st nw sk lg es2 lk2 l2 m2 gs) (ap:∀ c∈[ed,b,dn,de,cl,sd],∀ c'∈[st,nw,sk,lg],c'≠c)
  (k:∀ c o,c≠nw->c≠sk->c≠lg->H c=some o->H' c=some o):lQ Ad H' ed b ca dn de cl sd es lk l0 m ch/\∀ c xs,H c=some (.tup xs)->H' c=some (.tup xs):=by
 obtain⟨kv2,hsk,_⟩:=h.k;obtain⟨ls2,hlg,_⟩:=h.g;have tup:∀ c xs,H c=some (.tup xs)->H' c=some (.tup xs):=fun c xs e=>k c _ (bh e h.n (by intro z;cases z)) (bh e hsk (by intro z;cases z)) (bh e hlg (by intro z;cases z)) e;have at_:∀ c∈[ed,b,dn,de,cl,sd],∀ o,H c=some o->H' c=some o:=fun c hc o e=>k c o (ap c hc nw (by simp)).symm (ap c hc sk (by simp)).symm (ap c hc lg (by simp)).symm e;obtain⟨⟨dx,h1⟩,⟨⟨bx,b1⟩,b2,b3,b4,b5,b6⟩,⟨cs,h3,h4,h4'⟩,⟨kvs,h5,h6,h7⟩,h8⟩:=E;exact⟨⟨⟨dx,at_ _ (by simp) _ h1⟩,⟨⟨bx,at_ _ (by simp) _ b1⟩,at_ _ (by simp) _ b2,at_ _ (by simp) _ b3,fun e he=>tup _ _ (b4 e he),b5,b6⟩,⟨cs,at_ _ (by simp) _ h3,h4,kI h4' tup⟩,⟨kvs,at_ _ (by simp) _ h5,h6.past tup,h7⟩,h8⟩,tup⟩
structure KI (Ad:Ads) (G:Hp) (ed b ca dn de cl sd st nw sk lg:Addr) (M:Int) (i:Nat) (es:List Ben) (lk:Lk) (l0:Int) (m:Nat) (gs:List Lge):Prop where
 E:lQ Ad G ed b ca dn de cl sd es lk l0 m (gs.map fO)
 S:StA G st nw sk lg es lk l0 m gs
 mi:m<=i
 er:es=fW gs
 ro:jR gs
 up:(gs.map (·.day)).Pairwise (·<=·)
 lo:∀ l∈gs,l.day<=l0
 gp:∀ l∈gs,G l.adr=some (.tup (l.key.map kV))/\eu l.key/\0<=l.num/\l.num<M
 gl:es.length<=i
 lM:∀ n,M<=n->lk n=none
def KI.same {Ad:Ads}{G G':Hp}{ed b ca dn de cl sd st nw sk lg:Addr}{M:Int}{i j:Nat}{es:List Ben}{lk:Lk}{l0:Int}{m:Nat}{gs:List Lge} (h:KI Ad G ed b ca dn de cl sd st nw sk lg M i es lk l0 m gs) (t:ax G G') (ij:i<=j):KI Ad G' ed b ca dn de cl sd st nw sk lg M j es lk l0 m gs :=
 ⟨h.E.same t,h.S.same t,bQ h.mi ij,h.er,h.ro,h.up,h.lo,fun l hl=>⟨t _ _ (h.gp l hl).1,(h.gp l hl).2⟩,bQ h.gl ij,h.lM⟩
def KI.step {Ad:Ads}{G G':Hp}{ed b ca dn de cl sd st nw sk lg:Addr}{es:List Ben}{lk lk':Lk}{gs:List Lge} (h:KI Ad G ed b ca dn de cl sd st nw sk lg M i es lk l0 m gs) (g:Lge) (hd:l0<=g.day) (hs:g.str=true->g.num∈es.map (·.num)) (hp:g.str=false->g.num∉es.map (·.num)/\g.key∉es.map (·.key)) (hn:0<=g.num/\g.num<M)
  (tup:∀ c xs,G c=some (.tup xs)->G' c=some (.tup xs)) (ht:G g.adr=some (.tup (g.key.map kV))) (eo:eu g.key) (E':lQ Ad G' ed b ca dn de cl sd (fS es g) lk' g.day (m+1) ((gs++[g]).map fO)) (S':StA G' st nw sk lg (fS es g) lk' g.day (m+1) (gs++[g])) (hl:∀ n,n≠g.num->lk' n=lk n):KI Ad G' ed b ca dn de cl sd st nw sk lg M (i+1) (fS es g) lk' g.day (m+1) (gs++[g]):=by
 refine⟨E',S',by have:=h.mi;left,by rw[kR,←h.er],.snoc h.ro (fun z=>by rw[←h.er];exact hs z) (fun z=>by rw[←h.er];exact hp z),?_,fun l hl'=>?_,fun l hl'=>?_,?_,fun n hn'=>by rw[hl n (by left)];exact h.lM n hn'⟩
 ·rw[bL];refine qX.mpr ⟨h.up,List.pairwise_singleton _ _,fun a ha c hc=>?_⟩;obtain⟨l,hl1,rfl⟩:=aD.mp ha;rw[bA.mp hc];exact Int.le_trans (h.lo l hl1) hd
 ·rcases bI.mp hl' with hl' | hl'
  ·exact Int.le_trans (h.lo l hl') hd
  ·rw[bA.mp hl'];exact lj _
 ·rcases bI.mp hl' with hl' | hl'
  ·exact⟨tup _ _ (h.gp l hl').1,(h.gp l hl').2⟩
  ·rw[bA.mp hl'];exact⟨tup _ _ ht,eo,hn⟩
 ·have:=h.gl;unfold fS;split
  ·exact bQ (lC _ _) (by left)
  ·rw[aK];show es.length+1<=_;left
theorem vL:∀ (gs:List Lge) (es:List Ben),(gs.foldl fS es).length<=es.length+gs.length
 | [],_=>aq _
 | l::gs,es=>by
  have h:=vL gs (fS es l);have:(fS es l).length<=es.length+1:=by
   unfold fS;split
   ·exact bQ (lC _ _) (by left)
   ·rw[aK];exact aq _
  rw[List.foldl_cons,aN];left
theorem AW (day:Int):∀ {gs:List Lge},(gs.map (·.day)).Pairwise (·<=·)->∃ j:Nat,∀ (i:Nat) l,gs[i]?=some l->(l.day<=day↔i<j)
 | [],_=>⟨0,fun i l h=>by simp at h⟩
 | x::gs,h=>by
  rw[bp,qY] at h
  by_cases hx:x.day<=day
  ·obtain⟨j,hj⟩:=AW day h.2;refine⟨j+1,fun i l hi=>?_⟩;cases i with
   | zero=>cases hi;exact⟨fun _=>by left,fun _=>hx⟩
   | succ i=>rw[hj i l hi];left
  ·refine⟨0,fun i l hi=>⟨fun z=>absurd z ?_,fun z=>by left⟩⟩;cases i with
   | zero=>cases hi;exact hx
   | succ i =>have:=h.1 l.day (fh (bw hi));left
def EB (ns:Zb) (a b:Nat):∃ l:Zb,pV (ns.map V.int) (some (a:Int)) (some (b:Int))=l.map V.int/\l.length<=b-a:=by
 refine⟨(ns.drop (min a ns.length)).take (min b ns.length-min a ns.length),?_,?_⟩
 ·unfold pV;rw[HT.xB,HT.xB,ak,List.map_take,nU]
 ·rw[fK,cR];left
def FrK (ed dn de cl sd nw sk lg:Addr) (G G':Hp):Prop:=∀ c o,c≠ed->c≠dn->c≠de->c≠cl->c≠sd->c≠nw->c≠sk->c≠lg->G c=some o->G' c=some o
def FrK.tup {Ad:Ads}{G G':Hp}{ed b ca dn de cl sd st nw sk lg:Addr}{M:Int}{i:Nat}{es:List Ben}{lk:Lk}{l0:Int}{m:Nat}{gs:List Lge} (f:FrK ed dn de cl sd nw sk lg G G') (I:KI Ad G ed b ca dn de cl sd st nw sk lg M i es lk l0 m gs):∀ c xs,G c=some (.tup xs)->G' c=some (.tup xs):=fun c xs e=>by obtain⟨dx,he⟩:=I.E.eF;obtain⟨cs,hcl,_⟩:=I.E.cF;obtain⟨kv2,hsd,_⟩:=I.E.sF;obtain⟨kv3,hsk,_⟩:=I.S.k;obtain⟨ls2,hlg,_⟩:=I.S.g;exact f c _ (bh e he (by intro z;cases z)) (bh e I.E.bF.hn (by intro z;cases z)) (bh e I.E.bF.he (by intro z;cases z)) (bh e hcl (by intro z;cases z)) (bh e hsd (by intro z;cases z)) (bh e I.S.n (by intro z;cases z)) (bh e hsk (by intro z;cases z)) (bh e hlg (by intro z;cases z)) e
def K6 {es:List Ben}{lk:Lk}{day n:Int} (h:jb es lk day key n=true):n∉es.map (·.num)/\jf lk day key n=false:=by unfold jb at h;rw[cm] at h;exact⟨fun z=>by rw[ar z] at h;exact absurd h.1 (by decide),by cases hb:jf lk day key n with | false=>rfl | true=>rw[hb] at h;exact absurd h.2 (by decide)⟩
def Fg {es:List Ben}{lk:Lk}{day n:Int} (h:jb es lk day key n=false):n∈es.map (·.num)∨jf lk day key n=true:=by
 unfold jb at h
 by_cases hj:n∈es.map (·.num)
 ·exact .inl hj
 ·rw[ay hj] at h;refine .inr ?_;cases hb:jf lk day key n with
  | true=>rfl
  | false=>rw[hb] at h;exact absurd h (by decide)
structure Did (Ad:Ads) (G1 G:Hp) (ed b ca dn de cl sd:Addr) (M:Int) (es:List Ben) (lk:Lk) (m:Nat) (gs:List Lge) (g:Lge):Prop where
 E:lQ Ad G ed b ca dn de cl sd (fS es g) (if g.str then (fun i=>if i=g.num then some (g.day,g.key) else lk i) else lk) g.day (m+1) ((gs++[g]).map fO)
 k:∀ c o,c≠ed->c≠dn->c≠de->c≠cl->c≠sd->G1 c=some o->G c=some o
 hs:g.str=true->∃ e∈es,e.num=g.num/\e.key=g.key
 hp:g.str=false->g.num∉es.map (·.num)/\g.key∉es.map (·.key)
 hn:0<=g.num/\g.num<M
def KI.far {Ad:Ads}{G G':Hp}{ed b ca dn de cl sd st nw sk lg:Addr}{es:List Ben}{lk:Lk}{gs:List Lge} (h:KI Ad G ed b ca dn de cl sd st nw sk lg M i es lk l0 m gs) (at_:∀ c∈[ed,b,dn,de,cl,sd,st,nw,sk,lg],∀ o,G c=some o->G' c=some o)
  (tup:∀ c xs,G c=some (.tup xs)->G' c=some (.tup xs)):KI Ad G' ed b ca dn de cl sd st nw sk lg M i es lk l0 m gs:=by
 obtain⟨⟨⟨dx,h1⟩,⟨⟨bx,b1⟩,b2,b3,b4,b5,b6⟩,⟨cs,h3,h4,h4'⟩,⟨kvs,h5,h6,h7⟩,h8⟩,⟨s1,s2,⟨kv,s3,s4,s5⟩,⟨ls,s6,s7,s8,s8'⟩,s9,s10,s11,s12⟩,mi,er,ro,up,lo,gp,gl,lM⟩:=h;exact⟨⟨⟨dx,at_ _ (by simp) _ h1⟩,⟨⟨bx,at_ _ (by simp) _ b1⟩,at_ _ (by simp) _ b2,at_ _ (by simp) _ b3,fun e he=>tup _ _ (b4 e he),b5,b6⟩,⟨cs,at_ _ (by simp) _ h3,h4,kI h4' tup⟩,⟨kvs,at_ _ (by simp) _ h5,h6.past tup,h7⟩,h8⟩,
  ⟨at_ _ (by simp) _ s1,at_ _ (by simp) _ s2,⟨kv,at_ _ (by simp) _ s3,s4.past tup,s5⟩,⟨ls,at_ _ (by simp) _ s6,s7,s8.imp id fun ⟨t,a,b,c,e,e2⟩=>⟨t,a,b,c,e,tup _ _ e2⟩,mM s8' tup⟩,fun e he=>⟨tup _ _ (s9 e he).1,(s9 e he).2⟩,s10,s11,s12⟩,mi,er,ro,up,lo,fun l hl=>⟨tup _ _ (gp l hl).1,(gp l hl).2⟩,gl,lM⟩
structure Sd where
 (ed b dn de cl sd st nw sk lg:Addr)
structure Ss where
 (es:List Ben) (lk:Lk) (l0:Int) (m:Nat) (gs:List Lge)
def Sd.six (A:Sd):List Addr:=[A.ed,A.b,A.dn,A.de,A.cl,A.sd]
def Sd.four (A:Sd):List Addr:=[A.st,A.nw,A.sk,A.lg]
def Sd.has (A:Sd) (c:Addr):Prop:=c∈A.six∨c∈A.four
def KS (Ad:Ads) (G:Hp) (ca:Addr) (M:Int) (i:Nat) (A:Sd) (t:Ss):Prop:=KI Ad G A.ed A.b ca A.dn A.de A.cl A.sd A.st A.nw A.sk A.lg M i t.es t.lk t.l0 t.m t.gs
structure Hld (Ad:Ads) (Z G:Hp) (ca:Addr) (M:Int) (v:V):Prop where
 mk ::
 ex:∃ (p b dn de D:Addr) (es ms:List Ben) (ws:List V),v=.ref p/\G p=some (.tup [.ref b,.ref D])/\cq Ad G b ca dn de es/\es.length<64/\(∀ e∈es,eu e.key/\0<=e.num/\e.num<M)/\G D=some (.lst ws)/\Paired (fun v (m:Ben)=>∃ p,v=V.ref p/\G p=some (.tup [.int m.num,.ref m.adr])) ws ms/\(∀ m∈ms,G m.adr=some (.tup (m.key.map kV)))/\(ms.map (·.num)).Pairwise (·<·)/\(ms.map nk).Perm (es.map nk)/\Z b=none/\Z dn=none/\Z de=none/\Z D=none
def Hld.far {Ad:Ads}{Z G G':Hp} (h:Hld Ad Z G ca M v) (f:∀ c o,Z c=none->G c=some o->G' c=some o) (tup:∀ c xs,G c=some (.tup xs)->G' c=some (.tup xs)):Hld Ad Z G' ca M v:=by obtain⟨p,b,dn,de,D,es,ms,ws,e,hp,⟨⟨bx,b1⟩,b2,b3,b4,b5,b6⟩,l,he,hD,P,hm,pw,pm,z1,z2,z3,z4⟩:=h.ex;exact⟨p,b,dn,de,D,es,ms,ws,e,tup _ _ hp,⟨⟨bx,f _ _ z1 b1⟩,f _ _ z2 b2,f _ _ z3 b3,fun e he=>tup _ _ (b4 e he),b5,b6⟩,l,he,f _ _ z4 hD,gB (fun v m ⟨p,e,h⟩=>⟨p,e,tup _ _ h⟩) P,fun m h=>tup _ _ (hm m h),pw,pm,z1,z2,z3,z4⟩
def lQ.six {Ad:Ads}{ed b ca dn de cl sd:Addr}{es:List Ben}{lk:Lk}{day:Int}{ch:List Chg} (h:lQ Ad H ed b ca dn de cl sd es lk day m ch):∀ c∈[ed,b,dn,de,cl,sd],∃ o,H c=some o:=fun c hc=>by
 obtain⟨dx,h1⟩:=h.eF;obtain⟨bx,h2⟩:=h.bF.bk;obtain⟨cs,h3,_⟩:=h.cF;obtain⟨kv,h4,_⟩:=h.sF;simp only[aJ,dh,dm] at hc;rcases hc with rfl | rfl | rfl | rfl | rfl | rfl
 ·exact⟨_,h1⟩
 ·exact⟨_,h2⟩
 ·exact⟨_,h.bF.hn⟩
 ·exact⟨_,h.bF.he⟩
 ·exact⟨_,h3⟩
 ·exact⟨_,h4⟩
def StA.four {st nw sk lg:Addr}{es:List Ben}{lk:Lk}{gs:List Lge} (h:StA H st nw sk lg es lk l0 m gs):∀ c∈[st,nw,sk,lg],∃ o,H c=some o:=fun c hc=>by
 obtain⟨kv,h3,_⟩:=h.k;obtain⟨ls,h4,_⟩:=h.g;simp only[aJ,dh,dm] at hc;rcases hc with rfl | rfl | rfl | rfl
 ·exact⟨_,h.s⟩
 ·exact⟨_,h.n⟩
 ·exact⟨_,h3⟩
 ·exact⟨_,h4⟩
def gA {X:Hp}{l1 l2:List Addr} (h1:∀ c∈l1,∃ o,X c=some o) (h2:∀ c∈l2,X c=none):∀ c∈l1,∀ c'∈l2,c'≠c:=fun c hc c' hc' z=>by obtain⟨o,e⟩:=h1 c hc;rw[←z,h2 c' hc'] at e;cases e
def Bd {Ad:Ads}{E:XK} (k:∀ ed b dn de cl sd G,(∀ c∈[ed,b,dn,de,cl,sd],H c=none)->ax H G->lQ Ad G ed b ca dn de cl sd [] (fun _=>none) 0 0 []->R ed G) :
  ∀ (x dx:Addr) (H2:Hp),H x=none->H dx=none->dx≠x->ax H H2->H2 x=some (.ins Ad.Editions dx [])->H2 dx=some (.own x)->fR Ad [.ref x,.ref ca] H2 (fun v H3=>v=.non/\R x H3) E:=by
 intro ed edx G1 hed hedx nedx t1 g1 g1x;refine⟨ed,edx,ca,rfl,g1,fun b dn de cl sd G2 fb fn fd' fc fs nns k2 h2 B2 hcl hsd=>⟨rfl,?_⟩⟩;refine k ed b dn de cl sd G2 (fun c hc=>?_) (fun c o e=>k2 c o (fun z=>by rw[z,hed] at e;cases e) (t1 _ _ e)) ⟨⟨edx,h2⟩,B2,⟨_,hcl,aq _,.nil⟩,⟨_,hsd,fun n=>.inl ⟨rfl,rfl⟩,aq _⟩,nns⟩;simp only[aJ,dh,dm] at hc;rcases hc with rfl | rfl | rfl | rfl | rfl | rfl
 ·exact hed
 ·exact t1.free fb
 ·exact t1.free fn
 ·exact t1.free fd'
 ·exact t1.free fc
 ·exact t1.free fs
def BM (k:∀ st nw sk lg G,(∀ c∈[st,nw,sk,lg],H c=none)->ax H G->StA G st nw sk lg [] (fun _=>none) 0 0 []->R st G) :
  ∀ nw G3,H nw=none->ax H G3->G3 nw=some (.dK [])->∀ sk G4,G3 sk=none->ax G3 G4->G4 sk=some (.dK [])->0<=sizeLine/\∀ lg G5,G4 lg=none->ax G4 G5->G5 lg=some (.lst [])->3<=sizeLine/\∀ st G6,G5 st=none->ax G5 G6->G6 st=some (.lst [.ref nw,.ref sk,.ref lg])->R st G6:=by
 intro nw G3 hnw t3 g3 sk G4 hsk t4 g4;refine⟨bH _,fun lg G5 hlg t5 g5=>⟨aT (ao Zd),fun st G6 hst t6 g6=>?_⟩⟩;refine k st nw sk lg G6 (fun c hc=>?_) (t3.trans (t4.trans (t5.trans t6))) ⟨g6,(t4.trans (t5.trans t6)) _ _ g3,⟨_,(t5.trans t6) _ _ g4,fun n=>.inl ⟨rfl,rfl⟩,aq _⟩,⟨_,t6 _ _ g5,aq _,.inl rfl,.nil⟩,(fun e he=>by cases he),.nil,(fun z=>by rw[←z,g3] at hsk;cases hsk),(fun z=>by rw[z,g5] at hst;cases hst)⟩;simp only[aJ,dh,dm] at hc;rcases hc with rfl | rfl | rfl | rfl
 ·exact (t3.trans (t4.trans t5)).free hst
 ·exact hnw
 ·exact t3.free hsk
 ·exact (t3.trans t4).free hlg
def FrS (A:Sd) (G G':Hp):Prop:=∀ c o,¬ A.has c->G c=some o->G' c=some o
def KS.frm {Ad:Ads}{G G':Hp}{A:Sd}{t:Ss} (h:KS Ad G ca M i A t) (f:∀ c o,A.has c->G c=some o->G' c=some o) (tup:∀ c xs,G c=some (.tup xs)->G' c=some (.tup xs)):KS Ad G' ca M i A t :=
 KI.far h (fun c hc o e=>f c o (by unfold Sd.has Sd.six Sd.four;simp only[aJ,dh,dm] at hc;rcases hc with rfl | rfl | rfl | rfl | rfl | rfl | rfl | rfl | rfl | rfl<;>simp) e) tup
def KS.nt {Ad:Ads}{G:Hp}{A:Sd}{t:Ss} (h:KS Ad G ca M i A t)  (hc:A.has c)  (e:G c=some (.tup xs)):False:=by
 obtain⟨⟨⟨dx,h1⟩,⟨⟨bx,b1⟩,b2,b3,_⟩,⟨cs,h3,_⟩,⟨kvs,h5,_⟩,_⟩,⟨s1,s2,⟨kv,s3,_⟩,⟨ls,s6,_⟩,_⟩,_⟩:=h;unfold Sd.has Sd.six Sd.four at hc;simp only[aJ,dh,dm] at hc;rcases hc with (rfl | rfl | rfl | rfl | rfl | rfl) | (rfl | rfl | rfl | rfl)
 ·rw[h1] at e;cases e
 ·rw[b1] at e;cases e
 ·rw[b2] at e;cases e
 ·rw[b3] at e;cases e
 ·rw[h3] at e;cases e
 ·rw[h5] at e;cases e
 ·rw[s1] at e;cases e
 ·rw[s2] at e;cases e
 ·rw[s3] at e;cases e
 ·rw[s6] at e;cases e
def Sd.out {A:Sd} (h:¬ A.has c):c≠A.ed/\c≠A.dn/\c≠A.de/\c≠A.cl/\c≠A.sd/\c≠A.nw/\c≠A.sk/\c≠A.lg:=by refine⟨?_,?_,?_,?_,?_,?_,?_,?_⟩<;>(rintro rfl;exact h (by unfold Sd.has Sd.six Sd.four;simp))
def A7 (K:Zf) (tb tb1:Addr):Sp:=fun vs H Q _=>∃ (a:Addr) (ns:Zb),vs=[.ref a]/\SqL K H a (ns.map V.int)/\ns.length<=63/\H tb=some (jG vw)/\H tb1=some (jG yw)/\∀ H',Q (.bl true) H'
def fF:aI ["_law_script","_law_parts","_law_many_here","_law_pool_here","_law_code","_law_both","_law_states","_law_held","_law_deeds_here","_law_k","_law_number","_law_side","_law_due_here","_law_day","_law_book"] ["_law_script"] (av qy):=by subst_eqs
def KY (F:Fun K "law" "law" qy f fd) (T:Bl mg) (AF:AdF K mg Ad) (C_law_is_edition:Fnc P w K mg base (CX1 P w) 5 "_law_is_edition" ["_law_book","_law_due_here"] (gY K Ad)) (C_read:Fnc P w K mg base (CX1 P w) 8 "read" ["text"] (BL Ad)) (C_shown:Fnc P w K mg base (CX1 P w) 4 "shown" ["book"] (qJ Ad)) (C_law_edition:Fnc P w K mg base (CX1 P w) 1 "_law_edition" ["_law_state","_law_day"] (jE K)) (C_law_spoil:Fnc P w K mg base (CX1 P w) 7 "_law_spoil" ["_law_book","_law_pool_here","_law_number"] (mx Ad)) (C_law_kept:Fnc P w K mg base (CX1 P w) 1 "_law_kept" ["_law_state","_law_deed","_law_number"] (n6 K)) (C_law_did:Fnc P w K mg base (CX1 P w) 8 "_law_did" ["_law_editions","_law_deed"] (pJ K Ad)) (C_law_due:Fnc P w K mg base (CX1 P w) 2 "_law_due" ["_law_state","_law_many_here","_law_deed"] (pK K)) (C_law_mixed:Fnc P w K mg base (CX1 P w) 1 "_law_mixed" ["_law_cell"] jo) (C_law_cell_at:Fnc P w K mg base (CX1 P w) 1 "_law_cell_at" ["_law_script","_law_k"] (jD K)) (C_law_deeds:Fnc P w K mg base (CX1 P w) 2 "_law_deeds" ["_law_cells","_law_pool_here","_law_many_here","_law_first"] (mw K)) (C_law_pool:Fnc P w K mg base (CX1 P w) 1 "_law_pool" ["_law_cell"] tF) (C_law_many:Fnc P w K mg base (CX1 P w) 1 "_law_many" ["_law_parts"] n8) (C_law_code_parts:Fnc P w K mg base (CX1 P w) 3 "_law_code_parts" ["_law_script"] (kg K)) (M_Editions_book:Mtd P w K mg base (CX1 P w) Ad.Editions "book" 7 ["self","day"] (i5 Ad)) (M_Code_alphabet:Mtd P w K mg base (CX1 P w) Ad.Code "alphabet" 1 ["self"] (i3 Ad)) (M_Book_code:pP P w K mg base (CX1 P w) Ad.Book "code" 1 ["self"] (eX Ad)) (K_Editions:Mak P w K mg base (CX1 P w) Ad.Editions "Editions" 3 ["self","code"] (fR Ad)) (K_Code:Mak P w K mg base (CX1 P w) Ad.Code "Code" 4 ["self","alphabet","weights","rest"] (fQ Ad)):bS P w K mg base (CX1 P w) 9 f fd ["_law_script"] (A7 K Ad.tb Ad.tb1):=by
 refine F.okX (k:=8) fF ?_ ?_
 ·bv_decide
 ·right;obtain⟨a,ns,rfl,hS,hlen,Tb,Tb1,k⟩:=h;refine⟨_,ae (aF (i:=1) fF.nd (aG C_law_code_parts aw (hr.mono Zd) (ah (pvL 0) (aa)))) (ae (aF (i:=2) fF.nd (aG C_law_many aw (hr.mono Zd) (ah (pvL 1) (aa)))) (ae (aF (i:=3) fF.nd (aG C_law_pool aw (hr.mono Zd) (ah (aG C_law_mixed aw (hr.mono Zd) (ah (aG C_law_cell_at aw (hr.mono Zd) (ah (pvL 0) (ah (au) (aa)))) (aa))) (aa)))) (ae (aF (i:=4) fF.nd (jz K_Code aw (hr.mono Zd) (ah (b7 (cn (K:=K) rfl) (pvL 1) (au) (fun _ _=>rfl)) (ah (fB (lU (K:=K) rfl rfl) T.list pT (ah (b7 (cn (K:=K) rfl) (pvL 1) (au) (fun _ _=>rfl)) (aa))) (ah (b7 (cn (K:=K) rfl) (pvL 1) (au) (fun _ _=>rfl)) (aa)))))) (ae (aF (i:=5) fF.nd (bR (ah (jz K_Editions aw (hr.mono Zd) (ah (pvL 4) (aa))) (ah (jz K_Editions aw (hr.mono Zd) (ah (pvL 4) (aa))) (aa))))) (ae (aF (i:=6) fF.nd (bR (ah (bR (ah (iE) (ah (iE) (ah (bR (aa)) (aa))))) (ah (bR (ah (iE) (ah (iE) (ah (bR (aa)) (aa))))) (aa))))) (ae (aF (i:=7) fF.nd (bR (aa))) (ae (aF (i:=8) fF.nd (aG C_law_deeds aw (hr.mono Zd) (ah (iF (tj (K:=K) rfl) (pvL 0) (jh (au)) (jh (au))) (ah (pvL 3) (ah (pvL 2) (ah (au) (aa))))))) (ae (iT dD rfl (gv T.range (ah (aA (bG (K:=K) rfl) T.len cG (ah (pvL 8) (aa))) (aa))) (aC (i:=9) fF.nd) (ae (aF (i:=10) fF.nd (aG C_law_mixed aw (hr.mono Zd) (ah (aR br (aG C_law_cell_at aw (hr.mono Zd) (ah (pvL 0) (ah (aR br (au) (pvL 9)) (aa)))) (au)) (aa)))) (ae (aF (i:=11) fF.nd (aR cw (pvL 10) (au))) (ae (aF (i:=12) fF.nd (aG C_law_due aw (hr.mono Zd) (ah (b7 (cn (K:=K) rfl) (pvL 6) (pvL 11) (fun _ _=>rfl)) (ah (pvL 2) (ah (b7 (cn (K:=K) rfl) (pvL 8) (pvL 9) (fun _ _=>rfl)) (aa)))))) (ae (bC (aP (iu (K:=K) rfl hu) (aG C_law_did aw (hr.mono Zd) (ah (b7 (cn (K:=K) rfl) (pvL 5) (pvL 11) (fun _ _=>rfl)) (ah (b7 (cn (K:=K) rfl) (pvL 8) (pvL 9) (fun _ _=>rfl)) (aa)))) (pvL 12) (aU _)) (aj (aH (gP))) (aQ)) (ae (bC (c9 (cb (aA (e8 .str) T.isinstance bt_isinstance (ah (pvL 12) (ah (iS T.str mG) (aa)))))) (aj (dF (aG C_law_kept aw (hr.mono Zd) (ah (b7 (cn (K:=K) rfl) (pvL 6) (pvL 11) (fun _ _=>rfl)) (ah (b7 (cn (K:=K) rfl) (pvL 8) (pvL 9) (fun _ _=>rfl)) (ah (pvL 12) (aa))))))) (aQ)) (ae (aF (i:=13) fF.nd (aR cw (aR cQ (pvL 10) (au)) (aR br (b7 (cn (K:=K) rfl) (b7 (cn (K:=K) rfl) (pvL 8) (pvL 9) (fun _ _=>rfl)) (au) (fun _ _=>rfl)) (au)))) (ae (aF (i:=14) fF.nd (bZ M_Editions_book aw (hr.mono Zd) (b7 (cn (K:=K) rfl) (pvL 5) (pvL 11) (fun _ _=>rfl)) (ah (pvL 13) (aa)))) (ae (bC ((jd (aP (iu (K:=K) rfl hu) (cT M_Code_alphabet aw (hr.mono Zd) (cT M_Book_code.mtd aw (hr.mono Zd) (pvL 14))) (b7 (cn (K:=K) rfl) (pvL 1) (au) (fun _ _=>rfl)) (aU _)) (gx (c9 (cb (aG C_law_is_edition aw (hr.mono Zd) (ah (pvL 14) (ah (aG C_law_edition aw (hr.mono Zd) (ah (b7 (cn (K:=K) rfl) (pvL 6) (pvL 11) (fun _ _=>rfl)) (ah (pvL 13) (aa)))) (aa)))))))).pt) (aj (aH (gP))) (aQ)) (ae (bC ((mW (aP (c8 (K:=K) rfl hu) (aR cw (aR cQ (pvL 10) (au)) (au)) (au) (aU _)) (jZ (c9 (cb (aG C_law_spoil aw (hr.mono Zd) (ah (pvL 14) (ah (pvL 3) (ah (aR cQ (pvL 10) (au)) (aa))))))))).pt) (aj (aH (gP))) (aQ)) (ae (bC (c9 (cb (aG C_law_is_edition aw (hr.mono Zd) (ah (bZ M_Editions_book aw (hr.mono Zd) (b7 (cn (K:=K) rfl) (pvL 5) (pvL 11) (fun _ _=>rfl)) (ah (pvL 13) (aa))) (ah (aG C_law_edition aw (hr.mono Zd) (ah (b7 (cn (K:=K) rfl) (pvL 6) (pvL 11) (fun _ _=>rfl)) (ah (pvL 13) (aa)))) (aa)))))) (aj (aH (gP))) (aQ)) (aj (bC ((mW (aP (c8 (K:=K) rfl hu) (aR cw (aR cQ (pvL 10) (au)) (au)) (au) (aU _)) (jZ (aP ph (pvL 13) (b7 (cn (K:=K) rfl) (b7 (cn (K:=K) rfl) (pvL 8) (pvL 9) (fun _ _=>rfl)) (au) (fun _ _=>rfl)) (aU _)))).pt) (aj (dF (eD (K:=K) rfl lH oa oh iq (pvL 7) (ah (cx (ah (pvL 14) (ah (aG C_law_edition aw (hr.mono Zd) (ah (b7 (cn (K:=K) rfl) (pvL 6) (pvL 11) (fun _ _=>rfl)) (ah (pvL 13) (aa)))) (aa)))) (aa))))) (aQ)))))))))))))) (ae (iT dD rfl (cE (K:=K) rfl (pvL 7)) (jg (K:=K) (n:=2) rfl rfl (aY (aC (i:=14) fF.nd) (aY (aC (i:=12) fF.nd) (eT)))) (aj (bC ((jd (c9 (cb (aG C_law_is_edition aw (hr.mono Zd) (ah (pvL 14) (ah (pvL 12) (aa)))))) (gx (c9 (cb (aG C_law_is_edition aw (hr.mono Zd) (ah (aG C_read aw (hr.mono Zd) (ah (aG C_shown aw (hr.mono Zd) (ah (pvL 14) (aa))) (aa))) (ah (pvL 12) (aa)))))))).pt) (aj (aH (gP))) (aQ)))) (aj (aH (gP)))))))))))),?_⟩;have big:∀ {u:Nat},u<=1000->u<=sizeLine:=fun hu=>aT (ao (by left));grind;refine⟨a,ns,rfl,hS,fun p q al ws r H1 s1 hP ok a9 w3 w6=>?_⟩;cbv;grind;refine⟨p,q,al,ws,r,rfl,hP,by left,by left,by left,fun H2 s2=>?_⟩;cbv;have s02:=s1.trans s2;grind;refine⟨a,ns,1,rfl,s02.seq hS,Zd,?_⟩;generalize ns.getD (1:Int).toNat 0=c0;refine⟨c0,rfl,?_⟩;have z0:=tU c0;generalize Dw c0=z at z0;refine⟨z,rfl,z0,fun D x y H3 s3 x1 x2 y1 y2 hxy hPo=>?_⟩;obtain⟨ts,hD,hts⟩:=hPo;have nd:=Jf hxy x1 y1;have en:=BA x1 x2 y1 y2;cbv;have s03:=s02.trans s3;have Pt:Parts H3 p q al ws r:=⟨(s2.trans s3) _ _ hP.1,(s2.trans s3) _ _ hP.2⟩;grind;refine⟨_,_,.l Pt.1,bf (j:=0) rfl,_,_,.l Pt.1,bf (j:=1) rfl,?_⟩;symm;refine⟨_,.inl (.l Pt.2),fun qn F3 hqn f3 hq3=>⟨_,_,.l (f3 _ _ Pt.1),bf (j:=2) rfl,fun ca cd F4 hca hcd hcc f4 h4a h4d=>?_⟩⟩;refine vM h4a (f4 _ _ hq3) ok fun H5 s5 C5=>⟨rfl,?_⟩;have s35:ax H3 H5:=fun b o e=>by
   have hb:b≠ca:=fun e2=>by rw[←e2,f3 _ _ e] at hca;cases hca
   exact s5 b o hb (f4 _ _ (f3 _ _ e))
  have s05:=s03.trans s35;clear h4a h4d f4 hca hcd hcc hq3 f3 hqn s5;cbv;grind;refine Bd fun ed b dn de cl sd G1 f1 t1 E1=>?_;refine Bd fun ed' b' dn' de' cl' sd' G2 f2 t2 E2=>⟨big Zd,fun bo G3 hbo t3 g3=>?_⟩;cbv;grind;refine BM fun st nw sk lg G4 f4 t4 S4=>?_;refine BM fun st' nw' sk' lg' G5 f5 t5 S5=>⟨big Zd,fun so G6 hso t6 g6=>?_⟩;cbv;grind;refine⟨bH _,fun hl G7 hhl t7 g7=>?_⟩;cbv;grind;have T57:ax H5 G7:=t1.trans (t2.trans (t3.trans (t4.trans (t5.trans (t6.trans t7)))));have h9M:bX al ws<=100000/\1<=bX al ws:=by have a3:=ok.a3;have h:al.length^(ws.length-1)<=9^5:=bQ (rh (by left) _) (nX Zd (by left));have h':0<al.length^(ws.length-1):=Nat.pow_pos (by left);have h:al.length^(ws.length-1)<=59049:=h;show (al.length:Int)^(ws.length-1)<=100000/\1<=(al.length:Int)^(ws.length-1);rw[←Int.natCast_pow];left
  refine⟨_,(s05.trans T57).seq hS,fun p11 G11 hp11 t11 g11=>?_⟩;obtain⟨l1,el1,ll1⟩:=EB ns 2 26;rw[show pV (ns.map V.int) (some 2) (some 26)=l1.map V.int from el1] at g11;have hts5:=oH ((s35.trans T57).trans t11) hts;refine⟨p11,D,l1,ts,bX al ws,0,x,y,rfl,.of g11,by left,((s35.trans T57).trans t11) _ _ hD,hts5,h9M.2,h9M.1,by left,by left,fun L ls ds G12 hL t12 gL pd dsl dok=>?_⟩;have T7:ax G7 G12:=t11.trans t12;have T5:ax H5 G12:=T57.trans T7;have hts12:=oH (s35.trans T5) hts;cbv
  -- which are apart from which
  have c1:=gA (X:=G1) E1.six f2;have u3:ax G1 G3:=t2.trans t3;have u4:=u3.trans t4;have E14:=E1.same u4;have E24:=E2.same (t3.trans t4);have c2:=gA (X:=G4) E14.six f5;have c3:=gA (X:=G3) (E2.same t3).six f4;have c4:=gA (X:=G4) S4.four f5;have c5:=gA (X:=G3) (E1.same u3).six f4;have c6:=gA (X:=G4) E24.six f5;have K0:KS Ad G12 ca (bX al ws) 0 ⟨ed,b,dn,de,cl,sd,st,nw,sk,lg⟩ ⟨[],fun _=>none,0,0,[]⟩:=⟨E14.same (t5.trans (t6.trans (t7.trans T7))),S4.same (t5.trans (t6.trans (t7.trans T7))),aq _,rfl,.nil,.nil,(fun l hl=>by cases hl),(fun l hl=>by cases hl),aq _,fun _ _=>rfl⟩;have K1:KS Ad G12 ca (bX al ws) 0 ⟨ed',b',dn',de',cl',sd',st',nw',sk',lg'⟩ ⟨[],fun _=>none,0,0,[]⟩:=⟨E24.same (t5.trans (t6.trans (t7.trans T7))),S5.same (t6.trans (t7.trans T7)),aq _,rfl,.nil,.nil,(fun l hl=>by cases hl),(fun l hl=>by cases hl),aq _,fun _ _=>rfl⟩;generalize eA:(⟨ed,b,dn,de,cl,sd,st,nw,sk,lg⟩:Sd)=A0 at K0;generalize eB:(⟨ed',b',dn',de',cl',sd',st',nw',sk',lg'⟩:Sd)=A1 at K1;have ap01:∀ c,A1.has c->¬ A0.has c:=by
   subst eA eB;rintro c (h | h) (h' | h')
   ·exact c1 c h' c h rfl
   ·exact c3 c h c h' rfl
   ·exact c2 c h' c h rfl
   ·exact c4 c h' c h rfl
  have ap0:∀ c∈A0.six,∀ c'∈A0.four,c'≠c:=by subst eA;exact c5
  have ap1:∀ c∈A1.six,∀ c'∈A1.four,c'≠c:=by subst eB;exact c6
  have G12s:∀ {A:Sd}{v:Ss},KS Ad G12 ca (bX al ws) 0 A v->∀ c,A.has c->∃ o,G12 c=some o:=fun kk c hc=>hc.elim (fun h=>kk.E.six c h) fun h=>kk.S.four c h;have nb:∀ c,(∃ o,H5 c=some o)∨c=bo∨c=so∨c=L->¬ A0.has c/\¬ A1.has c/\c≠hl:=by
   have no:∀ {X:Hp}{l:List Addr}{c:Addr}{o:HO},X c=some o->(∀ c∈l,X c=none)->c∉l:=fun e h hc=>by rw[h _ hc] at e;cases e
   have yes:∀ {X:Hp}{l:List Addr}{c:Addr},X c=none->(∀ c∈l,∃ o,X c=some o)->c∉l:=fun e h hc=>by obtain⟨o,e'⟩:=h _ hc;rw[e] at e';cases e'
   subst eA eB;rintro c (⟨o,e⟩ | rfl | rfl | rfl)
   ·exact⟨fun h=>h.elim (no e f1) (no (u3 _ _ (t1 _ _ e)) f4),fun h=>h.elim (no (t1 _ _ e) f2) (no (u4 _ _ (t1 _ _ e)) f5),fun z=>by rw[←z,(t1.trans (t2.trans (t3.trans (t4.trans (t5.trans t6))))) _ _ e] at hhl;cases hhl⟩
   ·exact⟨fun h=>h.elim (yes hbo (E1.same t2).six) (no g3 f4),fun h=>h.elim (yes hbo E2.six) (no (t4 _ _ g3) f5),fun z=>by rw[←z,(t4.trans (t5.trans t6)) _ _ g3] at hhl;cases hhl⟩
   ·exact⟨fun h=>h.elim (yes hso (E14.same t5).six) (yes hso (S4.same t5).four),fun h=>h.elim (yes hso (E24.same t5).six) (yes hso S5.four),fun z=>by rw[←z,g6] at hhl;cases hhl⟩
   ·have v5:=t5.trans (t6.trans (t7.trans t11));have v6:=t6.trans (t7.trans t11);exact⟨fun h=>h.elim (yes hL (E14.same v5).six) (yes hL (S4.same v5).four),fun h=>h.elim (yes hL (E24.same v5).six) (yes hL (S5.same v6).four),fun z=>by rw[z,t11 _ _ g7] at hL;cases hL⟩
  have nhl:¬ A0.has hl/\¬ A1.has hl:=by
   have yes:∀ {l:List Addr},(∀ c∈l,∃ o,G6 c=some o)->hl∉l:=fun h hc=>by obtain⟨o,e'⟩:=h _ hc;rw[hhl] at e';cases e'
   subst eA eB;exact⟨fun h=>h.elim (yes (E14.same (t5.trans t6)).six) (yes (S4.same (t5.trans t6)).four),fun h=>h.elim (yes (E24.same (t5.trans t6)).six) (yes (S5.same t6).four)⟩
  have g7':=T7 _ _ g7;have gbo:=(t4.trans (t5.trans (t6.trans (t7.trans T7)))) _ _ g3;have gso:=(t7.trans T7) _ _ g6;have ed0:A0.ed=ed/\A0.st=st:=by subst eA;exact⟨rfl,rfl⟩
  have ed1:A1.ed=ed'/\A1.st=st':=by subst eB;exact⟨rfl,rfl⟩
  rw[←ed0.1,←ed1.1] at gbo;rw[←ed0.2,←ed1.2] at gso;clear eA eB c1 c2 c3 c4 c5 c6 E14 E24 E1 E2 S4 S5 f1 f2 f4 f5 u3 u4 hbo hso hhl t1 t2 t3 t4 t5 t6 t7 g3 g6 g7 ed0 ed1 t11 t12 g11 hp11 hL;generalize hMM:bX al ws=M at h9M K0 K1 dok G12s ⊢;have lsl:ls.length=ds.length:=Paired.length pd;show AD _ _ _ _ _;grind;refine⟨_,.l gL,?_⟩;refine⟨by left,by omega,Ff (fun i σ G=>(∃ o9 o10 o11 o12 o13 o14,σ=[some (V.ref a),some (V.ref p),some (V.int M),some (V.ref D),some (V.ref ca),some (V.ref bo),some (V.ref so),some (V.ref hl),some (V.ref L),o9,o10,o11,o12,o13,o14])/\(∃ u0 u1:Ss,KS Ad G ca M i A0 u0/\KS Ad G ca M i A1 u1/\(∀ d∈ds.drop i,u0.l0<=d.day)/\∀ d∈ds.drop i,u1.l0<=d.day)/\(∀ c o,¬ A0.has c->¬ A1.has c->c≠hl->G12 c=some o->G c=some o)/\∃ hs,G hl=some (.lst hs)/\hs.length<=i/\∀ v∈hs,Hld Ad G12 G ca M v) ?_ ?_ ?_⟩
  ·exact⟨⟨_,_,_,_,_,_,rfl⟩,⟨_,_,K0,K1,(fun d hd=>by have:=(dok.lo d (List.mem_of_mem_drop hd)).1;show (0:Int)<=_;left),(fun d hd=>by have:=(dok.lo d (List.mem_of_mem_drop hd)).1;show (0:Int)<=_;left)⟩,(fun c o _ _ _ e=>e),[],g7',aq _,fun v hv=>by cases hv⟩
  ·rintro i σ G hi ⟨⟨o9,o10,o11,o12,o13,o14,rfl⟩,⟨u0,u1,I0,I1,hu0,hu1⟩,fr,hs,ghl,hsl,hHld⟩ N hNx;clear hN;rw[pR,Int.zero_add];have F5:ax H5 G:=fun c o e=>let z:=nb c (.inl ⟨o,e⟩);fr c o z.1 z.2.1 z.2.2 (T5 _ _ e);have gL':=fr _ _ (nb L (by simp)).1 (nb L (by simp)).2.1 (nb L (by simp)).2.2 gL;have gbo':=fr _ _ (nb bo (by simp)).1 (nb bo (by simp)).2.1 (nb bo (by simp)).2.2 gbo;have gso':=fr _ _ (nb so (by simp)).1 (nb so (by simp)).2.1 (nb so (by simp)).2.2 gso;refine dY fun n2 hM=>?_;symm;refine⟨a,ns,_,rfl,(s05.trans F5).seq hS,by left,?_⟩;generalize ns.getD (2+(i:Int)).toNat 0=c0;symm;refine⟨c0+5,rfl,?_⟩;have z0:=tU (c0+5);generalize Dw (c0+5)=z at z0;rw[hM];clear hM n2;refine dY fun n2 hM=>?_;symm;refine⟨Zd,?_⟩;rw[hM];clear hM n2;obtain⟨A,B,u,w,IA,IB,hu,hw,apB,apA,sub,aE,aS,back⟩:∃ (A B:Sd) (u w:Ss),KS Ad G ca M i A u/\KS Ad G ca M i B w/\(∀ d∈ds.drop i,u.l0<=d.day)/\(∀ d∈ds.drop i,w.l0<=d.day)/\(∀ c,B.has c->¬ A.has c)/\(∀ c∈A.six,∀ c'∈A.four,c'≠c)/\(∀ c,A.has c->A0.has c∨A1.has c)/\atI [V.ref A0.ed,V.ref A1.ed] (z%2)=some (V.ref A.ed)/\atI [V.ref A0.st,V.ref A1.st] (z%2)=some (V.ref A.st)/\∀ (P:Sd->Ss->Prop) (u' w':Ss),P A u'->P B w'->∃ u0 u1,P A0 u0/\P A1 u1:=by
    rcases (show z%2=0∨z%2=1 by left) with e | e
    ·exact⟨A0,A1,u0,u1,I0,I1,hu0,hu1,ap01,ap0,(fun _=>.inl),by rw[e];rfl,by rw[e];rfl,fun P u' w' h1 h2=>⟨u',w',h1,h2⟩⟩
    ·exact⟨A1,A0,u1,u0,I1,I0,hu1,hu0,(fun c h h'=>ap01 c h' h),ap1,(fun _=>.inr),by rw[e];rfl,by rw[e];rfl,fun P u' w' h1 h2=>⟨w',u',h2,h1⟩⟩
   clear I0 I1 hu0 hu1 ap01 ap0 ap1 u0 u1;have hil:i<ds.length:=by left
   obtain⟨d,hd⟩:∃ d,ds[i]?=some d:=⟨_,b9 hil⟩;obtain⟨v0,hv0⟩:∃ v0,ls[i]?=some v0:=⟨_,b9 (by left)⟩;obtain⟨d',hd',q',rfl,hq⟩:=dz pd hv0;obtain rfl:d'=d:=Option.some.inj (hd'.symm.trans hd);have hdm:=bw hd;obtain⟨j,hj,hku⟩:=dok.fv _ hdm;obtain⟨key',hk',hkt⟩:=dz hts12 hj;obtain rfl:key'=d'.key:=Option.some.inj (hk'.symm.trans hku);have eo:=en _ (bw hku);have hy:=dok.num _ hdm;have hlo:=dok.lo _ hdm;have hdd:ds.drop i=d'::ds.drop (i+1):=by rw[nL hil];rw[b9 hil] at hd;rw[Option.some.inj hd]
   have hl0d:u.l0<=d'.day:=hu _ (by rw[hdd];exact bq);have hup:∀ d2∈ds.drop (i+1),d'.day<=d2.day:=fun d2 hd2=>by have:=dok.up;rw[←List.take_append_drop i ds,hdd,bL,bp] at this;exact (qY.mp (qX.mp this).2.1).1 _ (fh hd2)
   have hw1:∀ d2∈ds.drop (i+1),w.l0<=d2.day:=fun d2 hd2=>hw d2 (by rw[hdd];exact bD _ hd2);have ftup:∀ c xs,G12 c=some (.tup xs)->G c=some (.tup xs):=fun c xs e=>fr c _ (fun h=>K0.nt h e) (fun h=>K1.nt h e) (fun z=>by rw[z,g7'] at e;cases e) e;have hq:=ftup _ _ hq;have ht:=ftup _ _ hkt;have mi:=IA.mi;have gl:=IA.gl;have i40:i<40:=by left
   have rn:(u.es.map (·.num)).Nodup/\(u.es.map (·.key)).Nodup:=by rw[IA.er];exact IA.ro.nn
   clear hd hd' hj hkt hku hk' hdd hu hw hdm;obtain⟨str,day,t,key,y'⟩:=d';simp only at hq ht eo hy hlo hl0d hup;refine dY fun n2 hM=>?_;symm;refine⟨_,_,.l gso',aS,_,_,.l gL',bf (j:=i) hv0,?_⟩;refine⟨A.st,A.nw,A.sk,A.lg,q',t,u.es,u.lk,u.l0,M,day,u.m,u.gs,key,y',str,rfl,IA.S,by left,rn.2,by left,hq,ht,eo,hl0d,hy,by left,h9M.1,fun v G1 t1 du=>?_⟩;rw[hM];clear hM n2;have IA1:=IA.same t1 (aq _);have IB1:=IB.same t1 (aq _);have nA:∀ c,¬ A0.has c/\¬ A1.has c/\c≠hl->¬ A.has c:=fun c h z=>(sub c z).elim h.1 h.2.1;have F51:=F5.trans t1;have hq1:=t1 _ _ hq;have ht1:=t1 _ _ ht;have gbo1:=t1 _ _ gbo';have gso1:=t1 _ _ gso';have gL1:=t1 _ _ gL';clear hq ht gbo' gso' gL' IA ftup;show AD _ _ _ _ _;refine pW (fun σ G2=>σ=[some (V.ref a),some (V.ref p),some (V.int M),some (V.ref D),some (V.ref ca),some (V.ref bo),some (V.ref so),some (V.ref hl),some (V.ref L),some (V.int i),some (V.int z),some (V.int (z%2)),some v,o13,o14]/\((∃ s,v=V.str s/\ax G1 G2)∨∃ n,v=V.int n/\Did Ad G1 G2 A.ed A.b ca A.dn A.de A.cl A.sd M u.es u.lk u.m u.gs ⟨day,str,t,n,key⟩)) ?_ ?_
   ·rintro σ G2 ⟨rfl,hR⟩;refine pW (fun σ G3=>σ=[some (V.ref a),some (V.ref p),some (V.int M),some (V.ref D),some (V.ref ca),some (V.ref bo),some (V.ref so),some (V.ref hl),some (V.ref L),some (V.int i),some (V.int z),some (V.int (z%2)),some v,o13,o14]/\FrS A G1 G3/\(∀ c xs,G1 c=some (.tup xs)->G3 c=some (.tup xs))/\∃ u':Ss,KS Ad G3 ca M (i+1) A u'/\u'.l0<=day) ?_ ?_
    ·rintro σ G3 ⟨rfl,fr3,tup3,u',I3,hu'⟩;have IB3:KS Ad G3 ca M i B w:=KS.frm (A:=B) (t:=w) IB1 (fun c o hc e=>fr3 c o (apB c hc) e) tup3;have F53:ax H5 G3:=fun c o e=>fr3 c o (nA c (nb c (.inl ⟨o,e⟩))) (F51 _ _ e);have gbo3:=fr3 _ _ (nA _ (nb bo (by simp))) gbo1;have gso3:=fr3 _ _ (nA _ (nb so (by simp))) gso1;have gL3:=fr3 _ _ (nA _ (nb L (by simp))) gL1;have ghl3:=fr3 hl _ (fun z=>(sub hl z).elim nhl.1 nhl.2) (t1 _ _ ghl);have hq3:=tup3 _ _ hq1;have hH3:∀ v∈hs,Hld Ad G12 G3 ca M v:=fun v hv=>((hHld v hv).far (fun c o _ e=>t1 _ _ e) (fun c xs e=>t1 _ _ e)).far (fun c o hz e=>fr3 c o (fun hA=>by obtain⟨o',e'⟩:=(sub c hA).elim (G12s K0 c) (G12s K1 c);rw[hz] at e';cases e') e) tup3;have F12:∀ c o,¬ A0.has c->¬ A1.has c->c≠hl->G12 c=some o->G3 c=some o:=fun c o h1 h2 h3 e=>fr3 c o (nA c ⟨h1,h2,h3⟩) (t1 _ _ (fr c o h1 h2 h3 e));have hts3:=oH (s35.trans F53) hts;have hD3:=(s35.trans F53) _ _ hD;clear hR hHld fr ghl gbo1 gso1 gL1 hq1 ht1 fr3 tup3 IA1 IB1 du t1 F51 hts12;refine dY fun n2 hM=>?_;symm;refine⟨⟨Zd,Zd⟩,_,_,.l gL3,bf (j:=i) hv0,?_⟩;symm;refine⟨_,_,.inr (.of hq3),jv Zd rfl,?_⟩;symm;refine⟨by left,?_⟩;have dy0:0<=z/2%(day+2)/\z/2%(day+2)<day+2:=⟨dC _ (by left),eM _ (by left)⟩;generalize z/2%(day+2)=dy at dy0;rw[hM];clear hM n2;obtain⟨jj,hjj⟩:=AW dy I3.up;obtain⟨dx3,he3⟩:=I3.E.eF;have mi3:=I3.mi;have gp3:∀ {G':Hp},ax G3 G'->∀ l∈u'.gs,G' l.adr=some (.tup (l.key.map kV))/\eu l.key/\0<=l.num/\l.num<bX al ws:=fun t l hl=>by rw[hMM];exact⟨t _ _ (I3.gp l hl).1,(I3.gp l hl).2⟩
     have few:∀ {es1:List Ben},es1.Perm (fW (u'.gs.take jj))->es1.length<64/\∀ e∈es1,eu e.key/\0<=e.num/\e.num<bX al ws:=fun {es1} pm=>by
      refine⟨?_,fun e he=>?_⟩
      ·obtain⟨lsg,_,h2,_,h4⟩:=I3.S.g;have h5:lsg.length=u'.gs.length:=Paired.length h4;have h6:=vL (u'.gs.take jj) [];have h7:es1.length=((u'.gs.take jj).foldl fS []).length:=pm.length_eq;rw[fK,cf] at h6;left
      ·obtain⟨l,hl,rfl⟩:=kP (pm.mem_iff.mp he);exact (gp3 (ax.refl _) l (qW hl)).2
     refine dY fun n2 hM=>?_;symm;refine⟨_,_,.l gbo3,aE,?_⟩;symm;refine⟨dx3,_,he3,rfl,A.ed,A.b,ca,A.dn,A.de,A.cl,A.sd,u'.es,u'.lk,u'.l0,dy,u'.m,jj,al,ws,r,u'.gs,rfl,I3.E,C5.same F53,ok,(s05.trans F53) _ _ Tb,by left,I3.ro,hjj,gp3 (ax.refl _),by left,by left,fun b1 dn1 de1 es1 G4 t4 fb1 fn1 fe1 B4 pm1=>?_⟩;rw[hM];clear hM n2;obtain⟨l64,hes1⟩:=few pm1;obtain⟨bx4,hb4⟩:=B4.bk;have C4:=C5.same (F53.trans t4);obtain⟨dc,qc,hc1,hc2⟩:=id C4;refine dY fun n2 hM=>?_;symm;refine⟨bx4,_,hb4,bJ Zd Zd Zd ca dn1 de1,b1,ca,dn1,de1,es1,rfl,B4,?_⟩;symm;refine⟨dc,_,hc1,cZ Zd Zd Zd al qc r,ca,al,ws,r,rfl,C4,?_⟩;refine⟨_,_,.l ((s35.trans (F53.trans t4)) _ _ Pt.1),bf (j:=0) rfl,?_⟩;symm;rw[af (by simp)];refine⟨_,_,.l (t4 _ _ gso3),aS,A.st,A.nw,A.sk,A.lg,u'.es,u'.lk,u'.l0,dy,u'.m,jj,u'.gs,rfl,I3.S.same t4,by left,I3.ro,hjj,fun D5 ws5 ms5 G5 t5 fD5 g5 mp5 ml5 mP5=>?_⟩;have adr:∀ {G':Hp}{ms:List Ben},ax G3 G'->ms.Perm (fW (u'.gs.take jj))->∀ m∈ms,G' m.adr=some (.tup (m.key.map kV)):=fun t pm m hm=>by obtain⟨l,hl,rfl⟩:=kP (pm.mem_iff.mp hm);exact (gp3 t l (qW hl)).1
     refine⟨b1,ca,dn1,de1,D5,es1,ms5,ws5,al,ws,r,rfl,B4.same t5,C4.same t5,ok,l64,hes1,g5,mP5,adr (t4.trans t5) mp5,ml5,(mp5.trans pm1.symm).map nk,fun G6 t6=>⟨_,rfl,?_⟩⟩;rw[af (by decide),hM];clear hM n2;have B6:=B4.same (t5.trans t6);have t36:=t4.trans (t5.trans t6);refine pW (fun σ G7=>σ=[some (V.ref a),some (V.ref p),some (V.int M),some (V.ref D),some (V.ref ca),some (V.ref bo),some (V.ref so),some (V.ref hl),some (V.ref L),some (V.int i),some (V.int z),some (V.int (z%2)),some v,some (V.int dy),some (V.ref b1)]/\ax G3 G7/\(z/64%2≠1->ax G6 G7)) ?_ ?_
     ·rintro σ G7 ⟨rfl,t37,s67⟩;refine dY fun n2 hM=>?_;symm;refine⟨_,_,.l (t37 _ _ gbo3),aE,?_⟩;symm;refine⟨dx3,_,t37 _ _ he3,rfl,A.ed,A.b,ca,A.dn,A.de,A.cl,A.sd,u'.es,u'.lk,u'.l0,dy,u'.m,jj,al,ws,r,u'.gs,rfl,I3.E.same t37,C5.same (F53.trans t37),ok,(s05.trans (F53.trans t37)) _ _ Tb,by left,I3.ro,hjj,gp3 t37,by left,by left,fun b2 dn2 de2 es2 G8 t8 _ _ _ B8 pm2=>?_⟩;obtain⟨l64',hes2⟩:=few pm2;have t38:=t37.trans t8;refine⟨_,_,.l (t38 _ _ gso3),aS,A.st,A.nw,A.sk,A.lg,u'.es,u'.lk,u'.l0,dy,u'.m,jj,u'.gs,rfl,I3.S.same t38,by left,I3.ro,hjj,fun D9 ws9 ms9 G9 t9 _ g9 mp9 ml9 mP9=>?_⟩;refine⟨b2,ca,dn2,de2,D9,es2,ms9,ws9,al,ws,r,rfl,B8.same t9,C5.same (F53.trans (t38.trans t9)),ok,l64',hes2,g9,mP9,adr (t38.trans t9) mp9,ml9,(mp9.trans pm2.symm).map nk,fun G10 t10=>⟨_,rfl,?_⟩⟩;rw[af (by decide),hM];clear hM n2;have t310:=t38.trans (t9.trans t10);have fin:∀ (hs':List V) (G':Hp),(∀ c o,c≠hl->G3 c=some o->G' c=some o)->G' hl=some (.lst hs')->hs'.length<=i+1->(∀ v∈hs',Hld Ad G12 G' ca M v)->N [some (V.ref a),some (V.ref p),some (V.int M),some (V.ref D),some (V.ref ca),some (V.ref bo),some (V.ref so),some (V.ref hl),some (V.ref L),some (V.int i),some (V.int z),some (V.int (z%2)),some v,some (V.int dy),some (V.ref b1)] G':=fun hs' G' f gh lh hh=>by
       have tp:∀ c xs,G3 c=some (.tup xs)->G' c=some (.tup xs):=fun c xs e=>f c _ (fun z=>by rw[z,ghl3] at e;cases e) e;obtain⟨u0,u1,k0,k1⟩:=back (fun A u=>¬ A.has hl->KS Ad G' ca M (i+1) A u/\∀ d∈ds.drop (i+1),u.l0<=d.day) u' w (fun nh=>⟨KS.frm (A:=A) (t:=u') I3 (fun c o hc e=>f c o (fun z=>nh (z ▸ hc)) e) tp,fun d hd=>Int.le_trans hu' (hup d hd)⟩) (fun nh=>⟨KI.same (KS.frm (A:=B) (t:=w) IB3 (fun c o hc e=>f c o (fun z=>nh (z ▸ hc)) e) tp) (ax.refl _) (jO _),hw1⟩);exact hNx _ _ ⟨⟨_,_,_,_,_,_,rfl⟩,⟨u0,u1,(k0 nhl.1).1,(k1 nhl.2).1,(k0 nhl.1).2,(k1 nhl.2).2⟩,(fun c o h1 h2 h3 e=>f c o h3 (F12 c o h1 h2 h3 e)),hs',gh,lh,hh⟩
      have skip:N [some (V.ref a),some (V.ref p),some (V.int M),some (V.ref D),some (V.ref ca),some (V.ref bo),some (V.ref so),some (V.ref hl),some (V.ref L),some (V.int i),some (V.int z),some (V.int (z%2)),some v,some (V.int dy),some (V.ref b1)] G10:=fin hs G10 (fun c o _ e=>t310 _ _ e) (t310 _ _ ghl3) (by left) fun v hv=>(hH3 v hv).far (fun c o _ e=>t310 _ _ e) fun c xs e=>t310 _ _ e;have ex3:∀ c,G3 c=none->G12 c=none:=fun c hc=>by
       obtain⟨_,_,p0,p1⟩:=back (fun A _=>∀ c,A.has c->∃ o,G3 c=some o) u' w (fun c hc=>hc.elim (fun h=>I3.E.six c h) fun h=>I3.S.four c h) (fun c hc=>hc.elim (fun h=>IB3.E.six c h) fun h=>IB3.S.four c h);cases e:G12 c with
       | none=>rfl
       | some o =>
        exfalso
        by_cases h0:A0.has c
        ·obtain⟨o',e'⟩:=p0 c h0;rw[hc] at e';cases e'
        by_cases h1:A1.has c
        ·obtain⟨o',e'⟩:=p1 c h1;rw[hc] at e';cases e'
        by_cases h2:c=hl
        ·rw[h2,ghl3] at hc;cases hc
        ·rw[F12 c o h0 h1 h2 e] at hc;cases hc
      clear hNx back;symm;refine⟨⟨Zd,Zd⟩,Zd,?_⟩
      by_cases h0:z/64%2=0
      ·rw[ai (ar h0)];refine⟨_,_,.l (t310 _ _ gL3),bf (j:=i) hv0,?_⟩;symm;refine⟨_,_,.inr (.of (t310 _ _ hq3)),jv Zd rfl,?_⟩;symm
       by_cases hlt:dy<day
       ·rw[ai (ar hlt)];refine⟨?_,_,_,.l (t310 _ _ gso3),aS,A.st,A.nw,A.sk,A.lg,u'.es,u'.lk,u'.l0,dy,u'.m,jj,u'.gs,rfl,I3.S.same t310,by left,I3.ro,hjj,fun D11 ws11 ms11 G11 t11 fD g11 mp11 ml11 mP11=>⟨big Zd,fun p12 G13 hp12 t12 g12=>?_⟩⟩
        ·exact .inl ⟨rfl,_,.of (t310 _ _ ghl3)⟩
        have s3:=t310.trans (t11.trans t12);have gh:=s3 _ _ ghl3;refine⟨hl,hs,_,rfl,rfl,gh,ao (by left),?_⟩;have up':∀ c o,c≠hl->G13 c=some o->upd G13 hl (.lst (hs++[.ref p12])) c=some o:=fun c o hc e=>by rw[az hc];exact e
        refine fin (hs++[.ref p12]) _ (fun c o hc e=>up' c o hc (s3 _ _ e)) aB (by rw[aK];show hs.length+1<=_;left) fun v hv=>?_;have H13:Hld Ad G12 G13 ca M v:=by
         rcases bI.mp hv with hv | hv
         ·exact (hH3 v hv).far (fun c o _ e=>s3 _ _ e) fun c xs e=>s3 _ _ e
         ·rw[bA.mp hv];have s6:=(s67 (by left)).trans (t8.trans (t9.trans (t10.trans (t11.trans t12))));exact⟨p12,b1,dn1,de1,D11,es1,ms11,ws11,rfl,g12,B6.same s6,l64,(by rw[←hMM];exact hes1),t12 _ _ g11,gB (fun v m ⟨p,e,h⟩=>⟨p,e,t12 _ _ h⟩) mP11,adr s3 mp11,ml11,(mp11.trans pm1.symm).map nk,ex3 _ fb1,ex3 _ fn1,ex3 _ fe1,ex3 _ (t310.free fD)⟩
        exact H13.far (fun c o hz e=>up' c o (fun z=>by rw[z,g7'] at hz;cases hz) e) fun c xs e=>up' c _ (fun z=>by rw[z,gh] at e;cases e) e
       ·rw[af (by rw[ay hlt];decide)];exact skip
      ·rw[af (by rw[ay h0];decide)];exact skip
     ·intro U hU;symm;refine⟨⟨Zd,Zd⟩,Zd,?_⟩
      by_cases h1:z/64%2=1
      ·rw[ai (ar h1)];refine⟨⟨Zd,Zd⟩,b1,ca,dn1,de1,D,es1,al,ws,r,z/128,x,y,rfl,B6,C5.same (F53.trans t36),ok,(s05.trans (F53.trans t36)) _ _ Tb,l64,hes1,⟨ts,t36 _ _ hD3,oH t36 hts3⟩,⟨x1,x2,y1,y2⟩,by left,fun G7 k7=>⟨_,rfl,?_⟩⟩;rw[af (by decide)];exact hU _ _ ⟨rfl,(fun c o e=>k7 c o (fun z=>by rw[z,fn1] at e;cases e) (fun z=>by rw[z,fe1] at e;cases e) (t36 _ _ e)),fun h=>absurd h1 h⟩
      ·rw[af (by rw[ay h1];decide)];exact hU _ _ ⟨rfl,t36,fun _=>ax.refl _⟩
    ·intro U hU;rcases hR with ⟨s,rfl,t2⟩ | ⟨n,rfl,dd⟩
     ·symm;refine⟨trivial,.str,rfl,?_⟩;rw[af (by decide)];exact hU _ _ ⟨rfl,fun c o _ e=>t2 _ _ e,fun c xs e=>t2 _ _ e,u,IA1.same t2 (jO _),hl0d⟩
     ·symm;refine⟨trivial,.int,rfl,?_⟩;rw[ai (by decide)];obtain⟨S2,tup2⟩:=IA1.S.keep IA1.E apA dd.k;have k2:∀ c o,¬ A.has c->G1 c=some o->G2 c=some o:=fun c o hc e=>let z:=Sd.out hc;dd.k c o z.1 z.2.1 z.2.2.1 z.2.2.2.1 z.2.2.2.2.1 e;have fin:∀ G3,(∀ c o,c≠A.nw->c≠A.sk->c≠A.lg->G2 c=some o->G3 c=some o)->StA G3 A.st A.nw A.sk A.lg (fS u.es ⟨day,str,t,n,key⟩) (if str then (fun i=>if i=n then some (day,key) else u.lk i) else u.lk) day (u.m+1) (u.gs++[⟨day,str,t,n,key⟩])->U _ G3:=fun G3 k3 S3=>by
       obtain⟨E3,tup3⟩:=dd.E.keep S2 apA k3;exact hU _ _ ⟨rfl,(fun c o hc e=>let z:=Sd.out hc;k3 c o z.2.2.2.2.2.1 z.2.2.2.2.2.2.1 z.2.2.2.2.2.2.2 (k2 c o hc e)),(fun c xs e=>tup3 _ _ (tup2 _ _ e)),⟨_,_,day,u.m+1,_⟩,IA1.step ⟨day,str,t,n,key⟩ hl0d (fun z=>by obtain⟨e,h1,h2,_⟩:=dd.hs z;rw[←h2];exact fh h1) dd.hp dd.hn (fun c xs e=>tup3 _ _ (tup2 _ _ e)) ht1 eo E3 S3 (fun i' hi'=>by
        cases str with
        | true=>exact af hi'
        | false=>rfl),lj _⟩
      refine⟨_,_,.l (k2 _ _ (nA _ (nb so (by simp))) gso1),aS,_,_,.l (k2 _ _ (nA _ (nb L (by simp))) gL1),bf (j:=i) hv0,A.st,A.nw,A.sk,A.lg,q',t,u.es,u.lk,u.l0,day,n,u.m,u.gs,key,y',str,rfl,S2,by left,by left,tup2 _ _ hq1,tup2 _ _ ht1,eo,?_⟩;cases str with
      | true =>obtain⟨e,h1,h2,h3⟩:=dd.hs rfl;exact .inl ⟨rfl,e,h1,h2,h3,fin⟩
      | false=>exact .inr ⟨rfl,(dd.hp rfl).1,fin⟩
   ·intro U hU;obtain⟨dx1,he1⟩:=IA1.E.eF;have C1:=C5.same F51;have Tb1':=(s05.trans F51) _ _ Tb;have Tb2':=(s05.trans F51) _ _ Tb1;have hyy:y'=.non∨∃ i,y'=.int i:=hy.imp id fun ⟨n,e,_⟩=>⟨n,e⟩;have d0:0<=day/\day<=1000000000:=by left
    have E1:=IA1.E;symm;refine⟨_,_,.l gbo1,aE,_,_,.l gL1,bf (j:=i) hv0,?_⟩;have eqK:∀ x G',x=v->((∃ s,v=V.str s)∨∃ n,v=V.int n)->U [some (V.ref a),some (V.ref p),some (V.int M),some (V.ref D),some (V.ref ca),some (V.ref bo),some (V.ref so),some (V.ref hl),some (V.ref L),some (V.int i),some (V.int z),some (V.int (z%2)),some v,o13,o14] G'->yU K x v G' fun x H'=>∃ k,x=V.bl k/\if k=true then Q (V.bl false) H' else U [some (V.ref a),some (V.ref p),some (V.int M),some (V.ref D),some (V.ref ca),some (V.ref bo),some (V.ref so),some (V.ref hl),some (V.ref L),some (V.int i),some (V.int z),some (V.int (z%2)),some v,o13,o14] H':=by
     rintro x G' rfl hv hU';rcases hv with ⟨s,rfl⟩ | ⟨n,rfl⟩
     ·symm;rw[af (by simp)];exact hU'
     ·symm;rw[af (by simp)];exact hU'
    have rfs:∀ (j:Nat) (G2:Hp),j<5->v=V.str (nmD j)->ax G1 G2->EdN Ad (fun x H1=>yU K x v H1 fun x H'=>∃ k,x=V.bl k/\if k=true then Q (V.bl false) H' else U [some (V.ref a),some (V.ref p),some (V.int M),some (V.ref D),some (V.ref ca),some (V.ref bo),some (V.ref so),some (V.ref hl),some (V.ref L),some (V.int i),some (V.int z),some (V.int (z%2)),some v,o13,o14] H') (.ref (xV Ad j)) none G2:=fun j G2 j5 e t2=>⟨j,j5,rfl,rfl,fun G3 t3=>eqK _ _ e.symm (.inl ⟨_,e⟩) (hU _ _ ⟨rfl,.inl ⟨_,e,t2.trans t3⟩⟩)⟩;have suc:∀ (n:Int) (G2:Hp),v=V.int n->Did Ad G1 G2 A.ed A.b ca A.dn A.de A.cl A.sd M u.es u.lk u.m u.gs ⟨day,str,t,n,key⟩->yU K (.int n) v G2 fun x H'=>∃ k,x=V.bl k/\if k=true then Q (V.bl false) H' else U [some (V.ref a),some (V.ref p),some (V.int M),some (V.ref D),some (V.ref ca),some (V.ref bo),some (V.ref so),some (V.ref hl),some (V.ref L),some (V.int i),some (V.int z),some (V.int (z%2)),some v,o13,o14] H':=fun n G2 e dd=>eqK _ _ e.symm (.inr ⟨_,e⟩) (hU _ _ ⟨rfl,.inr ⟨_,e,dd⟩⟩)
    refine⟨A.ed,q',t,_,day,y',rfl,hq1,⟨dx1,_,he1,rfl,rfl⟩,?_⟩;cases du with
    | no h=>exact .inl ⟨rfl,A.ed,A.b,ca,A.dn,A.de,A.cl,A.sd,t,u.es,u.lk,u.l0,day,u.m,u.gs.map fO,key,rfl,E1,ht1,eo,by left,d0.1,d0.2,.inr ⟨hl0d,fun e he ek=>absurd (aD.mpr ⟨e,he,ek⟩) h,fun _ G2 t2=>rfs 1 G2 Zd rfl t2⟩⟩
    | out e he hk =>
     refine .inl ⟨rfl,A.ed,A.b,ca,A.dn,A.de,A.cl,A.sd,t,u.es,u.lk,u.l0,day,u.m,u.gs.map fO,key,rfl,E1,ht1,eo,by left,d0.1,d0.2,.inr ⟨hl0d,fun e' he' ek G2 k2 E2=>?_,fun hn=>absurd (aD.mpr ⟨e,he,hk⟩) hn⟩⟩;obtain rfl:=ku rn.2 he' he (ek.trans hk.symm);have hb:=E1.bF;refine suc _ _ rfl ⟨?_,k2,fun _=>⟨e',he,rfl,hk⟩,(fun z=>by cases z),?_⟩
     ·rw[bL,←hk];exact E2
     ·rw[IA1.er] at he;obtain⟨l,hl,rfl⟩:=kP he;exact (IA1.gp l hl).2.2
    | twice h=>exact .inr ⟨rfl,hyy,A.ed,A.b,ca,A.dn,A.de,A.cl,A.sd,t,u.es,u.lk,u.l0,day,0,u.m,u.gs.map fO,al,ws,r,key,y',rfl,E1,C1,ok,Tb1',Tb2',ht1,eo,by left,by left,d0.1,d0.2,.inr ⟨hl0d,.inl ⟨h,fun G2 t2=>rfs 2 G2 Zd rfl t2⟩⟩⟩
    | num n h hy' h0 h1 hf =>obtain⟨f1,f2⟩:=K6 hf;exact .inr ⟨rfl,hyy,A.ed,A.b,ca,A.dn,A.de,A.cl,A.sd,t,u.es,u.lk,u.l0,day,n,u.m,u.gs.map fO,al,ws,r,key,y',rfl,E1,C1,ok,Tb1',Tb2',ht1,eo,by left,by left,d0.1,d0.2,.inr ⟨hl0d,.inr (.inr (.inr ⟨h,.inl ⟨hy',h0,f1,f2⟩,by left,fun G2 k2 E2=>suc _ _ rfl ⟨by rw[bL];exact E2,fun c o c1 c2 c3 c4 _ z=>k2 c o c1 c2 c3 c4 z,(fun z=>by cases z),fun _=>⟨f1,h⟩,h0,h1⟩⟩))⟩⟩
    | nonum n h hy' h0 h1 hf=>exact .inr ⟨rfl,hyy,A.ed,A.b,ca,A.dn,A.de,A.cl,A.sd,t,u.es,u.lk,u.l0,day,n,u.m,u.gs.map fO,al,ws,r,key,y',rfl,E1,C1,ok,Tb1',Tb2',ht1,eo,by left,by left,d0.1,d0.2,.inr ⟨hl0d,.inr (.inl ⟨h,hy',h0,by left,Fg hf,fun G2 t2=>rfs 3 G2 Zd rfl t2⟩)⟩⟩
    | least n h hy' hl h1=>exact .inr ⟨rfl,hyy,A.ed,A.b,ca,A.dn,A.de,A.cl,A.sd,t,u.es,u.lk,u.l0,day,n,u.m,u.gs.map fO,al,ws,r,key,y',rfl,E1,C1,ok,Tb1',Tb2',ht1,eo,by left,by left,d0.1,d0.2,.inr ⟨hl0d,.inr (.inr (.inr ⟨h,.inr ⟨hy',hl⟩,by left,fun G2 k2 E2=>suc _ _ rfl ⟨by rw[bL];exact E2,fun c o c1 c2 c3 c4 _ z=>k2 c o c1 c2 c3 c4 z,(fun z=>by cases z),fun _=>⟨hl.out,h⟩,hl.pos,h1⟩⟩))⟩⟩
    | many h hy' hl =>
     have hMn:M∉u.es.map (·.num):=fun z=>by obtain⟨e,he,ee⟩:=aD.mp z;rw[IA1.er] at he;obtain⟨l,hl',rfl⟩:=kP he;have:=(IA1.gp l hl').2.2.2;have ee:l.num=M:=ee;left
     exact .inr ⟨rfl,hyy,A.ed,A.b,ca,A.dn,A.de,A.cl,A.sd,t,u.es,u.lk,u.l0,day,M,u.m,u.gs.map fO,al,ws,r,key,y',rfl,E1,C1,ok,Tb1',Tb2',ht1,eo,by left,by left,d0.1,d0.2,.inr ⟨hl0d,.inr (.inr (.inl ⟨h,hy',⟨by left,hMn,xR (IA1.lM M (lj _)),fun j j0 j1=>Fg (hl j j0 j1)⟩,by left,fun G2 t2=>rfs 4 G2 Zd rfl t2⟩))⟩⟩
  rintro σ G ⟨⟨o9,o10,o11,o12,o13,o14,rfl⟩,⟨u0,u1,I0,I1,hu0,hu1⟩,fr,hs,ghl,hsl,hHld⟩;show nn _ _ _;cbv;grind;have F5:ax H5 G:=fun c o e=>let z:=nb c (.inl ⟨o,e⟩);fr c o z.1 z.2.1 z.2.2 (T5 _ _ e);refine .inl ⟨⟨_,.of ghl⟩,jw (xs:=hs) (fun _ σ G'=>(∃ o12 o14,σ=[some (V.ref a),some (V.ref p),some (V.int M),some (V.ref D),some (V.ref ca),some (V.ref bo),some (V.ref so),some (V.ref hl),some (V.ref L),o9,o10,o11,o12,o13,o14])/\ax G G') ?_ ?_ ?_ ?_⟩
  ·exact⟨⟨_,_,rfl⟩,ax.refl _⟩
  ·rintro _ σ G' _ ⟨_,sG⟩;exact .of (sG _ _ ghl)
  ·rintro j v σ G' hj ⟨⟨o12',o14',rfl⟩,sG⟩ N hNx;clear hN;obtain⟨pp,bb,dn,de,DD,es,ms,vs,rfl,hpp,B,l64,hes,gD,P1,hm,pw,pm,_⟩:=((hHld v (bw hj)).far (fun c o _ e=>sG _ _ e) fun c xs e=>sG _ _ e).ex;rw[←hMM] at hes;have C:=C5.same (F5.trans sG);refine⟨pp,_,rfl,SqT.of hpp,rfl,?_⟩;symm;refine⟨bb,ca,dn,de,DD,es,ms,vs,al,ws,r,rfl,B,C,ok,l64,hes,gD,P1,hm,pw,pm,fun G1 t1=>⟨_,rfl,?_⟩⟩;symm;refine⟨bb,ca,dn,de,es,al,ws,r,rfl,B.same t1,C.same t1,ok,l64,hes,fun ms2 G2 mp2 ml2 t2=>?_⟩;refine⟨al,ws,r,ms2,rfl,ok,?_,((s05.trans (F5.trans sG)).trans (t1.trans t2)) _ _ Tb,fun b3 ca3 dn3 de3 es3 G3 t3 _ _ B3 C3 e3=>?_⟩
   ·exact⟨by rw[mp2.length_eq];exact l64,fun m h=>hes m (mp2.mem_iff.mp h),ml2,(mp2.map _).nodup_iff.mpr B.nk⟩
   have t03:=t1.trans (t2.trans t3);refine⟨b3,ca3,dn3,de3,DD,es3,ms,vs,al,ws,r,rfl,B3,C3,ok,?_,?_,t03 _ _ gD,gB (fun v m ⟨p,e,h⟩=>⟨p,e,t03 _ _ h⟩) P1,(fun m h=>t03 _ _ (hm m h)),pw,?_,fun G4 t4=>⟨_,rfl,?_⟩⟩
   ·have:=aV List.length e3;rw[ak,ak,mp2.length_eq] at this;left
   ·intro e he;obtain⟨m,hm1,hm2⟩:=aD.mp (show nk e∈ms2.map nk by rw[←e3];exact fh he);have h1:m.num=e.num:=aV Prod.fst hm2;have h2:m.key=e.key:=aV Prod.snd hm2;have:=hes m (mp2.mem_iff.mp hm1)
    rwa [h1,h2] at this
   ·rw[e3];exact pm.trans (mp2.map nk).symm
   rw[af (by decide)];exact hNx _ _ ⟨⟨_,_,rfl⟩,sG.trans (t03.trans t4)⟩
  rintro σ G' ⟨⟨o12',o14',rfl⟩,sG⟩;show nn _ _ _;cbv;symm;exact k _
end
def all_mk {l:PySem.W.OpenLaw}{w:Zi}{h:Heap}{mg:Zk}{fa:Addr}{k_Code k_Book k_Editions k_CableError k_NoCode k_NoNumber k_NoWord k_NoEntry k_Twice k_TooMany k_NoBook k_NoDay k_cd k_tb k_cd1 k_tb1:Addr}{f11 f15 f24 f25 f26 f27 f28 f34 f35 f62:Addr} (X:K.In h) (G:h.Ns mainGlobals mg) (hfa:mg "law"=some (.ref fa))
  {od11 an11 od15 an15 od24 an24 od25 an25 od26 an26 od27 an27 od28 an28 od34 an34 od35 an35 od62 an62:Option Addr}{sl11 sl15 sl24 sl25 sl26 sl27 sl28 sl34 sl35 sl62:Array (Option Value)}{oc11 kV11 dc11 pm11 cd11 ct11 oc15 kV15 dc15 pm15 cd15 ct15 oc24 kV24 dc24 pm24 cd24 ct24 oc25 kV25 dc25 pm25 cd25 ct25 oc26 kV26 dc26 pm26 ct26 oc27 kV27 dc27 pm27 cd27 ct27 oc28 kV28 dc28 pm28 cd28 ct28 oc34 kV34 dc34 pm34 cd34 ct34 oc35 kV35 dc35 pm35 ct35 oc62 kV62 dc62 pm62 cd62 ct62:Value}
  (y0:PySem.W.nsIn K mainGlobals "Code"=some (some (.ref k_Code)))
  (y1:PySem.W.nsIn K mainGlobals "Book"=some (some (.ref k_Book)))
  (y2:PySem.W.nsIn K mainGlobals "Editions"=some (some (.ref k_Editions)))
  (y3:PySem.W.nsIn K mainGlobals "CableError"=some (some (.ref k_CableError)))
  (y4:PySem.W.nsIn K mainGlobals "NoCode"=some (some (.ref k_NoCode)))
  (y5:PySem.W.nsIn K mainGlobals "NoNumber"=some (some (.ref k_NoNumber)))
  (y6:PySem.W.nsIn K mainGlobals "NoWord"=some (some (.ref k_NoWord)))
  (y7:PySem.W.nsIn K mainGlobals "NoEntry"=some (some (.ref k_NoEntry)))
  (y8:PySem.W.nsIn K mainGlobals "Twice"=some (some (.ref k_Twice)))
  (y9:PySem.W.nsIn K mainGlobals "TooMany"=some (some (.ref k_TooMany)))
  (y10:PySem.W.nsIn K mainGlobals "NoBook"=some (some (.ref k_NoBook)))
  (y11:PySem.W.nsIn K mainGlobals "NoDay"=some (some (.ref k_NoDay)))
  (d0:eh K "is_whole" pB)
  (d1:eh K "common_divisor" iw)
  (d2:eh K "are_safe" pz)
  (d3:eh K "is_alphabet" kA)
  (d4:eh K "is_below" p9)
  (d5:eh K "are_weights" k9)
  (d6:eh K "is_word" si)
  (d7:eh K "places_of" nr)
  (d8:eh K "spelled" sr)
  (d9:eh K "are_good" pq)
  (d10:eh K "is_good" sh)
  (a11:PySem.W.findIn K (.ref k_Code) "__init__"=some (some (.ref f11)))
  (i11:PySem.W.isFn K (.ref f11)=true)
  (l11:K.lookup f11=some ⟨oc11,od11,.func (PySem.W.fnOf "__init__" "Code.__init__" (cu gG) (bW gG) (av gG) .none kV11 dc11 pm11 an11 cd11 ct11),sl11⟩)
  (c11:PySem.W.codeIn K cd11 "Code.__init__"=true)
  (k11:PySem.W.keepIn K (.ref f11)=true)
  (d12:lP K k_Code "alphabet" "Code.alphabet" iU)
  (d13:lP K k_Code "weights" "Code.weights" j8)
  (d14:lP K k_Code "rest" "Code.rest" mX)
  (a15:PySem.W.findIn K (.ref k_Code) "many"=some (some (.ref f15)))
  (i15:PySem.W.isFn K (.ref f15)=true)
  (l15:K.lookup f15=some ⟨oc15,od15,.func (PySem.W.fnOf "many" "Code.many" (cu gH) (bW gH) (av gH) .none kV15 dc15 pm15 an15 cd15 ct15),sl15⟩)
  (c15:PySem.W.codeIn K cd15 "Code.many"=true)
  (k15:PySem.W.keepIn K (.ref f15)=true)
  (d16:lP K k_Code "word" "Code.word" mY)
  (d17:lP K k_Code "number" "Code.number" k6)
  (d18:lP K k_Code "has_good" "Code.has_good" iV)
  (d19:eh K "are_letters" k8)
  (d20:eh K "are_words" mZ)
  (d21:eh K "number_written" iz)
  (d22:eh K "code_written" j9)
  (d23:eh K "is_entry" pA)
  (a24:PySem.W.findIn K (.ref k_Book) "__init__"=some (some (.ref f24)))
  (i24:PySem.W.isFn K (.ref f24)=true)
  (l24:K.lookup f24=some ⟨oc24,od24,.func (PySem.W.fnOf "__init__" "Book.__init__" (cu gE) (bW gE) (av gE) .none kV24 dc24 pm24 an24 cd24 ct24),sl24⟩)
  (c24:PySem.W.codeIn K cd24 "Book.__init__"=true)
  (k24:PySem.W.keepIn K (.ref f24)=true)
  (a25:PySem.W.findIn K (.ref k_Book) "code"=some (some (.ref f25)))
  (i25:PySem.W.isFn K (.ref f25)=true)
  (l25:K.lookup f25=some ⟨oc25,od25,.func (PySem.W.fnOf "code" "Book.code" (cu gC) (bW gC) (av gC) .none kV25 dc25 pm25 an25 cd25 ct25),sl25⟩)
  (c25:PySem.W.codeIn K cd25 "Book.code"=true)
  (k25:PySem.W.keepIn K (.ref f25)=true)
  (a26:PySem.W.findIn K (.ref k_Book) "put"=some (some (.ref f26)))
  (i26:PySem.W.isFn K (.ref f26)=true)
  {dt26:Addr}{tc26:Value}{td26:Option Addr}{tn26:Nat}{ts26:Array (Option Value)}
  (l26:K.lookup f26=some ⟨oc26,od26,.func (PySem.W.fnOf "put" "Book.put" (cu da) (bW da) (av da) (.ref dt26) kV26 dc26 pm26 an26 (.ref k_cd) ct26),sl26⟩)
  (t26:K.lookup dt26=some ⟨tc26,td26,.seq #[.none] tn26,ts26⟩)
  (c26:PySem.W.codeIn K (.ref k_cd) "Book.put"=true)
  (k26:PySem.W.keepIn K (.ref f26)=true)
  (a27:PySem.W.findIn K (.ref k_Book) "choose"=some (some (.ref f27)))
  (i27:PySem.W.isFn K (.ref f27)=true)
  (l27:K.lookup f27=some ⟨oc27,od27,.func (PySem.W.fnOf "choose" "Book.choose" (cu fq) (bW fq) (av fq) .none kV27 dc27 pm27 an27 cd27 ct27),sl27⟩)
  (c27:PySem.W.codeIn K cd27 "Book.choose"=true)
  (k27:PySem.W.keepIn K (.ref f27)=true)
  (a28:PySem.W.findIn K (.ref k_Book) "least_free"=some (some (.ref f28)))
  (i28:PySem.W.isFn K (.ref f28)=true)
  (l28:K.lookup f28=some ⟨oc28,od28,.func (PySem.W.fnOf "least_free" "Book.least_free" (cu cU) (bW cU) (av cU) .none kV28 dc28 pm28 an28 cd28 ct28),sl28⟩)
  (c28:PySem.W.codeIn K cd28 "Book.least_free"=true)
  (k28:PySem.W.keepIn K (.ref f28)=true)
  (d29:lP K k_Book "strike" "Book.strike" kz)
  (d30:lP K k_Book "entry" "Book.entry" mm)
  (d31:lP K k_Book "number" "Book.number" ky)
  (d32:lP K k_Book "entries" "Book.entries" j7)
  (d33:eh K "is_day" uS)
  (a34:PySem.W.findIn K (.ref k_Editions) "__init__"=some (some (.ref f34)))
  (i34:PySem.W.isFn K (.ref f34)=true)
  (l34:K.lookup f34=some ⟨oc34,od34,.func (PySem.W.fnOf "__init__" "Editions.__init__" (cu dN) (bW dN) (av dN) .none kV34 dc34 pm34 an34 cd34 ct34),sl34⟩)
  (c34:PySem.W.codeIn K cd34 "Editions.__init__"=true)
  (k34:PySem.W.keepIn K (.ref f34)=true)
  (a35:PySem.W.findIn K (.ref k_Editions) "put"=some (some (.ref f35)))
  (i35:PySem.W.isFn K (.ref f35)=true)
  {dt35:Addr}{tc35:Value}{td35:Option Addr}{tn35:Nat}{ts35:Array (Option Value)}
  (l35:K.lookup f35=some ⟨oc35,od35,.func (PySem.W.fnOf "put" "Editions.put" (cu bV) (bW bV) (av bV) (.ref dt35) kV35 dc35 pm35 an35 (.ref k_cd1) ct35),sl35⟩)
  (t35:K.lookup dt35=some ⟨tc35,td35,.seq #[.none] tn35,ts35⟩)
  (c35:PySem.W.codeIn K (.ref k_cd1) "Editions.put"=true)
  (k35:PySem.W.keepIn K (.ref f35)=true)
  (d36:lP K k_Editions "strike" "Editions.strike" gS)
  (d37:lP K k_Editions "book" "Editions.book" iW)
  (d38:lP K k_Editions "check_change" "Editions.check_change" eE)
  (d39:lP K k_Editions "is_barred" "Editions.is_barred" fE)
  (d40:lP K k_Editions "note_change" "Editions.note_change" eU)
  (d41:eh K "code_row" p8)
  (d42:eh K "entry_row" nc)
  (d43:eh K "shown" xD)
  (d44:eh K "entry_written" iX)
  (d45:eh K "built" xC)
  (d46:eh K "read" Aw)
  (d47:eh K "_law_cell_at" kB)
  (d48:eh K "_law_mixed" nj)
  (d49:eh K "_law_apart" ng)
  (d50:eh K "_law_weights" kD)
  (d51:eh K "_law_code_parts" ix)
  (d52:eh K "_law_many" pF)
  (d53:eh K "_law_pool" pG)
  (d54:eh K "_law_free" pC)
  (d55:eh K "_law_due" sq)
  (d56:eh K "_law_kept" pE)
  (d57:eh K "_law_edition" kC)
  (d58:eh K "_law_deeds" ni)
  (d59:eh K "_law_did" sj)
  (d60:eh K "_law_is_edition" iy)
  (d61:eh K "_law_spoil" nq)
  (a62:PySem.W.nsIn K mainGlobals "law"=some (some (.ref f62)))
  (l62:K.lookup f62=some ⟨oc62,od62,.func (PySem.W.fnOf "law" "law" (cu qy) (bW qy) (av qy) .none kV62 dc62 pm62 an62 cd62 ct62),sl62⟩)
  (c62:PySem.W.codeIn K cd62 "law"=true)
  (k62:PySem.W.keepIn K (.ref f62)=true)
  (y116:PySem.W.plainGet K k_Code Str.empty=true)
  (y117:PySem.W.hasDictIn K k_Code=true)
  (y118:PySem.W.plainOver K k_Code=true)
  (y119:PySem.W.findIn K (.ref k_Code) "__setattr__"=some (some (.builtin "object.__setattr__")))
  (y120:PySem.W.makesIn K k_Code=true)
  (y121:PySem.W.keepIn K (.ref k_Code)=true)
  (y122:PySem.W.findIn K (.ref k_Code) "letters"=some none)
  (y123:PySem.W.findIn K (.ref k_Code) "factors"=some none)
  (y124:PySem.W.findIn K (.ref k_Code) "remainder"=some none)
  (y125:PySem.W.plainGet K k_Book Str.empty=true)
  (y126:PySem.W.hasDictIn K k_Book=true)
  (y127:PySem.W.plainOver K k_Book=true)
  (y128:PySem.W.findIn K (.ref k_Book) "__setattr__"=some (some (.builtin "object.__setattr__")))
  (y129:PySem.W.makesIn K k_Book=true)
  (y130:PySem.W.keepIn K (.ref k_Book)=true)
  (y131:PySem.W.findIn K (.ref k_Book) "basis"=some none)
  (y132:PySem.W.findIn K (.ref k_Book) "by_number"=some none)
  (y133:PySem.W.findIn K (.ref k_Book) "by_entry"=some none)
  (y134:PySem.W.plainGet K k_Editions Str.empty=true)
  (y135:PySem.W.hasDictIn K k_Editions=true)
  (y136:PySem.W.plainOver K k_Editions=true)
  (y137:PySem.W.findIn K (.ref k_Editions) "__setattr__"=some (some (.builtin "object.__setattr__")))
  (y138:PySem.W.makesIn K k_Editions=true)
  (y139:PySem.W.keepIn K (.ref k_Editions)=true)
  (y140:PySem.W.findIn K (.ref k_Editions) "current"=some none)
  (y141:PySem.W.findIn K (.ref k_Editions) "changes"=some none)
  (y142:PySem.W.findIn K (.ref k_Editions) "struck"=some none)
  (y143:PySem.W.findIn K (.ref k_Editions) "latest"=some none)
  (y144:PySem.W.excIn K k_NoCode [.type "ValueError",.type "Exception",.type "BaseException",.type "object"] "ValueError.__new__"=true)
  (y145:PySem.W.excIn K k_NoNumber [.type "ValueError",.type "Exception",.type "BaseException",.type "object"] "ValueError.__new__"=true)
  (y146:PySem.W.excIn K k_NoWord [.type "ValueError",.type "Exception",.type "BaseException",.type "object"] "ValueError.__new__"=true)
  (y147:PySem.W.excIn K k_NoEntry [.type "ValueError",.type "Exception",.type "BaseException",.type "object"] "ValueError.__new__"=true)
  (y148:PySem.W.excIn K k_Twice [.type "ValueError",.type "Exception",.type "BaseException",.type "object"] "ValueError.__new__"=true)
  (y149:PySem.W.excIn K k_TooMany [.type "ValueError",.type "Exception",.type "BaseException",.type "object"] "ValueError.__new__"=true)
  (y150:PySem.W.excIn K k_NoBook [.type "ValueError",.type "Exception",.type "BaseException",.type "object"] "ValueError.__new__"=true)
  (y151:PySem.W.excIn K k_NoDay [.type "ValueError",.type "Exception",.type "BaseException",.type "object"] "ValueError.__new__"=true)
  (y152:PySem.W.exmOne K (.ref k_TooMany) (.ref k_TooMany)=some true)
  (tab:PySem.W.codeHdIn K k_cd k_tb=true)
  (y154:PySem.W.codeHdIn K k_cd1 k_tb1=true)
  (err:wI K k_CableError [k_NoCode,k_NoNumber,k_NoWord,k_NoEntry,k_Twice,k_TooMany,k_NoBook,k_NoDay]=true)
  (ndx:ndB [k_NoCode,k_NoNumber,k_NoWord,k_NoEntry,k_Twice,k_TooMany,k_NoBook,k_NoDay]=true)
  {u_SMALL_LETTERS:Value}
  (y157:PySem.W.nsIn K mainGlobals "SMALL_LETTERS"=some (some u_SMALL_LETTERS))
  (y158:RelV (.str "abcdefghijklmnopqrstuvwxyz") u_SMALL_LETTERS)
  {u_FIGURES:Value}
  (y159:PySem.W.nsIn K mainGlobals "FIGURES"=some (some u_FIGURES))
  (y160:RelV (.str "0123456789") u_FIGURES)
  {u_MOST_FIGURES:Value}
  (y161:PySem.W.nsIn K mainGlobals "MOST_FIGURES"=some (some u_MOST_FIGURES))
  (y162:RelV (.int 9) u_MOST_FIGURES)
  {u_LONGEST_WORD:Value}
  (y163:PySem.W.nsIn K mainGlobals "LONGEST_WORD"=some (some u_LONGEST_WORD))
  (y164:RelV (.int 20) u_LONGEST_WORD)
  {u_MOST_ENTRIES:Value}
  (y165:PySem.W.nsIn K mainGlobals "MOST_ENTRIES"=some (some u_MOST_ENTRIES))
  (y166:RelV (.int 300) u_MOST_ENTRIES)
  {u_MOST_PHRASE_WORDS:Value}
  (y167:PySem.W.nsIn K mainGlobals "MOST_PHRASE_WORDS"=some (some u_MOST_PHRASE_WORDS))
  (y168:RelV (.int 6) u_MOST_PHRASE_WORDS)
  {u_MOST_PART_LETTERS:Value}
  (y169:PySem.W.nsIn K mainGlobals "MOST_PART_LETTERS"=some (some u_MOST_PART_LETTERS))
  (y170:RelV (.int 6) u_MOST_PART_LETTERS)
  {u_LATEST_DAY:Value}
  (y171:PySem.W.nsIn K mainGlobals "LATEST_DAY"=some (some u_LATEST_DAY))
  (y172:RelV (.int 1000000000) u_LATEST_DAY)
  {u_DAYS_BARRED:Value}
  (y173:PySem.W.nsIn K mainGlobals "DAYS_BARRED"=some (some u_DAYS_BARRED))
  (y174:RelV (.int 31) u_DAYS_BARRED)
  (y175:PySem.W.nsIn K mainGlobals "isinstance"=some none)
  (y176:PySem.W.nsIn K mainGlobals "bool"=some none)
  (y177:PySem.W.nsIn K mainGlobals "int"=some none)
  (y178:PySem.W.nsIn K mainGlobals "abs"=some none)
  (y179:PySem.W.nsIn K mainGlobals "all"=some none)
  (y180:PySem.W.nsIn K mainGlobals "zip"=some none)
  (y181:PySem.W.nsIn K mainGlobals "len"=some none)
  (y182:PySem.W.nsIn K mainGlobals "set"=some none)
  (y183:PySem.W.nsIn K mainGlobals "str"=some none)
  (y184:PySem.W.nsIn K mainGlobals "list"=some none)
  (y185:PySem.W.nsIn K mainGlobals "sum"=some none)
  (y186:PySem.W.nsIn K mainGlobals "range"=some none)
  (y187:PySem.W.nsIn K mainGlobals "tuple"=some none)
  (y188:PySem.W.nsIn K mainGlobals "sorted"=some none)
  (y189:PySem.W.nsIn K mainGlobals "min"=some none)
  (y190:PySem.W.nsIn K mainGlobals "ValueError"=some none)
  : (∀ p∈[(k_tb,vw),(k_tb1,yw)],∃ c,PySem.W.codeHdIn K c p.1=true)/\∃ fd:FuncData,(∀ (s:Zg) (v:Value),BindsTo s fd ⟨[v],[]⟩ [("_law_script",v)])/\∀ base:Heap,K.In base->base.Ns mainGlobals mg->bS l.prog w K mg base (CX1 l.prog w) 9 fa fd ["_law_script"] (A7 K k_tb k_tb1):=by
 have e:=hfa.symm.trans (cg X G a62);cases e;have T:Bl mg:=⟨dj X G y175,dj X G y176,dj X G y177,dj X G y178,dj X G y179,dj X G y180,dj X G y181,dj X G y182,dj X G y183,dj X G y184,dj X G y185,dj X G y186,dj X G y187,dj X G y188,dj X G y189,dj X G y190⟩;have AF:AdF K mg ⟨k_Code,k_Book,k_Editions,k_CableError,k_NoCode,k_NoNumber,k_NoWord,k_NoEntry,k_Twice,k_TooMany,k_NoBook,k_NoDay,k_cd,k_tb,k_cd1,k_tb1,()⟩:=⟨cg X G y0,cg X G y1,cg X G y2,cg X G y3,cg X G y4,cg X G y5,cg X G y6,cg X G y7,cg X G y8,cg X G y9,cg X G y10,cg X G y11,⟨y116,y117,y118,y119⟩,y122,y123,y124,⟨y125,y126,y127,y128⟩,y131,y132,y133,⟨y134,y135,y136,y137⟩,y140,y141,y142,y143,y144,y145,y146,y147,y148,y149,y150,y151,y152,tab,y154,err,ndx,⟨_,cg X G y157,y158⟩,⟨_,cg X G y159,y160⟩,⟨_,cg X G y161,y162⟩,⟨_,cg X G y163,y164⟩,⟨_,cg X G y165,y166⟩,⟨_,cg X G y167,y168⟩,⟨_,cg X G y169,y170⟩,⟨_,cg X G y171,y172⟩,⟨_,cg X G y173,y174⟩⟩;have F11:=kq (st:=gG) l11 c11 k11;have F15:=kq (st:=gH) l15 c15 k15;have F24:=kq (st:=gE) l24 c24 k24;have F25:=kq (st:=gC) l25 c25 k25;have F26:=Bj (st:=da) l26 c26 k26;have F27:=kq (st:=fq) l27 c27 k27;have F28:=kq (st:=cU) l28 c28 k28;have F34:=kq (st:=dN) l34 c34 k34;have F35:=Bj (st:=bV) l35 c35 k35;have F62:=kq (st:=qy) l62 c62 k62;refine⟨lA.mpr ⟨⟨_,tab⟩,lA.mpr ⟨⟨_,y154⟩,fun _ h=>nomatch h⟩⟩,PySem.W.fnOf "law" "law" (cu qy) (bW qy) (av qy) .none kV62 dc62 pm62 an62 cd62 ct62,fun s v=>.of_eq rfl,fun base _ _=>?_⟩;have Z {k:Nat}{x:Str}{st:Stmt}{ps:Ze}{sp:Sp}{CX:L2.CXT}:=@eh.fnc l.prog w K h base mg k x st ps sp CX X G;have Y {k:Nat}{m q:Str}{st:Stmt}{C:Addr}{ps:Ze}{sp:Sp}:=@lP.mtd l.prog w K base mg k m q st C ps sp;have C_is_whole:=Z d0 (fun _ _ F=>yF F T AF ) fun _ _ _ _ _ _=>L2.bind1 fun _=>rfl;have C_common_divisor:=Z d1 (fun _ _ F=>ql F T AF ) fun _ _ _ _ _ _=>L2.eP fun _ _=>rfl;have C_is_alphabet:=Z d3 (fun _ _ F=>uK F T AF ) fun _ _ _ _ _ _=>L2.bind1 fun _=>rfl;have C_is_word:=Z d6 (fun _ _ F=>Ah F T AF ) fun _ _ _ _ _ _=>L2.ud fun _ _ _=>rfl;have C_places_of:=Z d7 (fun _ _ F=>xo F T AF ) fun _ _ _ _ _ _=>L2.eP fun _ _=>rfl;have C_spelled:=Z d8 (fun _ _ F=>Ak F T AF ) fun _ _ _ _ _ _=>L2.eP fun _ _=>rfl;have C_are_good:=Z d9 (fun _ _ F=>yA F T AF ) fun _ _ _ _ _ _=>L2.sE fun _ _ _ _=>rfl;have M_Code_alphabet:=Y AF.c_Code d12 (fun _ _ F=>rR F T AF ) fun _ _ _ _ _ _=>L2.bind1 fun _=>rfl;have M_Code_weights:=Y AF.c_Code d13 (fun _ _ F=>tM F T AF ) fun _ _ _ _ _ _=>L2.bind1 fun _=>rfl;have M_Code_rest:=Y AF.c_Code d14 (fun _ _ F=>xf F T AF ) fun _ _ _ _ _ _=>L2.bind1 fun _=>rfl;have b15:=F15.binds (ps:=["self"]) fun _ _ _ _ _ _=>L2.bind1 fun _=>rfl;have M_Code_many:pP l.prog w K mg base (CX1 l.prog w) k_Code "many" 1 ["self"] (eZ (⟨k_Code,k_Book,k_Editions,k_CableError,k_NoCode,k_NoNumber,k_NoWord,k_NoEntry,k_Twice,k_TooMany,k_NoBook,k_NoDay,k_cd,k_tb,k_cd1,k_tb1,()⟩:Ads)):=⟨⟨f15,_,xc F15 T AF ,⟨a15,i15,k15⟩,b15⟩,AF.c_Code⟩;have C_are_letters:=Z d19 (fun _ _ F=>uI F T AF ) fun _ _ _ _ _ _=>L2.eP fun _ _=>rfl;have C_number_written:=Z d21 (fun _ _ F=>qp F T AF ) fun _ _ _ _ _ _=>L2.bind1 fun _=>rfl;have b24:=F24.binds (ps:=["self","code"]) fun _ _ _ _ _ _=>L2.eP fun _ _=>rfl;have K_Book:Mak l.prog w K mg base (CX1 l.prog w) k_Book "Book" 1 ["self","code"] (gW (⟨k_Code,k_Book,k_Editions,k_CableError,k_NoCode,k_NoNumber,k_NoWord,k_NoEntry,k_Twice,k_TooMany,k_NoBook,k_NoDay,k_cd,k_tb,k_cd1,k_tb1,()⟩:Ads)):=⟨⟨f24,_,wZ F24 T AF ,⟨y129,a24,i24,y130⟩,b24⟩,AF.g_Book⟩;have b25:=F25.binds (ps:=["self"]) fun _ _ _ _ _ _=>L2.bind1 fun _=>rfl;have M_Book_code:pP l.prog w K mg base (CX1 l.prog w) k_Book "code" 1 ["self"] (eX (⟨k_Code,k_Book,k_Editions,k_CableError,k_NoCode,k_NoNumber,k_NoWord,k_NoEntry,k_Twice,k_TooMany,k_NoBook,k_NoDay,k_cd,k_tb,k_cd1,k_tb1,()⟩:Ads)):=⟨⟨f25,_,wY F25 T AF ,⟨a25,i25,k25⟩,b25⟩,AF.c_Book⟩;have M_Book_entries:=Y AF.c_Book d32 (fun _ _ F=>tL F T AF ) fun _ _ _ _ _ _=>L2.bind1 fun _=>rfl;have M_Editions_is_barred:=Y AF.c_Editions d39 (fun _ _ F=>mE F T AF ) fun _ _ _ _ _ _=>L2.sE fun _ _ _ _=>rfl;have M_Editions_note_change:=Y AF.c_Editions d40 (fun _ _ F=>kN F T AF ) fun _ _ _ _ _ _=>L2.sE fun _ _ _ _=>rfl;have C_entry_row:=Z d42 (fun _ _ F=>xj F T AF ) fun _ _ _ _ _ _=>L2.eP fun _ _=>rfl;have C_entry_written:=Z d44 (fun _ _ F=>rW F T AF ) fun _ _ _ _ _ _=>L2.bind1 fun _=>rfl;have C_law_cell_at:=Z d47 (fun _ _ F=>uL F T AF ) fun _ _ _ _ _ _=>L2.eP fun _ _=>rfl;have C_law_mixed:=Z d48 (fun _ _ F=>xm F T AF ) fun _ _ _ _ _ _=>L2.bind1 fun _=>rfl;have C_law_apart:=Z d49 (fun _ _ F=>xk F T AF ) fun _ _ _ _ _ _=>L2.eP fun _ _=>rfl;have C_law_many:=Z d52 (fun _ _ F=>yI F T AF ) fun _ _ _ _ _ _=>L2.bind1 fun _=>rfl;have C_law_pool:=Z d53 (fun _ _ F=>yJ F T AF ) fun _ _ _ _ _ _=>L2.bind1 fun _=>rfl;have C_law_free:=Z d54 (fun _ _ F=>yG F T AF ) fun _ _ _ _ _ _=>L2.sE fun _ _ _ _=>rfl;have C_law_kept:=Z d56 (fun _ _ F=>yH F T AF ) fun _ _ _ _ _ _=>L2.ud fun _ _ _=>rfl;have C_law_edition:=Z d57 (fun _ _ F=>uM F T AF ) fun _ _ _ _ _ _=>L2.eP fun _ _=>rfl;have C_are_safe:=Z d2 (fun _ _ F=>yB F T AF C_common_divisor) fun _ _ _ _ _ _=>L2.eP fun _ _=>rfl;have C_is_below:=Z d4 (fun _ _ F=>yD F T AF C_is_whole) fun _ _ _ _ _ _=>L2.eP fun _ _=>rfl;have C_is_good:=Z d10 (fun _ _ F=>Ag F T AF C_are_good C_places_of C_is_word) fun _ _ _ _ _ _=>L2.sE fun _ _ _ _=>rfl;have C_are_words:=Z d20 (fun _ _ F=>xi F T AF C_are_letters) fun _ _ _ _ _ _=>L2.eP fun _ _=>rfl;have C_code_written:=Z d22 (fun _ _ F=>tN F T AF C_number_written) fun _ _ _ _ _ _=>L2.bind1 fun _=>rfl;have b28:=F28.binds (ps:=["self","is_barred"]) fun _ _ _ _ _ _=>L2.eP fun _ _=>rfl;have M_Book_least_free:uc l.prog w K mg base (CX1 l.prog w) k_Book "least_free" 2 1 ["self","is_barred"] (eY (⟨k_Code,k_Book,k_Editions,k_CableError,k_NoCode,k_NoNumber,k_NoWord,k_NoEntry,k_Twice,k_TooMany,k_NoBook,k_NoDay,k_cd,k_tb,k_cd1,k_tb1,()⟩:Ads)):=⟨⟨f28,_,fun k=>pe (k:=k) F28 T AF M_Code_many,⟨a28,i28,k28⟩,b28⟩,AF.c_Book⟩;have C_code_row:=Z d41 (fun _ _ F=>yC F T AF M_Code_rest M_Code_weights M_Code_alphabet) fun _ _ _ _ _ _=>L2.bind1 fun _=>rfl;have C_law_weights:=Z d50 (fun _ _ F=>uN F T AF C_law_apart) fun _ _ _ _ _ _=>L2.ud fun _ _ _=>rfl;have C_law_due:=Z d55 (fun _ _ F=>Aj F T AF C_law_free) fun _ _ _ _ _ _=>L2.ud fun _ _ _=>rfl;have C_law_deeds:=Z d58 (fun _ _ F=>xl F T AF C_law_mixed) fun _ _ _ _ _ _=>L2.sE fun _ _ _ _=>rfl;have C_are_weights:=Z d5 (fun _ _ F=>uJ F T AF C_is_below) fun _ _ _ _ _ _=>L2.eP fun _ _=>rfl;have M_Code_word:=Y AF.c_Code d16 (fun _ _ F=>xh F T AF C_spelled C_are_good C_is_below M_Code_many) fun _ _ _ _ _ _=>L2.eP fun _ _=>rfl;have M_Code_has_good:=Y AF.c_Code d18 (fun _ _ F=>rS F T AF C_is_good) fun _ _ _ _ _ _=>L2.eP fun _ _=>rfl;have C_is_entry:=Z d23 (fun _ _ F=>yE F T AF C_are_letters C_are_words) fun _ _ _ _ _ _=>L2.bind1 fun _=>rfl;have M_Book_entry:=Y AF.c_Book d30 (fun _ _ F=>vx F T AF C_is_below M_Code_many) fun _ _ _ _ _ _=>L2.eP fun _ _=>rfl;have C_is_day:=Z d33 (fun _ _ F=>D8 F T AF C_is_below) fun _ _ _ _ _ _=>L2.bind1 fun _=>rfl;have b34:=F34.binds (ps:=["self","code"]) fun _ _ _ _ _ _=>L2.eP fun _ _=>rfl;have K_Editions:Mak l.prog w K mg base (CX1 l.prog w) k_Editions "Editions" 3 ["self","code"] (fR (⟨k_Code,k_Book,k_Editions,k_CableError,k_NoCode,k_NoNumber,k_NoWord,k_NoEntry,k_Twice,k_TooMany,k_NoBook,k_NoDay,k_cd,k_tb,k_cd1,k_tb1,()⟩:Ads)):=⟨⟨f34,_,rV F34 T AF K_Book,⟨y138,a34,i34,y139⟩,b34⟩,AF.g_Editions⟩;have C_law_code_parts:=Z d51 (fun _ _ F=>qm F T AF C_law_weights C_law_mixed C_law_cell_at) fun _ _ _ _ _ _=>L2.bind1 fun _=>rfl;have b11:=F11.binds (ps:=["self","alphabet","weights","rest"]) fun _ _ _ _ _ _=>L2.sE fun _ _ _ _=>rfl;have K_Code:Mak l.prog w K mg base (CX1 l.prog w) k_Code "Code" 4 ["self","alphabet","weights","rest"] (fQ (⟨k_Code,k_Book,k_Editions,k_CableError,k_NoCode,k_NoNumber,k_NoWord,k_NoEntry,k_Twice,k_TooMany,k_NoBook,k_NoDay,k_cd,k_tb,k_cd1,k_tb1,()⟩:Ads)):=⟨⟨f11,_,xb F11 T AF C_are_safe C_is_below C_are_weights C_is_alphabet,⟨y120,a11,i11,y121⟩,b11⟩,AF.g_Code⟩;have M_Code_number:=Y AF.c_Code d17 (fun _ _ F=>uH F T AF C_places_of M_Code_has_good) fun _ _ _ _ _ _=>L2.eP fun _ _=>rfl;have b27:=F27.binds (ps:=["self","entry","number","is_barred"]) fun _ _ _ _ _ _=>L2.sE fun _ _ _ _=>rfl;have M_Book_choose:uc l.prog w K mg base (CX1 l.prog w) k_Book "choose" 4 1 ["self","entry","number","is_barred"] (dA (⟨k_Code,k_Book,k_Editions,k_CableError,k_NoCode,k_NoNumber,k_NoWord,k_NoEntry,k_Twice,k_TooMany,k_NoBook,k_NoDay,k_cd,k_tb,k_cd1,k_tb1,()⟩:Ads)):=⟨⟨f27,_,fun k=>uE (k:=k) F27 T AF C_is_below C_is_entry M_Book_least_free M_Code_many,⟨a27,i27,k27⟩,b27⟩,AF.c_Book⟩;have M_Book_number:=Y AF.c_Book d31 (fun _ _ F=>uF F T AF C_is_entry) fun _ _ _ _ _ _=>L2.eP fun _ _=>rfl;have M_Editions_check_change:=Y AF.c_Editions d38 (fun _ _ F=>kx F T AF C_is_day) fun _ _ _ _ _ _=>L2.eP fun _ _=>rfl;have C_shown:=Z d43 (fun _ _ F=>FT F T AF C_code_row C_entry_row M_Book_entries M_Code_word M_Book_code) fun _ _ _ _ _ _=>L2.bind1 fun _=>rfl;have M_Book_strike:=Y AF.c_Book d29 (fun _ _ F=>uG F T AF M_Book_number) fun _ _ _ _ _ _=>L2.eP fun _ _=>rfl;have C_law_is_edition:=Z d60 (fun _ _ F=>qo F T AF M_Book_number M_Book_entry M_Book_entries) fun _ _ _ _ _ _=>L2.eP fun _ _=>rfl;have b26:Binds K (PySem.W.fnOf "put" "Book.put" (cu da) (bW da) (av da) (.ref dt26) kV26 dc26 pm26 an26 (.ref k_cd) ct26) ["self","entry","number"] []:=fun s us hK hl=>by rcases us with _ | ⟨_,_ | ⟨_,_ | ⟨_,_ | _⟩⟩⟩<;>first | (simp at hl;done) | exact .of_defaults rfl (hK _ _ t26) rfl rfl rfl
 have bd26:Binds K (PySem.W.fnOf "put" "Book.put" (cu da) (bW da) (av da) (.ref dt26) kV26 dc26 pm26 an26 (.ref k_cd) ct26) ["self","entry","number"] [.none]:=fun s us hK hl=>by rcases us with _ | ⟨_,_ | ⟨_,_ | _⟩⟩<;>first | (simp at hl;done) | exact .of_defaults rfl (hK _ _ t26) rfl rfl rfl
 have M_Book_put:Mtd l.prog w K mg base (CX1 l.prog w) k_Book "put" 6 ["self","entry","number"] (eR (⟨k_Code,k_Book,k_Editions,k_CableError,k_NoCode,k_NoNumber,k_NoWord,k_NoEntry,k_Twice,k_TooMany,k_NoBook,k_NoDay,k_cd,k_tb,k_cd1,k_tb1,()⟩:Ads)):=⟨⟨f26,_,sT F26 T AF rfl M_Book_choose,⟨a26,i26,k26⟩,b26⟩,AF.c_Book⟩;have D_Book_put:Ed l.prog w K mg base (CX1 l.prog w) k_Book "put" 6 ["self","entry","number"] (eR (⟨k_Code,k_Book,k_Editions,k_CableError,k_NoCode,k_NoNumber,k_NoWord,k_NoEntry,k_Twice,k_TooMany,k_NoBook,k_NoDay,k_cd,k_tb,k_cd1,k_tb1,()⟩:Ads)):=⟨⟨f26,_,sT F26 T AF rfl M_Book_choose,⟨a26,i26,k26⟩,bd26⟩,AF.c_Book⟩;have M_Editions_strike:=Y AF.c_Editions d36 (fun _ _ F=>pf F T AF M_Editions_note_change M_Book_strike M_Editions_check_change) fun _ _ _ _ _ _=>L2.ud fun _ _ _=>rfl;have b35:Binds K (PySem.W.fnOf "put" "Editions.put" (cu bV) (bW bV) (av bV) (.ref dt35) kV35 dc35 pm35 an35 (.ref k_cd1) ct35) ["self","day","entry","number"] []:=fun s us hK hl=>by rcases us with _ | ⟨_,_ | ⟨_,_ | ⟨_,_ | ⟨_,_ | _⟩⟩⟩⟩<;>first | (simp at hl;done) | exact .of_defaults rfl (hK _ _ t35) rfl rfl rfl
 have bd35:Binds K (PySem.W.fnOf "put" "Editions.put" (cu bV) (bW bV) (av bV) (.ref dt35) kV35 dc35 pm35 an35 (.ref k_cd1) ct35) ["self","day","entry","number"] [.none]:=fun s us hK hl=>by rcases us with _ | ⟨_,_ | ⟨_,_ | ⟨_,_ | _⟩⟩⟩<;>first | (simp at hl;done) | exact .of_defaults rfl (hK _ _ t35) rfl rfl rfl
 have M_Editions_put:Mtd l.prog w K mg base (CX1 l.prog w) k_Editions "put" 7 ["self","day","entry","number"] (cB (⟨k_Code,k_Book,k_Editions,k_CableError,k_NoCode,k_NoNumber,k_NoWord,k_NoEntry,k_Twice,k_TooMany,k_NoBook,k_NoDay,k_cd,k_tb,k_cd1,k_tb1,()⟩:Ads)):=⟨⟨f35,_,m5 F35 T AF rfl M_Editions_note_change M_Book_put M_Book_choose M_Editions_is_barred M_Editions_check_change,⟨a35,i35,k35⟩,b35⟩,AF.c_Editions⟩;have D_Editions_put:Ed l.prog w K mg base (CX1 l.prog w) k_Editions "put" 7 ["self","day","entry","number"] (cB (⟨k_Code,k_Book,k_Editions,k_CableError,k_NoCode,k_NoNumber,k_NoWord,k_NoEntry,k_Twice,k_TooMany,k_NoBook,k_NoDay,k_cd,k_tb,k_cd1,k_tb1,()⟩:Ads)):=⟨⟨f35,_,m5 F35 T AF rfl M_Editions_note_change M_Book_put M_Book_choose M_Editions_is_barred M_Editions_check_change,⟨a35,i35,k35⟩,bd35⟩,AF.c_Editions⟩;have M_Editions_book:=Y AF.c_Editions d37 (fun _ _ F=>rT F T AF C_is_day M_Book_put M_Book_code K_Book) fun _ _ _ _ _ _=>L2.eP fun _ _=>rfl;have C_built:=Z d45 (fun _ _ F=>FR F T AF C_entry_written C_code_written M_Book_put M_Code_number K_Book K_Code) fun _ _ _ _ _ _=>L2.bind1 fun _=>rfl;have C_law_spoil:=Z d61 (fun _ _ F=>xn F T AF M_Book_entry M_Book_number M_Code_many M_Book_code M_Book_entries M_Book_strike D_Book_put) fun _ _ _ _ _ _=>L2.ud fun _ _ _=>rfl;have C_read:=Z d46 (fun _ _ F=>IM F T AF C_shown C_built) fun _ _ _ _ _ _=>L2.bind1 fun _=>rfl;have C_law_did:=Z d59 (fun _ _ F=>Ai F T AF M_Editions_strike M_Editions_put D_Editions_put) fun _ _ _ _ _ _=>L2.eP fun _ _=>rfl;exact KY F62 T AF C_law_is_edition C_read C_shown C_law_edition C_law_spoil C_law_kept C_law_did C_law_due C_law_mixed C_law_cell_at C_law_deeds C_law_pool C_law_many C_law_code_parts M_Editions_book M_Code_alphabet M_Book_code K_Editions K_Code
end Kb
open PySem PySem.W PyProof.Rows
local macro_rules | `(tactic| ac_rfl) => `(tactic| first | (refine' L2.Ie ?a ?l ?c ?k; (case a => k_is); (case l => k_is); (case c => k_is); (case k => k_is)) | (refine' L2.Ig ?a ?i ?l ?c ?k; (case a => k_is); (case i => k_is); (case l => k_is); (case c => k_is); (case k => k_is)))
set_option maxRecDepth 100000 in
set_option maxHeartbeats 0 in
theorem Hk.MQ:Hk.top.c:=by
 delta Hk.top
 dsimp only
 k_fill
 refine L2.DU (l:=PySem.Challenge.rw_cablehouse_k38_books_of_editions) (n:=63) (k:=9) (x:="_law_script") (CX:=fun w=>L2.CX1 PySem.Challenge.rw_cablehouse_k38_books_of_editions.prog w) (sp:=fun w=>Kb.A7 _ _ _) [(_,Kb.vw),(_,Kb.yw)] rfl Zd rfl ⟨rfl,Zd,Zd⟩ (by nofun) (fun w h Y=>⟨PySem.W.km_in_of Y,lA.mpr ⟨PySem.W.km_tabs_of Y _ (.tail _ (.head _)),lA.mpr ⟨PySem.W.km_tabs_of Y _ (.head _),fun _ h=>nomatch h⟩⟩⟩) ?F (fun w=>lA.mpr ⟨by ext,lA.mpr ⟨by ext,fun _ h=>nomatch h⟩⟩) (fun _ _ a ns hl hS hT=>⟨a,ns,rfl,hS,hl,hT _ (.head _),hT _ (.tail _ (.head _)),fun _=>rfl⟩) fun _ _ _ _ _ z=>L2.vH z
 case F =>
  intro w mg fa h KX G hmg;refine' Kb.all_mk KX G hmg ?y0 ?y1 ?y2 ?y3 ?y4 ?y5 ?y6 ?y7 ?y8 ?y9 ?y10 ?y11 ?d0 ?d1 ?d2 ?d3 ?d4 ?d5 ?d6 ?d7 ?d8 ?d9 ?d10 ?a11 ?i11 ?l11 ?c11 ?k11 ?d12 ?d13 ?d14 ?a15 ?i15 ?l15 ?c15 ?k15 ?d16 ?d17 ?d18 ?d19 ?d20 ?d21 ?d22 ?d23 ?a24 ?i24 ?l24 ?c24 ?k24 ?a25 ?i25 ?l25 ?c25 ?k25 ?a26 ?i26 ?l26 ?t26 ?c26 ?k26 ?a27 ?i27 ?l27 ?c27 ?k27 ?a28 ?i28 ?l28 ?c28 ?k28 ?d29 ?d30 ?d31 ?d32 ?d33 ?a34 ?i34 ?l34 ?c34 ?k34 ?a35 ?i35 ?l35 ?t35 ?c35 ?k35 ?d36 ?d37 ?d38 ?d39 ?d40 ?d41 ?d42 ?d43 ?d44 ?d45 ?d46 ?d47 ?d48 ?d49 ?d50 ?d51 ?d52 ?d53 ?d54 ?d55 ?d56 ?d57 ?d58 ?d59 ?d60 ?d61 ?a62 ?l62 ?c62 ?k62 ?y116 ?y117 ?y118 ?y119 ?y120 ?y121 ?y122 ?y123 ?y124 ?y125 ?y126 ?y127 ?y128 ?y129 ?y130 ?y131 ?y132 ?y133 ?y134 ?y135 ?y136 ?y137 ?y138 ?y139 ?y140 ?y141 ?y142 ?y143 ?y144 ?y145 ?y146 ?y147 ?y148 ?y149 ?y150 ?y151 ?y152 ?tab ?y154 ?err ?ndx ?y157 ?y158 ?y159 ?y160 ?y161 ?y162 ?y163 ?y164 ?y165 ?y166 ?y167 ?y168 ?y169 ?y170 ?y171 ?y172 ?y173 ?y174 ?y175 ?y176 ?y177 ?y178 ?y179 ?y180 ?y181 ?y182 ?y183 ?y184 ?y185 ?y186 ?y187 ?y188 ?y189 ?y190
  (case y0 | y1 | y2 | y3 | y4 | y5 | y6 | y7 | y8 | y9 | y10 | y11=>k_is)
  (case d0 | d1 | d2 | d3 | d4 | d5 | d6 | d7 | d8 | d9 | d10=>ac_rfl)
  (case a11 | i11 | l11 | c11 | k11=>k_is)
  (case d12 | d13 | d14=>ac_rfl)
  (case a15 | i15 | l15 | c15 | k15=>k_is)
  (case d16 | d17 | d18 | d19 | d20 | d21 | d22 | d23=>ac_rfl)
  (case a24 | i24 | l24 | c24 | k24 | a25 | i25 | l25 | c25 | k25 | a26 | i26 | l26 | t26 | c26 | k26 | a27 | i27 | l27 | c27 | k27 | a28 | i28 | l28 | c28 | k28=>k_is)
  (case d29 | d30 | d31 | d32 | d33=>ac_rfl)
  (case a34 | i34 | l34 | c34 | k34 | a35 | i35 | l35 | t35 | c35 | k35=>k_is)
  (case d36 | d37 | d38 | d39 | d40 | d41 | d42 | d43 | d44 | d45 | d46 | d47 | d48 | d49 | d50 | d51 | d52 | d53 | d54 | d55 | d56 | d57 | d58 | d59 | d60 | d61=>ac_rfl)
  (case a62 | l62 | c62 | k62 | y116 | y117 | y118 | y119 | y120 | y121 | y122 | y123 | y124 | y125 | y126 | y127 | y128 | y129 | y130 | y131 | y132 | y133 | y134 | y135 | y136 | y137 | y138 | y139 | y140 | y141 | y142 | y143=>k_is)
  (case y144 | y145 | y146 | y147 | y148 | y149 | y150 | y151 | y152 | tab | y154 | err | ndx=>ext)
  (case y157=>k_is)
  (case y158=>exact⟨_,rfl⟩)
  (case y159=>k_is)
  (case y160=>exact⟨_,rfl⟩)
  (case y161=>k_is)
  (case y162=>exact⟨_,rfl⟩)
  (case y163=>k_is)
  (case y164=>exact⟨_,rfl⟩)
  (case y165=>k_is)
  (case y166=>exact⟨_,rfl⟩)
  (case y167=>k_is)
  (case y168=>exact⟨_,rfl⟩)
  (case y169=>k_is)
  (case y170=>exact⟨_,rfl⟩)
  (case y171=>k_is)
  (case y172=>exact⟨_,rfl⟩)
  (case y173=>k_is)
  (case y174=>exact⟨_,rfl⟩)
  (case y175 | y176 | y177 | y178 | y179 | y180 | y181 | y182 | y183 | y184 | y185 | y186 | y187 | y188 | y189 | y190=>k_is)
theorem PySem.Challenge.cw_cablehouse_k38_books_of_editions_holds : PySem.Challenge.rw_cablehouse_k38_books_of_editions.Holds :=
 Hk.top.go Hk.MH Hk.MI Hk.MJ Hk.MK Hk.ML Hk.MM Hk.MN Hk.MO Hk.MP Hk.MR Hk.MQ
