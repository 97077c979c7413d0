import PyProof.Rows.All
import Wide.All
import OpenK.AllK
import Wide.FinOn
import Lean
import PyProof.EqAt
import PyProof.EqKinds
import PyProof.TupleCall
import PySem.Challenge.RW_cablehouse_k14_whole_book_rows
set_option Elab.async false
set_option linter.all false
set_option maxRecDepth 100000
namespace Hd
open PySem PySem.W PyProof.Rows
theorem keep3 {b1 b2 b3 a : Prop} (main : a) (hl : b1) (hw : b2) (hc : b3) : a := main
structure Top (r : Prop) where
  l1 : Prop
  l2 : Prop
  l3 : Prop
  h : Prop
  c : Prop
  go : l1 → l2 → l3 → h → c → r
/-- the same, what is seen in six parts -/
structure TopS (r : Prop) where
  l1 : Prop
  l2 : Prop
  l3 : Prop
  l4 : Prop
  l5 : Prop
  l6 : Prop
  l7 : Prop
  l8 : Prop
  h : Prop
  c : Prop
  go : l1 → l2 → l3 → l4 → l5 → l6 → l7 → l8 → h → c → r
/-- the same, what is left behind in two parts too -/
structure TopT (r : Prop) where
  l1 : Prop
  l2 : Prop
  l3 : Prop
  l4 : Prop
  l5 : Prop
  l6 : Prop
  l7 : Prop
  l8 : Prop
  l9 : Prop
  h : Prop
  c : Prop
  go : l1 → l2 → l3 → l4 → l5 → l6 → l7 → l8 → l9 → h → c → r
/-- a list that is seen, in two parts -/
theorem two {σ α β γ : Type} {x : World → OsState → Option σ} {as : List α} {f : σ → α → β} {h : σ → γ} {g : World → List β} {e : World → γ} (n : Nat)
    (h1 : ∀ w os, (x w os).map (fun s => (as.take n).map (f s)) = some ((g w).take n)) (h2 : ∀ w os, (x w os).map (fun s => ((as.drop n).map (f s), h s)) = some ((g w).drop n, e w)) : ∀ w os, (x w os).map (fun s => (as.map (f s), h s)) = some (g w, e w) := fun w os => by
  obtain ⟨s, e0, e1⟩ := Option.map_eq_some_iff.mp (h1 w os)
  have e2 := h2 w os
  rw [e0] at e2 ⊢
  have e2 := Option.some.inj e2
  simp only [Prod.mk.injEq] at e2
  refine congrArg some (Prod.ext ?_ e2.2)
  show as.map (f s) = g w
  rw [← List.take_append_drop n as, List.map_append, e1, e2.1, List.take_append_drop]
def tree : List Obj → Nat → BT → BT
  | [], _, t => t
  | o :: l, n, t => tree l (n + 1) (t.ins n o)
def goT (st : SharedT → Thread → Option (SharedT × Thread)) (ok : Thread → Bool) : Nat → SharedT → Thread → Option SharedT
  | 0, _, _ => none
  | n + 1, s, t => match through t with
    | true => some s
    | false => match ok t with
      | false => none
      | true => match st s t with
        | some (s', t') => goT st ok n s' t'
        | none => none
theorem goT_of {tb : String → Option Builtin} {p : Program} {w : World} {n₀ : Nat} {ann : Option Value} : ∀ {n : Nat} {s s' : SharedT} {t : Thread}, goT (stepT (denote tb) p w) (stepOk n₀ ann) n s t = some s' → topRun tb p w n₀ ann n s.abs t = some s'.abs
  | 0, _, _, _, h => nomatch h
  | n + 1, s, s', t, h => by
    unfold goT at h
    unfold topRun
    cases ht : through t with
    | true => rw [ht] at h; cases h; rfl
    | false =>
      rw [ht] at h
      cases hk : stepOk n₀ ann t with
      | false => rw [hk] at h; cases h
      | true =>
        rw [hk] at h
        cases hs : stepT (denote tb) p w s t with
        | none => rw [hs] at h; cases h
        | some r => obtain ⟨s₂, t₂⟩ := r; rw [hs] at h; rw [stepT_spec hs]; exact goT_of h
/-- the state behind the boot, its heap as a tree -/
noncomputable def boot (w : World) (os : OsState) : SharedT := ⟨tree (boot_heap w.params).objs.toList 0 .nil, (boot_heap w.params).objs.size, (boot_heap w.params).life, #[], boot_drawn, boot_toks, os⟩
/-- the run of the top behind the boot -/
noncomputable def ran (p : Program) (N : Nat) (w : World) (os : OsState) : Option SharedT := goT (stepT (denote treeTable) p w) (stepOk 11 (some (.ref 6))) N (boot w os) (topStub p)
theorem boot_tree (P : Params) : absHeap (tree (boot_heap P).objs.toList 0 .nil) (boot_heap P).objs.size (boot_heap P).life = boot_heap P := by kernel_rfl
theorem boot_size (P : Params) : ((boot_heap P).isNs mainGlobals, (boot_heap P).objs.size, (boot_heap P).nsMap mainGlobals "__annotations__") = (true, 11, some (.ref 6)) := by kernel_rfl
/-- what is seen behind the run, in six parts, each by itself -/
theorem six {σ α β γ δ ε ζ η θ ι : Type} {x : World → OsState → Option σ} {f1 : σ → α} {f2 : σ → β} {f3 : σ → γ} {f4 : σ → δ} {f5 : σ → ε} {f6 : σ → ζ} {f7 : σ → η} {f8 : σ → θ} {f9 : σ → ι} {g1 : α} {g2 : β} {g3 : γ} {g4 : δ} {g5 : ε} {g6 : ζ} {g7 : η} {g8 : θ} {g9 : ι}
    (h1 : ∀ w os, (x w os).map (fun s => f1 s) = some g1) (h2 : ∀ w os, (x w os).map (fun s => (f2 s, f3 s)) = some (g2, g3)) (h3 : ∀ w os, (x w os).map (fun s => (f4 s, f5 s)) = some (g4, g5)) (h4 : ∀ w os, (x w os).map (fun s => f6 s) = some g6)
    (h5 : ∀ w os, (x w os).map (fun s => (f7 s, f8 s)) = some (g7, g8)) (h6 : ∀ w os, (x w os).map (fun s => f9 s) = some g9) : ∀ w os, (x w os).map (fun s => (f1 s, f2 s, f3 s, f4 s, f5 s, f6 s, f7 s, f8 s, f9 s)) = some (g1, g2, g3, g4, g5, g6, g7, g8, g9) := fun w os => by
  obtain ⟨s, e, e1⟩ := Option.map_eq_some_iff.mp (h1 w os)
  have e2 := h2 w os
  have e3 := h3 w os
  have e4 := h4 w os
  have e5 := h5 w os
  have e6 := h6 w os
  rw [e] at e2 e3 e4 e5 e6 ⊢
  have e2 := Option.some.inj e2
  have e3 := Option.some.inj e3
  have e4 := Option.some.inj e4
  have e5 := Option.some.inj e5
  have e6 := Option.some.inj e6
  simp only [Prod.mk.injEq] at e2 e3 e5
  exact congrArg some (Prod.ext e1 (Prod.ext e2.1 (Prod.ext e2.2 (Prod.ext e3.1 (Prod.ext e3.2 (Prod.ext e4 (Prod.ext e5.1 (Prod.ext e5.2 e6))))))))
theorem left {p q : Program} {loose : List Str} {Xt : Shared → Bool} {α : Type} {Yf : Shared → α} {Ya : World → α} {N : Nat} {g0 : Bool}
    (e : opening p = plainProg p.main.scope.names) (hN : Nat.ble 600 N = true) (f : ∀ s, fenceModules? p s = some s)
    (r1 : ∀ w os, (ran p N w os).map (fun s => staticsOk (importedModules p.main.body) (boot_heap w.params) s.abs.heap && namesBound p s.abs.heap && gensDone s.abs && laidKept (boot_heap w.params) s.abs.heap) = some true)
    (r2 : ∀ w os, (ran p N w os).map (fun s => openSeen q loose (importedModules p.main.body) Xt g0 s.abs) = some (openGood q loose))
    (r3 : ∀ w os, (ran p N w os).map (fun s => Yf s.abs) = some (Ya w)) : LeftO p q loose Xt Yf Ya N g0 := fun w => by
  obtain ⟨⟨h, gs, d, k, os⟩, e, e'⟩ := Option.map_eq_some_iff.mp (boot_open e hN f w)
  obtain ⟨rfl, rfl, rfl, rfl⟩ : h = boot_heap w.params ∧ gs = #[] ∧ d = boot_drawn ∧ k = boot_toks := by simpa using e'
  obtain ⟨z1, z2, z3⟩ : _ ∧ _ ∧ _ := by simpa only [Prod.mk.injEq] using boot_size w.params
  obtain ⟨s', r, l1⟩ := Option.map_eq_some_iff.mp (r1 w os)
  have l2 := r2 w os
  have l3 := r3 w os
  rw [r] at l2 l3
  have l2 := Option.some.inj l2
  have l3 := Option.some.inj l3
  unfold ran at r
  have r := goT_of r
  have hB : (boot w os).abs = ⟨boot_heap w.params, #[], boot_drawn, boot_toks, os⟩ := by
    unfold boot SharedT.abs
    rw [boot_tree]
  rw [hB] at r
  have t : topFrom treeTable p w N ⟨boot_heap w.params, #[], boot_drawn, boot_toks, os⟩ = some s'.abs := by
    unfold topFrom
    dsimp only
    rw [z1, z2, z3, r]
    show (match staticsOk (importedModules p.main.body) (boot_heap w.params) s'.abs.heap && namesBound p s'.abs.heap && gensDone s'.abs && laidKept (boot_heap w.params) s'.abs.heap with | true => _ | false => _) = _
    rw [l1]
  unfold openEnds
  rw [e]
  show (topFrom treeTable p w N _).map _ = _
  rw [t]
  exact congrArg some (Prod.ext l2 l3)
/-- the same run by the library's quick twins -/
theorem ran_eq : @ran = fun p N w os => goT (PySem.W.Fast.tw10156331382660048174 (denote PySem.W.Fast.tw14364793385576792824) p w) (PySem.W.Fast.tw6613529449190102663 11 (some (.ref 6))) N (boot w os) (topStub p) := by
  unfold ran
  rw [PySem.W.Fast.te10156331382660048174, PySem.W.Fast.te6613529449190102663, PySem.W.Fast.te14364793385576792824]
end Hd

section
open PySem PySem.W PyProof.Rows
set_option maxHeartbeats 0
noncomputable def Hk.top : Hd.TopS PySem.Challenge.rw_cablehouse_k14_whole_book_rows.Holds := by
  apply Hd.TopS.mk
  case go =>
    intro x1 x2 x3 x4 x5 x6 x7 x8 y z
    w_on; o_law
    apply Hd.keep3
    case main => k_head
    case hl => exact Hd.left (by kernel_rfl) (by decide) (fun _ => by kernel_rfl) x1 (Hd.six x2 x4 x5 x6 x7 x8) x3
    case hw => exact y
    case hc => exact z
theorem Hk.top_1 : Hk.top.l1 := by
  delta Hk.top
  dsimp only
  intro w os
  rw [Hd.ran_eq]
  kernel_rfl
theorem Hk.top_2 : Hk.top.l2 := by
  delta Hk.top
  dsimp only
  intro w os
  rw [Hd.ran_eq]
  kernel_rfl
theorem Hk.top_3 : Hk.top.l3 := by
  delta Hk.top
  dsimp only
  intro w os
  rw [Hd.ran_eq]
  kernel_rfl
theorem Hk.top_4 : Hk.top.l4 := by
  delta Hk.top
  dsimp only
  intro w os
  rw [Hd.ran_eq]
  kernel_rfl
theorem Hk.top_5 : Hk.top.l5 := by
  delta Hk.top
  dsimp only
  intro w os
  rw [Hd.ran_eq]
  kernel_rfl
theorem Hk.top_6 : Hk.top.l6 := by
  delta Hk.top
  dsimp only
  intro w os
  rw [Hd.ran_eq]
  kernel_rfl
theorem Hk.top_7 : Hk.top.l7 := by
  delta Hk.top
  dsimp only
  intro w os
  rw [Hd.ran_eq]
  kernel_rfl
theorem Hk.top_8 : Hk.top.l8 := by
  delta Hk.top
  dsimp only
  intro w os
  rw [Hd.ran_eq]
  kernel_rfl
theorem Hk.top_h : Hk.top.h := by
  delta Hk.top
  dsimp only
  w_witness2
end
-- CHANGE: your row's module here,as the last of these rows
set_option Elab.async false
set_option linter.all false
set_option maxRecDepth 100000
namespace L2
open PySem PySem.Spec PyProof.Rows

abbrev Key:=Sum Int Str
def keyIs:Key->Value->Bool
 | .inl k,v=>Value.isInt k v
 | .inr x,v=>Value.isStrOf x v
def keyH (w:World):Key->Int
 | .inl k=>hashInt k
 | .inr x=>hashStr w x
theorem keyIs_shape:∀ {k:Key}{v:Value},keyIs k v=true->(∃ i t,k=Sum.inl i/\v=Value.int i t) ∨ (∃ x t,k=Sum.inr x/\v=Value.str x t)
 | .inl i,v,h=>by
  obtain ⟨t,e⟩:=Value.isInt_shape (k:=i) (v:=v) h
  exact .inl ⟨i,t,rfl,e⟩
 | .inr x,v,h=>by
  obtain ⟨t,e⟩:=Value.isStrOf_shape (x:=x) (v:=v) h
  exact .inr ⟨x,t,rfl,e⟩
theorem keyIs_int (i:Int) (t:Tok):keyIs (.inl i) (.int i t)=true:=by simp [keyIs,Value.isInt]
theorem keyIs_str (x:Str) (t:Tok):keyIs (.inr x) (.str x t)=true:=by simp [keyIs,Value.isStrOf]
theorem key_ll (a b:Int):decide ((Sum.inl a:Key)=Sum.inl b)=(a == b):=by
 by_cases e:a=b
 ·subst e;simp
 ·have h:¬ (Sum.inl a:Key)=Sum.inl b:=fun q=>e (Sum.inl.inj q)
  rw [decide_eq_false h]
  exact (beq_eq_false_iff_ne.mpr e).symm
theorem key_rr (a b:Str):decide ((Sum.inr a:Key)=Sum.inr b)=decide (a=b):=by
 by_cases e:a=b
 ·subst e;simp
 ·have h:¬ (Sum.inr a:Key)=Sum.inr b:=fun q=>e (Sum.inr.inj q)
  rw [decide_eq_false h,decide_eq_false e]
theorem key_lr (a:Int) (b:Str):decide ((Sum.inl a:Key)=Sum.inr b)=false:=decide_eq_false (fun q=>nomatch q)
theorem key_rl (a:Str) (b:Int):decide ((Sum.inr a:Key)=Sum.inl b)=false:=decide_eq_false (fun q=>nomatch q)

def mixKind (prog:Program) (w:World):PySem.KeyKind prog w Key where
 is:=keyIs
 hash:=keyH w
 inj:=fun v a b ha hb=>by
  rcases keyIs_shape ha with ⟨i,t,rfl,rfl⟩ | ⟨x,t,rfl,rfl⟩
  ·rcases keyIs_shape hb with ⟨j,u,rfl,e⟩ | ⟨y,u,rfl,e⟩
   ·injection e with e1 _;rw [e1]
   ·exact nomatch e
  ·rcases keyIs_shape hb with ⟨j,u,rfl,e⟩ | ⟨y,u,rfl,e⟩
   ·exact nomatch e
   ·injection e with e1 _;rw [e1]
 byValue:=fun k v h=>by
  rcases keyIs_shape h with ⟨i,t,rfl,rfl⟩ | ⟨x,t,rfl,rfl⟩ <;> rfl
 pyHash:=fun hv h=>by
  rcases keyIs_shape hv with ⟨i,t,rfl,rfl⟩ | ⟨x,t,rfl,rfl⟩
  ·exact wpAny_pyHash_int h
  ·exact wpAny_pyHash_str h
 eqBool:=fun hu hv h=>by
  rcases keyIs_shape hu with ⟨i,t,rfl,rfl⟩ | ⟨x,t,rfl,rfl⟩
  ·rcases keyIs_shape hv with ⟨j,u,rfl,rfl⟩ | ⟨y,u,rfl,rfl⟩
   ·rw [key_ll] at h;exact wpAny_eqBool_int h
   ·rw [key_lr] at h;exact SeqAt.EqAt.int_str i t y u _ _ _ _ h
  ·rcases keyIs_shape hv with ⟨j,u,rfl,rfl⟩ | ⟨y,u,rfl,rfl⟩
   ·rw [key_rl] at h;exact SeqAt.EqAt.str_int x t j u _ _ _ _ h
   ·rw [key_rr] at h;exact wpAny_eqBool_str h
 «strs»:=fun k x t v h=>by
  rcases keyIs_shape h with ⟨i,u,rfl,e⟩ | ⟨y,u,rfl,e⟩
  ·exact nomatch e
  ·injection e with e1 _
   subst e1
   cases v <;> rfl

theorem mixKind_int (prog:Program) (w:World) (i:Int) (t:Tok):(mixKind prog w).is (.inl i) (.int i t)=true:=keyIs_int i t
theorem mixKind_str (prog:Program) (w:World) (x:Str) (t:Tok):(mixKind prog w).is (.inr x) (.str x t)=true:=keyIs_str x t
end L2

namespace L2
open PySem PySem.Spec PyProof.Rows

inductive V where
 | non | bl (b:Bool) | int (i:Int) | str (x:Str) | byt (b:Array UInt8) | flt (b:UInt64) | ref (a:Addr) | ty (n:String)
 deriving DecidableEq

def RelV:V->Value->Prop
 | .non,u=>u=Value.none
 | .bl b,u=>u=Value.bool b
 | .int i,u=>∃ t,u=Value.int i t
 | .str x,u=>∃ t,u=Value.str x t
 | .byt b,u=>∃ t,u=Value.bytes b t
 | .flt b,u=>∃ t,u=Value.float b t
 | .ref a,u=>u=Value.ref a
 | .ty n,u=>u=Value.type n

abbrev Vals:List V->List Value->Prop:=Paired RelV
theorem Vals.length {xs:List V}{us:List Value} (r:Vals xs us):xs.length=us.length:=Paired.length r
theorem Vals.get:∀ {xs:List V}{us:List Value}{i:Nat}{x:V},Vals xs us->xs[i]?=some x->∃ u,us[i]?=some u/\RelV x u
 | _,_,_,_,.nil,e=>by simp at e
 | _,_,0,_,.cons r _,e=>by simp at e;subst e;exact ⟨_,rfl,r⟩
 | _,_,i + 1,x,.cons _ t,e=>by
  obtain ⟨u,h1,h2⟩:=Vals.get (i:=i) (x:=x) t (by simpa using e)
  exact ⟨u,by simpa using h1,h2⟩
theorem Vals.set {x:V}{u:Value} (r:RelV x u):∀ {xs:List V}{us:List Value} (i:Nat),Vals xs us->Vals (xs.set i x) (us.set i u)
 | _,_,_,.nil=>.nil
 | _,_,0,.cons _ t=>.cons r t
 | _,_,i + 1,.cons q t=>.cons q (Vals.set r i t)
theorem Vals.append:∀ {xs ys:List V}{us ws:List Value},Vals xs us->Vals ys ws->Vals (xs++ys) (us++ws)
 | _,_,_,_,.nil,s=>s
 | _,_,_,_,.cons r t,s=>.cons r (Vals.append t s)
theorem Vals.take:∀ {xs:List V}{us:List Value} (n:Nat),Vals xs us->Vals (xs.take n) (us.take n)
 | _,_,0,_=>.nil
 | _,_,_ + 1,.nil=>.nil
 | _,_,n + 1,.cons r t=>.cons r (Vals.take n t)
theorem Vals.drop:∀ {xs:List V}{us:List Value} (n:Nat),Vals xs us->Vals (xs.drop n) (us.drop n)
 | _,_,0,r=>r
 | _,_,_ + 1,.nil=>.nil
 | _,_,n + 1,.cons _ t=>Vals.drop n t
theorem Vals.none_of:∀ {xs:List V}{us:List Value}{i:Nat},Vals xs us->xs[i]?=none->us[i]?=none:=fun {xs us i} r e=>by
 have h1:=r.length
 have h2:xs.length<=i:=List.getElem?_eq_none_iff.mp e
 exact List.getElem?_eq_none_iff.mpr (by omega)

def RelO:Option V->Option Value->Prop
 | some v,some u=>RelV v u
 | none,none=>True
 | _,_=>False
def KV {κ:Type}:List (κ × V)->List (κ × Value)->Prop:=Paired fun (p:κ × V) (q:κ × Value)=>p.1=q.1/\RelV p.2 q.2

def kV:Key->V
 | .inl i=>.int i
 | .inr x=>.str x

inductive HO where
 /-- a list -/
 | lst (xs:List V)
 /-- a tuple (never changes) -/
 | tup (xs:List V)
 /-- a dict whose keys are ints and texts;one whose keys are tuples of ints and texts (the empty one is both) -/
 | dK (kvs:List (Key × V)) | dT (kvs:List (List Key × V))
 /-- a set of ints: its members,its size -/
 | set (S:Int->Bool) (n:Nat)
 /-- an instance of the class at C,its dict at dx,its attributes -/
 | ins (C dx:Addr) (fs:List (Str × V))
 /-- the dict of the instance at x -/
 | own (x:Addr)
 /-- the dict of an exception -/
 | xd (fs:List (Str × V))
 /-- a bound method,f of x -/
 | met (f x:Addr)
 /-- a range object lo,lo + 1,.. below hi -/
 | rng (lo hi:Int)
 /-- a thing that is known to the object (the script;a dict while a loop walks it): read,never written while it is so -/
 | frz (o:Obj) (u:HO)
 /-- a code object's table -/
 | tbl (ps:Array Value)
 /-- any other thing,by what is true of its one object (a def of one's own: SetO a S n:=HO.ext fun h=>..) -/
 | ext (φ:Heap->Prop)

abbrev Hp:=Addr->Option HO
def upd (H:Hp) (a:Addr) (o:HO):Hp:=fun b=>if b=a then some o else H b
theorem upd_same {H:Hp}{a:Addr}{o:HO}:upd H a o a=some o:=by unfold upd;rw [if_pos rfl]
theorem upd_ne {H:Hp}{a b:Addr}{o:HO} (h:b≠a):upd H a o b=H b:=by unfold upd;rw [if_neg h]
theorem ne_of {H:Hp}{a b:Addr}{o u:HO} (h:H a=some o) (h':H b=some u) (d:o≠u):a≠b:=by
 intro e;subst e;rw [h] at h';exact d (Option.some.inj h')
theorem ne_of_none {H:Hp}{a b:Addr}{o:HO} (h:H a=some o) (h':H b=none):a≠b:=by
 intro e;subst e;rw [h] at h';cases h'

section
variable (P:Program) (w:World)
def ObjOk (H:Hp) (h:Heap) (a:Addr):HO->Prop
 | .lst xs=>xs.length<=sizeLine/\∃ (its:List Value) (n:Nat),Vals xs its/\h.get? a=some { cls:=.type "list",data:=.seq its.toArray n }
 | .tup xs=>xs.length<=sizeLine/\∃ its:List Value,Vals xs its/\IsTup h a its.toArray
 | .dK kvs=>kvs.length<=sizeLine/\(a == sysModules)=false/\∃ vs,KV kvs vs/\h.DictOf (mixKind P w) a vs
 | .dT kvs=>kvs.length<=sizeLine/\(a == sysModules)=false/\∃ xs:List (List Key × Addr × Value),
   Paired (fun (p:List Key × V) (q:List Key × Addr × Value)=>p.1=q.1/\H q.2.1=some (.tup (p.1.map kV))/\RelV p.2 q.2.2) kvs xs ∧
   ∃ o es ep,h.get? a=some o/\o.ExactDict/\o.data=.dict es ep/\es.toList=xs.map (entryOfKey (tupleKind (mixKind P w)))/\(xs.map (·.1)).Nodup
 | .set S n=>h.SetOf (intKind P w) a S n
 | .ins C dx fs=>H dx=some (.own a)/\fs.length<=1000/\dx≠a/\h.get? a=some (PySem.W.instObj C dx) ∧
   ∃ mA,h.Ns1 dx mA/\(∀ f,RelO (fs.lookup f) (mA f))/\PySem.Within mA (fs.map (·.1))
 | .own _=>∃ o,h.get? a=some o
 | .xd fs=>∃ mA,h.Ns1 a mA/\∀ f,RelO (fs.lookup f) (mA f)
 | .rng lo hi=>∃ t u v,h.get? a=some { cls:=.type "range",data:=.fields #[.int lo t,.int hi u,.int 1 v] }
 | .frz o u=>h.get? a=some o/\ObjOk H h a u
 | .tbl ps=>∃ qs:Array Value,h.get? a=some { cls:=.none,data:=.fields qs }/\TriplesOk qs.toList/\∀ pos c,codeAmong pos qs.toList=some c->∃ c' oc vs t q,c=.ref c'/\H c'=some (.frz oc (.own a))/\oc.data=.fields vs/\vs[1]?=some (.str q t)/\ps=#[.str q 0]
 | .met f x=>h.get? a=some (PySem.W.methodObj (.ref f) (.ref x))
 | .ext φ=>φ h/\(∃ o,h.get? a=some o)/\∀ h1 h2:Heap,φ h1->(∀ o,h1.get? a=some o->h2.get? a=some o)->φ h2
def HOk (H:Hp) (h:Heap):Prop:=∀ a o,H a=some o->ObjOk P w H h a o
end

section
variable {P:Program}{w:World}{H H':Hp}{h h':Heap}{a:Addr}{o:HO}
theorem ObjOk.lt (x:ObjOk P w H h a o):a < h.objs.size:=by
 cases o with
 | lst xs=>obtain ⟨_,_,_,_,e⟩:=x;exact Heap.lt_size e
 | tup xs=>obtain ⟨_,_,_,p⟩:=x;exact p.lt
 | dK kvs=>obtain ⟨_,_,_,_,o,_,_,e,_⟩:=x;exact Heap.lt_size e
 | dT kvs=>obtain ⟨_,_,_,_,o,_,_,e,_⟩:=x;exact Heap.lt_size e
 | set S n=>obtain ⟨o,_,_,_,e,_⟩:=x;exact Heap.lt_size e
 | ins C dx fs=>obtain ⟨_,_,_,e,_⟩:=x;exact Heap.lt_size e
 | own y=>obtain ⟨_,e⟩:=x;exact Heap.lt_size e
 | xd fs=>obtain ⟨_,⟨_,_,_,e,_⟩,_⟩:=x;exact Heap.lt_size e
 | rng lo hi=>obtain ⟨_,_,_,e⟩:=x;exact Heap.lt_size e
 | frz ob u=>obtain ⟨e,_⟩:=x;exact Heap.lt_size e
 | tbl ps=>obtain ⟨_,e,_⟩:=x;exact Heap.lt_size e
 | met f y=>exact Heap.lt_size (show h.get? a=some _ from x)
 | ext φ=>obtain ⟨_,⟨_,e⟩,_⟩:=x;exact Heap.lt_size e
theorem Paired.mapP {α β:Type}{F G:α->β->Prop}:∀ {l₁:List α}{l₂:List β},Paired F l₁ l₂->(∀ a b,F a b->G a b)->Paired G l₁ l₂
 | _,_,.nil,_=>.nil
 | _,_,.cons r t,f=>.cons (f _ _ r) (Paired.mapP t f)
theorem ObjOk.stay (x:ObjOk P w H h a o) (k:∀ b u,(b=a ∨ H b=some (.own a))->h.get? b=some u->h'.get? b=some u)
  (ho:∀ b,H b=some (.own a)->H' b=some (.own a)) (ht:∀ b xs,H b=some (.tup xs)->H' b=some (.tup xs))
  (hf:∀ b ob u,H b=some (.frz ob u)->H' b=some (.frz ob u):=by first | exact fun _ _ _ q=>q | exact fun c ob u q=>(upd_ne (ne_of_none q (by assumption))).trans q):ObjOk P w H' h' a o:=by
 induction o with
 | lst xs=>obtain ⟨z,its,n,r,e⟩:=x;exact ⟨z,its,n,r,k _ _ (.inl rfl) e⟩
 | tup xs=>obtain ⟨z,its,r,ob,e,c⟩:=x;exact ⟨z,its,r,ob,k _ _ (.inl rfl) e,c⟩
 | dK kvs=>obtain ⟨z,y,vs,r,ob,es,ep,e,c⟩:=x;exact ⟨z,y,vs,r,ob,es,ep,k _ _ (.inl rfl) e,c⟩
 | dT kvs =>
  obtain ⟨z,y,xs,r,ob,es,ep,e,c⟩:=x
  exact ⟨z,y,xs,Paired.mapP r fun p q z=>⟨z.1,ht _ _ z.2.1,z.2.2⟩,ob,es,ep,k _ _ (.inl rfl) e,c⟩
 | set S n=>obtain ⟨ob,es,ep,t,e,c⟩:=x;exact ⟨ob,es,ep,t,k _ _ (.inl rfl) e,c⟩
 | ins C dx fs =>
  obtain ⟨d,z,ne,e,mA,⟨od,es,ep,e2,c⟩,r⟩:=x
  exact ⟨ho _ d,z,ne,k _ _ (.inl rfl) e,mA,⟨od,es,ep,k _ _ (.inr d) e2,c⟩,r⟩
 | own y=>obtain ⟨ob,e⟩:=x;exact ⟨ob,k _ _ (.inl rfl) e⟩
 | xd fs=>obtain ⟨mA,⟨od,es,ep,e,c⟩,r⟩:=x;exact ⟨mA,⟨od,es,ep,k _ _ (.inl rfl) e,c⟩,r⟩
 | rng lo hi=>obtain ⟨t,u,v,e⟩:=x;exact ⟨t,u,v,k _ _ (.inl rfl) e⟩
 | frz ob u ih=>obtain ⟨e,q⟩:=x;exact ⟨k _ _ (.inl rfl) e,ih q⟩
 | tbl ps =>
  obtain ⟨qs,e,t,z⟩:=x
  refine ⟨qs,k a _ (.inl rfl) e,t,fun pos c q=>?_⟩
  obtain ⟨c',oc,vs,tk,qq,h1,h2,h3⟩:=z pos c q
  exact ⟨c',oc,vs,tk,qq,h1,hf _ _ _ h2,h3⟩
 | met f y =>
  have e:h.get? a=some (PySem.W.methodObj (.ref f) (.ref y)):=x
  show h'.get? a=some (PySem.W.methodObj (.ref f) (.ref y))
  exact k a _ (.inl rfl) e
 | ext φ=>obtain ⟨p,⟨o,e⟩,st⟩:=x;exact ⟨st _ _ p fun o q=>k _ _ (.inl rfl) q,⟨o,k _ _ (.inl rfl) e⟩,st⟩
theorem HOk.lt (x:HOk P w H h) (e:H a=some o):a < h.objs.size:=(x a o e).lt
theorem HOk.fresh (x:HOk P w H h) (e:h.objs.size<=a):H a=none:=by
 cases q:H a with
 | none=>rfl
 | some u=>exact absurd (Nat.lt_of_lt_of_le (x.lt q) e) (Nat.lt_irrefl _)
theorem HOk.kept (x:HOk P w H h) (k:∀ b u,h.get? b=some u->h'.get? b=some u):HOk P w H h':=fun a o e =>
 (x a o e).stay (fun b u _ q=>k b u q) (fun _ q=>q) fun _ _ q=>q
theorem HOk.laid (x:HOk P w H h) (k:∀ b u,h.get? b=some u->h'.get? b=some u) (hp:h.objs.size<=a) (new:ObjOk P w (upd H a o) h' a o):HOk P w (upd H a o) h':=fun b u e=>by
 have hn:=x.fresh hp
 by_cases hb:b=a
 ·subst hb;rw [upd_same] at e;cases e;exact new
 ·rw [upd_ne hb] at e
  exact (x b u e).stay (fun c v _ q=>k c v q) (fun c q=>by rw [upd_ne (ne_of_none q hn)];exact q) fun c xs q=>by rw [upd_ne (ne_of_none q hn)];exact q
end

def Rd (H:Hp) (a:Addr) (u:HO):Prop:=H a=some u ∨ ∃ o,H a=some (.frz o u)
theorem Rd.of {H:Hp}{a:Addr}{u:HO} (h:H a=some u):Rd H a u:=.inl h
theorem Rd.ok {P:Program}{w:World}{H:Hp}{h:Heap}{a:Addr}{u:HO} (r:Rd H a u) (x:HOk P w H h):ObjOk P w H h a u:=by
 rcases r with r | ⟨o,r⟩
 ·exact x a u r
 ·obtain ⟨_,q⟩:=x a _ r
  exact q
def Mut:Option HO->Prop
 | some (.lst _)=>True
 | some (.dK _)=>True
 | some (.dT _)=>True
 | some (.set _ _)=>True
 | some (.ins _ _ _)=>True
 | some (.ext _)=>True
 | _=>False
section
variable {P:Program}{w:World}{H:Hp}{h h':Heap}{x e:Addr}{o':HO}
theorem HOk.write (ok:HOk P w H h) (mu:Mut (H x)) (he:e=x ∨ H e=some (.own x)) (k:∀ b u,b≠e->h.get? b=some u->h'.get? b=some u) (heo:∃ u,h'.get? e=some u)
  (new:ObjOk P w (upd H x o') h' x o'):HOk P w (upd H x o') h':=fun b u q=>by
 have nown:∀ c y,H c=some (.own y)->c≠x:=fun c y r z=>by subst z;rw [r] at mu;exact mu
 have ntup:∀ c xs,H c=some (.tup xs)->c≠x:=fun c xs r z=>by subst z;rw [r] at mu;exact mu
 by_cases hb:b=x
 ·subst hb;rw [upd_same] at q;cases q;exact new
 ·rw [upd_ne hb] at q
  by_cases hbe:b=e
  ·have q':H b=some (.own x):=by
    rcases he with z | z
    ·exact absurd (hbe.trans z) hb
    ·rw [hbe];exact z
   rw [q] at q';cases q'
   obtain ⟨v,hv⟩:=heo
   exact ⟨v,by rw [hbe];exact hv⟩
  ·refine (ok b u q).stay (fun c v hc r=>k c v ?_ r) (fun c r=>by rw [upd_ne (nown c b r)];exact r) (fun c xs r=>by rw [upd_ne (ntup c xs r)];exact r) fun c ob u r=>(upd_ne (fun z=>by subst z;rw [r] at mu;exact mu)).trans r
   rcases hc with rfl | hc
   ·exact hbe
   ·rintro rfl
    rcases he with z | z
    ·exact nown c b hc z
    ·rw [hc] at z;cases z;exact hb rfl
end

structure Un (fs ex:List Addr) (H H':Hp) (h h':Heap):Prop where
 keep:∀ b o,h.get? b=some o->H b=none->b ∉ fs->b ∉ ex->h'.get? b=some o
 slot:∀ b o,h.get? b=some o->H b=none->b∈fs->b ∉ ex->∃ sl,h'.get? b=some { o with slots:=sl }
 free:∀ b o,h.get? b=some o->H b=none->b ∉ ex->H' b=none
 there:∀ b o,h.get? b=some o->b ∉ ex->∃ o',h'.get? b=some o'
 tups:∀ b xs,H b=some (.tup xs)->H' b=some (.tup xs)
 frzs:∀ b o u,H b=some (.frz o u)->H' b=some (.frz o u)
 tbls:∀ b ps,H b=some (.tbl ps)->∃ more,H' b=some (.tbl (ps++more))
section
variable {fs fs' ex ex':List Addr}{H H1 H2:Hp}{h h1 h2 h':Heap}{a x e:Addr}{o:HO}
theorem Un.any (u:Un fs ex H H1 h h1) {b:Addr}{ob:Obj} (q:h.get? b=some ob) (n:H b=none) (hx:b ∉ ex):∃ sl,h1.get? b=some { ob with slots:=sl }:=by
 by_cases hb:b∈fs
 ·exact u.slot b ob q n hb hx
 ·exact ⟨ob.slots,u.keep b ob q n hb hx⟩
theorem Un.trans (a:Un fs ex H H1 h h1) (b:Un fs ex H1 H2 h1 h2):Un fs ex H H2 h h2 where
 keep:=fun c ob q n hc hx=>b.keep c ob (a.keep c ob q n hc hx) (a.free c ob q n hx) hc hx
 slot:=fun c ob q n hc hx=>by
  obtain ⟨sl,e1⟩:=a.slot c ob q n hc hx
  obtain ⟨sl',e2⟩:=b.slot c _ e1 (a.free c ob q n hx) hc hx
  exact ⟨sl',e2⟩
 free:=fun c ob q n hx=>by
  obtain ⟨o',e1⟩:=a.there c ob q hx
  exact b.free c o' e1 (a.free c ob q n hx) hx
 there:=fun c ob q hx=>by
  obtain ⟨o',e1⟩:=a.there c ob q hx
  exact b.there c o' e1 hx
 tups:=fun c xs q=>b.tups c xs (a.tups c xs q)
 frzs:=fun c ob xs q=>b.frzs c ob xs (a.frzs c ob xs q)
 tbls:=fun c ps q=>by
  obtain ⟨m1,e1⟩:=a.tbls c ps q
  obtain ⟨m2,e2⟩:=b.tbls c _ e1
  exact ⟨m1++m2,by rw [e2,Array.append_assoc]⟩
theorem Un.kept (k:∀ b u,h.get? b=some u->h'.get? b=some u):Un fs ex H H h h' :=
 ⟨fun b ob q _ _ _=>k b ob q,fun b ob q _ _ _=>⟨ob.slots,k b ob q⟩,fun _ _ _ n _=>n,fun b ob q _=>⟨ob,k b ob q⟩,fun _ _ q=>q,fun _ _ _ q=>q,fun _ ps q=>⟨#[],by rw [q];simp⟩⟩
theorem Un.refl:Un fs ex H H h h:=Un.kept fun _ _ q=>q
theorem Un.laid (k:∀ b u,h.get? b=some u->h'.get? b=some u) (hp:h.objs.size<=a) (hn:H a=none):Un fs ex H (upd H a o) h h' where
 keep:=fun b u q _ _ _=>k b u q
 slot:=fun b u q _ _ _=>⟨u.slots,k b u q⟩
 free:=fun b u q n _=>by rw [upd_ne (Nat.ne_of_lt (Nat.lt_of_lt_of_le (Heap.lt_size q) hp))];exact n
 there:=fun b u q _=>⟨u,k b u q⟩
 tups:=fun b xs q=>by rw [upd_ne (ne_of_none q hn)];exact q
 frzs:=fun b u xs q=>by rw [upd_ne (ne_of_none q hn)];exact q
 tbls:=fun b ps q=>⟨#[],by rw [upd_ne (ne_of_none q hn),q];simp⟩
theorem Un.write (mu:Mut (H x)) (he:e=x ∨ H e=some (.own x)) (k:∀ b u,b≠e->h.get? b=some u->h'.get? b=some u) (heo:∃ u,h'.get? e=some u):Un fs ex H (upd H x o) h h':=by
 have hx:∀ b,H b=none->b≠x:=fun b n z=>by subst z;rw [n] at mu;exact mu
 have hb:∀ b,H b=none->b≠e:=fun b n z=>by
  subst z
  rcases he with r | r
  ·exact hx b n r
  ·rw [n] at r;cases r
 have hm:∀ b u,H b=some u->¬ Mut (some u)->b≠x:=fun b u q nm z=>by subst z;rw [q] at mu;exact nm mu
 refine ⟨fun b u q n _ _=>k b u (hb b n) q,fun b u q n _ _=>⟨u.slots,k b u (hb b n) q⟩,fun b u q n _=>by rw [upd_ne (hx b n)];exact n,fun b u q _=>?_,
  fun b xs q=>by rw [upd_ne (hm b _ q fun z=>z)];exact q,fun b u xs q=>by rw [upd_ne (hm b _ q fun z=>z)];exact q,fun b ps q=>⟨#[],by rw [upd_ne (hm b _ q fun z=>z),q];simp⟩⟩
 by_cases hbe:b=e
 ·subst hbe;exact heo
 ·exact ⟨u,k b u hbe q⟩
theorem Un.mono (u:Un fs ex H H1 h h1) (hs:∀ b∈fs,b∈fs') (hx:∀ b∈ex,b∈ex'):Un fs' ex' H H1 h h1 :=
 ⟨fun b ob q n hb he=>u.keep b ob q n (fun z=>hb (hs b z)) fun z=>he (hx b z),fun _ _ q n _ he=>u.any q n fun z=>he (hx _ z),fun b ob q n he=>u.free b ob q n fun z=>he (hx b z),fun b ob q he=>u.there b ob q fun z=>he (hx b z),u.tups,u.frzs,u.tbls⟩
end

def trk (h:Heap) (H:Hp):List Addr:=(List.range h.objs.size).filter fun a=>(H a).isSome
def hidT (h:Heap) (H:Hp):Heap:=PySem.W.hideAll h (trk h H)
theorem hidT_size (h:Heap) (H:Hp):(hidT h H).objs.size=h.objs.size:=PySem.W.hideAll_size _ _
theorem hidT_get {h:Heap}{H:Hp}{b:Addr}{o:Obj} (e:h.get? b=some o) (n:H b=none):(hidT h H).get? b=some o :=
 PySem.W.hideAll_get _ e fun hm=>by
  have q:(H b).isSome=true:=(List.mem_filter.mp hm).2
  rw [n] at q;simp at q
theorem of_hidT {h:Heap}{H:Hp}{b:Addr}{o:Obj} (e:(hidT h H).get? b=some o):h.get? b=some o/\H b=none:=by
 have e':h.get? b=some o:=PySem.W.of_hideAll (trk h H) e
 refine ⟨e',?_⟩
 cases q:H b with
 | none=>rfl
 | some x =>
  have hm:b∈trk h H:=List.mem_filter.mpr ⟨List.mem_range.mpr (Heap.lt_size e'),by simp [q]⟩
  have z:(hidT h H).get? b=none:=PySem.W.hideAll_none (trk h H) hm
  rw [z] at e;cases e

def allNews (g h:Heap) (L:Addr):List (Addr × Obj):=(List.range h.objs.size).filterMap fun a=>if a=L ∨ (g.get? a).isSome=true then none else (h.get? a).map fun o=>(a,o)
def rest (g h:Heap) (L d:Addr):List (Addr × Obj):=(allNews g h L).filter fun p=>decide (p.1≠d)
end L2

namespace L2
open PySem PySem.Spec PyProof.Rows

structure Mod (K:PySem.W.Frag) (mg:Str->Option Value) (base:Heap):Prop where
 kin:K.In base
 glob:base.Ns mainGlobals mg
 blt:∃ mb,base.Ns builtinsNs mb/\∀ x:Str,x≠"__name__"->mb x=bootBuiltins x
 nolimit:base.NoLimit
 bmn:∃ bm ob,mg "__builtins__"=some (.ref bm)/\bm≠builtinsNs/\base.get? bm=some ob/\ob.cls=.type "module"/\ob.dict=some builtinsNs/\ob.data=.plain

/-- the context: a def's body (or a comprehension's block) running. base: fixed through the whole law;s₀,H₀: the entry;outer: the frames whose slots others may change (a def's callers);stack: all frames that run;
  ex: iterators that were made ahead of the entry and are walked here (a comprehension's);fn: the names whose cells were made at the entry (a def: all;a comprehension's block: its own);calm: not within an except suite;pn: pins that every state bears;xe: what is wanted of an exception that leaves the code -/
structure Cx where
 prog:Program
 w:World
 K:PySem.W.Frag
 mg:Str->Option Value
 base:Heap
 A:Around
 N:List Str
 s₀:Shared
 H₀:Hp
 env:Env
 outer:List Env
 stack:List Env
 ex:List Addr
 fn:Str->Bool
 calm:Bool
 pn:List (Addr × Obj)
 xe:Value->Shared->Prop
def frs (l:List Env):List Addr:=l.filterMap (·.frame)
abbrev Cx.fs (X:Cx):List Addr:=frs X.outer

def Vis (sc:Scope) (x:Str):Prop:=sc.names.lookup x=some .local ∨ sc.names.lookup x=some .cell ∨ sc.names.lookup x=some .free
def Loc (sc:Scope) (x:Str):Prop:=sc.names.lookup x=some .local ∨ sc.names.lookup x=some .cell
def Look (env:Env) (h:Heap) (m:Str->Option Value) (x:Str) (u:Value):Prop :=
 (env.kindOf x=some .local/\m x=some u) ∨ ((env.kindOf x=some .cell ∨ env.kindOf x=some .free)/\∃ c,env.cells.lookup x=some c/\h.IsCell c (some u))

structure Cx.Ok (X:Cx):Prop where
 mod:Mod X.K X.mg X.base
 kind:X.env.scope.kind=.function
 glob:X.env.globals=mainGlobals
 blt:X.env.builtins=builtinsNs
 above:X.s₀.heap.objs.size<=X.env.locals
 inj:∀ x y c,X.env.cells.lookup x=some c->X.env.cells.lookup y=some c->x=y
 has:∀ x,(X.env.kindOf x=some .cell ∨ X.env.kindOf x=some .free)->∃ c,X.env.cells.lookup x=some c
 cab:∀ x c,X.fn x=true->X.env.cells.lookup x=some c->X.s₀.heap.objs.size<=c
 hd:X.calm=true->X.A.handled=none
 frames:X.A.frames=some X.stack
 stk:X.stack=X.outer ∨ (X.stack=X.env::X.outer/\X.env.frame=some X.env.locals)
 exf:∀ b∈X.ex,b≠X.env.locals/\∀ x c,X.env.cells.lookup x=some c->c≠b
 bs:∀ b o,X.base.get? b=some o->X.s₀.heap.get? b=some o/\X.H₀ b=none
 bsz:X.base.objs.size<=X.s₀.heap.objs.size
 noex:∀ b o,X.base.get? b=some o->b ∉ X.ex
 exfs:∀ b∈X.ex,b ∉ X.fs
 funs:X.s₀.heap.FunFrames X.base X.outer
 frf:∀ b∈X.fs,X.H₀ b=none

structure Inv (X:Cx) (pins:List (Addr × Obj)) (σ:List (Option V)) (H:Hp) (s:Shared):Prop where
 ok:X.Ok
 os:s.os=X.s₀.os
 bare:AllBare s.gens
 base:Un X.fs X.ex X.H₀ H X.s₀.heap s.heap
 loc:∃ m,s.heap.Ns X.env.locals m/\∀ (i:Nat) (x:Str) (v:V),X.N[i]?=some x->σ[i]?=some (some v)->Vis X.env.scope x->∃ u,RelV v u/\Look X.env s.heap m x u
 cell:∀ x c,X.env.cells.lookup x=some c->∃ v,s.heap.IsCell c v
 free:H X.env.locals=none
 freeC:∀ x c,X.env.cells.lookup x=some c->H c=none
 pin:∀ p∈X.pn++pins,s.heap.get? p.1=some p.2/\H p.1=none/\p.1≠X.env.locals/\p.1 ∉ X.fs/\∀ v,p.2.data≠.cell v
 hok:HOk X.prog X.w H s.heap
 len:σ.length=X.N.length

section
variable {X:Cx}{pins:List (Addr × Obj)}{σ:List (Option V)}{H H':Hp}{s:Shared}{h':Heap}

theorem Cx.Ok.nofr (ok:X.Ok) {b:Addr}{o:Obj} (e:X.base.get? b=some o):b ∉ X.fs:=fun hb=>by
 have:=(ok.funs.mem hb).1
 rw [e] at this;cases this
theorem Inv.bs (I:Inv X pins σ H s):∀ b o,X.base.get? b=some o->s.heap.get? b=some o/\H b=none:=fun b o e =>
 ⟨I.base.keep b o (I.ok.bs b o e).1 (I.ok.bs b o e).2 (I.ok.nofr e) (I.ok.noex b o e),I.base.free b o (I.ok.bs b o e).1 (I.ok.bs b o e).2 (I.ok.noex b o e)⟩
theorem Inv.bk (I:Inv X pins σ H s):∀ b o,X.base.get? b=some o->s.heap.get? b=some o:=fun b o e=>(I.bs b o e).1
theorem Inv.mod (I:Inv X pins σ H s):Mod X.K X.mg X.base:=I.ok.mod
theorem Inv.kIn (I:Inv X pins σ H s):X.K.In s.heap:=I.ok.mod.kin.keeps I.bk
theorem Inv.nolimit (I:Inv X pins σ H s):s.heap.NoLimit:=I.ok.mod.nolimit.keeps I.bk
theorem Inv.fr (I:Inv X pins σ H s):∃ m,Fr X.base X.env.locals s.heap m :=
 let ⟨m,hn,_⟩:=I.loc
 ⟨m,hn,I.bk,Nat.le_trans I.ok.bsz I.ok.above⟩
theorem Inv.lt (I:Inv X pins σ H s):X.env.locals < s.heap.objs.size:=let ⟨_,hn,_⟩:=I.loc;hn.lt
theorem Inv.sz (I:Inv X pins σ H s):X.s₀.heap.objs.size<=s.heap.objs.size:=Nat.le_trans I.ok.above (Nat.le_of_lt I.lt)
theorem Inv.nofs (I:Inv X pins σ H s) {a:Addr} (h:s.heap.objs.size<=a):a ∉ X.fs:=fun hb=>by
 obtain ⟨_,o,ho,_⟩:=I.ok.funs.mem hb
 exact absurd (Nat.lt_of_lt_of_le (Heap.lt_size ho) (Nat.le_trans I.sz h)) (Nat.lt_irrefl _)
theorem Inv.cne (I:Inv X pins σ H s):∀ x c,X.env.cells.lookup x=some c->c≠X.env.locals:=fun x c e z=>by
 obtain ⟨v,o,ho,hd⟩:=I.cell x c e
 obtain ⟨m,⟨o',es,ep,ho',hd',_⟩,_⟩:=I.loc
 rw [z,ho'] at ho;cases ho;rw [hd'] at hd;cases hd
theorem Inv.funs (I:Inv X pins σ H s):s.heap.FunFrames X.base X.outer:=by
 have all:∀ (l:List Env),(∀ b∈frs l,b∈X.fs)->X.s₀.heap.FunFrames X.base l->s.heap.FunFrames X.base l:=by
  intro l
  induction l with
  | nil=>intro _ _;trivial
  | cons env r ih =>
   intro hs hl
   obtain ⟨hk,⟨L,o,hf,hn,ho,hd⟩,hr⟩:=hl
   have hL:L∈X.fs:=hs L (by unfold frs;rw [List.filterMap_cons,hf];exact List.mem_cons_self)
   obtain ⟨sl,e⟩:=I.base.slot L o ho (I.ok.frf L hL) hL fun z=>I.ok.exfs L z hL
   exact ⟨hk,⟨L,_,hf,hn,e,hd⟩,ih (fun b hb=>hs b (by unfold frs;rw [List.filterMap_cons,hf];exact List.mem_cons_of_mem _ hb)) hr⟩
 exact all X.outer (fun _ hb=>hb) I.ok.funs

theorem Inv.stack (I:Inv X pins σ H s):s.heap.FunFrames X.base X.stack:=by
 rcases I.ok.stk with e | ⟨e,hf⟩
 ·rw [e];exact I.funs
 ·rw [e]
  obtain ⟨m,hn,_⟩:=I.loc
  refine .cons (by rw [I.ok.kind];decide) hf hn ?_ I.funs
  exact Heap.get?_none_of_le (Nat.le_trans I.ok.bsz I.ok.above)
theorem Inv.stkSub (I:Inv X pins σ H s):∀ b∈frs X.stack,b∈X.env.locals::X.fs:=fun b hb=>by
 rcases I.ok.stk with e | ⟨e,hf⟩
 ·rw [e] at hb;exact List.mem_cons_of_mem _ hb
 ·rw [e] at hb
  unfold frs at hb
  rw [List.filterMap_cons,hf] at hb
  exact hb
theorem Inv.stkFree (I:Inv X pins σ H s):∀ b∈frs X.stack,H b=none:=fun b hb=>by
 rcases List.mem_cons.mp (I.stkSub b hb) with e | hb
 ·rw [e];exact I.free
 ·obtain ⟨_,o,ho,_⟩:=I.ok.funs.mem hb
  exact I.base.free b o ho (I.ok.frf b hb) fun z=>I.ok.exfs b z hb

theorem Inv.step {g':Array GenState}{t':Nat}{d':Drawn}{ch:List Addr} (I:Inv X pins σ H s)
  (hch:∀ b∈ch,(b∈X.ex ∨ X.s₀.heap.objs.size<=b)/\b≠X.env.locals/\(∀ x c,X.env.cells.lookup x=some c->c≠b)/\∀ p∈X.pn++pins,p.1≠b)
  (keep:∀ b o,b≠X.env.locals->b ∉ X.fs->b ∉ ch->s.heap.get? b=some o->H b=none->h'.get? b=some o)
  (slot:∀ b o,b≠X.env.locals->b∈X.fs->b ∉ ch->s.heap.get? b=some o->H b=none->∃ sl,h'.get? b=some { o with slots:=sl }) (free:∀ b o,b ∉ ch->s.heap.get? b=some o->H b=none->H' b=none)
  (there:∀ b o,b ∉ ch->s.heap.get? b=some o->∃ o',h'.get? b=some o')
  (tups:∀ b xs,H b=some (.tup xs)->H' b=some (.tup xs)) (frzs:∀ b o u,H b=some (.frz o u)->H' b=some (.frz o u)) (tbls:∀ b ps,H b=some (.tbl ps)->∃ more,H' b=some (.tbl (ps++more)))
  (ns:∀ m,s.heap.Ns X.env.locals m->h'.Ns X.env.locals m) (hok:HOk X.prog X.w H' h') (hg:AllBare g') :
  Inv X pins σ H' { s with heap:=h',gens:=g',drawn:=d',toks:=t' }:=by
 have neL:∀ b o,X.s₀.heap.get? b=some o->b≠X.env.locals:=fun b o e=>Nat.ne_of_lt (Nat.lt_of_lt_of_le (Heap.lt_size e) I.ok.above)
 have neC:∀ b o,X.s₀.heap.get? b=some o->b ∉ X.ex->b ∉ ch:=fun b o e hx hb=>by
  rcases (hch b hb).1 with z | z
  ·exact hx z
  ·exact absurd (Nat.lt_of_lt_of_le (Heap.lt_size e) z) (Nat.lt_irrefl _)
 have cellK:∀ x c,X.env.cells.lookup x=some c->∀ v,s.heap.IsCell c v->h'.IsCell c v:=fun x c e v ⟨o,ho,hd⟩=>by
  have nch:c ∉ ch:=fun z=>(hch c z).2.2.1 x c e rfl
  by_cases hc:c∈X.fs
  ·obtain ⟨sl,q⟩:=slot c o (I.cne x c e) hc nch ho (I.freeC x c e)
   exact ⟨_,q,hd⟩
  ·exact ⟨o,keep c o (I.cne x c e) hc nch ho (I.freeC x c e),hd⟩
 refine ⟨I.ok,I.os,hg,⟨fun b o e n hb hx=>?_,fun b o e n hb hx=>?_,fun b o e n hx=>?_,fun b o e hx=>?_,fun b xs e=>tups b xs (I.base.tups b xs e),fun b o xs e=>frzs b o xs (I.base.frzs b o xs e),fun b ps e=>?_⟩,?_,fun x c e=>?_,?_,fun x c e=>?_,fun p hp=>?_,hok,I.len⟩
 ·exact keep b o (neL b o e) hb (neC b o e hx) (I.base.keep b o e n hb hx) (I.base.free b o e n hx)
 ·obtain ⟨sl,e1⟩:=I.base.slot b o e n hb hx
  obtain ⟨sl',e2⟩:=slot b _ (neL b o e) hb (neC b o e hx) e1 (I.base.free b o e n hx)
  exact ⟨sl',e2⟩
 ·obtain ⟨o',e1⟩:=I.base.there b o e hx
  exact free b o' (neC b o e hx) e1 (I.base.free b o e n hx)
 ·obtain ⟨o',e1⟩:=I.base.there b o e hx
  exact there b o' (neC b o e hx) e1
 ·obtain ⟨m1,e1⟩:=I.base.tbls b ps e
  obtain ⟨m2,e2⟩:=tbls b _ e1
  exact ⟨m1++m2,by rw [e2,Array.append_assoc]⟩
 ·obtain ⟨m,hn,hl⟩:=I.loc
  refine ⟨m,ns m hn,fun i x v e1 e2 e3=>?_⟩
  obtain ⟨u,r,l⟩:=hl i x v e1 e2 e3
  refine ⟨u,r,?_⟩
  rcases l with l | ⟨k,c,e,z⟩
  ·exact .inl l
  ·exact .inr ⟨k,c,e,cellK x c e _ z⟩
 ·obtain ⟨v,z⟩:=I.cell x c e
  exact ⟨v,cellK x c e v z⟩
 ·obtain ⟨m,⟨o,_,_,ho,_⟩,_⟩:=I.loc
  exact free _ o (fun z=>(hch _ z).2.1 rfl) ho I.free
 ·obtain ⟨v,o,ho,hd⟩:=I.cell x c e
  exact free c o (fun z=>(hch c z).2.2.1 x c e rfl) ho (I.freeC x c e)
 ·obtain ⟨e,n,ne,nf,d⟩:=I.pin p hp
  have nch:p.1 ∉ ch:=fun z=>(hch p.1 z).2.2.2 p hp rfl
  exact ⟨keep p.1 p.2 ne nf nch e n,free p.1 p.2 nch e n,ne,nf,d⟩
theorem Inv.un {t':Nat} (I:Inv X pins σ H s) (u:Un X.fs [] H H' s.heap h') (hok:HOk X.prog X.w H' h'):Inv X pins σ H' { s with heap:=h',toks:=t' }:=by
 obtain ⟨m,⟨o,es,ep,ho,r⟩,_⟩:=id I.loc
 obtain ⟨sl,hL⟩:=u.any ho I.free (by simp)
 exact I.step (g':=s.gens) (d':=s.drawn) (ch:=[]) (fun _ z=>nomatch z) (fun b o _ hb _ e n=>u.keep b o e n hb (by simp)) (fun b o _ hb _ e n=>u.slot b o e n hb (by simp)) (fun b o _ e n=>u.free b o e n (by simp)) (fun b o _ e=>u.there b o e (by simp)) u.tups u.frzs u.tbls (fun m' hm=>by
  obtain ⟨o',es',ep',ho',r'⟩:=hm
  rw [ho] at ho';cases ho'
  exact ⟨_,es',ep',hL,r'⟩) hok I.bare
theorem Inv.call {g':Array GenState}{t':Nat}{d':Drawn}{ch:List Addr} (I:Inv X pins σ H s) (u:Un (frs X.stack) ch H H' s.heap h') (hok:HOk X.prog X.w H' h') (hg:AllBare g')
  (hch:∀ b∈ch,(b∈X.ex ∨ X.s₀.heap.objs.size<=b)/\b≠X.env.locals/\(∀ x c,X.env.cells.lookup x=some c->c≠b)/\∀ p∈X.pn++pins,p.1≠b) :
  Inv X pins σ H' { s with heap:=h',gens:=g',drawn:=d',toks:=t' }:=by
 obtain ⟨m,⟨o,es,ep,ho,r⟩,_⟩:=id I.loc
 obtain ⟨sl,hL⟩:=u.any ho I.free fun z=>(hch _ z).2.1 rfl
 exact I.step (ch:=ch) hch (fun b o hL hb hc e n=>u.keep b o e n (fun z=>(List.mem_cons.mp (I.stkSub b z)).elim hL hb) hc) (fun b o _ _ hc e n=>u.any e n hc) (fun b o hc e n=>u.free b o e n hc) (fun b o hc e=>u.there b o e hc) u.tups u.frzs u.tbls (fun m' hm=>by
  obtain ⟨o',es',ep',ho',r'⟩:=hm
  rw [ho] at ho';cases ho'
  exact ⟨_,es',ep',hL,r'⟩) hok hg
theorem Inv.turned {t':Nat}{it:Addr} (I:Inv X pins σ H s) (k:∀ b o,b≠it->s.heap.get? b=some o->h'.get? b=some o) (hn:H it=none) (hL:it≠X.env.locals)
  (h1:it∈X.ex ∨ X.s₀.heap.objs.size<=it) (h2:∀ x c,X.env.cells.lookup x=some c->c≠it) (h3:∀ p∈X.pn++pins,p.1≠it):Inv X pins σ H { s with heap:=h',toks:=t' }:=by
 have nit:∀ b u,H b=some u->b≠it:=fun b u e z=>by rw [z,hn] at e;cases e
 refine I.step (g':=s.gens) (d':=s.drawn) (ch:=[it]) (fun b hb=>?_) (fun b o _ _ hc e _=>k b o (fun z=>hc (by simp [z])) e) (fun b o _ _ hc e _=>⟨o.slots,k b o (fun z=>hc (by simp [z])) e⟩) (fun _ _ _ _ n=>n)
  (fun b o hc e=>⟨o,k b o (fun z=>hc (by simp [z])) e⟩) (fun _ _ e=>e) (fun _ _ _ e=>e) (fun b ps e=>⟨#[],by rw [e];simp⟩) (fun m hm=>?_) (fun b u e=>?_) I.bare
 ·have e:b=it:=by simpa using hb
  subst e
  exact ⟨h1,hL,h2,h3⟩
 ·obtain ⟨o,es,ep,ho,r⟩:=hm
  exact ⟨o,es,ep,k _ o (Ne.symm hL) ho,r⟩
 ·refine (I.hok b u e).stay (fun c v hc q=>k c v ?_ q) (fun _ q=>q) fun _ _ q=>q
  rcases hc with z | z
  ·rw [z];exact nit b u e
  ·exact nit c _ z
theorem Inv.tok (I:Inv X pins σ H s) (t:Nat):Inv X pins σ H { s with toks:=t }:=I.un (h':=s.heap) (t':=t) Un.refl I.hok
theorem Inv.kept {t':Nat} (I:Inv X pins σ H s) (k:∀ b u,s.heap.get? b=some u->h'.get? b=some u):Inv X pins σ H { s with heap:=h',toks:=t' }:=I.un (Un.kept k) (I.hok.kept k)
theorem Inv.laid {a:Addr}{o:HO}{t':Nat} (I:Inv X pins σ H s) (k:∀ b u,s.heap.get? b=some u->h'.get? b=some u) (hp:s.heap.objs.size<=a) (new:ObjOk X.prog X.w (upd H a o) h' a o) :
  Inv X pins σ (upd H a o) { s with heap:=h',toks:=t' }:=I.un (Un.laid k hp (I.hok.fresh hp)) (I.hok.laid k hp new)
theorem Inv.write {x e:Addr}{o:HO}{t':Nat} (I:Inv X pins σ H s) (mu:Mut (H x)) (he:e=x ∨ H e=some (.own x)) (k:∀ b u,b≠e->s.heap.get? b=some u->h'.get? b=some u) (heo:∃ u,h'.get? e=some u)
  (new:ObjOk X.prog X.w (upd H x o) h' x o):Inv X pins σ (upd H x o) { s with heap:=h',toks:=t' }:=I.un (Un.write mu he k heo) (I.hok.write mu he k heo new)
theorem Inv.pins_of {pins':List (Addr × Obj)} (I:Inv X pins σ H s) (h:∀ p∈pins',s.heap.get? p.1=some p.2/\H p.1=none/\p.1≠X.env.locals/\p.1 ∉ X.fs/\∀ v,p.2.data≠.cell v):Inv X pins' σ H s :=
 ⟨I.ok,I.os,I.bare,I.base,I.loc,I.cell,I.free,I.freeC,fun p hp=>(List.mem_append.mp hp).elim (fun z=>I.pin p (List.mem_append_left _ z)) (h p),I.hok,I.len⟩

theorem nodup_ix {N:List Str} (hN:N.Nodup) {i j:Nat}{x:Str} (a:N[i]?=some x) (b:N[j]?=some x):i=j:=by
 obtain ⟨h1,e1⟩:=List.getElem?_eq_some_iff.mp a
 obtain ⟨h2,e2⟩:=List.getElem?_eq_some_iff.mp b
 exact (List.getElem_inj hN).mp (e1.trans e2.symm)

theorem store_ok2 {M:Model}{A:Around}{E:Value->Shared->Prop}{i:Nat}{x:Str}{v:V}{u:Value}{Q:Unit->Shared->Prop} (I:Inv X pins σ H s) (hN:X.N.Nodup) (hi:X.N[i]?=some x) (hx:Loc X.env.scope x) (r:RelV v u)
  (h:∀ s',Inv X pins (σ.set i (some v)) H s'->(∃ a,Heap.SameBut a s.heap s'.heap/\(a=X.env.locals ∨ X.env.cells.lookup x=some a))->Q () s') (hf:X.fn x=true ∨ X.env.scope.names.lookup x=some .local:=by first | exact .inl rfl | exact .inr rfl | assumption):wpAny M A (storeName X.env x u) Q E s:=by
 obtain ⟨m,hn,hl⟩:=id I.loc
 have hcls:(X.env.scope.kind == .class || (X.env.scope.kind == .module && X.env.locals != X.env.globals))=false:=by rw [I.ok.kind];rfl
 have hiσ:i < σ.length:=by rw [I.len];exact (List.getElem?_eq_some_iff.mp hi).1
 have cne:=I.cne
 have tracked:∀ {a:Addr}{h':Heap},(∃ o,s.heap.get? a=some o/\H a=none)->Heap.SameBut a s.heap h'->HOk X.prog X.w H h':=fun {a h'} ha hs b ob e=>by
  obtain ⟨_,_,hfree⟩:=ha
  refine (I.hok b ob e).stay (fun c w' hc q=>(hs.2 c ?_).trans q) (fun _ q=>q) fun _ _ q=>q
  rintro rfl
  rcases hc with rfl | hc
  ·rw [hfree] at e;cases e
  ·rw [hfree] at hc;cases hc
 rcases hx with hk | hk
 ·refine wpAny_storeName_local hk hn (fun h' hn' hs=>?_) hcls
  obtain ⟨oL,_,_,hoL,_⟩:=id hn
  refine h _ ⟨I.ok,I.os,I.bare,⟨fun b o e n hb hx=>?_,fun b o e n hb hx=>?_,I.base.free,fun b o e hx=>?_,I.base.tups,I.base.frzs,I.base.tbls⟩,⟨_,hn',fun j y v' e1 e2 e3=>?_⟩,fun y c e=>?_,I.free,I.freeC,fun p hp=>?_,tracked ⟨oL,hoL,I.free⟩ hs,by simpa using I.len⟩ ⟨_,hs,.inl rfl⟩
  ·exact (hs.2 b (Nat.ne_of_lt (Nat.lt_of_lt_of_le (Heap.lt_size e) I.ok.above))).trans (I.base.keep b o e n hb hx)
  ·obtain ⟨sl,e1⟩:=I.base.slot b o e n hb hx
   exact ⟨sl,(hs.2 b (Nat.ne_of_lt (Nat.lt_of_lt_of_le (Heap.lt_size e) I.ok.above))).trans e1⟩
  ·obtain ⟨o',e1⟩:=I.base.there b o e hx
   exact ⟨o',(hs.2 b (Nat.ne_of_lt (Nat.lt_of_lt_of_le (Heap.lt_size e) I.ok.above))).trans e1⟩
  ·by_cases hj:j=i
   ·subst hj
    rw [hi] at e1;cases e1
    rw [List.getElem?_set_self hiσ] at e2
    cases e2
    exact ⟨u,r,.inl ⟨hk,by simp⟩⟩
   ·rw [List.getElem?_set_ne (Ne.symm hj)] at e2
    obtain ⟨u',r',q⟩:=hl j y v' e1 e2 e3
    refine ⟨u',r',?_⟩
    rcases q with ⟨k,e⟩ | ⟨k,c,e,z⟩
    ·refine .inl ⟨k,?_⟩
     have:y≠x:=fun e=>hj (nodup_ix hN e1 (e ▸ hi))
     simp [this,e]
    ·exact .inr ⟨k,c,e,z.sameBut hs (cne y c e)⟩
  ·obtain ⟨w',z⟩:=I.cell y c e
   exact ⟨w',z.sameBut hs (cne y c e)⟩
  ·obtain ⟨e,n,ne,nf,d⟩:=I.pin p hp
   exact ⟨(hs.2 p.1 ne).trans e,n,ne,nf,d⟩
 ·have hfn:X.fn x=true:=by
   rcases hf with z | z
   ·exact z
   ·rw [z] at hk;cases hk
  obtain ⟨c,hc⟩:=I.ok.has x (.inl hk)
  obtain ⟨w',z⟩:=I.cell x c hc
  refine wpAny_storeName_cell I.ok.kind hk hc z (fun h' hc' hs=>?_)
  obtain ⟨oc,hoc,hocd⟩:=id z
  refine h { s with heap:=h' } ⟨I.ok,I.os,I.bare,⟨fun b o e n hb hx=>?_,fun b o e n hb hx=>?_,I.base.free,fun b o e hx=>?_,I.base.tups,I.base.frzs,I.base.tbls⟩,⟨m,hn.sameBut hs (Ne.symm (cne x c hc)),fun j y v' e1 e2 e3=>?_⟩,fun y c' e=>?_,I.free,I.freeC,fun p hp=>?_,tracked ⟨oc,hoc,I.freeC x c hc⟩ hs,by simpa using I.len⟩ ⟨c,hs,.inr hc⟩
  ·exact (hs.2 b (Nat.ne_of_lt (Nat.lt_of_lt_of_le (Heap.lt_size e) (I.ok.cab x c hfn hc)))).trans (I.base.keep b o e n hb hx)
  ·obtain ⟨sl,e1⟩:=I.base.slot b o e n hb hx
   exact ⟨sl,(hs.2 b (Nat.ne_of_lt (Nat.lt_of_lt_of_le (Heap.lt_size e) (I.ok.cab x c hfn hc)))).trans e1⟩
  ·obtain ⟨o',e1⟩:=I.base.there b o e hx
   exact ⟨o',(hs.2 b (Nat.ne_of_lt (Nat.lt_of_lt_of_le (Heap.lt_size e) (I.ok.cab x c hfn hc)))).trans e1⟩
  ·by_cases hj:j=i
   ·subst hj
    rw [hi] at e1;cases e1
    rw [List.getElem?_set_self hiσ] at e2
    cases e2
    exact ⟨u,r,.inr ⟨.inl hk,c,hc,hc'⟩⟩
   ·rw [List.getElem?_set_ne (Ne.symm hj)] at e2
    obtain ⟨u',r',q⟩:=hl j y v' e1 e2 e3
    refine ⟨u',r',?_⟩
    rcases q with q | ⟨k,c',e,z'⟩
    ·exact .inl q
    ·refine .inr ⟨k,c',e,z'.sameBut hs ?_⟩
     rintro rfl
     exact hj (nodup_ix hN e1 (I.ok.inj _ _ _ e hc ▸ hi))
  ·by_cases hcc:c'=c
   ·subst hcc;exact ⟨_,hc'⟩
   ·obtain ⟨w2,z2⟩:=I.cell y c' e
    exact ⟨w2,z2.sameBut hs hcc⟩
  ·obtain ⟨e,n,ne,nf,d⟩:=I.pin p hp
   refine ⟨(hs.2 p.1 ?_).trans e,n,ne,nf,d⟩
   intro q
   rw [q,hoc] at e
   have q':oc=p.2:=Option.some.inj e
   exact d w' (by rw [← q'];exact hocd)
theorem store_ok {M:Model}{A:Around}{E:Value->Shared->Prop}{i:Nat}{x:Str}{v:V}{u:Value}{Q:Unit->Shared->Prop} (I:Inv X pins σ H s) (hN:X.N.Nodup) (hi:X.N[i]?=some x) (hx:Loc X.env.scope x) (r:RelV v u)
  (h:∀ s',Inv X pins (σ.set i (some v)) H s'->Q () s') (hf:X.fn x=true ∨ X.env.scope.names.lookup x=some .local:=by first | exact .inl rfl | exact .inr rfl | assumption):wpAny M A (storeName X.env x u) Q E s :=
 store_ok2 I hN hi hx r (fun s' I' _=>h s' I') hf
theorem Inv.call' {s':Shared}{ch:List Addr} (I:Inv X pins σ H s) (ho:s'.os=s.os) (u:Un (frs X.stack) ch H H' s.heap s'.heap) (hok:HOk X.prog X.w H' s'.heap) (hg:AllBare s'.gens)
  (hch:∀ b∈ch,(b∈X.ex ∨ X.s₀.heap.objs.size<=b)/\b≠X.env.locals/\(∀ x c,X.env.cells.lookup x=some c->c≠b)/\∀ p∈X.pn++pins,p.1≠b):Inv X pins σ H' s':=by
 obtain ⟨h',g',d',t',o'⟩:=s'
 have e:o'=s.os:=ho
 subst e
 exact I.call (g':=g') (t':=t') (d':=d') u hok hg hch
end

abbrev XK:=Value->Option Addr->Hp->Prop
abbrev St:=List (Option V)
abbrev VK:=V->Hp->Prop
abbrev TE:=St->Hp->VK->Prop
abbrev TT:=St->Hp->(Bool->Hp->Prop)->Prop
abbrev TA:=St->Hp->(List V->Hp->Prop)->Prop
structure Ends where
 nx:St->Hp->Prop
 rt:VK
 bk:St->Hp->Prop:=fun _ _=>False
 ct:St->Hp->Prop:=fun _ _=>False
abbrev TS:=Ends->St->Hp->Prop

def EP (X:Cx) (pins:List (Addr × Obj)) (σ:St) (Q:VK) (u:Value) (s':Shared):Prop:=∃ v H',Inv X pins σ H' s'/\RelV v u/\Q v H'
def TP (X:Cx) (pins:List (Addr × Obj)) (σ:St) (Q:Bool->Hp->Prop) (b:Bool) (s':Shared):Prop:=∃ H',Inv X pins σ H' s'/\Q b H'
def AP (X:Cx) (pins:List (Addr × Obj)) (σ:St) (Q:List V->Hp->Prop) (us:List Value) (s':Shared):Prop:=∃ vs H',Inv X pins σ H' s'/\Vals vs us/\Q vs H'
def SP (X:Cx) (pins:List (Addr × Obj)) (D:Ends) (f:Flow) (s':Shared):Prop :=
 match f with
 | .next=>∃ σ' H',Inv X pins σ' H' s'/\D.nx σ' H'
 | .brk=>∃ σ' H',Inv X pins σ' H' s'/\D.bk σ' H'
 | .cont=>∃ σ' H',Inv X pins σ' H' s'/\D.ct σ' H'
 | .ret u=>∃ v σ' H',Inv X pins σ' H' s'/\RelV v u/\D.rt v H'

def PE (X:Cx) (e:Expr) (t:TE):Prop :=
 ∀ (pins:List (Addr × Obj)) (s:Shared) (σ:St) (H:Hp) (Q:VK),Inv X pins σ H s->t σ H Q->wpAny (model X.prog X.w) X.A (eval e X.env) (EP X pins σ Q) X.xe s
def PT (X:Cx) (e:Expr) (t:TT):Prop :=
 ∀ (pins:List (Addr × Obj)) (s:Shared) (σ:St) (H:Hp) (Q:Bool->Hp->Prop),Inv X pins σ H s->t σ H Q->wpAny (model X.prog X.w) X.A (isTrue e X.env (eval e X.env)) (TP X pins σ Q) X.xe s
def PW (X:Cx) (e:Expr) (t:TT):Prop :=
 ∀ (whole:Sem Value) (pins:List (Addr × Obj)) (s:Shared) (σ:St) (H:Hp) (Q:Bool->Hp->Prop),Inv X pins σ H s->t σ H Q->wpAny (model X.prog X.w) X.A (isTrue e X.env whole) (TP X pins σ Q) X.xe s
theorem PW.pt {X:Cx}{e:Expr}{t:TT} (h:PW X e t):PT X e t:=h _
def PA (X:Cx) (es:List Expr) (t:TA):Prop :=
 ∀ (pos:Pos) (pins:List (Addr × Obj)) (s:Shared) (σ:St) (H:Hp) (Q:List V->Hp->Prop),Inv X pins σ H s->t σ H Q->wpAny (model X.prog X.w) X.A (spliced (backTo pos (starEach es X.env))) (AP X pins σ Q) X.xe s
def PS (X:Cx) (st:Stmt) (t:TS):Prop :=
 ∀ (pins:List (Addr × Obj)) (s:Shared) (σ:St) (H:Hp) (D:Ends),Inv X pins σ H s->t D σ H->wpAny (model X.prog X.w) X.A (exec st X.env) (SP X pins D) X.xe s
def PSs (X:Cx) (st:List Stmt) (t:TS):Prop :=
 ∀ (pins:List (Addr × Obj)) (s:Shared) (σ:St) (H:Hp) (D:Ends),Inv X pins σ H s->t D σ H->wpAny (model X.prog X.w) X.A (execs st X.env) (SP X pins D) X.xe s
theorem thn {α:Type}{t:Sem α}{Q Q':α->Shared->Prop}{M:Model}{A:Around}{E:Value->Shared->Prop}{s:Shared} (h:wpAny M A t Q E s) (hQ:∀ a s,Q a s->Q' a s):wpAny M A t Q' E s:=wpAny_mono h hQ fun _ _ x=>x
end L2

namespace L2
open PySem PySem.Spec PyProof.Rows
section
variable {X:Cx}

def tVar (i:Nat):TE:=fun σ H Q=>∃ v,σ[i]?=some (some v)/\Q v H
def tC (v:V):TE:=fun _ H Q=>Q v H
theorem pe_var {i:Nat}{x:Str}{pos:Pos} (hN:X.N[i]?=some x) (hv:Vis X.env.scope x) (hd:(x == ("__debug__":Str))=false:=by decide) (hcd:(x == ("__classdict__":Str))=false:=by decide):PE X (.Name x pos) (tVar i):=by
 intro pins s σ H Q I h
 obtain ⟨v,e,h⟩:=h
 obtain ⟨m,hn,hl⟩:=I.loc
 obtain ⟨u,r,l⟩:=hl i x v hN e hv
 have fin:EP X pins σ Q u s:=⟨v,H,I,r,h⟩
 rcases l with ⟨hk,hm⟩ | ⟨hk,c,hc,hcell⟩
 ·exact wpAny_Name (wpAny_loadName_local I.ok.kind hk hn hm fin) hd
 ·rcases hk with hk | hk
  ·exact wpAny_Name (wpAny_loadName_cell I.ok.kind hk hc hcell fin) hd
  ·exact wpAny_Name (wpAny_loadName_free I.ok.kind hk hc hcell fin hcd) hd
theorem pe_int {i j pos}:PE X (.Constant (.int i) j pos) (tC (.int i)):=fun _ _ _ H _ I h=>wpAny_Constant_int ⟨.int i,H,I.tok _,⟨_,rfl⟩,h⟩
theorem pe_bl {b j pos}:PE X (.Constant (.bool b) j pos) (tC (.bl b)):=fun _ _ _ H _ I h=>Constant_bool ⟨.bl b,H,I,rfl,h⟩
theorem pe_non {j pos}:PE X (.Constant .none j pos) (tC .non):=fun _ _ _ H _ I h=>Constant_none ⟨.non,H,I,rfl,h⟩
theorem pe_str {x j pos}:PE X (.Constant (.str x) j pos) (tC (.str x)):=fun _ _ _ H _ I h=>Calls.Constant_str ⟨.str x,H,I.tok _,⟨_,rfl⟩,h⟩

def Gl (X:Cx) (x:Str):Prop:=X.env.kindOf x=some .globalImplicit
theorem ld_glob {E:Value->Shared->Prop}{pins:List (Addr × Obj)}{s:Shared}{σ:St}{H:Hp}{x:Str}{u:Value}{pos:Pos}{Q:Value->Shared->Prop} (I:Inv X pins σ H s) (hg:Gl X x) (hm:X.mg x=some u) (h:Q u s)
  (hd:(x == ("__debug__":Str))=false:=by decide):wpAny (model X.prog X.w) X.A (eval (.Name x pos) X.env) Q E s :=
 Calls.Name_function_global I.ok.kind hg (Calls.loadGlobal_global (by rw [I.ok.glob];exact I.mod.glob.keeps I.bk) hm h) hd
theorem ld_blt {E:Value->Shared->Prop}{pins:List (Addr × Obj)}{s:Shared}{σ:St}{H:Hp}{x:Str}{u:Value}{pos:Pos}{Q:Value->Shared->Prop} (I:Inv X pins σ H s) (hg:Gl X x) (hm:X.mg x=none) (hv:bootBuiltins x=some u) (h:Q u s)
  (hn:x≠"__name__":=by decide) (hd:(x == ("__debug__":Str))=false:=by decide):wpAny (model X.prog X.w) X.A (eval (.Name x pos) X.env) Q E s:=by
 obtain ⟨mb,h1,h2⟩:=I.mod.blt
 exact Calls.Name_function_global I.ok.kind hg (Calls.loadGlobal_builtin (by rw [I.ok.glob];exact I.mod.glob.keeps I.bk) hm (by rw [I.ok.blt];exact h1.keeps I.bk) ((h2 x hn).trans hv) h) hd
theorem pe_glob {x:Str}{v:V}{u:Value}{pos:Pos} (hg:Gl X x) (hm:X.mg x=some u) (r:RelV v u) (hd:(x == ("__debug__":Str))=false:=by decide):PE X (.Name x pos) (tC v) :=
 fun _ _ _ H _ I h=>ld_glob I hg hm ⟨v,H,I,r,h⟩ hd
theorem pe_bltn {x:Str}{v:V}{u:Value}{pos:Pos} (hg:Gl X x) (hm:X.mg x=none) (hv:bootBuiltins x=some u) (r:RelV v u) (hn:x≠"__name__":=by decide) (hd:(x == ("__debug__":Str))=false:=by decide):PE X (.Name x pos) (tC v) :=
 fun _ _ _ H _ I h=>ld_blt I hg hm hv ⟨v,H,I,r,h⟩ hn hd

variable {a b:Expr}{ta tb:TE}{pos:Pos}
def tB (t:TE):TT:=fun σ H Q=>t σ H fun x H1=>∃ c,x=.bl c/\Q c H1
theorem pt_val {e:Expr}{t:TE} (h:PE X e t) (he:∀ whole,isTrue e X.env whole=(do let v ← whole;standAt e.pos;holding [v] (truthy v)):=by intro _;rfl):PT X e (tB t):=by
 intro pins s σ H Q I hw
 refine isTrue_plain (thn (h pins s σ H _ I hw) fun v s1 ⟨x,H1,I1,r1,q1⟩=>?_) (he _)
 obtain ⟨d,rfl,q⟩:=q1
 cases r1
 exact wpAny_truthy_bool ⟨H1,I1,q⟩

variable {tA tB':TT}{rest:List Expr}
def tAnd (t u:TT):TT:=fun σ H Q=>t σ H fun c H1=>if c=true then u σ H1 Q else Q false H1
def tOr (t u:TT):TT:=fun σ H Q=>t σ H fun c H1=>if c=true then Q true H1 else u σ H1 Q
def tNot (t:TT):TT:=fun σ H Q=>t σ H fun c H1=>Q (!c) H1
theorem pw_and1 (ha:PT X a tA):PW X (.BoolOp .And [a] pos) tA:=by
 intro wh pins s σ H Q I h
 refine isTrue_and (thn (ha pins s σ H Q I h) fun c s1 e=>?_)
 cases c with
 | true=>exact isTrue_and_nil e
 | false=>exact e
theorem pw_or1 (ha:PT X a tA):PW X (.BoolOp .Or [a] pos) tA:=by
 intro wh pins s σ H Q I h
 refine isTrue_or (thn (ha pins s σ H Q I h) fun c s1 e=>?_)
 cases c with
 | false=>exact isTrue_or_nil e
 | true=>exact e
theorem pw_and (ha:PT X a tA) (hb:PW X (.BoolOp .And (b::rest) pos) tB'):PW X (.BoolOp .And (a::b::rest) pos) (tAnd tA tB'):=by
 intro wh pins s σ H Q I h
 refine isTrue_and (thn (ha pins s σ H _ I h) fun c s1 ⟨H1,I1,q1⟩=>?_)
 cases c with
 | true=>exact hb wh pins s1 σ H1 Q I1 q1
 | false=>exact ⟨H1,I1,q1⟩
theorem pw_or (ha:PT X a tA) (hb:PW X (.BoolOp .Or (b::rest) pos) tB'):PW X (.BoolOp .Or (a::b::rest) pos) (tOr tA tB'):=by
 intro wh pins s σ H Q I h
 refine isTrue_or (thn (ha pins s σ H _ I h) fun c s1 ⟨H1,I1,q1⟩=>?_)
 cases c with
 | true=>exact ⟨H1,I1,q1⟩
 | false=>exact hb wh pins s1 σ H1 Q I1 q1
theorem pt_not (ha:PT X a tA):PT X (.UnaryOp .Not a pos) (tNot tA):=by
 intro pins s σ H Q I h
 exact isTrue_not (ha pins s σ H (fun c H1=>Q (!c) H1) I h)
def tAndV (ta tb:TE):TE:=fun σ H Q=>ta σ H fun x H1=>∃ c,x=.bl c/\if c=true then tb σ H1 Q else Q (.bl false) H1
def tNotV (ta:TE):TE:=fun σ H Q=>ta σ H fun x H1=>∃ c,x=.bl c/\Q (.bl (!c)) H1
theorem pe_one {op}{t:TE} (h:PE X a t):PE X (.BoolOp op [a] pos) t:=fun pins s σ H Q I hw=>BoolOp_one (h pins s σ H Q I hw)
theorem pe_and (ha:PE X a ta) (hb:PE X (.BoolOp .And (b::rest) pos) tb):PE X (.BoolOp .And (a::b::rest) pos) (tAndV ta tb):=by
 intro pins s σ H Q I h
 refine BoolOp_and (thn (ha pins s σ H _ I h) fun v s1 ⟨x,H1,I1,r1,q1⟩=>?_)
 obtain ⟨c,rfl,q1⟩:=q1
 cases r1
 refine wpAny_truthy_bool ?_
 cases c with
 | true=>exact hb pins s1 σ H1 Q I1 q1
 | false=>exact ⟨.bl false,H1,I1,rfl,q1⟩
theorem pe_not (ha:PE X a ta):PE X (.UnaryOp .Not a pos) (tNotV ta):=by
 intro pins s σ H Q I h
 refine UnaryOp_ (thn (ha pins s σ H _ I h) fun v s1 ⟨x,H1,I1,r1,q1⟩=>?_)
 obtain ⟨c,rfl,q1⟩:=q1
 cases r1
 exact not_of (wpAny_truthy_bool ⟨.bl (!c),H1,I1,rfl,q1⟩)
def tIf (t:TT) (ta tb:TE):TE:=fun σ H Q=>t σ H fun c H1=>if c=true then ta σ H1 Q else tb σ H1 Q
theorem pe_ifExp {c:Expr} (hc:PT X c tA) (ha:PE X a ta) (hb:PE X b tb):PE X (.IfExp c a b pos) (tIf tA ta tb):=by
 intro pins s σ H Q I h
 refine wpAny_IfExp (thn (hc pins s σ H _ I h) fun d s1 ⟨H1,I1,q1⟩=>?_)
 cases d with
 | true=>exact ha pins s1 σ H1 Q I1 q1
 | false=>exact hb pins s1 σ H1 Q I1 q1
end
end L2

namespace L2
open PySem PySem.Spec PyProof.Rows

def SqL (K:PySem.W.Frag) (H:Hp) (a:Addr) (xs:List V):Prop :=
 Rd H a (.lst xs) ∨
  ∃ (o:Obj) (its:Array Value) (n:Nat),K.lookup a=some o/\o.cls=.type "list"/\o.dict=none/\o.data=.seq its n/\its.size<=sizeLine/\Vals xs its.toList
def SqT (K:PySem.W.Frag) (H:Hp) (a:Addr) (xs:List V):Prop :=
 Rd H a (.tup xs) ∨
  ∃ (o:Obj) (its:Array Value) (n:Nat),K.lookup a=some o/\o.cls=.type "tuple"/\o.data=.seq its n/\its.size<=sizeLine/\Vals xs its.toList
def absV:Value->Option V
 | .none=>some .non
 | .bool b=>some (.bl b)
 | .int i _=>some (.int i)
 | .str x _=>some (.str x)
 | .bytes b _=>some (.byt b)
 | .float b _=>some (.flt b)
 | .ref a=>some (.ref a)
 | .type n=>some (.ty n)
 | _=>none
theorem RelV.abs {x:V}{u:Value} (r:RelV x u):absV u=some x:=by
 cases x with
 | non=>cases r;rfl
 | bl _=>cases r;rfl
 | int _=>obtain ⟨t,rfl⟩:=r;rfl
 | str _=>obtain ⟨t,rfl⟩:=r;rfl
 | byt _=>obtain ⟨t,rfl⟩:=r;rfl
 | flt _=>obtain ⟨t,rfl⟩:=r;rfl
 | ref _=>cases r;rfl
 | ty _=>cases r;rfl
theorem RelV.inj {x y:V}{u:Value} (r:RelV x u) (q:RelV y u):x=y:=Option.some.inj (r.abs.symm.trans q.abs)
theorem Vals.inj:∀ {xs ys:List V}{us:List Value},Vals xs us->Vals ys us->xs=ys
 | _,_,_,.nil,.nil=>rfl
 | _,_,_,.cons r t,.cons r' t'=>by rw [r.inj r',Vals.inj t t']
section
variable {X:Cx}{pins:List (Addr × Obj)}{σ:St}{H:Hp}{s:Shared}{a:Addr}{xs ys:List V}
theorem SqL.of {K:PySem.W.Frag} (h:H a=some (.lst xs)):SqL K H a xs:=.inl (.inl h)
theorem SqT.of {K:PySem.W.Frag} (h:H a=some (.tup xs)):SqT K H a xs:=.inl (.inl h)
theorem Inv.list (I:Inv X pins σ H s) (h:SqL X.K H a xs):∃ its:List Value,Vals xs its/\PlainL s.heap a its.toArray/\xs.length<=sizeLine:=by
 rcases h with h | ⟨o,its,n,hk,hc,hd,hs,hz,r⟩
 ·obtain ⟨z,its,n,r,e⟩:=h.ok I.hok
  exact ⟨its,r,⟨_,n,e,rfl,rfl,rfl⟩,z⟩
 ·refine ⟨its.toList,r,⟨o,n,I.kIn a o hk,hc,hd,by simpa using hs⟩,?_⟩
  have e:=r.length
  simp only [Array.length_toList] at e
  omega
theorem Inv.tuple (I:Inv X pins σ H s) (h:SqT X.K H a xs):∃ its:List Value,Vals xs its/\IsTup s.heap a its.toArray/\xs.length<=sizeLine:=by
 rcases h with h | ⟨o,its,n,hk,hc,hs,hz,r⟩
 ·obtain ⟨z,its,r,p⟩:=h.ok I.hok
  exact ⟨its,r,p,z⟩
 ·refine ⟨its.toList,r,⟨o,I.kIn a o hk,hc,n,by simpa using hs⟩,?_⟩
  have e:=r.length
  simp only [Array.length_toList] at e
  omega
theorem Inv.list_inj (I:Inv X pins σ H s) (h:SqL X.K H a xs) (h':SqL X.K H a ys):xs=ys:=by
 obtain ⟨its,r,⟨o,n,e,_,_,d⟩,_⟩:=I.list h
 obtain ⟨its',r',⟨o',n',e',_,_,d'⟩,_⟩:=I.list h'
 rw [e] at e';cases e'
 rw [d] at d'
 injection d' with d1 _
 have:its=its':=by simpa using congrArg Array.toList d1
 subst this
 exact r.inj r'
theorem Inv.tuple_inj (I:Inv X pins σ H s) (h:SqT X.K H a xs) (h':SqT X.K H a ys):xs=ys:=by
 obtain ⟨its,r,⟨o,e,_,n,d⟩,_⟩:=I.tuple h
 obtain ⟨its',r',⟨o',e',_,n',d'⟩,_⟩:=I.tuple h'
 rw [e] at e';cases e'
 rw [d] at d'
 injection d' with d1 _
 have:its=its':=by simpa using congrArg Array.toList d1
 subst this
 exact r.inj r'
end

abbrev Cx.wish (X:Cx) (E:Value->Shared->Prop):Cx:={ X with xe:=E }
abbrev Cx.nox (X:Cx):Cx:=X.wish fun _ _=>False
theorem Cx.Ok.wish {X:Cx} (ok:X.Ok) (E:Value->Shared->Prop):(X.wish E).Ok :=
 ⟨ok.mod,ok.kind,ok.glob,ok.blt,ok.above,ok.inj,ok.has,ok.cab,ok.hd,ok.frames,ok.stk,ok.exf,ok.bs,ok.bsz,ok.noex,ok.exfs,ok.funs,ok.frf⟩
theorem Cx.Ok.unwish {X:Cx}{E:Value->Shared->Prop} (ok:(X.wish E).Ok):X.Ok :=
 ⟨ok.mod,ok.kind,ok.glob,ok.blt,ok.above,ok.inj,ok.has,ok.cab,ok.hd,ok.frames,ok.stk,ok.exf,ok.bs,ok.bsz,ok.noex,ok.exfs,ok.funs,ok.frf⟩
section
variable {X:Cx}{pins:List (Addr × Obj)}{σ:St}{H:Hp}{s:Shared}{E:Value->Shared->Prop}
theorem Inv.wish (I:Inv X pins σ H s) (E:Value->Shared->Prop):Inv (X.wish E) pins σ H s:=⟨I.ok.wish E,I.os,I.bare,I.base,I.loc,I.cell,I.free,I.freeC,I.pin,I.hok,I.len⟩
theorem Inv.unwish (I:Inv (X.wish E) pins σ H s):Inv X pins σ H s:=⟨I.ok.unwish,I.os,I.bare,I.base,I.loc,I.cell,I.free,I.freeC,I.pin,I.hok,I.len⟩
theorem SP.unwish {D:Ends}{f:Flow}{s':Shared} (h:SP (X.wish E) pins D f s'):SP X pins D f s':=by
 cases f with
 | next=>obtain ⟨σ',H',I,q⟩:=h;exact ⟨σ',H',I.unwish,q⟩
 | brk=>obtain ⟨σ',H',I,q⟩:=h;exact ⟨σ',H',I.unwish,q⟩
 | cont=>obtain ⟨σ',H',I,q⟩:=h;exact ⟨σ',H',I.unwish,q⟩
 | ret u=>obtain ⟨v,σ',H',I,r,q⟩:=h;exact ⟨v,σ',H',I.unwish,r,q⟩
theorem PE.nox {e:Expr}{t:TE} (h:PE X.nox e t):PE X e t:=fun pins s σ H Q I hw =>
 wpAny_mono (h pins s σ H Q (I.wish _) hw) (fun _ _ ⟨v,H',I',r,q⟩=>⟨v,H',I'.unwish,r,q⟩) fun _ _ z=>False.elim z
theorem PT.nox {e:Expr}{t:TT} (h:PT X.nox e t):PT X e t:=fun pins s σ H Q I hw =>
 wpAny_mono (h pins s σ H Q (I.wish _) hw) (fun _ _ ⟨H',I',q⟩=>⟨H',I'.unwish,q⟩) fun _ _ z=>False.elim z
theorem PSs.nox {st:List Stmt}{t:TS} (h:PSs X.nox st t):PSs X st t:=fun pins s σ H D I hw =>
 wpAny_mono (h pins s σ H D (I.wish _) hw) (fun _ _ q=>q.unwish) fun _ _ z=>False.elim z
end

section
variable {X:Cx}{st:Stmt}{rest:List Stmt}{t u:TS}{e:Expr}{te:TE}{pos:Pos}
def tNext:TS:=fun D σ H=>D.nx σ H
def tSeq (t u:TS):TS:=fun D σ H=>t { D with nx:=u D } σ H
theorem pss_nil:PSs X [] tNext:=fun _ _ σ H _ I h=>wpAny_execs_nil ⟨σ,H,I,h⟩
theorem pss_cons (h1:PS X st t) (h2:PSs X rest u):PSs X (st::rest) (tSeq t u):=by
 intro pins s σ H D I h
 refine wpAny_execs_cons (thn (h1 pins s σ H { D with nx:=u D } I h) fun f s1 q=>?_)
 cases f with
 | next =>
  obtain ⟨σ',H',I',q⟩:=q
  exact h2 pins s1 σ' H' D I' q
 | ret v=>exact q
 | brk=>exact q
 | cont=>exact q
theorem pss_one (h1:PS X st t):PSs X [st] t:=by
 intro pins s σ H D I h
 refine wpAny_execs_cons (thn (h1 pins s σ H D I h) fun f s1 q=>?_)
 cases f with
 | next=>exact wpAny_execs_nil q
 | ret v=>exact q
 | brk=>exact q
 | cont=>exact q
theorem Inv.quiet {pins:List (Addr × Obj)}{σ:St}{H:Hp}{s:Shared} (I:Inv X pins σ H s):interactive X.env=false:=by simp [interactive,I.ok.kind]
def tDrop (te:TE):TS:=fun D σ H=>te σ H fun _ H1=>D.nx σ H1
theorem ps_expr (he:PE X e te) (hs:swapsWith e none pos.line X.env=pure false:=by rfl):PS X (.Expr e pos) (tDrop te):=by
 intro pins s σ H D I h
 exact wpAny_Expr_any (thn (he pins s σ H _ I h) fun v s1 ⟨x,H1,I1,r1,q1⟩=>⟨σ,H1,I1,q1⟩) I.quiet hs
def tRet (te:TE):TS:=fun D σ H=>te σ H D.rt
theorem ps_ret (he:PE X e te):PS X (.Return (some e) pos) (tRet te):=by
 intro pins s σ H D I h
 exact wpAny_Return_some (thn (he pins s σ H _ I h) fun v s1 ⟨x,H1,I1,r1,q1⟩=>⟨x,σ,H1,I1,r1,q1⟩)
def tIfS (c:TT) (t u:TS):TS:=fun D σ H=>c σ H fun b H1=>if b=true then t D σ H1 else u D σ H1
theorem ps_if {c:Expr}{a b:List Stmt}{tc:TT} (hc:PT X c tc) (ha:PSs X a t) (hb:PSs X b u):PS X (.If c a b pos) (tIfS tc t u):=by
 intro pins s σ H D I h
 refine wpAny_If (thn (hc pins s σ H _ I h) fun d s1 ⟨H1,I1,q1⟩=>?_)
 cases d with
 | true=>exact ha pins s1 σ H1 D I1 q1
 | false=>exact hb pins s1 σ H1 D I1 q1
end

abbrev TG:=V->St->Hp->(St->Hp->Prop)->Prop
abbrev TGs:=List V->St->Hp->(St->Hp->Prop)->Prop
def PG (X:Cx) (target:Expr) (t:TG):Prop :=
 ∀ (pins:List (Addr × Obj)) (s:Shared) (σ:St) (H:Hp) (v:V) (u:Value) (Q:St->Hp->Prop),Inv X pins σ H s->RelV v u->t v σ H Q →
  wpAny (model X.prog X.w) X.A (assign target X.env u) (fun _ s'=>∃ σ' H',Inv X pins σ' H' s'/\Q σ' H') X.xe s
def PGs (X:Cx) (ts:List Expr) (t:TGs):Prop :=
 ∀ (pins:List (Addr × Obj)) (s:Shared) (σ:St) (H:Hp) (vs:List V) (us:List Value) (Q:St->Hp->Prop),Inv X pins σ H s->Vals vs us->t vs σ H Q →
  wpAny (model X.prog X.w) X.A (assignInOrder ((assignEach ts X.env).map (·.2)) us) (fun _ s'=>∃ σ' H',Inv X pins σ' H' s'/\Q σ' H') X.xe s
abbrev TSet:=V->V->V->Hp->(Hp->Prop)->Prop
def PSet (X:Cx) (t:TSet):Prop :=
 ∀ (pins:List (Addr × Obj)) (s:Shared) (σ:St) (H:Hp) (o i v:V) (ov iv u:Value) (Q:Hp->Prop),Inv X pins σ H s->RelV o ov->RelV i iv->RelV v u->t o i v H Q →
  wpAny (model X.prog X.w) X.A (setItem ov iv u) (fun _ s'=>∃ H',Inv X pins σ H' s'/\Q H') X.xe s
section
variable {X:Cx}{pos:Pos}
def gName (i:Nat):TG:=fun v σ H Q=>Q (σ.set i (some v)) H
theorem pg_name {i:Nat}{x:Str} (hN:X.N.Nodup) (hi:X.N[i]?=some x) (hx:Loc X.env.scope x) (hf:X.fn x=true ∨ X.env.scope.names.lookup x=some .local:=by first | exact .inl rfl | exact .inr rfl | assumption):PG X (.Name x pos) (gName i):=by
 intro pins s σ H v u Q I r h
 exact wpAny_assign_Name (store_ok I hN hi hx r (fun s' I'=>⟨_,H,I',h⟩) hf)
def gNil:TGs:=fun vs σ H Q=>vs=[]/\Q σ H
def gCons (t:TG) (u:TGs):TGs:=fun vs σ H Q=>∃ v r,vs=v::r/\t v σ H fun σ' H'=>u r σ' H' Q
theorem pgs_nil:PGs X [] gNil:=by
 intro pins s σ H vs us Q I r h
 obtain ⟨e,h⟩:=h
 subst e
 cases r
 exact assignInOrder_nil ⟨σ,H,I,h⟩
theorem pgs_cons {e:Expr}{es:List Expr}{t:TG}{u:TGs} (h1:PG X e t) (h2:PGs X es u)
  (hs:(assignEach (e::es) X.env).map (·.2)=assign e X.env::(assignEach es X.env).map (·.2):=by rfl):PGs X (e::es) (gCons t u):=by
 intro pins s σ H vs us Q I r h
 obtain ⟨v,vr,e1,h⟩:=h
 subst e1
 cases r with
 | cons r rr =>
  rw [hs]
  refine assignInOrder_cons (thn (h1 pins s σ H _ _ _ I r h) fun _ s1 ⟨σ1,H1,I1,q1⟩=>?_)
  exact h2 pins s1 σ1 H1 _ _ Q I1 rr q1
def gTup (K:PySem.W.Frag) (n:Nat) (t:TGs):TG:=fun v σ H Q=>∃ a xs,v=.ref a/\SqT K H a xs/\xs.length=n/\t xs σ H Q
theorem pg_tup {es:List Expr}{k:Nat}{t:TGs}{n:Nat} (hc:X.calm=true) (h:PGs X es t)
  (hn:(assignEach es X.env).length=n:=by rfl) (hst:(assignEach es X.env).findIdx? (·.1)=none:=by rfl):PG X (.Tuple es k pos) (gTup X.K n t):=by
 intro pins s σ H v u Q I r hw
 obtain ⟨a,xs,e1,hq,hl,hw⟩:=hw
 subst e1
 cases r
 obtain ⟨its,rv,ht,hz⟩:=I.tuple hq
 refine assign_Tuple_tuple (I.ok.hd hc) ht (by simp [hn,← hl,rv.length]) hst fun h' hx=>?_
 have I1:Inv X pins σ H { s with heap:=h' }:=I.kept (t':=s.toks) fun b o e=>hx b o (Nat.ne_of_lt (Heap.lt_size e)) e
 exact h pins _ σ H xs _ Q I1 (by simpa using rv) hw
def tAsg (te:TE) (g:TG):TS:=fun D σ H=>te σ H fun x H1=>g x σ H1 D.nx
theorem ps_asg {tg e:Expr}{te:TE}{g:TG} (he:PE X e te) (hg:PG X tg g) (hs:swapsWithSole [tg] e pos.line X.env=pure false:=by rfl) (hw:swappedStores [tg] e X.env=pure none:=by rfl)
  (h1:(assignEach [tg] X.env).map (·.2)=[assign tg X.env]:=by rfl):PS X (.Assign [tg] e pos) (tAsg te g):=by
 intro pins s σ H D I h
 refine wpAny_Assign_stores (thn (he pins s σ H _ I h) fun v s1 ⟨x,H1,I1,r1,q1⟩=>?_) hs hw
 rw [h1]
 exact thn (hg pins s1 σ H1 x v _ I1 r1 q1) fun _ s2 q=>q
theorem ps_set {i:Nat}{x:Str}{e:Expr}{te:TE}{pos':Pos} (hN:X.N.Nodup) (hi:X.N[i]?=some x) (hx:Loc X.env.scope x) (he:PE X e te) (hs:swapsWith e (some (.Name x pos')) pos.line X.env=pure false:=by rfl) (hf:X.fn x=true ∨ X.env.scope.names.lookup x=some .local:=by first | exact .inl rfl | exact .inr rfl | assumption) :
  PS X (.Assign [.Name x pos'] e pos) (tAsg te (gName i)):=by
 intro pins s σ H D I h
 refine wpAny_Assign_Name (thn (he pins s σ H _ I h) fun v s1 ⟨y,H1,I1,r1,q1⟩=>?_) hs
 exact store_ok I1 hN hi hx r1 (fun s2 I2=>⟨_,H1,I2,q1⟩) hf
def tPar (i j:Nat) (ta:TA):TS:=fun D σ H=>ta σ H fun vs H1=>∃ v w,vs=[v,w]/\D.nx ((σ.set i (some v)).set j (some w)) H1
theorem ps_par {i j:Nat}{x y:Str}{a b:Expr}{ta:TA}{px py pt:Pos}{kt k2 pt2} (hc:X.calm=true) (hN:X.N.Nodup) (hi:X.N[i]?=some x) (hj:X.N[j]?=some y) (hij:i≠j)
  (hx:X.env.scope.names.lookup x=some .local) (hy:X.env.scope.names.lookup y=some .local) (ha:PA X [a,b] ta)
  (hw:swappedStores [.Tuple [.Name x px,.Name y py] kt pt] (.Tuple [a,b] k2 pt2) X.env=pure (some [x,y]))
  (hs:swapsWithSole [.Tuple [.Name x px,.Name y py] kt pt] (.Tuple [a,b] k2 pt2) pos.line X.env=pure false:=by rfl) :
  PS X (.Assign [.Tuple [.Name x px,.Name y py] kt pt] (.Tuple [a,b] k2 pt2) pos) (tPar i j ta):=by
 intro pins s σ H D I h
 rw [exec_Assign_arm]
 refine wpAny_bind (wpAny_standAt ?_)
 rw [hs]
 refine wpAny_bind (wpAny_pure ?_)
 rw [if_neg (by decide)]
 refine wpAny_bind (Tuple_ (thn (ha _ pins s σ H _ I h) fun us s1 ⟨vs,H1,I1,r1,q1⟩=>?_))
 obtain ⟨v,w,e1,q1⟩:=q1
 subst e1
 obtain ⟨u1,u2,rfl,rv,rw'⟩:∃ u1 u2,us=[u1,u2]/\RelV v u1/\RelV w u2:=by
  cases r1 with
  | cons p q =>
   cases q with
   | cons p' q' =>
    cases q'
    exact ⟨_,_,rfl,p,p'⟩
 refine wpAny_newObj_type ?_ (by show 2<=sizeLine;decide)
 have I2:Inv X pins σ H1 { s1 with heap:=s1.heap.push { cls:=.type "tuple",data:=.seq [u1,u2].toArray } }:=I1.kept (t':=s1.toks) fun b o e=>Heap.get?_push_of_some _ e
 rw [hw]
 refine wpAny_bind (wpAny_pure ?_)
 show wpAny (model X.prog X.w) X.A (do rule "assign.swapped-stores";let items ← unpackItems (.ref s1.heap.objs.size) 2 none;assignInOrder [fun v=>bindName X.env y v,fun v=>bindName X.env x v] items.reverse;pure Flow.next) _ _ _
 refine wpAny_bind (wpAny_rule (wpAny_bind (unpackItems_tuple (items:=#[u1,u2]) (I.ok.hd hc) (IsTup.new s1.heap _) fun h' hx'=>?_)))
 have I3:=I2.kept (h':=h') (t':=s1.toks) fun b o e=>hx' b o (Nat.ne_of_lt (Heap.lt_size e)) e
 show wpAny _ _ (assignInOrder [fun v=>bindName X.env y v,fun v=>bindName X.env x v] [u2,u1] >>= fun _=>pure Flow.next) _ _ _
 refine wpAny_bind (assignInOrder_cons (wpAny_bindName (store_ok I3 hN hj (.inl hy) rw' (fun s2 I4=>?_) (.inr hy))))
 refine assignInOrder_cons (wpAny_bindName (store_ok I4 hN hi (.inl hx) rv (fun s3 I5=>assignInOrder_nil (wpAny_pure ?_)) (.inr hx)))
 rw [List.set_comm _ _ (Ne.symm hij)] at I5
 exact ⟨_,H1,I5,q1⟩
end

section
variable {X:Cx}{pos:Pos}
def tWhile (c:TT) (tb:TS):TS:=fun D σ H=>∃ W:Nat->St->Hp->Prop,(∃ m,W m σ H)/\∀ m σ H,W m σ H →
 c σ H fun b H1=>if b=true then ∃ N:St->Hp->Prop,(∀ σ' H',N σ' H'->∃ m',m' < m/\W m' σ' H')/\tb { D with nx:=N,ct:=N,bk:=D.nx } σ H1 else D.nx σ H1
theorem ps_while {c:Expr}{body:List Stmt}{tc:TT}{tb:TS} (hp:PassesOwn (model X.prog X.w) X.A X.env X.xe) (hc:PT X c tc) (hb:PSs X body tb):PS X (.While c body [] pos) (tWhile tc tb):=by
 intro pins s σ H D I h
 obtain ⟨W,⟨m0,w0⟩,turn⟩:=h
 refine wpAny_While (codeAny_whileLoop (fun n s'=>∃ σ' H',Inv X pins σ' H' s'/\W n σ' H') ?_ m0 ⟨σ,H,I,w0⟩)
 rintro n s1 ⟨σ1,H1,I1,w1⟩
 refine wpAny_passesOwn hp (thn (hc pins s1 σ1 H1 _ I1 (turn n σ1 H1 w1)) fun b s2 ⟨H2,I2,q2⟩=>?_)
 cases b with
 | true =>
  obtain ⟨N,hN,q2⟩:=q2
  rw [if_pos rfl]
  refine wpAny_passesOwn hp (thn (hb pins s2 σ1 H2 _ I2 q2) fun f s3 q3=>?_)
  cases f with
  | next =>
   obtain ⟨σ3,H3,I3,n3⟩:=q3
   obtain ⟨m',hm,w3⟩:=hN σ3 H3 n3
   exact ⟨m',hm,σ3,H3,I3,w3⟩
  | cont =>
   obtain ⟨σ3,H3,I3,n3⟩:=q3
   obtain ⟨m',hm,w3⟩:=hN σ3 H3 n3
   exact ⟨m',hm,σ3,H3,I3,w3⟩
  | brk=>exact q3
  | ret v=>exact q3
 | false =>
  rw [if_neg Bool.false_ne_true]
  exact wpAny_execs_nil ⟨σ1,H2,I2,q2⟩
end

structure It where
 go:Nat->Hp->Prop
 yld:Nat->Hp->V->Hp->Prop
 stop:Nat->Hp->Prop
def FpOk (X:Cx) (pins:List (Addr × Obj)) (H:Hp) (b:Addr):Prop :=
 H b=none/\b≠X.env.locals/\b ∉ X.fs/\(b∈X.ex ∨ X.s₀.heap.objs.size<=b)/\(∀ x c,X.env.cells.lookup x=some c->c≠b)/\∀ p∈X.pn++pins,p.1≠b
theorem Inv.fpOk {X:Cx}{pins:List (Addr × Obj)}{σ:St}{H H':Hp}{s:Shared}{b:Addr} (I:Inv X pins σ H s) (hb:s.heap.objs.size<=b) (hn:H' b=none):FpOk X pins H' b:=by
 refine ⟨hn,Nat.ne_of_gt (Nat.lt_of_lt_of_le I.lt hb),I.nofs hb,.inr (Nat.le_trans I.sz hb),fun x c e z=>?_,fun p hp z=>?_⟩
 ·obtain ⟨v,q⟩:=I.cell x c e
  exact absurd (Nat.lt_of_lt_of_le q.lt (by rw [z];exact hb)) (Nat.lt_irrefl _)
 ·exact absurd (Nat.lt_of_lt_of_le (Heap.lt_size (I.pin p hp).1) (by rw [z];exact hb)) (Nat.lt_irrefl _)
structure Turn (P:Program) (w:World) (K:PySem.W.Frag) (tg:Expr) (J:It) (fp:List Addr) (it:Addr) (tn:Nat->Heap->Prop):Prop where
 mem:it∈fp
 obj:∀ i h,tn i h->∀ b∈fp,∃ o,h.get? b=some o/\∀ v,o.data≠.cell v
 keep:∀ i h h',tn i h->(∀ b∈fp,∀ o,h.get? b=some o->h'.get? b=some o)->tn i h'
 item:∀ (X:Cx),X.prog=P->X.w=w->X.K=K->X.calm=true->∀ (i:Nat) (pins:List (Addr × Obj)) (s:Shared) (σ:St) (H:Hp) (E:Value->Shared->Prop),Inv X pins σ H s->(∀ b∈fp,FpOk X pins H b)->tn i s.heap->J.go i H →
  wpAny (model P w) X.A (pyNext (.ref it)) (fun r s1=>∃ u,r=some u ∧
   wpAny (model P w) X.A (letOwnedTupleGo tg (.ref it) u) (fun _ s2=>∃ x H',Inv X pins σ H' s2/\RelV x u/\J.yld i H x H'/\tn (i + 1) s2.heap/\∀ b∈fp,H' b=none) E s1) E s
 done:∀ (X:Cx),X.prog=P->X.w=w->X.K=K->X.calm=true->∀ (i:Nat) (pins:List (Addr × Obj)) (s:Shared) (σ:St) (H:Hp) (E:Value->Shared->Prop),Inv X pins σ H s->(∀ b∈fp,FpOk X pins H b)->tn i s.heap->J.stop i H →
  wpAny (model P w) X.A (pyNext (.ref it)) (fun r s1=>r=none/\Inv X pins σ H s1) E s
 self:∀ (A:Around) (i:Nat) (s:Shared) (Q:Value->Shared->Prop) (E:Value->Shared->Prop),tn i s.heap->Q (.ref it) s->wpAny (model P w) A (pyIter (.ref it)) Q E s
abbrev TI:=St->Hp->(It->Hp->Prop)->Prop
def PIE (X:Cx) (pins:List (Addr × Obj)) (σ:St) (tg:Expr) (R:It->Hp->Prop) (itv:Value) (s2:Shared):Prop :=
 ∃ (it:Addr) (fp:List Addr) (tn:Nat->Heap->Prop) (J:It) (H':Hp),itv=.ref it/\Inv X pins σ H' s2/\Turn X.prog X.w X.K tg J fp it tn/\tn 0 s2.heap/\(∀ b∈fp,FpOk X pins H' b)/\R J H'
def PI (X:Cx) (tg iter:Expr) (wi:TI):Prop :=
 ∀ (pins:List (Addr × Obj)) (s:Shared) (σ:St) (H:Hp) (R:It->Hp->Prop),Inv X pins σ H s->wi σ H R →
  wpAny (model X.prog X.w) X.A (eval iter X.env) (fun v s1=>wpAny (model X.prog X.w) X.A (pyIter v) (PIE X pins σ tg R) X.xe s1) X.xe s

theorem go_of {M:Model}{A:Around}{E:Value->Shared->Prop}{s:Shared}{tg:Expr}{it:Addr}{u:Value}{o:Obj}{n:String}{vs:Array Value}{Q:Unit->Shared->Prop} (ho:s.heap.get? it=some o) (hc:o.cls=.type n) (hd:o.data=.fields vs)
  (hn:["enumerate","zip","dict_itemiterator","dict_reverseitemiterator","odict_iterator","itertools.zip_longest","itertools.pairwise"].contains n=false) (hQ:Q () s):wpAny M A (letOwnedTupleGo tg (.ref it) u) Q E s:=by
 unfold letOwnedTupleGo
 cases tg <;> first
  | exact wpAny_pure hQ
  | (cases u <;> first
    | exact wpAny_pure hQ
    | (refine wpAny_bind (wpAny_load ho ?_)
       rw [hc,hd]
       show wpAny M A (if (["enumerate","zip","dict_itemiterator","dict_reverseitemiterator","odict_iterator","itertools.zip_longest","itertools.pairwise"].contains n && vs[0]? == some (rawInt _))=true then _ else _) Q E s
       rw [if_neg (by intro h;rw [hn,Bool.false_and] at h;cases h)]
       exact wpAny_pure hQ))

def Itl (K:PySem.W.Frag) (a:Addr):It :=
 ⟨fun i H=>∃ xs x,SqL K H a xs/\xs[i]?=some x,fun i H x H'=>H'=H/\∀ xs,SqL K H a xs->xs[i]?=some x,fun i H=>∃ xs,SqL K H a xs/\xs.length<=i⟩
def Itt (K:PySem.W.Frag) (a:Addr):It :=
 ⟨fun i H=>∃ xs x,SqT K H a xs/\xs[i]?=some x,fun i H x H'=>H'=H/\∀ xs,SqT K H a xs->xs[i]?=some x,fun i H=>∃ xs,SqT K H a xs/\xs.length<=i⟩
def Itr (lo:Int) (n:Nat):It:=⟨fun i _=>i < n,fun i H x H'=>H'=H/\x=.int (lo + i),fun i _=>n<=i⟩
theorem turn_list {P:Program}{w:World}{K:PySem.W.Frag}{tg:Expr} (a it:Addr):Turn P w K tg (Itl K a) [it] it (fun i h=>h.IsListIter it a i) where
 mem:=by simp
 obj:=fun i h st b hb=>by
  have e:b=it:=by simpa using hb
  subst e
  obtain ⟨o,e,c,d⟩:=st
  exact ⟨o,e,fun v z=>by rw [d] at z;cases z⟩
 keep:=fun i h h' st k=>st.at fun o e=>k it (by simp) o e
 item:=by
  intro X hP hw hK hc i pins s σ H E I hf st hg
  subst hP hw hK
  obtain ⟨xs,x,hq,hx⟩:=hg
  obtain ⟨its,rv,p,hz⟩:=I.list hq
  obtain ⟨u,hu,ru⟩:=rv.get hx
  obtain ⟨f0,f1,f2,f3,f4,f5⟩:=hf it (by simp)
  refine wpAny_pyNext_list_item st p.isList (x:=u) (by simpa using hu) fun h' st' sb=>?_
  have I1:Inv X pins σ H { s with heap:=h' }:=I.turned (t':=s.toks) (fun b o hb e=>(sb.2 b hb).trans e) f0 f1 f3 f4 f5
  obtain ⟨o,e,c,d⟩:=id st'
  exact ⟨u,rfl,go_of (s:={ s with heap:=h' }) e c d (by decide) ⟨x,H,I1,ru,⟨rfl,fun ys hy=>by rw [I.list_inj hy hq];exact hx⟩,st',fun b hb=>(hf b hb).1⟩⟩
 done:=by
  intro X hP hw hK hc i pins s σ H E I hf st hg
  subst hP hw hK
  obtain ⟨xs,hq,hx⟩:=hg
  obtain ⟨its,rv,p,hz⟩:=I.list hq
  obtain ⟨f0,f1,f2,f3,f4,f5⟩:=hf it (by simp)
  have hl:=rv.length
  exact wpAny_pyNext_list_end (I.ok.hd hc) st p.isList (by simp;omega) fun h' eb=>⟨rfl,I.turned (t':=s.toks) (fun b o hb e=>eb b o hb e) f0 f1 f3 f4 f5⟩
 self:=fun _ _ _ _ _ st h=>wpAny_pyIter_listiter st h
theorem turn_tuple {P:Program}{w:World}{K:PySem.W.Frag}{tg:Expr} (a it:Addr):Turn P w K tg (Itt K a) [it] it (fun i h=>h.IsTupleIter it a i) where
 mem:=by simp
 obj:=fun i h st b hb=>by
  have e:b=it:=by simpa using hb
  subst e
  obtain ⟨o,e,c,d⟩:=st
  exact ⟨o,e,fun v z=>by rw [d] at z;cases z⟩
 keep:=fun i h h' st k=>st.at fun o e=>k it (by simp) o e
 item:=by
  intro X hP hw hK hc i pins s σ H E I hf st hg
  subst hP hw hK
  obtain ⟨xs,x,hq,hx⟩:=hg
  obtain ⟨its,rv,p,hz⟩:=I.tuple hq
  obtain ⟨u,hu,ru⟩:=rv.get hx
  obtain ⟨f0,f1,f2,f3,f4,f5⟩:=hf it (by simp)
  refine wpAny_pyNext_tuple_item st (show s.heap.IsTuple a its.toArray from p) (x:=u) (by simpa using hu) fun h' st' sb=>?_
  have I1:Inv X pins σ H { s with heap:=h' }:=I.turned (t':=s.toks) (fun b o hb e=>(sb.2 b hb).trans e) f0 f1 f3 f4 f5
  obtain ⟨o,e,c,d⟩:=id st'
  exact ⟨u,rfl,go_of (s:={ s with heap:=h' }) e c d (by decide) ⟨x,H,I1,ru,⟨rfl,fun ys hy=>by rw [I.tuple_inj hy hq];exact hx⟩,st',fun b hb=>(hf b hb).1⟩⟩
 done:=by
  intro X hP hw hK hc i pins s σ H E I hf st hg
  subst hP hw hK
  obtain ⟨xs,hq,hx⟩:=hg
  obtain ⟨its,rv,p,hz⟩:=I.tuple hq
  obtain ⟨f0,f1,f2,f3,f4,f5⟩:=hf it (by simp)
  have hl:=rv.length
  exact wpAny_pyNext_tuple_end (I.ok.hd hc) st (show s.heap.IsTuple a its.toArray from p) (by simp;omega) fun h' eb=>⟨rfl,I.turned (t':=s.toks) (fun b o hb e=>eb b o hb e) f0 f1 f3 f4 f5⟩
 self:=fun _ _ _ _ _ st h=>wpAny_pyIter_tupleiter st h
theorem turn_range {P:Program}{w:World}{K:PySem.W.Frag}{tg:Expr} (it:Addr) (lo:Int) (n:Nat):Turn P w K tg (Itr lo n) [it] it (fun i h=>IsRangeIter h it (lo + (i:Nat) * 1) ((n:Int) - (i:Nat)) 1) where
 mem:=by simp
 obj:=fun i h st b hb=>by
  have e:b=it:=by simpa using hb
  subst e
  exact ⟨_,st,fun v z=>by
   have z':Data.fields _=Data.cell v:=z
   cases z'⟩
 keep:=fun i h h' st k=>k it (by simp) _ st
 item:=by
  intro X hP hw hK hc i pins s σ H E I hf st hg
  subst hP hw hK
  obtain ⟨f0,f1,f2,f3,f4,f5⟩:=hf it (by simp)
  have W:=Walks.range (prog:=X.prog) (w:=X.w) (I.ok.hd hc) it lo 1 n
  refine W.item i s _ _ hg st fun v h' tk hv st' kk=>?_
  obtain ⟨t,rfl⟩:=hv
  have I1:Inv X pins σ H { s with heap:=h',toks:=tk }:=I.turned (fun b o hb e=>kk b o (by simpa using hb) e) f0 f1 f3 f4 f5
  refine ⟨_,rfl,go_of (s:={ s with heap:=h',toks:=tk }) (n:="range_iterator") st' rfl rfl (by decide) ⟨.int (lo + i),H,I1,⟨t,?_⟩,⟨rfl,rfl⟩,st',fun b hb=>(hf b hb).1⟩⟩
  rw [Int.mul_one]
 done:=by
  intro X hP hw hK hc i pins s σ H E I hf st hg
  subst hP hw hK
  obtain ⟨f0,f1,f2,f3,f4,f5⟩:=hf it (by simp)
  exact wpAny_pyNext_range_end (I.ok.hd hc) st (by have:n<=i:=hg;omega) fun h' eb=>⟨rfl,I.turned (t':=s.toks) (fun b o hb e=>eb b o hb e) f0 f1 f3 f4 f5⟩
 self:=fun _ _ _ _ _ st h=>wpAny_pyIter_rangeiter st h
end L2

namespace L2
open PySem PySem.Spec PyProof.Rows
section
variable {X:Cx}{tg:Expr}
theorem range_it {pins:List (Addr × Obj)}{σ:St}{H:Hp}{s:Shared}{R:It->Hp->Prop}{E:Value->Shared->Prop}{lo hi:Int}{t u v:Tok}{tk:Nat} (I:Inv X pins σ H s) (h1:-(2 ^ 62)<=lo) (h2:lo < 2 ^ 62) (h3:-(2 ^ 62)<=hi) (h4:hi < 2 ^ 62)
  (q:R (Itr lo (hi - lo).toNat) H):wpAny (model X.prog X.w) X.A (pyIter (.ref s.heap.objs.size)) (PIE X pins σ tg R) E { s with heap:=s.heap.push { cls:=.type "range",data:=.fields #[.int lo t,.int hi u,.int 1 v] },toks:=tk }:=by
 refine wpAny_pyIter_range (IsRange.new ..) (small_one h1 h2 h3 h4) ?_
 have I1:Inv X pins σ H { s with heap:=s.heap.push { cls:=.type "range",data:=.fields #[.int lo t,.int hi u,.int 1 v] },toks:=tk }:=I.kept fun b o e=>Heap.get?_push_of_some _ e
 refine ⟨(s.heap.push { cls:=.type "range",data:=.fields #[.int lo t,.int hi u,.int 1 v] }).objs.size,[(s.heap.push { cls:=.type "range",data:=.fields #[.int lo t,.int hi u,.int 1 v] }).objs.size],_,_,H,rfl,
  I1.kept (t':=tk) fun b o e=>Heap.get?_push_of_some _ e,turn_range _ lo (hi - lo).toNat,?_,fun b hb=>?_,q⟩
 ·have e1:lo + ((0:Nat):Int) * 1=lo:=by simp
  have e2:(((hi - lo).toNat:Nat):Int) - ((0:Nat):Int)=Builtin.Range.rangeSize lo hi 1:=by rw [rangeSize_one];split <;> omega
  show IsRangeIter _ _ (lo + ((0:Nat):Int) * 1) ((((hi - lo).toNat:Nat):Int) - ((0:Nat):Int)) 1
  rw [e1,e2]
  exact Heap.get?_push_size _ rfl
 ·have e:b=(s.heap.push { cls:=.type "range",data:=.fields #[.int lo t,.int hi u,.int 1 v] }).objs.size:=by simpa using hb
  subst e
  exact I1.fpOk (Nat.le_refl _) (I1.hok.fresh (Nat.le_refl _))
def iRng1 (ta:TA):TI:=fun σ H R=>ta σ H fun vs H1=>∃ j:Int,vs=[.int j]/\-(2 ^ 62)<=j/\j < 2 ^ 62/\R (Itr 0 j.toNat) H1
def iRng2 (ta:TA):TI:=fun σ H R=>ta σ H fun vs H1=>∃ i j:Int,vs=[.int i,.int j]/\(-(2 ^ 62)<=i/\i < 2 ^ 62/\-(2 ^ 62)<=j/\j < 2 ^ 62)/\R (Itr i (j - i).toNat) H1
theorem pi_range1 {a:Expr}{ta:TA}{p pos:Pos} (hg:Gl X "range") (hm:X.mg "range"=none) (ha:PA X [a] ta) (hs:starEach [a] X.env=[(false,eval a X.env)]:=by rfl):PI X tg (.Call (.Name "range" p) [a] [] pos) (iRng1 ta):=by
 intro pins s σ H R I h
 refine Call_ (ld_blt I hg hm boot_range (PyProof.Rows.callWith_type1 (thn (ha pos pins s σ H _ I h) fun us s1 ⟨vs,H1,I1,r1,q1⟩=>?_) hs rfl))
 obtain ⟨j,e,q1,q2,q⟩:=q1
 subst e
 cases r1 with
 | cons r rr =>
  cases rr
  obtain ⟨t,rfl⟩:=r
  exact call_range_1 (range_it I1 (by omega) (by omega) q1 q2 (by simpa using q))
theorem pi_range2 {a b:Expr}{ta:TA}{p pos:Pos} (hg:Gl X "range") (hm:X.mg "range"=none) (ha:PA X [a,b] ta) (hs:starEach [a,b] X.env=[(false,eval a X.env),(false,eval b X.env)]:=by rfl) (hs2:starEach [b] X.env=[(false,eval b X.env)]:=by rfl) :
  PI X tg (.Call (.Name "range" p) [a,b] [] pos) (iRng2 ta):=by
 intro pins s σ H R I h
 refine Call_ (ld_blt I hg hm boot_range (PyProof.Rows.callWith_type1 (thn (ha pos pins s σ H _ I h) fun us s1 ⟨vs,H1,I1,r1,q1⟩=>?_) (by rw [hs,hs2]) (by rw [hs2];rfl)))
 obtain ⟨i,j,e,⟨q1,q2,q3,q4⟩,q⟩:=q1
 subst e
 cases r1 with
 | cons r rr =>
  cases rr with
  | cons r' rr =>
   cases rr
   obtain ⟨t,rfl⟩:=r
   obtain ⟨t',rfl⟩:=r'
   exact call_range_2 (range_it I1 q1 q2 q3 q4 q)

def tFor (wi:TI) (g:TG) (tb:TS):TS:=fun D σ H=>wi σ H fun J H1=>∃ W:Nat->Nat->St->Hp->Prop,(∃ m,W 0 m σ H1)/\∀ i m σ H,W i m σ H →
 (J.stop i H/\D.nx σ H) ∨ (J.go i H/\∃ N:St->Hp->Prop,(∀ σ' H',N σ' H'->∃ m',m' < m/\W (i + 1) m' σ' H')/\∀ x H',J.yld i H x H'->g x σ H' fun σ2 H2=>tb { D with nx:=N,ct:=N,bk:=D.nx } σ2 H2)
def pinsAt (fp:List Addr) (h:Heap):List (Addr × Obj):=fp.filterMap fun b=>(h.get? b).map fun o=>(b,o)
theorem mem_pinsAt {fp:List Addr}{h:Heap}{b:Addr}{o:Obj} (hb:b∈fp) (e:h.get? b=some o):(b,o)∈pinsAt fp h:=List.mem_filterMap.mpr ⟨b,hb,by rw [e];rfl⟩
theorem of_pinsAt {fp:List Addr}{h:Heap}{p:Addr × Obj} (hp:p∈pinsAt fp h):p.1∈fp/\h.get? p.1=some p.2:=by
 obtain ⟨b,hb,e⟩:=List.mem_filterMap.mp hp
 cases q:h.get? b with
 | none=>rw [q] at e;cases e
 | some o =>
  rw [q] at e
  have e':(b,o)=p:=Option.some.inj e
  subst e'
  exact ⟨hb,q⟩
theorem Inv.pinned {pins:List (Addr × Obj)}{σ:St}{H:Hp}{s:Shared}{fp:List Addr} (I:Inv X pins σ H s) (hf:∀ b∈fp,FpOk X pins H b) (ho:∀ b∈fp,∃ o,s.heap.get? b=some o/\∀ v,o.data≠.cell v):Inv X (pins++pinsAt fp s.heap) σ H s :=
 I.pins_of fun p hp=>(List.mem_append.mp hp).elim (fun z=>I.pin p (List.mem_append_right _ z)) fun z=>by
  obtain ⟨hb,e⟩:=of_pinsAt z
  obtain ⟨f0,f1,f2,_⟩:=hf p.1 hb
  obtain ⟨o,e',d⟩:=ho p.1 hb
  rw [e] at e';cases e'
  exact ⟨e,f0,f1,f2,d⟩
theorem Inv.unpinned {pins pl:List (Addr × Obj)}{σ:St}{H:Hp}{s:Shared} (I:Inv X (pins++pl) σ H s):Inv X pins σ H s:=I.pins_of fun p hp=>I.pin p (List.mem_append_right _ (List.mem_append_left _ hp))
theorem ps_for {iter:Expr}{body:List Stmt}{wi:TI}{g:TG}{tb:TS}{pos:Pos} (hp:PassesOwn (model X.prog X.w) X.A X.env X.xe) (hc:X.calm=true) (hi:PI X tg iter wi) (hg:PG X tg g) (hb:PSs X body tb)
  (hs:∀ x,foldedSetIterable iter X.env x=pure x:=by intro _;rfl):PS X (.For tg iter body [] pos) (tFor wi g tb):=by
 intro pins s σ H D I h
 refine wpAny_For (thn (hi pins s σ H _ I h) fun v s1 h1=>thn h1 fun itv s2 h2=>?_) hs
 obtain ⟨it,fp,tn,J,H2,e,I2,T,st2,f2,W,⟨m0,w0⟩,turn⟩:=h2
 subst e
 -- what stays true of the iterator's objects through the loop
 have stat:∀ {H':Hp},(∀ b∈fp,H' b=none)->∀ b∈fp,FpOk X pins H' b:=fun hn b hb=>⟨hn b hb,(f2 b hb).2⟩
 refine codeAny_forLoop_any (fun n s'=>∃ i σ' H',Inv X pins σ' H' s'/\tn i s'.heap/\(∀ b∈fp,H' b=none)/\W i n σ' H') ?_ m0 ⟨0,σ,H2,I2,st2,fun b hb=>(f2 b hb).1,w0⟩
 rintro n s3 ⟨i,σ3,H3,I3,st3,fr3,w3⟩
 rcases turn i n σ3 H3 w3 with ⟨stop,qn⟩ | ⟨go,N,hN,step⟩
 ·refine wpAny_passesOwn hp (thn (T.done X rfl rfl rfl hc i pins s3 σ3 H3 X.xe I3 (stat fr3) st3 stop) fun r s4 ⟨hr,I4⟩=>?_)
  subst hr
  exact wpAny_execs_nil ⟨σ3,H3,I4,qn⟩
 ·refine wpAny_passesOwn hp (thn (T.item X rfl rfl rfl hc i pins s3 σ3 H3 X.xe I3 (stat fr3) st3 go) fun r s4 ⟨u,hr,h4⟩=>?_)
  subst hr
  refine wpAny_passesOwn hp (thn h4 fun _ s5 ⟨x,H5,I5,r5,y5,st5,fr5⟩=>?_)
  have I5':=I5.pinned (stat fr5) (T.obj _ _ st5)
  refine wpAny_passesOwn hp (thn (hg _ s5 σ3 H5 x u _ I5' r5 (step x H5 y5)) fun _ s6 ⟨σ6,H6,I6,q6⟩=>?_)
  refine wpAny_passesOwn hp (thn (hb _ s6 σ6 H6 _ I6 q6) fun f s7 q7=>?_)
  have again:∀ {σ7:St}{H7:Hp},Inv X (pins++pinsAt fp s5.heap) σ7 H7 s7->N σ7 H7->∃ m,m < n/\∃ i σ' H',Inv X pins σ' H' s7/\tn i s7.heap/\(∀ b∈fp,H' b=none)/\W i m σ' H':=fun {σ7 H7} I7 n7=>by
   obtain ⟨m',hm,w7⟩:=hN σ7 H7 n7
   refine ⟨m',hm,i + 1,σ7,H7,I7.unpinned,T.keep _ _ _ st5 fun b hb o e=>(I7.pin (b,o) (List.mem_append_right _ (List.mem_append_right _ (mem_pinsAt hb e)))).1,fun b hb=>?_,w7⟩
   obtain ⟨o,e,d⟩:=T.obj _ _ st5 b hb
   exact (I7.pin (b,o) (List.mem_append_right _ (List.mem_append_right _ (mem_pinsAt hb e)))).2.1
  cases f with
  | next=>obtain ⟨σ7,H7,I7,n7⟩:=q7;exact again I7 n7
  | cont=>obtain ⟨σ7,H7,I7,n7⟩:=q7;exact again I7 n7
  | brk=>obtain ⟨σ7,H7,I7,q7⟩:=q7;exact ⟨σ7,H7,I7.unpinned,q7⟩
  | ret v=>obtain ⟨x7,σ7,H7,I7,r7,q7⟩:=q7;exact ⟨x7,σ7,H7,I7.unpinned,r7,q7⟩
end

theorem for_list {K:PySem.W.Frag}{a:Addr}{xs:List V}{g:TG}{tb:TS}{D:Ends}{σ:St}{H:Hp} (Pv:Nat->St->Hp->Prop) (h0:Pv 0 σ H) (hl:∀ i σ H,i<=xs.length->Pv i σ H->SqL K H a xs)
  (hs:∀ i x σ H,xs[i]?=some x->Pv i σ H->g x σ H fun σ2 H2=>tb { D with nx:=Pv (i + 1),ct:=Pv (i + 1),bk:=D.nx } σ2 H2) (hd:∀ σ H,Pv xs.length σ H->D.nx σ H) :
  ∃ W:Nat->Nat->St->Hp->Prop,(∃ m,W 0 m σ H)/\∀ i m σ H,W i m σ H →
   ((Itl K a).stop i H/\D.nx σ H) ∨ ((Itl K a).go i H/\∃ N:St->Hp->Prop,(∀ σ' H',N σ' H'->∃ m',m' < m/\W (i + 1) m' σ' H')/\∀ x H',(Itl K a).yld i H x H'->g x σ H' fun σ2 H2=>tb { D with nx:=N,ct:=N,bk:=D.nx } σ2 H2):=by
 refine ⟨fun i m σ H=>m=xs.length - i/\i<=xs.length/\Pv i σ H,⟨xs.length,by simp,Nat.zero_le _,h0⟩,?_⟩
 rintro i m σ H ⟨rfl,hi,p⟩
 have q:=hl i σ H hi p
 by_cases hlt:i < xs.length
 ·refine .inr ⟨⟨xs,xs[i],q,by simp [hlt]⟩,Pv (i + 1),fun σ' H' p'=>⟨xs.length - (i + 1),by omega,rfl,hlt,p'⟩,fun x H' y=>?_⟩
  obtain ⟨e,y⟩:=y
  subst e
  exact hs i x σ _ (y xs q) p
 ·have e:i=xs.length:=by omega
  subst e
  exact .inl ⟨⟨xs,q,Nat.le_refl _⟩,hd σ H p⟩
theorem for_range {lo:Int}{n:Nat}{g:TG}{tb:TS}{D:Ends}{σ:St}{H:Hp} (Pv:Nat->St->Hp->Prop) (h0:Pv 0 σ H)
  (hs:∀ i σ H,i < n->Pv i σ H->g (.int (lo + i)) σ H fun σ2 H2=>tb { D with nx:=Pv (i + 1),ct:=Pv (i + 1),bk:=D.nx } σ2 H2) (hd:∀ σ H,Pv n σ H->D.nx σ H) :
  ∃ W:Nat->Nat->St->Hp->Prop,(∃ m,W 0 m σ H)/\∀ i m σ H,W i m σ H →
   ((Itr lo n).stop i H/\D.nx σ H) ∨ ((Itr lo n).go i H/\∃ N:St->Hp->Prop,(∀ σ' H',N σ' H'->∃ m',m' < m/\W (i + 1) m' σ' H')/\∀ x H',(Itr lo n).yld i H x H'->g x σ H' fun σ2 H2=>tb { D with nx:=N,ct:=N,bk:=D.nx } σ2 H2):=by
 refine ⟨fun i m σ H=>m=n - i/\i<=n/\Pv i σ H,⟨n,by simp,Nat.zero_le _,h0⟩,?_⟩
 rintro i m σ H ⟨rfl,hi,p⟩
 by_cases hlt:i < n
 ·refine .inr ⟨hlt,Pv (i + 1),fun σ' H' p'=>⟨n - (i + 1),by omega,rfl,hlt,p'⟩,fun x H' y=>?_⟩
  obtain ⟨e,y⟩:=y
  subst e y
  exact hs i σ _ hlt p
 ·have e:i=n:=by omega
  subst e
  exact .inl ⟨Nat.le_refl _,hd σ H p⟩
end L2

namespace L2
open PySem PySem.Spec PyProof.Rows

abbrev R2:=V->V->Hp->VK->Prop
def OpR (X:Cx) (f:Value->Value->Sem Value) (r:R2):Prop :=
 ∀ (pins:List (Addr × Obj)) (s:Shared) (σ:St) (H:Hp) (x y:V) (v u:Value) (Q:VK),Inv X pins σ H s->RelV x v->RelV y u->r x y H Q →
  wpAny (model X.prog X.w) X.A (f v u) (EP X pins σ Q) X.xe s
def UnR (X:Cx) (f:Value->Sem Value) (r:V->Hp->VK->Prop):Prop :=
 ∀ (pins:List (Addr × Obj)) (s:Shared) (σ:St) (H:Hp) (x:V) (v:Value) (Q:VK),Inv X pins σ H s->RelV x v->r x H Q →
  wpAny (model X.prog X.w) X.A (f v) (EP X pins σ Q) X.xe s
def CallR (X:Cx) (f:Value) (r:List V->Hp->VK->Prop):Prop :=
 ∀ (pins:List (Addr × Obj)) (s:Shared) (σ:St) (H:Hp) (xs:List V) (us:List Value) (Q:VK),Inv X pins σ H s->Vals xs us->r xs H Q →
  wpAny (model X.prog X.w) X.A (call f us) (EP X pins σ Q) X.xe s
def tOp (r:R2) (ta tb:TE):TE:=fun σ H Q=>ta σ H fun x H1=>tb σ H1 fun y H2=>r x y H2 Q
def tUn (r:V->Hp->VK->Prop) (ta:TE):TE:=fun σ H Q=>ta σ H fun x H1=>r x H1 Q
def rI (C:Int->Int->Prop) (g:Int->Int->V):R2:=fun x y H Q=>∃ i j,x=.int i/\y=.int j/\C i j/\Q (g i j) H
def rI0 (g:Int->Int->V):R2:=fun x y H Q=>∃ i j,x=.int i/\y=.int j/\Q (g i j) H
def rU (g:Int->V):V->Hp->VK->Prop:=fun x H Q=>∃ i,x=.int i/\Q (g i) H

section
variable {X:Cx}{a b c:Expr}{ta tb tc:TE}{pos:Pos}

theorem binT (ha:PE X a ta) (hb:PE X b tb) {pins:List (Addr × Obj)}{s:Shared}{σ:St}{H:Hp}{R:V->V->Hp->Prop} (I:Inv X pins σ H s)
  (h:ta σ H fun x H1=>tb σ H1 fun y H2=>R x y H2) {Q:Value->Shared->Prop}{f:Value->Value->Sem Value}
  (hf:∀ v u s2 x y H2,Inv X pins σ H2 s2->RelV x v->RelV y u->R x y H2->wpAny (model X.prog X.w) X.A (f v u) Q X.xe s2) :
  wpAny (model X.prog X.w) X.A (eval a X.env) (fun v s₁=>wpAny (model X.prog X.w) X.A (eval b X.env) (fun u s₂=>wpAny (model X.prog X.w) X.A (f v u) Q X.xe s₂) X.xe s₁) X.xe s:=by
 refine thn (ha pins s σ H _ I h) fun v s1 ⟨x,H1,I1,r1,q1⟩=>?_
 refine thn (hb pins s1 σ H1 _ I1 q1) fun u s2 ⟨y,H2,I2,r2,q2⟩=>?_
 exact hf v u s2 x y H2 I2 r1 r2 q2

theorem pe_op {op:Operator}{r:R2} (ho:OpR X (binaryOp op) r) (ha:PE X a ta) (hb:PE X b tb):PE X (.BinOp a op b pos) (tOp r ta tb):=by
 intro pins s σ H Q I h
 exact wpAny_BinOp (binT ha hb I h fun v u s2 x y H2 I2 rx ry q=>ho pins s2 σ H2 x y v u Q I2 rx ry q)
theorem pe_un {op:UnaryOp}{r:V->Hp->VK->Prop} (ho:UnR X (unaryOp op) r) (ha:PE X a ta):PE X (.UnaryOp op a pos) (tUn r ta):=by
 intro pins s σ H Q I h
 exact UnaryOp_ (thn (ha pins s σ H _ I h) fun v s1 ⟨x,H1,I1,r1,q1⟩=>ho pins s1 σ H1 x v Q I1 r1 q1)
theorem opI {f:Value->Value->Sem Value}{C:Int->Int->Prop}{g:Int->Int->Int}
  (rule:∀ (i j:Int) (t u:Tok) (s:Shared) (Q:Value->Shared->Prop) (E:Value->Shared->Prop),C i j->Q (.int (g i j) s.toks) { s with toks:=s.toks + 1 }->wpAny (model X.prog X.w) X.A (f (.int i t) (.int j u)) Q E s) :
  OpR X f (rI C fun i j=>.int (g i j)):=by
 intro pins s σ H x y v u Q I rx ry h
 obtain ⟨i,j,rfl,rfl,hc,q⟩:=h
 obtain ⟨t,rfl⟩:=rx
 obtain ⟨t',rfl⟩:=ry
 exact rule i j t t' s _ _ hc ⟨.int (g i j),H,I.tok _,⟨_,rfl⟩,q⟩
theorem opI0 {f:Value->Value->Sem Value}{g:Int->Int->Int}
  (rule:∀ (i j:Int) (t u:Tok) (s:Shared) (Q:Value->Shared->Prop) (E:Value->Shared->Prop),Q (.int (g i j) s.toks) { s with toks:=s.toks + 1 }->wpAny (model X.prog X.w) X.A (f (.int i t) (.int j u)) Q E s) :
  OpR X f (rI0 fun i j=>.int (g i j)):=by
 intro pins s σ H x y v u Q I rx ry h
 obtain ⟨i,j,rfl,rfl,q⟩:=h
 obtain ⟨t,rfl⟩:=rx
 obtain ⟨t',rfl⟩:=ry
 exact rule i j t t' s _ _ ⟨.int (g i j),H,I.tok _,⟨_,rfl⟩,q⟩
theorem opB0 {f:Value->Value->Sem Value}{g:Int->Int->Bool}
  (rule:∀ (i j:Int) (t u:Tok) (s:Shared) (Q:Value->Shared->Prop) (E:Value->Shared->Prop),Q (.bool (g i j)) s->wpAny (model X.prog X.w) X.A (f (.int i t) (.int j u)) Q E s) :
  OpR X f (rI0 fun i j=>.bl (g i j)):=by
 intro pins s σ H x y v u Q I rx ry h
 obtain ⟨i,j,rfl,rfl,q⟩:=h
 obtain ⟨t,rfl⟩:=rx
 obtain ⟨t',rfl⟩:=ry
 exact rule i j t t' s _ _ ⟨.bl (g i j),H,I,rfl,q⟩

def CPow (i j:Int):Prop:=0<=j/\j<=1000000/\i.natAbs < 2 ^ 64
def CMul (i j:Int):Prop:=(-(2 ^ 64) < i/\i < 2 ^ 64) ∨ (-(2 ^ 64) < j/\j < 2 ^ 64)
theorem CMul.ok {i j:Int} (h:CMul i j):IntMulOk i j:=by
 rcases h with ⟨h1,h2⟩ | ⟨h1,h2⟩
 ·exact .of_left (intBits_le_64 h1 h2)
 ·exact .of_right (intBits_le_64 h1 h2)
theorem op_add:OpR X (binaryOp .Add) (rI0 fun i j=>.int (i + j)):=opI0 fun _ _ _ _ _ _ _ q=>add_int q
theorem op_sub:OpR X (binaryOp .Sub) (rI0 fun i j=>.int (i - j)):=opI0 fun _ _ _ _ _ _ _ q=>sub_int q
theorem op_mod:OpR X (binaryOp .Mod) (rI (fun _ j=>0 < j) fun i j=>.int (i % j)):=opI fun i j _ _ _ _ _ hc q=>by
 have h1:(0:Int) < j:=hc
 exact mod_int' (by omega) (by rw [Int.fmod_eq_emod_of_nonneg i (by omega)];exact q)
theorem op_pow:OpR X (binaryOp .Pow) (rI CPow fun i j=>.int (i ^ j.toNat)):=opI fun _ _ _ _ _ _ _ hc q=>pow_int_small hc.1 hc.2.1 hc.2.2 q
theorem unI {f:Value->Sem Value}{g:Int->Int}
  (rule:∀ (i:Int) (t:Tok) (s:Shared) (Q:Value->Shared->Prop) (E:Value->Shared->Prop),Q (.int (g i) s.toks) { s with toks:=s.toks + 1 }->wpAny (model X.prog X.w) X.A (f (.int i t)) Q E s) :
  UnR X f (rU fun i=>.int (g i)):=by
 intro pins s σ H x v Q I rx h
 obtain ⟨i,rfl,q⟩:=h
 obtain ⟨t,rfl⟩:=rx
 exact rule i t s _ _ ⟨.int (g i),H,I.tok _,⟨_,rfl⟩,q⟩
theorem un_neg:UnR X (unaryOp .USub) (rU fun i=>.int (-i)):=unI fun _ _ _ _ _ q=>neg_int q
end

def scal:V->V->Bool
 | .non,.non=>true | .non,.int _=>true | .int _,.non=>true | .non,.bl _=>true | .bl _,.non=>true | .non,.str _=>true | .str _,.non=>true
 | .int _,.int _=>true | .bl _,.bl _=>true | .str _,.str _=>true | .byt _,.byt _=>true
 | .int _,.str _=>true | .str _,.int _=>true | .bl _,.str _=>true | .str _,.bl _=>true
 | _,_=>false
def rEq:R2:=fun x y H Q=>scal x y=true/\Q (.bl (decide (x=y))) H
def rNe:R2:=fun x y H Q=>scal x y=true/\Q (.bl (!decide (x=y))) H

theorem dec_int {i j:Int}:decide (V.int i=V.int j)=(i == j):=by
 rw [Bool.eq_iff_iff]
 simp
theorem dec_bl {i j:Bool}:decide (V.bl i=V.bl j)=(i == j):=by
 rw [Bool.eq_iff_iff]
 simp
theorem dec_str {i j:Str}:decide (V.str i=V.str j)=(i == j):=by
 rw [Bool.eq_iff_iff]
 simp
theorem dec_byt {i j:Array UInt8}:decide (V.byt i=V.byt j)=(i.toList == j.toList):=by
 rw [Bool.eq_iff_iff]
 cases i
 cases j
 simp

section
variable {X:Cx}{a b c:Expr}{ta tb tc:TE}{pos:Pos}
theorem fin_bl {pins:List (Addr × Obj)}{σ:St}{H:Hp}{s:Shared}{Q:VK}{k k':Bool} (I:Inv X pins σ H s) (q:Q (.bl k) H) (e:k=k'):EP X pins σ Q (.bool k') s:=by
 subst e
 exact ⟨.bl k,H,I,rfl,q⟩
theorem op_eq:OpR X (compareOp .Eq) rEq:=by
 intro pins s σ H x y v u Q I rx ry h
 obtain ⟨hs,q⟩:=h
 cases x with
 | non =>
  cases rx
  cases y with
  | non=>cases ry;exact PySem.EqNone.eq_none_none (fin_bl I q (by simp))
  | bl j=>cases ry;exact PySem.EqNone.eq_none_bool (fin_bl I q (by simp))
  | int j=>obtain ⟨t',rfl⟩:=ry;exact PySem.EqNone.eq_none_int (fin_bl I q (by simp))
  | str j=>obtain ⟨t',rfl⟩:=ry;exact PySem.EqNone.eq_none_str (fin_bl I q (by simp))
  | _=>exact absurd (show false=true from hs) Bool.false_ne_true
 | bl i =>
  cases rx
  cases y with
  | non=>cases ry;exact PySem.EqNone.eq_bool_none (fin_bl I q (by simp))
  | bl j=>cases ry;exact eq_bool (fin_bl I q dec_bl)
  | str j=>obtain ⟨t',rfl⟩:=ry;exact PySem.EqMixed.eq_bool_str (fin_bl I q (by simp))
  | _=>exact absurd (show false=true from hs) Bool.false_ne_true
 | int i =>
  obtain ⟨t,rfl⟩:=rx
  cases y with
  | non=>cases ry;exact PySem.EqNone.eq_int_none (fin_bl I q (by simp))
  | int j=>obtain ⟨t',rfl⟩:=ry;exact eq_int (fin_bl I q dec_int)
  | str j=>obtain ⟨t',rfl⟩:=ry;exact PySem.EqMixed.eq_int_str (fin_bl I q (by simp))
  | _=>exact absurd (show false=true from hs) Bool.false_ne_true
 | str i =>
  obtain ⟨t,rfl⟩:=rx
  cases y with
  | non=>cases ry;exact PySem.EqNone.eq_str_none (fin_bl I q (by simp))
  | bl j=>cases ry;exact PySem.EqMixed.eq_str_bool (fin_bl I q (by simp))
  | int j=>obtain ⟨t',rfl⟩:=ry;exact PySem.EqMixed.eq_str_int (fin_bl I q (by simp))
  | str j=>obtain ⟨t',rfl⟩:=ry;exact eq_str (fin_bl I q dec_str)
  | _=>exact absurd (show false=true from hs) Bool.false_ne_true
 | byt i =>
  obtain ⟨t,rfl⟩:=rx
  cases y with
  | byt j=>obtain ⟨t',rfl⟩:=ry;exact PySem.W.eq_bytes (fin_bl I q dec_byt)
  | _=>exact absurd (show false=true from hs) Bool.false_ne_true
 | _=>cases y <;> exact absurd (show false=true from hs) Bool.false_ne_true
theorem op_ne:OpR X (compareOp .NotEq) rNe:=by
 intro pins s σ H x y v u Q I rx ry h
 obtain ⟨hs,q⟩:=h
 cases x with
 | non =>
  cases rx
  cases y with
  | non=>cases ry;exact PySem.EqNone.ne_none_none (fin_bl I q (by simp))
  | bl j=>cases ry;exact PySem.EqNone.ne_none_bool (fin_bl I q (by simp))
  | int j=>obtain ⟨t',rfl⟩:=ry;exact PySem.EqNone.ne_none_int (fin_bl I q (by simp))
  | str j=>obtain ⟨t',rfl⟩:=ry;exact PySem.EqNone.ne_none_str (fin_bl I q (by simp))
  | _=>exact absurd (show false=true from hs) Bool.false_ne_true
 | bl i =>
  cases rx
  cases y with
  | non=>cases ry;exact PySem.EqNone.ne_bool_none (fin_bl I q (by simp))
  | bl j=>cases ry;exact ne_bool (fin_bl I q (congrArg not dec_bl))
  | str j=>obtain ⟨t',rfl⟩:=ry;exact PySem.EqMixed.ne_bool_str (fin_bl I q (by simp))
  | _=>exact absurd (show false=true from hs) Bool.false_ne_true
 | int i =>
  obtain ⟨t,rfl⟩:=rx
  cases y with
  | non=>cases ry;exact PySem.EqNone.ne_int_none (fin_bl I q (by simp))
  | int j=>obtain ⟨t',rfl⟩:=ry;exact ne_int (fin_bl I q (congrArg not dec_int))
  | str j=>obtain ⟨t',rfl⟩:=ry;exact PySem.EqMixed.ne_int_str (fin_bl I q (by simp))
  | _=>exact absurd (show false=true from hs) Bool.false_ne_true
 | str i =>
  obtain ⟨t,rfl⟩:=rx
  cases y with
  | non=>cases ry;exact PySem.EqNone.ne_str_none (fin_bl I q (by simp))
  | bl j=>cases ry;exact PySem.EqMixed.ne_str_bool (fin_bl I q (by simp))
  | int j=>obtain ⟨t',rfl⟩:=ry;exact PySem.EqMixed.ne_str_int (fin_bl I q (by simp))
  | str j=>obtain ⟨t',rfl⟩:=ry;exact ne_str (fin_bl I q (congrArg not dec_str))
  | _=>exact absurd (show false=true from hs) Bool.false_ne_true
 | byt i =>
  obtain ⟨t,rfl⟩:=rx
  cases y with
  | byt j=>obtain ⟨t',rfl⟩:=ry;exact PySem.W.ne_bytes (fin_bl I q (congrArg not dec_byt))
  | _=>exact absurd (show false=true from hs) Bool.false_ne_true
 | _=>cases y <;> exact absurd (show false=true from hs) Bool.false_ne_true

theorem op_lt:OpR X (compareOp .Lt) (rI0 fun i j=>.bl (decide (i < j))):=opB0 fun _ _ _ _ _ _ _ q=>lt_int q
theorem op_le:OpR X (compareOp .LtE) (rI0 fun i j=>.bl (decide (i<=j))):=opB0 fun _ _ _ _ _ _ _ q=>le_int q
theorem op_gt:OpR X (compareOp .Gt) (rI0 fun i j=>.bl (decide (j < i))):=opB0 fun _ _ _ _ _ _ _ q=>gt_int q
theorem op_ge:OpR X (compareOp .GtE) (rI0 fun i j=>.bl (decide (j<=i))):=opB0 fun _ _ _ _ _ _ _ q=>ge_int q
theorem op_in_str:OpR X (compareOp .In) (fun x y H Q=>∃ i j,x=.str i/\y=.str j/\Q (.bl (!(Builtin.Str.occurrences j i 0 j.length 1).isEmpty)) H):=by
 intro pins s σ H x y v u Q I rx ry h
 obtain ⟨i,j,rfl,rfl,q⟩:=h
 obtain ⟨t,rfl⟩:=rx
 obtain ⟨t',rfl⟩:=ry
 exact in_str (fin_bl I q rfl)

theorem op_isN:OpR X (compareOp .Is) (fun x y H Q=>y=.non/\Q (.bl (decide (x=.non))) H):=by
 intro pins s σ H x y v u Q I rx ry h
 obtain ⟨rfl,q⟩:=h
 cases ry
 refine is_none_gen (fin_bl I q ?_)
 cases x <;> first
  | (cases rx;rfl)
  | (obtain ⟨t,rfl⟩:=rx;rfl)
theorem op_notN:OpR X (compareOp .IsNot) (fun x y H Q=>y=.non/\Q (.bl (!decide (x=.non))) H):=by
 intro pins s σ H x y v u Q I rx ry h
 obtain ⟨rfl,q⟩:=h
 cases ry
 refine isnot_none_gen (fin_bl I q ?_)
 cases x <;> first
  | (cases rx;rfl)
  | (obtain ⟨t,rfl⟩:=rx;rfl)

theorem OpR.or {f:Value->Value->Sem Value}{r r':R2} (h:OpR X f r) (h':OpR X f r'):OpR X f (fun x y H Q=>r x y H Q ∨ r' x y H Q):=by
 intro pins s σ H x y v u Q I rx ry q
 rcases q with q | q
 ·exact h pins s σ H x y v u Q I rx ry q
 ·exact h' pins s σ H x y v u Q I rx ry q

theorem nomark (b:Expr) {op:CmpOp} (h:op≠.In:=by decide) (h2:op≠.NotIn:=by decide):behindInMarks op b=false:=by
 have e1:(op == CmpOp.In)=false:=by cases op <;> first | rfl | exact absurd rfl h
 have e2:(op == CmpOp.NotIn)=false:=by cases op <;> first | rfl | exact absurd rfl h2
 cases b <;> simp [behindInMarks,e1,e2]
theorem pe_cmpR {op:CmpOp}{r:R2} (ho:OpR X (compareOp op) r) (ha:PE X a ta) (hb:PE X b tb) (hm:behindInMarks op b=false):PE X (.Compare a [op] [b] pos) (tOp r ta tb):=by
 intro pins s σ H Q I h
 exact wpAny_Compare1 (binT ha hb I h fun v u s2 x y H2 I2 rx ry q=>ho pins s2 σ H2 x y v u Q I2 rx ry q) hm
def tTest (t:TE):TT:=fun σ H Q=>t σ H fun x H'=>∃ k,x=.bl k/\Q k H'
theorem pt_cmpR {op:CmpOp}{r:R2} (ho:OpR X (compareOp op) r) (ha:PE X a ta) (hb:PE X b tb) (hm:behindInMarks op b=false):PT X (.Compare a [op] [b] pos) (tTest (tOp r ta tb)):=by
 intro pins s σ H Q I h
 refine wpAny_isTrue_Compare1 (thn (ha pins s σ H _ I h) fun v s1 ⟨x,H1,I1,r1,q1⟩=>thn (hb pins s1 σ H1 _ I1 q1) fun u s2 ⟨y,H2,I2,r2,q2⟩ =>
  thn (ho pins s2 σ H2 x y v u _ I2 r1 r2 q2) fun c s3 ⟨z,H3,I3,r3,k,e,q3⟩=>?_) hm
 subst e
 cases r3
 exact wpAny_truthy_bool ⟨H3,I3,q3⟩
def tChain (r r':R2) (ta tb tc:TE):TE:=fun σ H Q=>ta σ H fun x H1=>tb σ H1 fun y H2=>r x y H2 fun z H3=>∃ k,z=.bl k ∧
 (if k=true then tc σ H3 fun w' H4=>r' y w' H4 Q else Q (.bl false) H3)
theorem pe_chain {op op':CmpOp}{r r':R2} (ho:OpR X (compareOp op) r) (ho':OpR X (compareOp op') r') (ha:PE X a ta) (hb:PE X b tb) (hc:PE X c tc)
  (hm:lastMarks [op,op'] [b,c]=false:=by with_unfolding_all rfl):PE X (.Compare a [op,op'] [b,c] pos) (tChain r r' ta tb tc):=by
 intro pins s σ H Q I h
 refine Compare_chain (thn (ha pins s σ H _ I h) fun v s1 ⟨x,H1,I1,r1,q1⟩=>chain_link (thn (hb pins s1 σ H1 _ I1 q1) fun u s2 ⟨y,H2,I2,r2,q2⟩ =>
  thn (ho pins s2 σ H2 x y v u _ I2 r1 r2 q2) fun d s3 ⟨z,H3,I3,r3,k,e,q3⟩=>?_)) hm
 subst e
 cases r3
 refine wpAny_truthy_bool ?_
 cases k with
 | false=>exact ite_ff ⟨.bl false,H3,I3,rfl,q3⟩
 | true=>exact ite_tt (chain_last (thn (hc pins s3 σ H3 _ I3 q3) fun w' s4 ⟨z',H4,I4,r4,q4⟩=>ho' pins s4 σ H4 y z' u w' Q I4 r2 r4 q4))
theorem pt_chain {op op':CmpOp}{r r':R2} (ho:OpR X (compareOp op) r) (ho':OpR X (compareOp op') r') (ha:PE X a ta) (hb:PE X b tb) (hc:PE X c tc)
  (hm:lastMarks [op,op'] [b,c]=false:=by with_unfolding_all rfl):PT X (.Compare a [op,op'] [b,c] pos) (tTest (tChain r r' ta tb tc)):=by
 intro pins s σ H Q I h
 refine isTrue_chain (thn (ha pins s σ H _ I h) fun v s1 ⟨x,H1,I1,r1,q1⟩=>test_link (thn (hb pins s1 σ H1 _ I1 q1) fun u s2 ⟨y,H2,I2,r2,q2⟩ =>
  thn (ho pins s2 σ H2 x y v u _ I2 r1 r2 q2) fun d s3 ⟨z,H3,I3,r3,k,e,q3⟩=>?_)) hm
 subst e
 cases r3
 refine wpAny_truthy_bool ?_
 cases k with
 | false =>
  obtain ⟨k',e',q'⟩:=q3
  cases e'
  exact ite_ff ⟨H3,I3,q'⟩
 | true =>
  refine ite_tt (test_last (thn (hc pins s3 σ H3 _ I3 q3) fun w' s4 ⟨z',H4,I4,r4,q4⟩=>thn (ho' pins s4 σ H4 y z' u w' _ I4 r2 r4 q4) fun d' s5 ⟨z2,H5,I5,r5,k2,e2,q5⟩=>?_))
  subst e2
  cases r5
  exact wpAny_truthy_bool ⟨H5,I5,q5⟩

theorem line63:(sizeLine:Nat) < 2 ^ 63:=by rw [sizeLine_eq];decide
theorem op_add_str:OpR X (binaryOp .Add) (fun x y H Q=>∃ i j,x=.str i/\y=.str j/\i.length + j.length<=sizeLine/\Q (.str (i++j)) H):=by
 intro pins s σ H x y v u Q I rx ry h
 obtain ⟨i,j,rfl,rfl,hz,q⟩:=h
 obtain ⟨t,rfl⟩:=rx
 obtain ⟨t',rfl⟩:=ry
 exact add_str (fun t' tk=>⟨.str (i++j),H,I.tok _,⟨_,rfl⟩,q⟩) hz
theorem vals1 {x:V}{us:List Value} (r:Vals [x] us):∃ u,us=[u]/\RelV x u:=by
 cases r with
 | cons r1 r2=>cases r2;exact ⟨_,rfl,r1⟩
theorem vals2 {x y:V}{us:List Value} (r:Vals [x,y] us):∃ u w',us=[u,w']/\RelV x u/\RelV y w':=by
 cases r with
 | cons r1 r2 =>
  cases r2 with
  | cons r3 r4=>cases r4;exact ⟨_,_,rfl,r1,r3⟩
theorem call_abs:CallR X (.builtin "abs") (fun xs H Q=>∃ i,xs=[.int i]/\Q (.int (if i < 0 then -i else i)) H):=by
 intro pins s σ H xs us Q I r h
 obtain ⟨i,rfl,q⟩:=h
 obtain ⟨u,rfl,t,rfl⟩:=vals1 r
 exact call_abs_int fun u tk=>⟨.int (if i < 0 then -i else i),H,I.tok _,⟨_,rfl⟩,q⟩
end
end L2

namespace L2
open PySem PySem.Spec PyProof.Rows

structure ObjM (h:Heap) (x dx C:Addr) (mA:Str->Option Value):Prop where
 obj:h.get? x=some (PySem.W.instObj C dx)
 ns:h.Ns1 dx mA
 ne:dx≠x

theorem lookIn_ns {h:Heap}{dx:Addr}{mA:Str->Option Value} (n:h.Ns1 dx mA):∃ od,h.get? dx=some od/\∀ name,PySem.W.lookIn name od=some (mA name):=by
 obtain ⟨o,es,ep,ho,hd,hk,_,hm⟩:=n
 refine ⟨o,ho,fun name=>?_⟩
 have e:=hm name
 unfold nsFind findBy at e
 rw [← Array.find?_toList] at e
 unfold PySem.W.lookIn
 rw [hd]
 dsimp only
 split
 ·rename_i y q
  rw [q] at e
  exact congrArg some e
 ·rename_i q
  rw [q] at e
  have a:es.toList.any (·.refKey)=false:=by
   rw [List.any_eq_false]
   intro y hy
   obtain ⟨z,t,hkey⟩:=hk y (Array.mem_toList_iff.mp hy)
   simp [DictEntry.refKey,hkey]
  have a':¬ es.toList.any (·.refKey)=true:=by rw [a];exact Bool.false_ne_true
  rw [if_neg a']
  exact congrArg some e

theorem ObjM.look {h:Heap}{x dx C:Addr}{mA:Str->Option Value} (I:ObjM h x dx C mA):∃ od,PySem.W.InstAt h x (PySem.W.instObj C dx) C (some od)/\∀ name,PySem.W.lookIn name od=some (mA name) :=
 let ⟨od,ho,hl⟩:=lookIn_ns I.ns
 ⟨od,⟨I.obj,rfl,rfl,ho⟩,hl⟩

section
variable {prog:Program}{w:World}{A:Around}{E:Value->Shared->Prop}{s:Shared}{K:PySem.W.Frag}{x dx C f:Addr}{mA:Str->Option Value}{name:Str}{v:Value}

theorem get_map {expr:Bool}{Q:Value->Shared->Prop} (X:K.In s.heap) (I:ObjM s.heap x dx C mA) (hg:PySem.W.plainGet K C name=true) (hh:PySem.W.hasDictIn K C=true)
  (ha:PySem.W.findIn K (.ref C) name=some none) (hv:mA name=some v) (hv':PySem.W.handedIn v=true) (h:Q v { s with toks:=s.toks + 1 }) :
  wpAny (model prog w) A (getAttr (.ref x) name expr) Q E s:=by
 obtain ⟨od,J,hl⟩:=I.look
 exact PySem.W.get_value X J (PySem.W.plainGet_of hg).1 (PySem.W.findObj_own hh ha rfl (by rw [hl,hv])) hv' h

theorem get_meth {pl:Sem Bool}{Q:Value × List Value->Shared->Prop} (X:K.In s.heap) (I:ObjM s.heap x dx C mA) (hg:PySem.W.plainGet K C name=true)
  (hf:PySem.W.findIn K (.ref C) name=some (some (.ref f))) (ht:PySem.W.isFn K (.ref f)=true) (hv:mA name=none) (h:Q (.ref f,[.ref x]) s) :
  wpAny (model prog w) A (getMethod (.ref x) name pl) Q E s:=by
 obtain ⟨od,J,hl⟩:=I.look
 exact PySem.W.method_fn X J (PySem.W.plainGet_of hg).1 (PySem.W.plainGet_of hg).2 hf (beq_iff_eq.mp ht) (by show (PySem.W.lookIn name od).map (·.isSome)=some false;rw [hl,hv];rfl) h

theorem set_map {ns:List Str}{Q:Unit->Shared->Prop} (X:K.In s.heap) (I:ObjM s.heap x dx C mA)
  (hs:PySem.W.findIn K (.ref C) "__setattr__"=some (some (.builtin "object.__setattr__"))) (hp:PySem.W.plainOver K C=true) (ht:PySem.W.takerIn K C name=some none) (hh:PySem.W.hasDictIn K C=true)
  (hw:PySem.Within mA ns) (hsz:ns.length<=sizeLine)
  (h:∀ h',ObjM h' x dx C (fun y=>if y=name then some v else mA y)->Heap.SameBut dx s.heap h'->Q () { s with heap:=h',toks:=s.toks + 2 }) :
  wpAny (model prog w) A (setAttr (.ref x) name v) Q E s:=by
 obtain ⟨od,J,hl⟩:=I.look
 refine PySem.W.set_plain X J hs (PySem.W.osa_open (s:={ s with toks:=s.toks + 1 }) (r:=none) X J hp ht fun b=>?_)
 obtain ⟨cd,hc,hd'⟩:=PySem.W.any_some hh
 have hx:s.heap.get? x=some ⟨.ref C,some dx,.plain,#[]⟩:=I.obj
 refine wpAny_bind (wpAny_pure (wpAny_bind (wpAny_bind (wpAny_loadPart hx (wpAny_bind (PySem.W.Looks.here (s:={ s with toks:=s.toks + 1 }) (PySem.W.looks_clsIn X hc) ?_))))))
 rw [hd']
 refine wpAny_pure (a:=some dx) (wpAny_bind (wpAny_pure (wpAny_bind ?_)))
 refine wpAny_nsSet1 (s:={ s with toks:=s.toks + 1 }) I.ns fun h' hn2 hs2=>?_
 obtain ⟨oD,esD,epD,hoD,hdD,hcD⟩:=hn2.count (PySem.Within.cons name v hw)
 refine wpAny_bind (wpAny_lookBehind hoD (by rw [hdD];exact pastItsLine_dict (Nat.le_trans hcD (by rw [List.length_cons];omega))) ?_)
 exact wpAny_pure (h _ ⟨(hs2.2 _ (Ne.symm I.ne)).trans I.obj,hn2,I.ne⟩ hs2)

theorem make_map {R:Result->Shared->Prop}{vs:List Value}{kw:List (Str × Value)} (X:K.In s.heap) (hm:PySem.W.makesIn K C=true)
  (hi:PySem.W.findIn K (.ref C) "__init__"=some (some (.ref f))) (hf:PySem.W.typeIn K (.ref f)=some (.type "function"))
  (h:codeAny (model prog w) (A.under (.builtin "type.__call__" ⟨.ref C::vs,kw⟩)) (.call (.ref f) ⟨.ref (s.heap.objs.size + 1)::vs,kw⟩) (PySem.W.InitBack (s.heap.objs.size + 1) R)
   { s with heap:=(s.heap.push PySem.W.emptyDict).push (PySem.W.instObj C s.heap.objs.size) }) :
  codeAny (model prog w) A (.call (.ref C) ⟨vs,kw⟩) R s:=by
 obtain ⟨hh,g,d,t,os⟩:=s
 exact PySem.W.make_core (PySem.W.makes_of X hm) (PySem.W.looks_findIn X hi) (fun self=>PySem.W.bind_fn X self hf) (.inl rfl) h
end

def putF (f:Str) (v:V):List (Str × V)->List (Str × V)
 | []=>[(f,v)]
 | (g,x)::r=>if g=f then (g,v)::r else (g,x)::putF f v r
theorem lookup_putF (f g:Str) (v:V):∀ fs:List (Str × V),(putF f v fs).lookup g=if g=f then some v else fs.lookup g
 | []=>by
  show List.lookup g [(f,v)]=_
  by_cases h:g=f
  ·have hb:(g == f)=true:=beq_iff_eq.mpr h
   simp only [List.lookup,hb,if_pos h]
  ·have hb:(g == f)=false:=beq_eq_false_iff_ne.mpr h
   simp only [List.lookup,hb,if_neg h]
 | (k,x)::r=>by
  have ih:=lookup_putF f g v r
  rw [show putF f v ((k,x)::r)=(if k=f then (k,v)::r else (k,x)::putF f v r) from rfl]
  by_cases hk:k=f
  ·rw [if_pos hk]
   by_cases h:g=k
   ·have hb:(g == k)=true:=beq_iff_eq.mpr h
    simp only [List.lookup,hb,if_pos (h.trans hk)]
   ·have hb:(g == k)=false:=beq_eq_false_iff_ne.mpr h
    simp only [List.lookup,hb,if_neg (fun e:g=f=>h (e.trans hk.symm))]
  ·rw [if_neg hk]
   by_cases h:g=k
   ·have hb:(g == k)=true:=beq_iff_eq.mpr h
    simp only [List.lookup,hb,if_neg (fun e:g=f=>hk (h.symm.trans e))]
   ·have hb:(g == k)=false:=beq_eq_false_iff_ne.mpr h
    simp only [List.lookup,hb]
    exact ih
theorem keys_putF (f:Str) (v:V):∀ fs:List (Str × V),f∈(putF f v fs).map (·.1)/\∀ g,g∈fs.map (·.1)->g∈(putF f v fs).map (·.1)
 | []=>⟨by simp [putF],fun g h=>by simp at h⟩
 | (k,x)::r=>by
  obtain ⟨i1,i2⟩:=keys_putF f v r
  rw [show putF f v ((k,x)::r)=(if k=f then (k,v)::r else (k,x)::putF f v r) from rfl]
  by_cases hk:k=f
  ·rw [if_pos hk]
   subst hk
   exact ⟨by simp,fun g h=>by simpa using h⟩
  ·rw [if_neg hk]
   refine ⟨?_,fun g h=>?_⟩
   ·rw [List.map_cons]
    exact List.mem_cons_of_mem _ i1
   ·rw [List.map_cons] at h ⊢
    rcases List.mem_cons.mp h with e | e
    ·exact List.mem_cons.mpr (.inl e)
    ·exact List.mem_cons_of_mem _ (i2 g e)
theorem length_putF (f:Str) (v:V):∀ fs:List (Str × V),(putF f v fs).length<=fs.length + 1
 | []=>by simp [putF]
 | (k,x)::r=>by
  have ih:=length_putF f v r
  rw [show putF f v ((k,x)::r)=(if k=f then (k,v)::r else (k,x)::putF f v r) from rfl]
  by_cases hk:k=f
  ·rw [if_pos hk,List.length_cons,List.length_cons];omega
  ·rw [if_neg hk,List.length_cons,List.length_cons];omega

theorem RelO.some_of {v:V}{o:Option Value} (r:RelO (some v) o):∃ u,o=some u/\RelV v u:=by
 cases o with
 | none=>exact (show False from r).elim
 | some u=>exact ⟨u,rfl,r⟩
theorem RelO.none_of {o:Option Value} (r:RelO none o):o=none:=by
 cases o with
 | none=>rfl
 | some u=>exact (show False from r).elim
theorem handed_of {v:V}{u:Value} (r:RelV v u):PySem.W.handedIn u=true:=by
 cases v with
 | non=>cases (show u=Value.none from r);rfl
 | bl b=>cases (show u=Value.bool b from r);rfl
 | int i=>obtain ⟨t,e⟩:=(show ∃ t,u=Value.int i t from r);cases e;rfl
 | str x=>obtain ⟨t,e⟩:=(show ∃ t,u=Value.str x t from r);cases e;rfl
 | byt b=>obtain ⟨t,e⟩:=(show ∃ t,u=Value.bytes b t from r);cases e;rfl
 | flt b=>obtain ⟨t,e⟩:=(show ∃ t,u=Value.float b t from r);cases e;rfl
 | ref a=>cases (show u=Value.ref a from r);rfl
 | ty n=>cases (show u=Value.type n from r);rfl

section
variable {P:Program}{w:World}{H H':Hp}{h h':Heap}{a C dx:Addr}{fs fs':List (Str × V)}
theorem ins_get (hok:HOk P w H h) (e:H a=some (.ins C dx fs)):∃ mA,ObjM h a dx C mA/\(∀ f,RelO (fs.lookup f) (mA f))/\PySem.Within mA (fs.map (·.1))/\fs.length<=1000/\H dx=some (.own a):=by
 obtain ⟨d,z,ne,ob,mA,n,r,q⟩:=(show ObjOk P w H h a (.ins C dx fs) from hok a _ e)
 exact ⟨mA,⟨ob,n,ne⟩,r,q,z,d⟩
end

structure Cls (K:PySem.W.Frag) (C:Addr):Prop where
 pg:PySem.W.plainGet K C Str.empty=true
 hd:PySem.W.hasDictIn K C=true
 po:PySem.W.plainOver K C=true
 sa:PySem.W.findIn K (.ref C) "__setattr__"=some (some (.builtin "object.__setattr__"))
theorem Cls.get {K:PySem.W.Frag}{C:Addr} (c:Cls K C) (f:Str):PySem.W.plainGet K C f=true:=c.pg
def NoAttr (K:PySem.W.Frag) (C:Addr) (f:Str):Prop:=PySem.W.findIn K (.ref C) f=some none
theorem NoAttr.taker {K:PySem.W.Frag}{C:Addr}{f:Str} (n:NoAttr K C f):PySem.W.takerIn K C f=some none:=by
 unfold PySem.W.takerIn
 rw [show PySem.W.findIn K (.ref C) f=some none from n]
 rfl
structure Meth (K:PySem.W.Frag) (C:Addr) (m:Str) (f:Addr):Prop where
 at_:PySem.W.findIn K (.ref C) m=some (some (.ref f))
 fn:PySem.W.isFn K (.ref f)=true
 kp:PySem.W.keepIn K (.ref f)=true

section
variable {X:Cx}{pins:List (Addr × Obj)}{σ:St}{H:Hp}{s:Shared}{a C dx:Addr}{fs:List (Str × V)}{f:Str}{v:V}{A:Around}{E:Value->Shared->Prop}

theorem getattr_ok {b:Bool}{Q:Value->Shared->Prop} (I:Inv X pins σ H s) (e:H a=some (.ins C dx fs)) (c:Cls X.K C) (n:NoAttr X.K C f) (l:fs.lookup f=some v)
  (h:∀ u s',Inv X pins σ H s'->RelV v u->Q u s'):wpAny (model X.prog X.w) A (getAttr (.ref a) f b) Q E s:=by
 obtain ⟨mA,O,r,_,_,_⟩:=ins_get I.hok e
 obtain ⟨u,hu,ru⟩:=RelO.some_of (v:=v) (o:=mA f) (by rw [← l];exact r f)
 exact get_map I.kIn O (c.get f) c.hd n hu (handed_of ru) (h u _ (I.tok _) ru)

theorem getmeth_ok {m:Str}{g:Addr}{pl:Sem Bool}{Q:Value × List Value->Shared->Prop} (I:Inv X pins σ H s) (e:H a=some (.ins C dx fs)) (c:Cls X.K C) (k:Meth X.K C m g) (l:fs.lookup m=none)
  (h:Q (.ref g,[.ref a]) s):wpAny (model X.prog X.w) A (getMethod (.ref a) m pl) Q E s:=by
 obtain ⟨mA,O,r,_,_,_⟩:=ins_get I.hok e
 have hn:mA m=none:=RelO.none_of (by rw [← l];exact r m)
 exact get_meth I.kIn O (c.get m) k.at_ k.fn hn h

theorem setattr_ok {y:V}{u:Value}{Q:Unit->Shared->Prop} (I:Inv X pins σ H s) (e:H a=some (.ins C dx fs)) (c:Cls X.K C) (n:NoAttr X.K C f) (hl:fs.length < 1000) (ry:RelV y u)
  (h:∀ s',Inv X pins σ (upd H a (.ins C dx (putF f y fs))) s'->Q () s'):wpAny (model X.prog X.w) A (setAttr (.ref a) f u) Q E s:=by
 obtain ⟨mA,O,r,wi,_,ho⟩:=ins_get I.hok e
 have hz:(fs.map (·.1)).length<=sizeLine:=by rw [List.length_map,sizeLine_eq];omega
 refine set_map I.kIn O c.sa c.po n.taker c.hd wi hz fun h' O' sb=>h _ ?_
 have hd:∃ o,h'.get? dx=some o:=let ⟨o,_,_,e',_⟩:=O'.ns;⟨o,e'⟩
 refine I.write (x:=a) (e:=dx) (by rw [e];exact True.intro) (.inr ho) (fun b q hb z=>(sb.2 b hb).trans z) hd ?_
 refine ⟨by rw [upd_ne O.ne];exact ho,?_,O.ne,O'.obj,_,O'.ns,fun g=>?_,fun g hg=>?_⟩
 ·have:=length_putF f y fs;omega
 ·show RelO ((putF f y fs).lookup g) (if g=f then some u else mA g)
  rw [lookup_putF]
  by_cases q:g=f
  ·rw [if_pos q,if_pos q];exact ry
  ·rw [if_neg q,if_neg q];exact r g
 ·by_cases q:g=f
  ·rw [q];exact (keys_putF f y fs).1
  ·refine (keys_putF f y fs).2 g (wi g fun z=>hg ?_)
   show (if g=f then some u else mA g)=none
   rw [if_neg q];exact z

theorem Inv.made (I:Inv X pins σ H s):Inv X pins σ (upd (upd H s.heap.objs.size (.own (s.heap.objs.size + 1))) (s.heap.objs.size + 1) (.ins C s.heap.objs.size []))
  { s with heap:=(s.heap.push PySem.W.emptyDict).push (PySem.W.instObj C s.heap.objs.size) }:=by
 have e1:(s.heap.push PySem.W.emptyDict).get? s.heap.objs.size=some PySem.W.emptyDict:=Heap.get?_push_size s.heap rfl
 have e2:((s.heap.push PySem.W.emptyDict).push (PySem.W.instObj C s.heap.objs.size)).get? (s.heap.objs.size + 1)=some (PySem.W.instObj C s.heap.objs.size):=by
  have:=Heap.get?_push_size (s.heap.push PySem.W.emptyDict) (o:=PySem.W.instObj C s.heap.objs.size) rfl
  rwa [Heap.size_push] at this
 have e3:(s.heap.push PySem.W.emptyDict).Ns s.heap.objs.size (fun _=>none):=⟨PySem.W.emptyDict,#[],_,e1,rfl,(fun e he=>absurd he (by simp)),fun _=>rfl⟩
 have I1:=I.laid (a:=s.heap.objs.size) (o:=.own (s.heap.objs.size + 1)) (h':=s.heap.push PySem.W.emptyDict) (t':=s.toks) (fun b u q=>Heap.get?_push_of_some _ q) (Nat.le_refl _) ⟨_,e1⟩
 refine I1.laid (a:=s.heap.objs.size + 1) (o:=.ins C s.heap.objs.size []) (t':=s.toks) (fun b u q=>Heap.get?_push_of_some _ q) (Nat.le_of_eq (Heap.size_push _ _)) ?_
 have ne:s.heap.objs.size≠s.heap.objs.size + 1:=Nat.ne_of_lt (Nat.lt_succ_self _)
 refine ⟨by rw [upd_ne ne,upd_same],Nat.zero_le _,ne,e2,fun _=>none,(Heap.Ns1.of_empty e3).at fun o q=>Heap.get?_push_of_some _ q,fun _=>True.intro,fun y hy=>absurd rfl hy⟩

theorem attr_of {prog:Program}{w:World}{env:Env}{e:Expr}{f:Str}{pos:Pos}{s:Shared}{Q:Value->Shared->Prop} (hb:attributeBase e f env (eval e env)=eval e env)
  (h:wpAny (model prog w) A (eval e env) (fun o s₁=>wpAny (model prog w) A (getAttr o f true) Q E s₁) E s):wpAny (model prog w) A (eval (.Attribute e f pos) env) Q E s :=
 Attribute_any_ h (by rw [arm_eval_Attribute,hb])
end

def tFld (K:PySem.W.Frag) (ta:TE) (f:Str):TE:=fun σ H Q=>ta σ H fun x H1=>∃ a C dx fs v,x=.ref a/\H1 a=some (.ins C dx fs)/\Cls K C/\NoAttr K C f/\fs.lookup f=some v/\Q v H1
def sFld (K:PySem.W.Frag) (ta tv:TE) (f:Str):TS:=fun D σ H=>tv σ H fun y H1=>ta σ H1 fun x H2=>∃ a C dx fs,x=.ref a/\H2 a=some (.ins C dx fs)/\Cls K C/\NoAttr K C f/\fs.length < 1000 ∧
 D.nx σ (upd H2 a (.ins C dx (putF f y fs)))
section
variable {X:Cx}{o e value:Expr}{f:Str}{pos pos' tpos:Pos}{ta tv:TE}
theorem pe_fld (he:PE X e ta) (hb:attributeBase e f X.env (eval e X.env)=eval e X.env):PE X (.Attribute e f pos) (tFld X.K ta f):=by
 intro pins s σ H Q I h
 refine attr_of hb (thn (he pins s σ H _ I h) fun u s1 ⟨x,H1,I1,rx,a,C,dx,fs,v,ex,ea,c,n,l,q⟩=>?_)
 subst ex
 obtain rfl:u=Value.ref a:=rx
 exact getattr_ok I1 ea c n l fun u' s2 I2 ru=>⟨v,H1,I2,ru,q⟩
theorem ps_fld (ha:PE X o ta) (hv:PE X value tv) (hs:swapsWith value (some (.Attribute o f pos')) pos.line X.env=pure false):PS X (.Assign [.Attribute o f pos'] value pos) (sFld X.K ta tv f):=by
 intro pins s σ H D I h
 refine plainObj_wpAny_Assign_Attribute (thn (hv pins s σ H _ I h) fun u s1 ⟨y,H1,I1,ry,q⟩=>thn (ha pins s1 σ H1 _ I1 q) fun ov s2 ⟨x,H2,I2,rx,a,C,dx,fs,ex,ea,c,n,l,q2⟩=>?_) hs
 subst ex
 obtain rfl:ov=Value.ref a:=rx
 exact setattr_ok I2 ea c n l ry fun s3 I3=>⟨σ,_,I3,q2⟩
end

section
variable {X:Cx}{pins:List (Addr × Obj)}{σ:St}{H:Hp}{s:Shared}{A:Around}{E:Value->Shared->Prop}{Q:Value->Shared->Prop}{c:Value}{b:Bool}
inductive TyOf (K:PySem.W.Frag) (H:Hp):V->Value->Prop where
 | non:TyOf K H .non (.type "NoneType")
 | bl (x:Bool):TyOf K H (.bl x) (.type "bool")
 | int (i:Int):TyOf K H (.int i) (.type "int")
 | str (x:Str):TyOf K H (.str x) (.type "str")
 | flt (x:UInt64):TyOf K H (.flt x) (.type "float")
 | lst {a:Addr}{xs:List V} (e:H a=some (.lst xs)):TyOf K H (.ref a) (.type "list")
 | frz {a:Addr}{o:Obj}{xs:List V} (e:H a=some (.frz o (.lst xs))):TyOf K H (.ref a) (.type "list")
 | tup {a:Addr}{xs:List V} (e:H a=some (.tup xs)):TyOf K H (.ref a) (.type "tuple")
 | dK {a:Addr}{kvs:List (Key × V)} (e:H a=some (.dK kvs)):TyOf K H (.ref a) (.type "dict")
 | dT {a:Addr}{kvs:List (List Key × V)} (e:H a=some (.dT kvs)):TyOf K H (.ref a) (.type "dict")
 | ins {a C dx:Addr}{fs:List (Str × V)} (e:H a=some (.ins C dx fs)) (cl:Cls K C) (ha:PySem.W.findIn K (.ref C) "__class__"=some (some (.builtin "object.__class__")))
   (hn:PySem.W.specialIn K (.builtin "object.__class__") "__get__"=some (some (.builtin "getset_descriptor.__get__"))) (htk:PySem.W.takesIn K (.builtin "object.__class__")=some true)
   (hm:PySem.W.mroIn K C (.type "object")=some true):TyOf K H (.ref a) (.ref C)
theorem isinst_ok {x:V}{u t:Value} (I:Inv X pins σ H s) (rx:RelV x u) (ty:TyOf X.K H x t) (e:PySem.W.kitOne X.K t c=some b) (h:∀ tk,Q (.bool b) { s with toks:=tk }) :
  wpAny (model X.prog X.w) A (call (.builtin "isinstance") [u,c]) Q E s:=by
 cases ty with
 | non=>cases (show u=Value.none from rx);exact PySem.W.kia_one PySem.W.kitx_none I.kIn True.intro e (fun z=>nomatch z) h
 | bl y=>cases (show u=Value.bool y from rx);exact PySem.W.kia_one PySem.W.kitx_bool I.kIn True.intro e (fun z=>nomatch z) h
 | int i=>obtain ⟨t,q⟩:=(show ∃ t,u=Value.int i t from rx);cases q;exact PySem.W.kia_one PySem.W.kitx_int I.kIn True.intro e (fun z=>nomatch z) h
 | str y=>obtain ⟨t,q⟩:=(show ∃ t,u=Value.str y t from rx);cases q;exact PySem.W.kia_one PySem.W.kitx_str I.kIn True.intro e (fun z=>nomatch z) h
 | flt y=>obtain ⟨t,q⟩:=(show ∃ t,u=Value.float y t from rx);cases q;exact PySem.W.kia_one PySem.W.kitx_float I.kIn True.intro e (fun z=>nomatch z) h
 | @lst a xs ea =>
  cases (show u=Value.ref a from rx)
  obtain ⟨_,_,n,_,h1⟩:=(show ObjOk X.prog X.w H s.heap a (.lst xs) from I.hok a _ ea)
  exact PySem.W.kia_one PySem.W.kitx_list I.kIn ⟨_,h1,rfl⟩ e (fun z=>nomatch z) h
 | @frz a ob xs ea =>
  cases (show u=Value.ref a from rx)
  obtain ⟨_,_,_,n,_,h1⟩:=(show ObjOk X.prog X.w H s.heap a (.frz ob (.lst xs)) from I.hok a _ ea)
  exact PySem.W.kia_one PySem.W.kitx_list I.kIn ⟨_,h1,rfl⟩ e (fun z=>nomatch z) h
 | @tup a xs ea =>
  cases (show u=Value.ref a from rx)
  obtain ⟨_,_,_,p⟩:=(show ObjOk X.prog X.w H s.heap a (.tup xs) from I.hok a _ ea)
  obtain ⟨o,h1,h2,_⟩:=p
  exact PySem.W.kia_one PySem.W.kitx_tuple I.kIn ⟨o,h1,h2⟩ e (fun z=>nomatch z) h
 | @dK a kvs ea =>
  cases (show u=Value.ref a from rx)
  obtain ⟨_,_,vs,_,p⟩:=(show ObjOk X.prog X.w H s.heap a (.dK kvs) from I.hok a _ ea)
  obtain ⟨o,es,ep,h1,h2,_⟩:=p
  exact PySem.W.kia_one PySem.W.kitx_dict I.kIn ⟨o,h1,h2.1⟩ e (fun z=>nomatch z) h
 | @dT a kvs ea =>
  cases (show u=Value.ref a from rx)
  obtain ⟨_,_,xs,_,o,es,ep,h1,h2,_⟩:=(show ObjOk X.prog X.w H s.heap a (.dT kvs) from I.hok a _ ea)
  exact PySem.W.kia_one PySem.W.kitx_dict I.kIn ⟨o,h1,h2.1⟩ e (fun z=>nomatch z) h
 | @ins a C dx fs ea cl ha hn htk hm =>
  cases (show u=Value.ref a from rx)
  obtain ⟨mA,O,_⟩:=ins_get I.hok ea
  obtain ⟨od,J,_⟩:=O.look
  exact PySem.W.kia_one (PySem.W.kitx_own (cl.get _) cl.hd ha hn htk hm) I.kIn J e (fun z=>nomatch z) h
end
end L2

namespace L2
open PySem PySem.Spec PyProof.Rows

structure Room (k:Nat) (A:Around):Prop where
 hd:A.handled=none
 dp:A.depth + 3 * k + 5 < recursionLimit
 un:A.units + 16 * k + 200 < cLine
theorem Room.mono {j k:Nat}{A:Around} (r:Room k A) (h:j<=k):Room j A:=⟨r.hd,by have:=r.dp;omega,by have:=r.un;omega⟩
theorem Room.deeper {k:Nat}{A:Around} (r:Room (k + 1) A) (env:Env):Room k (A.deeper env) :=
 ⟨r.hd,by have:=r.dp;show A.depth + 1 + 3 * k + 5 < _;omega,by have:=r.un;show A.units + 3 + 16 * k + 200 < _;omega⟩
theorem Room.in1 {k:Nat}{A:Around} (r:Room (k + 1) A):Room k A.in1 :=
 ⟨r.hd,by have:=r.dp;show A.depth + 3 * k + 5 < _;omega,by have:=r.un;show A.units + 1 + 16 * k + 200 < _;omega⟩
theorem make_depth {A:Around}{C:Addr}{us:List Value}{kw:List (Str × Value)}:(A.under (.builtin "type.__call__" ⟨.ref C::us,kw⟩)).depth=A.depth + 1:=by
 first | rfl | simp [Around.under,Code.weight,Code.isCreation,Code.isGuard,Code.isCaller,Code.frames,Code.isFrame,guardIds]
theorem make_units {A:Around}{C:Addr}{us:List Value}{kw:List (Str × Value)}:(A.under (.builtin "type.__call__" ⟨.ref C::us,kw⟩)).units=A.units + 1:=by
 first | rfl | simp [Around.under,Code.cUnits,Code.frames,Code.isFrame]
theorem Room.make {k:Nat}{A:Around} (r:Room (k + 1) A) (C:Addr) (us:List Value) (kw:List (Str × Value)):Room k (A.under (.builtin "type.__call__" ⟨.ref C::us,kw⟩)) :=
 ⟨r.hd,by have:=r.dp;rw [make_depth];omega,by have:=r.un;rw [make_units];omega⟩
theorem Room.depth {k:Nat}{A:Around} (r:Room k A):A.depth < recursionLimit:=by have:=r.dp;omega
theorem Room.units {k:Nat}{A:Around} (r:Room k A):A.units + 64 < cLine:=by have:=r.un;omega
theorem Room.units0 {k:Nat}{A:Around} (r:Room k A):A.units < cLine:=by have:=r.un;omega

def tNil:TA:=fun _ H Q=>Q [] H
def tCons (ta:TE) (tr:TA):TA:=fun σ H Q=>ta σ H fun x H1=>tr σ H1 fun xs H2=>Q (x::xs) H2
section
variable {X:Cx}{e:Expr}{es:List Expr}{te:TE}{t:TA}{pos:Pos}
theorem pa_nil:PA X [] tNil:=fun _ _ _ _ H Q I h=>Calls.spliced_nil ⟨[],H,I,.nil,h⟩
theorem pa_cons (ha:PE X e te) (hr:PA X es t) (hs:starEach (e::es) X.env=(false,eval e X.env)::starEach es X.env:=by rfl):PA X (e::es) (tCons te t):=by
 intro pos pins s σ H Q I h
 rw [hs]
 show wpAny _ _ (spliced ((false,eval e X.env)::backTo pos (starEach es X.env))) _ _ s
 refine Calls.spliced_cons (thn (ha pins s σ H _ I h) fun u s1 ⟨x,H1,I1,r1,q1⟩=>?_)
 exact thn (hr pos pins s1 σ H1 _ I1 q1) fun us s2 ⟨xs,H2,I2,r2,q2⟩=>⟨x::xs,H2,I2,.cons r1 r2,q2⟩

end

abbrev Sp:=List V->Hp->VK->XK->Prop
abbrev CXT:=List Env->Hp->Shared->XK->Value->Shared->Prop

structure Env0 (P:Program) (w:World) (K:PySem.W.Frag) (mg:Str->Option Value) (base:Heap) (A:Around) (outer:List Env) (s:Shared) (H:Hp):Prop where
 frames:A.frames=some outer
 mod:Mod K mg base
 bs:∀ b o,base.get? b=some o->s.heap.get? b=some o/\H b=none
 bsz:base.objs.size<=s.heap.objs.size
 funs:s.heap.FunFrames base outer
 frf:∀ b∈frs outer,H b=none
 hok:HOk P w H s.heap
 bare:AllBare s.gens
def CE (outer:List Env) (P:Program) (w:World) (H:Hp) (s:Shared) (Q:VK) (u:Value) (s':Shared):Prop :=
 ∃ v H',s'.os=s.os/\AllBare s'.gens/\Un (frs outer) [] H H' s.heap s'.heap/\HOk P w H' s'.heap/\RelV v u/\Q v H'
def CR (CX:CXT) (outer:List Env) (P:Program) (w:World) (H:Hp) (s:Shared) (Q:VK) (E:XK) (r:Result) (s':Shared):Prop :=
 match r with
 | .ok (.ret u)=>CE outer P w H s Q u s'
 | .ok _=>False
 | .error e=>CX outer H s E e s'
structure FnOk (P:Program) (w:World) (K:PySem.W.Frag) (mg:Str->Option Value) (base:Heap) (CX:CXT) (k:Nat) (f:Addr) (fd:FuncData) (ps:List Str) (sp:Sp):Prop where
 len:∀ vs H Q E,sp vs H Q E->vs.length=ps.length
 run:∀ (A:Around) (outer:List Env) (s:Shared) (H:Hp) (args:Args) (us:List Value) (vs:List V) (Q:VK) (E:XK),Room k A->Env0 P w K mg base A outer s H->BindsTo s fd args (ps.zip us)->Vals vs us->sp vs H Q E →
  codeAny (model P w) A (.call (.ref f) args) (CR CX outer P w H s Q E) s
theorem FnOk.mono {P:Program}{w:World}{K:PySem.W.Frag}{mg:Str->Option Value}{base:Heap}{CX:CXT}{j k:Nat}{f:Addr}{fd:FuncData}{ps:List Str}{sp:Sp} (F:FnOk P w K mg base CX j f fd ps sp) (h:j<=k) :
  FnOk P w K mg base CX k f fd ps sp:=⟨F.len,fun A outer s H args us vs Q E hr=>F.run A outer s H args us vs Q E (hr.mono h)⟩
theorem FnOk.imp {P:Program}{w:World}{K:PySem.W.Frag}{mg:Str->Option Value}{base:Heap}{CX:CXT}{k:Nat}{f:Addr}{fd:FuncData}{ps:List Str}{sp sp':Sp} (F:FnOk P w K mg base CX k f fd ps sp)
  (h:∀ vs H Q E,sp' vs H Q E->sp vs H Q E):FnOk P w K mg base CX k f fd ps sp' :=
 ⟨fun vs H Q E q=>F.len vs H Q E (h _ _ _ _ q),fun A outer s H args us vs Q E hr he hb hv hs=>F.run A outer s H args us vs Q E hr he hb hv (h _ _ _ _ hs)⟩

theorem Env0.make {P:Program}{w:World}{K:PySem.W.Frag}{mg:Str->Option Value}{base:Heap}{A:Around}{outer:List Env}{s:Shared}{H:Hp} (e:Env0 P w K mg base A outer s H) (C:Addr) (us:List Value) (kw:List (Str × Value)) :
  Env0 P w K mg base (A.under (.builtin "type.__call__" ⟨.ref C::us,kw⟩)) outer s H:=⟨by first | exact e.frames | (simpa [Around.under,Code.envs,Code.isFrame,pushEnvs] using e.frames),e.mod,e.bs,e.bsz,e.funs,e.frf,e.hok,e.bare⟩
theorem Env0.in1 {P:Program}{w:World}{K:PySem.W.Frag}{mg:Str->Option Value}{base:Heap}{A:Around}{outer:List Env}{s:Shared}{H:Hp} (e:Env0 P w K mg base A outer s H) :
  Env0 P w K mg base A.in1 outer s H:=⟨e.frames,e.mod,e.bs,e.bsz,e.funs,e.frf,e.hok,e.bare⟩

section
variable {X:Cx}{pins:List (Addr × Obj)}{σ:St}{H:Hp}{s s':Shared}
theorem Inv.env0 (I:Inv X pins σ H s):Env0 X.prog X.w X.K X.mg X.base X.A X.stack s H :=
 ⟨I.ok.frames,I.ok.mod,I.bs,Nat.le_trans I.ok.bsz I.sz,I.stack,I.stkFree,I.hok,I.bare⟩
theorem Inv.after {Q:VK}{u:Value} (I:Inv X pins σ H s) (h:CE X.stack X.prog X.w H s Q u s'):EP X pins σ Q u s':=by
 obtain ⟨v,H',os,bare,un,hok,r,q⟩:=h
 obtain ⟨hh,g,d,t,os'⟩:=s'
 obtain rfl:os'=s.os:=os
 exact ⟨v,H',I.call (h':=hh) (g':=g) (d':=d) (t':=t) (ch:=[]) un hok bare (fun b z=>absurd z (by simp)),r,q⟩
end

def tCall (sp:Sp) (dvs:List V) (E:St->XK) (t:TA):TE:=fun σ H Q=>t σ H fun vs H1=>sp (vs++dvs) H1 Q (E σ)
def tMeth (C:Addr) (m:Str) (sp:Sp) (dvs:List V) (E:St->XK) (ta:TE) (t:TA):TE:=fun σ H Q=>ta σ H fun x H1=>∃ a dx fs,x=.ref a/\H1 a=some (.ins C dx fs)/\fs.lookup m=none ∧
 t σ H1 fun vs H2=>sp (x::(vs++dvs)) H2 Q (E σ)
def tMake (C:Addr) (sp:Sp) (dvs:List V) (E:St->XK) (t:TA):TE:=fun σ H Q=>t σ H fun vs H1=>∀ x dx,H1 x=none->H1 dx=none->dx≠x →
 sp (.ref x::(vs++dvs)) (upd (upd H1 dx (.own x)) x (.ins C dx [])) (fun v H2=>v=.non/\Q (.ref x) H2) (E σ)

def Binds (K:PySem.W.Frag) (fd:FuncData) (ps:List Str) (ds:List Value):Prop :=
 ∀ (s:Shared) (us:List Value),K.In s.heap->(us++ds).length=ps.length->BindsTo s fd ⟨us,[]⟩ (ps.zip (us++ds))
theorem Binds.all {K:PySem.W.Frag}{fd:FuncData}{ps:List Str} (h:∀ us:List Value,us.length=ps.length->bindArgs fd ⟨us,[]⟩=pure (ps.zip us)):Binds K fd ps []:=fun s us _ hl=>by
 rw [List.append_nil] at hl ⊢
 exact .of_eq (h us hl)

def Passes (CX:CXT) (X:Cx) (E:St->XK):Prop:=∀ (pins:List (Addr × Obj)) (σ:St) (H:Hp) (s:Shared) (e:Value) (s':Shared),Inv X pins σ H s->CX X.stack H s (E σ) e s'->X.xe e s'

section
variable {X:Cx}{CX:CXT}{k:Nat}{f C:Addr}{fd:FuncData}{ps:List Str}{sp:Sp}{dvs:List V}{ds:List Value}{E:St->XK}{x m:Str}{p pos apos:Pos}{e o:Expr}{es:List Expr}{ta:TE}{t:TA}

theorem run_fn {pins:List (Addr × Obj)}{σ:St}{H:Hp}{s:Shared}{Q:VK}{us:List Value}{vs:List V} (F:FnOk X.prog X.w X.K X.mg X.base CX k f fd ps sp) (hr:Room k X.A) (hb:Binds X.K fd ps ds) (hd:Vals dvs ds) (hx:Passes CX X E)
  (I:Inv X pins σ H s) (r:Vals vs us) (h:sp (vs++dvs) H Q (E σ)):wpAny (model X.prog X.w) X.A (call (.ref f) us) (EP X pins σ Q) X.xe s:=by
 have r2:Vals (vs++dvs) (us++ds):=r.append hd
 have hl:(us++ds).length=ps.length:=by rw [← r2.length];exact F.len _ _ _ _ h
 refine wpAny_call (codeAny_mono (F.run X.A X.stack s H ⟨us,[]⟩ (us++ds) (vs++dvs) Q (E σ) hr I.env0 (hb s us I.kIn hl) r2 h) fun r s' hq=>?_)
 cases r with
 | error e=>exact hx pins σ H s e s' I hq
 | ok fl =>
  cases fl with
  | ret u=>exact I.after hq
  | next=>exact False.elim hq
  | brk=>exact False.elim hq
  | cont=>exact False.elim hq

theorem pe_call (F:FnOk X.prog X.w X.K X.mg X.base CX k f fd ps sp) (hr:Room k X.A) (hg:Gl X x) (hm:X.mg x=some (.ref f)) (hk:PySem.W.keepIn X.K (.ref f)=true) (hb:Binds X.K fd ps ds) (hd:Vals dvs ds) (hx:Passes CX X E)
  (ha:PA X (e::es) t) (hdb:(x == ("__debug__":Str))=false:=by decide) (he:starEach (e::es) X.env=(false,eval e X.env)::starEach es X.env:=by rfl) (hpl:(backTo pos (starEach es X.env)).any (·.1)=false:=by rfl) :
  PE X (.Call (.Name x p) (e::es) [] pos) (tCall sp dvs E t):=by
 intro pins s σ H Q I h
 refine wpAny_Call_Name_kw (ld_glob I hg hm ?_ hdb)
 refine PySem.W.callWith_K (h₀:=X.base) I.ok.mod.kin hk (thn (ha pos pins s σ H _ I h) fun us s1 ⟨vs,H1,I1,r,q⟩=>⟨I1.kIn,?_⟩) he hpl
 exact run_fn F hr hb hd hx I1 r q
theorem pe_meth {pl:Sem Bool} (he:PE X o ta) (c:Cls X.K C) (hm:Meth X.K C m f) (F:FnOk X.prog X.w X.K X.mg X.base CX k f fd ps sp) (hr:Room k X.A) (hb:Binds X.K fd ps ds) (hd:Vals dvs ds) (hx:Passes CX X E) (ha:PA X (e::es) t)
  (hst:starEach (e::es) X.env=(false,eval e X.env)::starEach es X.env:=by rfl) (hpl:(backTo pos (starEach es X.env)).any (·.1)=false:=by rfl)
  (ht:eval (.Call (.Attribute o m apos) (e::es) [] pos) X.env=(do
   let ov ← eval o X.env
   standAt apos.atName
   let (f,first) ← holding [ov] (getMethod ov m pl)
   callWith pos f first (backTo pos (starEach (e::es) X.env)) (backToKw pos (keywordEach [] X.env))):=by rfl) :
  PE X (.Call (.Attribute o m apos) (e::es) [] pos) (tMeth C m sp dvs E ta t):=by
 intro pins s σ H Q I h
 refine PySem.W.methodCall_KW (pl:=pl) (thn (he pins s σ H _ I h) fun u s1 ⟨x,H1,I1,rx,a,dx,fs,ex,ea,l,q⟩=>?_) ht
 subst ex
 obtain rfl:u=Value.ref a:=rx
 refine getmeth_ok I1 ea c hm l ?_
 refine PySem.W.callWith_K (first:=[.ref a]) (h₀:=X.base) I.ok.mod.kin hm.kp (thn (ha pos pins s1 σ H1 _ I1 q) fun us s2 ⟨vs,H2,I2,r,q2⟩=>⟨I2.kIn,?_⟩) hst hpl
 exact run_fn (us:=.ref a::us) (vs:=.ref a::vs) F hr hb hd hx I2 (.cons rfl r) q2
theorem pe_meth0 {pl:Sem Bool} (he:PE X o ta) (c:Cls X.K C) (hm:Meth X.K C m f) (F:FnOk X.prog X.w X.K X.mg X.base CX k f fd ps sp) (hr:Room k X.A) (hb:Binds X.K fd ps ds) (hd:Vals dvs ds) (hx:Passes CX X E)
  (ht:eval (.Call (.Attribute o m apos) [] [] pos) X.env=(do
   let ov ← eval o X.env
   standAt apos.atName
   let (f,first) ← holding [ov] (getMethod ov m pl)
   callWith pos f first (backTo pos (starEach [] X.env)) (backToKw pos (keywordEach [] X.env))):=by rfl) :
  PE X (.Call (.Attribute o m apos) [] [] pos) (tMeth C m sp dvs E ta tNil):=by
 intro pins s σ H Q I h
 refine PySem.W.methodCall_KW (pl:=pl) (thn (he pins s σ H _ I h) fun u s1 ⟨x,H1,I1,rx,a,dx,fs,ex,ea,l,q⟩=>?_) ht
 subst ex
 obtain rfl:u=Value.ref a:=rx
 refine getmeth_ok I1 ea c hm l ?_
 exact PySem.W.callWith_K0 (first:=[.ref a]) I1.kIn hm.kp (run_fn (us:=[.ref a]) (vs:=[.ref a]) F hr hb hd hx I1 (.cons rfl .nil) q)

structure Mk (K:PySem.W.Frag) (C f:Addr):Prop where
 makes:PySem.W.makesIn K C=true
 init:PySem.W.findIn K (.ref C) "__init__"=some (some (.ref f))
 fn:PySem.W.isFn K (.ref f)=true
 kp:PySem.W.keepIn K (.ref C)=true

theorem run_make {pins:List (Addr × Obj)}{σ:St}{H:Hp}{s:Shared}{Q:VK}{us:List Value}{vs:List V} (M:Mk X.K C f) (F:FnOk X.prog X.w X.K X.mg X.base CX k f fd ps sp) (hr:Room (k + 1) X.A) (hb:Binds X.K fd ps ds) (hd:Vals dvs ds)
  (hx:Passes CX X E) (I:Inv X pins σ H s) (r:Vals vs us)
  (h:∀ x dx,H x=none->H dx=none->dx≠x->sp (.ref x::(vs++dvs)) (upd (upd H dx (.own x)) x (.ins C dx [])) (fun v H2=>v=.non/\Q (.ref x) H2) (E σ)) :
  wpAny (model X.prog X.w) X.A (call (.ref C) us) (EP X pins σ Q) X.xe s:=by
 have hq:=h (s.heap.objs.size + 1) s.heap.objs.size (I.hok.fresh (Nat.le_succ _)) (I.hok.fresh (Nat.le_refl _)) (Nat.ne_of_lt (Nat.lt_succ_self _))
 have I2:=Inv.made (C:=C) I
 have r2:Vals (V.ref (s.heap.objs.size + 1)::(vs++dvs)) (Value.ref (s.heap.objs.size + 1)::(us++ds)):=.cons rfl (r.append hd)
 have hl:(Value.ref (s.heap.objs.size + 1)::us++ds).length=ps.length:=by
  have e:=r2.length
  rw [F.len _ _ _ _ hq] at e
  exact e.symm
 refine wpAny_call (make_map (f:=f) I.kIn M.makes M.init (beq_iff_eq.mp M.fn) (codeAny_mono (F.run _ X.stack _ _ ⟨Value.ref (s.heap.objs.size + 1)::us,[]⟩ (Value.ref (s.heap.objs.size + 1)::(us++ds)) _ _ (E σ) (hr.make C us [])
  (I2.env0.make C us []) (hb _ (Value.ref (s.heap.objs.size + 1)::us) I2.kIn hl) r2 hq) fun r s' hq'=>?_))
 cases r with
 | error e=>exact hx pins σ _ _ e s' I2 hq'
 | ok fl =>
  cases fl with
  | ret u =>
   obtain ⟨v,H',I3,rv,ev,q3⟩:=I2.after hq'
   subst ev
   exact ⟨rv,⟨V.ref (s.heap.objs.size + 1),H',I3,rfl,q3⟩⟩
  | next=>exact False.elim hq'
  | brk=>exact False.elim hq'
  | cont=>exact False.elim hq'
theorem pe_make (M:Mk X.K C f) (F:FnOk X.prog X.w X.K X.mg X.base CX k f fd ps sp) (hr:Room (k + 1) X.A) (hg:Gl X x) (hm:X.mg x=some (.ref C)) (hb:Binds X.K fd ps ds) (hd:Vals dvs ds) (hx:Passes CX X E)
  (ha:PA X (e::es) t) (hdb:(x == ("__debug__":Str))=false:=by decide) (he:starEach (e::es) X.env=(false,eval e X.env)::starEach es X.env:=by rfl) (hpl:(backTo pos (starEach es X.env)).any (·.1)=false:=by rfl) :
  PE X (.Call (.Name x p) (e::es) [] pos) (tMake C sp dvs E t):=by
 intro pins s σ H Q I h
 refine wpAny_Call_Name_kw (ld_glob I hg hm ?_ hdb)
 refine PySem.W.callWith_K (h₀:=X.base) I.ok.mod.kin M.kp (thn (ha pos pins s σ H _ I h) fun us s1 ⟨vs,H1,I1,r,q⟩=>⟨I1.kIn,?_⟩) he hpl
 exact run_make M F hr hb hd hx I1 r q
end

section
variable {X:Cx}{CX:CXT}{k:Nat}{f C:Addr}{fd:FuncData}{ps ks:List Str}{sp:Sp}{E:St->XK}{x m:Str}{p pos apos kpos:Pos}{e o:Expr}{es:List Expr}{kws:List Keyword}{te ta:TE}{t tk:TA}{nm:Option Str}
variable {g:List Value->List Value->List Value}{gV:List V->List V->List V}
end

structure FnScope (N P:List Str) (sc:Scope):Prop where
 kind:sc.kind=.function
 co:sc.isCoroutine=false
 gen:sc.isGenerator=false
 nd:N.Nodup
 pre:N.take P.length=P
 par:∀ x∈P,sc.names.lookup x=some .local ∨ sc.names.lookup x=some .cell
 nofree:∀ y∈sc.names,y.2≠.free

theorem bindL_out {kindOf:Str->Option NameKind}{x:Str}:∀ {binds:List (Str × Value)}{m:Str->Option Value},(∀ v,(x,v) ∉ binds)->bindL kindOf binds m x=m x
 | [],_,_=>rfl
 | (n,v)::r,m,h=>by
  unfold bindL
  rw [bindL_out fun w hw=>h w (List.mem_cons_of_mem _ hw)]
  split
  ·have:x≠n:=by rintro rfl;exact h v List.mem_cons_self
   simp [this]
  ·rfl
theorem bindC_out {kindOf:Str->Option NameKind}{x:Str}:∀ {binds:List (Str × Value)}{m:Str->Option Value},(∀ v,(x,v) ∉ binds)->bindC kindOf binds m x=m x
 | [],_,_=>rfl
 | (n,v)::r,m,h=>by
  unfold bindC
  rw [bindC_out fun w hw=>h w (List.mem_cons_of_mem _ hw)]
  split
  ·rfl
  ·have:x≠n:=by rintro rfl;exact h v List.mem_cons_self
   simp [this]
theorem bindL_get {kindOf:Str->Option NameKind}{x:Str}{v:Value}:∀ {P:List Str}{vs:List Value}{i:Nat}{m:Str->Option Value},P.Nodup->P[i]?=some x->vs[i]?=some v->kindOf x=some .local →
  bindL kindOf (P.zip vs) m x=some v
 | [],_,_,_,_,h,_,_=>by simp at h
 | _::_,[],_,_,_,_,h,_=>by simp at h
 | p::P,w::vs,0,m,nd,h1,h2,hk=>by
  simp at h1 h2;subst h1;subst h2
  show bindL kindOf ((p,w)::P.zip vs) m p=_
  unfold bindL
  rw [bindL_out fun v hv=>(List.nodup_cons.mp nd).1 (List.of_mem_zip hv).1,if_pos hk]
  simp
 | p::P,w::vs,i + 1,m,nd,h1,h2,hk=>by
  show bindL kindOf ((p,w)::P.zip vs) m x=_
  unfold bindL
  exact bindL_get (i:=i) (List.nodup_cons.mp nd).2 (by simpa using h1) (by simpa using h2) hk
theorem bindC_get {kindOf:Str->Option NameKind}{x:Str}{v:Value}:∀ {P:List Str}{vs:List Value}{i:Nat}{m:Str->Option Value},P.Nodup->P[i]?=some x->vs[i]?=some v->kindOf x≠some .local →
  bindC kindOf (P.zip vs) m x=some v
 | [],_,_,_,_,h,_,_=>by simp at h
 | _::_,[],_,_,_,_,h,_=>by simp at h
 | p::P,w::vs,0,m,nd,h1,h2,hk=>by
  simp at h1 h2;subst h1;subst h2
  show bindC kindOf ((p,w)::P.zip vs) m p=_
  unfold bindC
  rw [bindC_out fun v hv=>(List.nodup_cons.mp nd).1 (List.of_mem_zip hv).1,if_neg hk]
  simp
 | p::P,w::vs,i + 1,m,nd,h1,h2,hk=>by
  show bindC kindOf ((p,w)::P.zip vs) m x=_
  unfold bindC
  exact bindC_get (i:=i) (List.nodup_cons.mp nd).2 (by simpa using h1) (by simpa using h2) hk

def start (N:List Str) (vs:List V):St:=vs.map some++List.replicate (N.length - vs.length) none

def cxOf (CX:CXT) (P:Program) (w:World) (K:PySem.W.Frag) (mg:Str->Option Value) (base:Heap) (N:List Str) (qual:Str) (scope:Scope) (f:Addr) (cd:Value) (A:Around) (outer:List Env) (s:Shared) (H:Hp) (E:XK):Cx where
 prog:=P
 w:=w
 K:=K
 mg:=mg
 base:=base
 A:=A.deeper (envOfC qual scope s.heap.objs.size f cd)
 N:=N
 s₀:=s
 H₀:=H
 env:=envOfC qual scope s.heap.objs.size f cd
 outer:=outer
 stack:=envOfC qual scope s.heap.objs.size f cd::outer
 ex:=[]
 calm:=true
 fn:=fun _=>true
 pn:=[]
 xe:=fun e s'=>wpAny (model P w) (A.deeper (envOfC qual scope s.heap.objs.size f cd)) (leaving (envOfC qual scope s.heap.objs.size f cd) e) (fun _ s''=>CX outer H s E e s'') (fun e' s''=>CX outer H s E e' s'') s'

theorem cell_has {sc:Scope}{n:Nat}{x:Str} (h:sc.names.lookup x=some .cell):∃ c,(cellsFrom n sc.names []).lookup x=some c:=by
 have q:=PySem.W.cellsFrom_some sc.names n [] (.inl h)
 exact Option.isSome_iff_exists.mp q

theorem inv_start {CX:CXT}{P:Program}{w:World}{K:PySem.W.Frag}{mg:Str->Option Value}{base:Heap}{N ps:List Str}{qual:Str}{scope:Scope}{f:Addr}{cd:Value}{A:Around}{outer:List Env}{s s1:Shared}{H:Hp}{E:XK}{us:List Value}{vs:List V}
  (S:FnScope N ps scope) (hd:A.handled=none) (e0:Env0 P w K mg base A outer s H) (hl:vs.length=ps.length) (r:Vals vs us)
  (x:InCallC s s.heap.objs.size (bindL (envOfC qual scope s.heap.objs.size f cd).kindOf (ps.zip us) fun _=>none) (cellsFrom (s.heap.objs.size + 1) scope.names []) (bindC (envOfC qual scope s.heap.objs.size f cd).kindOf (ps.zip us) fun _=>none) s1) :
  Inv (cxOf CX P w K mg base N qual scope f cd A outer s H E) [] (start N vs) H s1:=by
 have hpl:ps.length<=N.length:=by have:=congrArg List.length S.pre;rw [List.length_take] at this;omega
 obtain ⟨h1,tk,rfl,hk⟩:=x.done
 have noA:∀ b:Addr,b ∉ (cxOf CX P w K mg base N qual scope f cd A outer s H E).ex:=fun b z=>absurd (show b∈([]:List Addr) from z) (by simp)
 refine ⟨⟨e0.mod,S.kind,rfl,rfl,Nat.le_refl _,fun y z c h1 h2=>?_,fun y hy=>?_,fun y c _ h=>?_,fun _=>hd,Around.frames_deeper e0.frames,.inr ⟨rfl,rfl⟩,fun b z=>absurd z (noA b),e0.bs,e0.bsz,fun b _ _=>noA b,fun b z=>absurd z (noA b),e0.funs,e0.frf⟩,
  rfl,e0.bare,Un.kept hk,⟨_,x.toInCall.ns,fun i y v h1 h2 h3=>?_⟩,fun y c h=>⟨_,x.cell y c h⟩,e0.hok.fresh (Nat.le_refl _),fun y c h=>?_,fun p hp=>absurd (show p∈([]:List (Addr × Obj)) from hp) (by simp),e0.hok.kept hk,?_⟩
 ·exact name_of_addr x.apart (PySem.mem_of_lookup h1) (PySem.mem_of_lookup h2)
 ·have hy:scope.names.lookup y=some .cell ∨ scope.names.lookup y=some .free:=hy
  rcases hy with hy | hy
  ·exact cell_has hy
  ·exact absurd rfl (S.nofree _ (PySem.mem_of_lookup hy))
 ·exact Nat.le_of_lt (x.above y c (PySem.mem_of_lookup h))
 ·have hi:i < vs.length:=by
   unfold start at h2
   by_cases hi:i < vs.length
   ·exact hi
   ·rw [List.getElem?_append_right (by simpa using hi)] at h2
    rw [List.getElem?_replicate] at h2
    split at h2 <;> cases h2
  have ha:vs[i]?=some v:=by
   unfold start at h2
   rw [List.getElem?_append_left (by simpa using hi),List.getElem?_map] at h2
   cases e:vs[i]? with
   | none=>rw [e] at h2;cases h2
   | some a=>rw [e] at h2;cases h2;rfl
  obtain ⟨u,hu,rv⟩:=r.get ha
  have hp:ps[i]?=some y:=by
   rw [← S.pre,List.getElem?_take_of_lt (by omega)];exact h1
  have ndP:ps.Nodup:=by rw [← S.pre];exact S.nd.sublist (List.take_sublist _ _)
  refine ⟨u,rv,?_⟩
  rcases S.par y (List.mem_of_getElem? hp) with k | k
  ·exact .inl ⟨k,bindL_get ndP hp hu k⟩
  ·obtain ⟨c,e⟩:=cell_has (n:=s.heap.objs.size + 1) k
   refine .inr ⟨.inl k,c,e,?_⟩
   have q:=x.cell y c e
   rw [bindC_get ndP hp hu (by show scope.names.lookup y≠_;rw [k];decide)] at q
   exact q
 ·exact e0.hok.fresh (Nat.le_of_lt (x.above y c (PySem.mem_of_lookup h)))
 ·unfold start
  show _=N.length
  rw [List.length_append,List.length_map,List.length_replicate]
  omega

theorem fn_of {CX:CXT}{P:Program}{w:World}{K:PySem.W.Frag}{mg:Str->Option Value}{base:Heap}{k:Nat}{f:Addr}{name qual:Str}{params:Arguments}{body:List Stmt}{scope:Scope}{dV kV doc pm cdv ct oc:Value}{an od:Option Addr}
  {osl:Array (Option Value)}{N ps:List Str}{sp:Sp} (lk:K.lookup f=some ⟨oc,od,.func (PySem.W.fnOf name qual params body scope dV kV doc pm an cdv ct),osl⟩) (hcd:PySem.W.codeIn K cdv qual=true) (S:FnScope N ps scope)
  (len:∀ vs H Q E,sp vs H Q E->vs.length=ps.length)
  (hbody:∀ (A:Around) (outer:List Env) (s:Shared) (H:Hp) (vs:List V) (Q:VK) (E:XK),Room k (A.deeper (envOfC qual scope s.heap.objs.size f cdv))->sp vs H Q E →
   ∃ t,PSs (cxOf CX P w K mg base N qual scope f cdv A outer s H E) body t/\t { nx:=fun _ H'=>Q .non H',rt:=Q } (start N vs) H) :
  FnOk P w K mg base CX (k + 1) f (PySem.W.fnOf name qual params body scope dV kV doc pm an cdv ct) ps sp:=by
 refine ⟨len,fun A outer s H args us vs Q E hr e0 hb r hsp=>?_⟩
 have hl:=len _ _ _ _ hsp
 have KX:K.In s.heap:=e0.mod.kin.keeps fun b o e=>(e0.bs b o e).1
 have lim:s.heap.NoLimit:=e0.mod.nolimit.keeps fun b o e=>(e0.bs b o e).1
 have hkind:∀ y∈ps.zip us,scope.names.lookup y.1=some .local ∨ (scope.names.lookup y.1=some .cell/\((cellsFrom (s.heap.objs.size + 1) scope.names []).lookup y.1).isSome=true):=fun ⟨n,v⟩ hy=>by
  rcases S.par n (List.of_mem_zip hy).1 with q | q
  ·exact .inl q
  ·exact .inr ⟨q,PySem.W.cellsFrom_some _ _ _ (.inl q)⟩
 refine codeAny_call_function hr.depth (KX _ _ lk) rfl S.co S.gen rfl (PySem.W.codeRec_of KX hcd) (hb _ _ _ _ ?_)
 refine wpAny_newFunctionEnv_cells S.kind hkind fun env he s1 x=>?_
 subst he
 refine ⟨lim.keeps x.toInCall.keep,codeAny_func ?_⟩
 obtain ⟨t,ht,hq⟩:=hbody A outer s H vs Q E (hr.deeper _) hsp
 have I:Inv (cxOf CX P w K mg base N qual scope f cdv A outer s H E) [] (start N vs) H s1:=inv_start S hr.hd e0 hl r x
 refine wpAny_mono (ht [] s1 (start N vs) H _ I hq) (fun fl s' hs=>?_) fun e s' hs=>hs
 have fin:∀ {σ':St}{H':Hp}{v:V}{u:Value},Inv (cxOf CX P w K mg base N qual scope f cdv A outer s H E) [] σ' H' s'->RelV v u->Q v H'->CE outer P w H s Q u s' :=
  fun {σ' H' v u} J rv q=>⟨v,H',J.os,J.bare,J.base,J.hok,rv,q⟩
 cases fl with
 | ret u =>
  obtain ⟨v,σ',H',J,rv,q⟩:=hs
  exact fin J rv q
 | next =>
  obtain ⟨σ',H',J,q⟩:=hs
  exact fin (v:=V.non) (u:=Value.none) J rfl q
 | brk =>
  obtain ⟨_,_,_,q⟩:=hs
  exact False.elim q
 | cont =>
  obtain ⟨_,_,_,q⟩:=hs
  exact False.elim q
end L2

namespace L2
open PySem PySem.Spec PyProof.Rows
section
variable {X:Cx}{x:Str}{p pos:Pos}{e:Expr}{es:List Expr}{t:TA}{id T:String}{r:List V->Hp->VK->Prop}

def tCB (r:List V->Hp->VK->Prop) (t:TA):TE:=fun σ H Q=>t σ H fun vs H1=>r vs H1 Q
theorem pe_callB (hc:CallR X (.builtin id) r) (hg:Gl X x) (hm:X.mg x=none) (hv:bootBuiltins x=some (.builtin id)) (ha:PA X (e::es) t) (hn:x≠"__name__":=by decide) (hdb:(x == ("__debug__":Str))=false:=by decide)
  (he:starEach (e::es) X.env=(false,eval e X.env)::starEach es X.env:=by rfl) (hpl:(backTo pos (starEach es X.env)).any (·.1)=false:=by rfl):PE X (.Call (.Name x p) (e::es) [] pos) (tCB r t):=by
 intro pins s σ H Q I h
 refine wpAny_Call_Name_kw (ld_blt I hg hm hv ?_ hn hdb)
 exact PyProof.Rows.callWith_builtin1 (thn (ha pos pins s σ H _ I h) fun us s1 ⟨vs,H1,I1,r1,q1⟩=>hc pins s1 σ H1 vs us Q I1 r1 q1) he hpl
theorem pe_callTy (hc:CallR X (.type T) r) (hg:Gl X x) (hm:X.mg x=none) (hv:bootBuiltins x=some (.type T)) (ha:PA X (e::es) t) (hn:x≠"__name__":=by decide) (hdb:(x == ("__debug__":Str))=false:=by decide)
  (he:starEach (e::es) X.env=(false,eval e X.env)::starEach es X.env:=by rfl) (hpl:(backTo pos (starEach es X.env)).any (·.1)=false:=by rfl):PE X (.Call (.Name x p) (e::es) [] pos) (tCB r t):=by
 intro pins s σ H Q I h
 refine wpAny_Call_Name_kw (ld_blt I hg hm hv ?_ hn hdb)
 exact PyProof.Rows.callWith_type1 (thn (ha pos pins s σ H _ I h) fun us s1 ⟨vs,H1,I1,r1,q1⟩=>hc pins s1 σ H1 vs us Q I1 r1 q1) he hpl
end
end L2

namespace HT
open PySem PyProof.Rows

theorem eqAt_int (A:Around) (s:Shared) (a:Int) (t:Tok) (c:Int) (u:Tok):∃ e,SeqAt.EqAt A s (.int a t) (.int c u) e/\(e=true ↔ a=c) :=
 ⟨(a == c),SeqAt.EqAt.int_int a t c u,by simp⟩
section
open PySem.SeqAt
open PySem.AutoSeq1 (wpAny_loadPart')
open PySem.MeetsSeq PySem.MeetsSeq2 PySem.MeetsSeq3

end

section
variable {prog:Program}{w:World}{A:Around}{E:Value->Shared->Prop}{s:Shared}

def sIx (n d:Nat):Option Int->Nat
 | none=>d
 | some v=>if v < 0 then (v + (n:Int)).toNat else min v.toNat n
theorem sIx_none (n d:Nat):sIx n d none=d:=rfl
theorem sIx_nat (n d k:Nat):sIx n d (some (k:Int))=min k n:=by
 show (if (k:Int) < 0 then ((k:Int) + (n:Int)).toNat else min (k:Int).toNat n)=min k n
 rw [if_neg (by omega),Int.toNat_natCast]
theorem sIx_le (n d:Nat) (hd:d<=n) (o:Option Int):sIx n d o<=n:=by
 cases o with
 | none=>exact hd
 | some v =>
  show (if v < 0 then (v + (n:Int)).toNat else min v.toNat n)<=n
  by_cases hv:v < 0
  ·rw [if_pos hv];omega
  ·rw [if_neg hv];exact Nat.min_le_right _ _
end
end HT

namespace L2
open PySem PySem.Spec PyProof.Rows

abbrev TO:=St->Hp->(Option Int->Hp->Prop)->Prop
def PO (X:Cx) (e:Option Expr) (t:TO):Prop :=
 ∀ (pins:List (Addr × Obj)) (s:Shared) (σ:St) (H:Hp) (Q:Option Int->Hp->Prop),Inv X pins σ H s->t σ H Q →
  wpAny (model X.prog X.w) X.A (evalPart e X.env) (fun u s'=>∃ o H',Inv X pins σ H' s'/\IsPart u o/\Q o H') X.xe s
def tNoPart:TO:=fun _ H Q=>Q none H
def tPart (t:TE):TO:=fun σ H Q=>t σ H fun x H1=>∃ i,x=.int i/\Q (some i) H1

theorem intsAre_of {ns:List Int}:∀ {us:List Value},Vals (ns.map V.int) us->IntsAre us ns:=by
 induction ns with
 | nil=>intro us r;rw [List.map_nil] at r;cases r;exact .nil
 | cons n ns ih =>
  intro us r
  rw [List.map_cons] at r
  cases r with
  | cons r1 r2 =>
   obtain ⟨t,e⟩:=r1
   subst e
   exact .cons n t (ih r2)

section
variable {X:Cx}{e:Expr}{te:TE}{lo hi:Option Expr}{tl th:TO}{pos p2:Pos}

theorem po_none:PO X none tNoPart:=by
 intro pins s σ H Q I h
 rw [evalPart_none]
 exact wpAny_pure ⟨none,H,I,.none,h⟩
theorem po_some (h:PE X e te):PO X (some e) (tPart te):=by
 intro pins s σ H Q I hw
 rw [evalPart_some]
 refine thn (h pins s σ H _ I hw) fun u s1 ⟨x,H1,I1,r1,q1⟩=>?_
 obtain ⟨i,rfl,q⟩:=q1
 obtain ⟨t,rfl⟩:=r1
 exact ⟨some i,H1,I1,.int i t,q⟩

def SlR (X:Cx) (r:V->Option Int->Option Int->Hp->VK->Prop):Prop :=
 ∀ (pins:List (Addr × Obj)) (s:Shared) (σ:St) (H:Hp) (x:V) (v vl vu:Value) (lo hi:Option Int) (sl:Addr) (Q:VK),Inv X pins σ H s->RelV x v->s.heap.IsSliceOf sl vl vu .none->IsPart vl lo->IsPart vu hi->r x lo hi H Q →
  ∃ T id,typeLookup (.type T) "__getitem__"=pure (some (.builtin id))/\s.TypeIs v T/\wpAny (model X.prog X.w) X.A (getItem v (.ref sl)) (EP X pins σ Q) X.xe s
theorem SlR.or {r r':V->Option Int->Option Int->Hp->VK->Prop} (h:SlR X r) (h':SlR X r'):SlR X (fun x lo hi H Q=>r x lo hi H Q ∨ r' x lo hi H Q):=by
 intro pins s σ H x v vl vu lo hi sl Q I rx hs pl pu q
 rcases q with q | q
 ·exact h pins s σ H x v vl vu lo hi sl Q I rx hs pl pu q
 ·exact h' pins s σ H x v vl vu lo hi sl Q I rx hs pl pu q
def tSl (r:V->Option Int->Option Int->Hp->VK->Prop) (te:TE) (tl th:TO):TE:=fun σ H Q=>te σ H fun x H1=>tl σ H1 fun l H2=>th σ H2 fun u H3=>r x l u H3 Q
theorem pe_slice {r:V->Option Int->Option Int->Hp->VK->Prop} (hr:SlR X r) (he:PE X e te) (hl:PO X lo tl) (hu:PO X hi th):PE X (.Subscript e (.Slice lo hi none p2) pos) (tSl r te tl th):=by
 intro pins s σ H Q I h
 refine Subscript_ (thn (he pins s σ H _ I h) fun v s1 ⟨x,H1,I1,r1,q1⟩=>?_)
 refine wpAny_Slice (thn (hl pins s1 σ H1 _ I1 q1) fun vl s2 ⟨l,H2,I2,pl,q2⟩=>thn (hu pins s2 σ H2 _ I2 q2) fun vu s3 ⟨u,H3,I3,pu,q3⟩=>?_)
 rw [evalPart_none]
 refine wpAny_pure ?_
 have I4:Inv X pins σ H3 { s3 with heap:=s3.heap.push { cls:=.type "slice",data:=.fields #[vl,vu,.none] } }:=I3.kept (t':=s3.toks) fun b ob q=>Heap.get?_push_of_some _ q
 obtain ⟨T,id,hT,ht,hg⟩:=hr pins { s3 with heap:=s3.heap.push { cls:=.type "slice",data:=.fields #[vl,vu,.none] } } σ H3 x v vl vu l u s3.heap.objs.size Q I4 r1 (Heap.IsSliceOf.new ..) pl pu q3
 show wpAny (model X.prog X.w) X.A (subscriptTail e (.Slice lo hi none p2) v (.ref s3.heap.objs.size)) (EP X pins σ Q) X.xe { s3 with heap:=s3.heap.push { cls:=.type "slice",data:=.fields #[vl,vu,.none] } }
 exact tail_any (ops:=[.ref s3.heap.objs.size,v]) ht hT hg (by with_unfolding_all rfl)

def cutV (xs:List V) (lo hi:Option Int):List V:=(xs.drop (HT.sIx xs.length 0 lo)).take (HT.sIx xs.length xs.length hi - HT.sIx xs.length 0 lo)
theorem cutV_length (xs:List V) (lo hi:Option Int):(cutV xs lo hi).length<=xs.length:=by
 unfold cutV
 rw [List.length_take,List.length_drop]
 omega
end
end L2

namespace L2
open PySem PySem.Spec PyProof.Rows

def ixN (n:Nat) (i:Int):Option Nat:=if 0<=i then (if i < n then some i.toNat else none) else if -(n:Int)<=i then some (i + n).toNat else none
def atI {α:Type} (xs:List α) (i:Int):Option α:=(ixN xs.length i).bind fun j=>xs[j]?
theorem ixN_seq {n:Nat}{i:Int}{j:Nat} (h:ixN n i=some j):seqIndex? i n=some j/\j < n/\-(n:Int)<=i/\i < n:=by
 unfold ixN at h
 by_cases h0:0<=i
 ·rw [if_pos h0] at h
  by_cases h1:i < n
  ·rw [if_pos h1] at h
   have e:i.toNat=j:=Option.some.inj h
   exact ⟨by rw [seqIndex_of h0 h1,e],by omega,by omega,h1⟩
  ·rw [if_neg h1] at h;cases h
 ·rw [if_neg h0] at h
  by_cases h1:-(n:Int)<=i
  ·rw [if_pos h1] at h
   have e:(i + n).toNat=j:=Option.some.inj h
   exact ⟨by rw [seqIndex_neg (by omega) h1,e],by omega,h1,by omega⟩
  ·rw [if_neg h1] at h;cases h
theorem atI_get {α:Type}{xs:List α}{i:Int}{v:α} (h:atI xs i=some v):∃ j,seqIndex? i xs.length=some j/\xs[j]?=some v/\j < xs.length/\-(xs.length:Int)<=i/\i < xs.length:=by
 unfold atI at h
 cases e:ixN xs.length i with
 | none=>rw [e] at h;cases h
 | some j =>
  rw [e] at h
  obtain ⟨h1,h2,h3,h4⟩:=ixN_seq e
  exact ⟨j,h1,h,h2,h3,h4⟩
theorem atI_nat {α:Type}{xs:List α}{j:Nat}{v:α} (h:xs[j]?=some v):atI xs (j:Int)=some v:=by
 have hj:j < xs.length:=(List.getElem?_eq_some_iff.mp h).1
 have e:ixN xs.length (j:Int)=some j:=by
  unfold ixN
  rw [if_pos (by omega),if_pos (by omega)];simp
 unfold atI;rw [e];exact h
def PlainIx (b:Expr):Prop:=∀ o i,subscripted b false o i=operate [o,i] (getItem o i)
def IxR (X:Cx) (r:R2):Prop :=
 ∀ (value slice:Expr) (pins:List (Addr × Obj)) (s:Shared) (σ:St) (H:Hp) (x y:V) (v u:Value) (Q:VK),Inv X pins σ H s->RelV x v->RelV y u->r x y H Q →
  subscripted slice false v u=operate [v,u] (getItem v u)->wpAny (model X.prog X.w) X.A (subscriptTail value slice v u) (EP X pins σ Q) X.xe s
def MtR (X:Cx) (id:String) (r:V->List V->Hp->VK->Prop):Prop :=
 ∀ (pins:List (Addr × Obj)) (s:Shared) (σ:St) (H:Hp) (x:V) (xs:List V) (v:Value) (us:List Value) (Q:VK),Inv X pins σ H s->RelV x v->Vals xs us->r x xs H Q →
  wpAny (model X.prog X.w) X.A (call (.builtin id) (v::us)) (EP X pins σ Q) X.xe s
section
variable {X:Cx}{a b:Expr}{ta tb:TE}{pos:Pos}
theorem IxR.or {r r':R2} (h:IxR X r) (h':IxR X r'):IxR X (fun x y H Q=>r x y H Q ∨ r' x y H Q):=by
 intro value slice pins s σ H x y v u Q I rx ry q hs
 rcases q with q | q
 ·exact h value slice pins s σ H x y v u Q I rx ry q hs
 ·exact h' value slice pins s σ H x y v u Q I rx ry q hs
theorem MtR.or {id:String}{r r':V->List V->Hp->VK->Prop} (h:MtR X id r) (h':MtR X id r'):MtR X id (fun x xs H Q=>r x xs H Q ∨ r' x xs H Q):=by
 intro pins s σ H x xs v us Q I rx rs q
 rcases q with q | q
 ·exact h pins s σ H x xs v us Q I rx rs q
 ·exact h' pins s σ H x xs v us Q I rx rs q
theorem pe_ix {r:R2} (hr:IxR X r) (ha:PE X a ta) (hb:PE X b tb) (hs:PlainIx b):PE X (.Subscript a b pos) (tOp r ta tb):=by
 intro pins s σ H Q I h
 exact Subscript_ (binT ha hb I h fun v u s2 x y H2 I2 rx ry q=>hr a b pins s2 σ H2 x y v u Q I2 rx ry q (hs _ _))

def rIxL (K:PySem.W.Frag):R2:=fun x y H Q=>∃ p xs i v,x=.ref p/\y=.int i/\SqL K H p xs/\atI xs i=some v/\Q v H
def rIxT (K:PySem.W.Frag):R2:=fun x y H Q=>∃ p xs i v,x=.ref p/\y=.int i/\SqT K H p xs/\atI xs i=some v/\Q v H
def rIxS:R2:=fun x y H Q=>∃ z i c,x=.str z/\y=.int i/\z.length<=sizeLine/\atI z.cps.toList i=some c/\Q (.str ⟨#[c]⟩) H
theorem ix_list:IxR X (rIxL X.K):=by
 intro value slice pins s σ H x y v u Q I rx ry h hs
 obtain ⟨p,xs,i,z,rfl,rfl,hq,he,q⟩:=h
 cases rx
 obtain ⟨t,rfl⟩:=ry
 obtain ⟨its,r,pl,hz⟩:=I.list hq
 obtain ⟨j,h1,h2,h3,h4,h5⟩:=atI_get he
 obtain ⟨w,ew,rw'⟩:=r.get h2
 have hl:=r.length
 have hn:=line63
 have fin:EP X pins σ Q w s:=⟨z,H,I,rw',q⟩
 by_cases h0:0<=i
 ·have hj:i.toNat=j:=by
   rw [seqIndex_of h0 h5] at h1
   exact Option.some.inj h1
  exact item_listR pl.isList h0 (by omega) (by rw [hj];simpa using ew) fin hs
 ·have hj:(i + (its.toArray.size:Int)).toNat=j:=by
   rw [seqIndex_neg (by omega) h4] at h1
   rw [List.size_toArray,← hl]
   exact Option.some.inj h1
  exact subscriptTail_builtinR (x:=w) pl.isList.typeIs slot_list_getitem.lookup
   (wpAny_getItem_list_neg (Q:=fun r s'=>r=w/\EP X pins σ Q r s') pl.isList (by omega) (by rw [List.size_toArray] <;> omega) (by omega) (by rw [hj];simpa using ew) ⟨rfl,fin⟩) hs
theorem ix_tup:IxR X (rIxT X.K):=by
 intro value slice pins s σ H x y v u Q I rx ry h hs
 obtain ⟨p,xs,i,z,rfl,rfl,hq,he,q⟩:=h
 cases rx
 obtain ⟨t,rfl⟩:=ry
 obtain ⟨its,r,pl,hz⟩:=I.tuple hq
 obtain ⟨j,h1,h2,h3,h4,h5⟩:=atI_get he
 obtain ⟨w,ew,rw'⟩:=r.get h2
 have hl:=r.length
 have hn:=line63
 have fin:EP X pins σ Q w s:=⟨z,H,I,rw',q⟩
 exact subscriptTail_builtinR (x:=w) pl.typeIs slot_tuple_getitem.lookup
  (getItem_tuple (j:=j) (Q:=fun r s'=>r=w/\EP X pins σ Q r s') pl (by omega) (by omega) (by rw [List.size_toArray,← hl];exact h1) (by simpa using ew) ⟨rfl,fin⟩) hs
theorem ix_str:IxR X rIxS:=by
 intro value slice pins s σ H x y v u Q I rx ry h hs
 obtain ⟨z,i,c,rfl,rfl,hz,he,q⟩:=h
 obtain ⟨t,rfl⟩:=rx
 obtain ⟨t',rfl⟩:=ry
 obtain ⟨j,h1,h2,h3,h4,h5⟩:=atI_get he
 have hl:z.cps.toList.length=z.length:=by simp [Str.length]
 rw [hl] at h1 h4 h5
 have hn:=line63
 exact tail_any (typeIs_str s z t) slot_str_getitem.lookup (getItem_str (c:=c) (by
  have e1:decide (i < -(2 ^ 63:Int))=false:=decide_eq_false (by omega)
  have e2:decide (i ≥ 2 ^ 63)=false:=decide_eq_false (by omega)
  rw [e1,e2,Bool.or_false]) (by rw [h1];simpa using h2) ⟨.str ⟨#[c]⟩,H,I.tok _,⟨_,rfl⟩,q⟩) hs
theorem Inv.lst {pins:List (Addr × Obj)}{σ:St}{H:Hp}{s:Shared}{p:Addr}{xs:List V} (I:Inv X pins σ H s) (h:H p=some (.lst xs)) :
  ∃ (its:List Value) (n:Nat),Vals xs its/\s.heap.get? p=some { cls:=.type "list",data:=.seq its.toArray n }/\xs.length<=sizeLine:=by
 obtain ⟨z,its,n,r,e⟩:=I.hok p _ h
 exact ⟨its,n,r,e,z⟩
theorem slice_bounds (lo hi:Option Int) (n:Nat):(sliceBounds lo hi none n).1=((HT.sIx n 0 lo:Nat):Int)/\(sliceBounds lo hi none n).2.1=((HT.sIx n n hi:Nat):Int)/\(sliceBounds lo hi none n).2.2=1:=by
 refine ⟨?_,?_,rfl⟩
 ·cases lo with
  | none=>simp [sliceBounds,HT.sIx]
  | some i =>
   simp only [sliceBounds,HT.sIx,Option.getD_none,show (1:Int) > 0 by decide,if_true]
   by_cases h:i < 0
   ·simp only [h,if_true] <;> omega
   ·simp only [h,if_false] <;> omega
 ·cases hi with
  | none=>simp [sliceBounds,HT.sIx]
  | some i =>
   simp only [sliceBounds,HT.sIx,Option.getD_none,show (1:Int) > 0 by decide,if_true]
   by_cases h:i < 0
   ·simp only [h,if_true] <;> omega
   ·simp only [h,if_false] <;> omega
theorem slicePick_cut (its:List Value) (lo hi:Option Int):slicePick its.toArray lo hi none=((its.drop (HT.sIx its.length 0 lo)).take (HT.sIx its.length its.length hi - HT.sIx its.length 0 lo)).toArray:=by
 obtain ⟨h1,h2,h3⟩:=slice_bounds lo hi its.toArray.size
 unfold slicePick
 rw [h1,h2,h3]
 simp only [sliceRange_one,pick_run,List.size_toArray] <;> rfl
def rSlL (K:PySem.W.Frag):V->Option Int->Option Int->Hp->VK->Prop:=fun x lo hi H Q=>∃ a xs,x=.ref a/\SqL K H a xs/\∀ p,H p=none->Q (.ref p) (upd H p (.lst (cutV xs lo hi)))
theorem sl_list:SlR X (rSlL X.K):=by
 intro pins s σ H x v vl vu lo hi sl Q I rx hs pl pu h
 obtain ⟨a,xs,rfl,hx,q⟩:=h
 cases rx
 obtain ⟨its,r,ht,hz⟩:=I.list hx
 have hlen:=r.length
 refine ⟨"list",_,slot_list_getitem.lookup,ht.isList.typeIs,?_⟩
 refine wpAny_getItem_list_slice ht.isList hs pl pu .none (by simp) ?_ (by rw [List.size_toArray] <;> omega)
 rw [slicePick_cut,← hlen]
 refine ⟨.ref s.heap.objs.size,_,I.laid (t':=s.toks) (o:=.lst (cutV xs lo hi)) (fun b ob q=>Heap.get?_push_of_some _ q) (Nat.le_refl _) ?_,rfl,q _ (I.hok.fresh (Nat.le_refl _))⟩
 exact ⟨Nat.le_trans (cutV_length xs lo hi) hz,_,0,(r.drop (HT.sIx xs.length 0 lo)).take (HT.sIx xs.length xs.length hi - HT.sIx xs.length 0 lo),Heap.get?_push_size _ rfl⟩

def flatV:V->Bool
 | .non=>true
 | .bl _=>true
 | .int _=>true
 | .str _=>true
 | _=>false
def eqV:V->V->Bool
 | .non,.non=>true
 | .bl a,.bl b=>a == b
 | .bl a,.int b=>(if a then 1 else 0) == b
 | .int a,.bl b=>a == (if b then 1 else 0)
 | .int a,.int b=>a == b
 | .str a,.str b=>a == b
 | _,_=>false
theorem eqAt_V {A:Around}{s:Shared}{y x:V}{u v:Value} (ry:RelV y u) (rx:RelV x v) (fy:flatV y=true) (fx:flatV x=true):SeqAt.EqAt A s u v (eqV y x):=by
 cases y with
 | non =>
  cases ry
  cases x with
  | non=>cases rx;exact SeqAt.EqAt.same _
  | bl b=>cases rx;exact SeqAt.EqAt.none_bool b
  | int b=>obtain ⟨t,rfl⟩:=rx;exact SeqAt.EqAt.none_int b t
  | str b=>obtain ⟨t,rfl⟩:=rx;exact SeqAt.EqAt.none_str b t
  | _=>exact absurd (show false=true from fx) Bool.false_ne_true
 | bl a =>
  cases ry
  cases x with
  | non=>cases rx;exact SeqAt.EqAt.bool_none a
  | bl b=>cases rx;exact SeqAt.EqAt.bool_bool a b
  | int b=>obtain ⟨t,rfl⟩:=rx;exact SeqAt.EqAt.bool_int a b t
  | str b=>obtain ⟨t,rfl⟩:=rx;exact SeqAt.EqAt.bool_str a b t
  | _=>exact absurd (show false=true from fx) Bool.false_ne_true
 | int a =>
  obtain ⟨t',rfl⟩:=ry
  cases x with
  | non=>cases rx;exact SeqAt.EqAt.int_none a t'
  | bl b=>cases rx;exact SeqAt.EqAt.int_bool a t' b
  | int b=>obtain ⟨t,rfl⟩:=rx;exact SeqAt.EqAt.int_int a t' b t
  | str b=>obtain ⟨t,rfl⟩:=rx;exact SeqAt.EqAt.int_str a t' b t
  | _=>exact absurd (show false=true from fx) Bool.false_ne_true
 | str a =>
  obtain ⟨t',rfl⟩:=ry
  cases x with
  | non=>cases rx;exact SeqAt.EqAt.str_none a t'
  | bl b=>cases rx;exact SeqAt.EqAt.str_bool a t' b
  | int b=>obtain ⟨t,rfl⟩:=rx;exact SeqAt.EqAt.str_int a t' b t
  | str b=>obtain ⟨t,rfl⟩:=rx;exact SeqAt.EqAt.str_str a t' b t
  | _=>exact absurd (show false=true from fx) Bool.false_ne_true
 | _=>exact absurd (show false=true from fy) Bool.false_ne_true
def eqU (x:V) (u:Value):Bool:=match u with
 | .none=>eqV .non x
 | .bool b=>eqV (.bl b) x
 | .int i _=>eqV (.int i) x
 | .str z _=>eqV (.str z) x
 | _=>false
theorem eqU_of {x y:V}{u:Value} (r:RelV y u) (f:flatV y=true):eqU x u=eqV y x:=by
 cases y with
 | non=>cases r;rfl
 | bl b=>cases r;rfl
 | int i=>obtain ⟨t,rfl⟩:=r;rfl
 | str z=>obtain ⟨t,rfl⟩:=r;rfl
 | _=>exact absurd (show false=true from f) Bool.false_ne_true
theorem any_eqU {x:V}:∀ {xs:List V}{us:List Value},Vals xs us->xs.all flatV=true->us.any (eqU x)=xs.any fun y=>eqV y x
 | _,_,.nil,_=>rfl
 | y::xs,u::us,.cons r t,f=>by
  rw [List.all_cons,Bool.and_eq_true] at f
  rw [List.any_cons,List.any_cons,eqU_of r f.1,any_eqU t f.2]
theorem mem_eqAt {A:Around}{s:Shared}{x:V}{v:Value} (rx:RelV x v) (fx:flatV x=true):∀ {xs:List V}{us:List Value},Vals xs us->xs.all flatV=true->∀ u∈us,SeqAt.EqAt A s u v (eqU x u)
 | _,_,.nil,_=>fun u hu=>by cases hu
 | y::xs,u::us,.cons r t,f=>fun u' hu=>by
  rw [List.all_cons,Bool.and_eq_true] at f
  rcases List.mem_cons.mp hu with rfl | hu
  ·rw [eqU_of r f.1];exact eqAt_V r rx f.1 fx
  ·exact mem_eqAt rx fx t f.2 u' hu
def inV (x:V) (xs:List V):Bool:=xs.any fun y=>eqV y x
def rIn (K:PySem.W.Frag) (neg:Bool):R2:=fun x y H Q=>∃ p xs,y=.ref p/\(SqL K H p xs ∨ SqT K H p xs)/\flatV x=true/\xs.all flatV=true/\Q (.bl (if neg then !inV x xs else inV x xs)) H
theorem op_in_seq:OpR X (compareOp .In) (rIn X.K false):=by
 intro pins s σ H x y v u Q I rx ry h
 obtain ⟨p,xs,rfl,hq,fx,fs,q⟩:=h
 cases ry
 rcases hq with hq | hq
 ·obtain ⟨its,r,pl,hz⟩:=I.list hq
  refine SeqAt.in_listAt (eqU x) pl.isList (fun w hw=>mem_eqAt rx fx r fs w (by simpa using hw)) ⟨.bl _,H,I,rfl,?_⟩
  rw [show its.toArray.any (eqU x)=its.any (eqU x) by simp,any_eqU r fs]
  exact q
 ·obtain ⟨its,r,pl,hz⟩:=I.tuple hq
  refine SeqAt.in_tupleAt (eqU x) pl (fun w hw=>mem_eqAt rx fx r fs w (by simpa using hw)) ⟨.bl _,H,I,rfl,?_⟩
  rw [show its.toArray.any (eqU x)=its.any (eqU x) by simp,any_eqU r fs]
  exact q
theorem call_len_seq:CallR X (.builtin "len") (fun xs H Q=>∃ p ys,xs=[.ref p]/\(SqL X.K H p ys ∨ SqT X.K H p ys)/\Q (.int ys.length) H):=by
 intro pins s σ H xs us Q I r h
 obtain ⟨p,ys,rfl,hq,q⟩:=h
 obtain ⟨u,rfl,rx⟩:=vals1 r
 cases rx
 have hn:=line63
 rcases hq with hq | hq
 ·obtain ⟨its,r',pl,hz⟩:=I.list hq
  have hlen:=r'.length
  exact Calls.call_len_list pl.isList (by simp only [List.size_toArray] <;> omega) ⟨.int ys.length,H,I.tok _,⟨s.toks + 1,by rw [List.size_toArray,hlen]⟩,q⟩
 ·obtain ⟨its,r',pl,hz⟩:=I.tuple hq
  have hlen:=r'.length
  exact len_tuple pl (by simp only [List.size_toArray] <;> omega) ⟨.int ys.length,H,I.tok _,⟨s.toks + 1,by rw [List.size_toArray,hlen]⟩,q⟩
theorem call_len_str:CallR X (.builtin "len") (fun xs H Q=>∃ z,xs=[.str z]/\z.length<=sizeLine/\Q (.int z.length) H):=by
 intro pins s σ H xs us Q I r h
 obtain ⟨z,rfl,hz,q⟩:=h
 obtain ⟨u,rfl,t,rfl⟩:=vals1 r
 have hn:=line63
 exact len_str (by omega) ⟨.int z.length,H,I.tok _,⟨_,rfl⟩,q⟩
theorem CallR.or {f:Value}{r r':List V->Hp->VK->Prop} (h:CallR X f r) (h':CallR X f r'):CallR X f (fun xs H Q=>r xs H Q ∨ r' xs H Q):=by
 intro pins s σ H xs us Q I rs q
 rcases q with q | q
 ·exact h pins s σ H xs us Q I rs q
 ·exact h' pins s σ H xs us Q I rs q
theorem call_list_of:CallR X (.type "list") (fun xs H Q=>∃ p ys,xs=[.ref p]/\(SqL X.K H p ys ∨ SqT X.K H p ys)/\∀ l,H l=none->Q (.ref l) (upd H l (.lst ys))):=by
 intro pins s σ H xs us Q I r h
 obtain ⟨p,ys,rfl,hq,q⟩:=h
 obtain ⟨u,rfl,rx⟩:=vals1 r
 cases rx
 have fin:∀ (its:List Value),Vals ys its->ys.length<=sizeLine->∀ (h':Heap) (c':Nat),(∀ b o',s.heap.get? b=some o'->h'.get? b=some o') →
   h'.get? s.heap.objs.size=some { cls:=.type "list",dict:=none,data:=.seq its.toArray c',slots:=#[] }->EP X pins σ Q (.ref s.heap.objs.size) { s with heap:=h' }:=fun its r' hz h' c' kp e =>
  ⟨.ref s.heap.objs.size,_,I.laid (t':=s.toks) kp (Nat.le_refl _) (show ObjOk X.prog X.w _ h' _ (.lst ys) from ⟨hz,its,c',r',e⟩),rfl,q _ (I.hok.fresh (Nat.le_refl _))⟩
 rcases hq with hq | hq
 ·obtain ⟨its,r',pl,hz⟩:=I.list hq
  have hlen:=r'.length
  obtain ⟨o,ho,hc,n,hd⟩:=pl.isList
  exact call_list_seq p (.inl rfl) ho hc hd (fun h' c' kp e=>fin its r' hz h' c' kp e) (by simp only [List.size_toArray] <;> omega)
 ·obtain ⟨its,r',pl,hz⟩:=I.tuple hq
  have hlen:=r'.length
  obtain ⟨o,ho,hc,n,hd⟩:=pl
  exact call_list_seq p (.inr rfl) ho hc hd (fun h' c' kp e=>fin its r' hz h' c' kp e) (by simp only [List.size_toArray] <;> omega)
def tyV (K:PySem.W.Frag) (T:String) (x:V) (H:Hp):Prop:=match x with
 | .str _=>T="str"
 | .int _=>T="int"
 | .ref p=>(T="list"/\∃ xs,SqL K H p xs) ∨ (T="tuple"/\∃ o,K.lookup p=some o/\o.cls=.type "tuple"/\o.dict=none) ∨
   (T="dict"/\((∃ kvs,H p=some (.dK kvs)) ∨ ∃ kvs,H p=some (.dT kvs))) ∨ (T="set"/\∃ S n,H p=some (.set S n))
 | _=>False
theorem tyV_is {pins:List (Addr × Obj)}{σ:St}{H:Hp}{s:Shared}{T:String}{x:V}{v:Value} (I:Inv X pins σ H s) (r:RelV x v) (ty:tyV X.K T x H) :
  s.TypeIs v T/\∀ a,v=.ref a->∃ ob,s.heap.get? a=some ob/\ob.dict=none:=by
 cases x with
 | str z =>
  obtain ⟨t,rfl⟩:=r
  cases (show T="str" from ty)
  exact ⟨typeIs_str s z t,fun _ e=>nomatch e⟩
 | int i =>
  obtain ⟨t,rfl⟩:=r
  cases (show T="int" from ty)
  exact ⟨typeIs_int s i t,fun _ e=>nomatch e⟩
 | ref p =>
  cases r
  rcases ty with ⟨rfl,xs,hq⟩ | ⟨rfl,o,hk,hc,hd⟩ | ⟨rfl,hk⟩ | ⟨rfl,S,n,hk⟩
  ·obtain ⟨its,_,pl,_⟩:=I.list hq
   refine ⟨pl.isList.typeIs,fun a e=>?_⟩
   cases e
   obtain ⟨o,n,e,c,hd,_⟩:=pl
   exact ⟨o,e,hd⟩
  ·refine ⟨⟨o,I.kIn p o hk,hc⟩,fun a e=>?_⟩
   cases e
   exact ⟨o,I.kIn _ o hk,hd⟩
  ·have z:∃ o,s.heap.get? p=some o/\o.ExactDict:=by
    rcases hk with ⟨kvs,hk⟩ | ⟨kvs,hk⟩
    ·obtain ⟨_,_,_,_,o,_,_,e,ex,_⟩:=I.hok p _ hk
     exact ⟨o,e,ex⟩
    ·obtain ⟨_,_,_,_,o,_,_,e,ex,_⟩:=I.hok p _ hk
     exact ⟨o,e,ex⟩
   obtain ⟨o,e,ex⟩:=z
   refine ⟨⟨o,e,ex.1⟩,fun a e2=>?_⟩
   cases e2
   exact ⟨o,e,ex.2.1⟩
  ·obtain ⟨o,_,_,_,e,ex,_⟩:=I.hok p _ hk
   refine ⟨⟨o,e,ex.1⟩,fun a e2=>?_⟩
   cases e2
   exact ⟨o,e,ex.2.1⟩
 | _=>exact False.elim ty
def tBM (K:PySem.W.Frag) (T:String) (r:V->List V->Hp->VK->Prop) (to:TE) (t:TA):TE:=fun σ H Q=>to σ H fun x H1=>tyV K T x H1/\t σ H1 fun xs H2=>r x xs H2 Q
variable {o e:Expr}{es:List Expr}{to:TE}{t:TA}{name:Str}{apos cpos:Pos}{T id:String}{r:V->List V->Hp->VK->Prop}
theorem pe_bm (pa:PlainAttrs T) (slot:Slot T name id) (hty:typeOf (.builtin id)=pure (.type "method_descriptor")) (hm:MtR X id r) (ho:PE X o to) (ha:PA X (e::es) t)
  (hbase:attributeBase o name X.env (eval o X.env)=eval o X.env:=by rfl)
  (hfew:((backTo cpos (starEach (e::es) X.env)).all (fun x=>!x.1) && (backToKw cpos (keywordEach [] X.env)).all (fun x=>x.1.isSome)
   && decide ((e::es).length + ([]:List Keyword).length + (if ([]:List Keyword).isEmpty then 0 else 1) < 30))=true:=by rfl)
  (hline:(apos.endLine == cpos.line)=true:=by rfl) (hs:starEach (e::es) X.env=(false,eval e X.env)::starEach es X.env:=by rfl) (hplain:(backTo cpos (starEach es X.env)).any (·.1)=false:=by rfl) :
  PE X (.Call (.Attribute o name apos) (e::es) [] cpos) (tBM X.K T r to t):=by
 intro pins s σ H Q I h
 refine wpAny_Call_method_late hbase hfew hline rfl (thn (ho pins s σ H _ I h) fun v s1 ⟨x,H1,I1,r1,ty,q1⟩=>?_)
 obtain ⟨h1,h2⟩:=tyV_is I1 r1 ty
 refine ⟨T,id,pa,slot,hty,h1,h2,?_⟩
 have hA:=ha cpos pins s1 σ H1 _ I1 q1
 rw [hs] at hA ⊢
 refine Calls.callWith_builtin (by show (false || (backTo cpos (starEach es X.env)).any (·.1))=false;rw [hplain] <;> rfl) (Calls.evalArgs_plain ?_)
 exact thn hA fun us s2 ⟨vs,H2,I2,r2,q2⟩=>hm pins s2 σ H2 x vs v us Q I2 r1 r2 q2
end
end L2

namespace L2
open PySem PySem.Spec PyProof.Rows

def MtM (X:Cx) (id:String) (r:V->List V->Hp->VK->Prop):Prop :=
 ∀ (pins:List (Addr × Obj)) (s:Shared) (σ:St) (H:Hp) (x:V) (xs:List V) (v:Value) (us:List Value) (Q:VK),Inv X pins σ H s->RelV x v->Vals xs us->r x xs H Q →
  wpAny (model X.prog X.w) X.A (call (.builtin id) (v::us)) (EP X pins σ Q) X.xe s

theorem Vals.one:∀ {x:V}{us:List Value},Vals [x] us->∃ u,us=[u]/\RelV x u
 | _,_,.cons r .nil=>⟨_,rfl,r⟩
theorem Vals.two:∀ {x y:V}{us:List Value},Vals [x,y] us->∃ u v,us=[u,v]/\RelV x u/\RelV y v
 | _,_,_,.cons r (.cons q .nil)=>⟨_,_,rfl,r,q⟩
theorem Vals.zero:∀ {us:List Value},Vals [] us->us=[]
 | _,.nil=>rfl
theorem Vals.dropLast {xs:List V}{us:List Value} (h:Vals xs us):Vals xs.dropLast us.dropLast:=by
 induction h with
 | nil=>exact .nil
 | cons r t ih =>
  cases t with
  | nil=>exact .nil
  | cons q t'=>exact .cons r ih
theorem Vals.reverse {xs:List V}{us:List Value} (h:Vals xs us):Vals xs.reverse us.reverse:=by
 induction h with
 | nil=>exact .nil
 | cons r t ih=>rw [List.reverse_cons,List.reverse_cons];exact Vals.append ih (.cons r .nil)
theorem Vals.rep {xs:List V}{us:List Value} (h:Vals xs us):∀ k:Nat,Vals (List.replicate k xs).flatten (List.replicate k us).flatten
 | 0=>.nil
 | k + 1=>by
  rw [List.replicate_succ,List.replicate_succ,List.flatten_cons,List.flatten_cons]
  exact Vals.append h (Vals.rep h k)
theorem foldl_rep (its:List Value):∀ (k:Nat) (acc:List Value),
  List.foldl (fun x1 x2=>x1++x2) acc.toArray (List.replicate k its.toArray)=(acc++(List.replicate k its).flatten).toArray
 | 0,acc=>by simp
 | k + 1,acc=>by
  have e:acc.toArray++its.toArray=(acc++its).toArray:=by simp
  have e2:(acc++its)++(List.replicate k its).flatten=acc++(List.replicate (k + 1) its).flatten:=by
   rw [List.replicate_succ,List.flatten_cons,List.append_assoc]
  rw [← e2,← foldl_rep its k (acc++its),← e,List.replicate_succ,List.foldl_cons]

section
variable {X:Cx}{pins:List (Addr × Obj)}{σ:St}{H:Hp}{s:Shared}{l b:Addr}{xs ys zs:List V}

theorem Inv.lset {its its':List Value}{n:Nat}{f:Array Value->Array Value}{t':Nat} (I:Inv X pins σ H s) (hH:H l=some (.lst xs))
  (e:s.heap.get? l=some { cls:=.type "list",data:=.seq its.toArray n }) (hf:f its.toArray=its'.toArray) (hv:Vals ys its') (hz:ys.length<=sizeLine) :
  Inv X pins σ (upd H l (.lst ys)) { s with heap:=s.heap.update l (Obj.mapSeq f),toks:=t' }:=by
 have q:=PySem.IsL.update e f
 rw [hf] at q
 refine I.write (x:=l) (e:=l) (by rw [hH];exact trivial) (.inl rfl) (fun b' u hb hu=>(Heap.get?_update_other s.heap (Obj.mapSeq f) (Ne.symm hb)).trans hu) ⟨_,q⟩ ?_
 exact ⟨hz,its',_,hv,q⟩
theorem Inv.lnew {its:List Value}{t':Nat} (I:Inv X pins σ H s) (hv:Vals ys its) (hz:ys.length<=sizeLine) :
  Inv X pins σ (upd H s.heap.objs.size (.lst ys)) { s with heap:=s.heap.push { cls:=.type "list",data:=.seq its.toArray },toks:=t' } :=
 I.laid (fun _ _ q=>Heap.get?_push_of_some _ q) (Nat.le_refl _) ⟨hz,its,0,hv,Heap.get?_push_size _ rfl⟩
theorem Inv.fresh (I:Inv X pins σ H s):H s.heap.objs.size=none:=I.hok.fresh (Nat.le_refl _)
theorem Inv.lstM (I:Inv X pins σ H s) (hH:H l=some (.lst xs)):xs.length<=sizeLine/\∃ (its:List Value) (n:Nat),Vals xs its/\xs.length=its.length/\s.heap.get? l=some { cls:=.type "list",data:=.seq its.toArray n }:=by
 obtain ⟨z,its,n,r,e⟩:=I.hok l _ hH
 exact ⟨z,its,n,r,r.length,e⟩

theorem notLongL {n:Nat} (h:n<=sizeLine):Builtin.List.listTooLong n=false:=by
 unfold Builtin.List.listTooLong
 exact decide_eq_false (by omega)
end

section
variable {X:Cx}

def rAppend:V->List V->Hp->VK->Prop:=fun x vs H Q=>∃ l xs y,x=.ref l/\vs=[y]/\H l=some (.lst xs)/\xs.length < sizeLine/\Q .non (upd H l (.lst (xs++[y])))
theorem mt_append:MtM X "list.append" rAppend:=by
 intro pins s σ H x vs v us Q I rx rv h
 obtain ⟨l,xs,y,rfl,rfl,hH,hz,q⟩:=h
 cases rx
 obtain ⟨u,rfl,ru⟩:=rv.one
 obtain ⟨z,its,n,r,hl,e⟩:=I.lstM hH
 refine call_meets F.slot_list_append ⟨_,e,rfl⟩ F.entry_list_append (F.args_list_append_2 _ _) (PySem.list_append l its.toArray n u (by rw [List.size_toArray];omega)) ⟨e,?_⟩
 refine ⟨.non,_,I.lset (its':=its++[u]) hH e (by simp) (r.append (.cons ru .nil)) ?_,rfl,q⟩
 rw [List.length_append,List.length_singleton]
 omega

def rCat:R2:=fun x y H Q=>∃ l b xs zs,x=.ref l/\y=.ref b/\H l=some (.lst xs)/\H b=some (.lst zs)/\xs.length + zs.length<=sizeLine/\∀ p,H p=none->Q (.ref p) (upd H p (.lst (xs++zs)))
theorem op_cat:OpR X (binaryOp .Add) rCat:=by
 intro pins s σ H x y v u Q I rx ry h
 obtain ⟨l,b,xs,zs,rfl,rfl,hH,hB,hz,q⟩:=h
 cases rx
 cases ry
 obtain ⟨z,its,n,r,hl,e⟩:=I.lstM hH
 obtain ⟨z2,its2,n2,r2,hl2,e2⟩:=I.lstM hB
 refine PySem.P.add_list e e2 ?_ (by rw [List.size_toArray,List.size_toArray];omega)
 have ea:its.toArray++its2.toArray=(its++its2).toArray:=by simp
 rw [ea]
 exact ⟨.ref _,_,I.lnew (t':=s.toks) (r.append r2) (by rw [List.length_append];omega),rfl,q _ I.fresh⟩
def rRep:R2:=fun x y H Q=>∃ l k xs,x=.ref l/\y=.int k/\H l=some (.lst xs)/\-(2 ^ 63)<=k/\k < 2 ^ 63/\xs.length * k.toNat<=sizeLine ∧
 ∀ p,H p=none->Q (.ref p) (upd H p (.lst (List.replicate k.toNat xs).flatten))
theorem len_rep {α:Type} (xs:List α) (k:Nat):(List.replicate k xs).flatten.length=k * xs.length:=by
 induction k with
 | zero=>simp
 | succ k ih=>rw [List.replicate_succ,List.flatten_cons,List.length_append,ih,Nat.succ_mul,Nat.add_comm]
theorem op_rep:OpR X (binaryOp .Mult) rRep:=by
 intro pins s σ H x y v u Q I rx ry h
 obtain ⟨l,k,xs,rfl,rfl,hH,h1,h2,hz,q⟩:=h
 cases rx
 obtain ⟨t,rfl⟩:=ry
 obtain ⟨z,its,n,r,hl,e⟩:=I.lstM hH
 have hlen:its.toArray.size * k.toNat<=sizeLine:=by rw [List.size_toArray,← hl];exact hz
 have hcap:¬ its.toArray.size * k.toNat > (2 ^ 63 - 1) / 8:=by
  have:(sizeLine:Nat)<=(2 ^ 63 - 1) / 8:=by decide
  omega
 have hfit:¬ (!Builtin.List.listFitsIndex k)=true:=by
  rw [fitsIndex_both h1 h2]
  exact Bool.false_ne_true
 have hlong:¬ Builtin.List.listTooLong (its.toArray.size * k.toNat)=true:=by
  rw [notLongL hlen]
  exact Bool.false_ne_true
 have hnew:List.foldl (fun x1 x2=>x1++x2) #[] (List.replicate (if its.toArray.isEmpty=true then 0 else k.toNat) its.toArray)=(List.replicate k.toNat its).flatten.toArray:=by
  have f0:∀ m:Nat,List.foldl (fun x1 x2=>x1++x2) #[] (List.replicate m its.toArray)=(List.replicate m its).flatten.toArray:=fun m=>by
   have:=foldl_rep its m []
   rw [List.nil_append] at this
   exact this
  rw [f0]
  cases its with
  | nil=>simp
  | cons a r'=>rw [if_neg (by simp)]
 refine wpAny_binaryOp_repeat_ref (T:="list") (U:="int") (by decide) ⟨_,e,rfl⟩ (fun s'=>typeIs_int s' k t) noFill_list_mul F.fills_int_mul F.slot_int_rmul repeat_list F.slot_int_index.lookup
  (call_meets F.slot_int_rmul (typeIs_int s k t) F.entry_int_rmul (F.args_int_rmul_2 _ _) (int___rmul___int_list k t l its.toArray n)
   ⟨e,rfl,⟨_,e,rfl⟩,call_meets F.slot_list_mul ⟨_,e,rfl⟩ F.entry_list_mul (F.args_list_mul_2 _ _) (AutoListH.list___mul___list_int_3 l its.toArray n k t hfit hcap hlong) ⟨e,?_⟩⟩)
 rw [hnew]
 exact ⟨.ref _,_,I.lnew (t':=s.toks) (r.rep k.toNat) (by rw [len_rep,Nat.mul_comm];exact hz),rfl,q _ I.fresh⟩

end

section
variable {prog:Program}{w:World}{A:Around}{E:Value->Shared->Prop}{s:Shared}
end

section
variable {X:Cx}
end
end L2


namespace L2
open PySem PySem.Spec PyProof.Rows

section
variable {κ:Type} [DecidableEq κ]
def valV (kvs:List (κ × V)) (k:κ):Option V:=(kvs.find? fun kv=>decide (kv.1=k)).map (·.2)
def putK (kvs:List (κ × V)) (k:κ) (v:V):List (κ × V) :=
 if (kvs.any fun kv=>decide (kv.1=k))=true then kvs.map (fun kv=>if kv.1=k then (kv.1,v) else kv) else kvs++[(k,v)]
def dropK (kvs:List (κ × V)) (k:κ):List (κ × V):=kvs.filter fun kv=>decide (kv.1≠k)

theorem valV_pos {p:κ × V}{r:List (κ × V)}{k:κ} (e:p.1=k):valV (p::r) k=some p.2:=by simp [valV,List.find?_cons,e]
theorem valV_neg {p:κ × V}{r:List (κ × V)}{k:κ} (e:¬ p.1=k):valV (p::r) k=valV r k:=by simp [valV,List.find?_cons,e]
theorem valV_any (k:κ):∀ kvs:List (κ × V),(kvs.any fun kv=>decide (kv.1=k))=(valV kvs k).isSome
 | []=>rfl
 | p::r=>by
  rw [List.any_cons]
  by_cases e:p.1=k
  ·simp only [valV_pos e,decide_eq_true e,Bool.true_or,Option.isSome_some]
  ·rw [valV_neg e,decide_eq_false e,Bool.false_or];exact valV_any k r
theorem length_putK (kvs:List (κ × V)) (k:κ) (v:V):(putK kvs k v).length<=kvs.length + 1:=by
 unfold putK
 split
 ·rw [List.length_map];omega
 ·rw [List.length_append,List.length_cons,List.length_nil];omega
theorem RelO.isSome_eq {o:Option V}{u:Option Value} (r:RelO o u):o.isSome=u.isSome:=by
 cases o with
 | none=>cases u with
  | none=>rfl
  | some _=>exact (show False from r).elim
 | some _=>cases u with
  | none=>exact (show False from r).elim
  | some _=>rfl
theorem RelO.getD {o:Option V}{u:Option Value}{d:V}{d':Value} (r:RelO o u) (rd:RelV d d'):RelV (o.getD d) (u.getD d'):=by
 cases o with
 | none=>cases u with
  | none=>exact rd
  | some _=>exact (show False from r).elim
 | some _=>cases u with
  | none=>exact (show False from r).elim
  | some _=>exact r

theorem KV.val {kvs:List (κ × V)}{vs:List (κ × Value)} (r:KV kvs vs) (k:κ):RelO (valV kvs k) (valueAt vs k):=by
 unfold KV at r
 induction r with
 | nil=>exact True.intro
 | @cons p q ps qs h t ih =>
  obtain ⟨h1,h2⟩:=h
  by_cases e:p.1=k
  ·have e':q.1=k:=h1.symm.trans e
   have b:valueAt (q::qs) k=some q.2:=by simp [valueAt,List.find?_cons,e']
   rw [valV_pos e,b];exact h2
  ·have e':¬ q.1=k:=fun z=>e (h1.trans z)
   have b:valueAt (q::qs) k=valueAt qs k:=by simp [valueAt,List.find?_cons,e']
   rw [valV_neg e,b];exact ih
theorem KV.any {kvs:List (κ × V)}{vs:List (κ × Value)} (r:KV kvs vs) (k:κ):(kvs.any fun kv=>decide (kv.1=k))=vs.any fun kv=>decide (kv.1=k):=by
 unfold KV at r
 induction r with
 | nil=>rfl
 | cons h t ih=>rw [List.any_cons,List.any_cons,ih,h.1]
theorem KV.repl {kvs:List (κ × V)}{vs:List (κ × Value)} (r:KV kvs vs) (k:κ) {y:V}{u:Value} (ry:RelV y u) :
  KV (kvs.map fun kv=>if kv.1=k then (kv.1,y) else kv) (vs.map fun kv=>if kv.1=k then (kv.1,u) else kv):=by
 unfold KV at r ⊢
 induction r with
 | nil=>exact .nil
 | @cons p q ps qs h t ih =>
  rw [List.map_cons,List.map_cons]
  refine .cons ?_ ih
  obtain ⟨h1,h2⟩:=h
  by_cases e:p.1=k
  ·rw [if_pos e,if_pos (h1.symm.trans e)];exact ⟨h1,ry⟩
  ·rw [if_neg e,if_neg (fun z=>e (h1.trans z))];exact ⟨h1,h2⟩
theorem KV.put {kvs:List (κ × V)}{vs:List (κ × Value)} (r:KV kvs vs) (k:κ) {y:V}{u:Value} (ry:RelV y u):KV (putK kvs k y) (stored vs k u):=by
 unfold putK stored
 rw [r.any k]
 by_cases e:(vs.any fun kv=>decide (kv.1=k))=true
 ·rw [if_pos e,if_pos e];exact r.repl k ry
 ·rw [if_neg e,if_neg e];exact Paired.snoc r ⟨rfl,ry⟩
theorem KV.drop {kvs:List (κ × V)}{vs:List (κ × Value)} (r:KV kvs vs) (k:κ):KV (dropK kvs k) (without vs k):=by
 unfold KV at r ⊢
 unfold dropK without
 induction r with
 | nil=>exact .nil
 | @cons p q ps qs h t ih =>
  obtain ⟨h1,h2⟩:=h
  rw [List.filter_cons,List.filter_cons]
  by_cases e:p.1=k
  ·have a:¬ decide (p.1≠k)=true:=by simp [e]
   have b:¬ decide (q.1≠k)=true:=by simp [h1.symm.trans e]
   rw [if_neg a,if_neg b];exact ih
  ·have e':¬ q.1=k:=fun z=>e (h1.trans z)
   have a:decide (p.1≠k)=true:=by simp [e]
   have b:decide (q.1≠k)=true:=by simp [e']
   rw [if_pos a,if_pos b];exact .cons ⟨h1,h2⟩ ih
theorem KV.keys {kvs:List (κ × V)}{vs:List (κ × Value)} (r:KV kvs vs):kvs.map (·.1)=vs.map (·.1):=by
 unfold KV at r
 induction r with
 | nil=>rfl
 | cons h t ih=>rw [List.map_cons,List.map_cons,ih,h.1]
theorem KV.length {kvs:List (κ × V)}{vs:List (κ × Value)} (r:KV kvs vs):kvs.length=vs.length:=Paired.length r
end


theorem kV_is {P:Program}{w:World}{k:Key}{u:Value} (r:RelV (kV k) u):(mixKind P w).is k u=true:=by
 cases k with
 | inl i=>obtain ⟨t,e⟩:=(show ∃ t,u=Value.int i t from r);subst e;exact mixKind_int P w i t
 | inr x=>obtain ⟨t,e⟩:=(show ∃ t,u=Value.str x t from r);subst e;exact mixKind_str P w x t
theorem kV_inj {a b:Key} (e:kV a=kV b):a=b:=by
 cases a with
 | inl i=>cases b with
  | inl j=>have e':V.int i=V.int j:=e;injection e' with e';rw [e']
  | inr y=>exact nomatch (show V.int i=V.str y from e)
 | inr x=>cases b with
  | inl j=>exact nomatch (show V.str x=V.int j from e)
  | inr y=>have e':V.str x=V.str y:=e;injection e' with e';rw [e']
theorem kVs_inj:∀ {a b:List Key},a.map kV=b.map kV->a=b
 | [],[],_=>rfl
 | [],_::_,e=>by simp at e
 | _::_,[],e=>by simp at e
 | x::xs,y::ys,e=>by
  rw [List.map_cons,List.map_cons] at e
  injection e with e1 e2
  rw [kV_inj e1,kVs_inj e2]
theorem items_are {P:Program}{w:World}:∀ {ks:List Key}{us:List Value},Vals (ks.map kV) us->ItemsAre (mixKind P w) ks us
 | [],_,r=>by rw [List.map_nil] at r;cases r;exact .nil
 | k::ks,_,r=>by
  rw [List.map_cons] at r
  cases r with
  | cons h t=>exact .cons (kV_is h) (items_are t)

abbrev KT (H:Hp):List (List Key × V)->List (List Key × Addr × Value)->Prop:=Paired fun p q=>p.1=q.1/\H q.2.1=some (.tup (p.1.map kV))/\RelV p.2 q.2.2
theorem KT.val {H:Hp}{kvs:List (List Key × V)}{xs:List (List Key × Addr × Value)} (r:KT H kvs xs) (k:List Key):RelO (valV kvs k) ((atKey xs k).map (·.2)):=by
 induction r with
 | nil=>exact True.intro
 | @cons p q ps qs h t ih =>
  obtain ⟨h1,_,h2⟩:=h
  by_cases e:p.1=k
  ·have e':q.1=k:=h1.symm.trans e
   have b:atKey (q::qs) k=some q.2:=by simp [atKey,List.find?_cons,e']
   rw [valV_pos e,b];exact h2
  ·have e':¬ q.1=k:=fun z=>e (h1.trans z)
   have b:atKey (q::qs) k=atKey qs k:=by simp [atKey,List.find?_cons,e']
   rw [valV_neg e,b];exact ih
theorem KT.repl {H:Hp}{kvs:List (List Key × V)}{xs:List (List Key × Addr × Value)} (r:KT H kvs xs) (k:List Key) {y:V}{u:Value} (ry:RelV y u) :
  KT H (kvs.map fun kv=>if kv.1=k then (kv.1,y) else kv) (xs.map (putAt k u)):=by
 induction r with
 | nil=>exact .nil
 | @cons p q ps qs h t ih =>
  rw [List.map_cons,List.map_cons]
  refine .cons ?_ ih
  obtain ⟨h1,h2,h3⟩:=h
  unfold putAt
  by_cases e:p.1=k
  ·rw [if_pos e,if_pos (h1.symm.trans e)];exact ⟨h1,h2,ry⟩
  ·rw [if_neg e,if_neg (fun z=>e (h1.trans z))];exact ⟨h1,h2,h3⟩
theorem KT.put {H:Hp}{kvs:List (List Key × V)}{xs:List (List Key × Addr × Value)} (r:KT H kvs xs) (k:List Key) {b:Addr}{y:V}{u:Value} (hb:H b=some (.tup (k.map kV))) (ry:RelV y u) :
  KT H (putK kvs k y) (storedH xs k b u):=by
 have e:(kvs.any fun kv=>decide (kv.1=k))=(atKey xs k).isSome:=by
  rw [valV_any,(r.val k).isSome_eq,Option.isSome_map]
 unfold putK storedH
 rw [e]
 by_cases q:(atKey xs k).isSome=true
 ·rw [if_pos q,if_pos q];exact r.repl k ry
 ·rw [if_neg q,if_neg q];exact Paired.snoc r ⟨rfl,hb,ry⟩
theorem KT.keeps {H H':Hp}{kvs:List (List Key × V)}{xs:List (List Key × Addr × Value)} (r:KT H kvs xs) (ht:∀ b ys,H b=some (.tup ys)->H' b=some (.tup ys)):KT H' kvs xs :=
 Paired.mapP r fun _ _ z=>⟨z.1,ht _ _ z.2.1,z.2.2⟩

section
variable {P:Program}{w:World}{H:Hp}{h:Heap}{a:Addr}
theorem rd_of {u:HO} (ok:HOk P w H h) (e:Rd H a u):ObjOk P w H h a u:=e.ok ok
theorem dk_rd {kvs:List (Key × V)} (ok:HOk P w H h) (e:Rd H a (.dK kvs)):kvs.length<=sizeLine/\(a == sysModules)=false/\∃ vs,KV kvs vs/\h.DictOf (mixKind P w) a vs :=
 show ObjOk P w H h a (.dK kvs) from rd_of ok e
theorem dk_of {kvs:List (Key × V)} (ok:HOk P w H h) (e:H a=some (.dK kvs)):kvs.length<=sizeLine/\(a == sysModules)=false/\∃ vs,KV kvs vs/\h.DictOf (mixKind P w) a vs:=dk_rd ok (.inl e)
theorem key_of {ks:List Key} (ok:HOk P w H h) (e:H a=some (.tup (ks.map kV))):(tupleKind (mixKind P w)).is h ks a:=by
 obtain ⟨_,its,r,o,h1,h2,n,h3⟩:=(show ObjOk P w H h a (.tup (ks.map kV)) from ok a _ e)
 exact ⟨o,its.toArray,n,h1,h2,h3,by simpa using items_are r⟩
theorem dt_rd {kvs:List (List Key × V)} (ok:HOk P w H h) (e:Rd H a (.dT kvs)):kvs.length<=sizeLine/\(a == sysModules)=false ∧
  ∃ xs,KT H kvs xs/\h.DictOfH (tupleKind (mixKind P w)) a xs:=by
 obtain ⟨z,y,xs,r,o,es,ep,h1,h2,h3,h4,h5⟩:=(show ObjOk P w H h a (.dT kvs) from rd_of ok e)
 refine ⟨z,y,xs,r,o,es,ep,h1,h2,h3,h4,fun x hx=>?_,h5⟩
 have all:∀ {l:List (List Key × V)}{m:List (List Key × Addr × Value)},KT H l m->∀ x∈m,(tupleKind (mixKind P w)).is h x.1 x.2.1:=by
  intro l m q
  induction q with
  | nil=>intro x hx;exact nomatch hx
  | @cons p q ps qs hq t ih =>
   intro x hx
   rcases List.mem_cons.mp hx with e | hx
   ·subst e
    exact key_of ok (by rw [← hq.1];exact hq.2.1)
   ·exact ih x hx
 exact all r x hx
theorem dt_of {kvs:List (List Key × V)} (ok:HOk P w H h) (e:H a=some (.dT kvs)):kvs.length<=sizeLine/\(a == sysModules)=false ∧
  ∃ xs,KT H kvs xs/\h.DictOfH (tupleKind (mixKind P w)) a xs:=dt_rd ok (.inl e)
end

def DGet (H:Hp) (a:Addr) (y:V) (r:Option V):Prop :=
 (∃ kvs k,Rd H a (.dK kvs)/\y=kV k/\r=valV kvs k) ∨ ∃ kvs k b,Rd H a (.dT kvs)/\y=.ref b/\H b=some (.tup (k.map kV))/\r=valV kvs k
def DPut (H:Hp) (a:Addr) (y v:V) (H':Hp):Prop :=
 (∃ kvs k,H a=some (.dK kvs)/\y=kV k/\kvs.length < sizeLine/\H'=upd H a (.dK (putK kvs k v))) ∨
 ∃ kvs k b,H a=some (.dT kvs)/\y=.ref b/\H b=some (.tup (k.map kV))/\kvs.length < sizeLine/\H'=upd H a (.dT (putK kvs k v))
theorem DGet.k {H:Hp}{a:Addr}{kvs:List (Key × V)}{k:Key} (e:H a=some (.dK kvs)):DGet H a (kV k) (valV kvs k):=.inl ⟨kvs,k,.inl e,rfl,rfl⟩
theorem DGet.t {H:Hp}{a b:Addr}{kvs:List (List Key × V)}{k:List Key} (e:H a=some (.dT kvs)) (eb:H b=some (.tup (k.map kV))):DGet H a (.ref b) (valV kvs k):=.inr ⟨kvs,k,b,.inl e,rfl,eb,rfl⟩
theorem DPut.k {H:Hp}{a:Addr}{kvs:List (Key × V)}{k:Key}{v:V} (e:H a=some (.dK kvs)) (hl:kvs.length < sizeLine):DPut H a (kV k) v (upd H a (.dK (putK kvs k v))):=.inl ⟨kvs,k,e,rfl,hl,rfl⟩
theorem DPut.t {H:Hp}{a b:Addr}{kvs:List (List Key × V)}{k:List Key}{v:V} (e:H a=some (.dT kvs)) (eb:H b=some (.tup (k.map kV))) (hl:kvs.length < sizeLine) :
  DPut H a (.ref b) v (upd H a (.dT (putK kvs k v))):=.inr ⟨kvs,k,b,e,rfl,eb,hl,rfl⟩


section
variable {X:Cx}{pins:List (Addr × Obj)}{σ:St}{H:Hp}{s:Shared}{a:Addr}{y v:V}{u r:Value}{o:Option V}{A:Around}{E:Value->Shared->Prop}

theorem Inv.big (I:Inv X pins σ H s):sysModules < s.heap.objs.size:=by
 have h:mainGlobals < s.heap.objs.size:=(I.mod.glob.keeps I.bk).lt
 exact Nat.lt_trans (by decide) h

theorem d_getItem {Q:Value->Shared->Prop} (hu:A.units + 1 < cLine) (I:Inv X pins σ H s) (g:DGet H a y (some v)) (ry:RelV y u) (h:∀ w' s',Inv X pins σ H s'->RelV v w'->Q w' s') :
  wpAny (model X.prog X.w) A (getItem (.ref a) u) Q E s:=by
 rcases g with ⟨kvs,k,e,ey,l⟩ | ⟨kvs,k,b,e,ey,eb,l⟩
 ·subst ey
  obtain ⟨z,hd,vs,rel,dd⟩:=dk_rd I.hok e
  obtain ⟨w',hw,rw'⟩:=RelO.some_of (v:=v) (o:=valueAt vs k) (by rw [l];exact rel.val k)
  exact wpAny_getItem_of (kV_is ry) dd.mapOf hw (h w' _ (I.tok _) rw')
 ·subst ey
  cases (show u=Value.ref b from ry)
  obtain ⟨z,hd,xs,rel,dd⟩:=dt_rd I.hok e
  obtain ⟨w',hw,rw'⟩:=RelO.some_of (v:=v) (o:=(atKey xs k).map (·.2)) (by rw [l];exact rel.val k)
  obtain ⟨p,hp,hp2⟩:=Option.map_eq_some_iff.mp hw
  refine wpAny_getItem_heap (tupleKind_room_in1 hu) (key_of I.hok eb) dd hp ?_
  rw [hp2]
  exact h w' _ (I.tok _) rw'
theorem d_in {Q:Value->Shared->Prop} (hu:A.units + 1 < cLine) (I:Inv X pins σ H s) (g:DGet H a y o) (ry:RelV y u) (h:∀ s',Inv X pins σ H s'->Q (.bool o.isSome) s') :
  wpAny (model X.prog X.w) A (compareOp .In u (.ref a)) Q E s:=by
 rcases g with ⟨kvs,k,e,ey,l⟩ | ⟨kvs,k,b,e,ey,eb,l⟩
 ·subst ey
  obtain ⟨z,hd,vs,rel,dd⟩:=dk_rd I.hok e
  refine wpAny_in_of (kV_is ry) hd dd.mapOf ?_
  rw [← (rel.val k).isSome_eq,← l]
  exact h _ (I.tok _)
 ·subst ey
  cases (show u=Value.ref b from ry)
  obtain ⟨z,hd,xs,rel,dd⟩:=dt_rd I.hok e
  refine wpAny_in_heap (tupleKind_room_in1 hu) (key_of I.hok eb) hd dd ?_
  have q:=(rel.val k).isSome_eq
  rw [Option.isSome_map] at q
  rw [← q,← l]
  exact h _ (I.tok _)
theorem d_write {h':Heap}{t':Nat}{ob:HO} (I:Inv X pins σ H s) (mu:Mut (H a)) (hs:Heap.SameBut a s.heap h') (he:∃ q,h'.get? a=some q) (new:ObjOk X.prog X.w (upd H a ob) h' a ob) :
  Inv X pins σ (upd H a ob) { s with heap:=h',toks:=t' } :=
 I.write (x:=a) (e:=a) mu (.inl rfl) (fun b q hb z=>(hs.2 b hb).trans z) he new
theorem dk_new {P:Program}{w:World}{H':Hp}{h':Heap}{kvs:List (Key × V)}{vs:List (Key × Value)} (z:kvs.length<=sizeLine) (hd:(a == sysModules)=false) (rel:KV kvs vs) (dd:h'.DictOf (mixKind P w) a vs) :
  ObjOk P w H' h' a (.dK kvs):=⟨z,hd,vs,rel,dd⟩
theorem d_setItem {H':Hp}{Q:Unit->Shared->Prop} (hu:A.units + 1 < cLine) (I:Inv X pins σ H s) (g:DPut H a y v H') (ry:RelV y u) (rv:RelV v r) (h:∀ s',Inv X pins σ H' s'->Q () s') :
  wpAny (model X.prog X.w) A (setItem (.ref a) u r) Q E s:=by
 rcases g with ⟨kvs,k,e,ey,l,eH⟩ | ⟨kvs,k,b,e,ey,eb,l,eH⟩
 ·subst ey eH
  obtain ⟨z,hd,vs,rel,dd⟩:=dk_of I.hok e
  have hz:vs.length<=sizeLine:=by rw [← rel.length];exact z
  have hl:(putK kvs k v).length<=sizeLine:=by have:=length_putK kvs k v;omega
  refine wpAny_setItem_pairs (hsz:=hz) (kV_is ry) dd fun h' dd' hs=>h _ ?_
  have he:∃ q,h'.get? a=some q:=let ⟨q,_,_,hq,_⟩:=dd';⟨q,hq⟩
  exact d_write I (by rw [e];exact True.intro) hs he (dk_new hl hd (rel.put k rv) dd')
 ·subst ey eH
  cases (show u=Value.ref b from ry)
  obtain ⟨z,hd,xs,rel,dd⟩:=dt_of I.hok e
  have hz:xs.length<=sizeLine:=by rw [← Paired.length rel];exact z
  have hl:(putK kvs k v).length<=sizeLine:=by have:=length_putK kvs k v;omega
  refine wpAny_setItem_heap (hsz:=hz) (tupleKind_room_in1 hu) (key_of I.hok eb) dd fun h' dd' hs=>h _ ?_
  obtain ⟨q,es,ep,hq,h2,h3,h4,_,h5⟩:=dd'
  refine d_write I (by rw [e];exact True.intro) hs ⟨q,hq⟩ ⟨hl,hd,_,(rel.put k eb rv).keeps fun c ys ec=>?_,q,es,ep,hq,h2,h3,h4,h5⟩
  rw [upd_ne (ne_of ec e (fun z=>nomatch z))]
  exact ec
end

section
variable {X:Cx}{pins:List (Addr × Obj)}{σ:St}{H:Hp}{s:Shared}{a:Addr}{kvs:List (Key × V)}{k:Key}{u:Value}{A:Around}{E:Value->Shared->Prop}
theorem d_len {Q:Value->Shared->Prop} (I:Inv X pins σ H s) (e:Rd H a (.dK kvs)) (h:∀ t s',Inv X pins σ H s'->Q (.int kvs.length t) s'):wpAny (model X.prog X.w) A (call (.builtin "len") [.ref a]) Q E s:=by
 obtain ⟨z,hd,vs,rel,dd⟩:=dk_rd I.hok e
 refine call_len_dict hd dd (by rw [← rel.length];rw [sizeLine_eq] at z;omega) ?_
 rw [← rel.length]
 exact h _ _ (I.tok _)
end


def NoSl (i:Expr):Prop:=∀ ov iv,subscripted i false ov iv=operate [ov,iv] (getItem ov iv)
theorem subD_of {prog:Program}{w:World}{A:Around}{E:Value->Shared->Prop}{s:Shared}{env:Env}{value slice:Expr}{pos:Pos}{T id:String}{Q:Value->Shared->Prop}
  (hl:typeLookup (.type T) "__getitem__"=pure (some (.builtin id))) (hs:NoSl slice)
  (h:wpAny (model prog w) A (eval value env) (fun o s₁=>wpAny (model prog w) A (eval slice env) (fun i s₂=>s₂.TypeIs o T/\wpAny (model prog w) A (getItem o i) Q E s₂) E s₁) E s) :
  wpAny (model prog w) A (eval (.Subscript value slice pos) env) Q E s:=by
 refine Subscript_ (wpAny_mono h (fun o s₁ h₁=>wpAny_mono h₁ (fun i s₂ h₂=>?_) fun _ _ x=>x) fun _ _ x=>x)
 obtain ⟨hT,h₂⟩:=h₂
 unfold subscriptTail
 refine wpAny_bind ?_
 rw [getitemInPython_of_ne hT.not_modules]
 refine wpAny_bind (wpAny_specialOf hT hl ?_)
 have fin:wpAny (model prog w) A (subscripted slice false o i) (fun r s₃=>wpAny (model prog w) A (letTemporaryGo value o r >>= fun _=>pure r) Q E s₃) E s₂:=by
  rw [hs o i]
  exact wpAny_operating (wpAny_mono h₂ (fun r s₃ h₃=>wpAny_bind (wpAny_letTemporaryGo (wpAny_pure h₃))) fun _ _ x=>x)
 first
  | exact wpAny_pure (wpAny_bind fin)
  | exact wpAny_bind (wpAny_pure (wpAny_bind fin))
  | exact wpAny_bind fin

theorem dict_typeIs {X:Cx}{pins:List (Addr × Obj)}{σ:St}{H:Hp}{s:Shared}{a:Addr}{y:V}{o:Option V} (I:Inv X pins σ H s) (g:DGet H a y o):s.TypeIs (.ref a) "dict":=by
 rcases g with ⟨kvs,k,e,_,_⟩ | ⟨kvs,k,b,e,_,_,_⟩
 ·obtain ⟨_,_,vs,_,dd⟩:=dk_rd I.hok e
  exact dd.typeIs
 ·obtain ⟨_,_,xs,_,dd⟩:=dt_rd I.hok e
  exact dd.typeIs
def tDGet (td ty:TE):TE:=fun σ H Q=>td σ H fun x H1=>ty σ H1 fun y H2=>∃ a v,x=.ref a/\DGet H2 a y (some v)/\Q v H2
def sDPut (td ty tv:TE):TS:=fun D σ H=>tv σ H fun v H1=>td σ H1 fun x H2=>ty σ H2 fun y H3=>∃ a H4,x=.ref a/\DPut H3 a y v H4/\D.nx σ H4
section
variable {X:Cx}{o i e value:Expr}{pos pos' tpos:Pos}{td ty tv:TE}
theorem pe_dget (hu:X.A.units + 1 < cLine) (ho:PE X o td) (hi:PE X i ty) (hs:NoSl i):PE X (.Subscript o i pos) (tDGet td ty):=by
 intro pins s σ H Q I h
 refine subD_of PySem.F.slot_dict_getitem.lookup hs (thn (ho pins s σ H _ I h) fun u s1 ⟨x,H1,I1,rx,q1⟩=>thn (hi pins s1 σ H1 _ I1 q1) fun iv s2 ⟨y,H2,I2,ry,a,v,ex,g,q2⟩=>?_)
 subst ex
 obtain rfl:u=Value.ref a:=rx
 exact ⟨dict_typeIs I2 g,d_getItem hu I2 g ry fun w' s3 I3 rw'=>⟨v,H2,I3,rw',q2⟩⟩
theorem ps_dput (hu:X.A.units + 1 < cLine) (ho:PE X o td) (hi:PE X i ty) (hv:PE X value tv) (hs:swapsWith value (some (.Subscript o i pos')) pos.line X.env=pure false) :
  PS X (.Assign [.Subscript o i pos'] value pos) (sDPut td ty tv):=by
 intro pins s σ H D I h
 refine wpAny_Assign_Subscript (thn (hv pins s σ H _ I h) fun r s1 ⟨v,H1,I1,rv,q1⟩=>thn (ho pins s1 σ H1 _ I1 q1) fun u s2 ⟨x,H2,I2,rx,q2⟩=>thn (hi pins s2 σ H2 _ I2 q2) fun iv s3 ⟨y,H3,I3,ry,a,H4,ex,g,q3⟩=>?_) hs
 subst ex
 obtain rfl:u=Value.ref a:=rx
 exact d_setItem hu I3 g ry rv fun s4 I4=>⟨σ,H4,I4,q3⟩
end


theorem dk_empty {P:Program}{w:World}{H:Hp} (h:Heap) (hb:sysModules < h.objs.size):ObjOk P w H (h.push { cls:=.type "dict",data:=.dict #[] }) h.objs.size (.dK []) :=
 ⟨Nat.zero_le _,beq_eq_false_iff_ne.mpr (Ne.symm (Nat.ne_of_lt hb)),[],.nil,Heap.DictOf.new h⟩
theorem dt_empty {P:Program}{w:World}{H:Hp} (h:Heap) (hb:sysModules < h.objs.size):ObjOk P w H (h.push { cls:=.type "dict",data:=.dict #[] }) h.objs.size (.dT []) :=
 ⟨Nat.zero_le _,beq_eq_false_iff_ne.mpr (Ne.symm (Nat.ne_of_lt hb)),[],.nil,_,#[],0,Heap.get?_push_size _ rfl,⟨rfl,rfl,rfl⟩,rfl,rfl,List.nodup_nil⟩
def tDNewK:TE:=fun _ H Q=>∀ p,H p=none->Q (.ref p) (upd H p (.dK []))
def tDNewT:TE:=fun _ H Q=>∀ p,H p=none->Q (.ref p) (upd H p (.dT []))
section
variable {X:Cx}{pos:Pos}
theorem pe_dnewK:PE X (.Dict [] [] pos) tDNewK:=fun pins s σ H Q I h =>
 wpAny_Dict_empty ⟨.ref s.heap.objs.size,_,I.laid (a:=s.heap.objs.size) (o:=.dK []) (t':=s.toks) (fun _ _ q=>Heap.get?_push_of_some _ q) (Nat.le_refl _) (dk_empty s.heap I.big),rfl,h _ (I.hok.fresh (Nat.le_refl _))⟩
theorem pe_dnewT:PE X (.Dict [] [] pos) tDNewT:=fun pins s σ H Q I h =>
 wpAny_Dict_empty ⟨.ref s.heap.objs.size,_,I.laid (a:=s.heap.objs.size) (o:=.dT []) (t':=s.toks) (fun _ _ q=>Heap.get?_push_of_some _ q) (Nat.le_refl _) (dt_empty s.heap I.big),rfl,h _ (I.hok.fresh (Nat.le_refl _))⟩
end

structure M1 (X:Cx) (o:Expr) (m:Str) (apos:Pos) (e:Expr) (cpos:Pos):Prop where
 base:attributeBase o m X.env (eval o X.env)=eval o X.env
 few:((backTo cpos (starEach [e] X.env)).all (fun x=>!x.1) && (backToKw cpos (keywordEach [] X.env)).all (fun x=>x.1.isSome)
  && decide (([e]:List Expr).length + ([]:List Keyword).length + (if ([]:List Keyword).isEmpty then 0 else 1) < 30))=true
 line:(apos.endLine == cpos.line)=true
 trees:backTo cpos (starEach [e] X.env)=[(false,eval e X.env)]
def IsD (H:Hp) (a:Addr):Prop:=(∃ kvs,Rd H a (.dK kvs)) ∨ ∃ kvs,Rd H a (.dT kvs)
theorem isD_at {X:Cx}{pins:List (Addr × Obj)}{σ:St}{H:Hp}{s:Shared}{a:Addr} (I:Inv X pins σ H s) (d:IsD H a) :
  s.TypeIs (.ref a) "dict"/\(∀ b,Value.ref a=.ref b->∃ ob,s.heap.get? b=some ob/\ob.dict=none)/\(a == sysModules)=false:=by
 rcases d with ⟨kvs,e⟩ | ⟨kvs,e⟩
 ·obtain ⟨_,hd,vs,_,dd⟩:=dk_rd I.hok e
  refine ⟨dd.typeIs,fun b q=>?_,hd⟩
  cases q
  obtain ⟨ob,_,_,h1,h2,_⟩:=dd
  exact ⟨ob,h1,h2.2.1⟩
 ·obtain ⟨_,hd,xs,_,dd⟩:=dt_rd I.hok e
  refine ⟨dd.typeIs,fun b q=>?_,hd⟩
  cases q
  obtain ⟨ob,_,_,h1,h2,_⟩:=dd
  exact ⟨ob,h1,h2.2.1⟩

section
variable {X:Cx}{pins:List (Addr × Obj)}{σ:St}{H:Hp}{s:Shared}{a:Addr}{y d:V}{u r:Value}{o:Option V}{A:Around}{E:Value->Shared->Prop}
theorem d_get1 {Q:Value->Shared->Prop} (hu:A.units + 1 < cLine) (I:Inv X pins σ H s) (g:DGet H a y o) (ry:RelV y u) (h:∀ w' s',Inv X pins σ H s'->RelV (o.getD .non) w'->Q w' s') :
  wpAny (model X.prog X.w) A (call (.builtin "dict.get") [.ref a,u]) Q E s:=by
 rcases g with ⟨kvs,k,e,ey,l⟩ | ⟨kvs,k,b,e,ey,eb,l⟩
 ·subst ey
  obtain ⟨z,hd,vs,rel,dd⟩:=dk_rd I.hok e
  refine call_meetsIn PySem.F.slot_dict_get dd.typeIs PySem.F.entry_dict_get (PySem.F.args_dict_get_2 _ _) (meets_dict_get (mixKind X.prog X.w) a (kV_is ry) hd) ⟨_,dd.mapOf,h _ _ (I.tok _) ?_⟩
  rw [l]
  exact (rel.val k).getD rfl
 ·subst ey
  cases (show u=Value.ref b from ry)
  obtain ⟨z,hd,xs,rel,dd⟩:=dt_rd I.hok e
  refine call_meetsIn PySem.F.slot_dict_get dd.typeIs PySem.F.entry_dict_get (PySem.F.args_dict_get_2 _ _) (meetsH_dict_get (tupleKind (mixKind X.prog X.w)) a b hd) ⟨tupleKind_room_in1 hu,k,xs,key_of I.hok eb,dd,h _ _ (I.tok _) ?_⟩
  rw [l]
  exact (rel.val k).getD rfl
end

def tDGet1 (td ty:TE):TE:=fun σ H Q=>td σ H fun x H1=>∃ a,x=.ref a/\IsD H1 a/\ty σ H1 fun y H2=>∃ o,DGet H2 a y o/\Q (o.getD .non) H2
section
variable {X:Cx}{o e f:Expr}{apos cpos:Pos}{td ty tx:TE}
theorem pe_dget1 (hu:X.A.units + 1 < cLine) (ho:PE X o td) (he:PE X e ty) (m:M1 X o "get" apos e cpos):PE X (.Call (.Attribute o "get" apos) [e] [] cpos) (tDGet1 td ty):=by
 intro pins s σ H Q I h
 refine wpAny_Call_method m.base m.few m.line PySem.F.plainAttrs_dict PySem.F.slot_dict_get PySem.F.type_dict_get (thn (ho pins s σ H _ I h) fun u s1 ⟨x,H1,I1,rx,a,ex,d,q1⟩=>?_)
 subst ex
 obtain rfl:u=Value.ref a:=rx
 obtain ⟨t1,t2,_⟩:=isD_at I1 d
 refine ⟨t1,t2,?_⟩
 rw [m.trees]
 refine Calls.callWith_builtin rfl (Calls.evalArgs_plain (Calls.spliced_cons (thn (he pins s1 σ H1 _ I1 q1) fun iv s2 ⟨y,H2,I2,ry,ov,g,q2⟩=>Calls.spliced_nil ?_)))
 exact d_get1 hu I2 g ry fun w' s3 I3 rw'=>⟨_,H2,I3,rw',q2⟩
end

section
variable {X:Cx}{pins:List (Addr × Obj)}{σ:St}{H:Hp}{s:Shared}{a:Addr}{kvs:List (Key × V)}{A:Around}{E:Value->Shared->Prop}
end


section
variable {X:Cx}{pins:List (Addr × Obj)}{σ:St}{H:Hp}{s:Shared}{a:Addr}{y:V}{u:Value}{A:Around}{E:Value->Shared->Prop}
end
end L2


namespace Att
open PySem PySem.W PySem.Calls PyProof.Rows

theorem ints_of_wellAll {P:Params}{h:Heap}:∀ (ns:List Int) (vs:List Value),WellAll P h vs (ns.map WData.int)->IntsAre vs ns:=by
 intro ns
 induction ns with
 | nil =>
  intro vs w
  rw [List.map_nil] at w
  cases w
  exact .nil
 | cons n ns ih =>
  intro vs w
  rw [List.map_cons] at w
  cases w with
  | cons a b =>
   cases a
   exact .cons _ _ (ih _ b)

theorem script_of {l:OpenLaw}{n:Nat} (hn:l.most=some n) {P:Params}{h:Heap}{args:List WData}{vals:List Value}
  (hpre:l.row.toRowW.claim.pre args=true) (hwl:WellAll P h vals args) :
  ∃ a vs ns,vals=[Value.ref a]/\args=[WData.list (ns.map WData.int)]/\h.get? a=some { cls:=.type "list",data:=.seq vs.toArray }/\IntsAre vs ns/\ns.length<=n:=by
 have hsh:WShape.hasAll [] args [.list .int]=true:=(pre_splitW hpre).1
 have hc:l.pre.holds [] { args:=args }=true:=(pre_splitW hpre).2
 obtain ⟨d,r,rfl,h1,h2⟩:=hasAllW_cons hsh
 obtain rfl:=hasAllW_nil h2
 obtain ⟨xs,rfl,h3⟩:=hasW_list h1
 obtain ⟨ns,rfl⟩:=items_int h3
 have hlen:ns.length<=n:=by
  unfold OpenLaw.pre at hc
  have h4:(WTm.not (.lt (.lit (.int (n:Int))) (.len (.arg 0)))).holds [] { args:=[.list (ns.map .int)] }=true:=by
   have h4:=(holds_andW hc).1
   rw [hn] at h4
   exact h4
  have h5:=condW_of h4 (w_not (w_lt w_lit (w_len_list (w_arg rfl))))
  rw [List.length_map] at h5
  refine Nat.le_of_not_lt fun q=>?_
  have q':(n:Int) < ((ns.length:Nat):Int):=by omega
  first
   | (rw [decide_eq_true q'] at h5;exact absurd h5 (by decide))
   | (simp at h5;omega)
 cases hwl with
 | cons w1 w2 =>
  cases w2
  cases w1 with
  | list ho hall=>exact ⟨_,_,ns,rfl,rfl,ho,ints_of_wellAll ns _ hall,hlen⟩

theorem post_true (l:OpenLaw) (args:List WData):l.row.toRowW.claim.post args (.bool true) args=true :=
 postW_of (r:=l.row.toRowW) (X:=(true == true))
  (show WShape.has [] (.bool true) .bool=true by first | rfl | decide | simp [WShape.has,WShape.arms,WShape.armsAll])
  (show (WTm.eq .res (.lit (.bool true))).value [] { args:=args,res:=some (.bool true),after:=args }=some (.bool (true == true)) from w_eq_bool (w_res rfl) w_lit) rfl

theorem attach_call {l:OpenLaw}{n:Nat}{q:Program}{loose:List Str}{XP:(Str->Option Value)->Heap->Prop}{YP:World->Heap->Prop}{d:DefRec}
  (hn:l.most=some n) (hdf:d.params.defaults=[])
  (call:∀ (w:World) (s₀ s₁:Shared) (mg mb:Str->Option Value) (fa:Addr) (o:Obj) (pm cd doc:Value) (a:Addr) (vs:List Value) (ns:List Int),
   Ground q loose [] XP w s₀ mg mb s₁.heap->YP w s₁.heap →
   s₁.heap.get? fa=some o->o.data=.func (docDef d.name d.params d.body d.scope pm cd doc)->s₁.heap.CodeRec cd d.name->mg d.name=some (.ref fa) →
   s₁.heap.get? a=some { cls:=.type "list",data:=.seq vs.toArray }->IntsAre vs ns->ns.length<=n->s₁.gens=#[] →
   codeAny (model l.prog w) callerA (.call (.ref fa) ⟨[.ref a],[]⟩) (fun r s'=>r=.ok (.ret (.bool true))/\OldK s₁.heap s'.heap/\s'.os=s₁.os/\AllBare s'.gens) s₁) :
  WalkO q loose XP YP l.row.toRowW d [] (fun f vs=>PySem.call f vs):=by
 intro w s₀ s₁ mg mb G Y fa o pm cd doc dV kV ho hd hcd hD hmg hg args vals as hpre hlay hrd hwl hlo
 obtain rfl:dV=.none:=Dflts.none hD hdf
 obtain rfl:kV=.none:=Dflts.noKw hD
 obtain ⟨a,vs,ns,rfl,rfl,hobj,hints,hlen⟩:=script_of hn hpre hwl
 refine enter_call (codeAny_mono (call w s₀ s₁ mg mb fa o pm cd doc a vs ns G Y ho (fd_plain hd) hcd hmg hobj hints hlen hg) fun r s' hq=>?_)
 obtain ⟨rfl,h2,h3,h4⟩:=hq
 exact ⟨.inl ⟨.bool true,.bool true,[],rfl,fun _=>rfl,.bool true,post_true l _,fun _=>⟨List.Pairwise.nil,fun _ hm=>(nomatch hm)⟩⟩,h2,h3,h4⟩

section
variable {prog:Program}{w:World}{A:Around}{E:Value->Shared->Prop}{s:Shared}{K:Frag}

def ledger (h:Heap) (L d:Addr):List (Addr × Obj):=(List.range h.objs.size).filterMap fun a=>if a=L ∨ a=d then none else (h.get? a).map fun o=>(a,o)
end
end Att

namespace L2
open PySem PySem.Spec PyProof.Rows

theorem vals_ints:∀ {vs:List Value}{ns:List Int},IntsAre vs ns->Vals (ns.map V.int) vs
 | _,_,.nil=>.nil
 | _,_,.cons n t h=>.cons ⟨t,rfl⟩ (vals_ints h)

end L2

namespace L2
open PySem PySem.Spec PyProof.Rows

end L2

namespace L2
open PySem PySem.Spec PyProof.Rows

def inClass (s:Stmt) (j:Nat):Stmt:=match s with
 | .ClassDef _ _ _ body _ _ _ _ _ _ _=>body.getD j (.Pass ⟨0,0,0,0⟩)
 | _=>.Pass ⟨0,0,0,0⟩
def defArgs (s:Stmt):Arguments:=match s with
 | .FunctionDef _ a _ _ _ _ _ _ _ _=>a
 | _=>{ posonlyargs:=[],args:=[],vararg:=none,kwonlyargs:=[],kw_defaults:=[],kwarg:=none,defaults:=[] }
def defBody (s:Stmt):List Stmt:=match s with
 | .FunctionDef _ _ b _ _ _ _ _ _ _=>b
 | _=>[]
def defScope (s:Stmt):Scope:=match s with
 | .FunctionDef _ _ _ _ _ _ sc _ _ _=>sc
 | _=>{ kind:=.function,names:=[],isGenerator:=false,isCoroutine:=false }

abbrev CX0:CXT:=fun _ _ _ _ _ _=>False
abbrev E0:St->XK:=fun _ _ _ _=>False
structure Fun (K:PySem.W.Frag) (x qual:Str) (st:Stmt) (f:Addr) (fd:FuncData):Prop where
 ex:∃ (oc:Value) (od:Option Addr) (kV doc pm:Value) (an:Option Addr) (cdv ct:Value) (osl:Array (Option Value)),
  fd=PySem.W.fnOf x qual (defArgs st) (defBody st) (defScope st) .none kV doc pm an cdv ct/\K.lookup f=some ⟨oc,od,.func fd,osl⟩/\PySem.W.codeIn K cdv qual=true
 kp:PySem.W.keepIn K (.ref f)=true
section
variable {P:Program}{w:World}{K:PySem.W.Frag}{mg:Str->Option Value}{base:Heap}
theorem Fun.ok {x qual:Str}{st:Stmt}{f:Addr}{fd:FuncData}{N ps:List Str}{k:Nat}{sp:Sp} (F:Fun K x qual st f fd) (S:FnScope N ps (defScope st)) (len:∀ vs H Q E,sp vs H Q E->vs.length=ps.length)
  (hbody:∀ (cdv:Value) (A:Around) (outer:List Env) (s:Shared) (H:Hp) (vs:List V) (Q:VK) (E:XK),Room k (A.deeper (envOfC qual (defScope st) s.heap.objs.size f cdv))->sp vs H Q E →
   ∃ t,PSs (cxOf CX0 P w K mg base N qual (defScope st) f cdv A outer s H E).nox (defBody st) t/\t { nx:=fun _ H'=>Q .non H',rt:=Q } (start N vs) H):FnOk P w K mg base CX0 (k + 1) f fd ps sp:=by
 obtain ⟨oc,od,kV,doc,pm,an,cdv,ct,osl,rfl,lk,hcd⟩:=F.ex
 refine fn_of lk hcd S len fun A outer s H vs Q E hr hsp=>?_
 obtain ⟨t,h,q⟩:=hbody cdv A outer s H vs Q E hr hsp
 exact ⟨t,h.nox,q⟩
theorem Fun.binds {x qual:Str}{st:Stmt}{f:Addr}{fd:FuncData}{ps:List Str} (F:Fun K x qual st f fd)
  (h:∀ (kV doc pm:Value) (an:Option Addr) (cdv ct:Value) (us:List Value),us.length=ps.length->bindArgs (PySem.W.fnOf x qual (defArgs st) (defBody st) (defScope st) .none kV doc pm an cdv ct) ⟨us,[]⟩=pure (ps.zip us)):Binds K fd ps []:=by
 obtain ⟨oc,od,kV,doc,pm,an,cdv,ct,osl,rfl,lk,hcd⟩:=F.ex
 exact .all (h kV doc pm an cdv ct)
theorem fun_mk {x qual:Str}{st:Stmt}{f:Addr}{oc:Value}{od an:Option Addr}{osl:Array (Option Value)}{kV doc pm cdv ct:Value} (l:K.lookup f=some ⟨oc,od,.func (PySem.W.fnOf x qual (defArgs st) (defBody st) (defScope st) .none kV doc pm an cdv ct),osl⟩)
  (c:PySem.W.codeIn K cdv qual=true) (k:PySem.W.keepIn K (.ref f)=true):Fun K x qual st f (PySem.W.fnOf x qual (defArgs st) (defBody st) (defScope st) .none kV doc pm an cdv ct):=⟨⟨oc,od,kV,doc,pm,an,cdv,ct,osl,rfl,l,c⟩,k⟩
end
theorem hu_of {A:Around}{k:Nat} (hr:Room k A):A.units + 1 < cLine:=Nat.lt_of_le_of_lt (Nat.add_le_add_left (by decide:1<=64) _) hr.units
section
variable {X:Cx}
theorem pv (i:Nat) {x:Str}{pos:Pos} (hN:X.N[i]?=some x:=by rfl) (hv:Vis X.env.scope x:=by first | exact Or.inl rfl | exact Or.inr (Or.inl rfl) | exact Or.inr (Or.inr rfl)) (hd:(x == ("__debug__":Str))=false:=by decide)
  (hcd:(x == ("__classdict__":Str))=false:=by decide):PE X (.Name x pos) (tVar i):=pe_var hN hv hd hcd
end

def Same (H H':Hp):Prop:=∀ b o,H b=some o->H' b=some o
theorem Same.refl (H:Hp):Same H H:=fun _ _ h=>h
theorem Same.trans {H H1 H2:Hp} (a:Same H H1) (b:Same H1 H2):Same H H2:=fun c o h=>b c o (a c o h)
theorem Same.free {H H':Hp} (e:Same H H') {l:Addr} (h:H' l=Option.none):H l=Option.none:=by
 cases q:H l with
 | none=>rfl
 | some o =>
  rw [e l o q] at h
  cases h
theorem Same.seq {K:PySem.W.Frag}{H H':Hp}{a:Addr}{xs:List V} (e:Same H H') (h:SqL K H a xs):SqL K H' a xs:=by
 rcases h with (h | ⟨o,h⟩) | h
 ·exact .inl (.inl (e _ _ h))
 ·exact .inl (.inr ⟨o,e _ _ h⟩)
 ·exact .inr h

end L2

namespace L2
open PySem PySem.Spec PyProof.Rows
section
variable {κ:Type} [DecidableEq κ]
theorem nd_snoc:∀ {l:List κ}{k:κ},l.Nodup->¬ k∈l->(l++[k]).Nodup
 | [],k,_,_=>by simp
 | a::r,k,h,hk=>by
  obtain ⟨h1,h2⟩:=List.nodup_cons.mp h
  show (a::(r++[k])).Nodup
  refine List.nodup_cons.mpr ⟨fun m=>?_,nd_snoc h2 fun m=>hk (List.mem_cons.mpr (Or.inr m))⟩
  rcases List.mem_append.mp m with q | q
  ·exact h1 q
  ·exact hk (List.mem_cons.mpr (Or.inl (List.mem_singleton.mp q).symm))
end
end L2
namespace L2
open PySem PySem.Spec PyProof.Rows
def HandIn (o:Option Value) (H:Hp):Prop:=o=none ∨ ∃ ea φ,o=some (Value.ref ea)/\H ea=some (HO.ext φ)/\∀ h:Heap,φ h->∃ ob vs,h.get? ea=some ob/\ob.data=.fields vs/\vs[2]?=some Value.none
structure RoomN (k:Nat) (A:Around):Prop where
 dp:A.depth + 3 * k + 5 < recursionLimit
 un:A.units + 16 * k + 200 < cLine
theorem RoomN.mono {j k:Nat}{A:Around} (r:RoomN k A) (h:j<=k):RoomN j A:=⟨by have:=r.dp;omega,by have:=r.un;omega⟩
theorem RoomN.deeper {k:Nat}{A:Around} (r:RoomN (k + 1) A) (env:Env):RoomN k (A.deeper env):=⟨by have:=r.dp;show A.depth + 1 + 3 * k + 5 < _;omega,by have:=r.un;show A.units + 3 + 16 * k + 200 < _;omega⟩
theorem RoomN.depth {k:Nat}{A:Around} (r:RoomN k A):A.depth < recursionLimit:=by have:=r.dp;omega
theorem RoomN.units0 {k:Nat}{A:Around} (r:RoomN k A):A.units < cLine:=by have:=r.un;omega
theorem Room.n {k:Nat}{A:Around} (r:Room k A):RoomN k A:=⟨r.dp,r.un⟩
structure FnOkN (P:Program) (w:World) (K:PySem.W.Frag) (mg:Str->Option Value) (base:Heap) (CX:CXT) (k:Nat) (f:Addr) (fd:FuncData) (ps:List Str) (sp:Sp):Prop where
 len:∀ vs H Q E,sp vs H Q E->vs.length=ps.length
 run:∀ (A:Around) (outer:List Env) (s:Shared) (H:Hp) (args:Args) (us:List Value) (vs:List V) (Q:VK) (E:XK),RoomN k A->HandIn A.handled H->Env0 P w K mg base A outer s H->BindsTo s fd args (ps.zip us)->Vals vs us->sp vs H Q E →
  codeAny (model P w) A (.call (.ref f) args) (CR CX outer P w H s Q E) s
section
variable {X:Cx}{CX:CXT}{k:Nat}{f C:Addr}{fd:FuncData}{ps:List Str}{sp:Sp}{dvs:List V}{ds:List Value}{E:St->XK}{x m:Str}{p pos apos:Pos}{e o:Expr}{es:List Expr}{ta:TE}{t:TA}
end
end L2
set_option Elab.async false
set_option linter.all false
set_option maxRecDepth 100000
set_option maxHeartbeats 4000000
set_option exponentiation.threshold 2000
namespace Mk
def cop (m n:Int):Bool:=decide (Int.gcd n m=1)
def dif (ws:List Int):List Int:=(ws.zip (ws.drop 1)).map fun p=>p.2 - p.1
def safe (m:Int) (ws:List Int):Bool:=(ws++dif ws).all (cop m)
theorem safe_iff {m:Int}{ws:List Int}:safe m ws=true ↔ (∀ w∈ws,cop m w=true)/\∀ (j:Nat) a b,ws[j]?=some a->ws[j + 1]?=some b->cop m (b - a)=true:=by
 unfold safe
 rw [List.all_append,Bool.and_eq_true,List.all_eq_true,List.all_eq_true]
 refine and_congr Iff.rfl ⟨fun h j a b ha hb=>?_,fun h x hx=>?_⟩
 ·refine h (b - a) (List.mem_map.mpr ⟨(a,b),?_,rfl⟩)
  refine List.mem_of_getElem? (i:=j) ?_
  rw [List.getElem?_zip_eq_some]
  exact ⟨ha,by rw [List.getElem?_drop,Nat.add_comm];exact hb⟩
 ·unfold dif at hx
  obtain ⟨⟨a,b⟩,hp,rfl⟩:=List.mem_map.mp hx
  obtain ⟨j,hj⟩:=List.getElem?_of_mem hp
  rw [List.getElem?_zip_eq_some] at hj
  exact h j a b hj.1 (by have:=hj.2;rw [List.getElem?_drop,Nat.add_comm] at this;exact this)
def big:Int:=314159265358979323846264338327950288419716939937510582097494
def ofN (n:Nat):List Int:=(List.range n).map fun (k:Nat)=>(k:Int)
theorem ofN_len (n:Nat):(ofN n).length=n:=by simp [ofN]
theorem mem_ofN {n:Nat}{x:Int}:x∈ofN n ↔ 0<=x/\x < n:=by
 unfold ofN
 rw [List.mem_map]
 constructor
 ·rintro ⟨k,hk,rfl⟩
  have:=List.mem_range.mp hk
  omega
 ·rintro ⟨h1,h2⟩
  exact ⟨x.toNat,List.mem_range.mpr (by omega),by omega⟩
def cand (m:Int) (found:List Int):List Int:=(ofN m.toNat).filter fun w=>cop m w && (found.isEmpty || cop m (w - found.getLastD 0))
def pool (m:Int) (found:List Int):List Int:=if cand m found=[] then ofN m.toNat else cand m found
def wtsGo (m:Int):Nat->Int->List Int->List Int
 | 0,_,found=>found
 | n + 1,c,found=>wtsGo m n (c / 7) (found++[(pool m found).getD (c % ((pool m found).length:Int)).toNat 0])
def wts (c m:Int) (n:Nat):List Int:=wtsGo m n c []
def digs (m:Int):Nat->Int->List Int
 | 0,_=>[]
 | n + 1,c=>c % m::digs m n (c / 31)
def w1 (n m:Int):List Int:=wts (n / 100) m (3 + n % 6).toNat
def w2 (n m:Int):List Int:=if n / 6 % 4=1 then (w1 n m).set (n / 24 % ((w1 n m).length:Int)).toNat (n / 200 % m) else w1 n m
def w3 (n m:Int):List Int:=if n / 6 % 4=2 then digs m (w2 n m).length (n / 100) else w2 n m
def w4 (n m:Int):List Int:=if n / 6 % 4=3/\n / 24 % 2=1 then List.replicate (w3 n m).length (n / 48 % m) else w3 n m
def altAt (k:Nat):Int:=if k % 2=0 then 1 else 2
def alt (n:Nat):List Int:=(List.range n).map altAt
theorem cop_small:∀ m:Nat,m < 27->3<=m->cop (m:Int) 0=false/\cop (m:Int) 1=true/\cop (m:Int) (-1)=true/\cop (m:Int) 2=decide (m % 2=1):=by decide +kernel
def fits (m:Int) (ws:List Int):List Int:=(ofN m.toNat).filter fun w=>safe m (ws.drop (ws.length - 1)++[w])
end Mk

namespace Mk
def dot:List Int->List Int->Int
 | a::r,b::t=>a * b + dot r t
 | _,_=>0
theorem dot_zip:∀ (ws ps:List Int),((ws.zip ps).map fun p=>p.1 * p.2).sum=dot ws ps
 | [],_=>by simp [dot]
 | _::_,[]=>by simp [dot]
 | a::r,b::t=>by rw [List.zip_cons_cons,List.map_cons,List.sum_cons,dot_zip r t];rfl
theorem dot_snoc:∀ (ws ps:List Int) (a b:Int),ws.length=ps.length->dot (ws++[a]) (ps++[b])=dot ws ps + a * b
 | [],[],a,b,_=>by simp [dot]
 | [],_::_,_,_,h=>by simp at h
 | _::_,[],_,_,h=>by simp at h
 | x::r,y::t,a,b,h=>by
  show x * y + dot (r++[a]) (t++[b])=x * y + dot r t + a * b
  rw [dot_snoc r t a b (by simpa using h),Int.add_assoc]
def plc (al w:List Nat):List Int:=w.map fun c=>((al.idxOf c:Nat):Int)
def isWordL (al:List Nat) (n:Int) (z:List Nat):Bool:=decide ((z.length:Int)=n) && z.all fun c=>decide (c∈al)
def good (m:Int) (ws:List Int) (r:Int) (ps:List Int):Bool:=decide ((dot ws ps - r) % m=0)
def isGoodL (al:List Nat) (ws:List Int) (r:Int) (z:List Nat):Bool:=isWordL al ws.length z && good al.length ws r (plc al z)
def spell (al:List Nat) (ps:List Int):List Nat:=ps.map fun p=>al.getD p.toNat 0
theorem spell_len (al:List Nat) (ps:List Int):(spell al ps).length=ps.length:=by simp [spell]
theorem plc_len (al w:List Nat):(plc al w).length=w.length:=by simp [plc]
theorem getD_at {al:List Nat}{p:Int} (h:0<=p/\p < al.length):al[p.toNat]?=some (al.getD p.toNat 0):=by
 rw [List.getD_eq_getElem?_getD,List.getElem?_eq_getElem (by omega)];rfl
theorem getD_mem {al:List Nat}{p:Int} (h:0<=p/\p < al.length):al.getD p.toNat 0∈al:=List.mem_of_getElem? (getD_at h)
theorem idxOf_get {al:List Nat} (nd:al.Nodup) {i c:Nat} (h:al[i]?=some c):al.idxOf c=i:=by
 obtain ⟨hi,e⟩:=List.getElem?_eq_some_iff.mp h
 subst e
 exact List.Nodup.idxOf_getElem nd i hi
theorem plc_spell {al:List Nat} (nd:al.Nodup):∀ {ps:List Int},(∀ p∈ps,0<=p/\p < al.length)->plc al (spell al ps)=ps
 | [],_=>rfl
 | p::r,h=>by
  show ((al.idxOf (al.getD p.toNat 0):Nat):Int)::plc al (spell al r)=p::r
  rw [plc_spell nd (fun q hq=>h q (List.mem_cons_of_mem _ hq)),idxOf_get nd (getD_at (h p List.mem_cons_self))]
  rw [Int.toNat_of_nonneg (h p List.mem_cons_self).1]
theorem plc_mem {al w:List Nat} (h:∀ c∈w,c∈al):∀ p∈plc al w,0<=p/\p < al.length:=by
 intro p hp
 obtain ⟨c,hc,rfl⟩:=List.mem_map.mp hp
 exact ⟨Int.natCast_nonneg _,by exact_mod_cast List.idxOf_lt_length_of_mem (h c hc)⟩
theorem spell_word {al:List Nat}{ps:List Int} (h:∀ p∈ps,0<=p/\p < al.length):isWordL al ps.length (spell al ps)=true:=by
 unfold isWordL
 rw [spell_len,decide_eq_true rfl,Bool.true_and,List.all_eq_true]
 intro c hc
 obtain ⟨p,hp,rfl⟩:=List.mem_map.mp hc
 exact decide_eq_true (getD_mem (h p hp))
theorem isWord_iff {al:List Nat}{n:Int}{z:List Nat}:isWordL al n z=true ↔ (z.length:Int)=n/\∀ c∈z,c∈al:=by
 unfold isWordL
 rw [Bool.and_eq_true,decide_eq_true_eq,List.all_eq_true]
 refine and_congr Iff.rfl ⟨fun h c hc=>of_decide_eq_true (h c hc),fun h c hc=>decide_eq_true (h c hc)⟩
def sml (xs:List Int):Prop:=∀ x∈xs,0<=x/\x < 1000
theorem sml_of {xs:List Int}{m:Int} (h:∀ x∈xs,0<=x/\x < m) (hm:m<=1000):sml xs:=fun x hx=>⟨(h x hx).1,Int.lt_of_lt_of_le (h x hx).2 hm⟩
theorem good_spell {al:List Nat}{ws ps:List Int}{r:Int} (nd:al.Nodup) (hl:ps.length=ws.length) (h:∀ p∈ps,0<=p/\p < al.length):isGoodL al ws r (spell al ps)=good al.length ws r ps:=by
 unfold isGoodL
 rw [plc_spell nd h,← hl,spell_word h,Bool.true_and]
end Mk

namespace Mk
def figs (m:Int):Nat->Int->List Int
 | 0,_=>[]
 | n + 1,k=>figs m n (k / m)++[k % m]
theorem figs_len (m:Int):∀ (n:Nat) (k:Int),(figs m n k).length=n
 | 0,_=>rfl
 | n + 1,k=>by unfold figs;rw [List.length_append,figs_len];rfl
theorem figs_mem {m:Int} (hm:0 < m):∀ (n:Nat) (k:Int),∀ x∈figs m n k,0<=x/\x < m
 | 0,_,x,h=>by cases h
 | n + 1,k,x,h=>by
  unfold figs at h
  rcases List.mem_append.mp h with h | h
  ·exact figs_mem hm n _ x h
  ·rw [List.mem_singleton.mp h];exact ⟨Int.emod_nonneg _ (by omega),Int.emod_lt_of_pos _ hm⟩
theorem figs_cons {m:Int} (hm:0 < m):∀ (n:Nat) (k:Int),figs m (n + 1) k=(k / m ^ n) % m::figs m n k
 | 0,k=>by simp [figs]
 | n + 1,k=>by
  show figs m (n + 1) (k / m)++[k % m]=_
  rw [figs_cons hm n (k / m),Int.ediv_ediv_of_nonneg (Int.le_of_lt hm),← Int.pow_succ']
  rfl
def numOf (m:Int) (ps:List Int):Int:=ps.foldl (fun k p=>k * m + p) 0
theorem numOf_snoc (m:Int) (ps:List Int) (p:Int):numOf m (ps++[p])=numOf m ps * m + p:=by unfold numOf;rw [List.foldl_append];rfl
theorem numOf_figs {m:Int} (hm:0 < m):∀ (n:Nat) (k:Int),0<=k->k < m ^ n->numOf m (figs m n k)=k
 | 0,k,h0,h1=>by
  have:k=0:=by simp at h1;omega
  subst this;rfl
 | n + 1,k,h0,h1=>by
  unfold figs
  rw [numOf_snoc,numOf_figs hm n (k / m) (Int.ediv_nonneg h0 (Int.le_of_lt hm)) (Int.ediv_lt_of_lt_mul hm (by rw [← Int.pow_succ];exact h1))]
  have:=Int.mul_ediv_add_emod k m
  rw [Int.mul_comm];exact this
theorem numOf_bounds {m:Int} (hm:0 < m):∀ (ps:List Int),(∀ p∈ps,0<=p/\p < m)->0<=numOf m ps/\numOf m ps < m ^ ps.length:=by
 intro ps
 rw [← List.reverse_reverse ps]
 generalize ps.reverse=rs
 induction rs with
 | nil=>intro _;simp [numOf]
 | cons a r ih =>
  intro h
  rw [List.reverse_cons] at h ⊢
  have ih:=ih fun p hp=>h p (List.mem_append_left _ hp)
  have ha:=h a (List.mem_append_right _ List.mem_cons_self)
  rw [numOf_snoc,List.length_append,List.length_singleton,Int.pow_succ]
  refine ⟨Int.add_nonneg (Int.mul_nonneg ih.1 (Int.le_of_lt hm)) ha.1,?_⟩
  have h2:(numOf m r.reverse + 1) * m<=m ^ r.reverse.length * m:=Int.mul_le_mul_of_nonneg_right (by omega) (Int.le_of_lt hm)
  rw [Int.add_mul,Int.one_mul] at h2
  omega
theorem inv_small:∀ m:Nat,m < 27->0 < m->∀ w:Nat,w < m->Nat.gcd w m=1->∃ v:Nat,v < m/\(w * v) % m=1 % m:=by decide +kernel
theorem inv_of {m w:Int} (h0:0 < m) (h26:m<=26) (hw:0<=w/\w < m) (hc:cop m w=true):∃ v t:Int,w * v=1 + m * t:=by
 obtain ⟨M,rfl⟩:=Int.eq_ofNat_of_zero_le (Int.le_of_lt h0)
 obtain ⟨W,rfl⟩:=Int.eq_ofNat_of_zero_le hw.1
 have hg:Nat.gcd W M=1:=of_decide_eq_true hc
 obtain ⟨v,_,e⟩:=inv_small M (by omega) (by omega) W (by omega) hg
 refine ⟨v,((W * v:Nat):Int) / (M:Int) - (1:Int) / (M:Int),?_⟩
 have e1:=Int.mul_ediv_add_emod ((W * v:Nat):Int) (M:Int)
 have e2:=Int.mul_ediv_add_emod (1:Int) (M:Int)
 have e3:((W * v:Nat):Int) % (M:Int)=(1:Int) % (M:Int):=by exact_mod_cast e
 rw [e3] at e1
 rw [Int.mul_sub]
 have e4:((W * v:Nat):Int)=(W:Int) * (v:Int):=by push_cast;rfl
 omega
def lasts (m:Int) (ws:List Int) (r:Int) (ps:List Int):List Int:=(ofN m.toNat).filter fun x=>good m ws r (ps++[x])
def lastP (m:Int) (ws:List Int) (r:Int) (ps:List Int):Int:=(lasts m ws r ps).headD 0
theorem good_snoc {m w r x:Int}{ws ps:List Int} (hl:ws.length=ps.length):good m (ws++[w]) r (ps++[x])=decide ((dot ws ps + w * x - r) % m=0):=by
 unfold good;rw [dot_snoc _ _ _ _ hl]
theorem one_last {m w r:Int}{ws ps:List Int} (h0:0 < m) (h26:m<=26) (hw:0<=w/\w < m) (hc:cop m w=true) (hl:ws.length=ps.length):∃ x,0<=x/\x < m/\∀ y,0<=y->y < m->(good m (ws++[w]) r (ps++[y])=true ↔ y=x):=by
 obtain ⟨v,t,hv⟩:=inv_of h0 h26 hw hc
 have hx0:=Int.emod_nonneg ((r - dot ws ps) * v) (show m≠0 by omega)
 have hx1:=Int.emod_lt_of_pos ((r - dot ws ps) * v) h0
 have hq:=Int.mul_ediv_add_emod ((r - dot ws ps) * v) m
 generalize ((r - dot ws ps) * v) % m=x at hx0 hx1 hq
 generalize ((r - dot ws ps) * v) / m=q at hq
 generalize hd:dot ws ps=d at hq
 refine ⟨x,hx0,hx1,fun y hy0 hy1=>?_⟩
 rw [good_snoc hl,decide_eq_true_eq,hd]
 constructor
 ·intro h
  obtain ⟨s,hs⟩:=Int.dvd_of_emod_eq_zero h
  have key:y - x=m * (v * s - t * y + q):=by grind
  have hb:-m < y - x/\y - x < m:=by omega
  generalize v * s - t * y + q=z at key
  have hz:z=0:=by
   rcases Int.lt_trichotomy z 0 with hz | hz | hz
   ·have:m * z<=m * (-1):=Int.mul_le_mul_of_nonneg_left (by omega) (Int.le_of_lt h0)
    omega
   ·exact hz
   ·have:m * 1<=m * z:=Int.mul_le_mul_of_nonneg_left (by omega) (Int.le_of_lt h0)
    omega
  rw [hz,Int.mul_zero] at key
  omega
 ·intro h
  subst h
  have:d + w * y - r=m * (t * (r - d) - w * q):=by grind
  rw [this]
  exact Int.mul_emod_right _ _
theorem filter_one {l:List Int} (hn:l.Nodup) {p:Int->Bool}{x:Int} (hx:x∈l) (h:∀ y∈l,(p y=true ↔ y=x)):l.filter p=[x]:=by
 induction l with
 | nil=>cases hx
 | cons a r ih =>
  rw [List.nodup_cons] at hn
  rw [List.filter_cons]
  by_cases e:a=x
  ·subst e
   rw [if_pos ((h a List.mem_cons_self).mpr rfl)]
   congr 1
   rw [List.filter_eq_nil_iff]
   intro y hy hp
   exact hn.1 ((h y (List.mem_cons_of_mem _ hy)).mp hp ▸ hy)
  ·rw [if_neg (fun z=>e ((h a List.mem_cons_self).mp z))]
   refine ih hn.2 ?_ fun y hy=>h y (List.mem_cons_of_mem _ hy)
   rcases List.mem_cons.mp hx with z | z
   ·exact absurd z.symm e
   ·exact z
theorem ofN_nodup (n:Nat):(ofN n).Nodup:=by
 unfold ofN
 refine List.pairwise_map.mpr (List.Pairwise.imp ?_ List.pairwise_lt_range)
 intro a b h e
 omega
theorem lasts_one {m r:Int}{ws ps:List Int} (h0:0 < m) (h26:m<=26) (hm:∀ x∈ws,0<=x/\x < m) (hc:∀ x∈ws,cop m x=true) (hl:ps.length + 1=ws.length) :
  lasts m ws r ps=[lastP m ws r ps]/\0<=lastP m ws r ps/\lastP m ws r ps < m/\∀ y,0<=y->y < m->(good m ws r (ps++[y])=true ↔ y=lastP m ws r ps):=by
 have hne:ws≠[]:=fun e=>by rw [e] at hl;simp at hl
 obtain ⟨wi,w,rfl⟩:∃ wi w,ws=wi++[w]:=⟨ws.dropLast,ws.getLast hne,(List.dropLast_concat_getLast hne).symm⟩
 have hl2:wi.length=ps.length:=by simp at hl;omega
 obtain ⟨x,x0,x1,hx⟩:=one_last (r:=r) h0 h26 (hm w (by simp)) (hc w (by simp)) hl2
 have e:lasts m (wi++[w]) r ps=[x]:=by
  unfold lasts
  refine filter_one (ofN_nodup _) (mem_ofN.mpr ⟨x0,by omega⟩) fun y hy=>?_
  have:=mem_ofN.mp hy
  exact hx y this.1 (by omega)
 have e2:lastP m (wi++[w]) r ps=x:=by unfold lastP;rw [e];rfl
 rw [e2]
 exact ⟨e,x0,x1,hx⟩
def wordP (m:Int) (ws:List Int) (r k:Int):List Int:=figs m (ws.length - 1) k++[lastP m ws r (figs m (ws.length - 1) k)]
end Mk

namespace Mk
theorem safe_snoc {m x:Int}{l:List Int} (h:safe m l=true) (hx:cop m x=true) (hl:l=[] ∨ cop m (x - l.getLastD 0)=true):safe m (l++[x])=true:=by
 rw [safe_iff] at h ⊢
 refine ⟨fun w hw=>?_,fun j a b ha hb=>?_⟩
 ·rcases List.mem_append.mp hw with hw | hw
  ·exact h.1 w hw
  ·rw [List.mem_singleton.mp hw];exact hx
 ·by_cases h1:j + 1 < l.length
  ·rw [List.getElem?_append_left (by omega)] at ha
   rw [List.getElem?_append_left h1] at hb
   exact h.2 j a b ha hb
  ·have hj:=(List.getElem?_eq_some_iff.mp hb).1
   rw [List.length_append,List.length_singleton] at hj
   have e:j + 1=l.length:=by omega
   rw [List.getElem?_append_left (by omega)] at ha
   rw [List.getElem?_append_right (by omega),e,Nat.sub_self] at hb
   have hne:l≠[]:=fun e2=>by rw [e2] at e;simp at e
   have e3:l.getLastD 0=a:=by
    rw [List.getLastD_eq_getLast?,List.getLast?_eq_getElem?,show l.length - 1=j by omega,ha];rfl
   have e4:x=b:=by simpa using hb
   subst e4
   rw [← e3]
   exact hl.resolve_left hne
theorem next_odd:∀ m:Nat,m < 27->3<=m->m % 2=1->∀ w:Nat,w < m->cop (m:Int) (w:Int)=true->(cop (m:Int) (((2 * w) % m:Nat):Int) && cop (m:Int) ((((2 * w) % m:Nat):Int) - (w:Int)))=true:=by decide +kernel
theorem cand_odd {m:Int} (h3:3<=m) (h26:m<=26) (ho:m % 2=1) {l:List Int} (hb:∀ x∈l,0<=x/\x < m) (hc:∀ x∈l,cop m x=true):cand m l≠[]:=by
 obtain ⟨M,rfl⟩:=Int.eq_ofNat_of_zero_le (show 0<=m by omega)
 intro e
 unfold cand at e
 rw [List.filter_eq_nil_iff] at e
 by_cases hl:l=[]
 ·subst hl
  exact e 1 (mem_ofN.mpr ⟨by decide,by omega⟩) (by rw [(cop_small M (by omega) (by omega)).2.1];rfl)
 ·have hm:l.getLastD 0∈l:=by
   rw [List.getLastD_eq_getLast?,List.getLast?_eq_some_getLast hl]
   exact List.getLast_mem hl
  have h1:=hb _ hm
  have h2:=hc _ hm
  generalize l.getLastD 0=w at e h1 h2
  obtain ⟨W,rfl⟩:=Int.eq_ofNat_of_zero_le h1.1
  have h4:=next_odd M (by omega) (by omega) (by omega) W (by omega) h2
  rw [Bool.and_eq_true] at h4
  refine e (((2 * W) % M:Nat):Int) (mem_ofN.mpr ⟨by omega,?_⟩) ?_
  ·have:=Nat.mod_lt (2 * W) (show 0 < M by omega)
   omega
  ·rw [h4.1,h4.2,Bool.or_true];rfl
section
variable {m r k:Int}{ws:List Int} (h0:0 < m) (h26:m<=26) (hm:∀ x∈ws,0<=x/\x < m) (hs:safe m ws=true) (hl:1<=ws.length)
theorem wordP_len (hl:1<=ws.length):(wordP m ws r k).length=ws.length:=by
 unfold wordP
 rw [List.length_append,figs_len,List.length_singleton];omega
include h0 h26 hm hs hl
theorem wordP_mem:∀ x∈wordP m ws r k,0<=x/\x < m:=by
 obtain ⟨_,l2,l3,-⟩:=lasts_one (r:=r) h0 h26 hm (safe_iff.mp hs).1 (show (figs m (ws.length - 1) k).length + 1=ws.length by rw [figs_len];omega)
 unfold wordP
 intro x hx
 rcases List.mem_append.mp hx with hx | hx
 ·exact figs_mem h0 _ _ x hx
 ·rw [List.mem_singleton.mp hx];exact ⟨l2,l3⟩
theorem wordP_good:good m ws r (wordP m ws r k)=true:=by
 obtain ⟨_,l2,l3,l4⟩:=lasts_one (r:=r) h0 h26 hm (safe_iff.mp hs).1 (show (figs m (ws.length - 1) k).length + 1=ws.length by rw [figs_len];omega)
 exact (l4 _ l2 l3).mpr rfl
omit h26 hm hs hl in
theorem wordP_num (hk:0<=k) (hk2:k < m ^ (ws.length - 1)):numOf m (wordP m ws r k).dropLast=k:=by
 unfold wordP
 rw [List.dropLast_concat,numOf_figs h0 _ _ hk hk2]
end
end Mk

namespace L2
open PySem PySem.Spec PyProof.Rows
def clo (cells:List (Str × Addr)):List (Str × NameKind)->List (Str × Addr)->Option (List (Str × Addr))
 | [],acc=>some acc
 | (n,k)::r,acc=>if k == .free then (match cells.lookup n with | some c=>clo cells r ((n,c)::acc) | none=>none) else clo cells r acc
theorem clo_pure {env:Env}:∀ (names:List (Str × NameKind)) (acc cl:List (Str × Addr)),clo env.cells names acc=some cl →
  (forIn names acc fun (x:Str × NameKind) (cs:List (Str × Addr))=>(if x.2 == .free then do let c ← cellOf env x.1;pure (ForInStep.yield ((x.1,c)::cs)) else pure (ForInStep.yield cs):Sem (ForInStep (List (Str × Addr)))))=pure cl
 | [],acc,cl,h=>by
  have e:acc=cl:=Option.some.inj h
  subst e;rfl
 | (n,k)::r,acc,cl,h=>by
  rw [List.forIn_cons]
  unfold clo at h
  by_cases hk:(k == NameKind.free)=true
  ·rw [if_pos hk] at h
   cases hc:env.cells.lookup n with
   | none=>rw [hc] at h;cases h
   | some c =>
    rw [hc] at h
    have ih:=clo_pure (env:=env) r ((n,c)::acc) cl h
    have e1:cellOf env n=pure c:=by unfold cellOf;rw [hc]
    simp only [hk,if_true,e1,pure_bind]
    exact ih
  ·rw [if_neg hk] at h
   have ih:=clo_pure (env:=env) r acc cl h
   simp only [hk,if_false,pure_bind,Bool.false_eq_true]
   exact ih
theorem closureFor_clo {scope:Scope}{env:Env}{cl:List (Str × Addr)} (h:clo env.cells scope.names []=some cl):closureFor scope env=pure cl:=by
 have e:=clo_pure (env:=env) scope.names [] cl h
 unfold closureFor
 simp only [bind_pure]
 first
  | exact e
  | (simp only [bind_pure_comp,map_pure] at e ⊢;exact e)
  | (rw [show (fun (x:Str × NameKind) (r:List (Str × Addr))=>_)=_ from rfl];exact e)
theorem clo_sub {cells:List (Str × Addr)}:∀ (names:List (Str × NameKind)) (acc cl:List (Str × Addr)),clo cells names acc=some cl →
  (∀ x c,acc.lookup x=some c->cells.lookup x=some c)->∀ x c,cl.lookup x=some c->cells.lookup x=some c
 | [],acc,cl,h,ha=>by
  have e:acc=cl:=Option.some.inj h
  subst e;exact ha
 | (n,k)::r,acc,cl,h,ha=>by
  unfold clo at h
  by_cases hk:(k == NameKind.free)=true
  ·rw [if_pos hk] at h
   cases hc:cells.lookup n with
   | none=>rw [hc] at h;cases h
   | some c =>
    rw [hc] at h
    refine clo_sub r ((n,c)::acc) cl h fun x c' e=>?_
    rw [List.lookup_cons] at e
    by_cases hx:(x == n)=true
    ·rw [hx] at e
     have e':c=c':=Option.some.inj e
     subst e'
     have:x=n:=eq_of_beq hx
     subst this;exact hc
    ·rw [Bool.not_eq_true] at hx
     rw [hx] at e
     exact ha x c' e
  ·rw [if_neg hk] at h
   exact clo_sub r acc cl h ha
theorem clo_keep {cells:List (Str × Addr)}:∀ (names:List (Str × NameKind)) (acc cl:List (Str × Addr)),clo cells names acc=some cl->∀ x,(∃ c,acc.lookup x=some c)->∃ c,cl.lookup x=some c
 | [],acc,cl,h,x,hx=>by
  have e:acc=cl:=Option.some.inj h
  subst e;exact hx
 | (n,k)::r,acc,cl,h,x,hx=>by
  unfold clo at h
  by_cases hk:(k == NameKind.free)=true
  ·rw [if_pos hk] at h
   cases hc:cells.lookup n with
   | none=>rw [hc] at h;cases h
   | some c =>
    rw [hc] at h
    refine clo_keep r ((n,c)::acc) cl h x ?_
    rw [List.lookup_cons]
    by_cases hxn:(x == n)=true
    ·rw [hxn];exact ⟨c,rfl⟩
    ·rw [Bool.not_eq_true] at hxn
     rw [hxn];exact hx
  ·rw [if_neg hk] at h
   exact clo_keep r acc cl h x hx
theorem clo_has {cells:List (Str × Addr)}:∀ (names:List (Str × NameKind)) (acc cl:List (Str × Addr)),clo cells names acc=some cl->∀ x,(x,NameKind.free)∈names->∃ c,cl.lookup x=some c
 | [],_,_,_,x,hx=>by cases hx
 | (n,k)::r,acc,cl,h,x,hx=>by
  unfold clo at h
  by_cases hk:(k == NameKind.free)=true
  ·rw [if_pos hk] at h
   cases hc:cells.lookup n with
   | none=>rw [hc] at h;cases h
   | some c =>
    rw [hc] at h
    rcases List.mem_cons.mp hx with e | hx
    ·have e1:x=n:=congrArg Prod.fst e
     subst e1
     exact clo_keep r ((x,c)::acc) cl h x ⟨c,by rw [List.lookup_cons,beq_self_eq_true]⟩
    ·exact clo_has r _ cl h x hx
  ·rw [if_neg hk] at h
   rcases List.mem_cons.mp hx with e | hx
   ·cases e
    exact absurd (by rfl) hk
   ·exact clo_has r acc cl h x hx
theorem relabel_kind {env:Env}:∀ {names:List (Str × NameKind)}{x:Str}{k':NameKind},
  (names.map fun (n,k)=>if (k == NameKind.free && env.scope.kind == .function && env.kindOf n == some .cell) then (n,NameKind.cell) else (n,k)).lookup x=some k'->(x,k')∈names ∨ (k'=.cell/\(x,NameKind.free)∈names)
 | [],_,_,h=>by cases h
 | (n,k)::r,x,k',h=>by
  have ih:=@relabel_kind env r x k'
  by_cases hc:(k == NameKind.free && env.scope.kind == .function && env.kindOf n == some .cell)=true
  ·have h2:(((n,NameKind.cell)::(r.map fun (n,k)=>if (k == NameKind.free && env.scope.kind == .function && env.kindOf n == some .cell) then (n,NameKind.cell) else (n,k))).lookup x)=some k':=by
    rw [← h,List.map_cons];simp only [hc,if_true]
   rw [List.lookup_cons] at h2
   by_cases hx:(x == n)=true
   ·rw [hx] at h2
    have e:NameKind.cell=k':=Option.some.inj h2
    have e2:x=n:=eq_of_beq hx
    have e3:k=.free:=by
     simp only [Bool.and_eq_true] at hc
     exact eq_of_beq hc.1.1
    subst e e2 e3
    exact .inr ⟨rfl,List.mem_cons_self⟩
   ·rw [Bool.not_eq_true] at hx
    rw [hx] at h2
    rcases ih h2 with q | ⟨e,q⟩
    ·exact .inl (List.mem_cons_of_mem _ q)
    ·exact .inr ⟨e,List.mem_cons_of_mem _ q⟩
  ·have h2:(((n,k)::(r.map fun (n,k)=>if (k == NameKind.free && env.scope.kind == .function && env.kindOf n == some .cell) then (n,NameKind.cell) else (n,k))).lookup x)=some k':=by
    rw [← h,List.map_cons];simp only [hc,if_false,Bool.false_eq_true]
   rw [List.lookup_cons] at h2
   by_cases hx:(x == n)=true
   ·rw [hx] at h2
    have e:k=k':=Option.some.inj h2
    have e2:x=n:=eq_of_beq hx
    subst e e2
    exact .inl List.mem_cons_self
   ·rw [Bool.not_eq_true] at hx
    rw [hx] at h2
    rcases ih h2 with q | ⟨e,q⟩
    ·exact .inl (List.mem_cons_of_mem _ q)
    ·exact .inr ⟨e,List.mem_cons_of_mem _ q⟩
abbrev Cx.blk (X:Cx) (N':List Str) (scope:Scope) (cl:List (Str × Addr)) (C:Addr) (s₀:Shared) (H₀:Hp) (ex:List Addr):Cx :=
 { X with N:=N',s₀:=s₀,H₀:=H₀,env:=compEnvC scope cl C X.env,outer:=X.stack,stack:=X.stack,ex:=ex,fn:=fun _=>false,pn:=[],xe:=fun _ _=>False }
inductive FrOk (X:Cx):List Str->List Nat->Prop
 | nil:FrOk X [] []
 | cons {x:Str}{j:Nat}{xs:List Str}{js:List Nat}:X.N[j]?=some x->(X.env.kindOf x=some .cell ∨ X.env.kindOf x=some .free)->FrOk X xs js->FrOk X (x::xs) (j::js)
theorem FrOk.get {X:Cx}:∀ {xs:List Str}{js:List Nat}{i:Nat}{x:Str},FrOk X xs js->xs[i]?=some x->∃ j,js[i]?=some j/\X.N[j]?=some x/\(X.env.kindOf x=some .cell ∨ X.env.kindOf x=some .free)
 | _,_,_,_,.nil,e=>by simp at e
 | _,_,0,_,.cons a b _,e=>by simp at e;subst e;exact ⟨_,rfl,a,b⟩
 | _,_,i + 1,x,.cons _ _ t,e=>by
  obtain ⟨j,h1,h2⟩:=FrOk.get (i:=i) (x:=x) t (by simpa using e)
  exact ⟨j,by simpa using h1,h2⟩
theorem FrOk.len {X:Cx}:∀ {xs:List Str}{js:List Nat},FrOk X xs js->xs.length=js.length
 | _,_,.nil=>rfl
 | _,_,.cons _ _ t=>by rw [List.length_cons,List.length_cons,t.len]
def blkSt (k:Nat) (js:List Nat) (σ:St):St:=List.replicate k none++js.map fun j=>(σ[j]?).join
def PIf (X:Cx) (ifs:List Expr) (t:TT):Prop :=
 ∀ (pins:List (Addr × Obj)) (s:Shared) (σ:St) (H:Hp) (Q:Bool->Hp->Prop),Inv X pins σ H s->t σ H Q →
  wpAny (model X.prog X.w) X.A (forIn ifs true fun c r=>if r=true then do let ok ← isTrue c X.env (eval c X.env);pure (ForInStep.yield ok) else pure (ForInStep.yield r)) (TP X pins σ Q) X.xe s
def tYes:TT:=fun _ H Q=>Q true H
theorem pif_nil {X:Cx}:PIf X [] tYes:=fun _ _ _ H _ I h=>wpAny_tests_nil ⟨H,I,h⟩
theorem pif_one {X:Cx}{c:Expr}{t:TT} (h:PT X c t):PIf X [c] t:=fun pins s σ H Q I q=>wpAny_tests_one (h pins s σ H Q I q)
section
variable {prog:Program}{w:World}{A:Around}{R:Result->Shared->Prop}{s:Shared}
theorem compLoop_go {elt target iter:Expr}{ifs:List Expr}{scope:Scope}{pos:Pos}{it acc:Value}{env:Env} (I:Nat->Shared->Prop)
  (turn:∀ n s,I n s->wpAny (model prog w) A (pyNext it) (fun r s₁=>match r with
   | none=>R (.ok .next) s₁
   | some v=>wpAny (model prog w) A (letOwnedTupleGo target it v) (fun _ s₀=>wpAny (model prog w) A (assign target env v) (fun _ s₂ =>
     wpAny (model prog w) A (forIn ifs true fun c r=>if r=true then do let ok ← isTrue c env (eval c env);pure (ForInStep.yield ok) else pure (ForInStep.yield r)) (fun ok s₃ =>
      if ok=true then wpAny (model prog w) A (eval elt env) (fun x s₄ =>
       wpAny (model prog w) A (call (.builtin "list.append") [acc,x]) (fun _ s₅=>∃ m,m < n/\I m s₅) (fun _ _=>False) s₄) (fun _ _=>False) s₃
      else ∃ m,m < n/\I m s₃) (fun _ _=>False) s₂) (fun _ _=>False) s₀) (fun _ _=>False) s₁) (fun _ _=>False) s)
  (n:Nat) (h:I n s) :
  codeAny (model prog w) A (.compLoop (.ListComp elt [⟨target,iter,ifs,0⟩] scope pos) 0 it acc env) R s:=by
 refine codeAny_loop rfl I (fun n s hI=>?_) n h
 show wpAny _ A ((compTurn (.ListComp elt [⟨target,iter,ifs,0⟩] scope pos) 0 it acc env).onRaise (fun x=>do noteFrame x env;theTreesLotGoes x)) _ _ s
 refine wpAny_noted ?_
 rw [compTurn_list]
 refine wpAny_bind (wpAny_standAt (wpAny_bind (wpAny_mono (turn n s hI) (fun r s₁ h₁=>?_) fun _ _ h'=>h'.elim)))
 cases r with
 | none=>exact wpAny_pure h₁
 | some v =>
  refine wpAny_bind (wpAny_mono h₁ (fun _ s₀ h₀=>?_) fun _ _ h'=>h'.elim)
  refine wpAny_bind (wpAny_mono h₀ (fun _ s₂ h₂=>wpAny_bind (wpAny_mono h₂ (fun ok s₃ h₃=>?_) fun _ _ h'=>h'.elim)) fun _ _ h'=>h'.elim)
  cases ok with
  | false=>exact wpAny_pure ⟨rfl,h₃⟩
  | true =>
   exact wpAny_bind (wpAny_bind (wpAny_mono h₃ (fun x s₄ h₄=>wpAny_bind (wpAny_mono h₄ (fun _ s₅ h₅=>wpAny_pure (wpAny_pure ⟨rfl,h₅⟩)) fun _ _ h'=>h'.elim)) fun _ _ h'=>h'.elim))
end
def LcTurns (g:TG) (tc:TT) (te:TE) (σ':St) (J:It) (H1:Hp) (Q:VK):Prop :=
 ∀ D,H1 D=none->∃ W:Nat->Nat->List V->St->Hp->Prop,(∃ m,W 0 m [] σ' (upd H1 D (.lst [])))/\∀ i m ys σ1 H,W i m ys σ1 H->H D=some (.lst ys)/\ys.length < sizeLine ∧
  ((J.stop i H/\Q (.ref D) H) ∨ (J.go i H/\∀ x H',J.yld i H x H'->g x σ1 H' fun σ2 H2=>tc σ2 H2 fun b H3 =>
   if b=true then te σ2 H3 fun v H4=>H4 D=some (.lst ys)/\∃ m',m' < m/\W (i + 1) m' (ys++[v]) σ2 (upd H4 D (.lst (ys++[v]))) else ∃ m',m' < m/\W (i + 1) m' ys σ2 H3))
structure BlkOk (X:Cx) (scope:Scope) (cl:List (Str × Addr)):Prop where
 clo:L2.clo X.env.cells scope.names []=some cl
 cell:∀ y∈scope.names,y.2≠.cell
 kind:scope.kind=.function
 names:∀ y∈scope.names,y.2=.local->scope.names.lookup y.1=some .local
section
variable {X:Cx}{pins:List (Addr × Obj)}{σ:St}{H1:Hp}{s₂:Shared}{E:Value->Shared->Prop}
theorem Inv.blkOk {scope:Scope}{cl:List (Str × Addr)}{N':List Str}{C:Addr}{fp:List Addr} (I:Inv X pins σ H1 s₂) (B:BlkOk X scope cl) (hC:s₂.heap.objs.size<=C) (hf:∀ b∈fp,FpOk X pins H1 b)
  (ho:∀ b∈fp,∃ o,s₂.heap.get? b=some o):(X.blk N' scope cl C s₂ H1 fp).Ok:=by
 have sub:=clo_sub scope.names [] cl B.clo (fun x c e=>by cases e)
 refine ⟨I.ok.mod,B.kind,I.ok.glob,I.ok.blt,hC,fun x y c h1 h2=>I.ok.inj x y c (sub x c h1) (sub y c h2),fun x hx=>?_,fun x c h=>?_,I.ok.hd,I.ok.frames,.inl rfl,fun b hb=>⟨?_,fun x c e=>?_⟩,I.bs,
  Nat.le_trans I.ok.bsz I.sz,fun b o e hb=>?_,fun b hb hs=>?_,I.stack,I.stkFree⟩
 ·have hx':(compEnvC scope cl C X.env).kindOf x=some .cell ∨ (compEnvC scope cl C X.env).kindOf x=some .free:=hx
  have key:∀ k',(compEnvC scope cl C X.env).kindOf x=some k'->(k'=.cell ∨ k'=.free)->∃ c,cl.lookup x=some c:=fun k' e hk=>by
   have e':(scope.names.map fun (n,k)=>if (k == NameKind.free && X.env.scope.kind == .function && X.env.kindOf n == some .cell) then (n,NameKind.cell) else (n,k)).lookup x=some k':=e
   rcases relabel_kind e' with q | ⟨_,q⟩
   ·rcases hk with rfl | rfl
    ·exact absurd rfl (B.cell _ q)
    ·exact clo_has scope.names [] cl B.clo x q
   ·exact clo_has scope.names [] cl B.clo x q
  rcases hx' with hx' | hx'
  ·exact key _ hx' (.inl rfl)
  ·exact key _ hx' (.inr rfl)
 ·exact absurd h Bool.false_ne_true
 ·obtain ⟨o,e⟩:=ho b hb
  exact Nat.ne_of_lt (Nat.lt_of_lt_of_le (Heap.lt_size e) hC)
 ·exact (hf b hb).2.2.2.2.1 x c (sub x c e)
 ·rcases (hf b hb).2.2.2.1 with z | z
  ·exact I.ok.noex b o e z
  ·exact absurd (Nat.lt_of_lt_of_le (Heap.lt_size e) (Nat.le_trans I.ok.bsz z)) (Nat.lt_irrefl _)
 ·rcases List.mem_cons.mp (I.stkSub b hs) with z | z
  ·exact (hf b hb).2.1 z
  ·exact (hf b hb).2.2.1 z
theorem blk_run {elt target iter:Expr}{ifs:List Expr}{scope:Scope}{pos:Pos}{cl:List (Str × Addr)}{own frn:List Str}{js:List Nat}{g:TG}{tc:TT}{te:TE}{Q:VK}{it:Addr}{fp:List Addr}{tn:Nat->Heap->Prop}{J:It}
  {RR:Value->Addr->Result->Shared->Prop} (hc:X.calm=true) (B:BlkOk X scope cl) (hfr:FrOk X frn js) (hloc:∀ x∈frn,scope.names.lookup x≠some .local)
  (hg:∀ C s₀ H₀ ex,PG (X.blk (own++frn) scope cl C s₀ H₀ ex) target g) (hi:∀ C s₀ H₀ ex,PIf (X.blk (own++frn) scope cl C s₀ H₀ ex) ifs tc) (he:∀ C s₀ H₀ ex,PE (X.blk (own++frn) scope cl C s₀ H₀ ex) elt te)
  (I:Inv X pins σ H1 s₂) (T:Turn X.prog X.w X.K target J fp it tn) (st0:tn 0 s₂.heap) (hf:∀ b∈fp,FpOk X pins H1 b) (hq:LcTurns g tc te (blkSt own.length js σ) J H1 Q)
  (fin:∀ D C s' H' m,s₂.heap.objs.size<=C->Inv X pins σ H' s'->s'.heap.Ns C m->FpOk X pins H' C->Q (.ref D) H'->RR (.ref D) C (.ok .next) s') :
  wpAny (model X.prog X.w) X.A (newList []) (fun acc s₃=>wpAny (model X.prog X.w) X.A (newFunctionEnv scope X.env.globals cl [] X.env.qual none .none (some X.env)) (fun cenv s₄ =>
   codeAny (model X.prog X.w) X.A (.compStart (.ListComp elt [⟨target,iter,ifs,0⟩] scope pos) 0 (.ref it) acc { cenv with scope:=relabel scope X.env }) (RR acc cenv.locals) s₄) E s₃) E s₂:=by
 have sub:=clo_sub scope.names [] cl B.clo (fun x c e=>by cases e)
 refine wpAny_newObj_type (wpAny_newFunctionEnv B.cell (by intro y hy;simp at hy) (fun h₁ hns₁ hsb₁=>?_) B.kind)
 dsimp only at hns₁ hsb₁ ⊢
 generalize hH2:s₂.heap.push { cls:=.type "list",dict:=none,data:=.seq ([]:List Value).toArray }=H2 at hns₁ hsb₁ ⊢
 have hC:H2.objs.size=s₂.heap.objs.size + 1:=by rw [← hH2,Heap.size_push]
 have hDC:s₂.heap.objs.size≠H2.objs.size:=by rw [hC];exact Nat.ne_of_lt (Nat.lt_succ_self _)
 have hCle:s₂.heap.objs.size<=H2.objs.size:=by rw [hC];exact Nat.le_succ _
 have below:∀ b,b < s₂.heap.objs.size->b≠H2.objs.size/\b≠s₂.heap.objs.size:=fun b hb=>⟨by rw [hC];exact Nat.ne_of_lt (Nat.lt_succ_of_lt hb),Nat.ne_of_lt hb⟩
 have old:∀ b o,s₂.heap.get? b=some o->h₁.get? b=some o:=fun b o e=>hsb₁.extBut b o (below b (Heap.lt_size e)).1 (Heap.get?_push_of_some _ (hH2 ▸ Heap.get?_push_of_some _ e))
 have hacc:h₁.get? s₂.heap.objs.size=some { cls:=.type "list",dict:=none,data:=.seq ([]:List Value).toArray }:=hsb₁.extBut _ _ hDC (Heap.get?_push_of_some _ (hH2 ▸ Heap.get?_push_size _ rfl))
 have hfo:∀ b∈fp,∃ o,s₂.heap.get? b=some o/\∀ v,o.data≠.cell v:=T.obj 0 _ st0
 have D0:H1 s₂.heap.objs.size=none:=I.hok.fresh (Nat.le_refl _)
 have C0:H1 H2.objs.size=none:=I.hok.fresh hCle
 obtain ⟨W,⟨m0,w0⟩,turn⟩:=hq _ D0
 have okX:(X.blk (own++frn) scope cl H2.objs.size s₂ H1 fp).Ok:=I.blkOk (N':=own++frn) B hCle hf fun b hb=>let ⟨o,e,_⟩:=hfo b hb;⟨o,e⟩
 have I0:Inv (X.blk (own++frn) scope cl H2.objs.size s₂ H1 fp) [] (blkSt own.length js σ) (upd H1 s₂.heap.objs.size (.lst [])) { s₂ with heap:=h₁,toks:=s₂.toks + ([]:List (Str × Value)).length }:=by
  obtain ⟨m,hn,hl⟩:=id I.loc
  refine ⟨okX,rfl,I.bare,Un.laid old (Nat.le_refl _) D0,⟨_,hns₁,fun i x v e1 e2 e3=>?_⟩,fun x c e=>?_,?_,fun x c e=>?_,fun p hp=>?_,?_,?_⟩
  ·have e1:(own++frn)[i]?=some x:=e1
   unfold blkSt at e2
   by_cases hik:i < own.length
   ·rw [List.getElem?_append_left (by simpa using hik),List.getElem?_replicate,if_pos hik] at e2
    cases e2
   ·rw [List.getElem?_append_right (by simpa using hik),List.length_replicate,List.getElem?_map] at e2
    rw [List.getElem?_append_right (by omega)] at e1
    obtain ⟨j,hj,hNj,hk⟩:=hfr.get e1
    rw [hj] at e2
    have e2':(σ[j]?).join=some v:=Option.some.inj e2
    have e2'':σ[j]?=some (some v):=by
     cases q:σ[j]? with
     | none=>rw [q] at e2';cases e2'
     | some o=>rw [q] at e2';cases o with
      | none=>cases e2'
      | some y=>have:y=v:=Option.some.inj e2';rw [this]
    obtain ⟨u,r,lk⟩:=hl j x v hNj e2'' (hk.elim (fun z=>.inr (.inl z)) fun z=>.inr (.inr z))
    refine ⟨u,r,?_⟩
    rcases lk with ⟨k1,_⟩ | ⟨_,c,hcl,hcell⟩
    ·rcases hk with z | z <;> (rw [k1] at z;cases z)
    ·have hx3:(compEnvC scope cl H2.objs.size X.env).kindOf x=some .local ∨ (compEnvC scope cl H2.objs.size X.env).kindOf x=some .cell ∨ (compEnvC scope cl H2.objs.size X.env).kindOf x=some .free:=e3
     rcases hx3 with z | z
     ·exfalso
      have z':(scope.names.map fun (n,k)=>if (k == NameKind.free && X.env.scope.kind == .function && X.env.kindOf n == some .cell) then (n,NameKind.cell) else (n,k)).lookup x=some .local:=z
      rcases relabel_kind z' with q | ⟨q,_⟩
      ·exact hloc x (List.mem_of_getElem? e1) (B.names _ q rfl)
      ·cases q
     ·obtain ⟨c',hc'⟩:=okX.has x z
      have q:=sub x c' hc'
      rw [hcl] at q
      have q':c=c':=Option.some.inj q
      subst q'
      refine .inr ⟨z,c,hc',?_⟩
      obtain ⟨o,ho,hd⟩:=hcell
      exact ⟨o,old _ _ ho,hd⟩
  ·obtain ⟨v,o,ho,hd⟩:=I.cell x c (sub x c e)
   exact ⟨v,o,old _ _ ho,hd⟩
  ·show upd H1 _ _ H2.objs.size=none
   rw [upd_ne (Ne.symm hDC)];exact C0
  ·obtain ⟨v,o,ho,hd⟩:=I.cell x c (sub x c e)
   rw [upd_ne (below c (Heap.lt_size ho)).2];exact I.freeC x c (sub x c e)
  ·cases hp
  ·exact I.hok.laid old (Nat.le_refl _) ⟨Nat.zero_le _,[],_,.nil,hacc⟩
  ·unfold blkSt
   show _=(own++frn).length
   rw [List.length_append,List.length_append,List.length_replicate,List.length_map,hfr.len]
 -- the iterator's objects in the block
 have fpx:∀ {H:Hp},(∀ b∈fp,H b=none)->∀ b∈fp,FpOk (X.blk (own++frn) scope cl H2.objs.size s₂ H1 fp) [] H b:=fun {H} hn b hb=>by
  obtain ⟨f0,f1,f2,f3,f4,f5⟩:=hf b hb
  obtain ⟨o,e,_⟩:=hfo b hb
  refine ⟨hn b hb,(below b (Heap.lt_size e)).1,fun z=>?_,.inl hb,fun x c e=>f4 x c (sub x c e),fun p hp=>by cases hp⟩
  rcases List.mem_cons.mp (I.stkSub b z) with z | z
  ·exact f1 z
  ·exact f2 z
 have st1:tn 0 h₁:=T.keep _ _ _ st0 fun b _ o e=>old b o e
 have fr0:∀ b∈fp,upd H1 s₂.heap.objs.size (.lst []) b=none:=fun b hb=>by
  obtain ⟨o,e,_⟩:=hfo b hb
  rw [upd_ne (below b (Heap.lt_size e)).2];exact (hf b hb).1
 have loop:codeAny (model X.prog X.w) X.A (.compLoop (.ListComp elt [⟨target,iter,ifs,0⟩] scope pos) 0 (.ref it) (.ref s₂.heap.objs.size) (compEnvC scope cl H2.objs.size X.env))
   (RR (.ref s₂.heap.objs.size) H2.objs.size) { s₂ with heap:=h₁,toks:=s₂.toks + ([]:List (Str × Value)).length }:=by
  refine compLoop_go (fun n s'=>∃ i ys σ1 H,Inv (X.blk (own++frn) scope cl H2.objs.size s₂ H1 fp) [] σ1 H s'/\tn i s'.heap/\(∀ b∈fp,H b=none)/\W i n ys σ1 H) ?_ m0 ⟨0,[],_,_,I0,st1,fr0,w0⟩
  rintro n s3 ⟨i,ys,σ3,H3,I3,st3,fr3,w3⟩
  obtain ⟨hD3,hsz,alt⟩:=turn i n ys σ3 H3 w3
  rcases alt with ⟨stop,qn⟩ | ⟨go,step⟩
  ·refine thn (T.done (X.blk (own++frn) scope cl H2.objs.size s₂ H1 fp) rfl rfl rfl hc i [] s3 σ3 H3 _ I3 (fpx fr3) st3 stop) fun r s4 ⟨hr,I4⟩=>?_
   subst hr
   obtain ⟨m,hn,_⟩:=id I4.loc
   have hch:∀ b∈fp,(b∈X.ex ∨ X.s₀.heap.objs.size<=b)/\b≠X.env.locals/\(∀ x c,X.env.cells.lookup x=some c->c≠b)/\∀ p∈X.pn++pins,p.1≠b:=fun b hb=>by
    obtain ⟨f0,f1,f2,f3,f4,f5⟩:=hf b hb
    exact ⟨f3,f1,f4,f5⟩
   have IX:Inv X pins σ H3 s4:=I.call' I4.os I4.base I4.hok I4.bare hch
   exact fin _ _ s4 H3 m hCle IX hn (I.fpOk hCle I4.free) qn
  ·refine thn (T.item (X.blk (own++frn) scope cl H2.objs.size s₂ H1 fp) rfl rfl rfl hc i [] s3 σ3 H3 _ I3 (fpx fr3) st3 go) fun r s4 ⟨u,hr,h4⟩=>?_
   subst hr
   refine thn h4 fun _ s5 ⟨x,H5,I5,r5,y5,st5,fr5⟩=>?_
   have I5':=I5.pinned (fpx fr5) (T.obj _ _ st5)
   refine thn (hg _ _ _ _ _ s5 σ3 H5 x u _ I5' r5 (step x H5 y5)) fun _ s6 ⟨σ6,H6,I6,q6⟩=>?_
   refine thn (hi _ _ _ _ _ s6 σ6 H6 _ I6 q6) fun b s7 ⟨H7,I7,q7⟩=>?_
   have again:∀ {ys':List V}{H8:Hp}{s8:Shared}{m':Nat},Inv (X.blk (own++frn) scope cl H2.objs.size s₂ H1 fp) ([]++pinsAt fp s5.heap) σ6 H8 s8->m' < n->W (i + 1) m' ys' σ6 H8 →
     ∃ m,m < n/\∃ i ys σ1 H,Inv (X.blk (own++frn) scope cl H2.objs.size s₂ H1 fp) [] σ1 H s8/\tn i s8.heap/\(∀ b∈fp,H b=none)/\W i m ys σ1 H:=fun {ys' H8 s8 m'} I8 hm w8=>by
    refine ⟨m',hm,i + 1,ys',σ6,H8,I8.unpinned,T.keep _ _ _ st5 fun b hb o e=>(I8.pin (b,o) (List.mem_append_right _ (List.mem_append_right _ (mem_pinsAt hb e)))).1,fun b hb=>?_,w8⟩
    obtain ⟨o,e,d⟩:=T.obj _ _ st5 b hb
    exact (I8.pin (b,o) (List.mem_append_right _ (List.mem_append_right _ (mem_pinsAt hb e)))).2.1
   cases b with
   | false =>
    rw [if_neg Bool.false_ne_true] at q7 ⊢
    obtain ⟨m',hm,w7⟩:=q7
    exact again I7 hm w7
   | true =>
    rw [if_pos rfl] at q7 ⊢
    refine thn (he _ _ _ _ _ s7 σ6 H7 _ I7 q7) fun v s8 ⟨y,H8,I8,r8,hD8,m',hm,w8⟩=>?_
    refine thn (mt_append (X:=X.blk (own++frn) scope cl H2.objs.size s₂ H1 fp) _ s8 σ6 H8 (.ref s₂.heap.objs.size) [y] _ [v] (fun _ H9=>W (i + 1) m' (ys++[y]) σ6 H9) I8 rfl (.cons r8 .nil) ⟨_,ys,y,rfl,rfl,hD8,hsz,w8⟩) fun _ s9 ⟨_,H9,I9,_,w9⟩=>?_
    exact again I9 hm w9
 exact codeAny_compStart_list loop (T.self X.A 0 _ _ _ st1 loop)
end
def tLC (k:Nat) (js:List Nat) (wi:TI) (g:TG) (tc:TT) (te:TE):TE:=fun σ H Q=>wi σ H fun J H1=>LcTurns g tc te (blkSt k js σ) J H1 Q
section
variable {X:Cx}
theorem pe_lc {elt target iter:Expr}{ifs:List Expr}{scope:Scope}{pos:Pos}{cl:List (Str × Addr)}{frn:List Str}{js:List Nat}{wi:TI}{g:TG}{tc:TT}{te:TE} (own:List Str) (hc:X.calm=true) (B:BlkOk X scope cl) (hfr:FrOk X frn js)
  (hloc:∀ x∈frn,scope.names.lookup x≠some .local) (hi:PI X target iter wi)
  (hg:∀ C s₀ H₀ ex,PG (X.blk (own++frn) scope cl C s₀ H₀ ex) target g) (hif:∀ C s₀ H₀ ex,PIf (X.blk (own++frn) scope cl C s₀ H₀ ex) ifs tc) (he:∀ C s₀ H₀ ex,PE (X.blk (own++frn) scope cl C s₀ H₀ ex) elt te)
  (hs:∀ x,foldedSetIterable iter X.env x=pure x:=by intro _;rfl):PE X (.ListComp elt [⟨target,iter,ifs,0⟩] scope pos) (tLC own.length js wi g tc te):=by
 intro pins s σ H Q I h
 rw [eval_ListComp]
 refine wpAny_comprehension_free (use:=none) rfl hs (closureFor_clo B.clo) B.kind B.names (thn (hi pins s σ H _ I h) fun v s1 h1=>thn h1 fun itv s2 h2=>?_)
 obtain ⟨it,fp,tn,J,H2,e,I2,T,st2,f2,hq⟩:=h2
 subst e
 refine blk_run (RR:=fun acc C=>compPost (model X.prog X.w) X.A X.xe none (EP X pins σ Q) acc C) hc B hfr hloc hg hif he I2 T st2 f2 hq ?_
 intro D C s' H' m hC I' hn fC q
 exact ⟨m,hn,fun h' sb=>⟨.ref D,H',I'.turned (t':=s'.toks) (fun b o hb e=>(sb.2 b hb).trans e) fC.1 fC.2.1 fC.2.2.2.1 fC.2.2.2.2.1 fC.2.2.2.2.2,rfl,q⟩⟩
theorem ps_setLC {elt target iter:Expr}{ifs:List Expr}{scope:Scope}{pos py spos:Pos}{y:Str}{i:Nat}{cl:List (Str × Addr)}{frn:List Str}{js:List Nat}{wi:TI}{g:TG}{tc:TT}{te:TE} (own:List Str) (hN:X.N.Nodup) (hiy:X.N[i]?=some y)
  (hy:Loc X.env.scope y) (hc:X.calm=true) (B:BlkOk X scope cl) (hfr:FrOk X frn js)
  (hloc:∀ x∈frn,scope.names.lookup x≠some .local) (hi:PI X target iter wi)
  (hg:∀ C s₀ H₀ ex,PG (X.blk (own++frn) scope cl C s₀ H₀ ex) target g) (hif:∀ C s₀ H₀ ex,PIf (X.blk (own++frn) scope cl C s₀ H₀ ex) ifs tc) (he:∀ C s₀ H₀ ex,PE (X.blk (own++frn) scope cl C s₀ H₀ ex) elt te)
  (hsw:swapsWith (.ListComp elt [⟨target,iter,ifs,0⟩] scope pos) (some (.Name y py)) spos.line X.env=pure true:=by rfl)
  (hs:∀ x,foldedSetIterable iter X.env x=pure x:=by intro _;rfl)
  (hf:X.fn y=true ∨ X.env.scope.names.lookup y=some .local:=by first | exact .inl rfl | exact .inr rfl | assumption) :
  PS X (.Assign [.Name y py] (.ListComp elt [⟨target,iter,ifs,0⟩] scope pos) spos) (tAsg (tLC own.length js wi g tc te) (gName i)):=by
 intro pins s σ H D I h
 rw [exec_Assign_Name_used _ _ _ _ hsw]
 refine wpAny_bind (wpAny_standAt (wpAny_bind ?_))
 show wpAny _ X.A (do let _ ← comprehension (.ListComp elt [⟨target,iter,ifs,0⟩] scope pos) scope X.env _ (newList []) false (eval iter X.env) (some (assign (.Name y py) X.env))) _ _ s
 refine wpAny_bind (wpAny_mono (wpAny_comprehension_free (use:=some (assign (.Name y py) X.env)) (Q:=fun _ s'=>SP X pins D .next s') rfl hs (closureFor_clo B.clo) B.kind B.names
  (thn (hi pins s σ H _ I h) fun v s1 h1=>thn h1 fun itv s2 h2=>?_)) (fun _ s' hq=>wpAny_pure (wpAny_pure hq)) fun _ _ e=>e)
 obtain ⟨it,fp,tn,J,H2,e,I2,T,st2,f2,hq⟩:=h2
 subst e
 refine blk_run (Q:=fun x H1=>D.nx (σ.set i (some x)) H1) (RR:=fun acc C=>compPost (model X.prog X.w) X.A X.xe (some (assign (.Name y py) X.env)) (fun _ s'=>SP X pins D .next s') acc C) hc B hfr hloc hg hif he I2 T st2 f2 hq ?_
 intro L C s' H' m hC I' hn fC q
 show wpAny _ X.A (assign (.Name y py) X.env (.ref L)) _ _ _
 refine wpAny_assign_Name (store_ok2 (v:=.ref L) I' hN hiy hy rfl (fun s'' I'' ⟨a,sb,ha⟩=>?_) hf)
 have hCa:C≠a:=by
  rcases ha with z | z
  ·rw [z];exact fC.2.1
  ·exact fun e=>fC.2.2.2.2.1 y a z e.symm
 exact ⟨m,hn.sameBut sb hCa,fun h' sb'=>⟨_,H',I''.turned (t':=s''.toks) (fun b o hb e=>(sb'.2 b hb).trans e) fC.1 fC.2.1 fC.2.2.2.1 fC.2.2.2.2.1 fC.2.2.2.2.2,q⟩⟩
end
def It.Seq (J:It) (H1:Hp) (xs:List V):Prop :=
 ∀ H,Same H1 H->(∀ i x,xs[i]?=some x->J.go i H/\∀ y H',J.yld i H y H'->H'=H/\y=x)/\∀ i,xs.length<=i->J.stop i H
theorem seq_list {K:PySem.W.Frag}{a:Addr}{xs:List V}{H1:Hp} (h:SqL K H1 a xs):(Itl K a).Seq H1 xs:=fun H s =>
 ⟨fun i x e=>⟨⟨xs,x,s.seq h,e⟩,fun y H' ⟨e1,e2⟩=>⟨e1,Option.some.inj ((e2 xs (s.seq h)).symm.trans e)⟩⟩,fun i hi=>⟨xs,s.seq h,hi⟩⟩
theorem seq_range {H1:Hp}{n:Nat}{lo:Int}:(Itr lo n).Seq H1 ((List.range n).map fun (k:Nat)=>V.int (lo + (k:Int))):=fun H s=>by
 refine ⟨fun i x e=>?_,fun i hi=>?_⟩
 ·have hi:i < n:=by
   have:=(List.getElem?_eq_some_iff.mp e).1
   simpa using this
  rw [List.getElem?_map,List.getElem?_range hi] at e
  have e':V.int (lo + (i:Int))=x:=Option.some.inj e
  exact ⟨hi,fun y H' ⟨e1,e2⟩=>⟨e1,by rw [e2,e']⟩⟩
 ·show n<=i
  simpa using hi
theorem Same.upd_new {H H':Hp}{a:Addr}{o:HO} (h:Same H H') (hn:H a=none):Same H (upd H' a o):=fun b u e=>by
 rw [upd_ne (ne_of_none e hn)];exact h b u e
theorem lc_one {J:It}{H1:Hp}{xs:List V}{js:List Nat}{σ:St}{tc:TT}{te:TE}{Q:VK} (hJ:J.Seq H1 xs) (hl:xs.length < sizeLine) (p:V->Bool) (f:V->V)
  (hc:∀ x∈xs,∀ H,Same H1 H->∀ R:Bool->Hp->Prop,(∀ H',Same H H'->R (p x) H')->tc (some x::js.map fun j=>(σ[j]?).join) H R)
  (he:∀ x∈xs,p x=true->∀ H,Same H1 H->∀ R:VK,(∀ H',Same H H'->R (f x) H')->te (some x::js.map fun j=>(σ[j]?).join) H R)
  (q:∀ D H,H1 D=none->Same H1 H->H D=some (.lst ((xs.filter p).map f))->Q (.ref D) H):LcTurns (gName 0) tc te (blkSt 1 js σ) J H1 Q:=by
 intro D hD
 refine ⟨fun i m ys σ1 H=>m=xs.length - i/\i<=xs.length/\(∃ o,σ1=o::js.map fun j=>(σ[j]?).join)/\ys=((xs.take i).filter p).map f/\Same H1 H/\H D=some (.lst ys),
  ⟨xs.length,by simp,Nat.zero_le _,⟨none,rfl⟩,by simp,(Same.refl H1).upd_new hD,upd_same⟩,?_⟩
 rintro i m ys σ1 H ⟨rfl,hi,⟨o,rfl⟩,rfl,sH,hL⟩
 have hlen:(((xs.take i).filter p).map f).length < sizeLine:=by
  rw [List.length_map]
  have h1:=List.length_filter_le p (xs.take i)
  have h2:(xs.take i).length<=xs.length:=by rw [List.length_take];omega
  omega
 refine ⟨hL,hlen,?_⟩
 by_cases hlt:i < xs.length
 ·have e:xs[i]?=some xs[i]:=by simp [hlt]
  obtain ⟨go,yl⟩:=(hJ H sH).1 i xs[i] e
  refine .inr ⟨go,fun x H' y=>?_⟩
  obtain ⟨e1,e2⟩:=yl x H' y
  subst e1 e2
  have hm:xs[i]∈xs:=List.getElem_mem hlt
  have htk:xs.take (i + 1)=xs.take i++[xs[i]]:=by rw [List.take_add_one,e];rfl
  show tc (some xs[i]::js.map fun j=>(σ[j]?).join) H' _
  refine hc xs[i] hm H' sH _ fun H3 s3=>?_
  cases hp:p xs[i] with
  | false =>
   rw [if_neg Bool.false_ne_true]
   refine ⟨xs.length - (i + 1),by omega,rfl,hlt,⟨_,rfl⟩,?_,sH.trans s3,s3 _ _ hL⟩
   rw [htk,List.filter_append];simp [hp]
  | true =>
   rw [if_pos rfl]
   refine he xs[i] hm hp H3 (sH.trans s3) _ fun H4 s4=>?_
   refine ⟨s4 _ _ (s3 _ _ hL),xs.length - (i + 1),by omega,rfl,hlt,⟨_,rfl⟩,?_,((sH.trans s3).trans s4).upd_new hD,upd_same⟩
   rw [htk,List.filter_append];simp [hp]
 ·have e:i=xs.length:=by omega
  subst e
  refine .inl ⟨(hJ H sH).2 _ (Nat.le_refl _),q D H hD sH ?_⟩
  rw [List.take_length] at hL;exact hL
theorem lc_map {J:It}{H1:Hp}{xs:List V}{js:List Nat}{σ:St}{te:TE}{Q:VK} (hJ:J.Seq H1 xs) (hl:xs.length < sizeLine) (f:V->V)
  (he:∀ x∈xs,∀ H,Same H1 H->∀ R:VK,(∀ H',Same H H'->R (f x) H')->te (some x::js.map fun j=>(σ[j]?).join) H R)
  (q:∀ D H,H1 D=none->Same H1 H->H D=some (.lst (xs.map f))->Q (.ref D) H):LcTurns (gName 0) tYes te (blkSt 1 js σ) J H1 Q :=
 lc_one hJ hl (fun _=>true) f (fun x _ H _ R hR=>hR H (Same.refl H)) (fun x hx _ H s R hR=>he x hx H s R hR) fun D H h1 h2 h3=>q D H h1 h2 (by rw [List.filter_eq_self.mpr (fun _ _=>rfl)] at h3;exact h3)
end L2

namespace L2
open PySem PySem.Spec PyProof.Rows
section
variable {X:Cx}
def CBig (i j:Int):Prop:=i.natAbs < 2 ^ 1000/\j.natAbs < 2 ^ 1000
theorem op_mulZ:OpR X (binaryOp .Mult) (rI CBig fun i j=>.int (i * j)):=opI fun _ _ _ _ _ _ _ hc q =>
 mul_int q (IntMulOk.of_bits (Nat.le_trans (intBits_le_iff.mpr hc.1) (by decide)) (Nat.le_trans (intBits_le_iff.mpr hc.2) (by decide)))
def CDivZ (_ j:Int):Prop:=0 < j/\j < 2 ^ 1000
theorem op_fdivZ:OpR X (binaryOp .FloorDiv) (rI CDivZ fun i j=>.int (i / j)):=opI fun i j _ _ _ _ _ hc q=>by
 have h1:(0:Int) < j:=hc.1
 have h2:j < 2 ^ 1000:=hc.2
 have h3:j.natAbs < 2 ^ 1000:=by
  have e:((j.natAbs:Nat):Int)=j:=Int.natAbs_of_nonneg (by omega)
  have e2:((2 ^ 1000:Nat):Int)=(2:Int) ^ 1000:=by rw [Int.natCast_pow];rfl
  omega
 refine floordiv_int (by omega) (by rw [Int.fdiv_eq_ediv_of_nonneg i (by omega)];exact q) (.inl (PyProof.noPylong_of_log2 ?_))
 have h4:j.natAbs≠0:=by omega
 exact Nat.lt_of_lt_of_le ((Nat.log2_lt h4).mpr h3) (by decide)
theorem op_is_bl:OpR X (compareOp .Is) (fun x y H Q=>∃ a b,x=.bl a/\y=.bl b/\Q (.bl (a == b)) H):=by
 intro pins s σ H x y v u Q I rx ry h
 obtain ⟨a,b,rfl,rfl,q⟩:=h
 cases rx;cases ry
 exact is_bool (fin_bl I q rfl)
theorem op_isnot_bl:OpR X (compareOp .IsNot) (fun x y H Q=>∃ a b,x=.bl a/\y=.bl b/\Q (.bl (a != b)) H):=by
 intro pins s σ H x y v u Q I rx ry h
 obtain ⟨a,b,rfl,rfl,q⟩:=h
 cases rx;cases ry
 exact isnot_bool (fin_bl I q rfl)
def rIsi (K:PySem.W.Frag):List V->Hp->VK->Prop:=fun xs H Q=>∃ x t c b,xs=[x,.ty c]/\TyOf K H x t/\PySem.W.kitOne K t (.type c)=some b/\Q (.bl b) H
theorem call_isi:CallR X (.builtin "isinstance") (rIsi X.K):=by
 intro pins s σ H xs us Q I r h
 obtain ⟨x,t,c,b,rfl,ty,e,q⟩:=h
 obtain ⟨u,w',rfl,ru,rw'⟩:=vals2 r
 obtain rfl:w'=Value.type c:=rw'
 exact isinst_ok I ru ty e fun tk=>⟨.bl b,H,I.tok tk,rfl,q⟩
def eqVs:List V->List V->Bool
 | [],[]=>true
 | x::xs,y::ys=>eqV x y && eqVs xs ys
 | _,_=>false
theorem eqVs_len:∀ {xs ys:List V},xs.length≠ys.length->eqVs xs ys=false
 | [],[],h=>absurd rfl h
 | [],_::_,_=>rfl
 | _::_,[],_=>rfl
 | x::xs,y::ys,h=>by
  have h':xs.length≠ys.length:=fun e=>h (by rw [List.length_cons,List.length_cons,e])
  show (eqV x y && eqVs xs ys)=false
  rw [eqVs_len h',Bool.and_false]
theorem eqVs_range:∀ {xs ys:List V},xs.length=ys.length->(List.range xs.length).all (fun j=>eqV (xs.getD j .non) (ys.getD j .non))=eqVs xs ys
 | [],[],_=>rfl
 | [],_::_,h=>by cases h
 | _::_,[],h=>by cases h
 | x::xs,y::ys,h=>by
  have h':xs.length=ys.length:=by simpa using h
  rw [List.length_cons,List.range_succ_eq_map,List.all_cons,List.all_map]
  show (eqV x y && (List.range xs.length).all (fun j=>eqV (xs.getD j .non) (ys.getD j .non)))=(eqV x y && eqVs xs ys)
  rw [eqVs_range h']
theorem eqVs_ints:∀ (xs ys:List Int),eqVs (xs.map V.int) (ys.map V.int)=decide (xs=ys)
 | [],[]=>rfl
 | [],_::_=>rfl
 | _::_,[]=>rfl
 | x::xs,y::ys=>by
  show ((x == y) && eqVs (xs.map V.int) (ys.map V.int))=_
  rw [eqVs_ints xs ys]
  by_cases e:x=y
  ·subst e
   by_cases e2:xs=ys
   ·subst e2;simp
   ·simp [e2]
  ·simp [e]
theorem flat_ints (xs:List Int):(xs.map V.int).all flatV=true:=by
 rw [List.all_eq_true];intro v hv
 obtain ⟨i,_,rfl⟩:=List.mem_map.mp hv
 rfl
def rEqL (K:PySem.W.Frag) (neg:Bool):R2:=fun x y H Q=>∃ a b xs ys,x=.ref a/\y=.ref b/\SqL K H a xs/\SqL K H b ys/\xs.all flatV=true/\ys.all flatV=true/\Q (.bl (if neg then !eqVs xs ys else eqVs xs ys)) H
theorem eqAt_items {A:Around}{s:Shared}{xs ys:List V}{us vs:List Value} (r1:Vals xs us) (r2:Vals ys vs) (f1:xs.all flatV=true) (f2:ys.all flatV=true) (j:Nat) (h1:j < us.toArray.size) (h2:j < vs.toArray.size) :
  SeqAt.EqAt A s us.toArray[j] vs.toArray[j] (eqV (xs.getD j .non) (ys.getD j .non)):=by
 have l1:=r1.length
 have l2:=r2.length
 rw [List.size_toArray] at h1 h2
 have e1:xs[j]?=some (xs[j]'(by omega)):=by simp [show j < xs.length by omega]
 have e2:ys[j]?=some (ys[j]'(by omega)):=by simp [show j < ys.length by omega]
 obtain ⟨u,hu,ru⟩:=r1.get e1
 obtain ⟨v,hv,rv⟩:=r2.get e2
 have hu':us.toArray[j]=u:=by
  have:=List.getElem?_eq_some_iff.mp hu
  simpa using this.2
 have hv':vs.toArray[j]=v:=by
  have:=List.getElem?_eq_some_iff.mp hv
  simpa using this.2
 rw [hu',hv',List.getD_eq_getElem?_getD,List.getD_eq_getElem?_getD,e1,e2]
 exact eqAt_V ru rv (List.all_eq_true.mp f1 _ (List.getElem_mem _)) (List.all_eq_true.mp f2 _ (List.getElem_mem _))
theorem op_eqL (hu:X.A.units < cLine):OpR X (compareOp .Eq) (rEqL X.K false):=by
 intro pins s σ H x y v u Q I rx ry h
 obtain ⟨a,b,xs,ys,rfl,rfl,ha,hb,f1,f2,q⟩:=h
 cases rx;cases ry
 obtain ⟨us,r1,p1,_⟩:=I.list ha
 obtain ⟨vs,r2,p2,_⟩:=I.list hb
 have l1:=r1.length
 have l2:=r2.length
 by_cases hl:xs.length=ys.length
 ·refine SeqAt.eq_listAt p1.isList p2.isList (by simp only [List.size_toArray];omega) hu (fun j h1 h2=>eqAt_items r1 r2 f1 f2 j h1 h2) ⟨.bl _,H,I,rfl,?_⟩
  rw [List.size_toArray,← l1,eqVs_range hl];exact q
 ·refine SeqAt.eq_list_lengthsAt p1.isList p2.isList (by simp only [List.size_toArray,bne_iff_ne,ne_eq];omega) hu ⟨.bl _,H,I,rfl,?_⟩
  have e:=eqVs_len hl
  rw [if_neg Bool.false_ne_true,e] at q;exact q
theorem op_neL (hu:X.A.units < cLine):OpR X (compareOp .NotEq) (rEqL X.K true):=by
 intro pins s σ H x y v u Q I rx ry h
 obtain ⟨a,b,xs,ys,rfl,rfl,ha,hb,f1,f2,q⟩:=h
 cases rx;cases ry
 obtain ⟨us,r1,p1,_⟩:=I.list ha
 obtain ⟨vs,r2,p2,_⟩:=I.list hb
 have l1:=r1.length
 have l2:=r2.length
 by_cases hl:xs.length=ys.length
 ·refine SeqAt.RcNeAt.lists p1.isList p2.isList (by simp only [List.size_toArray];omega) hu (fun j h1 h2=>eqAt_items r1 r2 f1 f2 j h1 h2) _ _ _ _ ⟨.bl _,H,I,rfl,?_⟩
  rw [List.size_toArray,← l1,eqVs_range hl];exact q
 ·refine SeqAt.RcNeAt.lists_lengths p1.isList p2.isList (by simp only [List.size_toArray,bne_iff_ne,ne_eq];omega) hu _ _ _ _ ⟨.bl _,H,I,rfl,?_⟩
  have e:=eqVs_len hl
  rw [if_pos rfl,e] at q;exact q
theorem Vals.bools:∀ {bs:List Bool}{us:List Value},Vals (bs.map V.bl) us->us=bs.map Value.bool
 | [],_,.nil=>rfl
 | b::bs,_::_,.cons r t=>by
  cases (show _=Value.bool b from r)
  rw [List.map_cons,Vals.bools t]
theorem all_range (bs:List Bool):(List.range bs.length).all (fun i=>bs.getD i false)=bs.all id:=by
 induction bs with
 | nil=>rfl
 | cons b r ih =>
  rw [List.length_cons,List.range_succ_eq_map,List.all_cons,List.all_map,List.all_cons]
  show (b && (List.range r.length).all (fun i=>r.getD i false))=_
  rw [ih];rfl
theorem truth_bools (bs:List Bool) (A:Around) (P:Program) (w:World):TruthOf P w A (fun i v=>(bs.map Value.bool).toArray[i]?=some v) (fun i=>bs.getD i false):=fun i v s Q E hP hQ=>by
 have e:(bs[i]?).map Value.bool=some v:=by simpa using hP
 cases q:bs[i]? with
 | none=>rw [q] at e;cases e
 | some b =>
  rw [q] at e
  have e':Value.bool b=v:=Option.some.inj e
  subst e'
  have hb:bs.getD i false=b:=by rw [List.getD_eq_getElem?_getD,q];rfl
  have hQ':Q (bs.getD i false) s:=hQ
  rw [hb] at hQ'
  exact wpAny_truthy_bool hQ'
def rAll (K:PySem.W.Frag):List V->Hp->VK->Prop:=fun vs H Q=>∃ (a:Addr) (bs:List Bool),vs=[.ref a]/\SqL K H a (bs.map V.bl)/\Q (.bl (bs.all id)) H
theorem call_allB (hc:X.calm=true):CallR X (.builtin "all") (rAll X.K):=by
 intro pins s σ H xs us Q I r h
 obtain ⟨a,bs,rfl,hq,q⟩:=h
 obtain ⟨u,rfl,ru⟩:=vals1 r
 cases ru
 obtain ⟨its,rv,p,hz⟩:=I.list hq
 obtain rfl:=rv.bools
 have ha:a < s.heap.objs.size:=by obtain ⟨o,e,_⟩:=p.isList;exact Heap.lt_size e
 refine call_all_walk (wpAny_pyIter_list p.isList ⟨s.heap.objs.size,_,_,_,_,_,fun i=>bs.getD i false,rfl,Walks.list (A:=X.A.in1) (I.ok.hd hc) _ a (Nat.ne_of_lt ha) _,⟨⟨_,Heap.get?_push_size _ rfl,rfl,rfl⟩,p.isList.push _⟩,truth_bools bs _ _ _,fun h' tk hk=>?_⟩)
 refine ⟨.bl (bs.all id),H,I.kept fun b o e=>hk b o (fun z=>?_) (Heap.get?_push_of_some _ e),?_,q⟩
 ·have z':b=s.heap.objs.size:=by simpa using z
  exact absurd (Heap.lt_size e) (by rw [z'];exact Nat.lt_irrefl _)
 ·show Value.bool _=Value.bool _
  rw [← all_range bs];simp
def rSum (K:PySem.W.Frag):List V->Hp->VK->Prop:=fun vs H Q=>∃ (a:Addr) (ns:List Int),vs=[.ref a]/\SqL K H a (ns.map V.int)/\Q (.int ns.sum) H
theorem call_sumI (hc:X.calm=true):CallR X (.builtin "sum") (rSum X.K):=by
 intro pins s σ H xs us Q I r h
 obtain ⟨a,ns,rfl,hq,q⟩:=h
 obtain ⟨u,rfl,ru⟩:=vals1 r
 cases ru
 obtain ⟨its,rv,p,hz⟩:=I.list hq
 have hi:IntsAre its ns:=intsAre_of rv
 obtain ⟨zs,hzs⟩:=hi.allInts.items
 have hl:=p.isList
 rw [hzs] at hl
 refine sum_intListG (I.ok.hd hc) hl fun h' tk t' hk=>⟨.int ns.sum,H,I.kept hk,⟨t',?_⟩,q⟩
 have e1:numsOf (intItems zs).toList=zs.toList.map (·.1):=nums_intItems zs
 rw [← hzs] at e1
 have e2:numsOf its=ns:=hi.numsOf
 rw [preSum_eq,List.take_of_length_le (by simp),← e1]
 show Value.int (numsOf its).sum t'=_
 rw [e2]
def rngV (lo:Int) (n:Nat):List V:=(List.range n).map fun (k:Nat)=>V.int (lo + (k:Int))
theorem vals_items {lo:Int}{n:Nat}{acc:Array Value} (h:ItemsOf (fun (i:Nat) v=>∃ t,v=Value.int (lo + (i:Int) * 1) t) acc n):Vals (rngV lo n) acc.toList:=by
 obtain ⟨hs,hi⟩:=h
 have key:∀ (xs:List Value) (m:Nat),(∀ j v,xs[j]?=some v->∃ t,v=Value.int (lo + ((m + j:Nat):Int)) t)->Vals ((List.range' m xs.length).map fun (k:Nat)=>V.int (lo + (k:Int))) xs:=by
  intro xs
  induction xs with
  | nil=>intro m _;exact .nil
  | cons x r ih =>
   intro m hx
   rw [List.length_cons,List.range'_succ,List.map_cons]
   refine .cons ?_ (ih (m + 1) fun j v e=>?_)
   ·obtain ⟨t,e⟩:=hx 0 x rfl
    exact ⟨t,by simpa using e⟩
   ·obtain ⟨t,e'⟩:=hx (j + 1) v (by simpa using e)
    exact ⟨t,by rw [e'];congr 2;omega⟩
 have:=key acc.toList 0 fun j v e=>by
  obtain ⟨t,e'⟩:=hi j v (by simpa using e)
  exact ⟨t,by rw [e',Int.mul_one,Nat.zero_add]⟩
 rw [Array.length_toList,hs,← List.range_eq_range'] at this
 exact this
def rListRng:List V->Hp->VK->Prop:=fun vs H Q=>∃ a lo hi,vs=[.ref a]/\H a=some (.rng lo hi)/\(-(2 ^ 62)<=lo/\lo < 2 ^ 62/\-(2 ^ 62)<=hi/\hi < 2 ^ 62)/\(hi - lo).toNat<=2 ^ 20/\∀ p,H p=none->Q (.ref p) (upd H p (.lst (rngV lo (hi - lo).toNat)))
theorem call_listRng (hc:X.calm=true):CallR X (.type "list") rListRng:=by
 intro pins s σ H xs us Q I r h
 obtain ⟨a,lo,hi,rfl,ha,⟨h1,h2,h3,h4⟩,hn,q⟩:=h
 obtain ⟨u,rfl,ru⟩:=vals1 r
 cases ru
 obtain ⟨t,u,v,e⟩:=(show ObjOk X.prog X.w H s.heap a (.rng lo hi) from I.hok a _ ha)
 refine call_list_range (n:=(hi - lo).toNat) (I.ok.hd hc) e (small_one h1 h2 h3 h4) (by rw [rangeSize_one];split <;> omega) (by omega) fun h' tk acc c hk hS hacc=>?_
 have hv:=vals_items hacc
 have hlen:(rngV lo (hi - lo).toNat).length<=sizeLine:=by
  unfold rngV
  rw [List.length_map,List.length_range]
  exact Nat.le_trans hn (by decide)
 exact ⟨.ref s.heap.objs.size,_,I.laid hk (Nat.le_refl _) (show ObjOk X.prog X.w _ _ _ (.lst (rngV lo (hi - lo).toNat)) from ⟨hlen,acc.toList,c,hv,by simpa using hS⟩),rfl,q _ (I.hok.fresh (Nat.le_refl _))⟩
theorem Inv.turnL {pins:List (Addr × Obj)}{σ:St}{H:Hp}{s:Shared}{h':Heap}{t':Nat}{ch:List Addr} (I:Inv X pins σ H s) (hf:∀ b∈ch,FpOk X pins H b) (k:∀ b o,b ∉ ch->s.heap.get? b=some o->h'.get? b=some o) :
  Inv X pins σ H { s with heap:=h',toks:=t' }:=by
 have nch:∀ b u,H b=some u->b ∉ ch:=fun b u e z=>by rw [(hf b z).1] at e;cases e
 refine I.step (g':=s.gens) (d':=s.drawn) (ch:=ch) (fun b hb=>?_) (fun b o _ _ hc e _=>k b o hc e) (fun b o _ _ hc e _=>⟨o.slots,k b o hc e⟩) (fun _ _ _ _ n=>n) (fun b o hc e=>⟨o,k b o hc e⟩) (fun _ _ e=>e) (fun _ _ _ e=>e)
  (fun b ps e=>⟨#[],by rw [e];simp⟩) (fun m hm=>?_) (fun b u e=>?_) I.bare
 ·obtain ⟨_,f1,_,f3,f4,f5⟩:=hf b hb
  exact ⟨f3,f1,f4,f5⟩
 ·obtain ⟨o,es,ep,ho,r⟩:=hm
  exact ⟨o,es,ep,k _ o (fun z=>(hf _ z).2.1 rfl) ho,r⟩
 ·refine (I.hok b u e).stay (fun c v hc q=>k c v ?_ q) (fun _ q=>q) fun _ _ q=>q
  rcases hc with z | z
  ·rw [z];exact nch b u e
  ·exact nch c _ z
theorem Inv.turnNew {pins:List (Addr × Obj)}{σ:St}{H:Hp}{s:Shared}{h':Heap}{t':Nat}{ch:List Addr}{T:Addr}{o':HO} (I:Inv X pins σ H s) (hf:∀ b∈ch,FpOk X pins H b)
  (k:∀ b o,b ∉ ch->s.heap.get? b=some o->h'.get? b=some o) (hk2:∀ b o,s.heap.get? b=some o->∃ o',h'.get? b=some o') (hT:s.heap.objs.size<=T) (new:ObjOk X.prog X.w (upd H T o') h' T o') :
  Inv X pins σ (upd H T o') { s with heap:=h',toks:=t' }:=by
 have nch:∀ b u,H b=some u->b ∉ ch:=fun b u e z=>by rw [(hf b z).1] at e;cases e
 have hTn:H T=none:=I.hok.fresh hT
 have neT:∀ b o,s.heap.get? b=some o->b≠T:=fun b o e=>Nat.ne_of_lt (Nat.lt_of_lt_of_le (Heap.lt_size e) hT)
 refine I.step (g':=s.gens) (d':=s.drawn) (ch:=ch) (fun b hb=>?_) (fun b o _ _ hc e _=>k b o hc e) (fun b o _ _ hc e _=>⟨o.slots,k b o hc e⟩) (fun b o _ e n=>by rw [upd_ne (neT b o e)];exact n) (fun b o hc e=>⟨o,k b o hc e⟩)
  (fun b xs e=>by rw [upd_ne (ne_of_none e hTn)];exact e) (fun b u xs e=>by rw [upd_ne (ne_of_none e hTn)];exact e) (fun b ps e=>⟨#[],by rw [upd_ne (ne_of_none e hTn),e];simp⟩) (fun m hm=>?_) (fun b u e=>?_) I.bare
 ·obtain ⟨_,f1,_,f3,f4,f5⟩:=hf b hb
  exact ⟨f3,f1,f4,f5⟩
 ·obtain ⟨o,es,ep,ho,r⟩:=hm
  exact ⟨o,es,ep,k _ o (fun z=>(hf _ z).2.1 rfl) ho,r⟩
 ·by_cases hb:b=T
  ·subst hb;rw [upd_same] at e;cases e;exact new
  ·rw [upd_ne hb] at e
   refine (I.hok b u e).stay (fun c v hc q=>k c v ?_ q) (fun c q=>by rw [upd_ne (ne_of_none q hTn)];exact q) fun c xs q=>by rw [upd_ne (ne_of_none q hTn)];exact q
   rcases hc with z | z
   ·rw [z];exact nch b u e
   ·exact nch c _ z
end
def Itz (K:PySem.W.Frag) (a b:Addr):It :=
 ⟨fun i H=>∃ xs ys x y,SqL K H a xs/\SqL K H b ys/\xs[i]?=some x/\ys[i]?=some y,
  fun i H v H'=>∃ x y p,(∀ xs,SqL K H a xs->xs[i]?=some x)/\(∀ ys,SqL K H b ys->ys[i]?=some y)/\v=.ref p/\H p=none/\H'=upd H p (.tup [x,y]),
  fun i H=>∃ xs ys,SqL K H a xs/\SqL K H b ys/\(xs.length<=i ∨ ys.length<=i)⟩
theorem zip_obj {h:Heap}{a b z TI TO i1 i2:Addr}{i:Nat} (st:IsZip h z TI TO .none/\IsPair h TI (.ref i1) (.ref i2)/\(∃ x y,IsPair h TO x y)/\h.IsListIter i1 a i/\h.IsListIter i2 b i):∀ c∈[z,TI,TO,i1,i2],∃ o,h.get? c=some o/\∀ v,o.data≠.cell v:=fun c hc=>by
 obtain ⟨hz,hTI,⟨x,y,hTO⟩,⟨o1,e1,c1,d1⟩,⟨o2,e2,c2,d2⟩⟩:=st
 simp only [List.mem_cons,List.not_mem_nil,or_false] at hc
 rcases hc with rfl | rfl | rfl | rfl | rfl
 ·exact ⟨_,hz,fun v q=>by have q':Data.fields _=Data.cell v:=q;cases q'⟩
 ·exact ⟨_,hTI,fun v q=>by have q':Data.seq _ _=Data.cell v:=q;cases q'⟩
 ·exact ⟨_,hTO,fun v q=>by have q':Data.seq _ _=Data.cell v:=q;cases q'⟩
 ·exact ⟨o1,e1,fun v q=>by rw [d1] at q;cases q⟩
 ·exact ⟨o2,e2,fun v q=>by rw [d2] at q;cases q⟩
theorem turn_zip {P:Program}{w:World}{K:PySem.W.Frag}{elts:List Expr}{k:Nat}{pos:Pos} (a b z TI TO i1 i2:Addr) (D:ZipApart z TI TO i1 i2 a b):Turn P w K (.Tuple elts k pos) (Itz K a b) [z,TI,TO,i1,i2] z
  (fun i h=>IsZip h z TI TO .none/\IsPair h TI (.ref i1) (.ref i2)/\(∃ x y,IsPair h TO x y)/\h.IsListIter i1 a i/\h.IsListIter i2 b i) where
 mem:=by simp
 obj:=fun i h st=>zip_obj st
 keep:=fun i h h' st k=>by
  obtain ⟨hz,hTI,⟨x,y,hTO⟩,h1,h2⟩:=st
  exact ⟨k z (by simp) _ hz,k TI (by simp) _ hTI,⟨x,y,k TO (by simp) _ hTO⟩,h1.at fun o e=>k i1 (by simp) o e,h2.at fun o e=>k i2 (by simp) o e⟩
 item:=by
  intro X hP hw hK hc i pins s σ H E I hf st hg
  subst hP hw hK
  obtain ⟨xs,ys,x,y,hx,hy,ex,ey⟩:=hg
  obtain ⟨us,r1,p1,_⟩:=I.list hx
  obtain ⟨vs,r2,p2,_⟩:=I.list hy
  obtain ⟨u,hu,ru⟩:=r1.get ex
  obtain ⟨v,hv,rv⟩:=r2.get ey
  obtain ⟨hz,hTI,⟨ta,tb,hTO⟩,h1,h2⟩:=id st
  refine wpAny_pyNext_zip_item D hz hTI hTO h1 h2 p1.isList p2.isList (x:=u) (y:=v) (by simpa using hu) (by simpa using hv) fun h' a1 a2 a3 a4 a5 a6 a7=>?_
  refine ⟨_,rfl,wpAny_letOwnedTupleGo_zip (s:={ s with heap:=h' }) a1 fun h'' b1 b2=>?_⟩
  have b2':Heap.SameBut z h' h'':=b2
  have ne:∀ c∈[z,TI,TO,i1,i2],c < s.heap.objs.size:=fun c hc=>by
   obtain ⟨o,e,_⟩:=zip_obj st c hc
   exact Heap.lt_size e
  have kk:∀ c o,c ∉ [z,TI,TO,i1,i2]->s.heap.get? c=some o->h''.get? c=some o:=fun c o hc e=>by
   simp only [List.mem_cons,List.not_mem_nil,or_false,not_or] at hc
   exact (b2'.2 c hc.1).trans (a7 c o hc.1 hc.2.2.1 hc.2.2.2.1 hc.2.2.2.2 e)
  have hT:h''.get? s.heap.objs.size=some { cls:=.type "tuple",data:=.seq #[u,v] }:=(b2'.2 _ (Nat.ne_of_gt (ne z (by simp)))).trans a5
  have I1:Inv X pins σ (upd H s.heap.objs.size (.tup [x,y])) { s with heap:=h'' }:=by
   refine I.turnNew (t':=s.toks) (ch:=[z,TI,TO,i1,i2]) hf kk (fun c o e=>?_) (Nat.le_refl _) (show ObjOk X.prog X.w _ h'' _ (.tup [x,y]) from ⟨by show 2<=sizeLine;decide,[u,v],.cons ru (.cons rv .nil),⟨_,hT,rfl,_,rfl⟩⟩)
   by_cases hc:c∈[z,TI,TO,i1,i2]
   ·simp only [List.mem_cons,List.not_mem_nil,or_false] at hc
    rcases hc with rfl | rfl | rfl | rfl | rfl
    ·exact ⟨_,b1⟩
    ·exact ⟨_,(b2'.2 _ D.TIz).trans (a7 _ _ D.TIz D.TITO D.TIi1 D.TIi2 hTI)⟩
    ·exact ⟨_,(b2'.2 _ D.TOz).trans a2⟩
    ·obtain ⟨o1,e1,_⟩:=a3;exact ⟨_,(b2'.2 _ D.i1z).trans e1⟩
    ·obtain ⟨o2,e2,_⟩:=a4;exact ⟨_,(b2'.2 _ D.i2z).trans e2⟩
   ·exact ⟨_,kk c o hc e⟩
  refine ⟨.ref s.heap.objs.size,_,I1,rfl,⟨x,y,_,fun zs hz=>by rw [I.list_inj hz hx];exact ex,fun zs hz=>by rw [I.list_inj hz hy];exact ey,rfl,I.hok.fresh (Nat.le_refl _),rfl⟩,⟨b1,(b2'.2 _ D.TIz).trans (a7 _ _ D.TIz D.TITO D.TIi1 D.TIi2 hTI),⟨u,v,(b2'.2 _ D.TOz).trans a2⟩,a3.at fun o e=>(b2'.2 _ D.i1z).trans e,a4.at fun o e=>(b2'.2 _ D.i2z).trans e⟩,fun c hc=>?_⟩
  rw [upd_ne (Nat.ne_of_lt (ne c hc))];exact (hf c hc).1
 done:=by
  intro X hP hw hK hc i pins s σ H E I hf st hg
  subst hP hw hK
  obtain ⟨xs,ys,hx,hy,hl⟩:=hg
  obtain ⟨us,r1,p1,_⟩:=I.list hx
  obtain ⟨vs,r2,p2,_⟩:=I.list hy
  obtain ⟨hz,hTI,⟨ta,tb,hTO⟩,h1,h2⟩:=id st
  have l1:=r1.length
  have l2:=r2.length
  refine wpAny_pyNext_zip_end (I.ok.hd hc) D hz hTI hTO h1 h2 p1.isList p2.isList ?_ fun h' kk=>⟨rfl,I.turnL (t':=s.toks) (ch:=[z,TI,TO,i1,i2]) hf fun c o hc e=>?_⟩
  ·rcases hl with hl | hl
   ·exact .inl (by simp;omega)
   ·exact .inr (by simp;omega)
  ·simp only [List.mem_cons,List.not_mem_nil,or_false,not_or] at hc
   exact kk c o hc.1 hc.2.2.1 hc.2.2.2.1 hc.2.2.2.2 e
 self:=fun _ _ _ _ _ st h=>wpAny_pyIter_zip st.1 h
section
variable {X:Cx}
def iZip (K:PySem.W.Frag) (ta:TA):TI:=fun σ H R=>ta σ H fun vs H1=>∃ a b,vs=[.ref a,.ref b]/\(∃ xs,SqL K H1 a xs)/\(∃ ys,SqL K H1 b ys)/\R (Itz K a b) H1
theorem boot_zip:bootBuiltins "zip"=some (.type "zip"):=by kernel_rfl
theorem pi_zip {elts:List Expr}{k:Nat}{tpos:Pos}{a b:Expr}{ta:TA}{p pos:Pos} (hg:Gl X "zip") (hm:X.mg "zip"=none) (ha:PA X [a,b] ta) (hs:starEach [a,b] X.env=[(false,eval a X.env),(false,eval b X.env)]:=by rfl)
  (hs2:starEach [b] X.env=[(false,eval b X.env)]:=by rfl):PI X (.Tuple elts k tpos) (.Call (.Name "zip" p) [a,b] [] pos) (iZip X.K ta):=by
 intro pins s σ H R I h
 refine Call_ (ld_blt I hg hm boot_zip (PyProof.Rows.callWith_type1 (thn (ha pos pins s σ H _ I h) fun us s1 ⟨vs,H1,I1,r1,q1⟩=>?_) (by rw [hs,hs2]) (by rw [hs2];rfl)))
 obtain ⟨l1,l2,e,⟨xs,hx⟩,⟨ys,hy⟩,q⟩:=q1
 subst e
 cases r1 with
 | cons r rr =>
  cases rr with
  | cons r' rr =>
   cases rr
   cases r
   cases r'
   obtain ⟨us,_,p1,_⟩:=I1.list hx
   obtain ⟨vs,_,p2,_⟩:=I1.list hy
   have a1:l1 < s1.heap.objs.size:=by obtain ⟨o,e,_⟩:=p1.isList;exact Heap.lt_size e
   have a2:l2 < s1.heap.objs.size:=by obtain ⟨o,e,_⟩:=p2.isList;exact Heap.lt_size e
   refine call_zip_2 p1.isList p2.isList fun h' hz hTI hTO hi1 hi2 hsz hk=>wpAny_pyIter_zip (s:={ s1 with heap:=h' }) hz ?_
   have I2:Inv X pins σ H1 { s1 with heap:=h' }:=I1.kept (t':=s1.toks) hk
   refine ⟨_,[s1.heap.objs.size + 4,s1.heap.objs.size + 2,s1.heap.objs.size + 3,s1.heap.objs.size,s1.heap.objs.size + 1],_,_,H1,rfl,I2,turn_zip l1 l2 _ _ _ _ _ (zipApart_new a1 a2),⟨hz,hTI,⟨_,_,hTO⟩,hi1,hi2⟩,fun c hc=>?_,q⟩
   have hle:s1.heap.objs.size<=c:=by
    simp only [List.mem_cons,List.not_mem_nil,or_false] at hc
    rcases hc with rfl | rfl | rfl | rfl | rfl <;> omega
   exact I1.fpOk hle (I1.hok.fresh hle)
end
theorem lc_zip {K:PySem.W.Frag}{a b:Addr}{H1:Hp}{xs ys:List V}{js:List Nat}{σ:St}{te:TE}{Q:VK} (hx:SqL K H1 a xs) (hy:SqL K H1 b ys) (hl:xs.length < sizeLine) (f:V->V->V)
  (he:∀ x y,(x,y)∈xs.zip ys->∀ H,Same H1 H->∀ R:VK,(∀ H',Same H H'->R (f x y) H')->te (some x::some y::js.map fun j=>(σ[j]?).join) H R)
  (q:∀ D H,H1 D=none->Same H1 H->H D=some (.lst ((xs.zip ys).map fun p=>f p.1 p.2))->Q (.ref D) H):LcTurns (gTup K 2 (gCons (gName 0) (gCons (gName 1) gNil))) tYes te (blkSt 2 js σ) (Itz K a b) H1 Q:=by
 intro D hD
 refine ⟨fun i m zs σ1 H=>m=(xs.zip ys).length - i/\i<=(xs.zip ys).length/\(∃ o1 o2,σ1=o1::o2::js.map fun j=>(σ[j]?).join)/\zs=((xs.zip ys).take i).map (fun p=>f p.1 p.2)/\Same H1 H/\H D=some (.lst zs),
  ⟨(xs.zip ys).length,by simp,Nat.zero_le _,⟨none,none,rfl⟩,by simp,(Same.refl H1).upd_new hD,upd_same⟩,?_⟩
 rintro i m zs σ1 H ⟨rfl,hi,⟨o1,o2,rfl⟩,rfl,sH,hL⟩
 have hzl:(xs.zip ys).length=min xs.length ys.length:=List.length_zip
 have hlen:(((xs.zip ys).take i).map fun p=>f p.1 p.2).length < sizeLine:=by
  rw [List.length_map,List.length_take];omega
 refine ⟨hL,hlen,?_⟩
 by_cases hlt:i < (xs.zip ys).length
 ·have h1:i < xs.length:=by omega
  have h2:i < ys.length:=by omega
  refine .inr ⟨⟨xs,ys,xs[i],ys[i],sH.seq hx,sH.seq hy,by simp [h1],by simp [h2]⟩,fun v H' hyl=>?_⟩
  obtain ⟨x,y,p,hx',hy',rfl,hp,rfl⟩:=hyl
  have ex:=hx' xs (sH.seq hx)
  have ey:=hy' ys (sH.seq hy)
  have ez:(xs.zip ys)[i]?=some (x,y):=zip_get ex ey
  have hm:(x,y)∈xs.zip ys:=List.mem_of_getElem? ez
  have htk:(xs.zip ys).take (i + 1)=(xs.zip ys).take i++[(x,y)]:=by rw [List.take_add_one,ez];rfl
  have hpD:D≠p:=ne_of_none hL hp
  refine ⟨p,[x,y],rfl,SqT.of upd_same,rfl,x,[y],rfl,y,[],rfl,rfl,?_⟩
  show te (some x::some y::js.map fun j=>(σ[j]?).join) _ _
  have s1:Same H1 (upd H p (.tup [x,y])):=sH.upd_new (sH.free hp)
  refine he x y hm _ s1 _ fun H4 s4=>?_
  refine ⟨s4 _ _ (by rw [upd_ne hpD];exact hL),(xs.zip ys).length - (i + 1),by omega,rfl,hlt,⟨_,_,rfl⟩,?_,(s1.trans s4).upd_new hD,upd_same⟩
  rw [htk,List.map_append];rfl
 ·have e:i=(xs.zip ys).length:=by omega
  subst e
  refine .inl ⟨⟨xs,ys,sH.seq hx,sH.seq hy,by omega⟩,q D H hD sH ?_⟩
  rw [List.take_length] at hL;exact hL
end L2

namespace L2
open PySem PySem.Spec PyProof.Rows
section
variable {X:Cx}
def nw (H:Hp) (o:HO) (Q:VK):Prop:=∀ p H',H p=none->Same H H'->H' p=some o->Q (.ref p) H'
theorem same_upd {H:Hp}{a:Addr}{o:HO} (hn:H a=none):Same H (upd H a o):=fun b u e=>by rw [upd_ne (ne_of_none e hn)];exact e
theorem nw.go {H:Hp}{o:HO}{Q:VK} (h:nw H o Q) (p:Addr) (hp:H p=none):Q (.ref p) (upd H p o):=h p _ hp (same_upd hp) upd_same
def rAddX:R2:=fun x y H Q=>match x,y with
 | .int i,.int j=>Q (.int (i + j)) H
 | .str a,.str b=>a.length + b.length<=sizeLine/\Q (.str (a++b)) H
 | .ref l,.ref b=>∃ xs zs,H l=some (.lst xs)/\H b=some (.lst zs)/\xs.length + zs.length<=sizeLine/\nw H (.lst (xs++zs)) Q
 | _,_=>False
theorem op_addX:OpR X (binaryOp .Add) rAddX:=by
 intro pins s σ H x y v u Q I rx ry h
 cases x with
 | int i=>cases y with
  | int j=>exact op_add pins s σ H _ _ v u Q I rx ry ⟨_,_,rfl,rfl,h⟩
  | _=>exact False.elim h
 | str a=>cases y with
  | str b=>exact op_add_str pins s σ H _ _ v u Q I rx ry ⟨_,_,rfl,rfl,h.1,h.2⟩
  | _=>exact False.elim h
 | ref l=>cases y with
  | ref b =>
   obtain ⟨xs,zs,h1,h2,h3,h4⟩:=h
   exact op_cat pins s σ H _ _ v u Q I rx ry ⟨_,_,xs,zs,rfl,rfl,h1,h2,h3,h4.go⟩
  | _=>exact False.elim h
 | _=>exact False.elim h
def rSubX:R2:=fun x y H Q=>match x,y with
 | .int i,.int j=>Q (.int (i - j)) H
 | _,_=>False
theorem op_subX:OpR X (binaryOp .Sub) rSubX:=by
 intro pins s σ H x y v u Q I rx ry h
 cases x with
 | int i=>cases y with
  | int j=>exact op_sub pins s σ H _ _ v u Q I rx ry ⟨_,_,rfl,rfl,h⟩
  | _=>exact False.elim h
 | _=>exact False.elim h
def rMulX:R2:=fun x y H Q=>match x,y with
 | .int i,.int j=>CBig i j/\Q (.int (i * j)) H
 | .ref l,.int k=>∃ xs,H l=some (.lst xs)/\-(2 ^ 63)<=k/\k < 2 ^ 63/\xs.length * k.toNat<=sizeLine/\nw H (.lst (List.replicate k.toNat xs).flatten) Q
 | _,_=>False
theorem op_mulX:OpR X (binaryOp .Mult) rMulX:=by
 intro pins s σ H x y v u Q I rx ry h
 cases x with
 | int i=>cases y with
  | int j=>exact op_mulZ pins s σ H _ _ v u Q I rx ry ⟨_,_,rfl,rfl,h.1,h.2⟩
  | _=>exact False.elim h
 | ref l=>cases y with
  | int k =>
   obtain ⟨xs,h1,h2,h3,h4,h5⟩:=h
   exact op_rep pins s σ H _ _ v u Q I rx ry ⟨_,_,xs,rfl,rfl,h1,h2,h3,h4,h5.go⟩
  | _=>exact False.elim h
 | _=>exact False.elim h
def rFdivX:R2:=fun x y H Q=>match x,y with
 | .int i,.int j=>(0 < j/\j < 2 ^ 1000)/\Q (.int (i / j)) H
 | _,_=>False
theorem op_fdivX:OpR X (binaryOp .FloorDiv) rFdivX:=by
 intro pins s σ H x y v u Q I rx ry h
 cases x with
 | int i=>cases y with
  | int j=>exact op_fdivZ pins s σ H _ _ v u Q I rx ry ⟨_,_,rfl,rfl,h.1,h.2⟩
  | _=>exact False.elim h
 | _=>exact False.elim h
def rModX:R2:=fun x y H Q=>match x,y with
 | .int i,.int j=>0 < j/\Q (.int (i % j)) H
 | _,_=>False
theorem op_modX:OpR X (binaryOp .Mod) rModX:=by
 intro pins s σ H x y v u Q I rx ry h
 cases x with
 | int i=>cases y with
  | int j=>exact op_mod pins s σ H _ _ v u Q I rx ry ⟨_,_,rfl,rfl,h.1,h.2⟩
  | _=>exact False.elim h
 | _=>exact False.elim h
def rPowX:R2:=fun x y H Q=>match x,y with
 | .int i,.int j=>(0<=j/\j<=1000000/\i.natAbs < 2 ^ 64)/\Q (.int (i ^ j.toNat)) H
 | _,_=>False
theorem op_powX:OpR X (binaryOp .Pow) rPowX:=by
 intro pins s σ H x y v u Q I rx ry h
 cases x with
 | int i=>cases y with
  | int j=>exact op_pow pins s σ H _ _ v u Q I rx ry ⟨_,_,rfl,rfl,h.1,h.2⟩
  | _=>exact False.elim h
 | _=>exact False.elim h
def rCmpX (f:Int->Int->Bool):R2:=fun x y H Q=>match x,y with
 | .int i,.int j=>Q (.bl (f i j)) H
 | _,_=>False
theorem op_cmpX {op:CmpOp}{f:Int->Int->Bool} (h0:OpR X (compareOp op) (rI0 fun i j=>.bl (f i j))):OpR X (compareOp op) (rCmpX f):=by
 intro pins s σ H x y v u Q I rx ry h
 cases x with
 | int i=>cases y with
  | int j=>exact h0 pins s σ H _ _ v u Q I rx ry ⟨_,_,rfl,rfl,h⟩
  | _=>exact False.elim h
 | _=>exact False.elim h
abbrev rLtX:R2:=rCmpX fun i j=>decide (i < j)
abbrev rLeX:R2:=rCmpX fun i j=>decide (i<=j)
abbrev rGtX:R2:=rCmpX fun i j=>decide (j < i)
abbrev rGeX:R2:=rCmpX fun i j=>decide (j<=i)
theorem op_ltX:OpR X (compareOp .Lt) rLtX:=op_cmpX op_lt
theorem op_leX:OpR X (compareOp .LtE) rLeX:=op_cmpX op_le
theorem op_gtX:OpR X (compareOp .Gt) rGtX:=op_cmpX op_gt
theorem op_geX:OpR X (compareOp .GtE) rGeX:=op_cmpX op_ge
def rEqX (K:PySem.W.Frag):R2:=fun x y H Q=>match x,y with
 | .int i,.int j=>Q (.bl (decide (i=j))) H
 | .bl i,.bl j=>Q (.bl (decide (i=j))) H
 | .str i,.str j=>Q (.bl (decide (i=j))) H
 | .ref a,.ref b=>∃ xs ys,SqL K H a xs/\SqL K H b ys/\xs.all flatV=true/\ys.all flatV=true/\Q (.bl (eqVs xs ys)) H
 | _,_=>False
def rNeX (K:PySem.W.Frag):R2:=fun x y H Q=>match x,y with
 | .int i,.int j=>Q (.bl (!decide (i=j))) H
 | .bl i,.bl j=>Q (.bl (!decide (i=j))) H
 | .str i,.str j=>Q (.bl (!decide (i=j))) H
 | .ref a,.ref b=>∃ xs ys,SqL K H a xs/\SqL K H b ys/\xs.all flatV=true/\ys.all flatV=true/\Q (.bl (!eqVs xs ys)) H
 | _,_=>False
theorem decV_int (i j:Int):decide (V.int i=V.int j)=decide (i=j):=by
 by_cases e:i=j
 ·subst e;simp
 ·rw [decide_eq_false e];exact decide_eq_false fun h=>e (V.int.inj h)
theorem decV_bl (i j:Bool):decide (V.bl i=V.bl j)=decide (i=j):=by
 by_cases e:i=j
 ·subst e;simp
 ·rw [decide_eq_false e];exact decide_eq_false fun h=>e (V.bl.inj h)
theorem decV_str (i j:Str):decide (V.str i=V.str j)=decide (i=j):=by
 by_cases e:i=j
 ·subst e;simp
 ·rw [decide_eq_false e];exact decide_eq_false fun h=>e (V.str.inj h)
theorem op_eqX (hu:X.A.units < cLine):OpR X (compareOp .Eq) (rEqX X.K):=by
 intro pins s σ H x y v u Q I rx ry h
 cases x with
 | int i=>cases y with
  | int j=>exact op_eq pins s σ H _ _ v u Q I rx ry ⟨rfl,by rw [decV_int];exact h⟩
  | _=>exact False.elim h
 | bl i=>cases y with
  | bl j=>exact op_eq pins s σ H _ _ v u Q I rx ry ⟨rfl,by rw [decV_bl];exact h⟩
  | _=>exact False.elim h
 | str i=>cases y with
  | str j=>exact op_eq pins s σ H _ _ v u Q I rx ry ⟨rfl,by rw [decV_str];exact h⟩
  | _=>exact False.elim h
 | ref a=>cases y with
  | ref b =>
   obtain ⟨xs,ys,h1,h2,h3,h4,h5⟩:=h
   exact op_eqL hu pins s σ H _ _ v u Q I rx ry ⟨_,_,xs,ys,rfl,rfl,h1,h2,h3,h4,h5⟩
  | _=>exact False.elim h
 | _=>exact False.elim h
theorem op_neX (hu:X.A.units < cLine):OpR X (compareOp .NotEq) (rNeX X.K):=by
 intro pins s σ H x y v u Q I rx ry h
 cases x with
 | int i=>cases y with
  | int j=>exact op_ne pins s σ H _ _ v u Q I rx ry ⟨rfl,by rw [decV_int];exact h⟩
  | _=>exact False.elim h
 | bl i=>cases y with
  | bl j=>exact op_ne pins s σ H _ _ v u Q I rx ry ⟨rfl,by rw [decV_bl];exact h⟩
  | _=>exact False.elim h
 | str i=>cases y with
  | str j=>exact op_ne pins s σ H _ _ v u Q I rx ry ⟨rfl,by rw [decV_str];exact h⟩
  | _=>exact False.elim h
 | ref a=>cases y with
  | ref b =>
   obtain ⟨xs,ys,h1,h2,h3,h4,h5⟩:=h
   exact op_neL hu pins s σ H _ _ v u Q I rx ry ⟨_,_,xs,ys,rfl,rfl,h1,h2,h3,h4,h5⟩
  | _=>exact False.elim h
 | _=>exact False.elim h
def isV:V->V->Option Bool
 | .non,.non=>some true
 | .bl _,.non=>some false
 | .int _,.non=>some false
 | .str _,.non=>some false
 | .ref _,.non=>some false
 | .bl a,.bl b=>some (a == b)
 | _,_=>none
def rIsX (neg:Bool):R2:=fun x y H Q=>match isV x y with
 | some b=>Q (.bl (b != neg)) H
 | none=>False
theorem op_isX:OpR X (compareOp .Is) (rIsX false):=by
 intro pins s σ H x y v u Q I rx ry h
 cases x <;> cases y <;> first
  | exact False.elim h
  | exact op_isN pins s σ H _ _ v u Q I rx ry ⟨rfl,h⟩
  | exact op_is_bl pins s σ H _ _ v u Q I rx ry ⟨_,_,rfl,rfl,by simpa [rIsX,isV] using h⟩
theorem op_isnotX:OpR X (compareOp .IsNot) (rIsX true):=by
 intro pins s σ H x y v u Q I rx ry h
 cases x <;> cases y <;> first
  | exact False.elim h
  | exact op_notN pins s σ H _ _ v u Q I rx ry ⟨rfl,h⟩
  | exact op_isnot_bl pins s σ H _ _ v u Q I rx ry ⟨_,_,rfl,rfl,by simpa [rIsX,isV,bne] using h⟩
def Sq (K:PySem.W.Frag) (H:Hp) (a:Addr) (xs:List V):Prop:=SqL K H a xs ∨ SqT K H a xs
theorem Sq.l {K:PySem.W.Frag}{H:Hp}{a:Addr}{xs:List V} (h:H a=some (.lst xs)):Sq K H a xs:=.inl (.of h)
theorem Sq.t {K:PySem.W.Frag}{H:Hp}{a:Addr}{xs:List V} (h:H a=some (.tup xs)):Sq K H a xs:=.inr (.of h)
def rIxX (K:PySem.W.Frag):R2:=fun x y H Q=>match x,y with
 | .ref p,.int i=>∃ xs v,Sq K H p xs/\atI xs i=some v/\Q v H
 | .str z,.int i=>z.length<=sizeLine/\∃ c,atI z.cps.toList i=some c/\Q (.str ⟨#[c]⟩) H
 | _,_=>False
theorem ix_X:IxR X (rIxX X.K):=by
 intro value slice pins s σ H x y v u Q I rx ry h hs
 cases x with
 | ref p=>cases y with
  | int i =>
   obtain ⟨xs,w',h1 | h1,h2,h3⟩:=h
   ·exact ix_list value slice pins s σ H _ _ v u Q I rx ry ⟨_,xs,_,w',rfl,rfl,h1,h2,h3⟩ hs
   ·exact ix_tup value slice pins s σ H _ _ v u Q I rx ry ⟨_,xs,_,w',rfl,rfl,h1,h2,h3⟩ hs
  | _=>exact False.elim h
 | str z=>cases y with
  | int i =>
   obtain ⟨h1,c,h2,h3⟩:=h
   exact ix_str value slice pins s σ H _ _ v u Q I rx ry ⟨z,i,c,rfl,rfl,h1,h2,h3⟩ hs
  | _=>exact False.elim h
 | _=>exact False.elim h
def rLenX (K:PySem.W.Frag):List V->Hp->VK->Prop:=fun vs H Q=>match vs with
 | [.str z]=>z.length<=sizeLine/\Q (.int z.length) H
 | [.ref p]=>∃ xs,Sq K H p xs/\Q (.int xs.length) H
 | _=>False
theorem call_lenX:CallR X (.builtin "len") (rLenX X.K):=by
 intro pins s σ H xs us Q I r h
 match xs,h with
 | [.str z],h=>exact call_len_str pins s σ H _ us Q I r ⟨z,rfl,h.1,h.2⟩
 | [.ref p],h =>
  obtain ⟨ys,h1,h2⟩:=h
  exact call_len_seq pins s σ H _ us Q I r ⟨p,ys,rfl,h1,h2⟩
def rAbsX:List V->Hp->VK->Prop:=fun vs H Q=>match vs with
 | [.int i]=>Q (.int (i.natAbs:Int)) H
 | _=>False
theorem call_absX:CallR X (.builtin "abs") rAbsX:=by
 intro pins s σ H xs us Q I r h
 match xs,h with
 | [.int i],h =>
  refine call_abs pins s σ H _ us Q I r ⟨i,rfl,?_⟩
  have e:(if i < 0 then -i else i)=((i.natAbs:Nat):Int):=by split <;> omega
  rw [e];exact h
def rListX (K:PySem.W.Frag):List V->Hp->VK->Prop:=fun vs H Q=>match vs with
 | [.ref a]=>∃ ys,(Sq K H a ys ∨ ∃ lo hi,H a=some (.rng lo hi)/\(-(2 ^ 62)<=lo/\lo < 2 ^ 62/\-(2 ^ 62)<=hi/\hi < 2 ^ 62)/\(hi - lo).toNat<=2 ^ 20/\ys=rngV lo (hi - lo).toNat)/\nw H (.lst ys) Q
 | _=>False
theorem call_listX (hc:X.calm=true):CallR X (.type "list") (rListX X.K):=by
 intro pins s σ H xs us Q I r h
 match xs,h with
 | [.ref a],h =>
  obtain ⟨ys,h1 | ⟨lo,hi,h1,h2,h3,rfl⟩,h4⟩:=h
  ·exact call_list_of pins s σ H _ us Q I r ⟨a,ys,rfl,h1,h4.go⟩
  ·exact call_listRng hc pins s σ H _ us Q I r ⟨a,lo,hi,rfl,h1,h2,h3,h4.go⟩
theorem bt_isinstance:bootBuiltins "isinstance"=some (.builtin "isinstance"):=by kernel_rfl
theorem bt_abs:bootBuiltins "abs"=some (.builtin "abs"):=by kernel_rfl
theorem bt_len:bootBuiltins "len"=some (.builtin "len"):=by kernel_rfl
theorem bt_all:bootBuiltins "all"=some (.builtin "all"):=by kernel_rfl
theorem bt_sum:bootBuiltins "sum"=some (.builtin "sum"):=by kernel_rfl
theorem bt_sorted:bootBuiltins "sorted"=some (.builtin "sorted"):=by kernel_rfl
theorem bt_list:bootBuiltins "list"=some (.type "list"):=by kernel_rfl
theorem bt_tuple:bootBuiltins "tuple"=some (.type "tuple"):=by kernel_rfl
theorem bt_int:bootBuiltins "int"=some (.type "int"):=by kernel_rfl
theorem bt_str:bootBuiltins "str"=some (.type "str"):=by kernel_rfl
theorem bt_bool:bootBuiltins "bool"=some (.type "bool"):=by kernel_rfl
theorem bt_set:bootBuiltins "set"=some (.type "set"):=by kernel_rfl
theorem bt_enumerate:bootBuiltins "enumerate"=some (.type "enumerate"):=by kernel_rfl
theorem pe_ty {x:Str}{T:String}{pos:Pos} (hg:Gl X x) (hm:X.mg x=none) (hv:bootBuiltins x=some (.type T)) (hn:x≠"__name__":=by decide) (hd:(x == ("__debug__":Str))=false:=by decide):PE X (.Name x pos) (tC (.ty T)) :=
 pe_bltn hg hm hv rfl hn hd
structure Fnc (P:Program) (w:World) (K:PySem.W.Frag) (mg:Str->Option Value) (base:Heap) (CX:CXT) (k:Nat) (x:Str) (ps:List Str) (sp:Sp):Prop where
 ex:∃ (f:Addr) (fd:FuncData),FnOk P w K mg base CX k f fd ps sp/\mg x=some (.ref f)/\PySem.W.keepIn K (.ref f)=true/\Binds K fd ps []
theorem pe_callF {CX:CXT}{E:St->XK}{k:Nat}{x:Str}{ps:List Str}{sp:Sp}{e:Expr}{es:List Expr}{t:TA}{p pos:Pos} (C:Fnc X.prog X.w X.K X.mg X.base CX k x ps sp) (hx:Passes CX X E) (hr:Room k X.A) (hg:Gl X x) (ha:PA X (e::es) t)
  (hd:(x == ("__debug__":Str))=false:=by decide)
  (he:starEach (e::es) X.env=(false,eval e X.env)::starEach es X.env:=by rfl) (hpl:(backTo pos (starEach es X.env)).any (·.1)=false:=by rfl):PE X (.Call (.Name x p) (e::es) [] pos) (tCall sp [] E t):=by
 obtain ⟨f,fd,F,hm,hk,hb⟩:=C.ex
 exact pe_call F hr hg hm hk hb .nil hx ha hd he hpl
end
def ForTurns (g:TG) (tb:TS) (D:Ends) (J:It) (σ:St) (H:Hp):Prop:=∃ W:Nat->Nat->St->Hp->Prop,(∃ m,W 0 m σ H)/\∀ i m σ H,W i m σ H →
 (J.stop i H/\D.nx σ H) ∨ (J.go i H/\∃ N:St->Hp->Prop,(∀ σ' H',N σ' H'->∃ m',m' < m/\W (i + 1) m' σ' H')/\∀ x H',J.yld i H x H'->g x σ H' fun σ2 H2=>tb { D with nx:=N,ct:=N,bk:=D.nx } σ2 H2)
theorem for_rng {lo:Int}{n:Nat}{g:TG}{tb:TS}{D:Ends}{σ:St}{H:Hp} (Pv:Nat->St->Hp->Prop) (h0:Pv 0 σ H)
  (hs:∀ i σ H,i < n->Pv i σ H->g (.int (lo + i)) σ H fun σ2 H2=>tb { D with nx:=Pv (i + 1),ct:=Pv (i + 1),bk:=D.nx } σ2 H2) (hd:∀ σ H,Pv n σ H->D.nx σ H):ForTurns g tb D (Itr lo n) σ H:=for_range Pv h0 hs hd
theorem for_lst {K:PySem.W.Frag}{a:Addr}{xs:List V}{g:TG}{tb:TS}{D:Ends}{σ:St}{H:Hp} (Pv:Nat->St->Hp->Prop) (h0:Pv 0 σ H) (hl:∀ i σ H,i<=xs.length->Pv i σ H->SqL K H a xs)
  (hs:∀ i x σ H,xs[i]?=some x->Pv i σ H->g x σ H fun σ2 H2=>tb { D with nx:=Pv (i + 1),ct:=Pv (i + 1),bk:=D.nx } σ2 H2) (hd:∀ σ H,Pv xs.length σ H->D.nx σ H):ForTurns g tb D (Itl K a) σ H:=for_list Pv h0 hl hs hd
def tLstX (t:TA):TE:=fun σ H Q=>t σ H fun xs H1=>xs.length<=sizeLine/\nw H1 (.lst xs) Q
def tTupX (t:TA):TE:=fun σ H Q=>t σ H fun xs H1=>xs.length<=sizeLine/\nw H1 (.tup xs) Q
def tDNewX:TE:=fun _ H Q=>nw H (.dK []) Q
theorem pe_lstX {X:Cx}{es:List Expr}{t:TA}{pos:Pos} (h:PA X es t):PE X (.List es pos) (tLstX t):=by
 intro pins s σ H Q I hq
 refine wpAny_List_spliced (thn (h pos pins s σ H _ I hq) fun us s1 ⟨xs,H1,I1,r,z,q⟩=>⟨by rw [← r.length];exact z,?_⟩)
 have hf:H1 s1.heap.objs.size=none:=I1.hok.fresh (Nat.le_refl _)
 refine ⟨.ref s1.heap.objs.size,upd H1 s1.heap.objs.size (.lst xs),I1.laid (t':=s1.toks) (fun b u e=>Heap.get?_push_of_some _ e) (Nat.le_refl _) ?_,rfl,nw.go q _ hf⟩
 exact ⟨z,us,0,r,Heap.get?_push_size _ rfl⟩
theorem pe_tupX {X:Cx}{es:List Expr}{t:TA}{pos:Pos}{x1} (h:PA X es t):PE X (.Tuple es x1 pos) (tTupX t):=by
 intro pins s σ H Q I hq
 refine wpAny_Tuple_spliced (thn (h pos pins s σ H _ I hq) fun us s1 ⟨xs,H1,I1,r,z,q⟩=>⟨by rw [← r.length];exact z,?_⟩)
 have hf:H1 s1.heap.objs.size=none:=I1.hok.fresh (Nat.le_refl _)
 refine ⟨.ref s1.heap.objs.size,upd H1 s1.heap.objs.size (.tup xs),I1.laid (t':=s1.toks) (fun b u e=>Heap.get?_push_of_some _ e) (Nat.le_refl _) ?_,rfl,nw.go q _ hf⟩
 exact ⟨z,us,r,⟨_,Heap.get?_push_size _ rfl,rfl,_,rfl⟩⟩
theorem pe_dnewX {X:Cx}{pos:Pos}:PE X (.Dict [] [] pos) tDNewX:=fun pins s σ H Q I h=>pe_dnewK pins s σ H Q I (nw.go h)
section
variable {σ:St}{H:Hp}{Q:VK}{D:Ends}
theorem ap_seq {t u:TS}:tSeq t u D σ H=t { D with nx:=u D } σ H:=propext Iff.rfl
theorem ap_asg {te:TE}{g:TG}:tAsg te g D σ H=te σ H fun x H1=>g x σ H1 D.nx:=propext Iff.rfl
theorem ap_gname {i:Nat}{v:V}{R:St->Hp->Prop}:gName i v σ H R=R (σ.set i (some v)) H:=propext Iff.rfl
theorem ap_var {i:Nat}:tVar i σ H Q=∃ v,σ[i]?=some (some v)/\Q v H:=propext Iff.rfl
theorem ap_c {v:V}:tC v σ H Q=Q v H:=propext Iff.rfl
theorem ap_op {r:R2}{ta tb:TE}:tOp r ta tb σ H Q=ta σ H fun x H1=>tb σ H1 fun y H2=>r x y H2 Q:=propext Iff.rfl
theorem ap_un {r:V->Hp->VK->Prop}{ta:TE}:tUn r ta σ H Q=ta σ H fun x H1=>r x H1 Q:=propext Iff.rfl
theorem ap_cb {r:List V->Hp->VK->Prop}{t:TA}:tCB r t σ H Q=t σ H fun vs H1=>r vs H1 Q:=propext Iff.rfl
theorem ap_cons {ta:TE}{tr:TA}{R:List V->Hp->Prop}:tCons ta tr σ H R=ta σ H fun x H1=>tr σ H1 fun xs H2=>R (x::xs) H2:=propext Iff.rfl
theorem ap_nil {R:List V->Hp->Prop}:tNil σ H R=R [] H:=propext Iff.rfl
theorem ap_call {sp:Sp}{E:St->XK}{t:TA}:tCall sp [] E t σ H Q=t σ H fun vs H1=>sp vs H1 Q (E σ):=by
 show (t σ H fun vs H1=>sp (vs++[]) H1 Q (E σ))=_
 simp only [List.append_nil]
theorem ap_ret {te:TE}:tRet te D σ H=te σ H D.rt:=propext Iff.rfl
theorem ap_if {c:TT}{t u:TS}:tIfS c t u D σ H=c σ H fun b H1=>if b=true then t D σ H1 else u D σ H1:=propext Iff.rfl
theorem ap_next:tNext D σ H=D.nx σ H:=propext Iff.rfl
theorem ap_drop {te:TE}:tDrop te D σ H=te σ H fun _ H1=>D.nx σ H1:=propext Iff.rfl
theorem ap_test {t:TE}{R:Bool->Hp->Prop}:tTest t σ H R=t σ H fun x H'=>∃ k,x=.bl k/\R k H':=propext Iff.rfl
theorem ap_b {t:TE}{R:Bool->Hp->Prop}:tB t σ H R=t σ H fun x H'=>∃ k,x=.bl k/\R k H':=propext Iff.rfl
theorem ap_not {t:TT}{R:Bool->Hp->Prop}:tNot t σ H R=t σ H fun c H1=>R (!c) H1:=propext Iff.rfl
theorem ap_and {t u:TT}{R:Bool->Hp->Prop}:tAnd t u σ H R=t σ H fun c H1=>if c=true then u σ H1 R else R false H1:=propext Iff.rfl
theorem ap_or {t u:TT}{R:Bool->Hp->Prop}:tOr t u σ H R=t σ H fun c H1=>if c=true then R true H1 else u σ H1 R:=propext Iff.rfl
theorem ap_andV {ta tb:TE}:tAndV ta tb σ H Q=ta σ H fun x H1=>∃ c,x=.bl c/\if c=true then tb σ H1 Q else Q (.bl false) H1:=propext Iff.rfl
theorem ap_notV {ta:TE}:tNotV ta σ H Q=ta σ H fun x H1=>∃ c,x=.bl c/\Q (.bl (!c)) H1:=propext Iff.rfl
theorem ap_ifE {t:TT}{ta tb:TE}:tIf t ta tb σ H Q=t σ H fun c H1=>if c=true then ta σ H1 Q else tb σ H1 Q:=propext Iff.rfl
theorem ap_lst {t:TA}:tLstX t σ H Q=t σ H fun xs H1=>xs.length<=sizeLine/\nw H1 (.lst xs) Q:=propext Iff.rfl
theorem ap_tup {t:TA}:tTupX t σ H Q=t σ H fun xs H1=>xs.length<=sizeLine/\nw H1 (.tup xs) Q:=propext Iff.rfl
theorem ap_dnew:tDNewX σ H Q=nw H (.dK []) Q:=propext Iff.rfl
theorem ap_lc {k:Nat}{js:List Nat}{wi:TI}{g:TG}{tc:TT}{te:TE}:tLC k js wi g tc te σ H Q=wi σ H fun J H1=>LcTurns g tc te (blkSt k js σ) J H1 Q:=propext Iff.rfl
theorem ap_sl {r:V->Option Int->Option Int->Hp->VK->Prop}{te:TE}{tl th:TO}:tSl r te tl th σ H Q=te σ H fun x H1=>tl σ H1 fun l H2=>th σ H2 fun u H3=>r x l u H3 Q:=propext Iff.rfl
theorem ap_noPart {R:Option Int->Hp->Prop}:tNoPart σ H R=R none H:=propext Iff.rfl
theorem ap_part {t:TE}{R:Option Int->Hp->Prop}:tPart t σ H R=t σ H fun x H1=>∃ i,x=.int i/\R (some i) H1:=propext Iff.rfl
theorem ap_iRng1 {ta:TA}{R:It->Hp->Prop}:iRng1 ta σ H R=ta σ H fun vs H1=>∃ j:Int,vs=[.int j]/\-(2 ^ 62)<=j/\j < 2 ^ 62/\R (Itr 0 j.toNat) H1:=propext Iff.rfl
theorem ap_iRng2 {ta:TA}{R:It->Hp->Prop}:iRng2 ta σ H R=ta σ H fun vs H1=>∃ i j:Int,vs=[.int i,.int j]/\(-(2 ^ 62)<=i/\i < 2 ^ 62/\-(2 ^ 62)<=j/\j < 2 ^ 62)/\R (Itr i (j - i).toNat) H1:=propext Iff.rfl
theorem ap_iZip {K:PySem.W.Frag}{ta:TA}{R:It->Hp->Prop}:iZip K ta σ H R=ta σ H fun vs H1=>∃ a b,vs=[.ref a,.ref b]/\(∃ xs,SqL K H1 a xs)/\(∃ ys,SqL K H1 b ys)/\R (Itz K a b) H1:=propext Iff.rfl
theorem ap_for {wi:TI}{g:TG}{tb:TS}:tFor wi g tb D σ H=wi σ H fun J H1=>ForTurns g tb D J σ H1:=propext Iff.rfl
theorem ap_par {i j:Nat}{ta:TA}:tPar i j ta D σ H=ta σ H fun vs H1=>∃ v w,vs=[v,w]/\D.nx ((σ.set i (some v)).set j (some w)) H1:=propext Iff.rfl
theorem ap_bm {K:PySem.W.Frag}{T:String}{r:V->List V->Hp->VK->Prop}{to:TE}{t:TA}:tBM K T r to t σ H Q=to σ H fun x H1=>tyV K T x H1/\t σ H1 fun xs H2=>r x xs H2 Q:=propext Iff.rfl
theorem ap_chain {r r':R2}{ta tb tc:TE}:tChain r r' ta tb tc σ H Q=ta σ H fun x H1=>tb σ H1 fun y H2=>r x y H2 fun z H3=>∃ k,z=.bl k/\if k=true then tc σ H3 fun v H4=>r' y v H4 Q else Q (.bl false) H3:=propext Iff.rfl
theorem ex_bl {b:Bool}{P:Bool->Prop}:(∃ k,V.bl b=V.bl k/\P k)=P b:=propext ⟨fun ⟨k,e,h⟩=>by cases e;exact h,fun h=>⟨b,rfl,h⟩⟩
theorem ex_int {b:Int}{P:Int->Prop}:(∃ k,V.int b=V.int k/\P k)=P b:=propext ⟨fun ⟨k,e,h⟩=>by cases e;exact h,fun h=>⟨b,rfl,h⟩⟩
theorem ex_ref {b:Addr}{P:Addr->Prop}:(∃ k,V.ref b=V.ref k/\P k)=P b:=propext ⟨fun ⟨k,e,h⟩=>by cases e;exact h,fun h=>⟨b,rfl,h⟩⟩
theorem ex_int1 {b:Int}{P:Int->Prop}:(∃ k,[V.int b]=[V.int k]/\P k)=P b:=propext ⟨fun ⟨k,e,h⟩=>by cases e;exact h,fun h=>⟨b,rfl,h⟩⟩
theorem ex_int2 {b c:Int}{P:Int->Int->Prop}:(∃ k l,[V.int b,V.int c]=[V.int k,V.int l]/\P k l)=P b c:=propext ⟨fun ⟨k,l,e,h⟩=>by cases e;exact h,fun h=>⟨b,c,rfl,h⟩⟩
theorem ex_ref2 {b c:Addr}{P:Addr->Addr->Prop}:(∃ k l,[V.ref b,V.ref c]=[V.ref k,V.ref l]/\P k l)=P b c:=propext ⟨fun ⟨k,l,e,h⟩=>by cases e;exact h,fun h=>⟨b,c,rfl,h⟩⟩
theorem ex_two {b c:V}{P:V->V->Prop}:(∃ k l,[b,c]=[k,l]/\P k l)=P b c:=propext ⟨fun ⟨k,l,e,h⟩=>by cases e;exact h,fun h=>⟨b,c,rfl,h⟩⟩
theorem ex_some {v:V}{P:V->Prop}:(∃ k,some (some v)=some (some k)/\P k)=P v:=propext ⟨fun ⟨k,e,h⟩=>by cases e;exact h,fun h=>⟨v,rfl,h⟩⟩
theorem start_eq {N:List Str}{vs:List V}:start N vs=vs.map some++List.replicate (N.length - vs.length) none:=rfl
end
inductive Tg where
 | non | bl | int | str | lst | tup | dct
 deriving DecidableEq
def Tg.name:Tg->String
 | .non=>"NoneType" | .bl=>"bool" | .int=>"int" | .str=>"str" | .lst=>"list" | .tup=>"tuple" | .dct=>"dict"
def Tg.sub:Tg->Tg->Bool
 | .non,.non=>true | .bl,.bl=>true | .int,.int=>true | .str,.str=>true | .lst,.lst=>true | .tup,.tup=>true | .dct,.dct=>true
 | .bl,.int=>true
 | _,_=>false
def tagO:Option HO->Option Tg
 | some (.lst _)=>some .lst | some (.frz _ (.lst _))=>some .lst | some (.tup _)=>some .tup | some (.dK _)=>some .dct | some (.dT _)=>some .dct
 | _=>none
def tagV (H:Hp):V->Option Tg
 | .non=>some .non | .bl _=>some .bl | .int _=>some .int | .str _=>some .str | .ref a=>tagO (H a)
 | _=>none
theorem kit_tags (K:PySem.W.Frag):∀ t c:Tg,c≠.non->PySem.W.kitOne K (.type t.name) (.type c.name)=some (t.sub c):=by
 intro t c h
 cases t <;> cases c <;> first
  | exact absurd rfl h
  | rfl
  | kernel_rfl
  | decide +kernel
theorem tag_ty {K:PySem.W.Frag}{H:Hp}{x:V}{t:Tg} (h:tagV H x=some t):TyOf K H x (.type t.name):=by
 cases x with
 | non=>cases h;exact .non
 | bl b=>cases h;exact .bl b
 | int i=>cases h;exact .int i
 | str z=>cases h;exact .str z
 | ref a =>
  have h':tagO (H a)=some t:=h
  cases e:H a with
  | none=>rw [e] at h';cases h'
  | some o =>
   rw [e] at h'
   cases o with
   | lst xs=>cases h';exact .lst e
   | tup xs=>cases h';exact .tup e
   | dK kvs=>cases h';exact .dK e
   | dT kvs=>cases h';exact .dT e
   | frz ob u=>cases u with
    | lst xs=>cases h';exact .frz e
    | _=>cases h'
   | _=>cases h'
 | _=>cases h
def rIsiC (c:Tg):List V->Hp->VK->Prop:=fun vs H Q=>match vs with
 | [x,.ty n]=>n=c.name/\∃ t,tagV H x=some t/\Q (.bl (t.sub c)) H
 | _=>False
theorem call_isiC {X:Cx} (c:Tg) (hc:c≠.non:=by decide):CallR X (.builtin "isinstance") (rIsiC c):=by
 intro pins s σ H xs us Q I r h
 match xs,h with
 | [x,.ty n],h =>
  obtain ⟨rfl,t,ht,q⟩:=h
  exact call_isi pins s σ H _ us Q I r ⟨x,_,_,_,rfl,tag_ty ht,kit_tags X.K t c hc,q⟩
theorem while_x {c:TT}{tb:TS}{D:Ends}{σ:St}{H:Hp} (Pv:St->Hp->Prop) (μ:St->Hp->Nat) (h0:Pv σ H)
  (hs:∀ σ H,Pv σ H->c σ H fun b H1=>if b=true then ∃ N:St->Hp->Prop,(∀ σ' H',N σ' H'->Pv σ' H'/\μ σ' H' < μ σ H)/\tb { D with nx:=N,ct:=N,bk:=D.nx } σ H1 else D.nx σ H1):tWhile c tb D σ H :=
 ⟨fun m σ H=>m=μ σ H/\Pv σ H,⟨_,rfl,h0⟩,fun m σ H ⟨e,p⟩=>by
  subst e
  have q:=hs σ H p
  have e:(fun (b:Bool) (H1:Hp)=>if b=true then ∃ N:St->Hp->Prop,(∀ σ' H',N σ' H'->Pv σ' H'/\μ σ' H' < μ σ H)/\tb { D with nx:=N,ct:=N,bk:=D.nx } σ H1 else D.nx σ H1) =
    fun (b:Bool) (H1:Hp)=>if b=true then ∃ N:St->Hp->Prop,(∀ σ' H',N σ' H'->∃ m',m' < μ σ H/\m'=μ σ' H'/\Pv σ' H')/\tb { D with nx:=N,ct:=N,bk:=D.nx } σ H1 else D.nx σ H1:=by
   funext b H1
   cases b with
   | false=>rfl
   | true =>
    simp only [if_true]
    refine propext ⟨fun ⟨N,h1,h2⟩=>⟨N,fun σ' H' n=>⟨_,(h1 σ' H' n).2,rfl,(h1 σ' H' n).1⟩,h2⟩,fun ⟨N,h1,h2⟩=>⟨N,fun σ' H' n=>?_,h2⟩⟩
    obtain ⟨m',h3,h4,h5⟩:=h1 σ' H' n
    exact ⟨h5,by rw [← h4];exact h3⟩
  rw [e] at q
  exact q⟩
theorem cutV_drop (xs:List V) (k:Nat):cutV xs (some (k:Int)) none=xs.drop k:=by
 unfold cutV
 rw [HT.sIx_nat,HT.sIx_none]
 rw [List.take_of_length_le (by rw [List.length_drop];omega)]
 by_cases h:k<=xs.length
 ·rw [Nat.min_eq_left h]
 ·rw [Nat.min_eq_right (by omega),List.drop_of_length_le (Nat.le_refl _),List.drop_of_length_le (by omega)]
theorem rngV_ints (n:Nat):rngV 0 n=(Mk.ofN n).map V.int:=by
 unfold rngV Mk.ofN
 rw [List.map_map]
 refine List.map_congr_left fun k _=>?_
 show V.int (0 + (k:Int))=V.int (k:Int)
 rw [Int.zero_add]
theorem seq_ofN {H1:Hp} (n:Nat):(Itr 0 n).Seq H1 ((Mk.ofN n).map V.int):=by
 rw [← rngV_ints];exact seq_range
theorem small_line {n:Nat} (h:n<=100000):n < sizeLine:=Nat.lt_of_le_of_lt h (by decide)
section
variable {X:Cx}{K:PySem.W.Frag}
theorem op_eqK (hK:X.K=K) (hu:X.A.units < cLine):OpR X (compareOp .Eq) (rEqX K):=hK ▸ op_eqX hu
theorem op_neK (hK:X.K=K) (hu:X.A.units < cLine):OpR X (compareOp .NotEq) (rNeX K):=hK ▸ op_neX hu
theorem ix_K (hK:X.K=K):IxR X (rIxX K):=hK ▸ ix_X
theorem call_lenK (hK:X.K=K):CallR X (.builtin "len") (rLenX K):=hK ▸ call_lenX
theorem call_allK (hK:X.K=K) (hc:X.calm=true):CallR X (.builtin "all") (rAll K):=hK ▸ call_allB hc
theorem call_sumK (hK:X.K=K) (hc:X.calm=true):CallR X (.builtin "sum") (rSum K):=hK ▸ call_sumI hc
theorem call_listK (hK:X.K=K) (hc:X.calm=true):CallR X (.type "list") (rListX K):=hK ▸ call_listX hc
theorem pi_zipK {elts:List Expr}{k:Nat}{tpos:Pos}{a b:Expr}{ta:TA}{p pos:Pos} (hK:X.K=K) (hg:Gl X "zip") (hm:X.mg "zip"=none) (ha:PA X [a,b] ta) (hs:starEach [a,b] X.env=[(false,eval a X.env),(false,eval b X.env)]:=by rfl)
  (hs2:starEach [b] X.env=[(false,eval b X.env)]:=by rfl):PI X (.Tuple elts k tpos) (.Call (.Name "zip" p) [a,b] [] pos) (iZip K ta):=hK ▸ pi_zip hg hm ha hs hs2
theorem pg_tupK {es:List Expr}{k:Nat}{t:TGs}{n:Nat}{pos:Pos} (hK:X.K=K) (hc:X.calm=true) (h:PGs X es t)
  (hn:(assignEach es X.env).length=n:=by rfl) (hst:(assignEach es X.env).findIdx? (·.1)=none:=by rfl):PG X (.Tuple es k pos) (gTup K n t):=hK ▸ pg_tup hc h hn hst
theorem pe_bmK {o e:Expr}{es:List Expr}{to:TE}{t:TA}{name:Str}{apos cpos:Pos}{T id:String}{r:V->List V->Hp->VK->Prop} (hK:X.K=K) (pa:PlainAttrs T) (slot:Slot T name id) (hty:typeOf (.builtin id)=pure (.type "method_descriptor"))
  (hm:MtR X id r) (ho:PE X o to) (ha:PA X (e::es) t)
  (hbase:attributeBase o name X.env (eval o X.env)=eval o X.env:=by rfl)
  (hfew:((backTo cpos (starEach (e::es) X.env)).all (fun x=>!x.1) && (backToKw cpos (keywordEach [] X.env)).all (fun x=>x.1.isSome)
   && decide ((e::es).length + ([]:List Keyword).length + (if ([]:List Keyword).isEmpty then 0 else 1) < 30))=true:=by rfl)
  (hline:(apos.endLine == cpos.line)=true:=by rfl) (hs:starEach (e::es) X.env=(false,eval e X.env)::starEach es X.env:=by rfl) (hplain:(backTo cpos (starEach es X.env)).any (·.1)=false:=by rfl) :
  PE X (.Call (.Attribute o name apos) (e::es) [] cpos) (tBM K T r to t):=hK ▸ pe_bm pa slot hty hm ho ha hbase hfew hline hs hplain
end
end L2

namespace L2
open PySem PySem.Spec PyProof.Rows
def noStar:Expr->Bool
 | .Starred _ _=>false
 | _=>true
def noStars (es:List Expr):Bool:=es.all noStar
theorem starEach_cons {e:Expr}{es:List Expr}{env:Env} (h:noStar e=true):starEach (e::es) env=(false,eval e env)::starEach es env:=by
 cases e <;> first
  | rfl
  | cases h
theorem noStars_tail {e:Expr}{es:List Expr} (h:noStars (e::es)=true):noStar e=true/\noStars es=true:=by
 unfold noStars at h ⊢
 rw [List.all_cons,Bool.and_eq_true] at h
 exact h
theorem backTo_any {pos:Pos}{env:Env}:∀ {es:List Expr},noStars es=true->(backTo pos (starEach es env)).any (·.1)=false
 | [],_=>rfl
 | e::es,h=>by
  obtain ⟨h1,h2⟩:=noStars_tail h
  rw [starEach_cons h1]
  show (false || (backTo pos (starEach es env)).any (·.1))=false
  rw [backTo_any h2];rfl
theorem backTo_all {pos:Pos}{env:Env}:∀ {es:List Expr},noStars es=true->(backTo pos (starEach es env)).all (fun x=>!x.1)=true
 | [],_=>rfl
 | e::es,h=>by
  obtain ⟨h1,h2⟩:=noStars_tail h
  rw [starEach_cons h1]
  show (true && (backTo pos (starEach es env)).all (fun x=>!x.1))=true
  rw [backTo_all h2];rfl
section
variable {X:Cx}{K:PySem.W.Frag}
theorem pvL (i:Nat) {x:Str}{pos:Pos} (hN:X.N[i]?=some x:=by kernel_rfl) (hv:X.env.scope.names.lookup x=some .local:=by kernel_rfl) (hd:(x == ("__debug__":Str))=false:=by kernel_rfl)
  (hcd:(x == ("__classdict__":Str))=false:=by kernel_rfl):PE X (.Name x pos) (tVar i):=pe_var hN (.inl hv) hd hcd
theorem pvC (i:Nat) {x:Str}{pos:Pos} (hN:X.N[i]?=some x:=by kernel_rfl) (hv:X.env.scope.names.lookup x=some .cell:=by kernel_rfl) (hd:(x == ("__debug__":Str))=false:=by kernel_rfl)
  (hcd:(x == ("__classdict__":Str))=false:=by kernel_rfl):PE X (.Name x pos) (tVar i):=pe_var hN (.inr (.inl hv)) hd hcd
theorem pa_c {e:Expr}{es:List Expr}{te:TE}{t:TA} (ha:PE X e te) (hr:PA X es t) (hs:noStar e=true:=by kernel_rfl):PA X (e::es) (tCons te t):=pa_cons ha hr (starEach_cons hs)
theorem pe_callG {CX:CXT}{E:St->XK}{k:Nat}{x:Str}{ps:List Str}{sp:Sp}{e:Expr}{es:List Expr}{t:TA}{p pos:Pos} (C:Fnc X.prog X.w X.K X.mg X.base CX k x ps sp) (hx:Passes CX X E) (hr:Room k X.A) (ha:PA X (e::es) t)
  (hg:X.env.kindOf x=some .globalImplicit:=by kernel_rfl) (hd:(x == ("__debug__":Str))=false:=by kernel_rfl) (hs:noStars (e::es)=true:=by kernel_rfl):PE X (.Call (.Name x p) (e::es) [] pos) (tCall sp [] E t) :=
 pe_callF C hx hr hg ha hd (starEach_cons (noStars_tail hs).1) (backTo_any (noStars_tail hs).2)
theorem pe_callBG {x:Str}{p pos:Pos}{e:Expr}{es:List Expr}{t:TA}{id:String}{r:List V->Hp->VK->Prop} (hc:CallR X (.builtin id) r) (hm:X.mg x=none) (hv:bootBuiltins x=some (.builtin id)) (ha:PA X (e::es) t)
  (hg:X.env.kindOf x=some .globalImplicit:=by kernel_rfl) (hn:x≠"__name__":=by decide +kernel) (hd:(x == ("__debug__":Str))=false:=by kernel_rfl) (hs:noStars (e::es)=true:=by kernel_rfl):PE X (.Call (.Name x p) (e::es) [] pos) (tCB r t) :=
 pe_callB hc hg hm hv ha hn hd (starEach_cons (noStars_tail hs).1) (backTo_any (noStars_tail hs).2)
theorem pe_callTyG {x:Str}{p pos:Pos}{e:Expr}{es:List Expr}{t:TA}{T:String}{r:List V->Hp->VK->Prop} (hc:CallR X (.type T) r) (hm:X.mg x=none) (hv:bootBuiltins x=some (.type T)) (ha:PA X (e::es) t)
  (hg:X.env.kindOf x=some .globalImplicit:=by kernel_rfl) (hn:x≠"__name__":=by decide +kernel) (hd:(x == ("__debug__":Str))=false:=by kernel_rfl) (hs:noStars (e::es)=true:=by kernel_rfl):PE X (.Call (.Name x p) (e::es) [] pos) (tCB r t) :=
 pe_callTy hc hg hm hv ha hn hd (starEach_cons (noStars_tail hs).1) (backTo_any (noStars_tail hs).2)
theorem pe_tyG {x:Str}{T:String}{pos:Pos} (hm:X.mg x=none) (hv:bootBuiltins x=some (.type T)) (hg:X.env.kindOf x=some .globalImplicit:=by kernel_rfl) (hn:x≠"__name__":=by decide +kernel) (hd:(x == ("__debug__":Str))=false:=by kernel_rfl) :
  PE X (.Name x pos) (tC (.ty T)):=pe_ty hg hm hv hn hd
theorem ps_setL {i:Nat}{x:Str}{e:Expr}{te:TE}{pos pos':Pos} (hN:X.N.Nodup) (he:PE X e te) (hi:X.N[i]?=some x:=by kernel_rfl) (hx:X.env.scope.names.lookup x=some .local:=by kernel_rfl)
  (hs:swapsWith e (some (.Name x pos')) pos.line X.env=pure false:=by kernel_rfl):PS X (.Assign [.Name x pos'] e pos) (tAsg te (gName i)):=ps_set hN hi (.inl hx) he hs (.inr hx)
theorem ps_setC {i:Nat}{x:Str}{e:Expr}{te:TE}{pos pos':Pos} (hN:X.N.Nodup) (he:PE X e te) (hi:X.N[i]?=some x:=by kernel_rfl) (hx:X.env.scope.names.lookup x=some .cell:=by kernel_rfl) (hf:X.fn x=true:=by kernel_rfl)
  (hs:swapsWith e (some (.Name x pos')) pos.line X.env=pure false:=by kernel_rfl):PS X (.Assign [.Name x pos'] e pos) (tAsg te (gName i)):=ps_set hN hi (.inr hx) he hs (.inl hf)
theorem pg_nameL {i:Nat}{x:Str}{pos:Pos} (hN:X.N.Nodup) (hi:X.N[i]?=some x:=by kernel_rfl) (hx:X.env.scope.names.lookup x=some .local:=by kernel_rfl):PG X (.Name x pos) (gName i):=pg_name hN hi (.inl hx) (.inr hx)
theorem pi_range1G {tg a:Expr}{ta:TA}{p pos:Pos} (hm:X.mg "range"=none) (ha:PA X [a] ta) (hg:X.env.kindOf "range"=some .globalImplicit:=by kernel_rfl) (hs:noStar a=true:=by kernel_rfl):PI X tg (.Call (.Name "range" p) [a] [] pos) (iRng1 ta) :=
 pi_range1 hg hm ha (starEach_cons hs)
theorem pi_range2G {tg a b:Expr}{ta:TA}{p pos:Pos} (hm:X.mg "range"=none) (ha:PA X [a,b] ta) (hg:X.env.kindOf "range"=some .globalImplicit:=by kernel_rfl) (hs:noStar a=true:=by kernel_rfl) (hs2:noStar b=true:=by kernel_rfl) :
  PI X tg (.Call (.Name "range" p) [a,b] [] pos) (iRng2 ta):=pi_range2 hg hm ha (by rw [starEach_cons hs,starEach_cons hs2];rfl) (starEach_cons hs2)
theorem pi_zipG {elts:List Expr}{k:Nat}{tpos:Pos}{a b:Expr}{ta:TA}{p pos:Pos} (hK:X.K=K) (hm:X.mg "zip"=none) (ha:PA X [a,b] ta) (hg:X.env.kindOf "zip"=some .globalImplicit:=by kernel_rfl) (hs:noStar a=true:=by kernel_rfl) (hs2:noStar b=true:=by kernel_rfl) :
  PI X (.Tuple elts k tpos) (.Call (.Name "zip" p) [a,b] [] pos) (iZip K ta):=pi_zipK hK hg hm ha (by rw [starEach_cons hs,starEach_cons hs2];rfl) (starEach_cons hs2)
theorem pe_bmG {o e:Expr}{es:List Expr}{to:TE}{t:TA}{name:Str}{apos cpos:Pos}{T id:String}{r:V->List V->Hp->VK->Prop} (hK:X.K=K) (pa:PlainAttrs T) (slot:Slot T name id) (hty:typeOf (.builtin id)=pure (.type "method_descriptor"))
  (hm:MtR X id r) (ho:PE X o to) (ha:PA X (e::es) t)
  (hbase:attributeBase o name X.env (eval o X.env)=eval o X.env:=by kernel_rfl) (hs:noStars (e::es)=true:=by kernel_rfl) (hlen:decide ((e::es).length < 30)=true:=by kernel_rfl)
  (hline:(apos.endLine == cpos.line)=true:=by kernel_rfl):PE X (.Call (.Attribute o name apos) (e::es) [] cpos) (tBM K T r to t):=by
 refine pe_bmK hK pa slot hty hm ho ha hbase ?_ hline (starEach_cons (noStars_tail hs).1) (backTo_any (noStars_tail hs).2)
 rw [backTo_all hs]
 show (true && true && decide ((e::es).length + 0 + 0 < 30))=true
 rw [Bool.true_and,Bool.true_and];exact hlen
end
end L2

namespace L2
open PySem PySem.Spec PyProof.Rows
def tx (l:List Nat):Str:=⟨l.toArray⟩
theorem tx_cps (l:List Nat):(tx l).cps.toList=l:=by unfold tx;simp
theorem tx_len (l:List Nat):(tx l).length=l.length:=by show l.toArray.size=_;simp
theorem tx_of (x:Str):tx x.cps.toList=x:=by unfold tx;simp
theorem tx_app (a b:List Nat):tx a++tx b=tx (a++b):=by
 show Str.mk (a.toArray++b.toArray)=Str.mk (a++b).toArray
 simp
theorem tx_inj {a b:List Nat} (h:tx a=tx b):a=b:=by have:=congrArg (fun x:Str=>x.cps.toList) h;simpa [tx] using this
theorem len_cps (x:Str):x.length=x.cps.toList.length:=by show x.cps.size=_;simp
def Itx (z:Str):It:=⟨fun i _=>i < z.cps.size,fun i H v H'=>H'=H/\∃ c,z.cps[i]?=some c/\v=.str ⟨#[c]⟩,fun i _=>z.cps.size<=i⟩
theorem turn_str {P:Program}{w:World}{K:PySem.W.Frag}{tg:Expr} (n:String) (hn:n="str_ascii_iterator" ∨ n="str_iterator") (z:Str) (t:Tok) (it:Addr):Turn P w K tg (Itx z) [it] it (fun i h=>h.IsStrIter it n z t i) where
 mem:=by simp
 obj:=fun i h st b hb=>by
  have e:b=it:=by simpa using hb
  subst e
  obtain ⟨o,e,c,d⟩:=st
  exact ⟨o,e,fun v z=>by rw [d] at z;cases z⟩
 keep:=fun i h h' st k=>by
  obtain ⟨o,e,c,d⟩:=st
  exact ⟨o,k it (by simp) o e,c,d⟩
 item:=by
  intro X hP hw hK hc i pins s σ H E I hf st hg
  subst hP hw hK
  have hg':i < z.cps.size:=hg
  have hx:z.cps[i]?=some z.cps[i]:=Array.getElem?_eq_getElem hg'
  obtain ⟨f0,f1,f2,f3,f4,f5⟩:=hf it (by simp)
  have go:∀ h',h'.IsStrIter it n z t (i + 1)->Heap.SameBut it s.heap h'->∃ u,some (Value.str ⟨#[z.cps[i]]⟩ s.toks)=some u ∧
    wpAny (model X.prog X.w) X.A (letOwnedTupleGo tg (.ref it) u) (fun _ s2=>∃ x H',Inv X pins σ H' s2/\RelV x u/\(Itx z).yld i H x H'/\s2.heap.IsStrIter it n z t (i + 1)/\∀ b∈[it],H' b=none) E { s with heap:=h',toks:=s.toks + 1 }:=fun h' st' sb=>by
   have I1:Inv X pins σ H { s with heap:=h',toks:=s.toks + 1 }:=I.turned (t':=s.toks + 1) (fun b o hb e=>(sb.2 b hb).trans e) f0 f1 f3 f4 f5
   obtain ⟨o,e,c,d⟩:=id st'
   exact ⟨_,rfl,go_of (s:={ s with heap:=h',toks:=s.toks + 1 }) e c d (by rcases hn with rfl | rfl <;> decide) ⟨.str ⟨#[z.cps[i]]⟩,H,I1,⟨_,rfl⟩,⟨rfl,_,hx,rfl⟩,st',fun b hb=>(hf b hb).1⟩⟩
  rcases hn with rfl | rfl
  ·exact wpAny_pyNext_ascii_item st hx go
  ·exact wpAny_pyNext_wide_item st hx go
 done:=by
  intro X hP hw hK hc i pins s σ H E I hf st hg
  subst hP hw hK
  have hx:z.cps[i]?=none:=Array.getElem?_eq_none hg
  obtain ⟨f0,f1,f2,f3,f4,f5⟩:=hf it (by simp)
  have go:∀ h',Heap.ExtBut it s.heap h'->(none:Option Value)=none/\Inv X pins σ H { s with heap:=h' }:=fun h' eb =>
   ⟨rfl,I.turned (t':=s.toks) (fun b o hb e=>eb b o hb e) f0 f1 f3 f4 f5⟩
  rcases hn with rfl | rfl
  ·exact wpAny_pyNext_ascii_end (I.ok.hd hc) st hx go
  ·exact wpAny_pyNext_wide_end (I.ok.hd hc) st hx go
 self:=fun _ _ _ _ _ st h=>by
  rcases hn with rfl | rfl
  ·exact wpAny_pyIter_striter_ascii st h
  ·exact wpAny_pyIter_striter_wide st h
def iSeqV (K:PySem.W.Frag) (x:V) (H:Hp) (R:It->Hp->Prop):Prop:=match x with
 | .ref a=>((∃ xs,SqL K H a xs)/\R (Itl K a) H) ∨ ((∃ xs,SqT K H a xs)/\R (Itt K a) H)
 | .str z=>R (Itx z) H
 | _=>False
def iSeqX (K:PySem.W.Frag) (te:TE):TI:=fun σ H R=>te σ H fun x H1=>iSeqV K x H1 R
theorem pi_seq {X:Cx}{tg l:Expr}{tl:TE} (hl:PE X l tl):PI X tg l (iSeqX X.K tl):=by
 intro pins s σ H R I h
 refine thn (hl pins s σ H _ I h) fun v s1 ⟨x,H1,I1,r1,q1⟩=>?_
 cases x with
 | ref a =>
  cases r1
  rcases q1 with ⟨⟨xs,hq⟩,q⟩ | ⟨⟨xs,hq⟩,q⟩
  ·obtain ⟨its,rv,p,hz⟩:=I1.list hq
   refine wpAny_pyIter_list p.isList ?_
   refine ⟨s1.heap.objs.size,[s1.heap.objs.size],_,_,H1,rfl,I1.kept (t':=s1.toks) fun b o e=>Heap.get?_push_of_some _ e,turn_list a _,⟨_,Heap.get?_push_size _ rfl,rfl,rfl⟩,fun b hb=>?_,q⟩
   have e:b=s1.heap.objs.size:=by simpa using hb
   subst e
   exact I1.fpOk (Nat.le_refl _) (I1.hok.fresh (Nat.le_refl _))
  ·obtain ⟨its,rv,p,hz⟩:=I1.tuple hq
   refine wpAny_pyIter_tuple (show s1.heap.IsTuple a its.toArray from p) ?_
   refine ⟨s1.heap.objs.size,[s1.heap.objs.size],_,_,H1,rfl,I1.kept (t':=s1.toks) fun b o e=>Heap.get?_push_of_some _ e,turn_tuple a _,⟨_,Heap.get?_push_size _ rfl,rfl,rfl⟩,fun b hb=>?_,q⟩
   have e:b=s1.heap.objs.size:=by simpa using hb
   subst e
   exact I1.fpOk (Nat.le_refl _) (I1.hok.fresh (Nat.le_refl _))
 | str z =>
  obtain ⟨t,rfl⟩:=r1
  cases ha:z.cps.all (· < 128) with
  | true =>
   refine wpAny_pyIter_ascii ha ?_
   refine ⟨s1.heap.objs.size,[s1.heap.objs.size],_,_,H1,rfl,I1.kept (t':=s1.toks) fun b o e=>Heap.get?_push_of_some _ e,turn_str "str_ascii_iterator" (.inl rfl) z t _,⟨_,Heap.get?_push_size _ rfl,rfl,rfl⟩,fun b hb=>?_,q1⟩
   have e:b=s1.heap.objs.size:=by simpa using hb
   subst e
   exact I1.fpOk (Nat.le_refl _) (I1.hok.fresh (Nat.le_refl _))
  | false =>
   refine wpAny_pyIter_wide ha ?_
   refine ⟨s1.heap.objs.size,[s1.heap.objs.size],_,_,H1,rfl,I1.kept (t':=s1.toks) fun b o e=>Heap.get?_push_of_some _ e,turn_str "str_iterator" (.inr rfl) z t _,⟨_,Heap.get?_push_size _ rfl,rfl,rfl⟩,fun b hb=>?_,q1⟩
   have e:b=s1.heap.objs.size:=by simpa using hb
   subst e
   exact I1.fpOk (Nat.le_refl _) (I1.hok.fresh (Nat.le_refl _))
 | _=>exact False.elim q1
theorem pi_seqK {X:Cx}{K:PySem.W.Frag}{tg l:Expr}{tl:TE} (hK:X.K=K) (hl:PE X l tl):PI X tg l (iSeqX K tl):=hK ▸ pi_seq hl
theorem ap_iSeq {σ:St}{H:Hp}{K:PySem.W.Frag}{tl:TE}{R:It->Hp->Prop}:iSeqX K tl σ H R=tl σ H fun x H1=>iSeqV K x H1 R:=propext Iff.rfl
def sgs (z:Str):List V:=z.cps.toList.map fun c=>V.str ⟨#[c]⟩
theorem seq_str {H1:Hp} (z:Str):(Itx z).Seq H1 (sgs z):=fun H s=>by
 refine ⟨fun i x e=>?_,fun i hi=>?_⟩
 ·unfold sgs at e
  rw [List.getElem?_map,Array.getElem?_toList] at e
  cases hc:z.cps[i]? with
  | none=>rw [hc] at e;cases e
  | some c =>
   rw [hc] at e
   have e':V.str ⟨#[c]⟩=x:=Option.some.inj e
   have hi:i < z.cps.size:=by
    rcases Nat.lt_or_ge i z.cps.size with h | h
    ·exact h
    ·rw [Array.getElem?_eq_none h] at hc;cases hc
   exact ⟨hi,fun y H' ⟨e1,d,e2,e3⟩=>⟨e1,by rw [hc] at e2;cases e2;rw [e3,e']⟩⟩
 ·show z.cps.size<=i
  unfold sgs at hi
  simpa using hi
def rInX (K:PySem.W.Frag) (neg:Bool):R2:=fun x y H Q=>match y with
 | .str j=>match x with
  | .str i=>Q (.bl (neg != !(Builtin.Str.occurrences j i 0 j.length 1).isEmpty)) H
  | _=>False
 | .ref p=>(∃ xs,Sq K H p xs/\flatV x=true/\xs.all flatV=true/\Q (.bl (neg != inV x xs)) H) ∨ ∃ o:Option V,DGet H p x o/\Q (.bl (neg != o.isSome)) H
 | _=>False
theorem op_inX {X:Cx} (hu:X.A.units + 1 < cLine):OpR X (compareOp .In) (rInX X.K false):=by
 intro pins s σ H x y v u Q I rx ry h
 cases y with
 | str j=>cases x with
  | str i =>
   refine op_in_str pins s σ H _ _ v u Q I rx ry ⟨i,j,rfl,rfl,?_⟩
   have h':Q (.bl (false != !(Builtin.Str.occurrences j i 0 j.length 1).isEmpty)) H:=h
   rwa [Bool.false_bne] at h'
  | _=>exact False.elim h
 | ref p =>
  rcases h with ⟨xs,hs,fx,fxs,q⟩ | ⟨o,hg,q⟩
  ·rw [Bool.false_bne] at q
   exact op_in_seq pins s σ H _ _ v u Q I rx ry ⟨p,xs,rfl,hs,fx,fxs,q⟩
  ·rw [Bool.false_bne] at q
   cases ry
   exact d_in hu I hg rx fun s' I'=>⟨.bl _,H,I',rfl,q⟩
 | _=>exact False.elim h
theorem op_inK {X:Cx}{K:PySem.W.Frag} (hK:X.K=K) (hu:X.A.units + 1 < cLine):OpR X (compareOp .In) (rInX K false):=hK ▸ op_inX hu
theorem in_one (x:Str) (c:Nat):(!(Builtin.Str.occurrences x ⟨#[c]⟩ 0 x.length 1).isEmpty)=decide (c∈x.cps.toList):=StrLaws.found_one x c
theorem At_one {x:Str}{c i:Nat}:StrLaws.At x ⟨#[c]⟩ x.length i ↔ x.cps.toList[i]?=some c:=by
 unfold StrLaws.At Builtin.Str.subAt
 show i + 1<=x.cps.size/\(x.cps.extract i (i + 1) == #[c])=true ↔ _
 rw [Array.getElem?_toList]
 constructor
 ·rintro ⟨h1,h2⟩
  have e:=eq_of_beq h2
  have:x.cps[i]?=(x.cps.extract i (i + 1))[0]?:=by
   rw [Array.getElem?_extract];simp;omega
  rw [this,e];rfl
 ·intro h
  have hi:i < x.cps.size:=by
   rcases Nat.lt_or_ge i x.cps.size with h' | h'
   ·exact h'
   ·rw [Array.getElem?_eq_none h'] at h;cases h
  refine ⟨hi,?_⟩
  have:x.cps.extract i (i + 1)=#[c]:=by
   apply Array.ext
   ·simp;omega
   ·intro j h1 h2
    have hj:j=0:=by simp at h2;omega
    subst hj
    have e:=Array.getElem?_eq_getElem hi
    rw [h] at e
    simp [Option.some.inj e]
  rw [this];exact beq_self_eq_true _
theorem find_one {x:Str}{c:Nat} (h:c∈x.cps.toList):Txt.find x ⟨#[c]⟩=((x.cps.toList.idxOf c:Nat):Int):=by
 have hi:x.cps.toList.idxOf c < x.cps.toList.length:=List.idxOf_lt_length_of_mem h
 have hg:x.cps.toList[x.cps.toList.idxOf c]?=some c:=by
  rw [List.getElem?_eq_getElem hi,List.getElem_idxOf]
 rcases find_whole x ⟨#[c]⟩ with ⟨_,hn⟩ | ⟨i,e,hi2,hn⟩
 ·exact absurd (At_one.mpr hg) (hn _)
 ·rw [e]
  have h1:¬ x.cps.toList.idxOf c < i:=fun z=>hn _ z (At_one.mpr hg)
  have h2:=At_one.mp hi2
  have h3:x.cps.toList.idxOf c<=i:=by
   rcases Nat.lt_or_ge i (x.cps.toList.idxOf c) with z | z
   ·obtain ⟨hl,e2⟩:=List.getElem?_eq_some_iff.mp h2
    have h5:=List.not_of_lt_findIdx (p:=(· == c)) (xs:=x.cps.toList) (i:=i) z
    rw [e2] at h5
    simp at h5
   ·exact z
  congr 1
  omega
def rIndexS:V->List V->Hp->VK->Prop:=fun x vs H Q=>match x,vs with
 | .str z,[.str y]=>0<=Txt.find z y/\Q (.int (Txt.find z y)) H
 | _,_=>False
theorem mt_indexS {X:Cx}:MtM X "str.index" rIndexS:=by
 intro pins s σ H x vs v us Q I rx rv h
 match x,vs,h with
 | .str z,[.str y],h =>
  obtain ⟨t,rfl⟩:=rx
  obtain ⟨u,rfl,t',rfl⟩:=rv.one
  cases ho:Builtin.Str.occurrences z y 0 z.length 1 with
  | nil =>
   have e:Txt.find z y=-1:=by simp [Txt.find,ho]
   have h1:=h.1
   rw [e] at h1
   exact absurd h1 (by decide)
  | cons i rest =>
   have e:Txt.find z y=(i:Int):=by simp [Txt.find,ho]
   refine SC.index ho ?_
   have h2:=h.2
   rw [e] at h2
   exact ⟨.int _,H,I.tok _,⟨_,rfl⟩,h2⟩
theorem strs_of {ys:List Str}:∀ {us:List Value},Vals (ys.map V.str) us->StrsAre us ys:=by
 induction ys with
 | nil=>intro us r;cases r;exact .nil
 | cons y r ih =>
  intro us h
  cases h with
  | cons h1 h2 =>
   obtain ⟨t,rfl⟩:=h1
   exact .cons _ _ (ih h2)
def rJoinS (K:PySem.W.Frag):V->List V->Hp->VK->Prop:=fun x vs H Q=>match x,vs with
 | .str z,[.ref p]=>∃ ys:List Str,SqL K H p (ys.map V.str)/\(ys.map (·.length)).sum + ys.length * z.length<=16777216/\Q (.str (Txt.join z ys)) H
 | _,_=>False
theorem mt_joinS {X:Cx}:MtM X "str.join" (rJoinS X.K):=by
 intro pins s σ H x vs v us Q I rx rv h
 match x,vs,h with
 | .str z,[.ref p],h =>
  obtain ⟨ys,hs,hl,q⟩:=h
  obtain ⟨t,rfl⟩:=rx
  obtain ⟨u,rfl,ru⟩:=rv.one
  cases ru
  obtain ⟨its,rv2,pl,hz⟩:=I.list hs
  exact join_list pl.isList (by simpa using strs_of rv2) hl fun t' k=>⟨.str _,H,I.tok _,⟨_,rfl⟩,q⟩
theorem mt_joinK {X:Cx}{K:PySem.W.Frag} (hK:X.K=K):MtM X "str.join" (rJoinS K):=hK ▸ mt_joinS
theorem join_empty (ls:List (List Nat)):Txt.join (tx []) (ls.map tx)=tx ls.flatten:=by
 have go:∀ (r:List (List Nat)) (acc:List Nat),(r.map tx).foldl (fun acc p=>acc++(tx []).cps++p.cps) acc.toArray=(acc++r.flatten).toArray:=by
  intro r
  induction r with
  | nil=>intro acc;simp
  | cons a r ih =>
   intro acc
   rw [List.map_cons,List.foldl_cons]
   have e:acc.toArray++(tx []).cps++(tx a).cps=(acc++a).toArray:=by simp [tx]
   rw [e,ih]
   simp
 unfold Txt.join Builtin.Str.glued
 cases ls with
 | nil=>rfl
 | cons a r =>
  have:=go r a
  show Str.mk ((r.map tx).foldl (fun acc p=>acc++(tx []).cps++p.cps) a.toArray)=tx (a::r).flatten
  rw [this]
  rfl
theorem join_signs (l:List Nat):Txt.join (tx []) (l.map fun c=>tx [c])=tx l:=by
 have:=join_empty (l.map fun c=>[c])
 rw [List.map_map] at this
 rw [show (l.map fun c=>tx [c])=l.map (tx ∘ fun c=>[c]) from rfl,this]
 congr 1
 induction l with
 | nil=>rfl
 | cons a r ih=>rw [List.map_cons,List.flatten_cons,ih (by
   have:=join_empty (r.map fun c=>[c])
   rw [List.map_map] at this;exact this)];rfl
section
variable {α β:Type}
noncomputable def pull {γ:Type} (e:α->V) (f:α->γ) (d:γ) (v:V):γ:=open Classical in if h:∃ a,e a=v then f (Classical.choose h) else d
theorem pull_at {γ:Type}{e:α->V} (inj:∀ a b,e a=e b->a=b) (f:α->γ) (d:γ) (a:α):pull e f d (e a)=f a:=by
 unfold pull
 have h:∃ b,e b=e a:=⟨a,rfl⟩
 rw [dif_pos h,inj _ _ (Classical.choose_spec h)]
theorem inj_int:∀ a b:Int,V.int a=V.int b->a=b:=fun _ _ h=>by cases h;rfl
theorem inj_sg:∀ a b:Nat,V.str ⟨#[a]⟩=V.str ⟨#[b]⟩->a=b:=fun _ _ h=>by cases h;rfl
theorem lc_A {J:It}{H1:Hp}{xs:List α}{js:List Nat}{σ:St}{tc:TT}{te:TE}{Q:VK} (e:α->V) (inj:∀ a b,e a=e b->a=b) (hJ:J.Seq H1 (xs.map e)) (hl:xs.length < sizeLine) (p:α->Bool) (f:α->V)
  (hc:∀ x∈xs,∀ H,Same H1 H->∀ R:Bool->Hp->Prop,(∀ H',Same H H'->R (p x) H')->tc (some (e x)::js.map fun j=>(σ[j]?).join) H R)
  (he:∀ x∈xs,p x=true->∀ H,Same H1 H->∀ R:VK,(∀ H',Same H H'->R (f x) H')->te (some (e x)::js.map fun j=>(σ[j]?).join) H R)
  (q:∀ D H,H1 D=none->Same H1 H->H D=some (.lst ((xs.filter p).map f))->Q (.ref D) H):LcTurns (gName 0) tc te (blkSt 1 js σ) J H1 Q:=by
 refine lc_one hJ (by rw [List.length_map];exact hl) (pull e p false) (pull e f .non) ?_ ?_ ?_
 ·intro v hv H s R hR
  obtain ⟨x,hx,rfl⟩:=List.mem_map.mp hv
  rw [pull_at inj] at hR
  exact hc x hx H s R hR
 ·intro v hv hp H s R hR
  obtain ⟨x,hx,rfl⟩:=List.mem_map.mp hv
  rw [pull_at inj] at hR hp
  exact he x hx hp H s R hR
 ·intro D H h1 h2 h3
  refine q D H h1 h2 ?_
  rw [h3,List.filter_map,List.map_map]
  congr 2
  have e1:pull e f .non ∘ e=f:=funext fun a=>pull_at inj f .non a
  have e2:pull e p false ∘ e=p:=funext fun a=>pull_at inj p false a
  rw [e1,e2]
theorem lc_M {J:It}{H1:Hp}{xs:List α}{js:List Nat}{σ:St}{te:TE}{Q:VK} (e:α->V) (inj:∀ a b,e a=e b->a=b) (hJ:J.Seq H1 (xs.map e)) (hl:xs.length < sizeLine) (f:α->V)
  (he:∀ x∈xs,∀ H,Same H1 H->∀ R:VK,(∀ H',Same H H'->R (f x) H')->te (some (e x)::js.map fun j=>(σ[j]?).join) H R)
  (q:∀ D H,H1 D=none->Same H1 H->H D=some (.lst (xs.map f))->Q (.ref D) H):LcTurns (gName 0) tYes te (blkSt 1 js σ) J H1 Q :=
 lc_A e inj hJ hl (fun _=>true) f (fun x _ H _ R hR=>hR H (Same.refl H)) (fun x hx _ H s R hR=>he x hx H s R hR) fun D H h1 h2 h3=>q D H h1 h2 (by rw [List.filter_eq_self.mpr (fun _ _=>rfl)] at h3;exact h3)
theorem lc_Z {K:PySem.W.Frag}{a b:Addr}{H1:Hp}{xs:List α}{ys:List β}{js:List Nat}{σ:St}{te:TE}{Q:VK} (e:α->V) (e':β->V) (inj:∀ a b,e a=e b->a=b) (inj':∀ a b,e' a=e' b->a=b)
  (hx:SqL K H1 a (xs.map e)) (hy:SqL K H1 b (ys.map e')) (hl:xs.length < sizeLine) (f:α->β->V)
  (he:∀ x y,(x,y)∈xs.zip ys->∀ H,Same H1 H->∀ R:VK,(∀ H',Same H H'->R (f x y) H')->te (some (e x)::some (e' y)::js.map fun j=>(σ[j]?).join) H R)
  (q:∀ D H,H1 D=none->Same H1 H->H D=some (.lst ((xs.zip ys).map fun p=>f p.1 p.2))->Q (.ref D) H):LcTurns (gTup K 2 (gCons (gName 0) (gCons (gName 1) gNil))) tYes te (blkSt 2 js σ) (Itz K a b) H1 Q:=by
 refine lc_zip hx hy (by rw [List.length_map];exact hl) (fun v u=>pull e (fun x=>pull e' (f x) .non u) .non v) ?_ ?_
 ·intro v u hvu H s R hR
  rw [List.zip_map,List.mem_map] at hvu
  obtain ⟨⟨x,y⟩,hxy,e2⟩:=hvu
  cases e2
  have e3:pull e (fun x=>pull e' (f x) .non (e' y)) .non (e x)=f x y:=by rw [pull_at inj,pull_at inj']
  exact he x y hxy H s R (fun H' s'=>by have:=hR H' s';rwa [e3] at this)
 ·intro D H h1 h2 h3
  refine q D H h1 h2 ?_
  rw [h3,List.zip_map,List.map_map]
  congr 2
  refine List.map_congr_left fun ⟨x,y⟩ _=>?_
  show pull e (fun x=>pull e' (f x) .non (e' y)) .non (e x)=f x y
  rw [pull_at inj,pull_at inj']
end
theorem seq_sg {H1:Hp} (z:Str):(Itx z).Seq H1 (z.cps.toList.map fun c=>V.str ⟨#[c]⟩):=seq_str z
theorem sub_str {H:Hp}{x:V}{t:Tg} (ht:tagV H x=some t) (hs:∀ z,x≠.str z):t≠.str:=fun e=>by
 subst e
 cases x with
 | str z=>exact hs z rfl
 | ref a =>
  have h':tagO (H a)=some .str:=ht
  cases e:H a with
  | none=>rw [e] at h';cases h'
  | some o=>rw [e] at h';cases o with
   | frz ob u=>cases u <;> cases h'
   | _=>cases h'
 | _=>cases ht
theorem cbig_small {a b:Int} (ha:0<=a/\a < 1000) (hb:0<=b/\b < 1000):CBig a b :=
 ⟨Nat.lt_of_lt_of_le (show a.natAbs < 1000 by omega) (by decide),Nat.lt_of_lt_of_le (show b.natAbs < 1000 by omega) (by decide)⟩
theorem cut_seq {t u:TS}{D:Ends}{σ:St}{H:Hp} (R:St->Hp->Prop) (h2:∀ σ' H',R σ' H'->u D σ' H') (h1:∀ U:St->Hp->Prop,(∀ σ' H',R σ' H'->U σ' H')->t { D with nx:=U } σ H):tSeq t u D σ H:=h1 _ h2
theorem atI_of {α:Type}{l:List α}{i:Int}{v:α} (h0:0<=i) (h1:l[i.toNat]?=some v):atI l i=some v:=by
 have:=atI_nat h1
 rwa [Int.toNat_of_nonneg h0] at this
theorem abc_codes:(Str.ofString "abcdefghijklmnopqrstuvwxyz").cps.toList=List.range' 97 26:=by decide +kernel
theorem empty_tx:Str.ofString ""=tx []:=by decide +kernel
theorem js_seq {K:PySem.W.Frag}{H:Hp}{D:Addr}{l:List Nat} (h:H D=some (.lst (l.map fun c=>V.str (tx [c])))):SqL K H D ((l.map fun c=>tx [c]).map V.str):=.of (by rw [h,List.map_map];rfl)
theorem js_len {l:List Nat} (hl:l.length<=100000):((l.map fun c=>tx [c]).map (·.length)).sum + (l.map fun c=>tx [c]).length * (Str.ofString "").length<=16777216:=by
 have e2:(Str.ofString "").length=0:=by decide +kernel
 rw [e2,Nat.mul_zero,Nat.add_zero,List.map_map]
 have e:∀ l:List Nat,(l.map ((fun x:Str=>x.length) ∘ fun x=>tx [x])).sum=l.length:=by
  intro l
  induction l with
  | nil=>rfl
  | cons a r ih=>rw [List.map_cons,List.sum_cons,ih,List.length_cons];show (tx [a]).length + _=_;rw [tx_len];simp;omega
 rw [e]
 omega
theorem js_join (l:List Nat):Txt.join (Str.ofString "") (l.map fun c=>tx [c])=tx l:=by rw [empty_tx,join_signs]
end L2

namespace L2
open PySem PySem.Spec PyProof.Rows
def DK (h h':Heap):Prop:=∀ b o,h.get? b=some o->∃ o',h'.get? b=some o'/\o'.cls=o.cls/\o'.dict=o.dict/\(∀ vs,o.data=.fields vs->∃ vs',o'.data=.fields vs'/\vs'[2]?=vs[2]?)
theorem DK.refl (h:Heap):DK h h:=fun b o e=>⟨o,e,rfl,rfl,fun vs q=>⟨vs,q,rfl⟩⟩
theorem DK.trans {h1 h2 h3:Heap} (x:DK h1 h2) (y:DK h2 h3):DK h1 h3:=fun b o e=>by
 obtain ⟨o1,e1,c1,d1,f1⟩:=x b o e
 obtain ⟨o2,e2,c2,d2,f2⟩:=y b o1 e1
 exact ⟨o2,e2,c2.trans c1,d2.trans d1,fun vs q=>by obtain ⟨v1,q1,g1⟩:=f1 vs q;obtain ⟨v2,q2,g2⟩:=f2 v1 q1;exact ⟨v2,q2,g2.trans g1⟩⟩
theorem DK.push (h:Heap) (o:Obj):DK h (h.push o):=fun b u e=>⟨u,Heap.get?_push_of_some _ e,rfl,rfl,fun vs q=>⟨vs,q,rfl⟩⟩
structure KD {α:Type} (m:Sem α):Prop where
 out:∀ (M:Model) (Γ:PySem.Ctx) (P:α->Pos->Shared->Prop) (Ee:Value->Pos->Shared->Prop) (p:Pos) (s:Shared),Sem.wp M Γ m P Ee p s →
  Sem.wp M Γ m (fun a p' s'=>P a p' s'/\DK s.heap s'.heap) (fun e p' s'=>Ee e p' s'/\DK s.heap s'.heap) p s
namespace KD
variable {α β:Type}
theorem pure (a:α):KD (Pure.pure a:Sem α):=⟨fun _ _ _ _ _ s h=>⟨h,DK.refl _⟩⟩
theorem unsupported (w:String):KD (PySem.unsupported w:Sem α):=⟨fun _ _ _ _ _ _ h=>h⟩
theorem bind {m:Sem α}{f:α->Sem β} (hm:KD m) (hf:∀ a,KD (f a)):KD (m >>= f):=⟨fun M Γ P Ee p s h=>by
 rw [Sem.wp_bind'] at h ⊢
 refine Sem.wp_mono M Γ m (fun a p' s' h'=>?_) (fun _ _ _ x=>x) p s (hm.out M Γ _ _ p s h)
 refine Sem.wp_mono M Γ (f a) (fun b p2 s2 h2=>⟨h2.1,h'.2.trans h2.2⟩) (fun e p2 s2 h2=>⟨h2.1,h'.2.trans h2.2⟩) p' s' ((hf a).out M Γ P Ee p' s' h'.1)⟩
theorem ite {c:Prop} [Decidable c] {t u:Sem α} (ht:KD t) (hu:KD u):KD (if c then t else u):=by split <;> assumption
theorem load (a:Addr):KD (PySem.load a):=⟨fun _ _ _ _ _ s h=>by obtain ⟨o,e,q⟩:=h;exact ⟨o,e,q,DK.refl _⟩⟩
theorem stack:KD PySem.stack:=⟨fun M Γ P Ee p s h=>by
 unfold PySem.stack at h ⊢
 rw [Sem.wp_stack] at h ⊢
 exact ⟨h,DK.refl _⟩⟩
theorem alloc (o:Obj):KD (PySem.alloc o):=⟨fun _ _ _ _ _ s h=>⟨h,DK.push _ _⟩⟩
theorem field (v:Value) (i:Nat):KD (PySem.field v i):=⟨fun _ Γ P Ee p s h=>by
 rw [wp_field_iff] at h ⊢
 obtain ⟨a,o,vs,x,e1,e2,e3,e4,q⟩:=h
 exact ⟨a,o,vs,x,e1,e2,e3,e4,q,DK.refl _⟩⟩
theorem update {a:Addr}{f:Obj->Obj} (hf:∀ o,(f o).cls=o.cls/\(f o).dict=o.dict/\(f o).isFreed=o.isFreed/\∀ vs,o.data=.fields vs->∃ vs',(f o).data=.fields vs'/\vs'[2]?=vs[2]?):KD (PySem.update a f):=⟨fun _ _ _ _ _ s h=>by
 refine ⟨h.1,h.2,fun b o e=>?_⟩
 by_cases hb:b=a
 ·subst hb
  obtain ⟨h1,h2,h3,h4⟩:=hf o
  have hfr:o.isFreed=false:=(Heap.get?_some_iff.mp e).2
  exact ⟨f o,Heap.get?_update_self _ e (by rw [h3];exact hfr),h1,h2,h4⟩
 ·exact ⟨o,(Heap.get?_update_other _ _ (Ne.symm hb)).trans e,rfl,rfl,fun vs q=>⟨vs,q,rfl⟩⟩⟩
theorem setField (v:Value) (i:Nat) (x:Value) (hi:i≠2):KD (PySem.setField v i x):=⟨fun _ Γ P Ee p s h=>by
 rw [wp_setField_iff] at h ⊢
 obtain ⟨a,o,vs,e1,e2,e3,e4,q⟩:=h
 refine ⟨a,o,vs,e1,e2,e3,e4,q,fun b u e=>?_⟩
 by_cases hb:b=a
 ·subst hb
  rw [e2] at e
  cases e
  have hd:=Obj.data_mapFields e3 (·.setIfInBounds i x)
  exact ⟨_,Heap.get?_update_self _ e2 (Obj.isFreed_of_fields hd),Obj.cls_mapFields ..,by cases o with | mk c d dt sl=>cases dt <;> first | rfl,fun vs' q=>⟨_,hd,by rw [e3] at q;cases q;exact Array.getElem?_setIfInBounds_ne hi⟩⟩
 ·exact ⟨u,(Heap.get?_update_other _ _ (Ne.symm hb)).trans e,rfl,rfl,fun vs q=>⟨vs,q,rfl⟩⟩⟩
theorem slots {a:Addr}{g:Obj->Array (Option Value)}:KD (PySem.update a fun o=>{ o with slots:=g o }):=update fun o=>⟨rfl,rfl,by cases o with | mk c d dt sl=>cases dt <;> rfl,fun vs q=>⟨vs,q,rfl⟩⟩
end KD
theorem kd_behind (env:Env) (outer:List Env):KD (behindIsImport env outer):=by
 unfold behindIsImport
 repeat' with_reducible first | exact KD.pure _ | exact KD.field _ _ | apply KD.ite | apply KD.bind | intro _
theorem kd_caller:KD underTheClaimsCaller:=by
 unfold underTheClaimsCaller
 repeat' with_reducible first | exact KD.pure _ | exact KD.stack | exact KD.unsupported _ | exact KD.field _ _ | apply KD.ite | apply KD.bind | intro _ | split
theorem kd_kept (env:Env) (i:Bool) (l:List Env):KD (keptBack env i l):=by
 have:=kd_caller
 cases l <;> unfold keptBack <;> repeat' with_reducible first | assumption | exact KD.pure _ | apply KD.ite | apply KD.bind | intro _
theorem kd_ready:∀ l:List Env,KD (readyFrames l)
 | []=>KD.pure _
 | env::outer=>by
  have ih:=kd_ready outer
  have h1:=kd_behind env outer
  have h2:=fun i=>kd_kept env i outer
  unfold readyFrames
  split
  ·refine KD.bind (KD.load _) fun o=>KD.ite (KD.pure _) (KD.bind h1 fun b=>KD.bind (h2 b) fun v=>KD.bind KD.slots fun _=>ih)
  ·exact KD.unsupported _
theorem kd_frameObject (l:List Env):KD (frameObject l):=by
 cases l with
 | nil=>exact KD.pure _
 | cons a r=>unfold frameObject;exact KD.bind (kd_ready _) fun _=>KD.pure _
theorem kd_frameOf (env:Env):KD (PySem.frameOf env):=by
 unfold PySem.frameOf frameEnvs
 refine KD.bind (KD.bind KD.stack fun _=>KD.pure _) fun l=>KD.bind (kd_frameObject _) fun o=>?_
 cases o with
 | none=>exact KD.unsupported _
 | some v=>exact KD.pure _
theorem kd_place (f:Addr) (b:Bool):KD (entryPlaceOf f b):=by
 unfold entryPlaceOf
 repeat' with_reducible first | exact KD.pure _ | exact KD.stack | exact KD.unsupported _ | apply KD.ite | apply KD.bind | intro _ | split
theorem kd_entry (a b c d e:Value) (l:List Value):KD (EntryCells.newEntry a b c d e l):=by
 unfold EntryCells.newEntry newFields newObj newObjAsIs
 repeat' first | exact KD.pure _ | exact KD.alloc _ | exact KD.unsupported _ | apply KD.ite | apply KD.bind | intro _ | split
theorem kd_note (e:Value) (env:Env):KD (noteFrame e env):=by
 unfold noteFrame
 have h1:=kd_frameOf env
 have h2:=kd_place
 have h3:=kd_entry
 split
 ·repeat' with_reducible first | exact KD.pure _ | exact KD.field _ _ | exact KD.setField _ _ _ (by decide) | exact h1 | exact h2 _ _ | exact h3 _ _ _ _ _ _ | apply KD.ite | apply KD.bind | intro _
 ·exact KD.unsupported _
theorem kd_flight (e:Value) (o:Option Addr):KD (setFlight e o):=by
 unfold setFlight
 repeat' with_reducible first | exact KD.pure _ | exact KD.field _ _ | exact KD.setField _ _ _ (by decide) | apply KD.ite | apply KD.bind | intro _
theorem kd_leaving (env:Env) (e:Value):KD (leaving env e):=by
 unfold leaving
 exact KD.bind (kd_note _ _) fun _=>kd_flight _ _
theorem KD.any {α:Type}{M:Model}{A:Around}{t:Sem α}{Q:α->Shared->Prop}{E:Value->Shared->Prop}{s:Shared} (k:KD t) (h:wpAny M A t Q E s) :
  wpAny M A t (fun a s'=>Q a s'/\DK s.heap s'.heap) (fun e s'=>E e s'/\DK s.heap s'.heap) s:=fun Γ p hΓ=>k.out M Γ _ _ p s (h Γ p hΓ)
theorem objOk_some {P:Program}{w:World}{H:Hp}{h:Heap}{a:Addr}{o:HO} (x:ObjOk P w H h a o):∃ u,h.get? a=some u:=by
 cases o with
 | lst xs=>obtain ⟨_,_,_,_,e⟩:=x;exact ⟨_,e⟩
 | tup xs=>obtain ⟨_,_,_,ob,e,_⟩:=x;exact ⟨_,e⟩
 | dK kvs=>obtain ⟨_,_,_,_,ob,_,_,e,_⟩:=x;exact ⟨_,e⟩
 | dT kvs=>obtain ⟨_,_,_,_,ob,_,_,e,_⟩:=x;exact ⟨_,e⟩
 | set S n=>obtain ⟨ob,_,_,_,e,_⟩:=x;exact ⟨_,e⟩
 | ins C dx fs=>obtain ⟨_,_,_,e,_⟩:=x;exact ⟨_,e⟩
 | own y=>exact x
 | xd fs=>obtain ⟨_,⟨od,_,_,e,_⟩,_⟩:=x;exact ⟨_,e⟩
 | rng lo hi=>obtain ⟨_,_,_,e⟩:=x;exact ⟨_,e⟩
 | frz ob u=>exact ⟨_,x.1⟩
 | tbl ps=>obtain ⟨_,e,_⟩:=x;exact ⟨_,e⟩
 | met f y=>exact ⟨_,x⟩
 | ext φ=>exact x.2.1
def XD (o:Obj) (d:Option Addr):Prop:=o.dict=d/\∃ vs,o.data=.fields vs/\vs[2]?=some .none
theorem XD.dk {o o':Obj}{d:Option Addr} (x:XD o d) (h:o'.dict=o.dict) (f:∀ vs,o.data=.fields vs->∃ vs',o'.data=.fields vs'/\vs'[2]?=vs[2]?):XD o' d:=by
 obtain ⟨x1,vs,x2,x3⟩:=x
 obtain ⟨vs',y1,y2⟩:=f vs x2
 exact ⟨h.trans x1,vs',y1,y2.trans x3⟩
def CX1 (P:Program) (w:World):CXT:=fun outer H s E e s'=>∃ (ea C t:Addr) (B:Heap) (H':Hp) (d:Option Addr),e=.ref ea/\s'.os=s.os/\AllBare s'.gens/\Un (frs outer) [] H H' s.heap s'.heap/\HOk P w H' s'.heap ∧
 Heap.FlyingW B outer ea (.ref C) (.ref t) s'.heap/\(∃ oe,s'.heap.get? ea=some oe/\XD oe d)/\(∀ dx,d=some dx->∃ fs,H' dx=some (.xd fs)) ∧
 (∀ b o,s'.heap.get? b=some o->b ∉ frs outer->(H' b≠none ∨ ∃ u,s.heap.get? b=some u)->B.get? b=some o)/\E (.ref C) d H'
section
variable {X:Cx}{pins:List (Addr × Obj)}{σ:St}{H:Hp}{s:Shared}
theorem cx_leave {B h':Heap} (I:Inv X pins σ H s) (hst:X.stack=X.env::X.outer) (hf:X.env.frame=some X.env.locals) (hex:X.ex=[]) (hB:B.StaysIn h') (hsm:s.heap.UpToSlots h')
  (hk:∀ b o,s.heap.get? b=some o->b ∉ frs X.stack->(H b≠none ∨ ∃ u,X.s₀.heap.get? b=some u)->B.get? b=some o) :
  Un (frs X.outer) [] X.H₀ H X.s₀.heap h'/\HOk X.prog X.w H h'/\∀ b o,h'.get? b=some o->b ∉ frs X.outer->(H b≠none ∨ ∃ u,X.s₀.heap.get? b=some u)->B.get? b=some o:=by
 have hfs:frs X.stack=X.env.locals::frs X.outer:=by rw [hst];unfold frs;rw [List.filterMap_cons,hf]
 have old:∀ b u,X.s₀.heap.get? b=some u->b≠X.env.locals:=fun b u e z=>absurd (Nat.lt_of_lt_of_le (Heap.lt_size e) (by rw [z];exact I.ok.above)) (Nat.lt_irrefl _)
 have nstk:∀ b,b≠X.env.locals->b ∉ frs X.outer->b ∉ frs X.stack:=fun b h1 h2 z=>by rw [hfs] at z;rcases List.mem_cons.mp z with z | z;exact h1 z;exact h2 z
 have trk:∀ b,H b≠none->b ∉ frs X.stack:=fun b h1 z=>h1 (I.stkFree b z)
 have nx:∀ b:Addr,b ∉ X.ex:=fun b=>by rw [hex];simp
 have fr:∀ b,b∈frs X.outer->∃ o,s.heap.get? b=some o/\∀ vs,o.data≠.fields vs:=fun b hb=>(I.stack.mem (show b∈frs X.stack by rw [hfs];exact List.mem_cons_of_mem _ hb)).2
 have tkeep:∀ b o,H b≠none->s.heap.get? b=some o->h'.get? b=some o:=fun b o h1 e=>hB b o (hk b o e (trk b h1) (.inl h1))
 have okeep:∀ b o u,X.s₀.heap.get? b=some u->b ∉ frs X.outer->s.heap.get? b=some o->h'.get? b=some o:=fun b o u e0 h2 e=>hB b o (hk b o e (nstk b (old b u e0) h2) (.inr ⟨u,e0⟩))
 refine ⟨⟨fun b o e n hb _=>?_,fun b o e n hb _=>?_,fun b o e n _=>I.base.free b o e n (nx b),fun b o e _=>?_,I.base.tups,I.base.frzs,I.base.tbls⟩,fun a o e=>?_,fun b o e hb hc=>?_⟩
 ·exact okeep b o o e hb (I.base.keep b o e n hb (nx b))
 ·obtain ⟨sl,e1⟩:=I.base.slot b o e n hb (nx b)
  obtain ⟨o1,e2,hd⟩:=fr b hb
  rw [e1] at e2
  cases e2
  obtain ⟨sl',e3⟩:=hsm b _ e1 hd
  exact ⟨sl',e3⟩
 ·obtain ⟨o1,e1⟩:=I.base.there b o e (nx b)
  by_cases hb:b∈frs X.outer
  ·obtain ⟨o2,e2,hd⟩:=fr b hb
   obtain ⟨sl',e3⟩:=hsm b _ e2 hd
   exact ⟨_,e3⟩
  ·exact ⟨o1,okeep b o1 o e hb e1⟩
 ·refine (I.hok a o e).stay (fun c v hc q=>tkeep c v ?_ q) (fun _ q=>q) fun _ _ q=>q
  rcases hc with z | z
  ·rw [z,e];simp
  ·rw [z];simp
 ·rcases hc with h1 | ⟨u,e0⟩
  ·cases q:H b with
   | none=>exact absurd q h1
   | some ob =>
    obtain ⟨o1,e1⟩:=objOk_some (I.hok b ob q)
    have:=tkeep b o1 h1 e1
    rw [e] at this
    cases this
    exact hk b o e1 (trk b h1) (.inl h1)
  ·obtain ⟨o1,e1⟩:=I.base.there b u e0 (nx b)
   have:=okeep b o1 u e0 hb e1
   rw [e] at this
   cases this
   exact hk b o e1 (nstk b (old b u e0) hb) (.inr ⟨u,e0⟩)
def RaiseX (X:Cx) (E:St->XK):Prop:=∀ (pins:List (Addr × Obj)) (σ:St) (H:Hp) (s:Shared) (h1:Heap) (e C:Addr) (vs:List Value),Inv X pins σ H s->Heap.MadeExcOf s.heap h1 e (.ref C) vs->E σ (.ref C) none H->X.xe (.ref e) { s with heap:=h1 }
end
section
variable {P:Program}{w:World}{K:PySem.W.Frag}{mg:Str->Option Value}{base:Heap}{N:List Str}{qual:Str}{scope:Scope}{f:Addr}{cd:Value}{A:Around}{outer:List Env}{s:Shared}{H:Hp}{E:XK}
theorem pass_def:Passes (CX1 P w) (cxOf (CX1 P w) P w K mg base N qual scope f cd A outer s H E) (fun _=>E):=by
 intro pins σ H1 s1 e s' I h
 obtain ⟨ea,C,t,B,H',d,rfl,os,bare,un,hok,fl,⟨oe,hoe,hdo⟩,hdx,hkb,hE⟩:=h
 have I':=I.call' (ch:=[]) os un hok bare (fun b z=>absurd z (by simp))
 show wpAny _ _ _ _ _ _
 refine wpAny_mono (KD.any (E:=fun _ _=>False) (kd_leaving _ _) (wpAny_leaves_onW (Q:=fun _ s''=>∃ h',s''={ s' with heap:=h' }/\Heap.FlyingW B outer ea (.ref C) (.ref t) h'/\s'.heap.UpToSlots h') I.ok.frames rfl fl fun h' x1 x2=>⟨h',rfl,x1,x2⟩)) ?_ (fun _ _ z=>False.elim z.1)
 rintro _ s'' ⟨⟨h',rfl,x1,x2⟩,dk⟩
 obtain ⟨u1,u2,u3⟩:=cx_leave (B:=B) (h':=h') I' rfl rfl rfl x1.1 x2 (fun b o e1 e2 e3=>hkb b o e1 e2 (e3.elim .inl fun ⟨u,e0⟩=>.inr (I.base.there b u e0 (by show b ∉ ([]:List Addr);simp))))
 obtain ⟨oe',hoe',_,hd',hg'⟩:=dk ea oe hoe
 exact ⟨ea,C,t,B,H',d,rfl,I'.os,I'.bare,u1,u2,x1,⟨oe',hoe',hdo.dk hd' hg'⟩,hdx,u3,hE⟩
theorem raise_def:RaiseX (cxOf (CX1 P w) P w K mg base N qual scope f cd A outer s H E) (fun _=>E):=by
 intro pins σ H1 s1 h1 e C vs I hx hE
 show wpAny _ _ _ _ _ _
 have hin:∀ env∈(envOfC qual scope s.heap.objs.size f cd::outer),∀ b,env.frame=some b->b∈frs (envOfC qual scope s.heap.objs.size f cd::outer):=fun env he b hb=>List.mem_filterMap.mpr ⟨env,he,hb⟩
 have st:(PySem.W.hideAll s1.heap (frs (envOfC qual scope s.heap.objs.size f cd::outer))).StaysIn s1.heap:=fun b o q=>PySem.W.of_hideAll _ q
 have ff:s1.heap.FunFrames (PySem.W.hideAll s1.heap (frs (envOfC qual scope s.heap.objs.size f cd::outer))) (envOfC qual scope s.heap.objs.size f cd::outer):=PySem.W.funFrames_hide I.stack hin
 obtain ⟨tt,het,_,_⟩:=hx.there
 refine wpAny_mono (KD.any (E:=fun _ _=>False) (kd_leaving _ _) (wpAny_leaves_madeW (s:={ s1 with heap:=h1 }) (Q:=fun _ s''=>∃ h' t,s''={ s1 with heap:=h' }/\Heap.FlyingW (PySem.W.hideAll s1.heap (frs (envOfC qual scope s.heap.objs.size f cd::outer))) outer e (.ref C) (.ref t) h'/\h1.UpToSlots h') I.ok.frames rfl st ff hx fun h' t x1 _ _ x4=>⟨h',t,rfl,x1,x4⟩)) ?_ (fun _ _ z=>False.elim z.1)
 rintro _ s'' ⟨⟨h',t,rfl,x1,x4⟩,dk⟩
 obtain ⟨u1,u2,u3⟩:=cx_leave (h':=h') I rfl rfl rfl x1.1 ((Heap.UpToSlots.of_keeps hx.keeps).trans x4) (fun b o e1 e2 _=>PySem.W.hideAll_get _ e1 e2)
 obtain ⟨oe',hoe',_,hd',hg'⟩:=dk e _ het
 exact ⟨e,C,t,_,H1,none,rfl,I.os,I.bare,u1,u2,x1,⟨oe',hoe',XD.dk ⟨rfl,_,rfl,rfl⟩ hd' hg'⟩,(fun dx z=>by cases z),u3,hE⟩
end
theorem passE0 {P:Program}{w:World}{X:Cx}:Passes (CX1 P w) X E0:=fun _ _ _ _ _ _ _ h=>by
 obtain ⟨_,_,_,_,_,_,_,_,_,_,_,_,_,_,_,z⟩:=h
 exact z.elim
theorem cx1_false {P:Program}{w:World}{outer:List Env}{H:Hp}{s:Shared}{e:Value}{s':Shared} (h:CX1 P w outer H s (fun _ _ _=>False) e s'):False:=by
 obtain ⟨_,_,_,_,_,_,_,_,_,_,_,_,_,_,_,z⟩:=h
 exact z
section
variable {P:Program}{w:World}{K:PySem.W.Frag}{mg:Str->Option Value}{base:Heap}
theorem Fun.okX {x qual:Str}{st:Stmt}{f:Addr}{fd:FuncData}{N ps:List Str}{k:Nat}{sp:Sp} (F:Fun K x qual st f fd) (S:FnScope N ps (defScope st)) (len:∀ vs H Q E,sp vs H Q E->vs.length=ps.length)
  (hbody:∀ (cdv:Value) (A:Around) (outer:List Env) (s:Shared) (H:Hp) (vs:List V) (Q:VK) (E:XK),Room k (A.deeper (envOfC qual (defScope st) s.heap.objs.size f cdv))->sp vs H Q E →
   ∃ t,PSs (cxOf (CX1 P w) P w K mg base N qual (defScope st) f cdv A outer s H E) (defBody st) t/\t { nx:=fun _ H'=>Q .non H',rt:=Q } (start N vs) H):FnOk P w K mg base (CX1 P w) (k + 1) f fd ps sp:=by
 obtain ⟨oc,od,kV,doc,pm,an,cdv,ct,osl,rfl,lk,hcd⟩:=F.ex
 exact fn_of lk hcd S len fun A outer s H vs Q E hr hsp=>hbody cdv A outer s H vs Q E hr hsp
theorem FnOkN.ok {CX:CXT}{k:Nat}{f:Addr}{fd:FuncData}{ps:List Str}{sp:Sp} (F:FnOkN P w K mg base CX k f fd ps sp):FnOk P w K mg base CX k f fd ps sp :=
 ⟨F.len,fun A outer s H args us vs Q E hr=>F.run A outer s H args us vs Q E hr.n (.inl hr.hd)⟩
end
theorem exc_of_in {K:PySem.W.Frag}{h:Heap}{C:Addr}{bmB:List Value}{newId:String} (XK:K.In h) (q:PySem.W.excIn K C bmB newId=true) :
  ∃ bm N nm qn bs hd sn sub ab col dd k0 k1 k2 k3 k5 mN,h.get? C=some (excClassObj nm qn C N bs bm hd sn sub ab col dd k0 k1 k2 k3 k5 newId)/\h.Ns N mN/\mN "__init__"=none/\OwnTail h bmB bm:=by
 unfold PySem.W.excIn at q
 split at q
 next dd cd sl ho =>
  split at q
  next C' bm k0 k1 k2 k3 n k5 hm hs =>
   simp only [Bool.and_eq_true,beq_iff_eq,Bool.not_eq_true'] at q
   obtain ⟨⟨⟨⟨⟨e1,e2⟩,e3⟩,e4⟩,e5⟩,e6⟩:=q
   subst e1 e2
   cases cd with
   | mk nm bs mro ns qn hd sn sub ab col del =>
    simp only at hm e3 e5 e6
    subst hm e3
    have z:sl=#[k0,k1,k2,k3,some (.builtin n),k5]:=by
     cases sl with
     | mk l=>simp only at hs;rw [hs]
    subst z
    exact ⟨bm,ns,nm,qn,bs,hd,sn,sub,ab,col,dd,k0,k1,k2,k3,k5,_,XK _ _ ho,.of_isNs (PySem.W.isNs_of_in XK e5),PySem.W.nsMap_none_of_in XK e5 e6,PySem.W.tail_of_in XK e4⟩
  next=>cases q
 next=>cases q
def sRaise (C:Addr) (E:St->XK) (t:TA):TS:=fun _ σ H=>t σ H fun vs H1=>vs.length<=sizeLine/\E σ (.ref C) none H1
theorem ap_raise {C:Addr}{E:St->XK}{t:TA}{D:Ends}{σ:St}{H:Hp}:sRaise C E t D σ H=t σ H fun vs H1=>vs.length<=sizeLine/\E σ (.ref C) none H1:=propext Iff.rfl
section
variable {X:Cx}
theorem ps_raise {x:Str}{C:Addr}{E:St->XK}{B newId initId:String}{bmB:List Value}{e₀:Expr}{rest:List Expr}{t:TA}{np cpos pos:Pos} (FB:ExcBaseFacts B newId initId bmB) (hq:PySem.W.excIn X.K C bmB newId=true) (hm:X.mg x=some (.ref C))
  (hrx:RaiseX X E) (hc:X.calm=true) (ha:PA X (e₀::rest) t) (hg:X.env.kindOf x=some .globalImplicit:=by kernel_rfl) (hd:(x == ("__debug__":Str))=false:=by kernel_rfl) (hs:noStars (e₀::rest)=true:=by kernel_rfl) :
  PS X (.Raise (some (.Call (.Name x np) (e₀::rest) [] cpos)) none pos) (sRaise C E t):=by
 intro pins s σ H D I h
 obtain ⟨bm,N,nm,qn,bs,hdct,sn,sub,ab,col,dd,k0,k1,k2,k3,k5,mN,g1,g2,g3,g4⟩:=exc_of_in I.ok.mod.kin hq
 have he:=starEach_cons (es:=rest) (env:=X.env) (noStars_tail hs).1
 refine wpAny_Raise_call_subT (C:=C) (nm:=nm) (q:=qn) (N:=N) (bs:=bs) (bm:=bm) (hdct:=hdct) (sn:=sn) (sub:=sub) (ab:=ab) (col:=col) (dd:=dd) (k0:=k0) (k1:=k1) (k2:=k2) (k3:=k3) (k5:=k5)
  FB (mN:=mN) (g4.hasType FB.hasBase) (I.ok.hd hc) (backTo_any hs) g3 (ld_glob I hg hm ⟨rfl,?_⟩ hd)
 have ha':=ha cpos pins s σ H _ I h
 rw [he] at ha' ⊢
 refine Calls.evalArgs_plain (wpAny_mono ha' (fun vs s2 h2=>?_) fun _ _ y=>y)
 obtain ⟨xs,H2,I2,r,z,q⟩:=h2
 exact ⟨rfl,by rw [← r.length];exact z,I2.bk _ _ g1,g2.keeps I2.bk,g4.keeps I2.bk,fun h' e hx=>hrx pins σ H2 s2 h' e C vs I2 hx q⟩
end
end L2

namespace L2
open PySem PySem.Spec PyProof.Rows
def excO (a:Addr) (c:Value) (d:Option Addr):HO:=.ext fun h=>∃ o,h.get? a=some o/\o.cls=c/\XD o d
section
variable {X:Cx}{pins:List (Addr × Obj)}{σ:St}{H:Hp}{s:Shared}
def Ends.un (D:Ends) (i:Nat):Ends:=⟨fun σ H=>D.nx (σ.set i none) H,D.rt,fun σ H=>D.bk (σ.set i none) H,fun σ H=>D.ct (σ.set i none) H⟩
theorem Inv.pnTo {xe:Value->Shared->Prop} (I:Inv X pins σ H s):Inv { X with pn:=X.pn++pins,xe:=xe } [] σ H s :=
 ⟨⟨I.ok.mod,I.ok.kind,I.ok.glob,I.ok.blt,I.ok.above,I.ok.inj,I.ok.has,I.ok.cab,I.ok.hd,I.ok.frames,I.ok.stk,I.ok.exf,I.ok.bs,I.ok.bsz,I.ok.noex,I.ok.exfs,I.ok.funs,I.ok.frf⟩,I.os,I.bare,I.base,I.loc,I.cell,I.free,I.freeC,
  fun p h=>I.pin p (by simpa using h),I.hok,I.len⟩
theorem Inv.pnFrom {xe:Value->Shared->Prop}{pins':List (Addr × Obj)} (I:Inv { X with pn:=X.pn++pins,xe:=xe } pins' σ H s):Inv X pins σ H s :=
 ⟨⟨I.ok.mod,I.ok.kind,I.ok.glob,I.ok.blt,I.ok.above,I.ok.inj,I.ok.has,I.ok.cab,I.ok.hd,I.ok.frames,I.ok.stk,I.ok.exf,I.ok.bs,I.ok.bsz,I.ok.noex,I.ok.exfs,I.ok.funs,I.ok.frf⟩,I.os,I.bare,I.base,I.loc,I.cell,I.free,I.freeC,
  fun p h=>I.pin p (List.mem_append_left _ h),I.hok,I.len⟩
end
end L2

namespace L2
open PySem PySem.Spec PyProof.Rows
theorem ga_kind:builtinKind "BaseException.__getattribute__"=some Manifest.AttrKind.slot:=by decide +kernel
theorem ga_split:splitId "BaseException.__getattribute__"=some ("BaseException","__getattribute__"):=by decide +kernel
theorem ga_check {M:Model}{A:Around}{E:Value->Shared->Prop}{s:Shared}{x:Addr}{nm:Value}{Q:Unit->Shared->Prop} (l:PySem.W.Looks M s.heap (isInstance (.ref x) (.type "BaseException")) true) (q:Q () s) :
  wpAny M A (checkBuiltinCall "BaseException.__getattribute__" { pos:=[.ref x,nm] }) Q E s :=
 PySem.W.check_slot (i:="BaseException.__getattribute__") (self:=.ref x) (rest:=[nm]) (kw:=[]) ga_kind ga_split l (F.args_bexc_ga _ _) q
theorem kin_own {prog:Program}{w:World}{A:Around}{E:Value->Shared->Prop}{s:Shared}{K:PySem.W.Frag}{x D:Addr}{ox:Obj}{odo:Option Obj}{name:Str}{g a:Value}{Q:Option Value->Shared->Prop}
  (X:K.In s.heap) (I:PySem.W.InstAt s.heap x ox D odo)
  (hga:PySem.W.findIn K (.ref D) "__getattribute__"=some (some (.builtin "BaseException.__getattribute__")))
  (hgn:PySem.W.findIn K (.ref D) "__getattr__"=some none)
  (hsub:PySem.W.subIn K (.ref D) (.type "BaseException")=some true)
  (hf:PySem.W.findObj K D odo name=some (.bind g a))
  (h:∀ A',wpAny (model prog w) A' (call g [a,.ref x,.ref D]) (fun v s'=>wpAny (model prog w) A (handedOut v) (fun v s''=>Q (some v) s'') (fun _ _=>False) s') (fun _ _=>False) { s with toks:=s.toks + 1 }) :
  wpAny (model prog w) A (getAttr? (.ref x) name) Q E s:=by
 obtain ⟨hh,gg,dd,tt,os⟩:=s
 have L0:∀ {M},PySem.W.Looks M hh (typeOf (.ref x)) (.ref D):=I.type
 have L1:∀ {M},PySem.W.Looks M hh (typeLookup (.ref D) "__getattribute__") _:=PySem.W.looks_findIn X hga
 have L2:∀ {M},PySem.W.Looks M hh (typeLookup (.ref D) "__getattr__") _:=PySem.W.looks_findIn X hgn
 have L3:∀ {M},PySem.W.Looks M hh (isSubtype (.ref D) (.type "BaseException")) _:=PySem.W.looks_subIn X hsub
 have L4:∀ {M},PySem.W.Looks M hh (Builtin.ObjectAttr.find (.ref x) (.ref D) name) _:=PySem.W.looks_find X I hf
 have L5:∀ {M},PySem.W.Looks M hh (isInstance (.ref x) (.type "BaseException")) true:=by
  intro M;unfold isInstance;exact PySem.W.Looks.andThen (f:=fun t=>isSubtype t (.type "BaseException")) L0 L3
 have f3:=F.excAttr_ValueError.ga.bind (Value.ref x)
 unfold getAttr?
 refine wpAny_bind (wpAny_mkText ?_)
 unfold getAttrBy?
 refine wpAny_bind (wpAny_attempt ?_)
 unfold getAttrBy
 refine wpAny_holding (wpAny_bind (L0.at (wpAny_bind (L1.at ?_))))
 refine wpAny_ite_false rfl ?_
 unfold getAttrByItsOwn
 refine wpAny_bind ?_
 unfold hookBefore
 refine wpAny_ite_true rfl (L2.at ?_)
 refine wpAny_bind (wpAny_attempt (wpAny_holding ?_))
 unfold callGetattribute
 refine wpAny_ite_false rfl ?_
 unfold boundAndCalled
 refine wpAny_bind (wpAny_of_eq f3 ?_)
 refine wpAny_call (codeAny_call_builtin F.excAttr_ValueError.ga.plain F.entry_bexc_ga ?_)
 refine ga_check L5 ?_
 show wpAny _ _ (Builtin.«object.__getattribute__» { pos:=[Value.ref x,Value.str name _] }) _ _ _
 unfold Builtin.«object.__getattribute__»
 refine wpAny_bind ?_
 unfold slotArgs
 refine wpAny_ite_false rfl (wpAny_ite_false rfl (wpAny_pure ?_))
 refine wpAny_bind (wpAny_pure ?_)
 refine wpAny_bind (L0.at (wpAny_bind (L4.at ?_)))
 show wpAny _ _ (Builtin.ObjectAttr.bindTo g a (.ref x) (.ref D)) _ _ _
 unfold Builtin.ObjectAttr.bindTo
 refine wpAny_bind (wpAny_holding (wpAny_mono (h _) (fun v s' z=>?_) (fun _ _ z=>z.elim)))
 refine wpAny_pure ?_
 refine wpAny_mono z (fun v s' z=>wpAny_pure z) (fun _ _ z=>z.elim)
structure ExcC (K:PySem.W.Frag) (C:Addr):Prop where
 ga:PySem.W.findIn K (.ref C) "__getattribute__"=some (some (.builtin "BaseException.__getattribute__"))
 gn:PySem.W.findIn K (.ref C) "__getattr__"=some none
 sb:PySem.W.subIn K (.ref C) (.type "BaseException")=some true
 cl:(PySem.W.clsIn K C).isSome=true
 ha:PySem.W.findIn K (.ref C) "__class__"=some (some (.builtin "object.__class__"))
 hn:PySem.W.specialIn K (.builtin "object.__class__") "__get__"=some (some (.builtin "getset_descriptor.__get__"))
 htk:PySem.W.takesIn K (.builtin "object.__class__")=some true
 hm:PySem.W.mroIn K C (.type "object")=some true
theorem findObj_any {K:PySem.W.Frag}{C:Addr}{od:Option Obj}{name:Str}{a g:Value} (hc:(PySem.W.clsIn K C).isSome=true) (ha:PySem.W.findIn K (.ref C) name=some (some a)) (hg:PySem.W.specialIn K a "__get__"=some (some g)) (ht:PySem.W.takesIn K a=some true) :
  PySem.W.findObj K C od name=some (.bind g a):=by
 obtain ⟨cd,e⟩:=Option.isSome_iff_exists.mp hc
 unfold PySem.W.findObj
 rw [e,Option.bind_some,ha,Option.bind_some]
 show (PySem.W.specialIn K a "__get__").bind _=_
 rw [hg,Option.bind_some]
 show (PySem.W.takesIn K a).bind _=_
 rw [ht,Option.bind_some]
def ExcAt (x C:Addr) (h:Heap):Prop:=∃ ox od,PySem.W.InstAt h x ox C od
theorem kitx_exc {K:PySem.W.Frag}{x C:Addr} (e:ExcC K C):PySem.W.KitX K (.ref x) (.ref C) (ExcAt x C) where
 ty:=fun _ _ _ ⟨_,_,I⟩=>I.type
 it:=fun _ h XK _=>by
  obtain ⟨cd,hc⟩:=Option.isSome_iff_exists.mp e.cl
  unfold PySem.W.clsIn at hc
  split at hc
  next c' d' cd' sl' ho =>
   intro A' Q' E' s' k q
   unfold isType loadHead
   exact wpAny_bind (wpAny_loadPart (k _ _ (XK _ _ ho)) (wpAny_pure q))
  next=>cases hc
 ne:=fun h tp dd its n sl XK htp=>by
  obtain ⟨cd,hc⟩:=Option.isSome_iff_exists.mp e.cl
  refine Bool.eq_false_iff.mpr fun q=>?_
  have z:C=tp:=Value.ref.inj (beq_iff_eq.mp q)
  subst z
  unfold PySem.W.clsIn at hc
  split at hc
  next c' d' cd' sl' ho =>
   have z:=(XK _ _ ho).symm.trans htp
   cases z
  next=>cases hc
 ca:=fun {prog w A E Q s} XK I k=>by
  obtain ⟨ox,od,I⟩:=I
  have hf:=findObj_any (od:=od) e.cl e.ha e.hn e.htk
  exact kin_own XK I e.ga e.gn e.sb hf fun A'=>wpAny_call (PySem.W.class_get (s:={ s with toks:=s.toks + 1 }) (ox:=ox) (od:=od) XK I e.hm (PySem.W.handed_on rfl k))
def TyX (K:PySem.W.Frag) (H:Hp) (x:V) (t:Value):Prop:=TyOf K H x t ∨ ∃ a C,x=.ref a/\t=.ref C/\H a=some (excO a (.ref C) none)/\ExcC K C
theorem excAt_of {P:Program}{w:World}{H:Hp}{h:Heap}{a C:Addr} (x:HOk P w H h) (e:H a=some (excO a (.ref C) none)):ExcAt a C h:=by
 obtain ⟨⟨o,e1,e2,e3,vs,e4,_⟩,_⟩:=(show ObjOk P w H h a (excO a (.ref C) none) from x a _ e)
 refine ⟨o,none,e1,e2,?_,?_⟩
 ·unfold PySem.W.notCls;rw [e4]
 ·rw [e3];trivial
def rIsiG (K:PySem.W.Frag):List V->Hp->VK->Prop:=fun vs H Q=>match vs with
 | [x,.ty n]=>∃ t b,TyX K H x t/\PySem.W.kitOne K t (.type n)=some b/\Q (.bl b) H
 | [x,.ref c]=>∃ t b,TyX K H x t/\(PySem.W.kitOne K t (.ref c)=some b ∨ ∃ (a C:Addr) (cs:List Addr),x=.ref a/\t=.ref C/\H a=some (excO a (.ref C) none)/\ExcC K C/\H c=some (.tup (cs.map V.ref))/\PySem.W.kitAny K t (cs.map Value.ref)=some b)/\Q (.bl b) H
 | _=>False
theorem vals_refs:∀ {cs:List Addr}{us:List Value},Vals (cs.map V.ref) us->us=cs.map Value.ref
 | [],_,.nil=>rfl
 | c::r,_,.cons h t=>by
  have e:_=Value.ref c:=h
  rw [e,vals_refs t];rfl
theorem call_isiG {X:Cx}:CallR X (.builtin "isinstance") (rIsiG X.K):=by
 intro pins s σ H xs us Q I r h
 match xs,h with
 | [x,.ty n],h =>
  obtain ⟨t,b,ht,hk,q⟩:=h
  obtain ⟨u,v,rfl,r1,r2⟩:=vals2 r
  cases (show v=Value.type n from r2)
  rcases ht with ht | ⟨a,C,rfl,rfl,hH,hC⟩
  ·exact isinst_ok I r1 ht hk fun tk=>⟨.bl b,H,I.tok _,rfl,q⟩
  ·cases (show u=Value.ref a from r1)
   exact PySem.W.kia_one (kitx_exc hC) I.kIn (excAt_of I.hok hH) hk (fun z=>by cases z) fun tk=>⟨.bl b,H,I.tok _,rfl,q⟩
 | [x,.ref c],h =>
  obtain ⟨t,b,ht,hk,q⟩:=h
  obtain ⟨u,v,rfl,r1,r2⟩:=vals2 r
  cases (show v=Value.ref c from r2)
  rcases hk with hk | ⟨a,C,cs,rfl,rfl,hH,hC,hc,hk⟩
  ·rcases ht with ht | ⟨a,C,rfl,rfl,hH,hC⟩
   ·exact isinst_ok I r1 ht hk fun tk=>⟨.bl b,H,I.tok _,rfl,q⟩
   ·cases (show u=Value.ref a from r1)
    exact PySem.W.kia_one (kitx_exc hC) I.kIn (excAt_of I.hok hH) hk (fun z=>by cases z) fun tk=>⟨.bl b,H,I.tok _,rfl,q⟩
  ·cases (show u=Value.ref a from r1)
   obtain ⟨_,its,rv,⟨ob,e1,e2,n,e3⟩⟩:=(show ObjOk X.prog X.w H s.heap c (.tup (cs.map V.ref)) from I.hok c _ hc)
   have ei:=vals_refs rv
   subst ei
   obtain ⟨oc,dd,od,sl⟩:=ob
   cases e2
   cases e3
   exact PySem.W.kia_tup (kitx_exc hC) I.kIn (excAt_of I.hok hH) e1 hk (fun z=>by cases z) fun tk=>⟨.bl b,H,I.tok _,rfl,q⟩
theorem call_isiGK {X:Cx}{K:PySem.W.Frag} (hK:X.K=K):CallR X (.builtin "isinstance") (rIsiG K):=hK ▸ call_isiG
def excOk (K:PySem.W.Frag) (C:Addr):Bool :=
 PySem.W.findIn K (.ref C) "__getattribute__" == some (some (.builtin "BaseException.__getattribute__")) && PySem.W.findIn K (.ref C) "__getattr__" == some none && PySem.W.subIn K (.ref C) (.type "BaseException") == some true && (PySem.W.clsIn K C).isSome && PySem.W.findIn K (.ref C) "__class__" == some (some (.builtin "object.__class__")) &&
 PySem.W.specialIn K (.builtin "object.__class__") "__get__" == some (some (.builtin "getset_descriptor.__get__")) && PySem.W.takesIn K (.builtin "object.__class__") == some true && PySem.W.mroIn K C (.type "object") == some true
def errAll (K:PySem.W.Frag) (b:Addr) (cs:List Addr):Bool :=
 cs.all fun c=>excOk K c && PySem.W.exmOne K (.ref c) (.ref b) == some true && PySem.W.kitOne K (.ref c) (.type "ValueError") == some true && PySem.W.kitOne K (.ref c) (.ref b) == some true &&
  cs.all fun d=>PySem.W.kitOne K (.ref c) (.ref d) == some (c == d)
structure Err (K:PySem.W.Frag) (b:Addr) (cs:List Addr) (c:Addr):Prop where
 ex:ExcC K c
 em:PySem.W.exmOne K (.ref c) (.ref b)=some true
 ve:PySem.W.kitOne K (.ref c) (.type "ValueError")=some true
 ba:PySem.W.kitOne K (.ref c) (.ref b)=some true
 kd:∀ d∈cs,PySem.W.kitOne K (.ref c) (.ref d)=some (c == d)
theorem Err.any {K:PySem.W.Frag}{b:Addr}{cs:List Addr}{c:Addr} (E:Err K b cs c):∀ {ds:List Addr},(∀ d∈ds,d∈cs)->PySem.W.kitAny K (.ref c) (ds.map Value.ref)=some (ds.contains c)
 | [],_=>rfl
 | d::r,h=>by
  show (match PySem.W.kitOne K (.ref c) (.ref d) with | some true=>some true | some false=>PySem.W.kitAny K (.ref c) (r.map Value.ref) | none=>none)=_
  rw [E.kd d (h d List.mem_cons_self),Err.any E (fun x hx=>h x (List.mem_cons_of_mem _ hx)),List.contains_cons]
  cases (c == d) <;> rfl
theorem pe_globE {X:Cx}{x:Str}{v:V}{pos:Pos} (h:∃ u,X.mg x=some u/\RelV v u) (hg:X.env.kindOf x=some .globalImplicit:=by kernel_rfl) (hd:(x == ("__debug__":Str))=false:=by kernel_rfl):PE X (.Name x pos) (tC v):=by
 obtain ⟨u,h1,h2⟩:=h
 exact pe_glob hg h1 h2 hd
theorem pe_globR {X:Cx}{x:Str}{c:Addr}{pos:Pos} (h:X.mg x=some (.ref c)) (hg:X.env.kindOf x=some .globalImplicit:=by kernel_rfl) (hd:(x == ("__debug__":Str))=false:=by kernel_rfl):PE X (.Name x pos) (tC (.ref c)):=pe_glob hg h rfl hd
theorem HandIn.same {o:Option Value}{H H':Hp} (h:HandIn o H) (s:Same H H'):HandIn o H':=by
 rcases h with h | ⟨ea,φ,e1,e2,e3⟩
 ·exact .inl h
 ·exact .inr ⟨ea,φ,e1,s _ _ e2,e3⟩
end L2

namespace L2
open PySem PySem.Spec PyProof.Rows
def up (t:TE):TE:=fun σ H R=>∃ R',t σ H R'/\∀ x H,R' x H->R x H
def upA (t:TA):TA:=fun σ H R=>∃ R',t σ H R'/\∀ x H,R' x H->R x H
theorem PE.up {X:Cx}{e:Expr}{t:TE} (h:PE X e t):PE X e (up t):=fun pins s σ H Q I ⟨R',h1,h2⟩=>thn (h pins s σ H R' I h1) fun _ _ ⟨v,H',I',r,q⟩=>⟨v,H',I',r,h2 v H' q⟩
theorem PA.up {X:Cx}{es:List Expr}{t:TA} (h:PA X es t):PA X es (upA t):=fun pos pins s σ H Q I ⟨R',h1,h2⟩=>thn (h pos pins s σ H R' I h1) fun _ _ ⟨v,H',I',r,q⟩=>⟨v,H',I',r,h2 v H' q⟩
def rFldX (K:PySem.W.Frag) (f:Str) (x:V) (H:Hp) (Q:VK):Prop:=match x with
 | .ref a=>∃ C dx fs v,H a=some (.ins C dx fs)/\Cls K C/\NoAttr K C f/\fs.lookup f=some v/\Q v H
 | _=>False
def tFldX (K:PySem.W.Frag) (ta:TE) (f:Str):TE:=fun σ H Q=>ta σ H fun x H1=>rFldX K f x H1 Q
theorem ap_fld {K:PySem.W.Frag}{ta:TE}{f:Str}{σ:St}{H:Hp}{Q:VK}:tFldX K ta f σ H Q=ta σ H fun x H1=>rFldX K f x H1 Q:=propext Iff.rfl
def rSetX (K:PySem.W.Frag) (f:Str) (y x:V) (H:Hp) (Q:Hp->Prop):Prop:=match x with
 | .ref a=>∃ C dx fs,H a=some (.ins C dx fs)/\Cls K C/\NoAttr K C f/\fs.length < 1000/\Q (upd H a (.ins C dx (putF f y fs)))
 | _=>False
def sFldX (K:PySem.W.Frag) (ta tv:TE) (f:Str):TS:=fun D σ H=>tv σ H fun y H1=>ta σ H1 fun x H2=>rSetX K f y x H2 fun H3=>D.nx σ H3
theorem ap_sfld {K:PySem.W.Frag}{ta tv:TE}{f:Str}{D:Ends}{σ:St}{H:Hp}:sFldX K ta tv f D σ H=tv σ H fun y H1=>ta σ H1 fun x H2=>rSetX K f y x H2 fun H3=>D.nx σ H3:=propext Iff.rfl
section
variable {X:Cx}{K:PySem.W.Frag}
theorem pe_fldX {e:Expr}{ta:TE}{f:Str}{pos:Pos} (hK:X.K=K) (he:PE X e ta) (hb:attributeBase e f X.env (eval e X.env)=eval e X.env:=by kernel_rfl):PE X (.Attribute e f pos) (tFldX K ta f):=by
 subst hK
 intro pins s σ H Q I h
 refine pe_fld (ta:=up ta) he.up hb pins s σ H Q I ⟨_,h,fun x H1 hx=>?_⟩
 cases x with
 | ref a=>obtain ⟨C,dx,fs,v,h1,h2,h3,h4,h5⟩:=hx;exact ⟨a,C,dx,fs,v,rfl,h1,h2,h3,h4,h5⟩
 | _=>exact False.elim hx
theorem ps_fldX {o value:Expr}{ta tv:TE}{f:Str}{pos pos':Pos} (hK:X.K=K) (ha:PE X o ta) (hv:PE X value tv) (hs:swapsWith value (some (.Attribute o f pos')) pos.line X.env=pure false:=by kernel_rfl) :
  PS X (.Assign [.Attribute o f pos'] value pos) (sFldX K ta tv f):=by
 subst hK
 intro pins s σ H D I h
 refine ps_fld (ta:=up ta) (tv:=up tv) ha.up hv.up hs pins s σ H D I ⟨_,h,fun y H1 hy=>⟨_,hy,fun x H2 hx=>?_⟩⟩
 cases x with
 | ref a=>obtain ⟨C,dx,fs,h1,h2,h3,h4,h5⟩:=hx;exact ⟨a,C,dx,fs,rfl,h1,h2,h3,h4,h5⟩
 | _=>exact False.elim hx
end
structure Mtd (P:Program) (w:World) (K:PySem.W.Frag) (mg:Str->Option Value) (base:Heap) (CX:CXT) (C:Addr) (m:Str) (k:Nat) (ps:List Str) (sp:Sp):Prop where
 ex:∃ (f:Addr) (fd:FuncData),FnOk P w K mg base CX k f fd ps sp/\Meth K C m f/\Binds K fd ps []
 cl:Cls K C
def rMethX (C:Addr) (m:Str) (x:V) (H:Hp) (Q:Hp->Prop):Prop:=match x with
 | .ref a=>∃ dx fs,H a=some (.ins C dx fs)/\fs.lookup m=none/\Q H
 | _=>False
def tMethX (C:Addr) (m:Str) (sp:Sp) (E:St->XK) (ta:TE) (t:TA):TE:=fun σ H Q=>ta σ H fun x H1=>rMethX C m x H1 fun H1=>t σ H1 fun vs H2=>sp (x::vs) H2 Q (E σ)
theorem ap_meth {C:Addr}{m:Str}{sp:Sp}{E:St->XK}{ta:TE}{t:TA}{σ:St}{H:Hp}{Q:VK}:tMethX C m sp E ta t σ H Q=ta σ H fun x H1=>rMethX C m x H1 fun H1=>t σ H1 fun vs H2=>sp (x::vs) H2 Q (E σ):=propext Iff.rfl
section
variable {X:Cx}{CX:CXT}{E:St->XK}
theorem pe_methX {pl:Sem Bool}{C:Addr}{m:Str}{k:Nat}{ps:List Str}{sp:Sp}{o e:Expr}{es:List Expr}{ta:TE}{t:TA}{apos pos:Pos} (M:Mtd X.prog X.w X.K X.mg X.base CX C m k ps sp) (hx:Passes CX X E) (hr:Room k X.A) (he:PE X o ta) (ha:PA X (e::es) t)
  (hs:noStars (e::es)=true:=by kernel_rfl)
  (ht:eval (.Call (.Attribute o m apos) (e::es) [] pos) X.env=(do
   let ov ← eval o X.env
   standAt apos.atName
   let (f,first) ← holding [ov] (getMethod ov m pl)
   callWith pos f first (backTo pos (starEach (e::es) X.env)) (backToKw pos (keywordEach [] X.env))):=by rfl) :
  PE X (.Call (.Attribute o m apos) (e::es) [] pos) (tMethX C m sp E ta t):=by
 obtain ⟨f,fd,F,hm,hb⟩:=M.ex
 intro pins s σ H Q I h
 refine pe_meth (ta:=up ta) (t:=t) he.up M.cl hm F hr hb .nil hx ha (starEach_cons (noStars_tail hs).1) (backTo_any (noStars_tail hs).2) ht pins s σ H Q I ⟨_,h,fun x H1 q=>?_⟩
 cases x with
 | ref a =>
  obtain ⟨dx,fs,h1,h2,h3⟩:=q
  refine ⟨a,dx,fs,rfl,h1,h2,?_⟩
  simp only [List.append_nil]
  exact h3
 | _=>exact False.elim q
theorem pe_methX0 {pl:Sem Bool}{C:Addr}{m:Str}{k:Nat}{ps:List Str}{sp:Sp}{o:Expr}{ta:TE}{apos pos:Pos} (M:Mtd X.prog X.w X.K X.mg X.base CX C m k ps sp) (hx:Passes CX X E) (hr:Room k X.A) (he:PE X o ta)
  (ht:eval (.Call (.Attribute o m apos) [] [] pos) X.env=(do
   let ov ← eval o X.env
   standAt apos.atName
   let (f,first) ← holding [ov] (getMethod ov m pl)
   callWith pos f first (backTo pos (starEach [] X.env)) (backToKw pos (keywordEach [] X.env))):=by rfl) :
  PE X (.Call (.Attribute o m apos) [] [] pos) (tMethX C m sp E ta tNil):=by
 obtain ⟨f,fd,F,hm,hb⟩:=M.ex
 intro pins s σ H Q I h
 refine pe_meth0 (ta:=up ta) he.up M.cl hm F hr hb .nil hx ht pins s σ H Q I ⟨_,h,fun x H1 q=>?_⟩
 cases x with
 | ref a =>
  obtain ⟨dx,fs,h1,h2,h3⟩:=q
  exact ⟨a,dx,fs,rfl,h1,h2,h3⟩
 | _=>exact False.elim q
end
structure Mak (P:Program) (w:World) (K:PySem.W.Frag) (mg:Str->Option Value) (base:Heap) (CX:CXT) (C:Addr) (x:Str) (k:Nat) (ps:List Str) (sp:Sp):Prop where
 ex:∃ (f:Addr) (fd:FuncData),FnOk P w K mg base CX k f fd ps sp/\Mk K C f/\Binds K fd ps []
 mg:mg x=some (.ref C)
def tMakeX (C:Addr) (sp:Sp) (E:St->XK) (t:TA):TE:=fun σ H Q=>t σ H fun vs H1=>∀ x dx H2,H1 x=none->H1 dx=none->dx≠x->Same H1 H2->H2 x=some (.ins C dx [])->H2 dx=some (.own x)->sp (.ref x::vs) H2 (fun v H3=>v=.non/\Q (.ref x) H3) (E σ)
theorem ap_make {C:Addr}{sp:Sp}{E:St->XK}{t:TA}{σ:St}{H:Hp}{Q:VK}:tMakeX C sp E t σ H Q=t σ H fun vs H1=>∀ x dx H2,H1 x=none->H1 dx=none->dx≠x->Same H1 H2->H2 x=some (.ins C dx [])->H2 dx=some (.own x)->sp (.ref x::vs) H2 (fun v H3=>v=.non/\Q (.ref x) H3) (E σ):=propext Iff.rfl
section
variable {X:Cx}{CX:CXT}{E:St->XK}
theorem pe_makeX {C:Addr}{x:Str}{k:Nat}{ps:List Str}{sp:Sp}{e:Expr}{es:List Expr}{t:TA}{p pos:Pos} (M:Mak X.prog X.w X.K X.mg X.base CX C x k ps sp) (hx:Passes CX X E) (hr:Room (k + 1) X.A) (ha:PA X (e::es) t)
  (hg:X.env.kindOf x=some .globalImplicit:=by kernel_rfl) (hd:(x == ("__debug__":Str))=false:=by kernel_rfl) (hs:noStars (e::es)=true:=by kernel_rfl) :
  PE X (.Call (.Name x p) (e::es) [] pos) (tMakeX C sp E t):=by
 obtain ⟨f,fd,F,hm,hb⟩:=M.ex
 intro pins s σ H Q I h
 refine pe_make (t:=upA t) hm F hr hg M.mg hb .nil hx ha.up hd (starEach_cons (noStars_tail hs).1) (backTo_any (noStars_tail hs).2) pins s σ H Q I ⟨_,h,fun vs H1 q x dx h1 h2 h3=>?_⟩
 simp only [List.append_nil]
 refine q x dx _ h1 h2 h3 ((same_upd h2).upd_new h1) upd_same ?_
 rw [upd_ne h3,upd_same]
end
end L2

namespace L2
open PySem PySem.Spec PyProof.Rows
theorem isList_sb {h g:Heap}{l c:Addr}{xs:Array Value} (x:h.IsList l xs) (s:Heap.SameBut c h g) (ne:l≠c):g.IsList l xs:=by
 obtain ⟨o,h1,h2⟩:=x
 exact ⟨o,(s.2 l ne).trans h1,h2⟩
section
variable {prog:Program}{w:World}{A:Around}{E:Value->Shared->Prop}
theorem draw_lst {c l:Addr}{xs:Array Value} (ne:l≠c):∀ (k j:Nat) (s:Shared) (R:List Value->Shared->Prop),s.heap.IsListIter c l j->s.heap.IsList l xs->j + k<=xs.size →
  (∀ g,g.IsListIter c l (j + k)->Heap.SameBut c s.heap g->R ((xs.toList.drop j).take k) { s with heap:=g })->wpAny (model prog w) A (draw (.ref c) k) R E s
 | 0,j,s,R,i0,_,_,q=>wpAny_pure (by simpa using q s.heap i0 (Heap.SameBut.refl ..))
 | k + 1,j,s,R,i0,l0,hb,q=>by
  have lt:j < xs.size:=by omega
  show wpAny _ _ (pyNext (.ref c) >>= _) R E s
  refine wpAny_bind (wpAny_pyNext_list_item i0 l0 (x:=xs[j]) (by simp [lt]) fun g1 i1 s1=>?_)
  refine wpAny_bind (wpAny_holding (draw_lst ne k (j + 1) _ _ i1 (isList_sb l0 s1 ne) (by omega) fun g2 i2 s2=>wpAny_pure ?_))
  have z:=q g2 (by rw [show j + (k + 1)=j + 1 + k by omega];exact i2) (s1.trans s2)
  rw [show xs.toList.drop j=xs[j]::xs.toList.drop (j + 1) by simp [List.drop_eq_getElem_cons,lt],List.take_succ_cons] at z
  exact z
theorem unpack_lst {s:Shared}{l:Addr}{xs:Array Value}{ts:List (Bool × (Value->Sem Unit))}{R:Unit->Shared->Prop} (hh:A.handled=none) (l0:s.heap.IsList l xs) (hn:ts.length=xs.size) (hs:ts.findIdx? (·.1)=none)
  (q:∀ g,Heap.ExtBut s.heap.objs.size s.heap g->wpAny (model prog w) A (assignInOrder (ts.map (·.2)) xs.toList) R E { s with heap:=g }):wpAny (model prog w) A (unpack (.ref l) ts) R E s:=by
 have ne:l≠s.heap.objs.size:=by obtain ⟨o,ho,_⟩:=l0;exact Nat.ne_of_lt (Heap.lt_size ho)
 unfold unpack
 rw [hn,hs]
 refine wpAny_bind (wpAny_holding ?_)
 unfold unpackItems
 refine wpAny_bind ?_
 unfold notIterableAtAll
 refine wpAny_bind (wpAny_specialOf l0.typeIs F.slot_list_iter.lookup ?_)
 refine wpAny_pure ?_
 simp only [Bool.false_eq_true,if_false]
 refine wpAny_bind (wpAny_holding (wpAny_pyIter_list l0 ?_))
 refine wpAny_bind (wpAny_holding (draw_lst ne xs.size 0 _ _ ⟨_,Heap.get?_push_size _ rfl,rfl,rfl⟩ (l0.push _) (by omega) fun g1 i1 s1=>?_))
 rw [show List.take xs.size (List.drop 0 xs.toList)=xs.toList by rw [List.drop_zero];exact List.take_of_length_le (by simp)]
 rw [if_neg (by simp)]
 refine wpAny_bind (wpAny_holding (wpAny_pyNext_list_end hh i1 (isList_sb (l0.push _) s1 ne) (by simp) fun g2 e2=>?_))
 simp only [Option.isSome_none,Bool.false_eq_true,if_false]
 exact wpAny_pure (q g2 fun b o hb e=>e2 b o hb (s1.extBut b o hb (Heap.get?_push_of_some _ e)))
end
def gUnp (K:PySem.W.Frag) (n:Nat) (t:TGs):TG:=fun v σ H Q=>match v with
 | .ref a=>∃ xs,Sq K H a xs/\xs.length=n/\t xs σ H Q
 | _=>False
theorem pg_unp {X:Cx}{es:List Expr}{k:Nat}{t:TGs}{n:Nat}{pos:Pos} (hc:X.calm=true) (h:PGs X es t)
  (hn:(assignEach es X.env).length=n:=by rfl) (hst:(assignEach es X.env).findIdx? (·.1)=none:=by rfl):PG X (.Tuple es k pos) (gUnp X.K n t):=by
 intro pins s σ H v u Q I r hw
 cases v with
 | ref a =>
  obtain ⟨xs,hq | hq,hl,hw⟩:=hw
  ·cases r
   obtain ⟨its,rv,p,hz⟩:=I.list hq
   rw [assign_Tuple]
   refine wpAny_bind (wpAny_standAt (unpack_lst (I.ok.hd hc) p.isList (by simp [hn,← hl,rv.length]) hst fun g hx=>?_))
   have I1:Inv X pins σ H { s with heap:=g }:=I.kept (t':=s.toks) fun b o e=>hx b o (Nat.ne_of_lt (Heap.lt_size e)) e
   exact h pins _ σ H xs _ Q I1 (by simpa using rv) hw
  ·exact pg_tup (pos:=pos) (k:=k) hc h hn hst pins s σ H _ u Q I r ⟨a,xs,rfl,hq,hl,hw⟩
 | _=>exact False.elim hw
theorem pg_unpK {X:Cx}{K:PySem.W.Frag}{es:List Expr}{k:Nat}{t:TGs}{n:Nat}{pos:Pos} (hK:X.K=K) (hc:X.calm=true) (h:PGs X es t)
  (hn:(assignEach es X.env).length=n:=by rfl) (hst:(assignEach es X.env).findIdx? (·.1)=none:=by rfl):PG X (.Tuple es k pos) (gUnp K n t):=hK ▸ pg_unp hc h hn hst
theorem ap_unp {K:PySem.W.Frag}{n:Nat}{t:TGs}{a:Addr}{σ:St}{H:Hp}{Q:St->Hp->Prop}:gUnp K n t (.ref a) σ H Q=∃ xs,Sq K H a xs/\xs.length=n/\t xs σ H Q:=propext Iff.rfl
theorem ap_gcons {t:TG}{u:TGs}{v:V}{r:List V}{σ:St}{H:Hp}{Q:St->Hp->Prop}:gCons t u (v::r) σ H Q=t v σ H fun σ' H'=>u r σ' H' Q:=propext ⟨fun ⟨_,_,e,h⟩=>by cases e;exact h,fun h=>⟨v,r,rfl,h⟩⟩
theorem ap_gnil {σ:St}{H:Hp}{Q:St->Hp->Prop}:gNil [] σ H Q=Q σ H:=propext ⟨fun h=>h.2,fun h=>⟨rfl,h⟩⟩
def cutN (l:List Nat) (lo hi:Option Int):List Nat:=(l.drop (HT.sIx l.length 0 lo)).take (HT.sIx l.length l.length hi - HT.sIx l.length 0 lo)
theorem cutN_length (l:List Nat) (lo hi:Option Int):(cutN l lo hi).length<=l.length:=by
 unfold cutN
 rw [List.length_take,List.length_drop]
 omega
theorem pick_range {α:Type} (l:List α) (a k:Nat):((List.range k).map fun j=>a + j).filterMap (l[·]?)=(l.drop a).take k:=by
 induction k with
 | zero=>simp
 | succ k ih =>
  rw [List.range_succ,List.map_append,List.filterMap_append,ih,List.take_succ]
  congr 1
  simp only [List.map_cons,List.map_nil,List.filterMap_cons,List.filterMap_nil,List.getElem?_drop]
  cases l[a + k]? <;> rfl
def partOf:Option Int->Tok->Option (Int × Tok)
 | some i,t=>some (i,t)
 | none,_=>none
def clipV (n d:Nat):Option Int->Int
 | none=>d
 | some i=>max 0 (min (if i < 0 then i + (n:Int) else i) (n:Int))
theorem sIx_clip (n d:Nat) (o:Option Int):clipV n d o=((HT.sIx n d o:Nat):Int):=by
 cases o with
 | none=>rfl
 | some v =>
  show max 0 (min (if v < 0 then v + (n:Int) else v) (n:Int))=((if v < 0 then (v + (n:Int)).toNat else min v.toNat n:Nat):Int)
  by_cases h:v < 0
  ·rw [if_pos h,if_pos h];omega
  ·rw [if_neg h,if_neg h];omega
theorem indices_clip (lo hi:Option Int) (n:Nat):Builtin.Str.strSliceIndices lo hi 1 n=sliceRange (clipV n 0 lo) (clipV n n hi) 1:=by
 unfold Builtin.Str.strSliceIndices clipV
 cases lo <;> cases hi <;> simp
theorem range_one (a b:Nat):sliceRange (a:Int) (b:Int) 1=(List.range (b - a)).map fun j=>a + j:=by
 unfold sliceRange
 have e3:(if (1:Int) > 0 then (if (a:Int) < (b:Int) then ((b:Int) - (a:Int) + 1 - 1) / 1 else 0) else (if (a:Int) > (b:Int) then ((a:Int) - (b:Int) - 1 - 1) / (-1) else 0)).toNat=b - a:=by
  rw [if_pos (by decide)]
  split <;> omega
 show ((List.range (if (1:Int) > 0 then (if (a:Int) < (b:Int) then ((b:Int) - (a:Int) + 1 - 1) / 1 else 0) else (if (a:Int) > (b:Int) then ((a:Int) - (b:Int) - 1 - 1) / (-1) else 0)).toNat).map fun (k:Nat)=>((a:Int) + 1 * (k:Int)).toNat)=_
 rw [e3]
 exact List.map_congr_left fun k _=>by omega
theorem picked_range (x:Str) (lo hi:Option Int) (t u:Tok):slicePicked x (partOf lo t) (partOf hi u) none=(List.range (HT.sIx x.length x.length hi - HT.sIx x.length 0 lo)).map fun j=>HT.sIx x.length 0 lo + j:=by
 unfold slicePicked
 have e1:(partOf lo t).map (·.1)=lo:=by cases lo <;> rfl
 have e2:(partOf hi u).map (·.1)=hi:=by cases hi <;> rfl
 rw [e1,e2]
 show Builtin.Str.strSliceIndices lo hi 1 x.length=_
 rw [indices_clip,sIx_clip,sIx_clip,range_one]
theorem picked_cut (x:Str) (lo hi:Option Int) (t u:Tok):(slicePicked x (partOf lo t) (partOf hi u) none).filterMap (x.cps[·]?)=cutN x.cps.toList lo hi:=by
 have e5:(fun i:Nat=>x.cps[i]?)=fun i:Nat=>x.cps.toList[i]?:=by funext i;rw [Array.getElem?_toList]
 rw [picked_range,e5,pick_range]
 unfold cutN
 rw [← len_cps]
theorem sl_strX {X:Cx}:SlR X (fun x lo hi H Q=>∃ z,x=.str z/\z.length<=sizeLine/\Q (.str (tx (cutN z.cps.toList lo hi))) H):=by
 intro pins s σ H x v vl vu lo hi sl Q I rx hs pl pu h
 obtain ⟨z,rfl,hz,q⟩:=h
 obtain ⟨t,rfl⟩:=rx
 refine ⟨"str",_,F.slot_str_getitem.lookup,typeIs_str s z t,?_⟩
 have h1:∃ tl,vl=partValue (partOf lo tl):=by cases pl with | none=>exact ⟨0,rfl⟩ | int i t=>exact ⟨t,rfl⟩
 have h2:∃ tu,vu=partValue (partOf hi tu):=by cases pu with | none=>exact ⟨0,rfl⟩ | int i t=>exact ⟨t,rfl⟩
 obtain ⟨tl,rfl⟩:=h1
 obtain ⟨tu,rfl⟩:=h2
 refine wpAny_getItem_str_slice (l:=partOf lo tl) (u:=partOf hi tu) (st:=none) hs rfl ?_
 have ec:=picked_cut z lo hi tl tu
 have key:tx (cutN z.cps.toList lo hi)=⟨((slicePicked z (partOf lo tl) (partOf hi tu) none).filterMap (z.cps[·]?)).toArray⟩:=by rw [ec];rfl
 unfold sliceMade
 split
 next hh =>
  have hl:(slicePicked z (partOf lo tl) (partOf hi tu) none).length=z.length:=by simpa using hh
  rw [picked_range,List.length_map,List.length_range] at hl
  have b1:=HT.sIx_le z.length 0 (Nat.zero_le _) lo
  have b2:=HT.sIx_le z.length z.length (Nat.le_refl _) hi
  have e:tx (cutN z.cps.toList lo hi)=z:=by
   unfold cutN
   rw [← len_cps,hl]
   by_cases hz0:z.length=0
   ·have:z.cps.toList=[]:=by rw [← List.length_eq_zero_iff,← len_cps];exact hz0
    rw [this]
    have:=tx_of z
    rw [‹z.cps.toList=[]›] at this
    simpa using this
   ·rw [show HT.sIx z.length 0 lo=0 by omega,List.drop_zero,List.take_of_length_le (by rw [← len_cps];exact Nat.le_refl _)]
    exact tx_of z
  rw [e] at q
  exact ⟨.str z,H,I,⟨t,rfl⟩,q⟩
 next =>
  rw [← key]
  refine ⟨?_,.str _,H,I.tok _,⟨_,rfl⟩,q⟩
  rw [tx_len]
  have:=cutN_length z.cps.toList lo hi
  rw [← len_cps] at this
  omega
def rSlY (K:PySem.W.Frag):V->Option Int->Option Int->Hp->VK->Prop:=fun x lo hi H Q=>match x with
 | .ref a=>∃ xs,SqL K H a xs/\nw H (.lst (cutV xs lo hi)) Q
 | .str z=>z.length<=sizeLine/\Q (.str (tx (cutN z.cps.toList lo hi))) H
 | _=>False
theorem sl_Y {X:Cx}:SlR X (rSlY X.K):=by
 intro pins s σ H x v vl vu lo hi sl Q I rx hs pl pu h
 cases x with
 | ref a =>
  obtain ⟨xs,h1,h2⟩:=h
  exact sl_list pins s σ H _ v vl vu lo hi sl Q I rx hs pl pu ⟨a,xs,rfl,h1,h2.go⟩
 | str z=>exact sl_strX pins s σ H _ v vl vu lo hi sl Q I rx hs pl pu ⟨z,rfl,h.1,h.2⟩
 | _=>exact False.elim h
theorem sl_YK {X:Cx}{K:PySem.W.Frag} (hK:X.K=K):SlR X (rSlY K):=hK ▸ sl_Y
end L2

namespace L2
open PySem PySem.Spec PyProof.Rows
def memK (x:Key) (l:List Key):Bool:=l.any fun y=>decide (y=x)
theorem memK_iff {x:Key}{l:List Key}:memK x l=true ↔ x∈l:=by
 unfold memK
 rw [List.any_eq_true]
 exact ⟨fun ⟨y,h,e⟩=>of_decide_eq_true e ▸ h,fun h=>⟨x,h,decide_eq_true rfl⟩⟩
theorem memK_snoc (x y:Key) (l:List Key):memK x (l++[y])=(memK x l || decide (y=x)):=by
 unfold memK
 rw [List.any_append];simp
def metK (val:Nat->Key):Nat->List Key
 | 0=>[]
 | i + 1=>if memK (val i) (metK val i)=true then metK val i else metK val i++[val i]
theorem metK_len (val:Nat->Key):∀ i,(metK val i).length<=i
 | 0=>Nat.le_refl _
 | i + 1=>by
  have ih:=metK_len val i
  unfold metK
  split
  ·omega
  ·rw [List.length_append,List.length_singleton];omega
theorem setOf_eq {P:Program}{w:World}{h:Heap}{a:Addr}{S S':Key->Bool}{n n':Nat} (x:h.SetOf (mixKind P w) a S n) (e:∀ k,S k=S' k) (en:n=n'):h.SetOf (mixKind P w) a S' n':=by
 have z:S=S':=funext e
 subst z;subst en;exact x
section
variable {prog:Program}{w:World}{A:Around}{R:Result->Shared->Prop}{c:Addr}{fp wr:List Addr}{G:Array GenState->Array GenState->Prop}{n:Nat}{Pv:Nat->Value->Prop}{Sv:Nat->Shared->Prop}
theorem upd_loop (W:WalksS prog w A.in1 c fp wr G n Pv Sv) (a:Addr) (na:a ∉ fp) (val:Nat->Key) (hv:∀ i v,Pv i v->keyIs (val i) v=true/\v.scannable=true) (hb:n + 1 < scanBound) :
  ∀ (k i:Nat) (s:Shared),n - i=k->i<=n->Sv i s->s.heap.SetOf (mixKind prog w) a (fun x=>memK x (metK val i)) (metK val i).length →
   (∀ s',Moved (a::wr) G s s'->s'.heap.SetOf (mixKind prog w) a (fun x=>memK x (metK val n)) (metK val n).length->R (.ok (.ret .none)) s') →
   codeAny (model prog w) A (.builtin "set.update.loop" ⟨[.ref a,.ref c],[]⟩) R s:=by
 have nw':a ∉ wr:=fun z=>na (W.sub _ z)
 have sb:∀ b∈wr,b∈a::wr:=fun b h=>List.mem_cons_of_mem _ h
 have stay:∀ {s s':Shared}{S:Key->Bool}{m:Nat},Moved wr G s s'->s.heap.SetOf (mixKind prog w) a S m->s'.heap.SetOf (mixKind prog w) a S m:=fun mv x=>by
  obtain ⟨o,es,ep,t,ho,r⟩:=x
  exact ⟨o,es,ep,t,mv.heap a _ nw' ho,r⟩
 intro k
 induction k with
 | zero =>
  intro i s hk hi st x q
  have e:i=n:=by omega
  subst e
  refine codeAny_builtin PyProof.Rows.F.entry_set_update_loop ?_
  rw [Around.under_plainId PyProof.Rows.F.plain_set_update_loop _]
  show wpAny _ A.in1 (pyNext (.ref c) >>= _) _ _ s
  refine wpAny_bind (W.done s _ _ st fun s' mv=>?_)
  exact wpAny_pure (q s' (mv.mono sb) (stay mv x))
 | succ k ih =>
  intro i s hk hi st x q
  have lt:i < n:=by omega
  refine codeAny_builtin PyProof.Rows.F.entry_set_update_loop ?_
  rw [Around.under_plainId PyProof.Rows.F.plain_set_update_loop _]
  show wpAny _ A.in1 (pyNext (.ref c) >>= _) _ _ s
  refine wpAny_bind (W.item i s _ _ lt st fun v s' pv st' mv=>?_)
  obtain ⟨hk1,hk2⟩:=hv i v pv
  have x':=stay mv x
  show wpAny _ A.in1 (holding [v] (setAdd a v) >>= _) _ _ s'
  refine wpAny_bind (wpAny_holding ?_)
  unfold setAdd
  refine wpAny_holding ?_
  refine wpAny_bind ((mixKind prog w).pyHash (k:=val i) hk1 ?_)
  have room:(metK val i).length + 1 < scanBound:=by have:=metK_len val i;omega
  refine wpAny_setAddHashed_of (knd:=mixKind prog w) (s:={ s' with toks:=s'.toks + 1 }) hk1 hk2 x' room fun g sg xg=>?_
  have x2:g.SetOf (mixKind prog w) a (fun y=>memK y (metK val (i + 1))) (metK val (i + 1)).length:=by
   refine setOf_eq xg (fun y=>?_) ?_
   ·show (memK y (metK val i) || decide (y=val i))=memK y (if memK (val i) (metK val i)=true then metK val i else metK val i++[val i])
    by_cases hc:memK (val i) (metK val i)=true
    ·rw [if_pos hc]
     by_cases e:y=val i
     ·subst e;rw [hc,Bool.true_or]
     ·rw [decide_eq_false e,Bool.or_false]
    ·rw [if_neg hc,memK_snoc]
     congr 1
     by_cases e:y=val i
     ·rw [decide_eq_true e,decide_eq_true e.symm]
     ·rw [decide_eq_false e,decide_eq_false (Ne.symm e)]
   ·show (if memK (val i) (metK val i)=true then (metK val i).length else (metK val i).length + 1)=(if memK (val i) (metK val i)=true then metK val i else metK val i++[val i]).length
    by_cases hc:memK (val i) (metK val i)=true
    ·rw [if_pos hc,if_pos hc]
    ·rw [if_neg hc,if_neg hc,List.length_append];rfl
  refine wpAny_pure ⟨plainId_quiet PyProof.Rows.F.plain_set_update_loop _,ih (i + 1) _ (by omega) lt (W.frame _ s' _ _ st' (Nat.le_succ _) fun b hb o e=>?_) x2 fun s'' mv2 x3=>?_⟩
  ·rw [sg.2 b (fun z:b=a=>na (by rw [← z];exact hb))];exact e
  ·refine q s'' (Moved.trans W.gtrans ((mv.mono sb).then_heap (Nat.le_succ _) fun b o hb e=>?_) mv2) x3
   rw [sg.2 b (fun z:b=a=>hb (by rw [z];exact List.mem_cons_self))];exact e
end
def valT (z:Str) (i:Nat):Key:=Sum.inr ⟨#[z.cps.toList.getD i 0]⟩
theorem sub_str_set:isSubtype (.type "str") (.type "set")=pure false:=by rw [isSubtype_type];kernel_rfl
theorem sub_str_frozen:isSubtype (.type "str") (.type "frozenset")=pure false:=by rw [isSubtype_type];kernel_rfl
set_option maxRecDepth 100000 in
set_option maxHeartbeats 4000000 in
theorem set_of_text {prog:Program}{w:World}{A:Around}{E:Value->Shared->Prop}{s:Shared}{z:Str}{t:Tok}{Q:Value->Shared->Prop} (hh:A.handled=none) (hb:z.cps.size + 1 < scanBound)
  (q:∀ (g:Heap) (tk:Nat),g.SetOf (mixKind prog w) s.heap.objs.size (fun x=>memK x (metK (valT z) z.cps.size)) (metK (valT z) z.cps.size).length->(∀ b o,b < s.heap.objs.size->s.heap.get? b=some o->g.get? b=some o) →
   Q (.ref s.heap.objs.size) { s with heap:=g,toks:=tk }):wpAny (model prog w) A (call (.type "set") [.str z t]) Q E s:=by
 obtain ⟨c,tl,hmro⟩:=F.called_set.mro
 have hmade:=F.called_set.made
 have hsub:=F.called_set.sub
 refine wpAny_call (codeAny_of_tree ?_)
 show wpAny _ _ (callAny (.type "set") _) _ _ _
 refine wpAny_pure ⟨Code.quiet_builtin _ (by decide +kernel),codeAny_builtin F.entry_type_call ?_⟩
 rw [Around.under_plain (weight_type_call_type "set" [.str z t] []) rfl]
 have h1:=F.called_set.notType
 have h2:=F.called_set.canCreate
 have hct:=F.typeCall_set_1 (.str z t)
 repeat (any_goals (first | assumption | wp_step))
 refine codeAny_mono (code_set_new_1 (.str z t) (E:=E) (Q₁:=fun ob s1=>∃ led:Bool,ob=.ref s.heap.objs.size/\s1={ s with heap:=s.heap.push { cls:=.type "set",dict:=none,data:=.set #[] 0 (.fresh 0 0 led) } }) fun led=>⟨led,rfl,rfl⟩) fun r s1 hr=>?_
 cases r with
 | error e=>exact hr
 | ok fl =>
  cases fl with
  | ret ob =>
   obtain ⟨led,rfl,rfl⟩:=hr
   generalize hg1:s.heap.push { cls:=.type "set",dict:=none,data:=.set #[] 0 (.fresh 0 0 led) }=g1
   have hS:g1.get? s.heap.objs.size=some { cls:=.type "set",dict:=none,data:=.set #[] 0 (.fresh 0 0 led) }:=by rw [← hg1];exact Heap.get?_push_size _ rfl
   have hsz:g1.objs.size=s.heap.objs.size + 1:=by rw [← hg1,Heap.size_push]
   have hkp:∀ b o,s.heap.get? b=some o->g1.get? b=some o:=fun b o e=>by rw [← hg1];exact Heap.get?_push_of_some _ e
   have hT:Shared.TypeIs { s with heap:=g1 } (.ref s.heap.objs.size) "set":=⟨_,hS,rfl⟩
   have hli:=F.called_set.init.lookup
   have hbi:=F.called_set.init.bind (.ref s.heap.objs.size)
   repeat (any_goals (first | assumption | wp_step))
   refine codeAny_mono (codeAny_call_builtin (R:=wants (fun r s2=>r=.none/\∃ g tk,s2={ s with heap:=g,toks:=tk }/\g.SetOf (mixKind prog w) s.heap.objs.size (fun x=>memK x (metK (valT z) z.cps.size)) (metK (valT z) z.cps.size).length ∧
     (∀ b o,b < s.heap.objs.size->s.heap.get? b=some o->g.get? b=some o)) E) F.called_set.init.plain F.entry_set_init (check_set_init_1 hT ?_)) fun r2 s2 hr2=>?_
   ·have k1:=sub_str_set
    have k2:=sub_str_frozen
    have k3:(Value.type "str" == Value.type "dict")=false:=by decide
    have hh3:A.in1.in1.in1.handled=none:=by simp [hh]
    have hval:∀ i v,SignAt z i v->keyIs (valT z i) v=true/\v.scannable=true:=by
     rintro i v ⟨ch,u,e,rfl⟩
     refine ⟨?_,rfl⟩
     have e2:z.cps.toList.getD i 0=ch:=by rw [List.getD_eq_getElem?_getD,Array.getElem?_toList,e];rfl
     unfold valT
     rw [e2]
     exact keyIs_str _ _
    have fin:∀ (g2:Heap),(∀ b o,g1.get? b=some o->g2.get? b=some o)->∀ s',Moved (s.heap.objs.size::[g1.objs.size]) (fun a b=>b=a) { s with heap:=g2 } s' →
      s'.heap.SetOf (mixKind prog w) s.heap.objs.size (fun x=>memK x (metK (valT z) z.cps.size)) (metK (valT z) z.cps.size).length →
      ∃ g tk,s'={ s with heap:=g,toks:=tk }/\g.SetOf (mixKind prog w) s.heap.objs.size (fun x=>memK x (metK (valT z) z.cps.size)) (metK (valT z) z.cps.size).length/\(∀ b o,b < s.heap.objs.size->s.heap.get? b=some o->g.get? b=some o):=by
     intro g2 k4 s' mv x
     obtain ⟨g,ge,d,tk,os⟩:=s'
     have eg:ge=s.gens:=mv.gens
     have ed:d=s.drawn:=mv.drawn
     have eo:os=s.os:=mv.os
     subst eg;subst ed;subst eo
     refine ⟨g,tk,rfl,x,fun b o hb e=>mv.heap b o ?_ (k4 b o (hkp b o e))⟩
     simp only [List.mem_cons,List.not_mem_nil,or_false,not_or]
     rw [hsz]
     exact ⟨Nat.ne_of_lt hb,Nat.ne_of_lt (Nat.lt_succ_of_lt hb)⟩
    have start:∀ g2:Heap,(∀ b o,g1.get? b=some o->g2.get? b=some o)->g2.SetOf (mixKind prog w) s.heap.objs.size (fun x=>memK x (metK (valT z) 0)) (metK (valT z) 0).length:=fun g2 k4 =>
     letI:BEq Key:=instBEqOfDecidableEq
     setOf_eq ((PyProof.Rows.setObjOf_fresh (knd:=mixKind prog w) led).setOf (k4 _ _ hS) (by unfold scanBound;omega)) (fun _=>rfl) rfl
    have na:s.heap.objs.size ∉ [g1.objs.size]:=by simp only [List.mem_cons,List.not_mem_nil,or_false];omega
    unfold Builtin.«set.__init__» noKeywords Builtin.Frozenset.updateFrom
    generalize hPI:pyIter=PI
    wp_walk
    subst hPI
    cases ha:z.cps.all (· < 128) with
    | true =>
     refine wpAny_pyIter_ascii ha ?_
     refine wpAny_bind (wpAny_runValue ?_)
     refine upd_loop ((Walks.strAscii hh3 g1.objs.size z t).toS) s.heap.objs.size na (valT z) hval hb (z.cps.size - 0) 0 _ (by omega) (Nat.zero_le _) ⟨_,Heap.get?_push_size _ rfl,rfl,rfl⟩ (start _ fun b o e=>Heap.get?_push_of_some _ e) fun s' mv x=>?_
     obtain ⟨g,tk,e,r1,r2⟩:=fin _ (fun b o e=>Heap.get?_push_of_some _ e) s' mv x
     refine wpAny_pure ?_
     show wpAny _ _ (ret Value.none) _ _ _
     exact wpAny_pure ⟨rfl,g,tk,e,r1,r2⟩
    | false =>
     refine wpAny_pyIter_wide ha ?_
     refine wpAny_bind (wpAny_runValue ?_)
     refine upd_loop ((Walks.strWide hh3 g1.objs.size z t).toS) s.heap.objs.size na (valT z) hval hb (z.cps.size - 0) 0 _ (by omega) (Nat.zero_le _) ⟨_,Heap.get?_push_size _ rfl,rfl,rfl⟩ (start _ fun b o e=>Heap.get?_push_of_some _ e) fun s' mv x=>?_
     obtain ⟨g,tk,e,r1,r2⟩:=fin _ (fun b o e=>Heap.get?_push_of_some _ e) s' mv x
     refine wpAny_pure ?_
     show wpAny _ _ (ret Value.none) _ _ _
     exact wpAny_pure ⟨rfl,g,tk,e,r1,r2⟩
   ·cases r2 with
    | error e=>exact hr2
    | ok fl2 =>
     cases fl2 with
     | ret v =>
      obtain ⟨rfl,g,tk,rfl,x1,x2⟩:=hr2
      repeat (any_goals (first | assumption | wp_step))
      exact q _ _ x1 x2
     | _=>exact hr2.elim
  | _=>exact hr.elim
end L2

namespace L2
open PySem PySem.Spec PyProof.Rows
def setT (P:Program) (w:World) (a:Addr) (l:List Key):HO:=.ext fun h=>h.SetOf (mixKind P w) a (fun x=>memK x l) l.length
theorem setT_ok {P:Program}{w:World}{H:Hp}{h:Heap}{a:Addr}{l:List Key} (x:h.SetOf (mixKind P w) a (fun x=>memK x l) l.length):ObjOk P w H h a (setT P w a l):=by
 refine ⟨x,?_,fun h1 h2 y k=>?_⟩
 ·obtain ⟨o,_,_,_,e,_⟩:=x;exact ⟨o,e⟩
 ·obtain ⟨o,es,ep,t,e,r⟩:=y;exact ⟨o,es,ep,t,k o e,r⟩
def rSetS (P:Program) (w:World):List V->Hp->VK->Prop:=fun vs H Q=>match vs with
 | [.str z]=>z.length<=4000/\∀ p H',H p=none->Same H H'->H' p=some (setT P w p (metK (valT z) z.length))->Q (.ref p) H'
 | _=>False
theorem call_setS {X:Cx} (hc:X.calm=true):CallR X (.type "set") (rSetS X.prog X.w):=by
 intro pins s σ H xs us Q I r h
 match xs,h with
 | [.str z],h =>
  obtain ⟨u,rfl,t,rfl⟩:=vals1 r
  have hf:H s.heap.objs.size=none:=I.hok.fresh (Nat.le_refl _)
  have hz:z.cps.size<=4000:=h.1
  refine set_of_text (I.ok.hd hc) (by unfold scanBound;omega) fun g tk x k=>?_
  have kk:∀ b o,s.heap.get? b=some o->g.get? b=some o:=fun b o e=>k b o (Heap.lt_size e) e
  exact ⟨.ref s.heap.objs.size,upd H s.heap.objs.size (setT X.prog X.w s.heap.objs.size (metK (valT z) z.length)),I.laid (t':=tk) kk (Nat.le_refl _) (setT_ok x),rfl,h.2 _ _ hf (same_upd hf) upd_same⟩
def rLenT (P:Program) (w:World):List V->Hp->VK->Prop:=fun vs H Q=>match vs with
 | [.ref p]=>∃ l,H p=some (setT P w p l)/\Q (.int l.length) H
 | _=>False
theorem call_lenT {X:Cx}:CallR X (.builtin "len") (rLenT X.prog X.w):=by
 intro pins s σ H xs us Q I r h
 match xs,h with
 | [.ref p],h =>
  obtain ⟨l,e,q⟩:=h
  obtain ⟨u,rfl,ru⟩:=vals1 r
  cases ru
  obtain ⟨⟨o,es,ep,t,e1,e2,e3,_,_,e4,e5,e6⟩,_⟩:=(show ObjOk X.prog X.w H s.heap p (setT X.prog X.w p l) from I.hok p _ e)
  refine call_len_set e1 e2 e3 e5 (by have:es.size < 4096:=e4;omega) ⟨.int es.size,H,I.tok _,⟨_,rfl⟩,?_⟩
  rw [e6];exact q
theorem call_setK {X:Cx}{P:Program}{w:World} (hP:X.prog=P) (hw:X.w=w) (hc:X.calm=true):CallR X (.type "set") (rSetS P w):=by subst hP hw;exact call_setS hc
theorem call_lenTK {X:Cx}{P:Program}{w:World} (hP:X.prog=P) (hw:X.w=w):CallR X (.builtin "len") (rLenT P w):=by subst hP hw;exact call_lenT
theorem metK_mem (val:Nat->Key):∀ (n:Nat) (x:Key),x∈metK val n ↔ ∃ i,i < n/\val i=x
 | 0,x=>⟨fun h=>(by cases h),fun ⟨i,h,_⟩=>absurd h (Nat.not_lt_zero _)⟩
 | n + 1,x=>by
  have ih:=metK_mem val n
  unfold metK
  by_cases hc:memK (val n) (metK val n)=true
  ·rw [if_pos hc,ih x]
   obtain ⟨j,hj,ej⟩:=(ih (val n)).mp (memK_iff.mp hc)
   constructor
   ·rintro ⟨i,h,e⟩;exact ⟨i,Nat.lt_succ_of_lt h,e⟩
   ·rintro ⟨i,h,e⟩
    rcases Nat.lt_succ_iff_lt_or_eq.mp h with h | h
    ·exact ⟨i,h,e⟩
    ·exact ⟨j,hj,by rw [ej,← h,e]⟩
  ·rw [if_neg hc,List.mem_append,List.mem_singleton,ih x]
   constructor
   ·rintro (⟨i,h,e⟩ | e)
    ·exact ⟨i,Nat.lt_succ_of_lt h,e⟩
    ·exact ⟨n,Nat.lt_succ_self _,e.symm⟩
   ·rintro ⟨i,h,e⟩
    rcases Nat.lt_succ_iff_lt_or_eq.mp h with h | h
    ·exact .inl ⟨i,h,e⟩
    ·exact .inr (by rw [← e,h])
theorem metK_full (val:Nat->Key):∀ n,(metK val n).length=n ↔ ∀ i j,i < n->j < n->val i=val j->i=j
 | 0=>⟨fun _ i _ h=>absurd h (Nat.not_lt_zero _),fun _=>rfl⟩
 | n + 1=>by
  have ih:=metK_full val n
  have hl:=metK_len val n
  unfold metK
  by_cases hc:memK (val n) (metK val n)=true
  ·rw [if_pos hc]
   obtain ⟨j,hj,ej⟩:=(metK_mem val n (val n)).mp (memK_iff.mp hc)
   constructor
   ·intro h;omega
   ·intro h
    have:=h j n (Nat.lt_succ_of_lt hj) (Nat.lt_succ_self _) ej
    omega
  ·rw [if_neg hc,List.length_append,List.length_singleton]
   have nm:∀ i,i < n->val i≠val n:=fun i hi e=>hc (memK_iff.mpr ((metK_mem val n (val n)).mpr ⟨i,hi,e⟩))
   constructor
   ·intro h i j hi hj e
    have h2:=ih.mp (by omega)
    rcases Nat.lt_succ_iff_lt_or_eq.mp hi with hi | hi <;> rcases Nat.lt_succ_iff_lt_or_eq.mp hj with hj | hj
    ·exact h2 i j hi hj e
    ·subst hj;exact absurd e (nm i hi)
    ·subst hi;exact absurd e.symm (nm j hj)
    ·omega
   ·intro h
    have:=ih.mpr fun i j hi hj=>h i j (Nat.lt_succ_of_lt hi) (Nat.lt_succ_of_lt hj)
    omega
theorem met_nodup (z:Str):(metK (valT z) z.length).length=z.length ↔ z.cps.toList.Nodup:=by
 rw [metK_full,List.nodup_iff_pairwise_ne,List.pairwise_iff_getElem]
 have hl:=len_cps z
 constructor
 ·intro h i j hi hj hij e
  have:=h i j (by omega) (by omega) (by unfold valT;rw [List.getD_eq_getElem?_getD,List.getD_eq_getElem?_getD,List.getElem?_eq_getElem hi,List.getElem?_eq_getElem hj,e])
  omega
 ·intro h i j hi hj e
  have hi':i < z.cps.toList.length:=by omega
  have hj':j < z.cps.toList.length:=by omega
  have e2:z.cps.toList[i]=z.cps.toList[j]:=by
   unfold valT at e
   rw [List.getD_eq_getElem?_getD,List.getD_eq_getElem?_getD,List.getElem?_eq_getElem hi',List.getElem?_eq_getElem hj'] at e
   have e4:=congrArg Str.cps (Sum.inr.inj e)
   simpa using e4
  rcases Nat.lt_trichotomy i j with z1 | z1 | z1
  ·exact absurd e2 (h i j hi' hj' z1)
  ·exact z1
  ·exact absurd e2.symm (h j i hj' hi' z1)
def rInsert:V->List V->Hp->VK->Prop:=fun x vs H Q=>match x,vs with
 | .ref l,[.int i,y]=>∃ xs,H l=some (.lst xs)/\0<=i/\i < 2 ^ 62/\xs.length < sizeLine/\Q .non (upd H l (.lst (xs.take i.toNat++y::xs.drop i.toNat)))
 | _,_=>False
theorem mt_insert {X:Cx}:MtM X "list.insert" rInsert:=by
 intro pins s σ H x vs v us Q I rx rv h
 match x,vs,h with
 | .ref l,[.int i,y],h =>
  obtain ⟨xs,hH,h0,h1,hz,q⟩:=h
  cases rx
  obtain ⟨u1,u2,rfl,⟨t,rfl⟩,ry⟩:=rv.two
  obtain ⟨z,its,n,r,hl,e⟩:=I.lstM hH
  have hfit:¬(!Builtin.List.listFitsIndex i)=true:=by unfold Builtin.List.listFitsIndex;simp;omega
  refine call_meets F.slot_list_insert ⟨_,e,rfl⟩ F.entry_list_insert (F.args_list_insert_3 _ _ _) (AutoListH.list_insert_list_int_val_1 l its.toArray n i t u2 hfit (by rw [List.size_toArray];omega)) ⟨e,?_⟩
  refine ⟨.non,_,I.lset (ys:=xs.take i.toNat++y::xs.drop i.toNat) (its':=its.take i.toNat++u2::its.drop i.toNat) hH e ?_ ((r.take i.toNat).append (.cons ry (r.drop i.toNat))) ?_,rfl,q⟩
  ·have e0:(if i < 0 then (i + ((its.toArray.size:Nat):Int)).toNat else min i.toNat its.toArray.size)=min i.toNat its.length:=by rw [if_neg (by omega),List.size_toArray]
   show (its.toArray.extract 0 (if i < 0 then (i + ((its.toArray.size:Nat):Int)).toNat else min i.toNat its.toArray.size)).push u2++its.toArray.extract (if i < 0 then (i + ((its.toArray.size:Nat):Int)).toNat else min i.toNat its.toArray.size)=_
   rw [e0]
   apply Array.toList_inj.mp
   by_cases hb:i.toNat<=its.length
   ·rw [Nat.min_eq_left hb]
    simp
    rw [List.take_of_length_le (by rw [List.length_drop];omega)]
   ·rw [Nat.min_eq_right (by omega)]
    simp [List.take_of_length_le (show its.length<=i.toNat by omega),List.drop_of_length_le (show its.length<=i.toNat by omega)]
  ·rw [List.length_append,List.length_cons,List.length_take,List.length_drop];omega
theorem cutN_last (l:List Nat):cutN l none (some (-1))=l.dropLast:=by
 unfold cutN
 rw [List.dropLast_eq_take]
 have e1:HT.sIx l.length 0 none=0:=rfl
 have e2:HT.sIx l.length l.length (some (-1))=l.length - 1:=by
  unfold HT.sIx
  simp
  omega
 rw [e1,e2];rfl
def ndB:List Addr->Bool
 | []=>true
 | a::r=>!r.contains a && ndB r
theorem cutN_take (l:List Nat) (j:Nat):cutN l none (some (j:Int))=l.take j:=by
 unfold cutN
 rw [HT.sIx_none,HT.sIx_nat,Nat.sub_zero,List.drop_zero,List.take_eq_take_iff]
 omega
theorem cutN_drop (l:List Nat) (j:Nat):cutN l (some (j:Int)) none=l.drop j:=by
 unfold cutN
 rw [HT.sIx_none,HT.sIx_nat]
 by_cases h:j<=l.length
 ·rw [Nat.min_eq_left h]
  exact List.take_of_length_le (by rw [List.length_drop];exact Nat.le_refl _)
 ·rw [Nat.min_eq_right (by omega),List.drop_of_length_le (Nat.le_refl _),List.drop_of_length_le (by omega),List.take_nil]
theorem tag_same {H H':Hp} (s:Same H H') {x:V}{t:Tg} (h:tagV H x=some t):tagV H' x=some t:=by
 cases x with
 | ref a =>
  have h':tagO (H a)=some t:=h
  cases e:H a with
  | none=>rw [e] at h';cases h'
  | some o =>
   show tagO (H' a)=some t
   rw [s a o e,← e];exact h'
 | _=>exact h
end L2

namespace L2
open PySem PySem.Spec PyProof.Rows
theorem at_drop {items:Array Value}{k:Nat}:items[((k:Nat):Int).toNat]?=(items.toList.drop k)[0]?:=by
 rw [List.getElem?_drop,Int.toNat_natCast,Nat.add_zero,Array.getElem?_toList]
theorem drop_tl {items:Array Value}{k:Nat}{v:Value}{r:List Value} (h:items.toList.drop k=v::r):items.toList.drop (k + 1)=r:=by
 rw [← List.drop_drop,h];rfl
def lexGe:List Int->List Int->Bool
 | [],[]=>true
 | [],_::_=>false
 | _::_,[]=>true
 | a::x,c::y=>if a=c then lexGe x y else decide (c<=a)
theorem ge_loop (l b:Addr) (items items2:Array Value) (n n2:Nat) (dd dd2:Option Addr) (sl sl2:Array (Option Value)) {prog:Program}{w:World}{A:Around}{R:Result->Shared->Prop}{s:Shared}
  (hl:s.heap.get? l=some { cls:=.type "list",dict:=dd,data:=.seq items n,slots:=sl }) (hb:s.heap.get? b=some { cls:=.type "list",dict:=dd2,data:=.seq items2 n2,slots:=sl2 }) :
  ∀ (xs:List Value) (k:Nat) (ns ms:List Int),items.toList.drop k=xs->IntsAre xs ns->IntsAre (items2.toList.drop k) ms->k<=items.size->k<=items2.size->R (.ok (.ret (.bool (lexGe ns ms)))) s →
   codeAny (model prog w) A (Code.builtin "list.__eq__.loop" { pos:=[.ref l,.ref b,rawInt (k:Int),rawInt 5] }) R s:=by
 obtain ⟨hp,g,d,tk,os⟩:=s
 simp only at hl hb
 intro xs
 induction xs with
 | nil =>
  intro k ns ms hx hi hj hk hk2 h
  refine codeAny_builtin MeetsSeq3.entry_eq_loop ?_
  show wpAny _ _ (Builtin.«list.__eq__.loop» { pos:=[.ref l,.ref b,Value.int (k:Int) 0,Value.int 5 0] }) _ _ _
  unfold Builtin.«list.__eq__.loop»
  have e1:items[((k:Nat):Int).toNat]?=none:=by rw [at_drop,hx];rfl
  have hz:items.size=k:=by have:=congrArg List.length hx;rw [List.length_drop,Array.length_toList,List.length_nil] at this;omega
  have hz2:items2.size - k=ms.length:=by have:=hj.length;rw [List.length_drop,Array.length_toList] at this;exact this
  wp_walk using AutoSeq1.wpAny_loadPart' hl,AutoSeq1.wpAny_loadPart' hb
  rw [e1]
  wp_walk using AutoSeq1.wpAny_loadPart' hl,AutoSeq1.wpAny_loadPart' hb
  cases hi
  have e2:lexGe [] ms=decide (items.size ≥ items2.size):=by
   cases ms with
   | nil=>exact (decide_eq_true (by simp only [List.length_nil] at hz2;omega)).symm
   | cons c y=>exact (decide_eq_false (by simp only [List.length_cons] at hz2;omega)).symm
  rw [e2] at h
  exact h
 | cons v xs ih =>
  intro k ns ms hx hi hj hk hk2 h
  refine codeAny_builtin MeetsSeq3.entry_eq_loop ?_
  show wpAny _ _ (Builtin.«list.__eq__.loop» { pos:=[.ref l,.ref b,Value.int (k:Int) 0,Value.int 5 0] }) _ _ _
  unfold Builtin.«list.__eq__.loop»
  have e1:items[((k:Nat):Int).toNat]?=some v:=by rw [at_drop,hx];rfl
  have hz:items.size=k + (xs.length + 1):=by have:=congrArg List.length hx;rw [List.length_drop,Array.length_toList,List.length_cons] at this;omega
  wp_walk using AutoSeq1.wpAny_loadPart' hl,AutoSeq1.wpAny_loadPart' hb
  rw [e1]
  cases hi with
  | cons a t hi' =>
  generalize hy:items2.toList.drop k=ys at hj
  cases hj with
  | nil =>
   have e2:items2[((k:Nat):Int).toNat]?=none:=by rw [at_drop,hy];rfl
   have hz2:items2.size=k:=by have:=congrArg List.length hy;rw [List.length_drop,Array.length_toList,List.length_nil] at this;omega
   rw [e2]
   wp_walk using AutoSeq1.wpAny_loadPart' hl,AutoSeq1.wpAny_loadPart' hb
   have e3:∀ z,lexGe (a::z) []=decide (items.size ≥ items2.size):=fun z=>(decide_eq_true (by omega)).symm
   rw [e3] at h
   exact h
  | cons c u hj' =>
   have e2:items2[((k:Nat):Int).toNat]?=some (.int c u):=by rw [at_drop,hy];rfl
   have hz2:k + 1<=items2.size:=by have:=congrArg List.length hy;rw [List.length_drop,Array.length_toList,List.length_cons] at this;omega
   rw [e2]
   obtain ⟨e,he,hiff⟩:=HT.eqAt_int (A.under (Code.builtin "list.__eq__.loop" { pos:=[.ref l,.ref b,rawInt (k:Int),rawInt 5] })) ⟨hp,g,d,tk,os⟩ a t c u
   refine wpAny_bind (he prog w _ _ ?_)
   unfold lexGe at h
   cases e with
   | true =>
    rw [if_pos (hiff.mp rfl)] at h
    wp_walk
    exact ⟨by with_unfolding_all rfl,ih (k + 1) _ _ (drop_tl hx) hi' (by rw [drop_tl hy];exact hj') (by omega) (by omega) h⟩
   | false =>
    rw [if_neg (fun q=>absurd (hiff.mpr q) Bool.false_ne_true)] at h
    wp_walk using AutoSeq1.wpAny_loadPart' hl,AutoSeq1.wpAny_loadPart' hb
    rw [e1,e2]
    have hri:∀ (A:Around) (E:Value->Shared->Prop) (Q:Value->Shared->Prop),Q (.bool (decide (c<=a))) ⟨hp,g,d,tk,os⟩->wpAny (model prog w) A (richCompare .GtE (.int a t) (.int c u)) Q E ⟨hp,g,d,tk,os⟩:=fun A E Q h=>(PyProof.Rows.ge_int h:wpAny (model prog w) A (compareOp .GtE (.int a t) (.int c u)) Q E _)
    refine wpAny_bind (hri _ _ _ ?_)
    wp_walk
    exact h
theorem ge_lists {l b:Addr}{items items2:Array Value}{ns ms:List Int}{prog:Program}{w:World}{A:Around}{E:Value->Shared->Prop}{s:Shared}{Q:Value->Shared->Prop} (hl:s.heap.IsList l items) (hb:s.heap.IsList b items2) (hi:IntsAre items.toList ns) (hj:IntsAre items2.toList ms)
  (hu:A.units < cLine) (h:Q (.bool (lexGe ns ms)) s):wpAny (model prog w) A (compareOp .GtE (.ref l) (.ref b)) Q E s:=by
 obtain ⟨⟨c1,dd,d1,sl⟩,ho,g1,n,g2⟩:=id hl
 obtain ⟨⟨c2,dd2,d2,sl2⟩,ho2,g3,n2,g4⟩:=id hb
 simp only at g1 g2 g3 g4
 subst g1 g2 g3 g4
 have m:Meets (Builtin.«list.__ge__» ⟨[.ref l,.ref b],[]⟩) (fun _ R s=>s.heap.get? l=some { cls:=.type "list",dict:=dd,data:=.seq items n,slots:=sl }/\s.heap.get? b=some { cls:=.type "list",dict:=dd2,data:=.seq items2 n2,slots:=sl2 } ∧
    R (.ok (.ret (.bool (lexGe ns ms)))) s):=by
  intro prog w A R s h
  obtain ⟨hp,g,d,tk,os⟩:=s;obtain ⟨hl,hb,h⟩:=h
  simp only at hl hb
  have f2:=AutoSeq1.sub_list_list
  unfold Builtin.«list.__ge__»
  wp_walk using AutoSeq1.wpAny_loadPart' hl,AutoSeq1.wpAny_loadPart' hb
  exact ⟨by with_unfolding_all rfl,ge_loop l b items items2 n n2 dd dd2 sl sl2 hl hb _ 0 ns ms rfl hi hj (Nat.zero_le _) (Nat.zero_le _) h⟩
 exact PySem.W.cmp_ofGtE (richCompare_meets_room (op:=.GtE) ⟨_,ho,rfl⟩ ⟨_,ho2,rfl⟩ PySem.F.slot_list_ge PySem.F.entry_list_ge (PySem.F.args_list_ge_2 _ _) m
  ⟨ho,ho2,show Value.bool (lexGe ns ms)≠Value.notImplemented/\Q (.bool (lexGe ns ms)) s from ⟨(fun x=>nomatch x),h⟩⟩ hu)
section
variable {X:Cx}{K:PySem.W.Frag}
def rGeL (K:PySem.W.Frag):R2:=fun x y H Q=>match x,y with
 | .int i,.int j=>Q (.bl (decide (j<=i))) H
 | .ref a,.ref b=>∃ ns ms,SqL K H a (ns.map V.int)/\SqL K H b (ms.map V.int)/\Q (.bl (lexGe ns ms)) H
 | _,_=>False
theorem op_geL (hK:X.K=K) (hu:X.A.units < cLine):OpR X (compareOp .GtE) (rGeL K):=by
 subst hK
 intro pins s σ H x y v u Q I rx ry h
 cases x with
 | int i=>cases y with
  | int j=>exact op_geX pins s σ H _ _ v u Q I rx ry h
  | _=>exact False.elim h
 | ref a=>cases y with
  | ref b =>
   obtain ⟨ns,ms,ha,hb,q⟩:=h
   cases rx
   cases ry
   obtain ⟨its,r1,p1,_⟩:=I.list ha
   obtain ⟨its2,r2,p2,_⟩:=I.list hb
   exact ge_lists p1.isList p2.isList (intsAre_of r1) (intsAre_of r2) hu ⟨.bl (lexGe ns ms),H,I,rfl,q⟩
  | _=>exact False.elim h
 | _=>exact False.elim h
end
theorem seq_go {t u:TS}{D:Ends}{σ:St}{H:Hp} (h:∀ nn:TS,nn=u->t { D with nx:=fun σ' H'=>nn D σ' H' } σ H):tSeq t u D σ H:=h u rfl
theorem for_rngO {lo:Int}{n:Nat}{g:TG}{tb:TS}{D:Ends}{σ:St}{H:Hp} (Pv:Nat->St->Hp->Prop) (h0:Pv 0 σ H)
  (hs:∀ i σ H,i < n->Pv i σ H->∀ N:St->Hp->Prop,(∀ σ' H',Pv (i + 1) σ' H'->N σ' H')->g (.int (lo + i)) σ H fun σ2 H2=>tb { D with nx:=N,ct:=N,bk:=D.nx } σ2 H2) (hd:∀ σ H,Pv n σ H->D.nx σ H):ForTurns g tb D (Itr lo n) σ H :=
 for_rng Pv h0 (fun i σ H hi hp=>hs i σ H hi hp _ fun _ _ h=>h) hd
theorem for_lstO {K:PySem.W.Frag}{a:Addr}{xs:List V}{g:TG}{tb:TS}{D:Ends}{σ:St}{H:Hp} (Pv:Nat->St->Hp->Prop) (h0:Pv 0 σ H) (hl:∀ i σ H,i<=xs.length->Pv i σ H->SqL K H a xs)
  (hs:∀ i x σ H,xs[i]?=some x->Pv i σ H->∀ N:St->Hp->Prop,(∀ σ' H',Pv (i + 1) σ' H'->N σ' H')->g x σ H fun σ2 H2=>tb { D with nx:=N,ct:=N,bk:=D.nx } σ2 H2) (hd:∀ σ H,Pv xs.length σ H->D.nx σ H):ForTurns g tb D (Itl K a) σ H :=
 for_lst Pv h0 hl (fun i x σ H hi hp=>hs i x σ H hi hp _ fun _ _ h=>h) hd
end L2

namespace Mk
end Mk

namespace Mk
def splitL (c:Nat):List Nat->List (List Nat)
 | []=>[[]]
 | a::l=>if a=c then []::splitL c l else match splitL c l with
  | []=>[[a]]
  | w::ws=>(a::w)::ws
def joinL (c:Nat):List (List Nat)->List Nat
 | []=>[]
 | [w]=>w
 | w::v::ws=>w++c::joinL c (v::ws)
theorem split_join_cons {c:Nat}:∀ (w l:List Nat),c ∉ w->splitL c (w++c::l)=w::splitL c l
 | [],l,_=>by simp [splitL]
 | a::w,l,h=>by
  have ha:a≠c:=fun e=>h (by rw [e];exact List.mem_cons_self)
  have ih:=split_join_cons w l fun hc=>h (List.mem_cons_of_mem _ hc)
  show (if a=c then _ else match splitL c (w++c::l) with | []=>[[a]] | w::ws=>(a::w)::ws)=_
  rw [if_neg ha,ih]
theorem split_one {c:Nat}:∀ (w:List Nat),c ∉ w->splitL c w=[w]
 | [],_=>rfl
 | a::w,h=>by
  have ha:a≠c:=fun e=>h (by rw [e];exact List.mem_cons_self)
  have ih:=split_one w fun hc=>h (List.mem_cons_of_mem _ hc)
  show (if a=c then _ else match splitL c w with | []=>[[a]] | w::ws=>(a::w)::ws)=_
  rw [if_neg ha,ih]
theorem split_joinL {c:Nat}:∀ (ws:List (List Nat)),ws≠[]->(∀ w∈ws,c ∉ w)->splitL c (joinL c ws)=ws
 | [],h,_=>absurd rfl h
 | [w],_,h=>split_one w (h w List.mem_cons_self)
 | w::v::ws,_,h=>by
  show splitL c (w++c::joinL c (v::ws))=_
  rw [split_join_cons w _ (h w List.mem_cons_self),split_joinL (v::ws) (by simp) fun x hx=>h x (List.mem_cons_of_mem _ hx)]
theorem splitL_mem {c:Nat}:∀ (l:List Nat),(splitL c l).length<=l.length + 1/\∀ w∈splitL c l,w.length<=l.length
 | []=>by simp [splitL]
 | a::l=>by
  obtain ⟨h1,h2⟩:=splitL_mem (c:=c) l
  have e:splitL c (a::l)=if a=c then []::splitL c l else match splitL c l with | []=>[[a]] | w::ws=>(a::w)::ws:=rfl
  by_cases ha:a=c
  ·rw [e,if_pos ha,List.length_cons,List.length_cons]
   refine ⟨by omega,fun w hw=>?_⟩
   rcases List.mem_cons.mp hw with rfl | hw
   ·exact Nat.zero_le _
   ·have:=h2 w hw;omega
  ·rw [e,if_neg ha,List.length_cons]
   cases hs:splitL c l with
   | nil=>exact ⟨by simp,fun w hw=>by rw [List.mem_singleton.mp hw];simp⟩
   | cons v vs =>
    rw [hs] at h1 h2
    refine ⟨by simp only [List.length_cons] at h1 ⊢;omega,fun w hw=>?_⟩
    rcases List.mem_cons.mp hw with rfl | hw
    ·have:=h2 v List.mem_cons_self
     rw [List.length_cons];omega
    ·have:=h2 w (List.mem_cons_of_mem _ hw);omega
theorem joinL_len {c:Nat}:∀ (ws:List (List Nat)),(joinL c ws).length<=(ws.map fun w=>w.length + 1).sum
 | []=>by simp [joinL]
 | [w]=>by simp [joinL]
 | w::v::ws=>by
  have ih:=joinL_len (c:=c) (v::ws)
  show (w++c::joinL c (v::ws)).length<=_
  rw [List.length_append,List.length_cons,List.map_cons,List.sum_cons]
  omega
end Mk
namespace L2
open PySem PySem.Spec PyProof.Rows
theorem strjoin_tx (c:Nat):∀ (ls:List (List Nat)),(tx [c]).join (ls.map tx)=tx (Mk.joinL c ls)
 | []=>rfl
 | [w]=>by rfl
 | w::v::ws=>by
  have ih:=strjoin_tx c (v::ws)
  show tx w++tx [c]++(tx [c]).join ((v::ws).map tx)=tx (w++c::Mk.joinL c (v::ws))
  rw [ih,tx_app,tx_app,List.append_assoc]
  rfl
theorem tx_map (ls:List Str):(ls.map fun z=>z.cps.toList).map tx=ls:=by
 rw [List.map_map]
 conv=>rhs;rw [← List.map_id ls]
 exact List.map_congr_left fun z _=>tx_of z
theorem split_tx (l:List Nat) (c:Nat):Txt.split (tx l) (tx [c])=(Mk.splitL c l).map tx:=by
 have h1:=StrLaws.join_split (tx l) (tx [c])
 have h2:∀ p∈Txt.split (tx l) (tx [c]),c ∉ p.cps.toList:=fun p hp=>StrLaws.split_free (tx l) c p hp
 have h3:=PyProof.Rows.split_pos (tx l) (tx [c])
 generalize Txt.split (tx l) (tx [c])=ps at h1 h2 h3
 rw [← tx_map ps] at h1 ⊢
 rw [strjoin_tx] at h1
 rw [← tx_inj h1,Mk.split_joinL]
 ·intro e
  have:=congrArg List.length e
  simp at this
  rw [this] at h3
  simp at h3
 ·intro w hw
  obtain ⟨p,hp,rfl⟩:=List.mem_map.mp hw
  exact h2 p hp
theorem txjoin_tx (c:Nat) (ls:List (List Nat)):Txt.join (tx [c]) (ls.map tx)=tx (Mk.joinL c ls):=by
 have go:∀ (r:List (List Nat)) (acc:List Nat),(r.map tx).foldl (fun acc p=>acc++(tx [c]).cps++p.cps) acc.toArray=(acc++(r.map fun w=>c::w).flatten).toArray:=by
  intro r
  induction r with
  | nil=>intro acc;simp
  | cons a r ih =>
   intro acc
   rw [List.map_cons,List.foldl_cons]
   have e:acc.toArray++(tx [c]).cps++(tx a).cps=(acc++c::a).toArray:=by simp [tx]
   rw [e,ih]
   simp
 have jl:∀ (a:List Nat) (r:List (List Nat)),Mk.joinL c (a::r)=a++(r.map fun w=>c::w).flatten:=by
  intro a r
  induction r generalizing a with
  | nil=>simp [Mk.joinL]
  | cons b r ih =>
   show a++c::Mk.joinL c (b::r)=_
   rw [ih b]
   simp
 unfold Txt.join Builtin.Str.glued
 cases ls with
 | nil=>rfl
 | cons a r =>
  have:=go r a
  show Str.mk ((r.map tx).foldl (fun acc p=>acc++(tx [c]).cps++p.cps) a.toArray)=tx (Mk.joinL c (a::r))
  rw [this,jl]
  rfl
def rSplit:V->List V->Hp->VK->Prop:=fun x vs H Q=>match x,vs with
 | .str z,[.str y]=>z.length<=100000/\∃ c,y=tx [c]/\nw H (.lst ((Mk.splitL c z.cps.toList).map fun w=>.str (tx w))) Q
 | _,_=>False
theorem vals_strs:∀ (l:List (Str × Tok)),Vals ((l.map fun p=>p.1).map V.str) (strValues l)
 | []=>.nil
 | p::l=>.cons ⟨p.2,rfl⟩ (vals_strs l)
theorem split_call {prog:Program}{w:World}{A:Around}{E:Value->Shared->Prop}{s:Shared}{x y:Str}{t u:Tok}{Q:Value->Shared->Prop} (hy:(y.length == 0)=false) (hsz:x.length + 2<=sizeLine)
  (h:∀ (l:List (Str × Tok)) (k:Nat),l.map (fun p=>p.1)=Txt.split x y->Q (.ref s.heap.objs.size) { s with heap:=s.heap.push { cls:=.type "list",data:=.seq (strValues l).toArray },toks:=k }) :
  wpAny (model prog w) A (call (.builtin "str.split") [.str x t,.str y u]) Q E s:=by
 have ex:Txt.split x y=if (decide (x.length < y.length) || decide (Builtin.Str.strKind x < Builtin.Str.strKind y))=true then [x] else if (Builtin.Str.occurrences x y 0 x.length (x.length + 1)).isEmpty=true then [x] else Builtin.Str.partsBetween x (Builtin.Str.occurrences x y 0 x.length (x.length + 1)) y.length:=rfl
 cases h1:(decide (x.length < y.length) || decide (Builtin.Str.strKind x < Builtin.Str.strKind y)) with
 | true =>
  rw [h1,if_pos rfl] at ex
  refine call_meets F.slot_str_split (typeIs_str s x t) F.entry_str_split (F.args_str_split_2 (Value.str x t) (Value.str y u)) (meets_str_split_cannot_occur x y t u h1) ?_
  exact h [(x,_)] _ ex.symm
 | false =>
  rw [h1,if_neg (by decide)] at ex
  cases hf:(Builtin.Str.occurrences x y 0 x.length (x.length + 1)).isEmpty with
  | true =>
   rw [hf,if_pos rfl] at ex
   refine call_meets F.slot_str_split (typeIs_str s x t) F.entry_str_split (F.args_str_split_2 (Value.str x t) (Value.str y u)) (meets_str_split_not_found x y t u h1 hy hf) ?_
   exact h [(x,_)] _ ex.symm
  | false =>
   rw [hf,if_neg (by decide)] at ex
   have hl:=PyProof.Rows.split_le x y
   rw [ex] at hl
   refine call_meets F.slot_str_split (typeIs_str s x t) F.entry_str_split (F.args_str_split_2 (Value.str x t) (Value.str y u)) (meets_str_split_sep x y t u h1 hy hf (by omega) (by omega)) ?_
   show Q _ _
   rw [strsFrom_eq]
   exact h _ _ ((numbered_texts _ _).trans ex.symm)
theorem mt_split {X:Cx}:MtM X "str.split" rSplit:=by
 intro pins s σ H x vs v us Q I rx rv h
 match x,vs,h with
 | .str z,[.str y],h =>
  obtain ⟨hz,c,rfl,q⟩:=h
  obtain ⟨t,rfl⟩:=rx
  obtain ⟨u,rfl,ru⟩:=rv.one
  obtain ⟨t2,rfl⟩:=ru
  have hb:z.length + 2<=sizeLine:=by rw [sizeLine_eq];omega
  refine split_call rfl hb fun l k e=>?_
  have e2:l.map (fun p=>p.1)=(Mk.splitL c z.cps.toList).map tx:=by rw [e,← split_tx,tx_of]
  have hl:(strValues l).length<=z.length + 2:=by
   have:=PyProof.Rows.split_le z (tx [c])
   rw [← e,List.length_map] at this
   rw [show (strValues l).length=l.length from List.length_map ..]
   exact this
  have r:=vals_strs l
  rw [e2,List.map_map] at r
  refine ⟨.ref s.heap.objs.size,_,I.laid (t':=k) (o:=.lst ((Mk.splitL c z.cps.toList).map fun w=>.str (tx w))) (fun b ob q=>Heap.get?_push_of_some _ q) (Nat.le_refl _) ?_,rfl,q.go _ (I.hok.fresh (Nat.le_refl _))⟩
  refine ⟨?_,_,0,r,Heap.get?_push_size _ rfl⟩
  have:=r.length
  rw [show ((Mk.splitL c z.cps.toList).map fun w=>V.str (tx w))=(Mk.splitL c z.cps.toList).map (V.str ∘ tx) from rfl,this]
  omega
def rMulS:R2:=fun x y H Q=>match x,y with
 | .int i,.int j=>(i.natAbs < 2 ^ 60 ∨ j.natAbs < 2 ^ 60)/\Q (.int (i * j)) H
 | _,_=>False
theorem op_mulS {X:Cx}:OpR X (binaryOp .Mult) rMulS:=by
 intro pins s σ H x y v u Q I rx ry h
 cases x with
 | int i=>cases y with
  | int j =>
   refine (opI (X:=X) (f:=binaryOp .Mult) (C:=fun i j=>i.natAbs < 2 ^ 60 ∨ j.natAbs < 2 ^ 60) (g:=fun i j=>i * j) fun i j _ _ _ _ _ hc q=>mul_int q ?_) pins s σ H _ _ v u Q I rx ry ⟨_,_,rfl,rfl,h.1,h.2⟩
   rcases hc with hc | hc
   ·exact IntMulOk.of_left (Nat.le_trans (intBits_le_iff.mpr hc) (by decide))
   ·exact IntMulOk.of_right (Nat.le_trans (intBits_le_iff.mpr hc) (by decide))
  | _=>exact False.elim h
 | _=>exact False.elim h
end L2

namespace L2
open PySem PySem.Spec PyProof.Rows
theorem ev_rAddX_1 {i j}{H:Hp}{Q:VK}:rAddX (.int i) (.int j) H Q=(Q (.int (i + j)) H):=propext Iff.rfl
theorem ev_rAddX_2 {a b}{H:Hp}{Q:VK}:rAddX (.str a) (.str b) H Q=(a.length + b.length<=sizeLine/\Q (.str (a++b)) H):=propext Iff.rfl
theorem ev_rAddX_3 {l b}{H:Hp}{Q:VK}:rAddX (.ref l) (.ref b) H Q=(∃ xs zs,H l=some (.lst xs)/\H b=some (.lst zs)/\xs.length + zs.length<=sizeLine/\nw H (.lst (xs++zs)) Q):=propext Iff.rfl
theorem ev_rSubX_1 {i j}{H:Hp}{Q:VK}:rSubX (.int i) (.int j) H Q=(Q (.int (i - j)) H):=propext Iff.rfl
theorem ev_rMulX_1 {i j}{H:Hp}{Q:VK}:rMulX (.int i) (.int j) H Q=(CBig i j/\Q (.int (i * j)) H):=propext Iff.rfl
theorem ev_rFdivX_1 {i j}{H:Hp}{Q:VK}:rFdivX (.int i) (.int j) H Q=((0 < j/\j < 2 ^ 1000)/\Q (.int (i / j)) H):=propext Iff.rfl
theorem ev_rModX_1 {i j}{H:Hp}{Q:VK}:rModX (.int i) (.int j) H Q=(0 < j/\Q (.int (i % j)) H):=propext Iff.rfl
theorem ev_rPowX_1 {i j}{H:Hp}{Q:VK}:rPowX (.int i) (.int j) H Q=((0<=j/\j<=1000000/\i.natAbs < 2 ^ 64)/\Q (.int (i ^ j.toNat)) H):=propext Iff.rfl
theorem ev_rCmpX_1 {f:Int->Int->Bool}{i j}{H:Hp}{Q:VK}:rCmpX f (.int i) (.int j) H Q=(Q (.bl (f i j)) H):=propext Iff.rfl
theorem ev_rGeL_1 {K:PySem.W.Frag}{i j}{H:Hp}{Q:VK}:rGeL K (.int i) (.int j) H Q=(Q (.bl (decide (j<=i))) H):=propext Iff.rfl
theorem ev_rEqX_1 {K:PySem.W.Frag}{i j}{H:Hp}{Q:VK}:rEqX K (.int i) (.int j) H Q=(Q (.bl (decide (i=j))) H):=propext Iff.rfl
theorem ev_rEqX_3 {K:PySem.W.Frag}{i j}{H:Hp}{Q:VK}:rEqX K (.str i) (.str j) H Q=(Q (.bl (decide (i=j))) H):=propext Iff.rfl
theorem ev_rEqX_4 {K:PySem.W.Frag}{a b}{H:Hp}{Q:VK}:rEqX K (.ref a) (.ref b) H Q=(∃ xs ys,SqL K H a xs/\SqL K H b ys/\xs.all flatV=true/\ys.all flatV=true/\Q (.bl (eqVs xs ys)) H):=propext Iff.rfl
theorem ev_rNeX_1 {K:PySem.W.Frag}{i j}{H:Hp}{Q:VK}:rNeX K (.int i) (.int j) H Q=(Q (.bl (!decide (i=j))) H):=propext Iff.rfl
theorem ev_rNeX_3 {K:PySem.W.Frag}{i j}{H:Hp}{Q:VK}:rNeX K (.str i) (.str j) H Q=(Q (.bl (!decide (i=j))) H):=propext Iff.rfl
theorem ev_rNeX_4 {K:PySem.W.Frag}{a b}{H:Hp}{Q:VK}:rNeX K (.ref a) (.ref b) H Q=(∃ xs ys,SqL K H a xs/\SqL K H b ys/\xs.all flatV=true/\ys.all flatV=true/\Q (.bl (!eqVs xs ys)) H):=propext Iff.rfl
theorem ev_rIxX_1 {K:PySem.W.Frag}{p i}{H:Hp}{Q:VK}:rIxX K (.ref p) (.int i) H Q=(∃ xs v,Sq K H p xs/\atI xs i=some v/\Q v H):=propext Iff.rfl
theorem ev_rIxX_2 {K:PySem.W.Frag}{z i}{H:Hp}{Q:VK}:rIxX K (.str z) (.int i) H Q=(z.length<=sizeLine/\∃ c,atI z.cps.toList i=some c/\Q (.str ⟨#[c]⟩) H):=propext Iff.rfl
theorem ev_rLenX_1 {K:PySem.W.Frag}{z}{H:Hp}{Q:VK}:rLenX K [.str z] H Q=(z.length<=sizeLine/\Q (.int z.length) H):=propext Iff.rfl
theorem ev_rLenX_2 {K:PySem.W.Frag}{p}{H:Hp}{Q:VK}:rLenX K [.ref p] H Q=(∃ xs,Sq K H p xs/\Q (.int xs.length) H):=propext Iff.rfl
theorem ev_rAbsX_1 {i}{H:Hp}{Q:VK}:rAbsX [.int i] H Q=(Q (.int (i.natAbs:Int)) H):=propext Iff.rfl
theorem ev_rListX_1 {K:PySem.W.Frag}{a}{H:Hp}{Q:VK}:rListX K [.ref a] H Q=(∃ ys,(Sq K H a ys ∨ ∃ lo hi,H a=some (.rng lo hi)/\(-(2 ^ 62)<=lo/\lo < 2 ^ 62/\-(2 ^ 62)<=hi/\hi < 2 ^ 62)/\(hi - lo).toNat<=2 ^ 20/\ys=rngV lo (hi - lo).toNat)/\nw H (.lst ys) Q):=propext Iff.rfl
theorem ev_rIsiC_1 {c:Tg}{x n}{H:Hp}{Q:VK}:rIsiC c [x,.ty n] H Q=(n=c.name/\∃ t,tagV H x=some t/\Q (.bl (t.sub c)) H):=propext Iff.rfl
theorem ev_rSlY_1 {K:PySem.W.Frag}{a}{lo}{hi}{H:Hp}{Q:VK}:rSlY K (.ref a) lo hi H Q=(∃ xs,SqL K H a xs/\nw H (.lst (cutV xs lo hi)) Q):=propext Iff.rfl
theorem ev_rSlY_2 {K:PySem.W.Frag}{z}{lo}{hi}{H:Hp}{Q:VK}:rSlY K (.str z) lo hi H Q=(z.length<=sizeLine/\Q (.str (tx (cutN z.cps.toList lo hi))) H):=propext Iff.rfl
theorem ev_rInsert_1 {l i y}{H:Hp}{Q:VK}:rInsert (.ref l) [.int i,y] H Q=(∃ xs,H l=some (.lst xs)/\0<=i/\i < 2 ^ 62/\xs.length < sizeLine/\Q .non (upd H l (.lst (xs.take i.toNat++y::xs.drop i.toNat)))):=propext Iff.rfl
theorem ev_rIndexS_1 {z y}{H:Hp}{Q:VK}:rIndexS (.str z) [.str y] H Q=(0<=Txt.find z y/\Q (.int (Txt.find z y)) H):=propext Iff.rfl
theorem ev_rJoinS_1 {K:PySem.W.Frag}{z p}{H:Hp}{Q:VK}:rJoinS K (.str z) [.ref p] H Q=(∃ ys:List Str,SqL K H p (ys.map V.str)/\(ys.map (·.length)).sum + ys.length * z.length<=16777216/\Q (.str (Txt.join z ys)) H):=propext Iff.rfl
theorem ev_rSplit_1 {z y}{H:Hp}{Q:VK}:rSplit (.str z) [.str y] H Q=(z.length<=100000/\∃ c,y=tx [c]/\nw H (.lst ((Mk.splitL c z.cps.toList).map fun w=>.str (tx w))) Q):=propext Iff.rfl
theorem ev_rMulS_1 {i j}{H:Hp}{Q:VK}:rMulS (.int i) (.int j) H Q=((i.natAbs < 2 ^ 60 ∨ j.natAbs < 2 ^ 60)/\Q (.int (i * j)) H):=propext Iff.rfl
theorem ev_rSetS_1 {P:Program}{w:World}{z}{H:Hp}{Q:VK}:rSetS P w [.str z] H Q=(z.length<=4000/\∀ p H',H p=none->Same H H'->H' p=some (setT P w p (metK (valT z) z.length))->Q (.ref p) H'):=propext Iff.rfl
theorem ev_rLenT_1 {P:Program}{w:World}{p}{H:Hp}{Q:VK}:rLenT P w [.ref p] H Q=(∃ l,H p=some (setT P w p l)/\Q (.int l.length) H):=propext Iff.rfl
theorem ev_iSeqV_1 {K:PySem.W.Frag}{a:Addr}{H:Hp}{R:It->Hp->Prop}:iSeqV K (.ref a) H R=(((∃ xs,SqL K H a xs)/\R (Itl K a) H) ∨ ((∃ xs,SqT K H a xs)/\R (Itt K a) H)):=propext Iff.rfl
theorem ev_iSeqV_2 {K:PySem.W.Frag}{z:Str}{H:Hp}{R:It->Hp->Prop}:iSeqV K (.str z) H R=R (Itx z) H:=propext Iff.rfl
end L2

namespace L2
open PySem PySem.Spec PyProof.Rows
def Ite (K:PySem.W.Frag) (a:Addr):It :=
 ⟨fun i H=>∃ xs x,SqL K H a xs/\xs[i]?=some x,
  fun i H v H'=>∃ x p,(∀ xs,SqL K H a xs->xs[i]?=some x)/\v=.ref p/\H p=none/\H'=upd H p (.tup [.int (i:Int),x]),
  fun i H=>∃ xs,SqL K H a xs/\xs.length<=i⟩
theorem enum_obj {h:Heap}{a e it:Addr}{i:Nat} (st:(∃ old,IsEnum h e it (i:Int) old)/\h.IsListIter it a i):∀ c∈[e,it],∃ o,h.get? c=some o/\∀ v,o.data≠.cell v:=fun c hc=>by
 obtain ⟨⟨old,he⟩,⟨o1,e1,c1,d1⟩⟩:=st
 simp only [List.mem_cons,List.not_mem_nil,or_false] at hc
 rcases hc with rfl | rfl
 ·exact ⟨_,he,fun v q=>by have q':Data.fields _=Data.cell v:=q;cases q'⟩
 ·exact ⟨o1,e1,fun v q=>by rw [d1] at q;cases q⟩
theorem turn_enum {P:Program}{w:World}{K:PySem.W.Frag}{elts:List Expr}{k:Nat}{pos:Pos} (a e it:Addr) (D:e≠it):Turn P w K (.Tuple elts k pos) (Ite K a) [e,it] e
  (fun i h=>(∃ old,IsEnum h e it (i:Int) old)/\h.IsListIter it a i) where
 mem:=by simp
 obj:=fun i h st=>enum_obj st
 keep:=fun i h h' st k=>by
  obtain ⟨⟨old,he⟩,h1⟩:=st
  exact ⟨⟨old,k e (by simp) _ he⟩,h1.at fun o e=>k it (by simp) o e⟩
 item:=by
  intro X hP hw hK hc i pins s σ H E I hf st hg
  subst hP hw hK
  obtain ⟨xs,x,hx,ex⟩:=hg
  obtain ⟨us,r1,p1,_⟩:=I.list hx
  obtain ⟨u,hu,ru⟩:=r1.get ex
  obtain ⟨⟨old,he⟩,h1⟩:=id st
  refine wpAny_pyNext_enum_item he h1 p1.isList (x:=u) (by simpa using hu) D fun h' a1 a2 a3 a4 a5=>?_
  refine ⟨_,rfl,wpAny_letOwnedTupleGo_enum (s:={ s with heap:=h',toks:=s.toks + 1 }) a1 fun h'' b1 b2=>?_⟩
  have b2':Heap.SameBut e h' h'':=b2
  have ne:∀ c∈[e,it],c < s.heap.objs.size:=fun c hc=>by
   obtain ⟨o,e,_⟩:=enum_obj st c hc
   exact Heap.lt_size e
  have kk:∀ c o,c ∉ [e,it]->s.heap.get? c=some o->h''.get? c=some o:=fun c o hc e=>by
   simp only [List.mem_cons,List.not_mem_nil,or_false,not_or] at hc
   exact (b2'.2 c hc.1).trans (a5 c o hc.1 hc.2 e)
  have hT:h''.get? s.heap.objs.size=some { cls:=.type "tuple",data:=.seq #[.int (i:Int) s.toks,u] }:=(b2'.2 _ (Nat.ne_of_gt (ne e (by simp)))).trans a3
  have I1:Inv X pins σ (upd H s.heap.objs.size (.tup [.int (i:Int),x])) { s with heap:=h'',toks:=s.toks + 1 }:=by
   refine I.turnNew (t':=s.toks + 1) (ch:=[e,it]) hf kk (fun c o ee=>?_) (Nat.le_refl _) (show ObjOk X.prog X.w _ h'' _ (.tup [.int (i:Int),x]) from ⟨by show 2<=sizeLine;decide,[.int (i:Int) s.toks,u],.cons ⟨_,rfl⟩ (.cons ru .nil),⟨_,hT,rfl,_,rfl⟩⟩)
   by_cases hc:c∈[e,it]
   ·simp only [List.mem_cons,List.not_mem_nil,or_false] at hc
    rcases hc with rfl | rfl
    ·exact ⟨_,b1⟩
    ·obtain ⟨o1,e1,_⟩:=a2;exact ⟨_,(b2'.2 _ (Ne.symm D)).trans e1⟩
   ·exact ⟨_,kk c o hc ee⟩
  refine ⟨.ref s.heap.objs.size,_,I1,rfl,⟨x,_,fun zs hz=>by rw [I.list_inj hz hx];exact ex,rfl,I.hok.fresh (Nat.le_refl _),rfl⟩,⟨⟨_,by have:=b1;rw [show ((i + 1:Nat):Int)=(i:Int) + 1 from rfl];exact this⟩,a2.at fun o e=>(b2'.2 _ (Ne.symm D)).trans e⟩,fun c hc=>?_⟩
  rw [upd_ne (Nat.ne_of_lt (ne c hc))];exact (hf c hc).1
 done:=by
  intro X hP hw hK hc i pins s σ H E I hf st hg
  subst hP hw hK
  obtain ⟨xs,hx,hl⟩:=hg
  obtain ⟨us,r1,p1,_⟩:=I.list hx
  obtain ⟨⟨old,he⟩,h1⟩:=id st
  have l1:=r1.length
  refine wpAny_pyNext_enum_end (I.ok.hd hc) he h1 p1.isList (by simp;omega) fun h' kk=>⟨rfl,I.turnL (t':=s.toks) (ch:=[e,it]) hf fun c o hc e=>?_⟩
  simp only [List.mem_cons,List.not_mem_nil,or_false,not_or] at hc
  exact kk c o hc.2 e
 self:=fun _ _ _ _ _ st h=>by
  obtain ⟨⟨old,he⟩,_⟩:=st
  exact wpAny_pyIter_enum he h
section
variable {X:Cx}
def iEnum (K:PySem.W.Frag) (ta:TA):TI:=fun σ H R=>ta σ H fun vs H1=>∃ a,vs=[.ref a]/\(∃ xs,SqL K H1 a xs)/\R (Ite K a) H1
theorem ap_iEnum {K:PySem.W.Frag}{ta:TA}{σ:St}{H:Hp}{R:It->Hp->Prop}:iEnum K ta σ H R=ta σ H fun vs H1=>∃ a,vs=[.ref a]/\(∃ xs,SqL K H1 a xs)/\R (Ite K a) H1:=propext Iff.rfl
theorem pi_enum {elts:List Expr}{k:Nat}{tpos:Pos}{a:Expr}{ta:TA}{p pos:Pos} (hg:Gl X "enumerate") (hm:X.mg "enumerate"=none) (ha:PA X [a] ta) (hs:starEach [a] X.env=[(false,eval a X.env)]:=by rfl) :
  PI X (.Tuple elts k tpos) (.Call (.Name "enumerate" p) [a] [] pos) (iEnum X.K ta):=by
 intro pins s σ H R I h
 refine Call_ (ld_blt I hg hm bt_enumerate (PyProof.Rows.callWith_type1 (thn (ha pos pins s σ H _ I h) fun us s1 ⟨vs,H1,I1,r1,q1⟩=>?_) hs (by rfl)))
 obtain ⟨l1,e,⟨xs,hx⟩,q⟩:=q1
 subst e
 cases r1 with
 | cons r rr =>
  cases rr
  cases r
  obtain ⟨us,_,p1,_⟩:=I1.list hx
  refine call_enumerate_list p1.isList fun h' he hi hsz hk=>wpAny_pyIter_enum (s:={ s1 with heap:=h' }) he ?_
  have I2:Inv X pins σ H1 { s1 with heap:=h' }:=I1.kept (t':=s1.toks) hk
  refine ⟨_,[s1.heap.objs.size + 1,s1.heap.objs.size],_,_,H1,rfl,I2,turn_enum l1 (s1.heap.objs.size + 1) s1.heap.objs.size (Nat.succ_ne_self _),⟨⟨_,he⟩,hi⟩,fun c hc=>?_,q⟩
  have hle:s1.heap.objs.size<=c:=by
   simp only [List.mem_cons,List.not_mem_nil,or_false] at hc
   rcases hc with rfl | rfl <;> omega
  exact I1.fpOk hle (I1.hok.fresh hle)
theorem pi_enumG {K:PySem.W.Frag}{elts:List Expr}{k:Nat}{tpos:Pos}{a:Expr}{ta:TA}{p pos:Pos} (hK:X.K=K) (hm:X.mg "enumerate"=none) (ha:PA X [a] ta) (hg:X.env.kindOf "enumerate"=some .globalImplicit:=by kernel_rfl) (hs:noStar a=true:=by kernel_rfl) :
  PI X (.Tuple elts k tpos) (.Call (.Name "enumerate" p) [a] [] pos) (iEnum K ta):=hK ▸ pi_enum hg hm ha (starEach_cons hs)
end
theorem for_enumO {K:PySem.W.Frag}{a:Addr}{xs:List V}{g:TG}{tb:TS}{D:Ends}{σ:St}{H:Hp} (Pv:Nat->St->Hp->Prop) (h0:Pv 0 σ H) (hl:∀ i σ H,i<=xs.length->Pv i σ H->SqL K H a xs)
  (hs:∀ i x σ H,xs[i]?=some x->Pv i σ H->∀ N:St->Hp->Prop,(∀ σ' H',Pv (i + 1) σ' H'->N σ' H')->∀ p H',H p=none->Same H H'->H' p=some (.tup [.int (i:Int),x])->g (.ref p) σ H' fun σ2 H2=>tb { D with nx:=N,ct:=N,bk:=D.nx } σ2 H2) (hd:∀ σ H,Pv xs.length σ H->D.nx σ H):ForTurns g tb D (Ite K a) σ H:=by
 refine ⟨fun i m σ H=>i + m=xs.length/\Pv i σ H,⟨xs.length,by omega,h0⟩,fun i m σ H hw=>?_⟩
 obtain ⟨e,hp⟩:=hw
 have hL:=hl i σ H (by omega) hp
 by_cases hm:m=0
 ·subst hm
  have:i=xs.length:=by omega
  subst this
  exact .inl ⟨⟨xs,hL,Nat.le_refl _⟩,hd σ H hp⟩
 ·have hi:xs[i]?=some xs[i]:=List.getElem?_eq_getElem (by omega)
  refine .inr ⟨⟨xs,_,hL,hi⟩,Pv (i + 1),fun σ' H' n=>⟨m - 1,by omega,by omega,n⟩,fun v H' hy=>?_⟩
  obtain ⟨x,p,h1,rfl,h2,rfl⟩:=hy
  have hx:=h1 xs hL
  exact hs i x σ H hx hp _ (fun _ _ h=>h) p _ h2 (same_upd h2) upd_same
section
variable {X:Cx}{tg:Expr}
end
section
variable {X:Cx}
theorem ap_dget {td ty:TE}{σ:St}{H:Hp}{Q:VK}:tDGet td ty σ H Q=td σ H fun x H1=>ty σ H1 fun y H2=>∃ a v,x=.ref a/\DGet H2 a y (some v)/\Q v H2:=propext Iff.rfl
theorem ap_dget1 {td ty:TE}{σ:St}{H:Hp}{Q:VK}:tDGet1 td ty σ H Q=td σ H fun x H1=>∃ a,x=.ref a/\IsD H1 a/\ty σ H1 fun y H2=>∃ o,DGet H2 a y o/\Q (o.getD .non) H2:=propext Iff.rfl
theorem pe_dgetG {o i:Expr}{td ty:TE}{pos:Pos} (hu:X.A.units + 1 < cLine) (ho:PE X o td) (hi:PE X i ty) (hs:NoSl i:=by exact fun _ _=>rfl):PE X (.Subscript o i pos) (tDGet td ty):=pe_dget hu ho hi hs
theorem pe_dget1G {o e:Expr}{td ty:TE}{apos cpos:Pos} (hu:X.A.units + 1 < cLine) (ho:PE X o td) (he:PE X e ty) (hbase:attributeBase o "get" X.env (eval o X.env)=eval o X.env:=by kernel_rfl) (hs:noStars [e]=true:=by kernel_rfl)
  (hline:(apos.endLine == cpos.line)=true:=by kernel_rfl) (htr:backTo cpos (starEach [e] X.env)=[(false,eval e X.env)]:=by rfl):PE X (.Call (.Attribute o "get" apos) [e] [] cpos) (tDGet1 td ty):=by
 refine pe_dget1 hu ho he ⟨hbase,?_,hline,htr⟩
 rw [backTo_all hs]
 rfl
end
end L2

namespace Mk
end Mk

namespace L2
open PySem PySem.Spec PyProof.Rows
def leafV:V->Bool
 | .ref _=>true
 | x=>flatV x
theorem eqV_refl:∀ {x:V},flatV x=true->eqV x x=true
 | .non,_=>rfl
 | .bl b,_=>by show (b == b)=true;simp
 | .int i,_=>by show (i == i)=true;simp
 | .str z,_=>by show (z == z)=true;simp
theorem eqAt_leaf {A:Around}{s:Shared}{x:V}{u v:Value} (ru:RelV x u) (rv:RelV x v) (h:leafV x=true):SeqAt.EqAt A s u v true:=by
 cases x with
 | ref a=>cases ru;cases rv;exact SeqAt.EqAt.same _
 | non=>have:=eqAt_V (A:=A) (s:=s) ru rv rfl rfl;rwa [eqV_refl rfl] at this
 | bl b=>have:=eqAt_V (A:=A) (s:=s) ru rv rfl rfl;rwa [eqV_refl rfl] at this
 | int b=>have:=eqAt_V (A:=A) (s:=s) ru rv rfl rfl;rwa [eqV_refl rfl] at this
 | str b=>have:=eqAt_V (A:=A) (s:=s) ru rv rfl rfl;rwa [eqV_refl rfl] at this
 | _=>cases h
theorem getD_vals {xs:List V}{us:List Value} (r:Vals xs us) {j:Nat} (h:j < us.toArray.size):∃ x,xs[j]?=some x/\RelV x us.toArray[j]:=by
 have l:=r.length
 rw [List.size_toArray] at h
 have e1:xs[j]?=some (xs[j]'(by omega)):=List.getElem?_eq_getElem _
 obtain ⟨u,hu,ru⟩:=r.get e1
 refine ⟨_,e1,?_⟩
 have:us.toArray[j]=u:=by
  have:=List.getElem?_eq_some_iff.mp hu
  simpa using this.2
 rw [this];exact ru
section
variable {X:Cx}
end
theorem lc_newT {J:It}{H1:Hp}{xs:List V}{js:List Nat}{σ:St}{tc:TT}{te:TE}{Q:VK} (hc:∀ σ H R,R true H->tc σ H R) (hJ:J.Seq H1 xs) (hl:xs.length < sizeLine) (G:HO->Prop) (hG:∀ ys,¬ G (.lst ys))
  (he:∀ x∈xs,∀ H,Same H1 H->∀ R:VK,(∀ p o H',Same H H'->H' p=some o->G o->R (.ref p) H')->te (some x::js.map fun j=>(σ[j]?).join) H R)
  (q:∀ D vs H,H1 D=none->Same H1 H->H D=some (.lst vs)->vs.length=xs.length->(∀ v∈vs,∃ p o,v=.ref p/\H p=some o/\G o)->Q (.ref D) H):LcTurns (gName 0) tc te (blkSt 1 js σ) J H1 Q:=by
 intro D hD
 refine ⟨fun i m ys σ1 H=>m=xs.length - i/\i<=xs.length/\(∃ o,σ1=o::js.map fun j=>(σ[j]?).join)/\ys.length=i/\(∀ v∈ys,∃ p o,v=.ref p/\H p=some o/\G o)/\Same H1 H/\H D=some (.lst ys),
  ⟨xs.length,by simp,Nat.zero_le _,⟨none,rfl⟩,rfl,(fun v hv=>nomatch hv),(Same.refl H1).upd_new hD,upd_same⟩,?_⟩
 rintro i m ys σ1 H ⟨rfl,hi,⟨o,rfl⟩,hy,hg,sH,hL⟩
 refine ⟨hL,by omega,?_⟩
 by_cases hlt:i < xs.length
 ·have e:xs[i]?=some xs[i]:=List.getElem?_eq_getElem hlt
  obtain ⟨go,yl⟩:=(hJ H sH).1 i xs[i] e
  refine .inr ⟨go,fun x H' y=>?_⟩
  obtain ⟨e1,e2⟩:=yl x H' y
  subst e1 e2
  have hm:xs[i]∈xs:=List.getElem_mem hlt
  show tc (some xs[i]::js.map fun j=>(σ[j]?).join) H' _
  refine hc _ _ _ ?_
  rw [if_pos rfl]
  refine he xs[i] hm H' sH _ fun p o' H4 s4 hp hgo=>?_
  have hL4:=s4 _ _ hL
  have nD:∀ {b:Addr}{u:HO},H4 b=some u->G u->b≠D:=fun hb hu ee=>by
   subst ee;rw [hL4] at hb;cases hb;exact hG _ hu
  refine ⟨hL4,xs.length - (i + 1),by omega,rfl,hlt,⟨_,rfl⟩,by rw [List.length_append,hy];rfl,fun v hv=>?_,((sH.trans s4)).upd_new hD,upd_same⟩
  rcases List.mem_append.mp hv with hv | hv
  ·obtain ⟨b,u,rfl,hb,hu⟩:=hg v hv
   have hb4:=s4 _ _ hb
   exact ⟨b,u,rfl,by rw [upd_ne (nD hb4 hu)];exact hb4,hu⟩
  ·rw [List.mem_singleton.mp hv]
   exact ⟨p,o',rfl,by rw [upd_ne (nD hp hgo)];exact hp,hgo⟩
 ·have e:i=xs.length:=by omega
  subst e
  exact .inl ⟨(hJ H sH).2 _ (Nat.le_refl _),q D ys H hD sH hL hy hg⟩
end L2

namespace L2
section
variable {α:Type} [DecidableEq α]
abbrev Nk (α:Type):=α × Bool
structure Ent (α:Type) where
 key:Nk α
 d:Int
 par:Option (Nk α)
 t:Nat
def putE (fs:List (Ent α)) (e:Ent α):List (Ent α):=if fs.any (fun x=>x.key == e.key) then fs.map (fun x=>if x.key == e.key then e else x) else fs++[e]
theorem mem_putE {fs:List (Ent α)}{e x:Ent α}:x∈putE fs e ↔ x=e ∨ (x∈fs/\x.key≠e.key):=by
 unfold putE
 split
 ·rename_i h
  obtain ⟨y,hy,hk⟩:=List.any_eq_true.mp h
  rw [List.mem_map]
  constructor
  ·rintro ⟨z,hz,rfl⟩
   split
   ·exact .inl rfl
   ·rename_i hn
    exact .inr ⟨hz,fun q=>hn (by simp [q])⟩
  ·rintro (rfl | ⟨hx,hn⟩)
   ·exact ⟨y,hy,by rw [if_pos hk]⟩
   ·exact ⟨x,hx,by rw [if_neg (by simpa using hn)]⟩
 ·rename_i h
  have h':∀ y∈fs,y.key≠e.key:=fun y hy q=>h (List.any_eq_true.mpr ⟨y,hy,by simp [q]⟩)
  rw [List.mem_append,List.mem_singleton]
  constructor
  ·rintro (hx | rfl)
   ·exact .inr ⟨hx,h' x hx⟩
   ·exact .inl rfl
  ·rintro (rfl | ⟨hx,_⟩)
   ·exact .inr rfl
   ·exact .inl hx
theorem keys_putE (fs:List (Ent α)) (e:Ent α):(putE fs e).map Ent.key=fs.map Ent.key ∨ ((putE fs e).map Ent.key=fs.map Ent.key++[e.key]/\e.key ∉ fs.map Ent.key):=by
 unfold putE
 split
 ·left
  rw [List.map_map]
  apply List.map_congr_left
  intro x _
  show (if x.key == e.key then e else x).key=x.key
  split
  ·rename_i h;exact (eq_of_beq h).symm
  ·rfl
 ·rename_i h
  right
  refine ⟨by simp,fun q=>?_⟩
  obtain ⟨y,hy,hk⟩:=List.mem_map.mp q
  exact h (List.any_eq_true.mpr ⟨y,hy,by simp [hk]⟩)
theorem nodup_putE {fs:List (Ent α)}{e:Ent α} (h:(fs.map Ent.key).Nodup):((putE fs e).map Ent.key).Nodup:=by
 rcases keys_putE fs e with q | ⟨q,n⟩
 ·rw [q];exact h
 ·rw [q,List.nodup_append]
  exact ⟨h,by simp,fun a ha b hb=>by rw [List.mem_singleton.mp hb];exact fun z=>n (z ▸ ha)⟩
structure Dij (St:Nk α->List (Nk α × Int)) (C:Nk α->Nk α × Int->Prop) (u0:Nk α) (fs ss:List (Ent α)):Prop where
 nf:(fs.map Ent.key).Nodup
 sub:∀ e∈ss,e∈fs
 ns:(ss.map Ent.key).Nodup
 st:∃ e∈fs,e.key=u0/\e.d=0
 nn:∀ e∈fs,0<=e.d
 cl:∀ e∈ss,∀ p,C e.key p->∃ e'∈fs,e'.key=p.1/\e'.d<=e.d + p.2
 pa:∀ e∈fs,(e.par=none/\e.key=u0/\e.d=0) ∨ ∃ u∈ss,∃ c,e.par=some u.key/\(e.key,c)∈St u.key/\e.d=u.d + c
 od:∀ e∈ss,∀ e'∈fs,e' ∉ ss->e.d<=e'.d
 rk:∀ pre e post,ss=pre++e::post->(e.par=none/\e.key=u0/\e.d=0) ∨ ∃ u∈pre,∃ c,e.par=some u.key/\(e.key,c)∈St u.key/\e.d=u.d + c
theorem key_inj {fs:List (Ent α)} (h:(fs.map Ent.key).Nodup) {x y:Ent α} (hx:x∈fs) (hy:y∈fs) (e:x.key=y.key):x=y:=by
 induction fs with
 | nil=>cases hx
 | cons z r ih =>
  rw [List.map_cons,List.nodup_cons] at h
  rcases List.mem_cons.mp hx with rfl | hx
  ·rcases List.mem_cons.mp hy with rfl | hy
   ·rfl
   ·exact absurd (List.mem_map.mpr ⟨y,hy,e.symm⟩) h.1
  ·rcases List.mem_cons.mp hy with q | hy
   ·exact absurd (List.mem_map.mpr ⟨x,hx,by rw [← q];exact e⟩) h.1
   ·exact ih h.2 hx hy
theorem Dij.start (St:Nk α->List (Nk α × Int)) (C:Nk α->Nk α × Int->Prop) (u0:Nk α) (t:Nat):Dij St C u0 [⟨u0,0,none,t⟩] [] where
 nf:=by simp
 sub:=fun e h=>by cases h
 ns:=by simp
 st:=⟨⟨u0,0,none,t⟩,by simp,rfl,rfl⟩
 nn:=fun e h=>by rw [List.mem_singleton.mp h];exact Int.le_refl 0
 cl:=fun e h=>by cases h
 pa:=fun e h=>by rw [List.mem_singleton.mp h];exact .inl ⟨rfl,rfl,rfl⟩
 od:=fun e h=>by cases h
 rk:=fun pre e post h=>by
  have:=congrArg List.length h
  simp at this
theorem Dij.put {St:Nk α->List (Nk α × Int)}{C:Nk α->Nk α × Int->Prop}{u0:Nk α}{fs ss:List (Ent α)} (D:Dij St C u0 fs ss) {e:Ent α} (he:e∈ss) (hm:∀ x∈ss,x.d<=e.d) {q:Nk α × Int} (hq:q∈St e.key) (hc:0<=q.2)
  (hl:∀ x∈fs,x.key=q.1->e.d + q.2 < x.d) (t:Nat):Dij St (fun k p=>C k p ∨ (k=e.key/\p=q)) u0 (putE fs ⟨q.1,e.d + q.2,some e.key,t⟩) ss:=by
 have hns:∀ x∈ss,x.key≠q.1:=fun x hx hk=>by
  have h1:=hl x (D.sub x hx) hk
  have h2:=hm x hx
  omega
 have h0:=D.nn e (D.sub e he)
 refine ⟨nodup_putE D.nf,fun x hx=>mem_putE.mpr (.inr ⟨D.sub x hx,hns x hx⟩),D.ns,?_,fun x hx=>?_,fun x hx p hp=>?_,fun x hx=>?_,fun x hx y hy hyn=>?_,D.rk⟩
 ·obtain ⟨x,hx,hk,hd⟩:=D.st
  refine ⟨x,mem_putE.mpr (.inr ⟨hx,fun z=>?_⟩),hk,hd⟩
  have:=hl x hx z
  omega
 ·rcases mem_putE.mp hx with rfl | ⟨h,_⟩
  ·show 0<=e.d + q.2;omega
  ·exact D.nn x h
 ·rcases hp with hp | ⟨h1,rfl⟩
  ·obtain ⟨y,hy,hyk,hyd⟩:=D.cl x hx p hp
   by_cases z:y.key=q.1
   ·refine ⟨_,mem_putE.mpr (.inl rfl),?_,?_⟩
    ·show q.1=p.1;rw [← z,hyk]
    ·show e.d + q.2<=_
     have:=hl y hy z
     omega
   ·exact ⟨y,mem_putE.mpr (.inr ⟨hy,z⟩),hyk,hyd⟩
  ·have:x=e:=key_inj D.nf (D.sub x hx) (D.sub e he) h1
   subst this
   exact ⟨_,mem_putE.mpr (.inl rfl),rfl,Int.le_refl _⟩
 ·rcases mem_putE.mp hx with rfl | ⟨h,_⟩
  ·exact .inr ⟨e,he,q.2,rfl,hq,rfl⟩
  ·exact D.pa x h
 ·rcases mem_putE.mp hy with rfl | ⟨h,_⟩
  ·have:=hm x hx
   show x.d<=e.d + q.2;omega
  ·exact D.od x hx y h hyn
theorem Dij.imp {St:Nk α->List (Nk α × Int)}{C C':Nk α->Nk α × Int->Prop}{u0:Nk α}{fs ss:List (Ent α)} (D:Dij St C u0 fs ss) (h:∀ k p,C' k p->C k p):Dij St C' u0 fs ss :=
 ⟨D.nf,D.sub,D.ns,D.st,D.nn,fun x hx p hp=>D.cl x hx p (h _ _ hp),D.pa,D.od,D.rk⟩
inductive Wk (St:Nk α->List (Nk α × Int)) (u:Nk α):Nk α->Int->Prop
 | nil:Wk St u u 0
 | snoc {v x:Nk α}{w c:Int}:Wk St u v w->(x,c)∈St v->Wk St u x (w + c)
theorem Wk.mono {St St':Nk α->List (Nk α × Int)}{u v:Nk α}{w:Int} (h:∀ k p,p∈St k->p∈St' k) (x:Wk St u v w):Wk St' u v w:=by
 induction x with
 | nil=>exact .nil
 | snoc _ m ih=>exact ih.snoc (h _ _ m)
theorem Wk.cons {St:Nk α->List (Nk α × Int)}{u v y:Nk α}{w c:Int} (m:(v,c)∈St u) (x:Wk St v y w):Wk St u y (c + w):=by
 induction x with
 | nil =>
  have:=Wk.snoc (Wk.nil (St:=St) (u:=u)) m
  rw [Int.zero_add] at this
  rw [Int.add_zero];exact this
 | snoc _ m2 ih =>
  have:=ih.snoc m2
  rw [Int.add_assoc] at this;exact this
theorem Wk.symm {St:Nk α->List (Nk α × Int)}{u v:Nk α}{w:Int} (h:∀ k x c,(x,c)∈St k->(k,c)∈St x) (x:Wk St u v w):Wk St v u w:=by
 induction x with
 | nil=>exact .nil
 | snoc _ m ih=>rw [Int.add_comm];exact Wk.cons (h _ _ _ m) ih
structure Sett (St:Nk α->List (Nk α × Int)) (u0:Nk α) (ss:List (Ent α)):Prop where
 ns:(ss.map Ent.key).Nodup
 le:∀ v w,Wk St u0 v w->∃ e∈ss,e.key=v/\e.d<=w
 wk:∀ e∈ss,Wk St u0 e.key e.d
 rk:∀ pre e post,ss=pre++e::post->(e.par=none/\e.key=u0/\e.d=0) ∨ ∃ u∈pre,∃ c,e.par=some u.key/\(e.key,c)∈St u.key/\e.d=u.d + c
theorem wk_pre {St:Nk α->List (Nk α × Int)}{u0:Nk α}:∀ (n:Nat) (ss:List (Ent α)),ss.length=n →
  (∀ pre e post,ss=pre++e::post->(e.par=none/\e.key=u0/\e.d=0) ∨ ∃ u∈pre,∃ c,e.par=some u.key/\(e.key,c)∈St u.key/\e.d=u.d + c)->∀ e∈ss,Wk St u0 e.key e.d
 | 0,ss,hl,_,e,he=>by rw [List.length_eq_zero_iff.mp hl] at he;cases he
 | n + 1,ss,hl,h,e,he=>by
  obtain ⟨pre,post,q⟩:=List.append_of_mem he
  rcases h pre e post q with ⟨_,hk,hd⟩ | ⟨u,hu,c,_,hm,hd⟩
  ·rw [hk,hd];exact .nil
  ·have lp:pre.length<=n:=by
    have:=congrArg List.length q
    simp at this
    omega
   have ih:∀ e∈pre,Wk St u0 e.key e.d:=wk_pre_le pre.length n lp pre rfl fun p1 e1 p2 q1=>h p1 e1 (p2++e::post) (by rw [q,q1];simp)
   rw [hd]
   exact (ih u hu).snoc hm
where
 wk_pre_le (m n:Nat) (hmn:m<=n) (ss:List (Ent α)) (hl:ss.length=m) (h:∀ pre e post,ss=pre++e::post->(e.par=none/\e.key=u0/\e.d=0) ∨ ∃ u∈pre,∃ c,e.par=some u.key/\(e.key,c)∈St u.key/\e.d=u.d + c):∀ e∈ss,Wk St u0 e.key e.d :=
  wk_pre m ss hl h
theorem Dij.done {St:Nk α->List (Nk α × Int)}{u0:Nk α}{fs ss:List (Ent α)} (D:Dij St (fun k p=>p∈St k) u0 fs ss) (h:∀ e∈fs,e∈ss):Sett St u0 ss:=by
 refine ⟨D.ns,fun v w x=>?_,fun e he=>wk_pre ss.length ss rfl D.rk e he,D.rk⟩
 induction x with
 | nil =>
  obtain ⟨e,he,hk,hd⟩:=D.st
  exact ⟨e,h e he,hk,by omega⟩
 | @snoc v x w c _ m ih =>
  obtain ⟨e,he,hk,hd⟩:=ih
  obtain ⟨e',he',hk',hd'⟩:=D.cl e he (x,c) (by rw [hk];exact m)
  exact ⟨e',h e' he',hk',by have:(x,c).2=c:=rfl;omega⟩
structure Ln (α:Type) where
 a:α
 b:α
 p:Option Int
 c:Option Int
def Ln.cost (l:Ln α) (f:Bool):Option Int:=if f then l.c else l.p
def Up (x:Option Int) (w:Int):Prop:=∃ a,x=some a/\a<=w
theorem Up.mono {x:Option Int}{w w':Int} (h:Up x w) (l:w<=w'):Up x w':=by obtain ⟨a,e,q⟩:=h;exact ⟨a,e,by omega⟩
section
variable {zs bs:List α}{ls:List (Ln α)}{p g:Int}
end
end
end L2

namespace L2
open PySem PySem.Spec PyProof.Rows
abbrev tabO (q:Str):HO:=.tbl #[.str q 0]
section
variable {X:Cx}{pins:List (Addr × Obj)}{σ:St}{H:Hp}{s:Shared}
theorem tab_of {P:Addr}{q:Str} (I:Inv X pins σ H s) (e:H P=some (tabO q)):∃ qs:Array Value,s.heap.get? P=some { cls:=.none,data:=.fields qs }/\TriplesOk qs.toList ∧
  ∀ pos c,codeAmong pos qs.toList=some c->∃ c' oc vs t,c=.ref c'/\H c'=some (.frz oc (.own P))/\s.heap.get? c'=some oc/\oc.data=.fields vs/\vs[1]?=some (.str q t):=by
 obtain ⟨qs,h1,h2,h3⟩:=(show ObjOk X.prog X.w H s.heap P (tabO q) from I.hok P _ e)
 refine ⟨qs,h1,h2,fun pos c z=>?_⟩
 obtain ⟨c',oc,vs,t,q',a1,a2,a4,a5,a6⟩:=h3 pos c z
 have a7:q=q':=by
  have:=congrArg Array.toList a6
  simp at this
  exact this
 subst a7
 exact ⟨c',oc,vs,t,a1,a2,(I.hok c' _ a2).1,a4,a5⟩
theorem Inv.tabled {P c':Addr}{q:Str}{h':Heap}{ps more:Array Value}{tk:Nat}{oc:Obj}{vs:Array Value}{tq:Tok} (I:Inv X pins σ H s) (e:H P=some (tabO q)) (hx:∀ b o,b≠P->s.heap.get? b=some o->h'.get? b=some o) (hc:s.heap.objs.size<=c')
  (h1:h'.get? P=some { cls:=.none,data:=.fields more }) (h2:TriplesOk more.toList) (h3:∀ pos c,codeAmong pos more.toList=some c->codeAmong pos ps.toList=some c ∨ c=.ref c') (h0:s.heap.get? P=some { cls:=.none,data:=.fields ps })
  (c1:h'.get? c'=some oc) (c2:oc.data=.fields vs) (c3:vs[1]?=some (.str q tq)):Inv X pins σ (upd H c' (.frz oc (.own P))) { s with heap:=h',toks:=tk }:=by
 have hn:=I.hok.fresh hc
 have nP:∀ b,H b=none->b≠P:=fun b hb z=>by rw [z,e] at hb;cases hb
 have lt:∀ b o,s.heap.get? b=some o->b≠c':=fun b o z=>Nat.ne_of_lt (Nat.lt_of_lt_of_le (Heap.lt_size z) hc)
 obtain ⟨qs,g1,g2,g3⟩:=tab_of I e
 have eq:qs=ps:=by
  rw [h0] at g1
  have:=Option.some.inj g1
  injection this with _ _ z
  injection z with z
  exact z.symm
 subst eq
 refine I.un ⟨fun b o z n _ _=>hx b o (nP b n) z,fun b o z n _ _=>⟨o.slots,hx b o (nP b n) z⟩,fun b o z n _=>by rw [upd_ne (lt b o z)];exact n,fun b o z _=>?_,fun b xs z=>by rw [upd_ne (ne_of_none z hn)];exact z,fun b u xs z=>by rw [upd_ne (ne_of_none z hn)];exact z,
  fun b xs z=>⟨#[],by rw [upd_ne (ne_of_none z hn),z];simp⟩⟩ fun b u z=>?_
 ·by_cases hb:b=P
  ·rw [hb];exact ⟨_,h1⟩
  ·exact ⟨o,hx b o hb z⟩
 ·by_cases hb:b=c'
  ·subst hb
   rw [upd_same] at z;cases z
   exact ⟨c1,_,c1⟩
  ·rw [upd_ne hb] at z
   by_cases hp:b=P
   ·subst hp
    rw [e] at z;cases z
    refine ⟨more,h1,h2,fun pos c w=>?_⟩
    rcases h3 pos c w with w | rfl
    ·obtain ⟨c2',oc2,vs2,t2,a1,a2,a3,a4,a5⟩:=g3 pos c w
     exact ⟨c2',oc2,vs2,t2,q,a1,by rw [upd_ne (ne_of_none a2 hn)];exact a2,a4,a5,rfl⟩
    ·exact ⟨c',oc,vs,tq,q,rfl,upd_same,c2,c3,rfl⟩
   ·refine (I.hok b u z).stay (fun c v hc2 w=>hx c v ?_ w) (fun c w=>by rw [upd_ne (ne_of_none w hn)];exact w) fun c xs w=>by rw [upd_ne (ne_of_none w hn)];exact w
    rcases hc2 with rfl | w2
    ·exact hp
    ·exact ne_of w2 e (by intro z;cases z)
end
theorem among_snoc {pos p2:Pos}{c:Value}:∀ (l:List Value),TriplesOk l->∀ x,codeAmong pos (l++[rawInt p2.line,rawInt p2.col,c])=some x->codeAmong pos l=some x ∨ x=c:=by
 intro l h
 fun_induction TriplesOk l with
 | case1 =>
  intro x e
  simp only [List.nil_append,codeAmong,rawInt] at e
  split at e
  ·exact .inr (Option.some.inj e).symm
  ·cases e
 | case2 a t b u y rest ih =>
  intro x e
  simp only [List.cons_append,codeAmong] at e ⊢
  split at e
  ·rename_i hc
   rw [if_pos hc];exact .inl e
  ·rename_i hc
   rw [if_neg hc];exact ih h x e
 | case3=>exact h.elim
section
variable {X:Cx}{pins:List (Addr × Obj)}{σ:St}{H:Hp}{s:Shared}{a:Addr}{y v:V}{u:Value}{A:Around}{E:Value->Shared->Prop}
end
section
variable {X:Cx}{pins:List (Addr × Obj)}{σ:St}{H:Hp}{s:Shared}
def CodAt (H:Hp) (P:Addr) (q:Str) (c':Addr):Prop:=∃ oc vs t,H c'=some (.frz oc (.own P))/\oc.data=.fields vs/\vs[1]?=some (.str q t)
theorem CodAt.same {H H':Hp}{P c':Addr}{q:Str} (h:CodAt H P q c') (s:Same H H'):CodAt H' P q c':=by
 obtain ⟨oc,vs,t,h1,h2⟩:=h
 exact ⟨oc,vs,t,s _ _ h1,h2⟩
theorem CodAt.rec {P c':Addr}{q:Str} (I:Inv X pins σ H s) (h:CodAt H P q c'):s.heap.CodeRec (.ref c') q:=by
 obtain ⟨oc,vs,t,h1,h2,h3⟩:=h
 exact ⟨c',oc,vs,t,rfl,(I.hok c' _ h1).1,h2,h3⟩
end
section
variable {prog:Program}{w:World}{A:Around}{E:Value->Shared->Prop}{s:Shared}{d it:Addr}{D J:Obj}{es:Array DictEntry}{ep i:Nat}
end
section
variable {X:Cx}{pins:List (Addr × Obj)}{σ:St}{H:Hp}{A:Around}{s0:Shared}{l q I S:Addr}{vs:List Value}{R:Result->Shared->Prop}
end
theorem DGet.same {H H':Hp}{a:Addr}{y:V}{o:Option V} (s:Same H H') (g:DGet H a y o):DGet H' a y o:=by
 rcases g with ⟨kvs,k,e,h⟩ | ⟨kvs,k,b,e,h1,h2,h3⟩
 ·exact .inl ⟨kvs,k,e.elim (fun z=>.inl (s _ _ z)) fun ⟨o,z⟩=>.inr ⟨o,s _ _ z⟩,h⟩
 ·exact .inr ⟨kvs,k,b,e.elim (fun z=>.inl (s _ _ z)) fun ⟨o,z⟩=>.inr ⟨o,s _ _ z⟩,h1,s _ _ h2,h3⟩
section
variable {X:Cx}
end
def tDNewTX:TE:=fun _ H Q=>nw H (.dT []) Q
theorem ap_dnewT {σ:St}{H:Hp}{Q:VK}:tDNewTX σ H Q=nw H (.dT []) Q:=propext Iff.rfl
theorem pe_dnewTX {X:Cx}{pos:Pos}:PE X (.Dict [] [] pos) tDNewTX:=fun pins s σ H Q I h=>pe_dnewT pins s σ H Q I (nw.go h)
theorem ap_dput {td ty tv:TE}{D:Ends}{σ:St}{H:Hp}:sDPut td ty tv D σ H=tv σ H fun v H1=>td σ H1 fun x H2=>ty σ H2 fun y H3=>∃ a H4,x=.ref a/\DPut H3 a y v H4/\D.nx σ H4:=propext Iff.rfl
theorem ps_dputG {X:Cx}{o i value:Expr}{pos pos':Pos}{td ty tv:TE} (hu:X.A.units + 1 < cLine) (ho:PE X o td) (hi:PE X i ty) (hv:PE X value tv) (hs:swapsWith value (some (.Subscript o i pos')) pos.line X.env=pure false:=by kernel_rfl) :
  PS X (.Assign [.Subscript o i pos'] value pos) (sDPut td ty tv):=ps_dput hu ho hi hv hs
theorem paired_at {α β:Type}{F:α->β->Prop}:∀ {l₁:List α}{l₂:List β},Paired F l₁ l₂->∀ {i:Nat}{x:α},l₁[i]?=some x->∃ y,l₂[i]?=some y/\F x y
 | _,_,.nil,i,x,e=>by simp at e
 | _,_,.cons r t,0,x,e=>by simp at e;subst e;exact ⟨_,rfl,r⟩
 | _,_,.cons r t,i + 1,x,e=>paired_at t (by simpa using e)
theorem law_callT {P:Program}{w:World}{K:PySem.W.Frag}{mg mb:Str->Option Value}{CX:CXT}{k:Nat}{fa a c Pt:Addr}{q:Str}{fd:FuncData}{x:Str}{sp:Sp}{s₁:Shared}{vs:List Value}{ns:List Int}
  (KX:K.In s₁.heap) (hns:s₁.heap.Ns mainGlobals mg) (hb:s₁.heap.Ns builtinsNs mb) (hbb:∀ x:Str,x≠"__name__"->mb x=bootBuiltins x) (hlim:s₁.heap.NoLimit)
  (hbm:∃ bm ob,mg "__builtins__"=some (.ref bm)/\bm≠builtinsNs/\s₁.heap.get? bm=some ob/\ob.cls=.type "module"/\ob.dict=some builtinsNs/\ob.data=.plain) (hg:s₁.gens=#[])
  (ha:s₁.heap.get? a=some { cls:=.type "list",data:=.seq vs.toArray }) (hi:IntsAre vs ns) (hl:ns.length<=sizeLine) (hr:Room k callerA) (hC:PySem.W.codeHdIn K c Pt=true) (hPt:s₁.heap.get? Pt=some { cls:=.none,data:=.fields #[] }) (hKP:K.lookup Pt=none)
  (F:∀ base:Heap,K.In base->base.Ns mainGlobals mg->FnOk P w K mg base CX k fa fd [x] sp) (hbind:∀ (s:Shared) (u:Value),BindsTo s fd ⟨[u],[]⟩ [(x,u)])
  (hsp:∀ H:Hp,SqL K H a (ns.map V.int)->H Pt=some (tabO q)->sp [.ref a] H (fun v _=>v=.bl true) fun _ _ _=>False)
  (hCX:∀ H e s',CX [] H s₁ (fun _ _ _=>False) e s'->False) :
  codeAny (model P w) callerA (.call (.ref fa) ⟨[.ref a],[]⟩) (fun r s'=>r=.ok (.ret (.bool true))/\OldK s₁.heap s'.heap/\s'.os=s₁.os/\AllBare s'.gens) s₁:=by
 have rv:=vals_ints hi
 have lenV:=hi.length
 have hCd:=PySem.W.codeHd_of_K KX hC
 have nPa:Pt≠a:=fun z=>by rw [z,ha] at hPt;cases hPt
 have core:∀ H:Hp,SqL K H a (ns.map V.int)->HOk P w H s₁.heap->H Pt=some (tabO q)->(∀ b,H b≠none->b=Pt ∨ (b=a/\∃ o xs,H b=some (.frz o (.lst xs))))->(H a≠none->K.lookup a=none) →
   codeAny (model P w) callerA (.call (.ref fa) ⟨[.ref a],[]⟩) (fun r s'=>r=.ok (.ret (.bool true))/\OldK s₁.heap s'.heap/\s'.os=s₁.os/\AllBare s'.gens) s₁:=by
  intro H hS hok hT hA hK
  have base_of:∀ {b:Addr}{o:Obj},s₁.heap.get? b=some o->H b=none->(hidT s₁.heap H).get? b=some o:=fun e n=>hidT_get e n
  have noO:∀ {b:Addr}{o:Obj},s₁.heap.get? b=some o->(∀ xs n,o.data≠.seq xs n)->(∀ xs,o.data≠.fields xs)->H b=none:=fun {b o} e d1 d2=>by
   cases qb:H b with
   | none=>rfl
   | some u =>
    rcases hA b (by rw [qb];simp) with z | ⟨z,_⟩
    ·subst z
     rw [hPt] at e;cases e
     exact absurd rfl (d2 _)
    ·subst z
     rw [ha] at e;cases e
     exact absurd rfl (d1 _ _)
  have nsK:∀ {b:Addr}{m:Str->Option Value},s₁.heap.Ns b m->(hidT s₁.heap H).Ns b m:=fun {b m} ⟨o,es,ep,e,d,r⟩=>⟨o,es,ep,base_of e (noO e (fun _ _ z=>by rw [d] at z;cases z) fun _ z=>by rw [d] at z;cases z),d,r⟩
  have hKb:K.In (hidT s₁.heap H):=fun b o e=>base_of (KX b o e) (by
   cases qb:H b with
   | none=>rfl
   | some u =>
    rcases hA b (by rw [qb];simp) with z | ⟨z,_⟩
    ·subst z
     rw [hKP] at e;cases e
    ·subst z
     rw [hK (by rw [qb];simp)] at e;cases e)
  have hM:Mod K mg (hidT s₁.heap H):=⟨hKb,nsK hns,⟨mb,nsK hb,hbb⟩,let ⟨mc,h1,h2⟩:=hlim;⟨mc,nsK h1,h2⟩,let ⟨bm,ob,b1,b2,b3,b4,b5,b6⟩:=hbm;⟨bm,ob,b1,b2,base_of b3 (noO b3 (fun _ _ z=>by rw [b6] at z;cases z) fun _ z=>by rw [b6] at z;cases z),b4,b5,b6⟩⟩
  have e0:Env0 P w K mg (hidT s₁.heap H) callerA [] s₁ H:=⟨rfl,hM,fun b o e=>of_hidT e,Nat.le_of_eq (hidT_size _ _),trivial,fun b hb=>absurd (show b∈([]:List Addr) from hb) (by simp),hok,.of_eq hg⟩
  refine codeAny_mono ((F _ hKb (nsK hns)).run callerA [] s₁ H ⟨[.ref a],[]⟩ [.ref a] [.ref a] _ _ hr e0 (hbind s₁ (.ref a)) (.cons rfl .nil) (hsp H hS hT)) fun r s' h=>?_
  cases r with
  | error e=>exact (hCX H e s' h).elim
  | ok fl =>
   cases fl with
   | next=>exact False.elim h
   | brk=>exact False.elim h
   | cont=>exact False.elim h
   | ret u =>
    obtain ⟨v,H',os,bare,un,hok',r',qv⟩:=h
    have qv':v=.bl true:=qv
    subst qv'
    obtain rfl:u=Value.bool true:=r'
    refine ⟨rfl,⟨fun b o e=>?_,fun b o e=>un.there b o e (by simp)⟩,os,bare⟩
    cases qb:H b with
    | none=>exact .inl (un.keep b o e qb (by intro z;exact absurd (show b∈([]:List Addr) from z) (by simp)) (by simp))
    | some u =>
     rcases hA b (by rw [qb];simp) with z | ⟨z,ob,xs,z1⟩
     ·subst z
      rw [hPt] at e;cases e
      obtain ⟨more,z2⟩:=un.tbls b _ hT
      obtain ⟨qs,z3,_⟩:=(show ObjOk P w H' s'.heap b _ from hok' b _ z2)
      exact .inr (.inl ⟨(hCd.tab hPt).isCodeTable,rfl,#[],qs,rfl,by simpa using z3⟩)
     ·have z2:=un.frzs b ob _ z1
      obtain ⟨e1,_⟩:=hok b _ z1
      obtain ⟨e2,_⟩:=hok' b _ z2
      rw [e] at e1;cases e1
      exact .inl e2
 have okT:∀ H:Hp,ObjOk P w H s₁.heap Pt (tabO q):=fun H=>⟨#[],hPt,trivial,fun pos c z=>by simp [codeAmong] at z⟩
 cases hk:K.lookup a with
 | some o =>
  have e:=KX a o hk
  rw [ha] at e
  cases e
  refine core (fun b=>if b=Pt then some (tabO q) else none) (.inr ⟨_,vs.toArray,_,hk,rfl,rfl,rfl,by rw [List.size_toArray,lenV];exact hl,by simpa using rv⟩) (fun b u z=>?_) (if_pos rfl) (fun b z=>?_) fun z=>absurd (if_neg (Ne.symm nPa)) z
  ·by_cases hb':b=Pt
   ·have z':=(if_pos hb').symm.trans z
    cases z'
    subst hb'
    exact okT _
   ·have z':=(if_neg hb').symm.trans z
    cases z'
  ·by_cases hb':b=Pt
   ·exact .inl hb'
   ·exact absurd (if_neg hb') z
 | none =>
  refine core (fun b=>if b=Pt then some (tabO q) else if b=a then some (.frz { cls:=.type "list",data:=.seq vs.toArray } (.lst (ns.map V.int))) else none) (.inl (.inr ⟨{ cls:=.type "list",data:=.seq vs.toArray },(if_neg (Ne.symm nPa)).trans (if_pos rfl)⟩)) (fun b u z=>?_) (if_pos rfl) (fun b z=>?_) fun _=>hk
  ·by_cases hb':b=Pt
   ·have z':=(if_pos hb').symm.trans z
    cases z'
    subst hb'
    exact okT _
   ·have z0:=(if_neg hb').symm.trans z
    clear z
    have z:=z0
    by_cases hb2:b=a
    ·have z':=(if_pos hb2).symm.trans z
     cases z'
     subst hb2
     exact ⟨ha,by rw [List.length_map];exact hl,vs,_,rv,ha⟩
    ·have z':=(if_neg hb2).symm.trans z
     cases z'
  ·by_cases hb':b=Pt
   ·exact .inl hb'
   ·by_cases hb2:b=a
    ·exact .inr ⟨hb2,_,_,(if_neg hb').trans (if_pos hb2)⟩
    ·exact absurd ((if_neg hb').trans (if_neg hb2)) z
theorem walk_ofT {l:PySem.W.OpenLaw}{n k:Nat}{qq:Program}{loose:List Str}{XP:(Str->Option Value)->Heap->Prop}{YP:World->Heap->Prop}{d:DefRec}{K:Params->PySem.W.Frag}{CX:World->CXT}{sp:World->Sp}{x:Str}{Pt:Addr} (q:Str)
  (hn:l.most=some n) (hn2:n<=sizeLine) (hdf:d.params.defaults=[]) (hr:Room k callerA)
  (hY:∀ (w:World) (h:Heap),YP w h->(K w.params).In h/\h.get? Pt=some { cls:=.none,data:=.fields #[] })
  (F:∀ (w:World) (mg:Str->Option Value) (fa:Addr) (h:Heap),(K w.params).In h->h.Ns mainGlobals mg->mg d.name=some (.ref fa) →
   (∃ c,PySem.W.codeHdIn (K w.params) c Pt=true)/\∃ fd:FuncData,(∀ (s:Shared) (u:Value),BindsTo s fd ⟨[u],[]⟩ [(x,u)]) ∧
    ∀ base:Heap,(K w.params).In base->base.Ns mainGlobals mg->FnOk l.prog w (K w.params) mg base (CX w) k fa fd [x] (sp w))
  (hKP:∀ w:World,(K w.params).lookup Pt=none)
  (hsp:∀ (w:World) (H:Hp) (a:Addr) (ns:List Int),ns.length<=n->SqL (K w.params) H a (ns.map V.int)->H Pt=some (tabO q)->sp w [.ref a] H (fun v _=>v=.bl true) fun _ _ _=>False)
  (hCX:∀ (w:World) (H:Hp) (s:Shared) (e:Value) (s':Shared),CX w [] H s (fun _ _ _=>False) e s'->False) :
  PySem.W.WalkO qq loose XP YP l.row.toRowW d [] (fun f vs=>PySem.call f vs):=by
 refine Att.attach_call hn hdf fun w s₀ s₁ mg mb fa o pm cd doc a vs ns G Y ho hd hcd hmg hobj hints hlen hg=>?_
 obtain ⟨KX,hPt⟩:=hY w _ Y
 obtain ⟨⟨c,hC⟩,fd,hb,hF⟩:=F w mg fa _ KX G.T.g hmg
 exact law_callT (q:=q) KX G.T.g G.T.b G.T.builtins G.T.nolimit G.T.bmain hg hobj hints (Nat.le_trans hlen hn2) hr hC hPt (hKP w) hF hb (fun H hS hT=>hsp w H a ns hlen hS hT) fun H e s'=>hCX w H s₁ e s'
section
variable {P:Program}{w:World}{K:PySem.W.Frag}{mg:Str->Option Value}{base:Heap}
theorem Fun.okT {x qual:Str}{st:Stmt}{f c:Addr}{fd:FuncData}{N ps:List Str}{k:Nat}{sp:Sp} (F:Fun K x qual st f fd) (hc:fd.code=.ref c) (S:FnScope N ps (defScope st)) (len:∀ vs H Q E,sp vs H Q E->vs.length=ps.length)
  (hbody:∀ (A:Around) (outer:List Env) (s:Shared) (H:Hp) (vs:List V) (Q:VK) (E:XK),Room k (A.deeper (envOfC qual (defScope st) s.heap.objs.size f (.ref c)))->sp vs H Q E →
   ∃ t,PSs (cxOf (CX1 P w) P w K mg base N qual (defScope st) f (.ref c) A outer s H E) (defBody st) t/\t { nx:=fun _ H'=>Q .non H',rt:=Q } (start N vs) H):FnOk P w K mg base (CX1 P w) (k + 1) f fd ps sp:=by
 obtain ⟨oc,od,kV,doc,pm,an,cdv,ct,osl,rfl,lk,hcd⟩:=F.ex
 have e:cdv=.ref c:=hc
 subst e
 exact fn_of lk hcd S len fun A outer s H vs Q E hr hsp=>hbody A outer s H vs Q E hr hsp
end
end L2

namespace L2
open PySem PySem.Spec PyProof.Rows
section
variable {prog:Program}{w:World}{A:Around}{E:Value->Shared->Prop}{s:Shared}
end
section
variable {prog:Program}{w:World}{A:Around}{E:Value->Shared->Prop}{s:Shared}
end
section
variable {α:Type}
theorem bind0 {p:List α->Prop} (h:p []) (us:List α) (e:us.length=0):p us:=by
 cases us with
 | nil=>exact h
 | cons _ _=>cases e
theorem bind1 {p:List α->Prop} (h:∀ a,p [a]) (us:List α) (e:us.length=1):p us:=by
 cases us with
 | nil=>cases e
 | cons a r=>exact bind0 (p:=fun r=>p (a::r)) (h a) r (Nat.succ.inj e)
theorem bind2 {p:List α->Prop} (h:∀ a b,p [a,b]) (us:List α) (e:us.length=2):p us:=by
 cases us with
 | nil=>cases e
 | cons a r=>exact bind1 (p:=fun r=>p (a::r)) (h a) r (Nat.succ.inj e)
theorem bind3 {p:List α->Prop} (h:∀ a b c,p [a,b,c]) (us:List α) (e:us.length=3):p us:=by
 cases us with
 | nil=>cases e
 | cons a r=>exact bind2 (p:=fun r=>p (a::r)) (h a) r (Nat.succ.inj e)
theorem bind4 {p:List α->Prop} (h:∀ a b c d,p [a,b,c,d]) (us:List α) (e:us.length=4):p us:=by
 cases us with
 | nil=>cases e
 | cons a r=>exact bind3 (p:=fun r=>p (a::r)) (h a) r (Nat.succ.inj e)
end
end L2

namespace L2
open PySem PySem.Spec PyProof.Rows
end L2

namespace L2
open PySem PySem.Spec PyProof.Rows
theorem Room.hu9 {k:Nat}{A:Around} (r:Room k A):A.units + 9 < cLine:=by have:=r.un;omega
theorem RoomN.hu9 {k:Nat}{A:Around} (r:RoomN k A):A.units + 9 < cLine:=by have:=r.un;omega
inductive EqR (K:PySem.W.Frag) (H:Hp):Nat->V->V->Bool->Prop
 | same {n:Nat}{x:V} (h:leafV x=true):EqR K H n x x true
 | flat {n:Nat}{x y:V} (h1:flatV x=true) (h2:flatV y=true):EqR K H n x y (eqV x y)
 | lst {n:Nat}{p q:Addr}{xs ys:List V} (e:Nat->Bool) (hne:p≠q) (h1:SqL K H p xs) (h2:SqL K H q ys) (hl:xs.length=ys.length) (h:∀ (i:Nat) x y,xs[i]?=some x->ys[i]?=some y->EqR K H n x y (e i)):EqR K H (n + 1) (.ref p) (.ref q) ((List.range xs.length).all e)
 | tup {n:Nat}{p q:Addr}{xs ys:List V} (e:Nat->Bool) (hne:p≠q) (h1:SqT K H p xs) (h2:SqT K H q ys) (h:∀ (i:Nat) x y,xs[i]?=some x->ys[i]?=some y->EqR K H n x y (e i)):EqR K H (n + 1) (.ref p) (.ref q) ((List.range (min xs.length ys.length)).all e && xs.length == ys.length)
theorem EqR.at {X:Cx}{pins:List (Addr × Obj)}{s:Shared}{σ:St}{H:Hp} (I:Inv X pins σ H s) {n:Nat}{x y:V}{b:Bool} (h:EqR X.K H n x y b):∀ {A:Around}{u v:Value},A.units + n < cLine->RelV x u->RelV y v->SeqAt.EqAt A s u v b:=by
 induction h with
 | same h=>intro A u v _ ru rv;exact eqAt_leaf ru rv h
 | flat h1 h2=>intro A u v _ ru rv;exact eqAt_V ru rv h1 h2
 | @lst n p q xs ys e hne h1 h2 hl _ ih =>
  intro A u v hu ru rv
  cases ru;cases rv
  obtain ⟨us,r1,p1,_⟩:=I.list h1
  obtain ⟨vs,r2,p2,_⟩:=I.list h2
  have l1:=r1.length
  have l2:=r2.length
  have:=SeqAt.RcAt.lists (A:=A) (s:=s) (e:=e) p1.isList p2.isList (by simp only [List.size_toArray];omega) (by omega) fun j j1 j2=>by
   obtain ⟨x,ex,rx⟩:=getD_vals r1 j1
   obtain ⟨y,ey,ry⟩:=getD_vals r2 j2
   exact ih j x y ex ey (show A.units + 1 + n < cLine by omega) rx ry
  rw [List.size_toArray,← l1] at this
  exact SeqAt.EqAt.of_refs hne this
 | @tup n p q xs ys e hne h1 h2 _ ih =>
  intro A u v hu ru rv
  cases ru;cases rv
  obtain ⟨us,r1,p1,_⟩:=I.tuple h1
  obtain ⟨vs,r2,p2,_⟩:=I.tuple h2
  have l1:=r1.length
  have l2:=r2.length
  have:=SeqAt.RcAt.tuples (A:=A) (s:=s) (e:=e) p1 p2 (by omega) fun j j1 j2=>by
   obtain ⟨x,ex,rx⟩:=getD_vals r1 j1
   obtain ⟨y,ey,ry⟩:=getD_vals r2 j2
   exact ih j x y ex ey (show A.units + 1 + n < cLine by omega) rx ry
  rw [List.size_toArray,List.size_toArray,← l1,← l2] at this
  exact SeqAt.EqAt.of_refs hne this
def RcR (K:PySem.W.Frag) (H:Hp) (n:Nat) (x y:V) (b:Bool):Prop:=∃ p q,x=.ref p/\y=.ref q ∧
 ((∃ xs ys,SqL K H p xs/\SqL K H q ys/\((xs.length≠ys.length/\b=false) ∨ (xs.length=ys.length/\∃ e:Nat->Bool,(∀ (i:Nat) x y,xs[i]?=some x->ys[i]?=some y->EqR K H n x y (e i))/\b=(List.range xs.length).all e))) ∨
  ∃ xs ys,SqT K H p xs/\SqT K H q ys/\∃ e:Nat->Bool,(∀ (i:Nat) x y,xs[i]?=some x->ys[i]?=some y->EqR K H n x y (e i))/\b=((List.range (min xs.length ys.length)).all e && xs.length == ys.length))
def rNeQ (K:PySem.W.Frag):R2:=fun x y H Q=>∃ n b,n<=6/\RcR K H n x y b/\Q (.bl (!b)) H
theorem ev_rNeQ {K:PySem.W.Frag}{x y:V}{H:Hp}{Q:VK}:rNeQ K x y H Q=(∃ n b,n<=6/\RcR K H n x y b/\Q (.bl (!b)) H):=propext Iff.rfl
section
variable {X:Cx}
theorem op_neQ {K:PySem.W.Frag} (hK:X.K=K) (hu:X.A.units + 9 < cLine):OpR X (compareOp .NotEq) (rNeQ K):=by
 subst hK
 intro pins s σ H x y v u Q I rx ry h
 obtain ⟨n,b,hn,⟨p,q,rfl,rfl,h⟩,k⟩:=h
 cases rx;cases ry
 rcases h with ⟨xs,ys,h1,h2,h⟩ | ⟨xs,ys,h1,h2,e,h,rfl⟩
 ·obtain ⟨us,r1,p1,_⟩:=I.list h1
  obtain ⟨vs,r2,p2,_⟩:=I.list h2
  have l1:=r1.length
  have l2:=r2.length
  rcases h with ⟨hl,rfl⟩ | ⟨hl,e,h,rfl⟩
  ·exact SeqAt.RcNeAt.lists_lengths p1.isList p2.isList (by simp only [List.size_toArray];simpa using (by omega:us.length≠vs.length)) (by omega) _ _ _ _ ⟨.bl _,H,I,rfl,k⟩
  ·refine SeqAt.RcNeAt.lists (e:=e) p1.isList p2.isList (by simp only [List.size_toArray];omega) (by omega) (fun j j1 j2=>?_) _ _ _ _ ⟨.bl _,H,I,rfl,?_⟩
   ·obtain ⟨x,ex,rx⟩:=getD_vals r1 j1
    obtain ⟨y,ey,ry⟩:=getD_vals r2 j2
    exact (h j x y ex ey).at I (show X.A.units + 1 + n < cLine by omega) rx ry
   ·rw [List.size_toArray,← l1];exact k
 ·obtain ⟨us,r1,p1,_⟩:=I.tuple h1
  obtain ⟨vs,r2,p2,_⟩:=I.tuple h2
  have l1:=r1.length
  have l2:=r2.length
  refine SeqAt.RcNeAt.tuples (e:=e) p1 p2 (by omega) (fun j j1 j2=>?_) _ _ _ _ ⟨.bl _,H,I,rfl,?_⟩
  ·obtain ⟨x,ex,rx⟩:=getD_vals r1 j1
   obtain ⟨y,ey,ry⟩:=getD_vals r2 j2
   exact (h j x y ex ey).at I (show X.A.units + 1 + n < cLine by omega) rx ry
  ·rw [List.size_toArray,List.size_toArray,← l1,← l2];exact k
end
def refP (e:V->Bool):Value->Bool
 | .ref a=>e (.ref a)
 | _=>false
theorem vals_any {xs:List V}{us:List Value} (r:Vals xs us) (e:V->Bool) (h:∀ v∈xs,∃ a,v=.ref a):us.any (refP e)=xs.any e/\us.countP (refP e)=xs.countP e:=by
 induction r with
 | nil=>exact ⟨rfl,rfl⟩
 | @cons x u xs us r1 r2 ih =>
  obtain ⟨a,rfl⟩:=h x List.mem_cons_self
  cases r1
  have:=ih fun v hv=>h v (List.mem_cons_of_mem _ hv)
  rw [List.any_cons,List.any_cons,List.countP_cons,List.countP_cons,this.1,this.2]
  exact ⟨rfl,rfl⟩
def InR (K:PySem.W.Frag) (H:Hp) (x:V) (p:Addr) (xs:List V) (e:V->Bool):Prop:=∃ n,n<=6/\SqL K H p xs/\(∀ v∈xs,∃ a,v=.ref a)/\∀ v∈xs,EqR K H n v x (e v)
section
variable {X:Cx}
theorem InR.each {pins:List (Addr × Obj)}{s:Shared}{σ:St}{H:Hp} (I:Inv X pins σ H s) (hu:X.A.units + 9 < cLine) {x:V}{p:Addr}{xs:List V}{e:V->Bool} (h:InR X.K H x p xs e) {u:Value} (ru:RelV x u) :
  ∃ its,Vals xs its/\s.heap.IsList p its.toArray/\(∀ y,y∈its.toArray->SeqAt.EqAt X.A.in1 s y u (refP e y))/\its.any (refP e)=xs.any e/\its.countP (refP e)=xs.countP e:=by
 obtain ⟨n,hn,h1,h2,h3⟩:=h
 obtain ⟨its,r,pl,_⟩:=I.list h1
 obtain ⟨a1,a2⟩:=vals_any r e h2
 refine ⟨its,r,pl.isList,fun y hy=>?_,a1,a2⟩
 obtain ⟨j,hj,rfl⟩:=Array.getElem_of_mem hy
 obtain ⟨v,ev,rv⟩:=getD_vals r hj
 have hv:=List.mem_of_getElem? ev
 obtain ⟨a,rfl⟩:=h2 v hv
 have e1:=(h3 _ hv).at I (A:=X.A.in1) (show X.A.units + 1 + n < cLine by omega) rv ru
 rw [show its.toArray[j]=Value.ref a from rv] at e1 ⊢
 exact e1
end
theorem lc_pairF {K:PySem.W.Frag}{J:It}{H1:Hp}{xs:List V}{js:List Nat}{σ:St}{tc:TT}{te:TE}{Q:VK} (hJ:J.Seq H1 xs) (hl:xs.length < sizeLine) (fx fy g:Nat->V) (pr:Nat->Bool) (hp:∀ (i:Nat) v,xs[i]?=some v->∃ t,v=.ref t/\H1 t=some (.tup [fx i,fy i]))
  (hc:∀ i,i < xs.length->∀ H,Same H1 H->∀ R:Bool->Hp->Prop,(∀ H',Same H H'->R (pr i) H')->tc (some (fx i)::some (fy i)::js.map fun j=>(σ[j]?).join) H R)
  (he:∀ i,i < xs.length->pr i=true->∀ H,Same H1 H->∀ R:VK,(∀ H',Same H H'->R (g i) H')->te (some (fx i)::some (fy i)::js.map fun j=>(σ[j]?).join) H R)
  (q:∀ D H,H1 D=none->Same H1 H->H D=some (.lst (((List.range xs.length).filter pr).map g))->Q (.ref D) H):LcTurns (gTup K 2 (gCons (gName 0) (gCons (gName 1) gNil))) tc te (blkSt 2 js σ) J H1 Q:=by
 intro D hD
 refine ⟨fun i m ys σ1 H=>m=xs.length - i/\i<=xs.length/\(∃ o1 o2,σ1=o1::o2::js.map fun j=>(σ[j]?).join)/\ys=((List.range i).filter pr).map g/\Same H1 H/\H D=some (.lst ys),
  ⟨xs.length,by simp,Nat.zero_le _,⟨none,none,rfl⟩,by simp,(Same.refl H1).upd_new hD,upd_same⟩,?_⟩
 rintro i m ys σ1 H ⟨rfl,hi,⟨o1,o2,rfl⟩,rfl,sH,hL⟩
 have hyl:(((List.range i).filter pr).map g).length<=i:=by
  rw [List.length_map]
  have:=List.length_filter_le pr (List.range i)
  rwa [List.length_range] at this
 refine ⟨hL,by omega,?_⟩
 by_cases hlt:i < xs.length
 ·have e:xs[i]?=some xs[i]:=List.getElem?_eq_getElem hlt
  obtain ⟨go,yl⟩:=(hJ H sH).1 i xs[i] e
  refine .inr ⟨go,fun x H' y=>?_⟩
  obtain ⟨e1,e2⟩:=yl x H' y
  subst e1 e2
  obtain ⟨t,et,ht⟩:=hp i _ e
  rw [et]
  refine ⟨t,_,rfl,SqT.of (sH _ _ ht),rfl,fx i,[fy i],rfl,fy i,[],rfl,rfl,?_⟩
  show tc (some (fx i)::some (fy i)::js.map fun j=>(σ[j]?).join) _ _
  refine hc i hlt _ sH _ fun H4 s4=>?_
  have hL4:=s4 _ _ hL
  have rs:List.range (i + 1)=List.range i++[i]:=List.range_succ
  cases hpr:pr i with
  | false =>
   rw [if_neg Bool.false_ne_true]
   exact ⟨xs.length - (i + 1),by omega,rfl,hlt,⟨_,_,rfl⟩,by rw [rs,List.filter_append];simp [hpr],sH.trans s4,hL4⟩
  | true =>
   rw [if_pos rfl]
   refine he i hlt hpr H4 (sH.trans s4) _ fun H5 s5=>⟨s5 _ _ hL4,xs.length - (i + 1),by omega,rfl,hlt,⟨_,_,rfl⟩,?_,((sH.trans s4).trans s5).upd_new hD,upd_same⟩
   rw [rs,List.filter_append];simp [hpr]
 ·have e:i=xs.length:=by omega
  subst e
  exact .inl ⟨(hJ H sH).2 _ (Nat.le_refl _),q D H hD sH hL⟩
end L2

namespace L2
open PySem PySem.Spec PyProof.Rows
section
variable {X:Cx}
end
section
variable {prog:Program}{w:World}{A:Around}{E:Value->Shared->Prop}{s:Shared}
theorem zipD_item {z TI TO i1 i2:Addr}{fp1 fp2:List Addr}{n1 n2 k:Nat}{P1 P2:Nat->Value->Prop}{S1 S2:Nat->Heap->Prop}{a b:Value}{Q:Value->Shared->Prop} (D1:Draws prog w A i1 fp1 n1 P1 S1) (D2:Draws prog w A i2 fp2 n2 P2 S2)
  (TOz:TO≠z) (i1z:i1≠z) (i2z:i2≠z) (TOi1:TO≠i1) (TOi2:TO≠i2) (z1:z ∉ fp1) (z2:z ∉ fp2) (o1:TO ∉ fp1) (o2:TO ∉ fp2) (j1:i2 ∉ fp1) (j2:i1 ∉ fp2)
  (hz:IsZip s.heap z TI TO .none) (hTI:IsPair s.heap TI (.ref i1) (.ref i2)) (hTO:IsPair s.heap TO a b) (h1:S1 k s.heap) (h2:S2 k s.heap) (l1:k < n1) (l2:k < n2)
  (hQ:∀ h' x y tk,P1 k x->P2 k y->IsZip h' z TI TO (rawInt s.heap.objs.size)->IsPair h' TO x y->S1 (k + 1) h'->S2 (k + 1) h'->IsPair h' s.heap.objs.size x y →
   (∀ c o,c≠z->c≠TO->c≠i1->c≠i2->s.heap.get? c=some o->h'.get? c=some o)->Q (.ref s.heap.objs.size) { s with heap:=h',toks:=tk }) :
  wpAny (model prog w) A (Builtin.«zip.__next__» ⟨[.ref z],[]⟩) (fun fin s'=>∃ v,fin=.done (.ret v)/\Q v s') E s:=by
 obtain ⟨hp,g,d,tk0,os⟩:=s
 show wpAny _ _ (field (.ref z) 2 >>= _) _ _ _
 refine wpAny_bind (wpAny_field hz rfl (x:=.bool false) rfl ?_)
 show wpAny _ _ (field (.ref z) 3 >>= _) _ _ _
 refine wpAny_bind (wpAny_field hz rfl (x:=.ref TI) rfl ?_)
 refine wpAny_bind (wpAny_seqItems hTI rfl ?_)
 show wpAny _ _ (Builtin.SmallTypes.ownedTupleIsFree (.ref z) >>= _) _ _ _
 refine wpAny_bind ?_
 unfold Builtin.SmallTypes.ownedTupleIsFree
 refine wpAny_bind (wpAny_field hz rfl (x:=.none) rfl (wpAny_pure ?_))
 simp only [if_true]
 refine wpAny_bind (wpAny_rule ?_)
 refine wpAny_bind (wpAny_field hz rfl (x:=.ref TO) rfl ?_)
 refine wpAny_bind (wpAny_setField_rec hz (by simp) fun h₁ hz₁ hs₁=>?_)
 replace hz₁:IsZip h₁ z TI TO .ellipsis:=hz₁
 replace hs₁:Heap.SameBut z hp h₁:=hs₁
 refine wpAny_bind ?_
 simp only [List.zipIdx_cons,List.zipIdx_nil,List.forIn_cons,List.forIn_nil]
 refine wpAny_bind (wpAny_bind (wpAny_onRaise ?_))
 show wpAny _ _ (Builtin.SmallTypes.nextOf (.ref i1) >>= _) _ _ _
 refine wpAny_bind (D1.item k _ _ _ l1 (D1.frame _ _ _ h1 fun c hc o e=>hs₁.extBut _ _ (fun q=>z1 (q ▸ hc)) e) fun x h₂ tk1 p1 s1₂ hs₂=>wpAny_pure ?_)
 replace hs₂:Heap.SameBut i1 h₁ h₂:=hs₂
 have hTO₂:IsPair h₂ TO a b:=hs₂.extBut _ _ TOi1 (hs₁.extBut _ _ TOz hTO)
 refine wpAny_bind (wpAny_seqItems hTO₂ rfl ?_)
 refine wpAny_bind (wpAny_updateSeq_pair hTO₂ fun h₃ hTO₃ hs₃=>?_)
 replace hTO₃:IsPair h₃ TO x b:=hTO₃
 replace hs₃:Heap.SameBut TO h₂ h₃:=hs₃
 refine wpAny_bind (wpAny_letGo (wpAny_pure ?_))
 refine wpAny_bind (wpAny_bind (wpAny_onRaise ?_))
 show wpAny _ _ (Builtin.SmallTypes.nextOf (.ref i2) >>= _) _ _ _
 refine wpAny_bind (D2.item k _ _ _ l2 (D2.frame _ _ _ h2 fun c hc o e=>hs₃.extBut _ _ (fun q=>o2 (q ▸ hc)) (hs₂.extBut _ _ (fun q=>j2 (q ▸ hc)) (hs₁.extBut _ _ (fun q=>z2 (q ▸ hc)) e))) fun y h₄ tk2 p2 s2₄ hs₄=>wpAny_pure ?_)
 replace hs₄:Heap.SameBut i2 h₃ h₄:=hs₄
 have hTO₄:IsPair h₄ TO x b:=hs₄.extBut _ _ TOi2 hTO₃
 refine wpAny_bind (wpAny_seqItems hTO₄ rfl ?_)
 refine wpAny_bind (wpAny_updateSeq_pair hTO₄ fun h₅ hTO₅ hs₅=>?_)
 replace hTO₅:IsPair h₅ TO x y:=hTO₅
 replace hs₅:Heap.SameBut TO h₄ h₅:=hs₅
 refine wpAny_bind (wpAny_letGo (wpAny_pure (wpAny_pure ?_)))
 refine wpAny_bind (wpAny_seqItems hTO₅ rfl ?_)
 refine wpAny_bind (wpAny_newTuple ?_)
 have hsz:h₅.objs.size=hp.objs.size:=by rw [hs₅.1,hs₄.1,hs₃.1,hs₂.1,hs₁.1]
 have hz₅:IsZip h₅ z TI TO .ellipsis:=hs₅.extBut _ _ TOz.symm (hs₄.extBut _ _ i2z.symm (hs₃.extBut _ _ TOz.symm (hs₂.extBut _ _ i1z.symm hz₁)))
 have hk₅:∀ c o,c≠z->c≠TO->c≠i1->c≠i2->hp.get? c=some o->h₅.get? c=some o:=fun c o c1 c2 c3 c4 e =>
  hs₅.extBut _ _ c2 (hs₄.extBut _ _ c4 (hs₃.extBut _ _ c2 (hs₂.extBut _ _ c3 (hs₁.extBut _ _ c1 e))))
 have s1₅:S1 (k + 1) h₅:=D1.frame _ _ _ s1₂ fun c hc o e=>hs₅.extBut _ _ (fun q=>o1 (q ▸ hc)) (hs₄.extBut _ _ (fun q=>j1 (q ▸ hc)) (hs₃.extBut _ _ (fun q=>o1 (q ▸ hc)) e))
 have s2₅:S2 (k + 1) h₅:=D2.frame _ _ _ s2₄ fun c hc o e=>hs₅.extBut _ _ (fun q=>o2 (q ▸ hc)) e
 have hzlt:z < h₅.objs.size:=Heap.lt_size hz₅
 show wpAny _ _ (Builtin.SmallTypes.ownedTupleHandOut (.ref z) (.ref h₅.objs.size) >>= _) _ _ _
 refine wpAny_bind ?_
 unfold Builtin.SmallTypes.ownedTupleHandOut
 have hz₆:IsZip (h₅.push { cls:=.type "tuple",data:=.seq #[x,y] }) z TI TO .ellipsis:=Heap.get?_push_of_some _ hz₅
 refine wpAny_bind (wpAny_setField_rec hz₆ (by simp) fun h₇ hz₇ hs₇=>?_)
 replace hz₇:IsZip h₇ z TI TO (rawInt h₅.objs.size):=hz₇
 refine wpAny_setField_rec hz₇ (by simp) fun h₈ hz₈ hs₈=>?_
 replace hz₈:IsZip h₈ z TI TO (rawInt h₅.objs.size):=hz₈
 have up:∀ c o,c≠z->h₅.get? c=some o->h₈.get? c=some o:=fun c o c1 e=>hs₈.extBut _ _ c1 (hs₇.extBut _ _ c1 (Heap.get?_push_of_some _ e))
 have hT₈:IsPair h₈ h₅.objs.size x y:=hs₈.extBut _ _ (Nat.ne_of_gt hzlt) (hs₇.extBut _ _ (Nat.ne_of_gt hzlt) (Heap.get?_push_size _ rfl))
 rw [hsz] at hz₈ hT₈
 refine wpAny_pure ⟨_,rfl,?_⟩
 show Q (.ref h₅.objs.size) _
 rw [hsz]
 exact hQ h₈ x y tk2 p1 p2 hz₈ (up _ _ TOz hTO₅) (D1.frame _ _ _ s1₅ fun c hc o e=>up _ o (fun q=>z1 (q ▸ hc)) e) (D2.frame _ _ _ s2₅ fun c hc o e=>up _ o (fun q=>z2 (q ▸ hc)) e) hT₈ fun c o c1 c2 c3 c4 e=>up c o c1 (hk₅ c o c1 c2 c3 c4 e)
theorem zipD_end {z TI TO i1 i2:Addr}{fp1:List Addr}{n1:Nat}{P1:Nat->Value->Prop}{S1:Nat->Heap->Prop}{Q:Fin->Shared->Prop} (D1:Draws prog w A i1 fp1 n1 P1 S1)
  (i1z:i1≠z) (z1:z ∉ fp1) (hz:IsZip s.heap z TI TO .none) (hTI:IsPair s.heap TI (.ref i1) (.ref i2)) (h1:S1 n1 s.heap)
  (hE:∀ h' e,(∀ c o,c≠z->c≠i1->s.heap.get? c=some o->h'.get? c=some o)->(∃ o,h'.get? e=some o/\o.cls=.type "StopIteration")->E (.ref e) { s with heap:=h' }) :
  wpAny (model prog w) A (Builtin.«zip.__next__» ⟨[.ref z],[]⟩) Q E s:=by
 show wpAny _ _ (field (.ref z) 2 >>= _) _ _ _
 refine wpAny_bind (wpAny_field hz rfl (x:=.bool false) rfl ?_)
 show wpAny _ _ (field (.ref z) 3 >>= _) _ _ _
 refine wpAny_bind (wpAny_field hz rfl (x:=.ref TI) rfl ?_)
 refine wpAny_bind (wpAny_seqItems hTI rfl ?_)
 show wpAny _ _ (Builtin.SmallTypes.ownedTupleIsFree (.ref z) >>= _) _ _ _
 refine wpAny_bind ?_
 unfold Builtin.SmallTypes.ownedTupleIsFree
 refine wpAny_bind (wpAny_field hz rfl (x:=.none) rfl (wpAny_pure ?_))
 simp only [if_true]
 refine wpAny_bind (wpAny_rule ?_)
 refine wpAny_bind (wpAny_field hz rfl (x:=.ref TO) rfl ?_)
 refine wpAny_bind (wpAny_setField_rec hz (by simp) fun h₁ hz₁ hs₁=>?_)
 replace hz₁:IsZip h₁ z TI TO .ellipsis:=hz₁
 refine wpAny_bind ?_
 simp only [List.zipIdx_cons,List.zipIdx_nil,List.forIn_cons,List.forIn_nil]
 refine wpAny_bind (wpAny_bind (wpAny_onRaise ?_))
 show wpAny _ _ (Builtin.SmallTypes.nextOf (.ref i1) >>= _) _ _ _
 refine wpAny_bind (D1.done _ _ _ (D1.frame _ _ _ h1 fun c hc o e=>hs₁.extBut _ _ (fun q=>z1 (q ▸ hc)) e) fun h₂ e hs₂ he=>?_)
 obtain ⟨oe,hoe,hce⟩:=he
 have hz₂:IsZip h₂ z TI TO .ellipsis:=hs₂ _ _ i1z.symm hz₁
 have hez:e≠z:=fun x=>by subst x;rw [hz₂] at hoe;cases hoe;simp at hce
 exact wpAny_setField_rec hz₂ (by simp) fun h₃ _ hs₃=>hE h₃ e (fun c o c1 c3 x=>hs₃.extBut _ _ c1 (hs₂ _ _ c3 (hs₁.extBut _ _ c1 x))) ⟨oe,hs₃.extBut _ _ hez hoe,hce⟩
theorem pn_zipD_item {z TI TO i1 i2:Addr}{fp1 fp2:List Addr}{n1 n2 k:Nat}{P1 P2:Nat->Value->Prop}{S1 S2:Nat->Heap->Prop}{a b:Value}{Q:Option Value->Shared->Prop} (D1:Draws prog w A.in1 i1 fp1 n1 P1 S1) (D2:Draws prog w A.in1 i2 fp2 n2 P2 S2)
  (TOz:TO≠z) (i1z:i1≠z) (i2z:i2≠z) (TOi1:TO≠i1) (TOi2:TO≠i2) (z1:z ∉ fp1) (z2:z ∉ fp2) (o1:TO ∉ fp1) (o2:TO ∉ fp2) (j1:i2 ∉ fp1) (j2:i1 ∉ fp2)
  (hz:IsZip s.heap z TI TO .none) (hTI:IsPair s.heap TI (.ref i1) (.ref i2)) (hTO:IsPair s.heap TO a b) (h1:S1 k s.heap) (h2:S2 k s.heap) (l1:k < n1) (l2:k < n2)
  (hQ:∀ h' x y tk,P1 k x->P2 k y->IsZip h' z TI TO (rawInt s.heap.objs.size)->IsPair h' TO x y->S1 (k + 1) h'->S2 (k + 1) h'->IsPair h' s.heap.objs.size x y →
   (∀ c o,c≠z->c≠TO->c≠i1->c≠i2->s.heap.get? c=some o->h'.get? c=some o)->Q (some (.ref s.heap.objs.size)) { s with heap:=h',toks:=tk }):wpAny (model prog w) A (pyNext (.ref z)) Q E s:=by
 have hT:s.TypeIs (.ref z) "zip":=⟨_,hz,rfl⟩
 unfold pyNext
 exact wpAny_bind (wpAny_attempt (wpAny_callSpecial?_slot (name:=Str.ofString "__next__") hT F.slot_zip_next
  (wpAny_call_entry F.slot_zip_next hT F.entry_zip_next
   (zipD_item D1 D2 TOz i1z i2z TOi1 TOi2 z1 z2 o1 o2 j1 j2 hz hTI hTO h1 h2 l1 l2 fun h' x y tk a1 a2 a3 a4 a5 a6 a7 a8=>wpAny_pure (hQ h' x y tk a1 a2 a3 a4 a5 a6 a7 a8)) (F.args_zip_next_1 _))))
theorem pn_zipD_end {z TI TO i1 i2:Addr}{fp1:List Addr}{n1:Nat}{P1:Nat->Value->Prop}{S1:Nat->Heap->Prop}{Q:Option Value->Shared->Prop} (D1:Draws prog w A.in1 i1 fp1 n1 P1 S1)
  (i1z:i1≠z) (z1:z ∉ fp1) (hz:IsZip s.heap z TI TO .none) (hTI:IsPair s.heap TI (.ref i1) (.ref i2)) (h1:S1 n1 s.heap)
  (hQ:∀ h',(∀ c o,c≠z->c≠i1->s.heap.get? c=some o->h'.get? c=some o)->Q none { s with heap:=h' }):wpAny (model prog w) A (pyNext (.ref z)) Q E s:=by
 have hT:s.TypeIs (.ref z) "zip":=⟨_,hz,rfl⟩
 unfold pyNext
 refine wpAny_bind (wpAny_attempt (wpAny_callSpecial?_slot (name:=Str.ofString "__next__") hT F.slot_zip_next
  (wpAny_call_entry F.slot_zip_next hT F.entry_zip_next (zipD_end D1 i1z z1 hz hTI h1 fun h' e hk he=>?_) (F.args_zip_next_1 _))))
 obtain ⟨o,ho,hc⟩:=he
 refine wpAny_bind (wpAny_isInstance (T:="StopIteration") (b:=true) ⟨o,ho,hc⟩ isSubtype_stop ?_)
 exact wpAny_pure (hQ _ hk)
end
section
variable {X:Cx}
end
end L2

namespace L2
open PySem PySem.Spec PyProof.Rows
structure FunD (K:PySem.W.Frag) (x qual:Str) (st:Stmt) (f:Addr) (fd:FuncData):Prop where
 ex:∃ (oc:Value) (od:Option Addr) (dV kV doc pm:Value) (an:Option Addr) (cdv ct:Value) (osl:Array (Option Value)),
  fd=PySem.W.fnOf x qual (defArgs st) (defBody st) (defScope st) dV kV doc pm an cdv ct/\K.lookup f=some ⟨oc,od,.func fd,osl⟩/\PySem.W.codeIn K cdv qual=true
 kp:PySem.W.keepIn K (.ref f)=true
section
variable {P:Program}{w:World}{K:PySem.W.Frag}{mg:Str->Option Value}{base:Heap}
theorem funD_mk {x qual:Str}{st:Stmt}{f:Addr}{oc:Value}{od an:Option Addr}{osl:Array (Option Value)}{dV kV doc pm cdv ct:Value} (l:K.lookup f=some ⟨oc,od,.func (PySem.W.fnOf x qual (defArgs st) (defBody st) (defScope st) dV kV doc pm an cdv ct),osl⟩)
  (c:PySem.W.codeIn K cdv qual=true) (k:PySem.W.keepIn K (.ref f)=true):FunD K x qual st f (PySem.W.fnOf x qual (defArgs st) (defBody st) (defScope st) dV kV doc pm an cdv ct):=⟨⟨oc,od,dV,kV,doc,pm,an,cdv,ct,osl,rfl,l,c⟩,k⟩
theorem FunD.okX {x qual:Str}{st:Stmt}{f:Addr}{fd:FuncData}{N ps:List Str}{k:Nat}{sp:Sp} (F:FunD K x qual st f fd) (S:FnScope N ps (defScope st)) (len:∀ vs H Q E,sp vs H Q E->vs.length=ps.length)
  (hbody:∀ (cdv:Value) (A:Around) (outer:List Env) (s:Shared) (H:Hp) (vs:List V) (Q:VK) (E:XK),Room k (A.deeper (envOfC qual (defScope st) s.heap.objs.size f cdv))->sp vs H Q E →
   ∃ t,PSs (cxOf (CX1 P w) P w K mg base N qual (defScope st) f cdv A outer s H E) (defBody st) t/\t { nx:=fun _ H'=>Q .non H',rt:=Q } (start N vs) H):FnOk P w K mg base (CX1 P w) (k + 1) f fd ps sp:=by
 obtain ⟨oc,od,dV,kV,doc,pm,an,cdv,ct,osl,rfl,lk,hcd⟩:=F.ex
 exact fn_of lk hcd S len fun A outer s H vs Q E hr hsp=>hbody cdv A outer s H vs Q E hr hsp
theorem FunD.okT {x qual:Str}{st:Stmt}{f c:Addr}{fd:FuncData}{N ps:List Str}{k:Nat}{sp:Sp} (F:FunD K x qual st f fd) (hc:fd.code=.ref c) (S:FnScope N ps (defScope st)) (len:∀ vs H Q E,sp vs H Q E->vs.length=ps.length)
  (hbody:∀ (A:Around) (outer:List Env) (s:Shared) (H:Hp) (vs:List V) (Q:VK) (E:XK),Room k (A.deeper (envOfC qual (defScope st) s.heap.objs.size f (.ref c)))->sp vs H Q E →
   ∃ t,PSs (cxOf (CX1 P w) P w K mg base N qual (defScope st) f (.ref c) A outer s H E) (defBody st) t/\t { nx:=fun _ H'=>Q .non H',rt:=Q } (start N vs) H):FnOk P w K mg base (CX1 P w) (k + 1) f fd ps sp:=by
 obtain ⟨oc,od,dV,kV,doc,pm,an,cdv,ct,osl,rfl,lk,hcd⟩:=F.ex
 have e:cdv=.ref c:=hc
 subst e
 exact fn_of lk hcd S len fun A outer s H vs Q E hr hsp=>hbody A outer s H vs Q E hr hsp
end
structure MtdD (P:Program) (w:World) (K:PySem.W.Frag) (mg:Str->Option Value) (base:Heap) (CX:CXT) (C:Addr) (m:Str) (k:Nat) (ps:List Str) (sp:Sp):Prop where
 ex:∃ (f:Addr) (fd:FuncData),FnOk P w K mg base CX k f fd ps sp/\Meth K C m f/\Binds K fd ps [.none]
 cl:Cls K C
def spD (sp:Sp):Sp:=fun vs H Q E=>sp (vs++[.non]) H Q E
theorem ev_spD {sp:Sp}{vs:List V}{H:Hp}{Q:VK}{E:XK}:spD sp vs H Q E=sp (vs++[.non]) H Q E:=propext Iff.rfl
section
variable {X:Cx}{CX:CXT}{E:St->XK}
theorem pe_methD {pl:Sem Bool}{C:Addr}{m:Str}{k:Nat}{ps:List Str}{sp:Sp}{o e:Expr}{es:List Expr}{ta:TE}{t:TA}{apos pos:Pos} (M:MtdD X.prog X.w X.K X.mg X.base CX C m k ps sp) (hx:Passes CX X E) (hr:Room k X.A) (he:PE X o ta) (ha:PA X (e::es) t)
  (hs:noStars (e::es)=true:=by kernel_rfl)
  (ht:eval (.Call (.Attribute o m apos) (e::es) [] pos) X.env=(do
   let ov ← eval o X.env
   standAt apos.atName
   let (f,first) ← holding [ov] (getMethod ov m pl)
   callWith pos f first (backTo pos (starEach (e::es) X.env)) (backToKw pos (keywordEach [] X.env))):=by rfl) :
  PE X (.Call (.Attribute o m apos) (e::es) [] pos) (tMethX C m (spD sp) E ta t):=by
 obtain ⟨f,fd,F,hm,hb⟩:=M.ex
 intro pins s σ H Q I h
 refine pe_meth (ta:=up ta) (t:=t) he.up M.cl hm F hr hb (.cons (show RelV .non .none from rfl) .nil) hx ha (starEach_cons (noStars_tail hs).1) (backTo_any (noStars_tail hs).2) ht pins s σ H Q I ⟨_,h,fun x H1 q=>?_⟩
 cases x with
 | ref a =>
  obtain ⟨dx,fs,h1,h2,h3⟩:=q
  exact ⟨a,dx,fs,rfl,h1,h2,h3⟩
 | _=>exact False.elim q
end
section
variable {X:Cx}{pins:List (Addr × Obj)}{σ:St}{H:Hp}{s:Shared}
abbrev lamOb (q:Str) (params:Arguments) (body:Expr) (scope:Scope) (cl:List (Str × Addr)) (pm cd ctv:Value):Obj :=
 { cls:=.type "function",data:=.func (PySem.W.kla_fn "<lambda>" q params body scope cl pm cd ctv) }
theorem lam_makeT {A:Around}{E:Value->Shared->Prop}{Q:Value->Shared->Prop}{P c:Addr}{q:Str}{params:Arguments}{body:Expr}{scope:Scope}{lpos:Pos}{cl:List (Str × Addr)} (I:Inv X pins σ H s) (e:H P=some (tabO q))
  (hcd:X.env.code=.ref c) (hC:PySem.W.codeHdIn X.K c P=true) (hq:X.env.qual++"<lambda>"=q) (hd:defaultsOf params X.env=([],[])) (hcl:clo X.env.cells scope.names []=some cl)
  (k:∀ f c' ctv H' s',Inv X pins σ H' s'->Same H H'->H f=none->H' f=some (.frz (lamOb q params body scope cl ((X.mg "__name__").getD .none) (.ref c') ctv) (.own P))->CodAt H' P q c'->Q (.ref f) s') :
  wpAny (model X.prog X.w) A (eval (.Lambda params body scope lpos) X.env) Q E s:=by
 refine PySem.W.kla_eval hd ?_
 rw [hq]
 have C:=PySem.W.codeHd_of_K I.kIn hC
 obtain ⟨qs,g1,g2,g3⟩:=tab_of I e
 have hg:=I.mod.glob.keeps I.bk
 obtain ⟨bm,ob,b1,b2,b3,b4,b5,b6⟩:=I.mod.bmn
 have hgP:mainGlobals≠P:=fun z=>by
  obtain ⟨o,es,ep,w1,w2,_⟩:=I.mod.glob
  have:=(I.bs _ _ w1).2
  rw [z,e] at this;cases this
 have hbP:bm≠P:=fun z=>by
  have:=(I.bs _ _ b3).2
  rw [z,e] at this;cases this
 have hbG:bm≠mainGlobals:=fun z=>by
  obtain ⟨o,es,ep,w1,w2,_⟩:=I.mod.glob
  rw [z,w1] at b3;cases b3;rw [w2] at b6;cases b6
 have hb:s.heap.BuiltinsAt X.mg P:=⟨bm,ob,b1,b2,hbG,hbP,I.bk _ _ b3,b4,b5,b6⟩
 have hcl':=closureFor_clo hcl
 cases hf:codeAmong lpos qs.toList with
 | none =>
  refine PySem.W.kla_makeFunction (mg:=X.mg) hcl' I.ok.glob hg hcd C g1 g2 hf hgP hb fun c' ctv h' tk hx hge hlt hrec htb=>?_
  obtain ⟨c2,oc,vs,t,z1,z2,z3,z4⟩:=id hrec
  cases z1
  have I1:Inv X pins σ (upd H c' (.frz oc (.own P))) { s with heap:=h',toks:=tk }:=I.tabled (ps:=qs) e (fun b o hb z=>hx b o hb z) hge htb (by simpa using TriplesOk_snoc _ _ _ _ g2) (fun pos x z=>among_snoc qs.toList g2 x (by simpa using z)) g1 z2 z3 z4
  have hn:=I.hok.fresh hge
  have kp:∀ b o,h'.get? b=some o->(h'.push (PySem.W.kla_obj "<lambda>" q params body scope cl ((X.mg "__name__").getD .none) c' ctv)).get? b=some o:=fun b o z=>Heap.get?_push_of_some _ z
  have hf1:=I1.hok.fresh (Nat.le_refl h'.objs.size)
  have hfH:H h'.objs.size=none:=I.hok.fresh (Nat.le_of_lt (Nat.lt_of_le_of_lt hge hlt))
  refine k h'.objs.size c' ctv _ _ (I1.laid (a:=h'.objs.size) (o:=.frz (lamOb q params body scope cl ((X.mg "__name__").getD .none) (.ref c') ctv) (.own P)) (t':=tk) kp (Nat.le_refl _) ⟨Heap.get?_push_size _ rfl,_,Heap.get?_push_size _ rfl⟩) ((same_upd hn).trans (same_upd hf1)) hfH upd_same ?_
  exact CodAt.same ⟨oc,vs,t,upd_same,z3,z4⟩ (same_upd hf1)
 | some cv =>
  obtain ⟨c',oc,vs,t,a1,a2,a3,a4,a5⟩:=g3 lpos cv hf
  subst a1
  refine PySem.W.kla_makeFunctionHit (mg:=X.mg) hcl' I.ok.glob hg hcd C g1 g2 hf hb fun ctv h' tk hx hsz=>?_
  have kp:∀ b o,s.heap.get? b=some o->(h'.push { cls:=.type "function",data:=.func (PySem.W.kla_fn "<lambda>" q params body scope cl ((X.mg "__name__").getD .none) (.ref c') ctv) }).get? b=some o:=fun b o z=>Heap.get?_push_of_some _ (hx b o z)
  have hf1:=I.hok.fresh hsz
  refine k h'.objs.size c' ctv _ _ (I.laid (a:=h'.objs.size) (o:=.frz (lamOb q params body scope cl ((X.mg "__name__").getD .none) (.ref c') ctv) (.own P)) (t':=tk) kp hsz ⟨Heap.get?_push_size _ rfl,_,Heap.get?_push_size _ rfl⟩) (same_upd hf1) hf1 upd_same ?_
  exact CodAt.same ⟨oc,vs,t,a2,a4,a5⟩ (same_upd hf1)
def BarF (q:Str) (Pt:Addr) (H:Hp) (f:Addr):Prop:=∃ (pm ctv:Value) (c':Addr) (params:Arguments) (scope:Scope) (x:Str) (j:Nat) (p:Pos),
 H f=some (.frz (lamOb q params (.Constant (.bool false) j p) scope [] pm (.ref c') ctv) (.own Pt))/\CodAt H Pt q c' ∧
 (∀ u:Value,bindArgs (PySem.W.kla_fn "<lambda>" q params (.Constant (.bool false) j p) scope [] pm (.ref c') ctv) ⟨[u],[]⟩=pure [(x,u)]) ∧
 scope.isCoroutine=false/\scope.isGenerator=false/\scope.kind=.function/\(∀ y∈scope.names,y.2≠.cell)/\scope.names.lookup x=some .local
theorem BarF.same {q:Str}{Pt f:Addr}{H H':Hp} (h:BarF q Pt H f) (s:Same H H'):BarF q Pt H' f:=by
 obtain ⟨pm,ctv,c',params,scope,x,j,p,h1,h2,h3⟩:=h
 exact ⟨pm,ctv,c',params,scope,x,j,p,s _ _ h1,h2.same s,h3⟩
theorem bar_call {A:Around}{R:Value->Shared->Prop}{E:Value->Shared->Prop}{q:Str}{Pt f:Addr}{u:Value} (I:Inv X pins σ H s) (hr:A.depth < recursionLimit) (B:BarF q Pt H f) (k:∀ s',Inv X pins σ H s'->R (.bool false) s') :
  wpAny (model X.prog X.w) A (call (.ref f) [u]) R E s:=by
 obtain ⟨pm,ctv,c',params,scope,x,j,p,hf,hc,hbind,hco,hgen,hk,hcell,hx⟩:=B
 have hf':=(I.hok f _ hf).1
 refine wpAny_call (PySem.W.kla_callFunE hr hf' rfl hco hgen rfl (hc.rec I) ?_)
 rw [hbind]
 refine wpAny_pure (wpAny_newFunctionEnv hcell (fun y hy=>by rw [List.mem_singleton.mp hy];exact hx) (fun h₁ hns hsb=>⟨(I.nolimit).fresh _ hsb,?_⟩) hk)
 show codeAny _ _ (.expr _ (PySem.W.envX q scope s.heap.objs.size f (.ref c') [])) _ _
 have k1:∀ b o,s.heap.get? b=some o->h₁.get? b=some o:=fun b o z=>hsb.extBut b o (Nat.ne_of_lt (Heap.lt_size z)) (Heap.get?_push_of_some _ z)
 have I1:Inv X pins σ H { s with heap:=h₁,toks:=s.toks + 1 }:=I.kept (t':=s.toks + 1) k1
 refine PySem.W.kla_codeExpr ?_
 exact Constant_bool (k _ I1)
end
def tLamF (q:Str) (Pt:Addr):TE:=fun _ H Q=>H Pt=some (tabO q)/\∀ f H',H f=none->Same H H'->BarF q Pt H' f->Q (.ref f) H'
theorem ap_lamF {q:Str}{Pt:Addr}{σ:St}{H:Hp}{Q:VK}:tLamF q Pt σ H Q=(H Pt=some (tabO q)/\∀ f H',H f=none->Same H H'->BarF q Pt H' f->Q (.ref f) H'):=propext Iff.rfl
def tCallF (q:Str) (Pt:Addr) (tv:TE) (t:TA):TE:=fun σ H Q=>tv σ H fun x H1=>∃ f,x=.ref f/\BarF q Pt H1 f/\t σ H1 fun vs H2=>BarF q Pt H2 f/\vs.length=1/\Q (.bl false) H2
theorem ap_callF {q:Str}{Pt:Addr}{tv:TE}{t:TA}{σ:St}{H:Hp}{Q:VK}:tCallF q Pt tv t σ H Q=tv σ H fun x H1=>∃ f,x=.ref f/\BarF q Pt H1 f/\t σ H1 fun vs H2=>BarF q Pt H2 f/\vs.length=1/\Q (.bl false) H2:=propext Iff.rfl
section
variable {X:Cx}
theorem pe_lamF {Pt c:Addr}{q x:Str}{params:Arguments}{scope:Scope}{j:Nat}{p lpos:Pos} (hcd:X.env.code=.ref c) (hC:PySem.W.codeHdIn X.K c Pt=true) (hq:X.env.qual++"<lambda>"=q) (hcl:clo X.env.cells scope.names []=some [])
  (hx:scope.names.lookup x=some .local)
  (hbind:∀ (pm ctv:Value) (c':Addr) (u:Value),bindArgs (PySem.W.kla_fn "<lambda>" q params (.Constant (.bool false) j p) scope [] pm (.ref c') ctv) ⟨[u],[]⟩=pure [(x,u)])
  (hd:defaultsOf params X.env=([],[]):=by rfl)
  (hco:scope.isCoroutine=false:=by rfl) (hgen:scope.isGenerator=false:=by rfl) (hk:scope.kind=.function:=by rfl) (hcell:∀ y∈scope.names,y.2≠.cell:=by decide +kernel) :
  PE X (.Lambda params (.Constant (.bool false) j p) scope lpos) (tLamF q Pt):=by
 intro pins s σ H Q I h
 obtain ⟨h1,h2⟩:=h
 exact lam_makeT I h1 hcd hC hq hd hcl fun f c' ctv H' s' I' sm hn hf hc=>⟨.ref f,H',I',rfl,h2 f H' hn sm ⟨_,ctv,c',params,scope,x,j,p,hf,hc,fun u=>hbind _ _ _ u,hco,hgen,hk,hcell,hx⟩⟩
theorem pe_callBar {Pt:Addr}{q x:Str}{e:Expr}{tv:TE}{t:TA}{p pos:Pos}{k:Nat} (hv:PE X (.Name x p) tv) (hr:Room k X.A) (ha:PA X [e] t) (hs:noStars [e]=true:=by kernel_rfl):PE X (.Call (.Name x p) [e] [] pos) (tCallF q Pt tv t):=by
 intro pins s σ H Q I h
 refine wpAny_Call_Name_kw (thn (hv pins s σ H _ I h) fun u s1 ⟨v,H1,I1,r,f,ev,B1,q1⟩=>?_)
 subst ev
 cases r
 have fnA:∀ {H:Hp}{s:Shared},Inv X pins σ H s->BarF q Pt H f->PySem.W.FnAt f s.heap:=fun I B=>by
  obtain ⟨pm,ctv,c',params,scope,x,j,p,hf,_⟩:=B
  exact ⟨_,_,_,_,(I.hok f _ hf).1⟩
 refine PySem.W.callWith_F (fnA I1 B1) (thn (ha pos pins s1 σ H1 _ I1 q1) fun us s2 ⟨vs,H2,I2,r2,B2,l2,q2⟩=>⟨fnA I2 B2,?_⟩) (starEach_cons (noStars_tail hs).1) (backTo_any (noStars_tail hs).2)
 obtain ⟨u,rfl⟩:∃ u,us=[u]:=by
  have:=r2.length
  rw [l2] at this
  match us,this with
  | [u],_=>exact ⟨u,rfl⟩
 exact bar_call I2 hr.depth B2 fun s3 I3=>⟨.bl false,H2,I3,rfl,q2⟩
end
def rLenD:List V->Hp->VK->Prop:=fun vs H Q=>match vs with
 | [.ref a]=>∃ kvs,Rd H a (.dK kvs)/\Q (.int kvs.length) H
 | _=>False
theorem ev_rLenD {a:Addr}{H:Hp}{Q:VK}:rLenD [.ref a] H Q=(∃ kvs,Rd H a (.dK kvs)/\Q (.int kvs.length) H):=propext Iff.rfl
theorem call_lenD {X:Cx}:CallR X (.builtin "len") rLenD:=by
 intro pins s σ H xs us Q I r h
 match xs,h with
 | [.ref a],h =>
  obtain ⟨kvs,ha,q⟩:=h
  obtain ⟨u,rfl,r2⟩:=vals1 r
  cases r2
  exact d_len I ha fun t s' I'=>⟨.int kvs.length,H,I',⟨t,rfl⟩,q⟩
def rSortD:List V->Hp->VK->Prop:=fun vs H Q=>match vs with
 | [.ref a]=>∃ kvs:List (Int × V),Rd H a (.dK (kvs.map fun q=>(.inl q.1,q.2)))/\kvs.length < 64/\∀ ns:List Int,ns.Perm (kvs.map (·.1))->ns.Pairwise (·<=·)->nw H (.lst (ns.map V.int)) Q
 | _=>False
theorem ev_rSortD {a:Addr}{H:Hp}{Q:VK}:rSortD [.ref a] H Q=(∃ kvs:List (Int × V),Rd H a (.dK (kvs.map fun q=>(.inl q.1,q.2)))/\kvs.length < 64/\∀ ns:List Int,ns.Perm (kvs.map (·.1))->ns.Pairwise (·<=·)->nw H (.lst (ns.map V.int)) Q):=propext Iff.rfl
theorem ints_tab:∀ {vs:List Value}{ns:List Int},vs.length=ns.length->(∀ (i:Nat) v,vs[i]?=some v->∃ n t,ns[i]?=some n/\v=.int n t)->IntsAre vs ns
 | [],[],_,_=>.nil
 | v::vs,n::ns,hl,h=>by
  obtain ⟨m,t,e,rfl⟩:=h 0 v rfl
  cases e
  exact .cons _ t (ints_tab (by simpa using hl) fun i v e=>h (i + 1) v (by simpa using e))
theorem vals_of_ints:∀ {ns:List Int}{us:List Value},IntsAre us ns->Vals (ns.map V.int) us
 | _,_,.nil=>.nil
 | _,_,.cons z t h=>.cons ⟨t,rfl⟩ (vals_of_ints h)
section
variable {prog:Program}{w:World}{A:Around}{E:Value->Shared->Prop}{s:Shared}
theorem sort_src {T:String}{r d:Addr}{n:Nat}{Pv:Nat->Value->Prop}{OK:Heap->Prop}{ns:List Int}{Q:Value->Shared->Prop} (K:PySem.W.KdlSrc prog w T r d n Pv OK) (hh:A.handled=none) (hok:OK s.heap) (hn:n < 64) (hl:ns.length=n)
  (hv:∀ (i:Nat) v,i < n->Pv i v->∃ m t,ns[i]?=some m/\v=.int m t)
  (k:∀ (h1 h':Heap) (tk:Nat) (out:Array Value) (ms:List Int) (c:Nat),(∀ b o,s.heap.get? b=some o->h1.get? b=some o)->(∀ b o,h1.get? b=some o->h'.get? b=some o)->h'.get? h1.objs.size=some (seqObj "list" out c)->IntsAre out.toList ms->ms.Perm ns->ms.Pairwise (·<=·)->Q (.ref h1.objs.size) { s with heap:=h',toks:=tk }) :
  wpAny (model prog w) A (call (.builtin "sorted") [.ref r]) Q E s:=by
 refine Calls.call_function_entry kind_sorted plain_sorted entry_sorted (args_sorted1 _) ?_
 unfold Builtin.«sorted»
 have hz:n<=sizeLine:=Nat.le_of_lt (Nat.lt_of_lt_of_le hn (by rw [sizeLine_eq];omega))
 refine wpAny_bind (m:=checkCount "sorted" 1 1 _) (wpAny_pure (wpAny_bind (PySem.W.kdu_collect (A:=A.in1) K hh hok hz fun h1 tk acc k1 hacc=>?_)))
 have la:acc.toList.length=n:=by rw [Array.length_toList];exact hacc.1
 have hI:IntsAre acc.toList ns:=ints_tab (by rw [la,hl]) fun i v e=>hv i v (by rw [← la];exact (List.getElem?_eq_some_iff.mp e).1) (hacc.2 i v (by rw [← Array.getElem?_toList];exact e))
 generalize acc.toList=vs at hI la
 refine wpAny_bind (wpAny_newList ?_ (by rw [la];exact hz))
 have gL:(h1.push (seqObj "list" vs.toArray 0)).get? h1.objs.size=some (seqObj "list" vs.toArray 0):=Heap.get?_push_size _ rfl
 refine wpAny_bind (wpAny_holding (wpAny_call_entry slot_list_sort ⟨_,gL,rfl⟩ entry_list_sort (list_sort_tree gL hI (by omega) fun out ms b1 b2 b3=>⟨_,rfl,wpAny_pure ⟨_,rfl,?_⟩⟩) (args_list_sort _)))
 obtain ⟨e1,g1⟩:∃ e1,((h1.push (seqObj "list" vs.toArray 0)).update h1.objs.size (Obj.mapSeq fun _=>#[])).get? h1.objs.size=some (seqObj "list" #[] e1):=⟨_,get?_update_seq gL fun _=>#[]⟩
 have g2:((((h1.push (seqObj "list" vs.toArray 0)).update h1.objs.size (Obj.mapSeq fun _=>#[])).push (seqObj "tuple" vs.toArray 0)).push (seqObj "list" #[] 0)).get? h1.objs.size=some (seqObj "list" #[] e1):=Heap.get?_push_of_some _ (Heap.get?_push_of_some _ g1)
 refine show Q (.ref h1.objs.size) { s with heap:=sortedHeap (h1.push (seqObj "list" vs.toArray 0)) h1.objs.size vs out,toks:=tk } from ?_
 obtain ⟨c3,g3⟩:∃ c3,(sortedHeap (h1.push (seqObj "list" vs.toArray 0)) h1.objs.size vs out).get? h1.objs.size=some (seqObj "list" out c3):=⟨_,get?_update_seq g2 fun _=>out⟩
 refine k h1 _ tk out ms c3 k1 (fun b o z=>?_) g3 b1 b2 b3
 have hb:h1.objs.size≠b:=Nat.ne_of_gt (Heap.lt_size z)
 exact (Heap.get?_update_other _ _ hb).trans (Heap.get?_push_of_some _ (Heap.get?_push_of_some _ ((Heap.get?_update_other _ _ hb).trans (Heap.get?_push_of_some _ z))))
end
theorem call_sortD {X:Cx} (hc:X.calm=true):CallR X (.builtin "sorted") rSortD:=by
 intro pins s σ H xs us Q I r h
 match xs,h with
 | [.ref a],h =>
  obtain ⟨kvs,ha,h64,k⟩:=h
  obtain ⟨u,rfl,r2⟩:=vals1 r
  cases r2
  obtain ⟨z,hd,vs,rel,dd⟩:=dk_rd I.hok ha
  obtain ⟨ep,hat⟩:=dd.dictAt
  have lv:(kvs.map fun q=>((.inl q.1,q.2):Key × V)).length=vs.length:=Paired.length rel
  rw [List.length_map] at lv
  refine sort_src (ns:=kvs.map (·.1)) (PySem.W.kdl_dict (knd:=mixKind X.prog X.w) (kvs:=vs) (ep:=ep) hd) (I.ok.hd hc) hat (by omega) (by rw [List.length_map];omega) (fun i v hi hP=>?_) fun h1 h' tk out ms c k1 k2 hg hS hp hs=>?_
  ·obtain ⟨kk,x,e,hk⟩:=hP
   have e1:kvs[i]?=some (kvs[i]'(by omega)):=List.getElem?_eq_getElem _
   have e2:(kvs.map fun q=>((.inl q.1,q.2):Key × V))[i]?=some (.inl (kvs[i]'(by omega)).1,(kvs[i]'(by omega)).2):=by rw [List.getElem?_map,e1];rfl
   obtain ⟨y,ey,f1,f2⟩:=paired_at rel e2
   rw [e] at ey
   cases ey
   have f1':kk=.inl (kvs[i]'(by omega)).1:=f1.symm
   subst f1'
   obtain ⟨t,et⟩:∃ t,v=.int (kvs[i]'(by omega)).1 t:=by
    have hk':keyIs (Sum.inl (kvs[i]'(by omega)).1) v=true:=hk
    rcases keyIs_shape hk' with ⟨n,t,e3,e4⟩ | ⟨y,t,e3,e4⟩
    ·rw [Sum.inl.inj e3];exact ⟨t,e4⟩
    ·cases e3
   exact ⟨_,t,by rw [List.getElem?_map,e1];rfl,et⟩
  ·have I1:Inv X pins σ H { s with heap:=h1,toks:=tk }:=I.kept (t':=tk) k1
   have hn:=I1.hok.fresh (Nat.le_refl h1.objs.size)
   have lw:=hp.length_eq
   rw [List.length_map] at lw
   exact ⟨.ref h1.objs.size,upd H h1.objs.size (.lst (ms.map V.int)),I1.laid (t':=tk) (o:=.lst (ms.map V.int)) k2 (Nat.le_refl _) ⟨by rw [List.length_map,lw];exact Nat.le_of_lt (Nat.lt_of_lt_of_le h64 (by rw [sizeLine_eq];omega)),out.toList,c,vals_of_ints hS,by rw [Array.toArray_toList];exact hg⟩,rfl,k ms hp hs _ _ hn (same_upd hn) upd_same⟩
end L2

namespace L2
open PySem PySem.Spec PyProof.Rows
def outK {κ:Type} [DecidableEq κ] (kvs:List (κ × V)) (k:κ):List (κ × V):=kvs.filter fun q=>decide (q.1≠k)
theorem KV.out {kvs:List (Key × V)}{xs:List (Key × Value)} (r:KV kvs xs) (k:Key):KV (outK kvs k) (without xs k):=by
 induction r with
 | nil=>exact .nil
 | @cons a b l₁ l₂ f t ih =>
  obtain ⟨e,rv⟩:=f
  unfold outK without at *
  by_cases h:a.1=k
  ·rw [List.filter_cons_of_neg (by simp [h]),List.filter_cons_of_neg (by simp [← e,h])];exact ih
  ·rw [List.filter_cons_of_pos (by simp [h]),List.filter_cons_of_pos (by simp [← e,h])];exact .cons ⟨e,rv⟩ ih
section
variable {prog:Program}{w:World}{K:Type} [DecidableEq K] {knd:HeapKind prog w K}{A:Around}{E:Value->Shared->Prop}{s:Shared}{d a:Addr}{xs:List (K × Addr × Value)}{k:K}
def outH (xs:List (K × Addr × Value)) (k:K):List (K × Addr × Value):=xs.filter fun q=>decide (q.1≠k)
end
theorem KT.out {H:Hp}{kvs:List (List Key × V)}{xs:List (List Key × Addr × Value)} (r:KT H kvs xs) (k:List Key):KT H (outK kvs k) (outH xs k):=by
 unfold KT at *
 induction r with
 | nil=>exact .nil
 | @cons a b l₁ l₂ f t ih =>
  have e:a.1=b.1:=f.1
  unfold outK outH at *
  by_cases h:a.1=k
  ·rw [List.filter_cons_of_neg (by simp [h]),List.filter_cons_of_neg (by simp [← e,h])];exact ih
  ·rw [List.filter_cons_of_pos (by simp [h]),List.filter_cons_of_pos (by simp [← e,h])];exact .cons f ih
end L2

namespace L2
open PySem PySem.Spec PyProof.Rows
section
variable {prog:Program}{w:World}{A:Around}{E:Value->Shared->Prop}{s:Shared}
theorem tup_next {j tt:Addr}{n:Nat}{its:Array Value}{v:Value}{Q:Value->Shared->Prop} (hj:s.heap.IsTupleIter j tt n) (htt:s.heap.IsTuple tt its) (hv:its[n]?=some v)
  (hQ:∀ h',h'.IsTupleIter j tt (n + 1)->Heap.SameBut j s.heap h'->Q v { s with heap:=h' }):wpAny (model prog w) A (Builtin.SmallTypes.nextOf (.ref j)) Q E s:=by
 have hT:=hj.typeIs
 obtain ⟨o,ho,hc,hd⟩:=id hj
 obtain ⟨p,hp,_,m,hq⟩:=htt
 have run:wpAny (model prog w) A.in1 (Builtin.«tuple_iterator.__next__» ⟨[.ref j],[]⟩) (fun f s'=>∃ u,f=Fin.done (.ret u)/\wpAny (model prog w) A (pure u) Q E s') E s:=by
  show wpAny _ _ (field (.ref j) 0 >>= _) _ _ s
  refine wpAny_bind (wpAny_field (i:=0) ho hd (x:=.ref tt) rfl ?_)
  simp only [show (Value.ref tt == Value.none)=false from rfl,Bool.false_eq_true,if_false]
  refine wpAny_bind (wpAny_field (i:=1) ho hd (x:=.int n 0) rfl ?_)
  refine wpAny_bind (wpAny_seqItems hp hq ?_)
  simp only [Int.toNat_natCast,hv]
  refine wpAny_bind (wpAny_setField ho hd (by simp) (wpAny_pure ⟨v,rfl,wpAny_pure (hQ _ ?_ (.update ..))⟩))
  refine ⟨_,Heap.get?_update_self _ ho (Obj.isFreed_of_fields (Obj.data_mapFields hd _)),?_,?_⟩
  ·rw [Obj.cls_mapFields];exact hc
  ·rw [Obj.data_mapFields hd];simp [rawInt]
 unfold Builtin.SmallTypes.nextOf
 exact wpAny_bind (wpAny_callSpecial?_slot (name:=Str.ofString "__next__") hT F.slot_tuple_iterator_next (wpAny_call_entry F.slot_tuple_iterator_next hT F.entry_tuple_iterator_next run (F.args_tuple_iterator_next_1 _)))
theorem tup_end {j tt:Addr}{n:Nat}{its:Array Value}{Q:Value->Shared->Prop} (hh:A.handled=none) (hj:s.heap.IsTupleIter j tt n) (htt:s.heap.IsTuple tt its) (hv:its[n]?=none)
  (hE:∀ h' e,Heap.ExtBut j s.heap h'->(∃ o,h'.get? e=some o/\o.cls=.type "StopIteration")->E (.ref e) { s with heap:=h' }):wpAny (model prog w) A (Builtin.SmallTypes.nextOf (.ref j)) Q E s:=by
 have hT:=hj.typeIs
 obtain ⟨o,ho,hc,hd⟩:=id hj
 obtain ⟨p,hp,_,m,hq⟩:=htt
 have run:∀ R:Fin->Shared->Prop,wpAny (model prog w) A.in1 (Builtin.«tuple_iterator.__next__» ⟨[.ref j],[]⟩) R E s:=by
  intro R
  show wpAny _ _ (field (.ref j) 0 >>= _) _ _ s
  refine wpAny_bind (wpAny_field (i:=0) ho hd (x:=.ref tt) rfl ?_)
  simp only [show (Value.ref tt == Value.none)=false from rfl,Bool.false_eq_true,if_false]
  refine wpAny_bind (wpAny_field (i:=1) ho hd (x:=.int n 0) rfl ?_)
  refine wpAny_bind (wpAny_seqItems hp hq ?_)
  simp only [Int.toNat_natCast,hv]
  refine wpAny_bind (wpAny_rule (wpAny_bind (wpAny_setField ho hd (by simp) ?_)))
  show wpAny _ _ (newExc (.type "StopIteration") [] >>= raiseNew) _ _ _
  refine wpAny_bind ?_;simp only [newExc,newTuple]
  refine wpAny_bind (wpAny_newObj_type (wpAny_bind (m:=firstArgMember _ _) (wpAny_of_eq (a:=Value.none) (by first | rfl | (simp only [firstArgMember];rfl)) (wpAny_newObj_type ?_ (by size_fits)))) (by size_fits))
  simp only [raiseNew];refine wpAny_bind (wpAny_handled ?_);rw [show A.in1.handled=none from hh]
  refine wpAny_bind (wpAny_pure (wpAny_throw (hE _ _ (((Heap.SameBut.update ..).extBut.push _).push _) ⟨_,Heap.get?_push_size _ rfl,rfl⟩)))
 unfold Builtin.SmallTypes.nextOf
 exact wpAny_bind (wpAny_callSpecial?_slot (name:=Str.ofString "__next__") hT F.slot_tuple_iterator_next (wpAny_call_entry F.slot_tuple_iterator_next hT F.entry_tuple_iterator_next (run _) (F.args_tuple_iterator_next_1 _)))
end
theorem draws_tup {prog:Program}{w:World}{A:Around} (hh:A.handled=none) (j tt:Addr) (hne:tt≠j) (its:Array Value) :
  Draws prog w A j [j,tt] its.size (fun i v=>its[i]?=some v) (fun i h=>h.IsTupleIter j tt i/\h.IsTuple tt its) where
 live:=fun _ _ ⟨⟨o,ho,_⟩,_⟩=>⟨o,ho⟩
 frame:=fun _ _ _ ⟨a,⟨o,e,r⟩⟩ hk=>⟨a.at fun o e=>hk j (by simp) o e,⟨o,hk tt (by simp) o e,r⟩⟩
 item:=fun i s Q E hi ⟨a,b⟩ hQ=>tup_next a b (Array.getElem?_eq_getElem hi) fun h' a' sb=>hQ _ h' s.toks (Array.getElem?_eq_getElem hi) ⟨a',let ⟨o,e,r⟩:=b;⟨o,sb.extBut _ _ hne e,r⟩⟩ sb
 done:=fun s Q E ⟨a,b⟩ hE=>tup_end hh a b (by simp) hE
section
variable {prog:Program}{w:World}{A:Around}{E:Value->Shared->Prop}{s:Shared}
abbrev zpO (t:Addr):Obj:={ cls:=.type "tuple_iterator",data:=.fields #[.ref t,.int 0 0] }
abbrev zpP (x y:Value):Obj:={ cls:=.type "tuple",data:=.seq #[x,y] }
set_option maxHeartbeats 4000000 in
theorem meets_zip_newP (t u:Addr) (xs ys:Array Value) :
  Meets (Builtin.«zip.__new__» ⟨[.type "zip",.ref t,.ref u],[]⟩) (fun _ R s=>s.heap.IsTuple t xs/\s.heap.IsTuple u ys ∧
   R (.ok (.ret (.ref ((((s.heap.push (zpO t)).push (zpO u)).push (zpP (.ref s.heap.objs.size) (.ref (s.heap.push (zpO t)).objs.size))).push (zpP .none .none)).objs.size)))
    { s with heap:=Heap.push ((((s.heap.push (zpO t)).push (zpO u)).push (zpP (.ref s.heap.objs.size) (.ref (s.heap.push (zpO t)).objs.size))).push (zpP .none .none)) ({ cls:=.type "zip",data:=.fields #[.none,.bool false,.bool false,.ref ((s.heap.push (zpO t)).push (zpO u)).objs.size,.ref (((s.heap.push (zpO t)).push (zpO u)).push (zpP (.ref s.heap.objs.size) (.ref (s.heap.push (zpO t)).objs.size))).objs.size] }) }) :=
 .of_wp fun prog w A R s h=>by
  obtain ⟨hp,g,d,tk,os⟩:=s;obtain ⟨ht,hu,h⟩:=h
  have hsub:=sub_zip
  have hU:Heap.IsTuple (Shared.heap ⟨hp.push (zpO t),g,d,tk,os⟩) u ys:=let ⟨o,e,r⟩:=hu;⟨o,Heap.get?_push_of_some _ e,r⟩
  wp_walk using wpAny_pyIter_tuple ht,wpAny_pyIter_tuple hU
  exact ⟨_,rfl,h⟩
theorem call_zipP {t u:Addr}{xs ys:Array Value}{Q:Value->Shared->Prop} (ht:s.heap.IsTuple t xs) (hu:s.heap.IsTuple u ys)
  (h:∀ h',IsZip h' (s.heap.objs.size + 4) (s.heap.objs.size + 2) (s.heap.objs.size + 3) .none->IsPair h' (s.heap.objs.size + 2) (.ref s.heap.objs.size) (.ref (s.heap.objs.size + 1)) →
   IsPair h' (s.heap.objs.size + 3) .none .none->h'.IsTupleIter s.heap.objs.size t 0->h'.IsTupleIter (s.heap.objs.size + 1) u 0 →
   (∀ c o,s.heap.get? c=some o->h'.get? c=some o)->Q (.ref (s.heap.objs.size + 4)) { s with heap:=h' }) :
  wpAny (model prog w) A (call (.type "zip") [.ref t,.ref u]) Q E s:=by
 refine callType_new F.called_zip (by decide) (F.typeCall_zip_2 _ _) (F.newCall_zip_2 _ _) (fun obj=>F.args_object_init_3 obj _ _) F.entry_zip_new (meets_zip_newP t u xs ys) ⟨ht,hu,?_⟩
 have z1:(s.heap.push (zpO t)).objs.size=s.heap.objs.size + 1:=Heap.size_push ..
 have z2:((s.heap.push (zpO t)).push (zpO u)).objs.size=s.heap.objs.size + 2:=by rw [Heap.size_push,z1]
 rw [z1,z2]
 have z3:(((s.heap.push (zpO t)).push (zpO u)).push (zpP (.ref s.heap.objs.size) (.ref (s.heap.objs.size + 1)))).objs.size=s.heap.objs.size + 3:=by rw [Heap.size_push,z2]
 rw [z3]
 have z4:((((s.heap.push (zpO t)).push (zpO u)).push (zpP (.ref s.heap.objs.size) (.ref (s.heap.objs.size + 1)))).push (zpP .none .none)).objs.size=s.heap.objs.size + 4:=by rw [Heap.size_push,z3]
 rw [z4]
 generalize hA:s.heap.push (zpO t)=A1 at *
 have gA:A1.get? s.heap.objs.size=some (zpO t):=by rw [← hA];exact Heap.get?_push_size _ rfl
 have kA:∀ c o,s.heap.get? c=some o->A1.get? c=some o:=fun c o e=>by rw [← hA];exact Heap.get?_push_of_some _ e
 generalize hB:A1.push (zpO u)=B1 at *
 have gB:B1.get? (s.heap.objs.size + 1)=some (zpO u):=by rw [← hB,← z1];exact Heap.get?_push_size _ rfl
 have kB:∀ c o,A1.get? c=some o->B1.get? c=some o:=fun c o e=>by rw [← hB];exact Heap.get?_push_of_some _ e
 generalize hC:B1.push (zpP (.ref s.heap.objs.size) (.ref (s.heap.objs.size + 1)))=C1 at *
 have gC:IsPair C1 (s.heap.objs.size + 2) (.ref s.heap.objs.size) (.ref (s.heap.objs.size + 1)):=by rw [← hC,← z2];exact Heap.get?_push_size _ rfl
 have kC:∀ c o,B1.get? c=some o->C1.get? c=some o:=fun c o e=>by rw [← hC];exact Heap.get?_push_of_some _ e
 generalize hD:C1.push (zpP .none .none)=D1 at *
 have gD:IsPair D1 (s.heap.objs.size + 3) .none .none:=by rw [← hD,← z3];exact Heap.get?_push_size _ rfl
 have kD:∀ c o,C1.get? c=some o->D1.get? c=some o:=fun c o e=>by rw [← hD];exact Heap.get?_push_of_some _ e
 generalize hF:D1.push { cls:=.type "zip",data:=.fields #[.none,.bool false,.bool false,.ref (s.heap.objs.size + 2),.ref (s.heap.objs.size + 3)] }=F1 at *
 have gF:IsZip F1 (s.heap.objs.size + 4) (s.heap.objs.size + 2) (s.heap.objs.size + 3) .none:=by rw [← hF,← z4];exact Heap.get?_push_size _ rfl
 have kF:∀ c o,D1.get? c=some o->F1.get? c=some o:=fun c o e=>by rw [← hF];exact Heap.get?_push_of_some _ e
 exact ⟨⟨_,gF,rfl⟩,h _ gF (kF _ _ (kD _ _ gC)) (kF _ _ gD) ⟨_,kF _ _ (kD _ _ (kC _ _ (kB _ _ gA))),rfl,rfl⟩ ⟨_,kF _ _ (kD _ _ (kC _ _ gB)),rfl,rfl⟩ fun c o e=>kF _ _ (kD _ _ (kC _ _ (kB _ _ (kA _ _ e))))⟩
end
def Itzp (K:PySem.W.Frag) (a b:Addr):It :=
 ⟨fun i H=>∃ xs ys,SqT K H a xs/\SqT K H b ys/\xs.length=ys.length/\i < xs.length,
  fun i H v H'=>∃ x y p,(∀ xs,SqT K H a xs->xs[i]?=some x)/\(∀ ys,SqT K H b ys->ys[i]?=some y)/\v=.ref p/\H p=none/\H'=upd H p (.tup [x,y]),
  fun i H=>∃ xs,SqT K H a xs/\i=xs.length⟩
theorem zipp_obj {h:Heap}{a b zz TI TO i1 i2:Addr}{i:Nat} (st:IsZip h zz TI TO .none/\IsPair h TI (.ref i1) (.ref i2)/\(∃ x y,IsPair h TO x y)/\h.IsTupleIter i1 a i/\h.IsTupleIter i2 b i):∀ c∈[zz,TI,TO,i1,i2],∃ o,h.get? c=some o/\∀ v,o.data≠.cell v:=fun c hc=>by
 obtain ⟨hz,hTI,⟨x,y,hTO⟩,⟨o1,e1,c1,d1⟩,⟨o2,e2,c2,d2⟩⟩:=st
 simp only [List.mem_cons,List.not_mem_nil,or_false] at hc
 rcases hc with rfl | rfl | rfl | rfl | rfl
 ·exact ⟨_,hz,fun v q=>by have q':Data.fields _=Data.cell v:=q;cases q'⟩
 ·exact ⟨_,hTI,fun v q=>by have q':Data.seq _ _=Data.cell v:=q;cases q'⟩
 ·exact ⟨_,hTO,fun v q=>by have q':Data.seq _ _=Data.cell v:=q;cases q'⟩
 ·exact ⟨o1,e1,fun v q=>by rw [d1] at q;cases q⟩
 ·exact ⟨o2,e2,fun v q=>by rw [d2] at q;cases q⟩
theorem turn_zipp {P:Program}{w:World}{K:PySem.W.Frag}{elts:List Expr}{k:Nat}{pos:Pos} (a b zz TI TO i1 i2:Addr) (D:ZipApart zz TI TO i1 i2 a b):Turn P w K (.Tuple elts k pos) (Itzp K a b) [zz,TI,TO,i1,i2] zz
  (fun i h=>IsZip h zz TI TO .none/\IsPair h TI (.ref i1) (.ref i2)/\(∃ x y,IsPair h TO x y)/\h.IsTupleIter i1 a i/\h.IsTupleIter i2 b i) where
 mem:=by simp
 obj:=fun i h st=>zipp_obj st
 keep:=fun i h h' st k=>by
  obtain ⟨hz,hTI,⟨x,y,hTO⟩,h1,h2⟩:=st
  exact ⟨k zz (by simp) _ hz,k TI (by simp) _ hTI,⟨x,y,k TO (by simp) _ hTO⟩,h1.at fun o e=>k i1 (by simp) o e,h2.at fun o e=>k i2 (by simp) o e⟩
 item:=by
  intro X hP hw hK hc i pins s σ H E I hf st hg
  subst hP hw hK
  obtain ⟨xs,ys,hx,hy,hl,hi⟩:=hg
  obtain ⟨us,r1,p1,_⟩:=I.tuple hx
  obtain ⟨vs,r2,p2,_⟩:=I.tuple hy
  have l1:=r1.length
  have l2:=r2.length
  have ex:xs[i]?=some (xs[i]'(by omega)):=by simp
  generalize xs[i]'(by omega)=x at ex
  have ey:ys[i]?=some (ys[i]'(by omega)):=by simp
  generalize ys[i]'(by omega)=y at ey
  obtain ⟨u,hu,ru⟩:=r1.get ex
  obtain ⟨v,hv,rv⟩:=r2.get ey
  obtain ⟨hz,hTI,⟨ta,tb,hTO⟩,h1,h2⟩:=id st
  have hh:X.A.in1.handled=none:=I.ok.hd hc
  have d1:=draws_tup (prog:=X.prog) (w:=X.w) (A:=X.A.in1) hh i1 a D.l1i1 us.toArray
  have d2:=draws_tup (prog:=X.prog) (w:=X.w) (A:=X.A.in1) hh i2 b D.l2i2 vs.toArray
  refine pn_zipD_item d1 d2 D.TOz D.i1z D.i2z D.TOi1 D.TOi2 (by simpa using ⟨D.i1z.symm,D.l1z.symm⟩) (by simpa using ⟨D.i2z.symm,D.l2z.symm⟩) (by simpa using ⟨D.TOi1,D.l1TO.symm⟩) (by simpa using ⟨D.TOi2,D.l2TO.symm⟩) (by simpa using ⟨D.i12.symm,D.l1i2.symm⟩) (by simpa using ⟨D.i12,D.l2i1.symm⟩) hz hTI hTO ⟨h1,p1⟩ ⟨h2,p2⟩ (by simp;omega) (by simp;omega) fun h' x' y' tk q1 q2 a1 a2 a3 a4 a5 a7=>?_
  have q1':x'=u:=by
   have:us.toArray[i]?=some u:=by simpa using hu
   rw [this] at q1
   exact (Option.some.inj q1).symm
  have q2':y'=v:=by
   have:vs.toArray[i]?=some v:=by simpa using hv
   rw [this] at q2
   exact (Option.some.inj q2).symm
  subst q1' q2'
  refine ⟨_,rfl,wpAny_letOwnedTupleGo_zip (s:={ s with heap:=h',toks:=tk }) a1 fun h'' b1 b2=>?_⟩
  have b2':Heap.SameBut zz h' h'':=b2
  have ne:∀ c∈[zz,TI,TO,i1,i2],c < s.heap.objs.size:=fun c hc=>by
   obtain ⟨o,e,_⟩:=zipp_obj st c hc
   exact Heap.lt_size e
  have kk:∀ c o,c ∉ [zz,TI,TO,i1,i2]->s.heap.get? c=some o->h''.get? c=some o:=fun c o hc e=>by
   simp only [List.mem_cons,List.not_mem_nil,or_false,not_or] at hc
   exact (b2'.2 c hc.1).trans (a7 c o hc.1 hc.2.2.1 hc.2.2.2.1 hc.2.2.2.2 e)
  have hT:h''.get? s.heap.objs.size=some (zpP x' y'):=(b2'.2 _ (Nat.ne_of_gt (ne zz (by simp)))).trans a5
  have I1:Inv X pins σ (upd H s.heap.objs.size (.tup [x,y])) { s with heap:=h'',toks:=tk }:=by
   refine I.turnNew (t':=tk) (ch:=[zz,TI,TO,i1,i2]) hf kk (fun c o e=>?_) (Nat.le_refl _) (show ObjOk X.prog X.w _ h'' _ (.tup [x,y]) from ⟨by show 2<=sizeLine;decide,[x',y'],.cons ru (.cons rv .nil),⟨_,hT,rfl,_,rfl⟩⟩)
   by_cases hc:c∈[zz,TI,TO,i1,i2]
   ·simp only [List.mem_cons,List.not_mem_nil,or_false] at hc
    rcases hc with rfl | rfl | rfl | rfl | rfl
    ·exact ⟨_,b1⟩
    ·exact ⟨_,(b2'.2 _ D.TIz).trans (a7 _ _ D.TIz D.TITO D.TIi1 D.TIi2 hTI)⟩
    ·exact ⟨_,(b2'.2 _ D.TOz).trans a2⟩
    ·obtain ⟨o1,e1,_⟩:=a3.1;exact ⟨_,(b2'.2 _ D.i1z).trans e1⟩
    ·obtain ⟨o2,e2,_⟩:=a4.1;exact ⟨_,(b2'.2 _ D.i2z).trans e2⟩
   ·exact ⟨_,kk c o hc e⟩
  refine ⟨.ref s.heap.objs.size,_,I1,rfl,⟨x,y,_,fun zs hz=>by rw [I.tuple_inj hz hx];exact ex,fun zs hz=>by rw [I.tuple_inj hz hy];exact ey,rfl,I.hok.fresh (Nat.le_refl _),rfl⟩,⟨b1,(b2'.2 _ D.TIz).trans (a7 _ _ D.TIz D.TITO D.TIi1 D.TIi2 hTI),⟨_,_,(b2'.2 _ D.TOz).trans a2⟩,a3.1.at fun o e=>(b2'.2 _ D.i1z).trans e,a4.1.at fun o e=>(b2'.2 _ D.i2z).trans e⟩,fun c hc=>?_⟩
  rw [upd_ne (Nat.ne_of_lt (ne c hc))];exact (hf c hc).1
 done:=by
  intro X hP hw hK hc i pins s σ H E I hf st hg
  subst hP hw hK
  obtain ⟨xs,hx,rfl⟩:=hg
  obtain ⟨us,r1,p1,_⟩:=I.tuple hx
  have l1:=r1.length
  obtain ⟨hz,hTI,⟨ta,tb,hTO⟩,h1,h2⟩:=id st
  have d1:=draws_tup (prog:=X.prog) (w:=X.w) (A:=X.A.in1) (I.ok.hd hc) i1 a D.l1i1 us.toArray
  refine pn_zipD_end d1 D.i1z (by simpa using ⟨D.i1z.symm,D.l1z.symm⟩) hz hTI ⟨by rw [show us.toArray.size=xs.length by simp;omega];exact h1,p1⟩ fun h' kk=>⟨rfl,I.turnL (t':=s.toks) (ch:=[zz,TI,TO,i1,i2]) hf fun c o hc e=>?_⟩
  simp only [List.mem_cons,List.not_mem_nil,or_false,not_or] at hc
  exact kk c o hc.1 hc.2.2.2.1 e
 self:=fun _ _ _ _ _ st h=>wpAny_pyIter_zip st.1 h
section
variable {X:Cx}
def iZipP (K:PySem.W.Frag) (ta:TA):TI:=fun σ H R=>ta σ H fun vs H1=>∃ a b,vs=[.ref a,.ref b]/\(∃ xs,SqT K H1 a xs)/\(∃ ys,SqT K H1 b ys)/\R (Itzp K a b) H1
theorem ap_iZipP {K:PySem.W.Frag}{ta:TA}{σ:St}{H:Hp}{R:It->Hp->Prop}:iZipP K ta σ H R=ta σ H fun vs H1=>∃ a b,vs=[.ref a,.ref b]/\(∃ xs,SqT K H1 a xs)/\(∃ ys,SqT K H1 b ys)/\R (Itzp K a b) H1:=propext Iff.rfl
theorem pi_zipP {K:PySem.W.Frag}{elts:List Expr}{k:Nat}{tpos:Pos}{a b:Expr}{ta:TA}{p pos:Pos} (hK:X.K=K) (hm:X.mg "zip"=none) (ha:PA X [a,b] ta) (hg:X.env.kindOf "zip"=some .globalImplicit:=by kernel_rfl) (hs1:noStar a=true:=by kernel_rfl) (hs2:noStar b=true:=by kernel_rfl) :
  PI X (.Tuple elts k tpos) (.Call (.Name "zip" p) [a,b] [] pos) (iZipP K ta):=by
 subst hK
 intro pins s σ H R I h
 refine Call_ (ld_blt I hg hm boot_zip (PyProof.Rows.callWith_type1 (thn (ha pos pins s σ H _ I h) fun us s1 ⟨vs,H1,I1,r1,q1⟩=>?_) (starEach_cons hs1) (by rw [starEach_cons hs2];rfl)))
 obtain ⟨t,u,e,⟨xs,hx⟩,⟨ys,hy⟩,q⟩:=q1
 subst e
 cases r1 with
 | cons r rr =>
  cases rr with
  | cons r' rr =>
   cases rr
   cases r
   cases r'
   obtain ⟨_,_,p1,_⟩:=I1.tuple hx
   obtain ⟨_,_,p2,_⟩:=I1.tuple hy
   have a1:t < s1.heap.objs.size:=by obtain ⟨o,e,_⟩:=p1;exact Heap.lt_size e
   have a2:u < s1.heap.objs.size:=by obtain ⟨o,e,_⟩:=p2;exact Heap.lt_size e
   refine call_zipP p1 p2 fun h' hz hTI hTO hi1 hi2 hk=>wpAny_pyIter_zip (s:={ s1 with heap:=h' }) hz ?_
   have I2:Inv X pins σ H1 { s1 with heap:=h' }:=I1.kept (t':=s1.toks) hk
   refine ⟨_,[s1.heap.objs.size + 4,s1.heap.objs.size + 2,s1.heap.objs.size + 3,s1.heap.objs.size,s1.heap.objs.size + 1],_,_,H1,rfl,I2,turn_zipp t u _ _ _ _ _ (zipApart_new a1 a2),⟨hz,hTI,⟨_,_,hTO⟩,hi1,hi2⟩,fun c hc=>?_,q⟩
   have hle:s1.heap.objs.size<=c:=by
    simp only [List.mem_cons,List.not_mem_nil,or_false] at hc
    rcases hc with rfl | rfl | rfl | rfl | rfl <;> omega
   exact I1.fpOk hle (I1.hok.fresh hle)
end
theorem Same.seqT {K:PySem.W.Frag}{H H':Hp}{a:Addr}{xs:List V} (e:Same H H') (h:H a=some (.tup xs)):SqT K H' a xs:=.of (e _ _ h)
theorem lc_zipP {K:PySem.W.Frag}{a b:Addr}{H1:Hp}{xs ys:List V}{js:List Nat}{σ:St}{te:TE}{Q:VK} (hx:H1 a=some (.tup xs)) (hy:H1 b=some (.tup ys)) (hll:xs.length=ys.length) (hl:xs.length < sizeLine) (f:V->V->V)
  (he:∀ x y,(x,y)∈xs.zip ys->∀ H,Same H1 H->∀ R:VK,(∀ H',Same H H'->R (f x y) H')->te (some x::some y::js.map fun j=>(σ[j]?).join) H R)
  (q:∀ D H,H1 D=none->Same H1 H->H D=some (.lst ((xs.zip ys).map fun p=>f p.1 p.2))->Q (.ref D) H):LcTurns (gTup K 2 (gCons (gName 0) (gCons (gName 1) gNil))) tYes te (blkSt 2 js σ) (Itzp K a b) H1 Q:=by
 intro D hD
 refine ⟨fun i m zs σ1 H=>m=(xs.zip ys).length - i/\i<=(xs.zip ys).length/\(∃ o1 o2,σ1=o1::o2::js.map fun j=>(σ[j]?).join)/\zs=((xs.zip ys).take i).map (fun p=>f p.1 p.2)/\Same H1 H/\H D=some (.lst zs),
  ⟨(xs.zip ys).length,by simp,Nat.zero_le _,⟨none,none,rfl⟩,by simp,(Same.refl H1).upd_new hD,upd_same⟩,?_⟩
 rintro i m zs σ1 H ⟨rfl,hi,⟨o1,o2,rfl⟩,rfl,sH,hL⟩
 have hzl:(xs.zip ys).length=min xs.length ys.length:=List.length_zip
 refine ⟨hL,by rw [List.length_map,List.length_take];omega,?_⟩
 by_cases hlt:i < (xs.zip ys).length
 ·refine .inr ⟨⟨xs,ys,sH.seqT hx,sH.seqT hy,hll,by omega⟩,fun v H' hyl=>?_⟩
  obtain ⟨x,y,p,hx',hy',rfl,hp,rfl⟩:=hyl
  have ez:(xs.zip ys)[i]?=some (x,y):=zip_get (hx' xs (sH.seqT hx)) (hy' ys (sH.seqT hy))
  have htk:(xs.zip ys).take (i + 1)=(xs.zip ys).take i++[(x,y)]:=by rw [List.take_add_one,ez];rfl
  have hpD:D≠p:=ne_of_none hL hp
  refine ⟨p,[x,y],rfl,SqT.of upd_same,rfl,x,[y],rfl,y,[],rfl,rfl,?_⟩
  show te (some x::some y::js.map fun j=>(σ[j]?).join) _ _
  have s1:Same H1 (upd H p (.tup [x,y])):=sH.upd_new (sH.free hp)
  refine he x y (List.mem_of_getElem? ez) _ s1 _ fun H4 s4=>?_
  refine ⟨s4 _ _ (by rw [upd_ne hpD];exact hL),(xs.zip ys).length - (i + 1),by omega,rfl,hlt,⟨_,_,rfl⟩,?_,(s1.trans s4).upd_new hD,upd_same⟩
  rw [htk,List.map_append];rfl
 ·have e:i=(xs.zip ys).length:=by omega
  subst e
  refine .inl ⟨⟨xs,sH.seqT hx,by omega⟩,q D H hD sH ?_⟩
  rw [List.take_length] at hL;exact hL
end L2

namespace L2
open PySem PySem.Spec PyProof.Rows
section
variable {prog:Program}{w:World}{A:Around}{E:Value->Shared->Prop}{h:Heap}{g:Array GenState}{d:Drawn}{t:Nat}{os:OsState}
variable {nm q:Str}{C N:Addr}{bs bm bmB:List Value}{hdct:Bool}{sn:List Str}{sub:List Value}{ab:Bool}{col:Option Bool}{dd:Option Addr}{k0 k1 k2 k3 k5:Option Value}{B newId initId:String}
end
section
variable {prog:Program}{w:World}{A:Around}{E:Value->Shared->Prop}{s:Shared}{K:PySem.W.Frag}{x C t:Addr}{name:Str}{v:Value}
end
abbrev errB:List Value:=[.type "ValueError",.type "Exception",.type "BaseException",.type "object"]
theorem ns_has {K:PySem.W.Frag}{h:Heap}{N:Addr}{m:Str->Option Value}{x:Str}{v:Value} (X:K.In h) (G:h.Ns N m) (q:PySem.W.nsIn K N x=some (some v)):m x=some v:=by
 obtain ⟨ob,ents,pp,h1,h2,_,h3⟩:=G
 unfold PySem.W.nsIn at q
 split at q
 next c d l n sl e1 =>
  have e2:=(X _ _ e1).symm.trans h1
  cases e2
  cases h2
  split at q
  next u e3 =>
   cases q
   rw [← h3]
   unfold nsFind findBy
   rw [← Array.find?_toList,e3]
   rfl
  next=>split at q <;> cases q
 next=>cases q
structure OwnC (K:PySem.W.Frag) (C f:Addr):Prop where
 ex:∃ nm q N bs bm hdct sn sub ab col dd k0 k1 k2 k3 k5,K.lookup C=some (excClassObj nm q C N bs bm hdct sn sub ab col dd k0 k1 k2 k3 k5 "ValueError.__new__")/\PySem.W.nsOkIn K N=true/\PySem.W.nsIn K N "__init__"=some (some (.ref f))/\PySem.W.tailIn K errB bm=true
 fn:PySem.W.isFn K (.ref f)=true
 kp:PySem.W.keepIn K (.ref C)=true
theorem OwnC.at {K:PySem.W.Frag}{C f:Addr}{h:Heap} (O:OwnC K C f) (X:K.In h) :
  ∃ nm q N bs bm hdct sn sub ab col dd k0 k1 k2 k3 k5 mN oI,h.get? C=some (excClassObj nm q C N bs bm hdct sn sub ab col dd k0 k1 k2 k3 k5 "ValueError.__new__")/\h.Ns N mN/\mN "__init__"=some (.ref f)/\OwnTail h errB bm/\h.get? f=some oI/\oI.cls=.type "function":=by
 obtain ⟨nm,q,N,bs,bm,hdct,sn,sub,ab,col,dd,k0,k1,k2,k3,k5,h1,h2,h3,h4⟩:=O.ex
 have hns:h.Ns N _:=.of_isNs (PySem.W.isNs_of_in X h2)
 have hf:PySem.W.typeIn K (.ref f)=some (.type "function"):=beq_iff_eq.mp O.fn
 have:∃ oI,h.get? f=some oI/\oI.cls=.type "function":=by
  have hf':(K.lookup f).map (fun o=>o.cls)=some (.type "function"):=hf
  obtain ⟨o,q1,q2⟩:=Option.map_eq_some_iff.mp hf'
  exact ⟨o,X _ _ q1,q2⟩
 obtain ⟨oI,i1,i2⟩:=this
 exact ⟨nm,q,N,bs,bm,hdct,sn,sub,ab,col,dd,k0,k1,k2,k3,k5,_,oI,X _ _ h1,hns,ns_has X hns h3,PySem.W.tail_of_in X h4,i1,i2⟩
section
variable {X:Cx}{pins:List (Addr × Obj)}{σ:St}{H:Hp}{s:Shared}
end
section
variable {P:Program}{w:World}{K:PySem.W.Frag}{mg:Str->Option Value}{base:Heap}{N:List Str}{qual:Str}{scope:Scope}{f:Addr}{cd:Value}{A:Around}{outer:List Env}{s:Shared}{H:Hp}{E:XK}
end
section
variable {X:Cx}
end
section
variable {X:Cx}
end
section
variable {X:Cx}
end
section
variable {X:Cx}
end
section
variable {X:Cx}
end
def rMulW:R2:=fun x y H Q=>match x,y with
 | .str z,.int n=>∃ l:List Nat,z=tx l/\2<=n/\n<=1000/\1<=l.length/\l.length<=100/\Q (.str (tx (List.replicate n.toNat l).flatten)) H
 | _,_=>False
theorem rep_foldW (l:List Nat):∀ (n:Nat) (a:Array Nat),(List.replicate n l.toArray).foldl (·++·) a=a++(List.replicate n l).flatten.toArray
 | 0,a=>by simp
 | n + 1,a=>by
  rw [List.replicate_succ,List.foldl_cons,rep_foldW l n,List.replicate_succ]
  apply Array.ext'
  simp
theorem op_mulW {X:Cx}:OpR X (binaryOp .Mult) rMulW:=by
 intro pins s σ H x y v u Q I rx ry h
 match x,y,h with
 | .str z,.int n,h =>
  obtain ⟨l,rfl,h1,h2,h3,h4,q⟩:=h
  obtain ⟨t,rfl⟩:=rx
  obtain ⟨t2,rfl⟩:=ry
  have e:(⟨(List.replicate n.toNat (tx l).cps).foldl (·++·) #[]⟩:Str)=tx (List.replicate n.toNat l).flatten:=by
   show (⟨(List.replicate n.toNat l.toArray).foldl (·++·) #[]⟩:Str)=_
   rw [rep_foldW]
   simp [tx]
  have l1:(tx l).length=l.length:=tx_len l
  have fl:(List.replicate n.toNat l).flatten.length=n.toNat * l.length:=by simp [List.length_flatten]
  have nl:n.toNat * l.length<=1000 * 100:=Nat.mul_le_mul (by omega) h4
  have dv:(100:Int)<=(2 ^ 63 - 1) / n:=(Int.le_ediv_iff_mul_le (by omega)).mpr (by omega)
  refine P.mul_str (by rw [decide_eq_false (by omega),decide_eq_false (by omega)];rfl) (fun _ _=>by rw [l1];show ¬ (l.length:Int) > _;omega) (fun _ _=>by rw [l1];unfold Builtin.Str.tooLong;rw [sizeLine_eq];exact decide_eq_false (by rw [Nat.mul_comm];omega)) ?_
  rw [if_neg (by omega)]
  split
  ·rename_i hn
   rw [l1,Bool.or_eq_true] at hn
   rcases hn with z | z
   ·have:=beq_iff_eq.mp z;omega
   ·have:=beq_iff_eq.mp z;omega
  ·rw [e]
   exact ⟨by rw [tx_len,fl,sizeLine_eq];omega,⟨.str _,H,I.tok _,⟨_,rfl⟩,q⟩⟩
end L2

namespace L2
open PySem PySem.Spec PyProof.Rows
section
variable {K:PySem.W.Frag}{x m q:Str}{st:Stmt}{f C:Addr}{oc:Value}{od an:Option Addr}{osl:Array (Option Value)}{kV doc pm cdv ct:Value}
end
section
variable {P:Program}{w:World}{K:PySem.W.Frag}{h base:Heap}{mg:Str->Option Value}{k:Nat}{x m q:Str}{st:Stmt}{C:Addr}{ps:List Str}{sp:Sp}
end
end L2

namespace Mk
def splitA (c:Nat):Nat->List Nat->List Nat->List (List Nat)
 | 0,seg,l=>[seg++l]
 | _ + 1,seg,[]=>[seg]
 | n + 1,seg,x::l=>if x=c then seg::splitA c n [] l else splitA c (n + 1) (seg++[x]) l
def posA (c:Nat):Nat->List Nat->List Nat
 | _,[]=>[]
 | i,x::l=>if x=c then i::posA c (i + 1) l else posA c (i + 1) l
def cutA (l:List Nat):Nat->List Nat->List (List Nat)
 | i,[]=>[l.drop i]
 | i,q::qs=>(l.drop i).take (q - i)::cutA l (q + 1) qs
theorem splitA_free {c:Nat}:∀ (n:Nat) (seg l:List Nat),c ∉ l->splitA c n seg l=[seg++l]
 | 0,_,_,_=>by rw [splitA]
 | _ + 1,seg,[],_=>by rw [splitA,List.append_nil]
 | n + 1,seg,x::l,h=>by
  rw [List.mem_cons,not_or] at h
  rw [splitA,if_neg fun e=>h.1 e.symm,splitA_free (n + 1) _ l h.2,List.append_assoc];rfl
theorem splitA_cut {c:Nat} (n:Nat) (r:List Nat):∀ (seg w:List Nat),c ∉ w->splitA c (n + 1) seg (w++c::r)=(seg++w)::splitA c n [] r
 | seg,[],_=>by rw [List.nil_append,splitA,if_pos rfl,List.append_nil]
 | seg,x::w,h=>by
  rw [List.mem_cons,not_or] at h
  rw [List.cons_append,splitA,if_neg fun e=>h.1 e.symm,splitA_cut n r _ w h.2,List.append_assoc];rfl
theorem posA_nil {c:Nat}:∀ (i:Nat) (l:List Nat),posA c i l=[]->c ∉ l
 | _,[],_=>fun h=>by cases h
 | i,x::l,h=>by
  unfold posA at h
  split at h
  ·cases h
  ·rename_i hx
   intro hm
   rcases List.mem_cons.mp hm with e | hm
   ·exact hx e.symm
   ·exact posA_nil (i + 1) l h hm
theorem cutA_split {c:Nat} (l:List Nat):∀ (n:Nat) (suf pre seg:List Nat),l=pre++(seg++suf)->cutA l pre.length ((posA c (pre.length + seg.length) suf).take n)=splitA c n seg suf:=by
 intro n suf
 induction suf generalizing n with
 | nil =>
  intro pre seg e
  have h0:l.drop pre.length=seg++[]:=by rw [e,List.drop_left]
  have:(posA c (pre.length + seg.length) []).take n=[]:=by rw [posA,List.take_nil]
  rw [this,cutA,h0]
  cases n with
  | zero=>rfl
  | succ n=>rw [splitA,List.append_nil]
 | cons x suf ih =>
  intro pre seg e
  have h0:l.drop pre.length=seg++x::suf:=by rw [e,List.drop_left]
  cases n with
  | zero=>rw [List.take_zero,cutA,h0];rfl
  | succ n =>
   rw [posA,splitA]
   by_cases hx:x=c
   ·rw [if_pos hx,if_pos hx,List.take_succ_cons,cutA,h0,show pre.length + seg.length - pre.length=seg.length by omega,List.take_left]
    have:=ih n (pre++seg++[x]) [] (by rw [e];simp)
    simp only [List.length_append,List.length_cons,List.length_nil,Nat.zero_add,Nat.add_zero] at this
    rw [this]
   ·rw [if_neg hx,if_neg hx]
    have:=ih (n + 1) pre (seg++[x]) (by rw [e];simp)
    rw [List.length_append,show pre.length + (seg.length + [x].length)=pre.length + seg.length + 1 from rfl] at this
    exact this
def dgN (m:Nat):List Nat:=(Nat.toDigits 10 m).map Char.toNat
theorem dgN_small:∀ m:Nat,m < 26->1<=(dgN m).length/\(dgN m).length<=2/\(∀ c∈dgN m,48<=c/\c < 58)/\((dgN m).length=2->(dgN m)[0]?≠some 48):=by decide
end Mk
namespace L2
open PySem PySem.Spec PyProof.Rows
theorem dg_tx (m:Nat):Str.ofString (toString ((m:Nat):Int))=tx (Mk.dgN m):=by
 rw [← tx_of (Str.ofString (toString ((m:Nat):Int))),PySem.W.KIN.signs_num];rfl
theorem log_small {i:Int} (h0:0<=i) (h1:i < 1000000000):i.natAbs.log2 < 1920:=by
 by_cases h:i.natAbs=0
 ·rw [h];decide
 ·exact (Nat.log2_lt h).mpr (Nat.lt_of_lt_of_le (by omega:i.natAbs < 2 ^ 30) (Nat.pow_le_pow_right (by decide) (by decide)))
def rStrI:List V->Hp->VK->Prop:=fun vs H Q=>match vs with
 | [.int i]=>0<=i/\i < 1000000000/\Q (.str (tx (Mk.dgN i.toNat))) H
 | _=>False
theorem ev_rStrI {i:Int}{H:Hp}{Q:VK}:rStrI [.int i] H Q=(0<=i/\i < 1000000000/\Q (.str (tx (Mk.dgN i.toNat))) H):=propext Iff.rfl
theorem call_strI {X:Cx}:CallR X (.type "str") rStrI:=by
 intro pins s σ H xs us Q I r h
 match xs,h with
 | [.int i],h =>
  obtain ⟨h0,h1,q⟩:=h
  obtain ⟨u,rfl,ru⟩:=vals1 r
  obtain ⟨t,rfl⟩:=ru
  refine PySem.P.str_of_int (log_small h0 h1) ?_
  obtain ⟨m,rfl⟩:=Int.eq_ofNat_of_zero_le h0
  rw [dg_tx]
  exact ⟨.str _,H,I.tok _,⟨_,rfl⟩,q⟩
def rIntT:List V->Hp->VK->Prop:=fun vs H Q=>match vs with
 | [.str z]=>∃ m:Nat,z=tx (Mk.dgN m)/\m < 1000000000/\Q (.int m) H
 | _=>False
theorem ev_rIntT {z:Str}{H:Hp}{Q:VK}:rIntT [.str z] H Q=(∃ m:Nat,z=tx (Mk.dgN m)/\m < 1000000000/\Q (.int m) H):=propext Iff.rfl
theorem call_intT {X:Cx}:CallR X (.type "int") rIntT:=by
 intro pins s σ H xs us Q I r h
 match xs,h with
 | [.str z],h =>
  obtain ⟨m,rfl,h1,q⟩:=h
  obtain ⟨u,rfl,ru⟩:=vals1 r
  obtain ⟨t,rfl⟩:=ru
  rw [← dg_tx]
  exact PySem.W.KIN.call_num (by omega) (by omega) ⟨.int m,H,I.tok _,⟨_,rfl⟩,q⟩
abbrev TF:=St->Hp->List Nat->VK->Prop
def rFV (v:V) (acc:List Nat) (k:List Nat->Prop):Prop:=match v with
 | .str z=>(acc++z.cps.toList).length<=100000/\k (acc++z.cps.toList)
 | .int i=>0<=i/\i < 1000000000/\(acc++Mk.dgN i.toNat).length<=100000/\k (acc++Mk.dgN i.toNat)
 | _=>False
theorem ev_rFV1 {z:Str}{acc:List Nat}{k:List Nat->Prop}:rFV (.str z) acc k=((acc++z.cps.toList).length<=100000/\k (acc++z.cps.toList)):=propext Iff.rfl
theorem ev_rFV2 {i:Int}{acc:List Nat}{k:List Nat->Prop}:rFV (.int i) acc k=(0<=i/\i < 1000000000/\(acc++Mk.dgN i.toNat).length<=100000/\k (acc++Mk.dgN i.toNat)):=propext Iff.rfl
def tF0:TF:=fun _ H acc Q=>Q (.str (tx acc)) H
def tFc (lit:Str) (t:TF):TF:=fun σ H acc Q=>(acc++lit.cps.toList).length<=100000/\t σ H (acc++lit.cps.toList) Q
def tFv (te:TE) (t:TF):TF:=fun σ H acc Q=>te σ H fun v H1=>rFV v acc fun acc'=>t σ H1 acc' Q
def tFN (t:TF):TE:=fun σ H Q=>t σ H [] Q
theorem ap_f0 {σ:St}{H:Hp}{acc:List Nat}{Q:VK}:tF0 σ H acc Q=Q (.str (tx acc)) H:=propext Iff.rfl
theorem ap_fc {lit:Str}{t:TF}{σ:St}{H:Hp}{acc:List Nat}{Q:VK}:tFc lit t σ H acc Q=((acc++lit.cps.toList).length<=100000/\t σ H (acc++lit.cps.toList) Q):=propext Iff.rfl
theorem ap_fv {te:TE}{t:TF}{σ:St}{H:Hp}{acc:List Nat}{Q:VK}:tFv te t σ H acc Q=te σ H fun v H1=>rFV v acc fun acc'=>t σ H1 acc' Q:=propext Iff.rfl
theorem ap_fN {t:TF}{σ:St}{H:Hp}{Q:VK}:tFN t σ H Q=t σ H [] Q:=propext Iff.rfl
section
variable {X:Cx}
def PF (X:Cx) (parts:List Expr) (t:TF):Prop:=∀ pins s σ H acc Q,Inv X pins σ H s->acc.length<=100000->t σ H acc Q->wpAny (model X.prog X.w) X.A (joinParts (tx acc) (evalEach parts X.env)) (EP X pins σ Q) X.xe s
theorem fits {acc:List Nat} (h:acc.length<=100000):(tx acc).length<=sizeLine:=by rw [tx_len,sizeLine_eq];omega
theorem tx_z (acc:List Nat) (z:Str):tx acc++z=tx (acc++z.cps.toList):=by rw [← tx_app,tx_of]
theorem pf_nil:PF X [] tF0:=fun pins s σ H acc Q I hl h=>PyProof.Rows.joinParts_nil ⟨.str _,H,I.tok _,⟨_,rfl⟩,h⟩ (fits hl)
theorem pf_lit {lit:Str}{k:Nat}{p:Pos}{es:List Expr}{t:TF} (h:PF X es t):PF X (.Constant (.str lit) k p::es) (tFc lit t):=by
 intro pins s σ H acc Q I hl q
 refine PyProof.Rows.joinParts_consE (PyProof.Rows.joinParts_cons (Calls.Constant_str ?_))
 show (tx acc++lit).length<=sizeLine/\wpAny _ _ (joinParts (tx acc++lit) _) _ _ _
 rw [tx_z]
 exact ⟨fits q.1,h pins _ σ H _ Q (I.tok _) q.1 q.2⟩
theorem pf_val {e:Expr}{p:Pos}{es:List Expr}{te:TE}{t:TF} (he:PE X e te) (h:PF X es t):PF X (.FormattedValue e (-1) none p::es) (tFv te t):=by
 intro pins s σ H acc Q I hl q
 refine PyProof.Rows.joinParts_consE (PyProof.Rows.joinParts_cons (PyProof.Rows.FormattedValue_plain (thn (he pins _ σ H _ I q) fun u s1 ⟨x,H1,I1,rx,q1⟩=>?_)))
 replace q1:rFV x acc fun acc'=>t σ H1 acc' Q:=q1
 unfold rFV at q1
 split at q1
 next z =>
  obtain ⟨l1,q2⟩:=q1
  obtain ⟨tk,rfl⟩:=(show ∃ t,u=Value.str z t from rx)
  have hz:z.length<=sizeLine:=by
   have:z.cps.toList.length=z.length:=by show _=z.cps.size;simp
   rw [List.length_append] at l1
   rw [sizeLine_eq];omega
  refine PyProof.Rows.formatField_str (fun t' tk=>?_) hz
  show (tx acc++z).length<=sizeLine/\wpAny _ _ (joinParts (tx acc++z) _) _ _ _
  rw [tx_z]
  exact ⟨fits l1,h pins _ σ H1 _ Q (I1.tok _) l1 q2⟩
 next i =>
  obtain ⟨h0,h1,l1,q2⟩:=q1
  obtain ⟨tk,rfl⟩:=(show ∃ t,u=Value.int i t from rx)
  refine PyProof.Rows.formatField_int_small (log_small h0 h1) ?_
  obtain ⟨m,rfl⟩:=Int.eq_ofNat_of_zero_le h0
  rw [dg_tx]
  show (tx acc++tx (Mk.dgN m)).length<=sizeLine/\wpAny _ _ (joinParts (tx acc++tx (Mk.dgN m)) _) _ _ _
  rw [tx_app]
  exact ⟨fits l1,h pins _ σ H1 _ Q (I1.tok _) l1 q2⟩
 next=>exact q1.elim
theorem pe_fN {a b:Expr}{es:List Expr}{pos:Pos}{t:TF} (h:PF X (a::b::es) t):PE X (.JoinedStr (a::b::es) pos) (tFN t) :=
 fun pins s σ H Q I q=>PyProof.Rows.JoinedStr_many (h pins s σ H [] Q I (Nat.zero_le _) q)
theorem ps_try0 {body:List Stmt}{h₀:ExceptHandler}{hs:List ExceptHandler}{pos:Pos}{t:TS} (hb:∀ pn:List (Addr × Obj),PSs { X with pn:=pn,xe:=fun _ _=>False } body t):PS X (.Try body (h₀::hs) [] [] pos) t:=by
 intro pins s σ H D I h
 refine wpAny_Try_except ?_
 refine wpAny_mono (hb (X.pn++pins) [] s σ H D I.pnTo h) ?_ (fun e s1 he=>he.elim)
 intro f s1 z
 cases f with
 | next =>
  obtain ⟨σ',H',I',q⟩:=z
  exact wpAny_pure ⟨σ',H',I'.pnFrom,q⟩
 | brk=>obtain ⟨σ',H',I',q⟩:=z;exact ⟨σ',H',I'.pnFrom,q⟩
 | cont=>obtain ⟨σ',H',I',q⟩:=z;exact ⟨σ',H',I'.pnFrom,q⟩
 | ret u=>obtain ⟨v,σ',H',I',r,q⟩:=z;exact ⟨v,σ',H',I'.pnFrom,r,q⟩
end
theorem subAt_one (l:List Nat) (c i:Nat):Builtin.Str.subAt (tx l) (tx [c]) i=decide (l[i]?=some c):=by
 unfold Builtin.Str.subAt
 show (l.toArray.extract i (i + 1) == #[c])=_
 rw [Bool.eq_iff_iff,beq_iff_eq,decide_eq_true_eq]
 constructor
 ·intro h
  have:=congrArg Array.toList h
  simp only [Array.toList_extract,List.extract_eq_take_drop] at this
  rw [show i + 1 - i=1 by omega] at this
  cases e:l.drop i with
  | nil=>rw [e] at this;simp at this
  | cons x r =>
   rw [e] at this
   have e2:l[i]?=some x:=by
    have:=congrArg (fun l=>l[0]?) e
    simpa using this
   simp at this
   rw [e2,this]
 ·intro h
  apply Array.ext'
  simp only [Array.toList_extract,List.extract_eq_take_drop]
  rw [show i + 1 - i=1 by omega]
  obtain ⟨hi,e⟩:=List.getElem?_eq_some_iff.mp h
  rw [List.drop_eq_getElem_cons hi,e]
  rfl
theorem occ_run (l:List Nat) (c n:Nat):∀ (suf:List Nat) (i:Nat) (acc:List Nat) (free:Nat),free<=i->l.drop i=suf →
  (forIn (List.range' i (suf.length + 1)) (acc.toArray,free) (StrLaws.occBody (tx l) (tx [c]) l.length n)).run.fst.toList=acc++(Mk.posA c i suf).take (n - acc.length)
 | [],i,acc,free,hf,hd=>by
  have hl:l.length<=i:=by simpa using hd
  rw [show List.range' i (([]:List Nat).length + 1)=[i] from rfl,List.forIn_cons]
  unfold StrLaws.occBody
  have:¬ ((((acc.toArray,free).fst.size < n/\(acc.toArray,free).snd<=i)/\i + (tx [c]).length<=l.length)/\Builtin.Str.subAt (tx l) (tx [c]) i=true):=fun h=>by
   have h2:i + 1<=l.length:=h.1.2
   omega
  rw [if_neg this]
  simp [Mk.posA]
 | x::suf,i,acc,free,hf,hd=>by
  have hi:i < l.length:=by
   have:=congrArg List.length hd
   simp at this
   omega
  have hx:l[i]?=some x:=by
   have:=congrArg (fun l=>l[0]?) hd
   simpa using this
  have hd':l.drop (i + 1)=suf:=by
   have:=congrArg List.tail hd
   simpa using this
  rw [show List.range' i ((x::suf).length + 1)=i::List.range' (i + 1) (suf.length + 1) from rfl,List.forIn_cons]
  unfold StrLaws.occBody
  rw [subAt_one,hx]
  by_cases h:acc.length < n/\x=c
  ·have c1:(((acc.toArray,free).fst.size < n/\(acc.toArray,free).snd<=i)/\i + (tx [c]).length<=l.length)/\decide (some x=some c)=true:=⟨⟨⟨by simpa using h.1,hf⟩,hi⟩,by rw [h.2];simp⟩
   rw [if_pos c1]
   have ih:=occ_run l c n suf (i + 1) (acc++[i]) (i + 1) (Nat.le_refl _) hd'
   have e:(acc++[i]).toArray=acc.toArray.push i:=by simp
   rw [e] at ih
   refine Eq.trans ih ?_
   rw [Mk.posA,if_pos h.2,List.length_append,List.append_assoc]
   obtain ⟨m,hm⟩:∃ m,n - acc.length=m + 1:=⟨n - acc.length - 1,by omega⟩
   rw [hm,List.take_succ_cons,show n - (acc.length + [i].length)=m by simp;omega]
   rfl
  ·have c2:¬ ((((acc.toArray,free).fst.size < n/\(acc.toArray,free).snd<=i)/\i + (tx [c]).length<=l.length)/\decide (some x=some c)=true):=fun q=>h ⟨by simpa using q.1.1.1,by simpa using q.2⟩
   rw [if_neg c2]
   have ih:=occ_run l c n suf (i + 1) acc free (by omega) hd'
   refine Eq.trans ih ?_
   rw [Mk.posA]
   by_cases hx2:x=c
   ·have:n - acc.length=0:=by
     rcases Nat.lt_or_ge acc.length n with z | z
     ·exact absurd ⟨z,hx2⟩ h
     ·omega
    rw [this,List.take_zero,List.take_zero]
   ·rw [if_neg hx2]
theorem occ_pos (l:List Nat) (c n:Nat):Builtin.Str.occurrences (tx l) (tx [c]) 0 (tx l).length n=(Mk.posA c 0 l).take n:=by
 rw [StrLaws.occ_eq,tx_len]
 have:=occ_run l c n l 0 [] 0 (Nat.le_refl _) rfl
 simpa using this
theorem parts_cut (l:List Nat):∀ (cuts:List Nat) (i:Nat),((i::cuts.map (· + 1)).zip (cuts++[l.length])).map (fun (a,b)=>Builtin.Str.strSub (tx l) a b)=(Mk.cutA l i cuts).map tx
 | [],i=>by
  show [Builtin.Str.strSub (tx l) i l.length]=[tx (l.drop i)]
  congr 1
  unfold Builtin.Str.strSub tx
  congr 1
  apply Array.ext'
  simp
  exact List.take_of_length_le (by simp)
 | q::qs,i=>by
  have ih:=parts_cut l qs (q + 1)
  show Builtin.Str.strSub (tx l) i q::_=tx ((l.drop i).take (q - i))::(Mk.cutA l (q + 1) qs).map tx
  rw [← ih]
  congr 1
  unfold Builtin.Str.strSub tx
  congr 1
  apply Array.ext'
  simp
theorem parts_split (l:List Nat) (c n:Nat):Builtin.Str.partsBetween (tx l) (Builtin.Str.occurrences (tx l) (tx [c]) 0 (tx l).length n) 1=(Mk.splitA c n [] l).map tx:=by
 rw [occ_pos]
 unfold Builtin.Str.partsBetween
 rw [tx_len,parts_cut]
 congr 1
 exact Mk.cutA_split l n l [] [] rfl
def rSplitM:V->List V->Hp->VK->Prop:=fun x vs H Q=>match x,vs with
 | .str z,[.str y,.int k]=>z.length<=100000/\1<=k/\k<=1000/\∃ c,y=tx [c]/\nw H (.lst ((Mk.splitA c k.toNat [] z.cps.toList).map fun w=>.str (tx w))) Q
 | _,_=>False
theorem ev_rSplitM {z y:Str}{k:Int}{H:Hp}{Q:VK}:rSplitM (.str z) [.str y,.int k] H Q=(z.length<=100000/\1<=k/\k<=1000/\∃ c,y=tx [c]/\nw H (.lst ((Mk.splitA c k.toNat [] z.cps.toList).map fun w=>.str (tx w))) Q):=propext Iff.rfl
theorem kind_mem {c:Nat}{l:List Nat} (hc:c∈l) (h:Builtin.Str.strKind (tx l) < Builtin.Str.strKind (tx [c])):False:=by
 unfold Builtin.Str.strKind at h
 have e1:(tx [c]).cps.all (· < 256)=decide (c < 256):=by simp [tx]
 have e2:(tx [c]).cps.all (· < 65536)=decide (c < 65536):=by simp [tx]
 have f1:(tx l).cps.all (· < 256)=true->c < 256:=fun h=>by simp [tx] at h;exact h c hc
 have f2:(tx l).cps.all (· < 65536)=true->c < 65536:=fun h=>by simp [tx] at h;exact h c hc
 rw [e1,e2] at h
 generalize (tx l).cps.all (· < 256)=p at h f1
 generalize (tx l).cps.all (· < 65536)=q at h f2
 cases p <;> cases q <;> by_cases h1:c < 256 <;> by_cases h2:c < 65536 <;> simp [h1,h2] at h f1 f2
theorem splitM_call {prog:Program}{w:World}{A:Around}{E:Value->Shared->Prop}{s:Shared}{l:List Nat}{c:Nat}{k:Int}{t u v:Tok}{Q:Value->Shared->Prop} (hsz:l.length<=100000) (hk:1<=k/\k<=1000)
  (h:∀ (ps:List (Str × Tok)) (m:Nat),ps.map (fun p=>p.1)=(Mk.splitA c k.toNat [] l).map tx->ps.length<=1001->Q (.ref s.heap.objs.size) { s with heap:=s.heap.push { cls:=.type "list",data:=.seq (strValues ps).toArray },toks:=m }) :
  wpAny (model prog w) A (call (.builtin "str.split") [.str (tx l) t,.str (tx [c]) u,.int k v]) Q E s:=by
 have hk2:(decide (k < -(2 ^ 63:Int)) || decide (k ≥ 2 ^ 63))=false:=by
  rw [Bool.or_eq_false_iff,decide_eq_false_iff_not,decide_eq_false_iff_not]
  omega
 have hlim:limitOf (tx l) k=k.toNat:=if_neg (by omega)
 have hp:=parts_split l c k.toNat
 have lo:=StrLaws.occ_length_le (tx l) (tx [c]) 0 (tx l).length k.toNat
 have key:(occs:c ∉ l)->(Mk.splitA c k.toNat [] l).map tx=[tx l]:=fun occs=>by rw [Mk.splitA_free _ _ _ occs];rfl
 obtain ⟨raising,tree⟩:=split_sep_max_tree (tx l) (tx [c]) k t u v hk2
 have one:c ∉ l->∀ m,Q (.ref s.heap.objs.size) { s with heap:=s.heap.push { cls:=.type "list",data:=.seq #[.str (tx l) t] },toks:=m }:=fun hc m=>h [(tx l,t)] m (by rw [key hc];rfl) (by show 1<=1001;decide)
 cases h1:(decide ((tx l).length < (tx [c]).length) || decide (Builtin.Str.strKind (tx l) < Builtin.Str.strKind (tx [c]))) with
 | true =>
  have hc:c ∉ l:=fun hc=>by
   rw [Bool.or_eq_true,decide_eq_true_eq,decide_eq_true_eq,tx_len,tx_len] at h1
   have:=List.length_pos_of_mem hc
   rcases h1 with h1 | h1
   ·simp at h1;rw [h1] at hc;cases hc
   ·exact kind_mem hc h1
  refine wpAny_call_entry F.slot_str_split (typeIs_str s (tx l) t) F.entry_str_split ?_ (F.args_str_split_3 _ _ _)
  rw [tree,h1,if_pos rfl]
  exact wpAny_bind (wpAny_rule (wpAny_bind (wpAny_newList (wpAny_pure ⟨_,rfl,one hc s.toks⟩) (by show 1<=sizeLine;decide))))
 | false =>
  cases hf:(Builtin.Str.occurrences (tx l) (tx [c]) 0 (tx l).length (limitOf (tx l) k)).isEmpty with
  | true =>
   have hc:c ∉ l:=by
    rw [hlim,occ_pos,List.isEmpty_iff] at hf
    refine Mk.posA_nil 0 l ?_
    obtain ⟨m,hm⟩:∃ m,k.toNat=m + 1:=⟨k.toNat - 1,by omega⟩
    rw [hm] at hf
    cases e:Mk.posA c 0 l with
    | nil=>rfl
    | cons a b=>rw [e,List.take_succ_cons] at hf;cases hf
   refine wpAny_call_entry F.slot_str_split (typeIs_str s (tx l) t) F.entry_str_split ?_ (F.args_str_split_3 _ _ _)
   rw [tree,h1,if_neg (by decide),if_neg (by rw [tx_len];simp),hf,if_pos (by rfl)]
   exact wpAny_bind (wpAny_rule (wpAny_bind (wpAny_newList (wpAny_pure ⟨_,rfl,one hc s.toks⟩) (by show 1<=sizeLine;decide))))
  | false =>
   have hp':Builtin.Str.partsBetween (tx l) (Builtin.Str.occurrences (tx l) (tx [c]) 0 (tx l).length (limitOf (tx l) k)) 1=(Mk.splitA c k.toNat [] l).map tx:=by rw [hlim];exact hp
   rw [← hlim] at lo
   have l2:(Builtin.Str.partsBetween (tx l) (Builtin.Str.occurrences (tx l) (tx [c]) 0 (tx l).length (limitOf (tx l) k)) 1).length<=1001:=by
    unfold Builtin.Str.partsBetween
    rw [List.length_map,List.length_zip,List.length_cons,List.length_map]
    rw [hlim] at lo ⊢
    omega
   refine call_meets F.slot_str_split (typeIs_str s (tx l) t) F.entry_str_split (F.args_str_split_3 _ _ _) (meets_str_split_sep_max (tx l) (tx [c]) k t u v hk2 h1 (by rw [tx_len];rfl) hf (by rw [tx_len,sizeLine_eq];omega) (by rw [sizeLine_eq];exact Nat.le_trans l2 (by decide))) ?_
   show Q _ _
   rw [strsFrom_eq]
   refine h _ _ ((numbered_texts _ _).trans hp') ?_
   have:=congrArg List.length (numbered_texts s.toks (Builtin.Str.partsBetween (tx l) (Builtin.Str.occurrences (tx l) (tx [c]) 0 (tx l).length (limitOf (tx l) k)) 1))
   rw [List.length_map] at this
   rw [show (tx [c]).length=1 from rfl,this]
   exact l2
theorem mt_splitM {X:Cx}:MtM X "str.split" rSplitM:=by
 intro pins s σ H x vs v us Q I rx rv h
 match x,vs,h with
 | .str z,[.str y,.int k],h =>
  obtain ⟨hz,k1,k2,c,rfl,q⟩:=h
  obtain ⟨t,rfl⟩:=rx
  obtain ⟨u1,u2,rfl,r1,r2⟩:=rv.two
  obtain ⟨t2,rfl⟩:=r1
  obtain ⟨t3,rfl⟩:=r2
  have hl:z.cps.toList.length<=100000:=by rw [show z.cps.toList.length=z.length from by show _=z.cps.size;simp];exact hz
  have:=splitM_call (prog:=X.prog) (w:=X.w) (A:=X.A) (E:=X.xe) (s:=s) (c:=c) (t:=t) (u:=t2) (v:=t3) (Q:=EP X pins σ Q) hl ⟨k1,k2⟩ fun ps m e lp=>?_
  ·rw [tx_of] at this;exact this
  have r:=vals_strs ps
  rw [e,List.map_map] at r
  refine ⟨.ref s.heap.objs.size,_,I.laid (t':=m) (o:=.lst ((Mk.splitA c k.toNat [] z.cps.toList).map fun w=>.str (tx w))) (fun b ob q=>Heap.get?_push_of_some _ q) (Nat.le_refl _) ⟨?_,_,0,r,Heap.get?_push_size _ rfl⟩,rfl,q.go _ (I.hok.fresh (Nat.le_refl _))⟩
  have:=congrArg List.length e
  rw [List.length_map,List.length_map] at this
  rw [List.length_map,← this,sizeLine_eq]
  exact Nat.le_trans lp (by decide)
def rMulN:R2:=fun x y H Q=>match x,y with
 | .str z,.int n=>∃ l:List Nat,z=tx l/\0<=n/\n<=1000/\1<=l.length/\l.length<=100/\Q (.str (tx (List.replicate n.toNat l).flatten)) H
 | _,_=>False
theorem ev_rMulN {z:Str}{n:Int}{H:Hp}{Q:VK}:rMulN (.str z) (.int n) H Q=(∃ l:List Nat,z=tx l/\0<=n/\n<=1000/\1<=l.length/\l.length<=100/\Q (.str (tx (List.replicate n.toNat l).flatten)) H):=propext Iff.rfl
theorem op_mulN {X:Cx}:OpR X (binaryOp .Mult) rMulN:=by
 intro pins s σ H x y v u Q I rx ry h
 cases x <;> try exact h.elim
 cases y <;> try exact h.elim
 next z n =>
  obtain ⟨l,rfl,h1,h2,h3,h4,q⟩:=h
  by_cases hn2:2<=n
  ·exact op_mulW pins s σ H _ _ v u Q I rx ry ⟨l,rfl,hn2,h2,h3,h4,q⟩
  obtain ⟨t,rfl⟩:=rx
  obtain ⟨t2,rfl⟩:=ry
  rcases (show n=0 ∨ n=1 by omega) with rfl | rfl
  ·exact P.mul_str_none (by decide) (by decide) ⟨.str (tx []),H,I.tok _,⟨_,rfl⟩,q⟩
  ·refine P.mul_str (by decide) (fun _ h=>?_) (fun _ h=>?_) ?_
   ·simp at h
   ·simp at h
   rw [if_neg (by decide),if_pos (by rw [show ((1:Int) == 1)=true from rfl];rfl)]
   refine ⟨.str (tx l),H,I,⟨_,rfl⟩,?_⟩
   have e:(List.replicate (1:Int).toNat l).flatten=l:=by simp
   rw [e] at q
   exact q
structure TyI (K:PySem.W.Frag) (C:Addr):Prop where
 a:PySem.W.findIn K (.ref C) "__class__"=some (some (.builtin "object.__class__"))
 b:PySem.W.specialIn K (.builtin "object.__class__") "__get__"=some (some (.builtin "getset_descriptor.__get__"))
 c:PySem.W.takesIn K (.builtin "object.__class__")=some true
 d:PySem.W.mroIn K C (.type "object")=some true
 e:PySem.W.kitOne K (.ref C) (.ref C)=some true
theorem TyI.ty {K:PySem.W.Frag}{C a dx:Addr}{fs:List (Str × V)}{H:Hp} (T:TyI K C) (cl:Cls K C) (e:H a=some (.ins C dx fs)):TyX K H (.ref a) (.ref C):=.inl (.ins e cl T.a T.b T.c T.d)
end L2

namespace Kb
open PySem L2
seal L2.PE L2.PA L2.PS L2.PSs L2.PT L2.PW L2.PG L2.PGs L2.PI L2.PO L2.PSet L2.PIf
def top (i:Nat):Stmt:=PySem.Challenge.pw_cablehouse_k14_whole_book_rows.main.body.getD i (.Pass ⟨0,0,0,0⟩)
abbrev s_is_whole:Stmt:=top 11
abbrev s_common_divisor:Stmt:=top 12
abbrev s_are_safe:Stmt:=top 13
abbrev s_is_alphabet:Stmt:=top 16
abbrev s_is_below:Stmt:=top 17
abbrev s_are_weights:Stmt:=top 18
abbrev s_is_word:Stmt:=top 19
abbrev s_places_of:Stmt:=top 20
abbrev s_spelled:Stmt:=top 21
abbrev s_are_good:Stmt:=top 22
abbrev s_is_good:Stmt:=top 23
abbrev s_Code_init:Stmt:=inClass (top 24) 0
abbrev s_Code_alphabet:Stmt:=inClass (top 24) 1
abbrev s_Code_weights:Stmt:=inClass (top 24) 2
abbrev s_Code_rest:Stmt:=inClass (top 24) 3
abbrev s_Code_many:Stmt:=inClass (top 24) 4
abbrev s_Code_word:Stmt:=inClass (top 24) 5
abbrev s_Code_number:Stmt:=inClass (top 24) 6
abbrev s_Code_has_good:Stmt:=inClass (top 24) 7
abbrev s_are_letters:Stmt:=top 29
abbrev s_are_words:Stmt:=top 30
abbrev s_number_written:Stmt:=top 31
abbrev s_code_written:Stmt:=top 32
abbrev s_is_entry:Stmt:=top 37
abbrev s_Book_init:Stmt:=inClass (top 38) 0
abbrev s_Book_code:Stmt:=inClass (top 38) 1
abbrev s_Book_put:Stmt:=inClass (top 38) 2
abbrev s_Book_choose:Stmt:=inClass (top 38) 3
abbrev s_Book_least_free:Stmt:=inClass (top 38) 4
abbrev s_Book_entry:Stmt:=inClass (top 38) 6
abbrev s_Book_number:Stmt:=inClass (top 38) 7
abbrev s_Book_entries:Stmt:=inClass (top 38) 8
abbrev s_code_row:Stmt:=top 40
abbrev s_entry_row:Stmt:=top 41
abbrev s_shown:Stmt:=top 42
abbrev s_entry_written:Stmt:=top 43
abbrev s_built:Stmt:=top 44
abbrev s_read:Stmt:=top 45
abbrev s_law_cell_at:Stmt:=top 47
abbrev s_law_mixed:Stmt:=top 48
abbrev s_law_divisor:Stmt:=top 50
abbrev s_law_weight:Stmt:=top 51
abbrev s_law_code:Stmt:=top 52
abbrev s_law_word:Stmt:=top 53
abbrev s_law_some_words:Stmt:=top 54
abbrev s_law_entry:Stmt:=top 55
abbrev s_law_filled:Stmt:=top 56
abbrev s_law_alike:Stmt:=top 57
abbrev s_law_text:Stmt:=top 58
abbrev s_law_same:Stmt:=top 59
abbrev s_law:Stmt:=top 60
structure Bl (mg:Str->Option Value):Prop where
 isinstance:mg "isinstance"=none
 bool:mg "bool"=none
 int:mg "int"=none
 abs:mg "abs"=none
 all:mg "all"=none
 zip:mg "zip"=none
 len:mg "len"=none
 set:mg "set"=none
 str:mg "str"=none
 list:mg "list"=none
 sum:mg "sum"=none
 range:mg "range"=none
 tuple:mg "tuple"=none
 sorted:mg "sorted"=none
 enumerate:mg "enumerate"=none
structure Ads where
 Code:Addr
 Book:Addr
 CableError:Addr
 NoCode:Addr
 NoNumber:Addr
 NoWord:Addr
 NoEntry:Addr
 Twice:Addr
 TooMany:Addr
 NoBook:Addr
 cd:Addr
 tb:Addr
 none:Unit:=()
def Ads.errs (Ad:Ads):List Addr:=[Ad.NoCode,Ad.NoNumber,Ad.NoWord,Ad.NoEntry,Ad.Twice,Ad.TooMany,Ad.NoBook]
structure AdF (K:PySem.W.Frag) (mg:Str->Option Value) (Ad:Ads):Prop where
 g_Code:mg "Code"=some (.ref Ad.Code)
 g_Book:mg "Book"=some (.ref Ad.Book)
 g_CableError:mg "CableError"=some (.ref Ad.CableError)
 g_NoCode:mg "NoCode"=some (.ref Ad.NoCode)
 g_NoNumber:mg "NoNumber"=some (.ref Ad.NoNumber)
 g_NoWord:mg "NoWord"=some (.ref Ad.NoWord)
 g_NoEntry:mg "NoEntry"=some (.ref Ad.NoEntry)
 g_Twice:mg "Twice"=some (.ref Ad.Twice)
 g_TooMany:mg "TooMany"=some (.ref Ad.TooMany)
 g_NoBook:mg "NoBook"=some (.ref Ad.NoBook)
 c_Code:Cls K Ad.Code
 n_Code_letters:NoAttr K Ad.Code "letters"
 n_Code_factors:NoAttr K Ad.Code "factors"
 n_Code_remainder:NoAttr K Ad.Code "remainder"
 c_Book:Cls K Ad.Book
 n_Book_basis:NoAttr K Ad.Book "basis"
 n_Book_by_number:NoAttr K Ad.Book "by_number"
 n_Book_by_entry:NoAttr K Ad.Book "by_entry"
 q_NoCode:PySem.W.excIn K Ad.NoCode [.type "ValueError",.type "Exception",.type "BaseException",.type "object"] "ValueError.__new__"=true
 q_NoNumber:PySem.W.excIn K Ad.NoNumber [.type "ValueError",.type "Exception",.type "BaseException",.type "object"] "ValueError.__new__"=true
 q_NoWord:PySem.W.excIn K Ad.NoWord [.type "ValueError",.type "Exception",.type "BaseException",.type "object"] "ValueError.__new__"=true
 q_NoEntry:PySem.W.excIn K Ad.NoEntry [.type "ValueError",.type "Exception",.type "BaseException",.type "object"] "ValueError.__new__"=true
 q_Twice:PySem.W.excIn K Ad.Twice [.type "ValueError",.type "Exception",.type "BaseException",.type "object"] "ValueError.__new__"=true
 q_TooMany:PySem.W.excIn K Ad.TooMany [.type "ValueError",.type "Exception",.type "BaseException",.type "object"] "ValueError.__new__"=true
 q_NoBook:PySem.W.excIn K Ad.NoBook [.type "ValueError",.type "Exception",.type "BaseException",.type "object"] "ValueError.__new__"=true
 i_Book:TyI K Ad.Book
 t_tab:PySem.W.codeHdIn K Ad.cd Ad.tb=true
 err:errAll K Ad.CableError Ad.errs=true
 nd:ndB Ad.errs=true
 v_SMALL_LETTERS:∃ u,mg "SMALL_LETTERS"=some u/\RelV (.str "abcdefghijklmnopqrstuvwxyz") u
 v_FIGURES:∃ u,mg "FIGURES"=some u/\RelV (.str "0123456789") u
 v_MOST_FIGURES:∃ u,mg "MOST_FIGURES"=some u/\RelV (.int 9) u
 v_LONGEST_WORD:∃ u,mg "LONGEST_WORD"=some u/\RelV (.int 20) u
 v_MOST_ENTRIES:∃ u,mg "MOST_ENTRIES"=some u/\RelV (.int 300) u
 v_MOST_PHRASE_WORDS:∃ u,mg "MOST_PHRASE_WORDS"=some u/\RelV (.int 6) u
 v_MOST_PART_LETTERS:∃ u,mg "MOST_PART_LETTERS"=some u/\RelV (.int 6) u
section
variable {P:Program}{w:World}{K:PySem.W.Frag}{mg:Str->Option Value}{base:Heap}{Ad:Ads}
local macro_rules | `(tactic| and_intros) => `(tactic| try simp only [ap_fld, rFldX, ap_sfld, rSetX, ap_meth, rMethX, ap_make, ap_raise, ap_unp, ap_gcons, ap_gnil, rIsiG, Ends.un, putF, ap_asg, ap_gname, ap_var, ap_c, ap_op, ap_un, ap_cb, ap_cons, ap_nil, ap_call, ap_ret, ap_if, ap_next, ap_drop, ap_test, ap_b, ap_not, ap_and, ap_or, ap_andV, ap_notV, ap_ifE, ap_lst, ap_tup, ap_dnew, nw, ap_lc, ap_sl, ap_noPart, ap_part, ap_iSeq, ap_iRng1, ap_iRng2, ap_iZip, ap_for, ap_par, ap_bm, ap_chain, ex_bl, ex_int, ex_ref, ex_int1, ex_int2, ex_ref2, ex_two, ex_some, ap_iEnum, ap_dget, ap_dget1, ap_dnewT, ap_dput, rIsX, isV, tagV, tagO, Tg.sub, Tg.name, rU, rInX, Option.join_some, Int.toNat_natCast, List.getElem?_cons_zero, List.getElem?_cons_succ, List.set_cons_zero, List.set_cons_succ, start_eq, List.map_cons, List.map_nil, List.cons_append, List.nil_append, List.length_cons, List.length_nil, List.replicate_succ, List.replicate_zero, Nat.reduceAdd, Nat.reduceSub, Nat.zero_add, bne_self_eq_false, Bool.true_bne, Bool.false_bne, Bool.not_true, Bool.not_false, if_true, if_false, Bool.false_eq_true, Bool.true_eq_false, reduceIte, ev_rAddX_1, ev_rAddX_2, ev_rAddX_3, ev_rSubX_1, ev_rMulX_1, ev_rFdivX_1, ev_rModX_1, ev_rPowX_1, ev_rCmpX_1, ev_rGeL_1, ev_rEqX_1, ev_rEqX_3, ev_rEqX_4, ev_rNeX_1, ev_rNeX_3, ev_rNeX_4, ev_rIxX_1, ev_rIxX_2, ev_rLenX_1, ev_rLenX_2, ev_rAbsX_1, ev_rListX_1, ev_rIsiC_1, ev_rSlY_1, ev_rSlY_2, ev_rInsert_1, ev_rIndexS_1, ev_rJoinS_1, ev_rSplit_1, ev_rMulS_1, ev_rSetS_1, ev_rLenT_1, ev_iSeqV_1, ev_iSeqV_2, ev_rNeQ, ap_lamF, ap_callF, ev_spD, ev_rLenD, ev_rSortD, ev_rMulN, ap_f0, ap_fc, ap_fv, ap_fN, ev_rFV1, ev_rFV2, ev_rStrI, ev_rIntT, ev_rSplitM, ap_iZipP])
local macro_rules | `(tactic| ac_nf) => `(tactic| try simp only [ap_seq, ap_fld, rFldX, ap_sfld, rSetX, ap_meth, rMethX, ap_make, ap_raise, ap_unp, ap_gcons, ap_gnil, rIsiG, Ends.un, putF, ap_asg, ap_gname, ap_var, ap_c, ap_op, ap_un, ap_cb, ap_cons, ap_nil, ap_call, ap_ret, ap_if, ap_next, ap_drop, ap_test, ap_b, ap_not, ap_and, ap_or, ap_andV, ap_notV, ap_ifE, ap_lst, ap_tup, ap_dnew, nw, ap_lc, ap_sl, ap_noPart, ap_part, ap_iSeq, ap_iRng1, ap_iRng2, ap_iZip, ap_for, ap_par, ap_bm, ap_chain, ex_bl, ex_int, ex_ref, ex_int1, ex_int2, ex_ref2, ex_two, ex_some, ap_iEnum, ap_dget, ap_dget1, ap_dnewT, ap_dput, rIsX, isV, tagV, tagO, Tg.sub, Tg.name, rU, rInX, Option.join_some, Int.toNat_natCast, List.getElem?_cons_zero, List.getElem?_cons_succ, List.set_cons_zero, List.set_cons_succ, start_eq, List.map_cons, List.map_nil, List.cons_append, List.nil_append, List.length_cons, List.length_nil, List.replicate_succ, List.replicate_zero, Nat.reduceAdd, Nat.reduceSub, Nat.zero_add, bne_self_eq_false, Bool.true_bne, Bool.false_bne, Bool.not_true, Bool.not_false, if_true, if_false, Bool.false_eq_true, Bool.true_eq_false, reduceIte, ev_rAddX_1, ev_rAddX_2, ev_rAddX_3, ev_rSubX_1, ev_rMulX_1, ev_rFdivX_1, ev_rModX_1, ev_rPowX_1, ev_rCmpX_1, ev_rGeL_1, ev_rEqX_1, ev_rEqX_3, ev_rEqX_4, ev_rNeX_1, ev_rNeX_3, ev_rNeX_4, ev_rIxX_1, ev_rIxX_2, ev_rLenX_1, ev_rLenX_2, ev_rAbsX_1, ev_rListX_1, ev_rIsiC_1, ev_rSlY_1, ev_rSlY_2, ev_rInsert_1, ev_rIndexS_1, ev_rJoinS_1, ev_rSplit_1, ev_rMulS_1, ev_rSetS_1, ev_rLenT_1, ev_iSeqV_1, ev_iSeqV_2, ev_rNeQ, ap_lamF, ap_callF, ev_spD, ev_rLenD, ev_rSortD, ev_rMulN, ap_f0, ap_fc, ap_fv, ap_fN, ev_rFV1, ev_rFV2, ev_rStrI, ev_rIntT, ev_rSplitM, ap_iZipP])
local macro_rules | `(tactic| bv_omega) => `(tactic| try simp only [ex_bl, ex_int, ex_ref, Bool.not_false, Bool.not_true, if_true, if_false, Bool.false_eq_true, Bool.true_eq_false, true_and, and_true])
structure CodeOk (al:List Nat) (ws:List Int) (r:Int):Prop where
 a3:3<=al.length
 a26:al.length<=26
 nd:al.Nodup
 abc:∀ c∈al,97<=c/\c < 123
 w3:3<=ws.length
 w8:ws.length<=8
 wm:∀ x∈ws,0<=x/\x < (al.length:Int)
 safe:Mk.safe al.length ws=true
 rm:0<=r/\r < (al.length:Int)
theorem CodeOk.sml {al:List Nat}{ws:List Int}{r:Int} (h:CodeOk al ws r):Mk.sml ws:=by
 intro x hx
 have:=h.wm x hx
 have:=h.a26
 omega
def codeF (al:List Nat) (q:Addr) (r:Int):List (Str × V):=[("letters",.str (tx al)),("factors",.ref q),("remainder",.int r)]
theorem codeF_letters (al:List Nat) (q:Addr) (r:Int):(codeF al q r).lookup ("letters":Str)=some (V.str (tx al)):=rfl
theorem codeF_factors (al:List Nat) (q:Addr) (r:Int):(codeF al q r).lookup ("factors":Str)=some (V.ref q):=rfl
theorem codeF_remainder (al:List Nat) (q:Addr) (r:Int):(codeF al q r).lookup ("remainder":Str)=some (V.int r):=rfl
theorem codeF_none {m:Str} (h1:m≠("letters":Str)) (h2:m≠("factors":Str)) (h3:m≠("remainder":Str)) (al:List Nat) (q:Addr) (r:Int):(codeF al q r).lookup m=none:=by
 unfold codeF
 rw [List.lookup_cons,List.lookup_cons,List.lookup_cons,beq_false_of_ne h1,beq_false_of_ne h2,beq_false_of_ne h3]
 rfl
def CodeAt (Ad:Ads) (H:Hp) (a:Addr) (al:List Nat) (ws:List Int) (r:Int):Prop:=∃ dx q,H a=some (.ins Ad.Code dx (codeF al q r))/\H q=some (.lst (ws.map V.int))
theorem CodeAt.same {Ad:Ads}{H H':Hp}{a:Addr}{al:List Nat}{ws:List Int}{r:Int} (h:CodeAt Ad H a al ws r) (s:Same H H'):CodeAt Ad H' a al ws r:=by
 obtain ⟨dx,q,h1,h2⟩:=h
 exact ⟨dx,q,s _ _ h1,s _ _ h2⟩
def codeMade (H:Hp) (xa xw xr:V) (al:List Nat) (p:Addr) (ws:List Int) (r:Int):Prop:=xa=.str (tx al)/\xw=.ref p/\H p=some (.lst (ws.map V.int))/\xr=.int r/\CodeOk al ws r
def codeBad (H:Hp) (xa xw xr:V):Prop:=∀ al p ws r,¬ codeMade H xa xw xr al p ws r

theorem paired_appP {α β:Type}{F:α->β->Prop}:∀ {a:List α}{b:List β}{c:List α}{d:List β},Paired F a b->Paired F c d->Paired F (a++c) (b++d)
 | _,_,_,_,.nil,h=>h
 | _,_,_,_,.cons r t,h=>.cons r (paired_appP t h)
theorem paired_impP {α β:Type}{F G:α->β->Prop} (f:∀ x y,F x y->G x y):∀ {a:List α}{b:List β},Paired F a b->Paired G a b
 | _,_,.nil=>.nil
 | _,_,.cons r t=>.cons (f _ _ r) (paired_impP f t)
theorem atI_lastP {α:Type}{l:List α}{v:α} (h:l.getLast?=some v):atI l (-1)=some v:=by
 have hne:l≠[]:=fun e=>by subst e;cases h
 have hl:=List.length_pos_iff.mpr hne
 unfold atI ixN
 rw [if_neg (by decide),if_pos (by omega)]
 show l[_]?=some v
 rw [List.getLast?_eq_getElem?] at h
 rw [← h]
 congr 1
 omega
theorem paired_len {α β:Type}{F:α->β->Prop}:∀ {l₁:List α}{l₂:List β},Paired F l₁ l₂->l₁.length=l₂.length
 | _,_,.nil=>rfl
 | _,_,.cons _ r=>by rw [List.length_cons,List.length_cons,paired_len r]
theorem map_pick {β γ:Type}{f:β->γ}{xs:List β}{i:Nat}{v:γ} (h:(xs.map f)[i]?=some v):∃ x,xs[i]?=some x/\f x=v:=by
 rw [List.getElem?_map] at h
 exact Option.map_eq_some_iff.mp h
theorem mix_pos (c:Int):0<=c * 69621 % 2147483629 + 2147483629 * (c % 10 ^ 60):=by
 have h1:=Int.emod_nonneg (c * 69621) (b:=2147483629) (by decide)
 have h2:=Int.emod_nonneg c (b:=10 ^ 60) (by decide)
 omega
def areLet (n:Nat) (l:List Nat):Bool:=decide (1<=l.length) && decide (l.length<=n) && l.all fun c=>decide (97<=c/\c < 123)
def areLetV (n:Nat):V->Bool
 | .str z=>areLet n z.cps.toList
 | _=>false
def areWds (n:Nat) (l:List Nat):Bool:=decide ((Mk.splitL 32 l).length<=n) && (Mk.splitL 32 l).all (areLet 20)
def areWdsV (n:Nat):V->Bool
 | .str z=>areWds n z.cps.toList
 | _=>false
def isEntL:List V->Bool
 | [.str z]=>decide (z=("end":Str))
 | [.str z,y]=>if z=("phrase":Str) then areWdsV 6 y else if z=("part":Str) then areLetV 6 y else false
 | _=>false
def isEntV (H:Hp):V->Bool
 | .ref p=>match H p with
  | some (.tup xs)=>isEntL xs
  | _=>false
 | _=>false
theorem areLet_of {n:Nat}{l:List Nat} (h1:1<=l.length) (h2:l.length<=n) (h3:∀ c∈l,97<=c/\c < 123):areLet n l=true:=by
 unfold areLet
 rw [decide_eq_true h1,decide_eq_true h2,Bool.true_and,Bool.true_and,List.all_eq_true]
 exact fun c hc=>decide_eq_true (h3 c hc)
theorem areWds_of {n:Nat}{ws:List (List Nat)} (h1:1<=ws.length) (h2:ws.length<=n) (h3:∀ w∈ws,1<=w.length/\w.length<=20/\∀ c∈w,97<=c/\c < 123):areWds n (Mk.joinL 32 ws)=true:=by
 unfold areWds
 rw [Mk.split_joinL ws (fun e=>by rw [e] at h1;simp at h1) fun w hw hc=>by have:=(h3 w hw).2.2 32 hc;omega,decide_eq_true h2,Bool.true_and,List.all_eq_true]
 exact fun w hw=>areLet_of (h3 w hw).1 (h3 w hw).2.1 (h3 w hw).2.2
theorem join_len {n:Nat}{ws:List (List Nat)} (h2:ws.length<=n) (h3:∀ w∈ws,w.length<=20):(Mk.joinL 32 ws).length<=21 * n/\(ws.map fun w=>w.length + 1).sum<=21 * n:=by
 have h:=Mk.joinL_len (c:=32) ws
 have:(ws.map fun w=>w.length + 1).sum<=21 * ws.length:=by
  clear h2 h
  induction ws with
  | nil=>simp
  | cons w r ih =>
   have h1:=ih fun x hx=>h3 x (List.mem_cons_of_mem _ hx)
   have h2:=h3 w List.mem_cons_self
   simp only [List.map_cons,List.sum_cons,List.length_cons]
   omega
 omega
theorem isEnt_phrase {l:List Nat} (h:areWds 6 l=true):isEntL [.str ("phrase":Str),.str (tx l)]=true:=by
 show (if ("phrase":Str)=("phrase":Str) then areWds 6 (tx l).cps.toList else if ("phrase":Str)=("part":Str) then areLet 6 (tx l).cps.toList else false)=true
 rw [if_pos rfl,tx_cps];exact h
theorem isEnt_part {l:List Nat} (h:areLet 6 l=true):isEntL [.str ("part":Str),.str (tx l)]=true:=by
 show (if ("part":Str)=("phrase":Str) then areWds 6 (tx l).cps.toList else if ("part":Str)=("part":Str) then areLet 6 (tx l).cps.toList else false)=true
 rw [if_neg (by decide),if_pos rfl,tx_cps];exact h
def lamQ:Str:="Book.put.<locals>.<lambda>"
structure Ben where
 num:Int
 key:List Key
 adr:Addr
def bookF (ca dn de:Addr):List (Str × V):=[("basis",.ref ca),("by_number",.ref dn),("by_entry",.ref de)]
theorem bookF_basis (p q r:Addr):(bookF p q r).lookup ("basis":Str)=some (V.ref p):=rfl
theorem bookF_num (p q r:Addr):(bookF p q r).lookup ("by_number":Str)=some (V.ref q):=rfl
theorem bookF_ent (p q r:Addr):(bookF p q r).lookup ("by_entry":Str)=some (V.ref r):=rfl
theorem bookF_none {m:Str} (h1:m≠("basis":Str)) (h2:m≠("by_number":Str)) (h3:m≠("by_entry":Str)) (p q r:Addr):(bookF p q r).lookup m=none:=by
 unfold bookF
 rw [List.lookup_cons,List.lookup_cons,List.lookup_cons,beq_false_of_ne h1,beq_false_of_ne h2,beq_false_of_ne h3]
 rfl
def numD (es:List Ben):List (Key × V):=(es.map fun e=>(e.num,V.ref e.adr)).map fun q=>(.inl q.1,q.2)
def entD (es:List Ben):List (List Key × V):=es.map fun e=>(e.key,V.int e.num)
structure BookAt (Ad:Ads) (H:Hp) (b ca dn de:Addr) (es:List Ben):Prop where
 bk:∃ dx,H b=some (.ins Ad.Book dx (bookF ca dn de))
 hn:H dn=some (.dK (numD es))
 he:H de=some (.dT (entD es))
 en:∀ e∈es,H e.adr=some (.tup (e.key.map kV))
 nn:(es.map (·.num)).Nodup
 nk:(es.map (·.key)).Nodup
theorem BookAt.same {Ad:Ads}{H H':Hp}{b ca dn de:Addr}{es:List Ben} (h:BookAt Ad H b ca dn de es) (s:Same H H'):BookAt Ad H' b ca dn de es:=by
 obtain ⟨⟨dx,h1⟩,h2,h3,h4,h5,h6⟩:=h
 exact ⟨⟨dx,s _ _ h1⟩,s _ _ h2,s _ _ h3,fun e he=>s _ _ (h4 e he),h5,h6⟩
theorem val_map {α κ:Type} [DecidableEq κ] {f:α->κ}{g:α->V}:∀ {es:List α}{e:α},(es.map f).Nodup->e∈es->valV (es.map fun x=>(f x,g x)) (f e)=some (g e)
 | x::r,e,hn,he=>by
  obtain ⟨h1,h2⟩:=List.nodup_cons.mp hn
  unfold valV
  rw [List.map_cons,List.find?_cons]
  by_cases h:f x=f e
  ·rw [decide_eq_true h]
   rcases List.mem_cons.mp he with rfl | he
   ·rfl
   ·exact absurd (List.mem_map_of_mem (f:=f) he) (by rw [← h];exact h1)
  ·rw [decide_eq_false h]
   rcases List.mem_cons.mp he with rfl | he
   ·exact absurd rfl h
   ·exact val_map h2 he
theorem val_no {α κ:Type} [DecidableEq κ] {f:α->κ}{g:α->V}{k:κ}:∀ {es:List α},k ∉ es.map f->valV (es.map fun x=>(f x,g x)) k=none
 | [],_=>rfl
 | x::r,h=>by
  rw [List.map_cons,List.mem_cons,not_or] at h
  unfold valV
  rw [List.map_cons,List.find?_cons,decide_eq_false (show ¬ f x=k from fun e=>h.1 e.symm)]
  exact val_no h.2
theorem numD_eq (es:List Ben):numD es=es.map fun e=>(.inl e.num,V.ref e.adr):=by unfold numD;rw [List.map_map];rfl
theorem inl_nd {es:List Ben} (h:(es.map (·.num)).Nodup):(es.map fun e=>(.inl e.num:Key)).Nodup:=by
 have e:(es.map fun e=>(.inl e.num:Key))=(es.map (·.num)).map Sum.inl:=by rw [List.map_map];rfl
 rw [e]
 exact List.Pairwise.map _ (fun a b (h:a≠b) z=>h (Sum.inl.inj z)) h
theorem num_val {es:List Ben}{e:Ben} (hn:(es.map (·.num)).Nodup) (he:e∈es):valV (numD es) (.inl e.num)=some (.ref e.adr):=by
 rw [numD_eq];exact val_map (f:=fun e:Ben=>(.inl e.num:Key)) (inl_nd hn) he
theorem num_no {es:List Ben}{k:Int} (h:k ∉ es.map (·.num)):valV (numD es) (.inl k)=none:=by
 rw [numD_eq]
 refine val_no (f:=fun e:Ben=>(.inl e.num:Key)) fun m=>h ?_
 obtain ⟨e,he,ee⟩:=List.mem_map.mp m
 exact List.mem_map.mpr ⟨e,he,Sum.inl.inj ee⟩
theorem num_is {es:List Ben}{k:Int} (hn:(es.map (·.num)).Nodup):(valV (numD es) (.inl k)).isSome=decide (k∈es.map (·.num)):=by
 by_cases h:k∈es.map (·.num)
 ·obtain ⟨e,he,rfl⟩:=List.mem_map.mp h
  rw [num_val hn he,decide_eq_true h];rfl
 ·rw [num_no h,decide_eq_false h];rfl
theorem ent_val {es:List Ben}{e:Ben} (hn:(es.map (·.key)).Nodup) (he:e∈es):valV (entD es) e.key=some (.int e.num):=val_map (f:=fun e:Ben=>e.key) hn he
theorem ent_no {es:List Ben}{k:List Key} (h:k ∉ es.map (·.key)):valV (entD es) k=none:=val_no (f:=fun e:Ben=>e.key) h
theorem put_new {κ:Type} [DecidableEq κ] {kvs:List (κ × V)}{k:κ}{v:V} (h:valV kvs k=none):putK kvs k v=kvs++[(k,v)]:=by
 unfold putK
 rw [valV_any,h]
 rfl
theorem numD_snoc (es:List Ben) (e:Ben):numD (es++[e])=numD es++[(.inl e.num,.ref e.adr)]:=by unfold numD;simp
theorem entD_snoc (es:List Ben) (e:Ben):entD (es++[e])=entD es++[(e.key,.int e.num)]:=by unfold entD;simp
theorem numD_len (es:List Ben):(numD es).length=es.length:=by unfold numD;simp
def LeastF (ns:List Int) (n:Int):Prop:=0<=n/\n ∉ ns/\∀ m,0<=m->m < n->m∈ns
theorem least_ex (ns:List Int):∃ n:Nat,LeastF ns n/\n<=ns.length:=by
 have key:∀ k:Nat,(∀ m:Int,0<=m->m < k->m∈ns) ∨ ∃ n:Nat,n < k/\LeastF ns n:=by
  intro k
  induction k with
  | zero=>exact .inl fun m h1 h2=>by omega
  | succ k ih =>
   rcases ih with h | ⟨n,h1,h2⟩
   ·by_cases hk:(k:Int)∈ns
    ·exact .inl fun m h1 h2=>by
      by_cases e:m=k
      ·rw [e];exact hk
      ·exact h m h1 (by omega)
    ·exact .inr ⟨k,Nat.lt_succ_self _,by omega,hk,h⟩
   ·exact .inr ⟨n,by omega,h2⟩
 rcases key (ns.length + 1) with h | ⟨n,h1,h2⟩
 ·exfalso
  have hs:∀ c∈(List.range (ns.length + 1)).map (fun i:Nat=>(i:Int)),c∈ns:=fun c hc=>by
   obtain ⟨i,hi,rfl⟩:=List.mem_map.mp hc
   have:=List.mem_range.mp hi
   exact h _ (by omega) (by omega)
  have nd:((List.range (ns.length + 1)).map (fun i:Nat=>(i:Int))).Nodup:=List.Pairwise.map _ (fun a b (h:a≠b) z=>h (by omega)) List.nodup_range
  have:=List.Nodup.length_le_of_subset nd hs
  rw [List.length_map,List.length_range] at this
  omega
 ·exact ⟨n,h2,by omega⟩
structure EnOk (key:List Key):Prop where
 is:isEntL (key.map kV)=true
 few:key.length<=2
 short:∀ z,V.str z∈key.map kV->z.length<=10000
def ManyI (al:List Nat) (ws:List Int):Int:=(al.length:Int) ^ (ws.length - 1)
theorem entV_of {H:Hp}{t:Addr}{key:List Key} (ht:H t=some (.tup (key.map kV))) (ok:EnOk key):isEntV H (.ref t)=true:=by
 show (match H t with | some (.tup xs)=>isEntL xs | _=>false)=true
 rw [ht];exact ok.is
theorem by_num {es:List Ben}{ns:List Int} (hp:ns.Perm ((es.map fun e=>(e.num,V.ref e.adr)).map (·.1))) (hs:ns.Pairwise (·<=·)) (hn:(es.map (·.num)).Nodup):∃ ms:List Ben,ms.Perm es/\ms.map (·.num)=ns/\(ms.map (·.num)).Pairwise (· < ·):=by
 rw [List.map_map] at hp
 have p1:(es.mergeSort fun a b=>decide (a.num<=b.num)).Perm es:=List.mergeSort_perm _ _
 have p2:=List.pairwise_mergeSort (le:=fun a b:Ben=>decide (a.num<=b.num)) (fun a b c h1 h2=>by simp only [decide_eq_true_eq] at *;omega) (fun a b=>by simp only [Bool.or_eq_true,decide_eq_true_eq];omega) es
 generalize es.mergeSort (fun a b=>decide (a.num<=b.num))=ms at p1 p2
 have p3:(ms.map (·.num)).Pairwise (·<=·):=List.pairwise_map.mpr (List.Pairwise.imp (fun h=>by simpa using h) p2)
 have e:ms.map (·.num)=ns:=PySem.W.ksm_same ((p1.map _).trans hp.symm) p3 hs
 refine ⟨ms,p1,e,?_⟩
 have nd:(ms.map (·.num)).Nodup:=(p1.map _).nodup_iff.mpr hn
 exact List.Pairwise.imp (fun {a b} (h:a<=b/\a≠b)=>by omega) (p3.and nd)
def TssAt (H:Hp) (vs:List V) (tss:List (List V)):Prop:=Paired (fun v ts=>∃ p,v=V.ref p/\H p=some (.tup ts)) vs tss
theorem paired_mapR {α β γ:Type}{F:α->γ->Prop}{f:β->γ}:∀ {l₁:List α}{l₂:List β},Paired F l₁ (l₂.map f)->Paired (fun a b=>F a (f b)) l₁ l₂
 | [],[],_=>.nil
 | _::_,_::_,.cons r t=>.cons r (paired_mapR t)
theorem lc_newT {J:It}{H1:Hp}{xs:List V}{js:List Nat}{σ:St}{te:TE}{Q:VK} (hJ:J.Seq H1 xs) (hl:xs.length < sizeLine) (tss:List (List V)) (hn:tss.length=xs.length)
  (he:∀ (i:Nat) x ts,xs[i]?=some x->tss[i]?=some ts->∀ H,Same H1 H->∀ R:VK,(∀ p H',H p=none->Same H H'->H' p=some (.tup ts)->R (.ref p) H')->te (some x::js.map fun j=>(σ[j]?).join) H R)
  (q:∀ D vs H,H1 D=none->Same H1 H->H D=some (.lst vs)->TssAt H vs tss->Q (.ref D) H):LcTurns (gName 0) tYes te (blkSt 1 js σ) J H1 Q:=by
 intro D hD
 refine ⟨fun i m ys σ1 H=>m=xs.length - i/\i<=xs.length/\(∃ o,σ1=o::js.map fun j=>(σ[j]?).join)/\ys.length=i/\TssAt H ys (tss.take i)/\Same H1 H/\H D=some (.lst ys),
  ⟨xs.length,by simp,Nat.zero_le _,⟨none,rfl⟩,rfl,.nil,(Same.refl H1).upd_new hD,upd_same⟩,?_⟩
 rintro i m ys σ1 H ⟨rfl,hi,⟨o,rfl⟩,hy,hg,sH,hL⟩
 refine ⟨hL,by omega,?_⟩
 by_cases hlt:i < xs.length
 ·have e:xs[i]?=some xs[i]:=List.getElem?_eq_getElem hlt
  have e2:tss[i]?=some (tss[i]'(by omega)):=List.getElem?_eq_getElem _
  obtain ⟨go,yl⟩:=(hJ H sH).1 i xs[i] e
  refine .inr ⟨go,fun x H' y=>?_⟩
  obtain ⟨q1,q2⟩:=yl x H' y
  subst q1 q2
  show te (some xs[i]::js.map fun j=>(σ[j]?).join) H' _
  refine he i _ _ e e2 H' sH _ fun p H4 w4 s4 hp=>?_
  have hL4:=s4 _ _ hL
  have pD:p≠D:=(ne_of_none hL w4).symm
  refine ⟨hL4,xs.length - (i + 1),by omega,rfl,hlt,⟨_,rfl⟩,by rw [List.length_append,hy];rfl,?_,(sH.trans s4).upd_new hD,upd_same⟩
  rw [List.take_add_one,e2]
  refine paired_appP (paired_impP (fun v ts ⟨b,eb,hb⟩=>⟨b,eb,?_⟩) hg) (.cons ⟨p,rfl,by rw [upd_ne pD];exact hp⟩ .nil)
  have h4:=s4 _ _ hb
  rw [upd_ne (ne_of h4 hL4 (by intro z;cases z))];exact h4
 ·have e:i=xs.length:=by omega
  subst e
  rw [List.take_of_length_le (by omega)] at hg
  exact .inl ⟨(hJ H sH).2 _ (Nat.le_refl _),q D ys H hD sH hL hg⟩
theorem kV_tag (H:Hp) (z:Key):∃ t,tagV H (kV z)=some t:=by
 cases z with
 | inl i=>exact ⟨.int,rfl⟩
 | inr s=>exact ⟨.str,rfl⟩
def EntAt (H:Hp) (p:Addr):Prop:=∃ (ks:List Key),H p=some (.tup (ks.map kV))/\isEntL (ks.map kV)=true/\1<=ks.length/\ks.length<=2/\∀ z∈ks,∃ l:List Nat,z=.inr (tx l)/\l.length<=1000
theorem EntAt.same {H H':Hp}{p:Addr} (s:Same H H') (h:EntAt H p):EntAt H' p:=by
 obtain ⟨ks,e1,e2⟩:=h
 exact ⟨ks,s _ _ e1,e2⟩
theorem ent_ok {H:Hp}{p:Addr} (h:EntAt H p):∃ ks:List Key,H p=some (.tup (ks.map kV))/\EnOk ks:=by
 obtain ⟨ks,h1,h2,h3,h4,h5⟩:=h
 refine ⟨ks,h1,h2,h4,fun z hz=>?_⟩
 obtain ⟨u,hu,e⟩:=List.mem_map.mp hz
 obtain ⟨l,el,ll⟩:=h5 u hu
 rw [el] at e
 have e':tx l=z:=V.str.inj e
 rw [← e',tx_len];omega
theorem ent_tup {H:Hp}{p:Addr}{ks:List Key} (hp:H p=some (.tup (ks.map kV))) (ok:EnOk ks):tagV H (.ref p)=some Tg.tup/\∀ q xs,V.ref p=.ref q->H q=some (.tup xs)->xs.length<=1000/\∀ y∈xs,(∃ t,tagV H y=some t)/\∀ z,y=.str z->z.length<=10000:=by
 refine ⟨by show tagO (H p)=_;rw [hp];rfl,fun q xs e e2=>?_⟩
 cases e
 rw [hp] at e2
 cases e2
 refine ⟨by rw [List.length_map];have:=ok.few;omega,fun y hy=>⟨?_,fun z ez=>ok.short z (by rw [← ez];exact hy)⟩⟩
 obtain ⟨x,_,rfl⟩:=List.mem_map.mp hy
 exact kV_tag H x
def codeR (al:List Nat) (ws:List Int) (r:Int):List Nat:=[99,111,100,101,32]++al++[32]++Mk.joinL 44 (ws.map fun w=>Mk.dgN w.toNat)++[32]++Mk.dgN r.toNat
def entS:List Key->List Nat
 | [.inr z,.inr y]=>if z=("phrase":Str) then [32,61,32]++y.cps.toList else [32,43,32]++y.cps.toList
 | _=>[32,46]
def wdL (al:List Nat) (ws:List Int) (r:Int) (k:Int):List Nat:=Mk.spell al (Mk.wordP al.length ws r k)
def entR (al:List Nat) (ws:List Int) (r:Int) (m:Ben):List Nat:=wdL al ws r m.num++entS m.key
def bookT (al:List Nat) (ws:List Int) (r:Int) (ms:List Ben):List Nat:=Mk.joinL 10 (codeR al ws r::ms.map (entR al ws r))
theorem en_cases {key:List Key} (ok:EnOk key):key=[.inr ("end":Str)] ∨ (∃ l,key=[.inr ("phrase":Str),.inr (tx l)]/\areWds 6 l=true/\l.length<=10000) ∨ ∃ l,key=[.inr ("part":Str),.inr (tx l)]/\areLet 6 l=true/\l.length<=10000:=by
 have h:=ok.is
 have hs:=ok.short
 match key,h,hs with
 | [.inr z],h,_=>exact .inl (by rw [of_decide_eq_true (show decide (z=("end":Str))=true from h)])
 | [.inr z,.inr y],h,hs =>
  have hl:y.cps.toList.length<=10000:=by rw [show y.cps.toList.length=y.length from by show _=y.cps.size;simp];exact hs y (by simp [kV])
  have h':(if z=("phrase":Str) then areWds 6 y.cps.toList else if z=("part":Str) then areLet 6 y.cps.toList else false)=true:=h
  split at h'
  ·rename_i e
   exact .inr (.inl ⟨y.cps.toList,by rw [e,tx_of],h',hl⟩)
  ·split at h'
   ·rename_i e
    exact .inr (.inr ⟨y.cps.toList,by rw [e,tx_of],h',hl⟩)
   ·cases h'
 | [.inr z,.inl y],h,_ =>
  have h':(if z=("phrase":Str) then false else if z=("part":Str) then false else false)=true:=h
  split at h'
  ·cases h'
  ·split at h' <;> cases h'
 | [],h,_=>cases h
 | [.inl _],h,_=>cases h
 | .inl _::_::_,h,_=>cases h
 | .inr _::_::_::_,h,_=>cases h
theorem wj_len {ws:List Int} (hws:∀ w∈ws,0<=w/\w < 26) (w8:ws.length<=8):(Mk.joinL 44 (ws.map fun w=>Mk.dgN w.toNat)).length<=24:=by
 have h1:=Mk.joinL_len (c:=44) (ws.map fun w=>Mk.dgN w.toNat)
 have h2:((ws.map fun w=>Mk.dgN w.toNat).map fun w=>w.length + 1).sum<=3 * ws.length:=by
  clear h1 w8
  induction ws with
  | nil=>simp
  | cons w r ih =>
   have h3:=ih (fun x hx=>hws x (List.mem_cons_of_mem _ hx))
   have h5:=hws w List.mem_cons_self
   have h4:=(Mk.dgN_small w.toNat (by omega)).2.1
   simp only [List.map_cons,List.sum_cons,List.length_cons] at h3 h4 ⊢
   omega
 omega
theorem wd_ok {al:List Nat}{ws:List Int}{r g:Int} (ok:CodeOk al ws r) (h0:0<=g) (h1:g < ManyI al ws):(wdL al ws r g).length=ws.length/\(∀ c∈wdL al ws r g,97<=c/\c < 123)/\Mk.isGoodL al ws r (wdL al ws r g)=true/\Mk.numOf al.length (Mk.plc al (wdL al ws r g).dropLast)=g:=by
 have a3:=ok.a3
 have a26:=ok.a26
 have w3:=ok.w3
 have hl:=Mk.wordP_len (m:=(al.length:Int)) (r:=r) (k:=g) (ws:=ws) (by omega)
 have hm:=Mk.wordP_mem (m:=(al.length:Int)) (r:=r) (k:=g) (ws:=ws) (by omega) (by omega) ok.wm ok.safe (by omega)
 have hg:=Mk.wordP_good (m:=(al.length:Int)) (r:=r) (k:=g) (ws:=ws) (by omega) (by omega) ok.wm ok.safe (by omega)
 have hn:=Mk.wordP_num (m:=(al.length:Int)) (r:=r) (k:=g) (ws:=ws) (by omega) h0 h1
 unfold wdL
 refine ⟨by rw [Mk.spell_len,hl],fun c hc=>?_,by rw [Mk.good_spell ok.nd hl hm];exact hg,?_⟩
 ·unfold Mk.spell at hc
  obtain ⟨x,hx,rfl⟩:=List.mem_map.mp hc
  have:=hm x hx
  refine ok.abc _ ?_
  rw [List.getD_eq_getElem?_getD,List.getElem?_eq_getElem (show x.toNat < al.length by omega)]
  exact List.getElem_mem _
 ·have e:(Mk.spell al (Mk.wordP al.length ws r g)).dropLast=Mk.spell al (Mk.wordP al.length ws r g).dropLast:=by unfold Mk.spell;rw [List.map_dropLast]
  rw [e,Mk.plc_spell ok.nd (fun p hp=>hm p (List.dropLast_subset _ hp))]
  exact hn
theorem join_splitL (c:Nat) (l:List Nat):Mk.joinL c (Mk.splitL c l)=l:=by
 have h:=StrLaws.join_split (tx l) (tx [c])
 rw [split_tx,strjoin_tx] at h
 exact tx_inj h
theorem entS_ph (l:List Nat):entS [.inr (Str.ofString "phrase"),.inr (tx l)]=[32,61,32]++l:=by simp [entS,tx_cps]
theorem entS_pa (l:List Nat):entS [.inr (Str.ofString "part"),.inr (tx l)]=[32,43,32]++l:=by
 have:¬ Str.ofString "part"=Str.ofString "phrase":=by decide
 simp [entS,this,tx_cps]
theorem wds_chars {n:Nat}{l:List Nat} (h:areWds n l=true):l.length<=21 * n/\∀ c∈l,c=32 ∨ (97<=c/\c < 123):=by
 unfold areWds at h
 rw [Bool.and_eq_true,decide_eq_true_eq,List.all_eq_true] at h
 have hw:∀ w∈Mk.splitL 32 l,w.length<=20/\∀ c∈w,97<=c/\c < 123:=fun w hw=>by
  have:=h.2 w hw
  unfold areLet at this
  simp only [Bool.and_eq_true,decide_eq_true_eq,List.all_eq_true] at this
  exact ⟨this.1.2,this.2⟩
 refine ⟨?_,fun c hc=>?_⟩
 ·have:=(join_len h.1 fun w hx=>(hw w hx).1).1
  rwa [join_splitL] at this
 ·rw [← join_splitL 32 l] at hc
  have mj:∀ (ls:List (List Nat)),c∈Mk.joinL 32 ls->c=32 ∨ ∃ w∈ls,c∈w:=by
   intro ls
   induction ls with
   | nil=>intro h;cases h
   | cons a r ih =>
    intro h
    cases r with
    | nil=>exact .inr ⟨a,List.mem_cons_self,h⟩
    | cons b r =>
     rcases List.mem_append.mp (show c∈a++32::Mk.joinL 32 (b::r) from h) with h | h
     ·exact .inr ⟨a,List.mem_cons_self,h⟩
     ·rcases List.mem_cons.mp h with h | h
      ·exact .inl h
      ·rcases ih h with h | ⟨w,hw,h⟩
       ·exact .inl h
       ·exact .inr ⟨w,List.mem_cons_of_mem _ hw,h⟩
  rcases mj _ hc with h | ⟨w,hx,h⟩
  ·exact .inl h
  ·exact .inr ((hw w hx).2 c h)
theorem let_chars {n:Nat}{l:List Nat} (h:areLet n l=true):l.length<=n/\∀ c∈l,97<=c/\c < 123:=by
 unfold areLet at h
 simp only [Bool.and_eq_true,decide_eq_true_eq,List.all_eq_true] at h
 exact ⟨h.1.2,h.2⟩
theorem entS_len {key:List Key} (ok:EnOk key):(entS key).length<=130/\10 ∉ entS key:=by
 rcases en_cases ok with rfl | ⟨l,rfl,h,_⟩ | ⟨l,rfl,h,_⟩
 ·exact ⟨by decide,by decide⟩
 ·obtain ⟨h1,h2⟩:=wds_chars h
  rw [entS_ph,List.length_append]
  refine ⟨by simp only [List.length_cons,List.length_nil];omega,fun z=>?_⟩
  rcases List.mem_append.mp z with z | z
  ·revert z;decide
  ·have:=h2 _ z;omega
 ·obtain ⟨h1,h2⟩:=let_chars h
  rw [entS_pa,List.length_append]
  refine ⟨by simp only [List.length_cons,List.length_nil];omega,fun z=>?_⟩
  rcases List.mem_append.mp z with z | z
  ·revert z;decide
  ·have:=h2 _ z;omega
theorem entR_len {al:List Nat}{ws:List Int}{r:Int}{m:Ben} (ok:CodeOk al ws r) (h:EnOk m.key/\0<=m.num/\m.num < ManyI al ws):(entR al ws r m).length<=138:=by
 have:=(wd_ok ok h.2.1 h.2.2).1
 have:=(entS_len h.1).1
 have:=ok.w8
 unfold entR
 rw [List.length_append]
 omega
theorem codeR_len {al:List Nat}{ws:List Int}{r:Int} (ok:CodeOk al ws r):(codeR al ws r).length<=60:=by
 have a26:=ok.a26
 have rm:=ok.rm
 have h1:=wj_len (fun w hw=>by have:=ok.wm w hw;exact ⟨this.1,by omega⟩) ok.w8
 have h2:=(Mk.dgN_small r.toNat (by omega)).2.1
 unfold codeR
 simp only [List.length_append,List.length_cons,List.length_nil]
 omega
theorem rows_sum {ls:List (List Nat)}{n:Nat} (h:∀ l∈ls,l.length<=n):(ls.map (·.length)).sum<=n * ls.length:=by
 induction ls with
 | nil=>simp
 | cons l r ih =>
  have h1:=ih fun x hx=>h x (List.mem_cons_of_mem _ hx)
  have h2:=h l List.mem_cons_self
  simp only [List.map_cons,List.sum_cons,List.length_cons]
  rw [Nat.mul_add]
  omega
def entP:List Key->List V
 | [.inr z,.inr y]=>if z=("phrase":Str) then [.str (tx [61]),.str y] else [.str (tx [43]),.str y]
 | _=>[.str (tx [46])]
theorem entP_ph (l:List Nat):entP [.inr (Str.ofString "phrase"),.inr (tx l)]=[.str (tx [61]),.str (tx l)]:=by simp [entP]
theorem entP_pa (l:List Nat):entP [.inr (Str.ofString "part"),.inr (tx l)]=[.str (tx [43]),.str (tx l)]:=by
 have:¬ Str.ofString "part"=Str.ofString "phrase":=by decide
 simp [entP,this]
theorem mem_joinL {c d:Nat}:∀ (ls:List (List Nat)),c∈Mk.joinL d ls->c=d ∨ ∃ w∈ls,c∈w
 | [],h=>by cases h
 | [a],h=>.inr ⟨a,List.mem_cons_self,h⟩
 | a::b::r,h=>by
  rcases List.mem_append.mp (show c∈a++d::Mk.joinL d (b::r) from h) with h | h
  ·exact .inr ⟨a,List.mem_cons_self,h⟩
  ·rcases List.mem_cons.mp h with h | h
   ·exact .inl h
   ·rcases mem_joinL (b::r) h with h | ⟨w,hw,h⟩
    ·exact .inl h
    ·exact .inr ⟨w,List.mem_cons_of_mem _ hw,h⟩
theorem codeR_parts {al:List Nat}{ws:List Int}{r:Int} (ok:CodeOk al ws r):Mk.splitL 32 (codeR al ws r)=[[99,111,100,101],al,Mk.joinL 44 (ws.map fun w=>Mk.dgN w.toNat),Mk.dgN r.toNat]/\10 ∉ codeR al ws r:=by
 have a26:=ok.a26
 have rm:=ok.rm
 have hd:∀ w:Int,0<=w/\w < 26->∀ c∈Mk.dgN w.toNat,48<=c/\c < 58:=fun w hw=>(Mk.dgN_small w.toNat (by omega)).2.2.1
 have hr:=hd r (by omega)
 have hj:∀ c∈Mk.joinL 44 (ws.map fun w=>Mk.dgN w.toNat),c=44 ∨ (48<=c/\c < 58):=fun c hc=>by
  rcases mem_joinL _ hc with h | ⟨l,hl,h⟩
  ·exact .inl h
  ·obtain ⟨w,hw,rfl⟩:=List.mem_map.mp hl
   have:=ok.wm w hw
   exact .inr (hd w (by omega) c h)
 have e:codeR al ws r=Mk.joinL 32 [[99,111,100,101],al,Mk.joinL 44 (ws.map fun w=>Mk.dgN w.toNat),Mk.dgN r.toNat]:=by
  unfold codeR
  simp [Mk.joinL]
 constructor
 ·rw [e]
  refine Mk.split_joinL _ (by simp) fun w hw=>?_
  simp only [List.mem_cons,List.not_mem_nil,or_false] at hw
  rcases hw with rfl | rfl | rfl | rfl
  ·decide
  ·intro h;have:=ok.abc _ h;omega
  ·intro h;have:=hj _ h;omega
  ·intro h;have:=hr _ h;omega
 ·intro h
  rw [e] at h
  rcases mem_joinL _ h with h | ⟨w,hw,hx⟩
  ·omega
  ·simp only [List.mem_cons,List.not_mem_nil,or_false] at hw
   rcases hw with rfl | rfl | rfl | rfl
   ·revert hx;decide
   ·have:=ok.abc _ hx;omega
   ·have:=hj _ hx;omega
   ·have:=hr _ hx;omega
theorem row_parts {al:List Nat}{ws:List Int}{r:Int}{m:Ben} (ok:CodeOk al ws r) (h:EnOk m.key/\0<=m.num/\m.num < ManyI al ws):(Mk.splitA 32 2 [] (entR al ws r m)).map (fun w=>V.str (tx w))=V.str (tx (wdL al ws r m.num))::entP m.key/\10 ∉ entR al ws r m:=by
 obtain ⟨w1,w2,_⟩:=wd_ok ok h.2.1 h.2.2
 have n32:32 ∉ wdL al ws r m.num:=fun z=>by have:=w2 _ z;omega
 constructor
 ·unfold entR
  rcases en_cases h.1 with e | ⟨l,e,hl,_⟩ | ⟨l,e,hl,_⟩
  ·rw [e,show entS [.inr (Str.ofString "end")]=32::[46] from rfl,Mk.splitA_cut 1 _ _ _ n32,Mk.splitA_free _ _ _ (by decide)]
   rfl
  ·rw [e,entS_ph,entP_ph,show [32,61,32]++l=32::([61]++32::l) from rfl,Mk.splitA_cut 1 _ _ _ n32,Mk.splitA_cut 0 _ _ _ (by decide),Mk.splitA]
   rfl
  ·rw [e,entS_pa,entP_pa,show [32,43,32]++l=32::([43]++32::l) from rfl,Mk.splitA_cut 1 _ _ _ n32,Mk.splitA_cut 0 _ _ _ (by decide),Mk.splitA]
   rfl
 ·intro z
  rcases List.mem_append.mp z with z | z
  ·have:=w2 _ z;omega
  ·exact (entS_len h.1).2 z
def nk (m:Ben):Int × List Key:=(m.num,m.key)
theorem nk_num {a b:List Ben} (h:a.map nk=b.map nk):a.map (·.num)=b.map (·.num):=by
 have:=congrArg (List.map (·.1)) h
 rwa [List.map_map,List.map_map] at this
theorem nk_key {a b:List Ben} (h:a.map nk=b.map nk):a.map (·.key)=b.map (·.key):=by
 have:=congrArg (List.map (·.2)) h
 rwa [List.map_map,List.map_map] at this
theorem lt_uniq:∀ {l l':List (Int × List Key)},l.Perm l'->(l.map (·.1)).Pairwise (· < ·)->(l'.map (·.1)).Pairwise (· < ·)->l=l'
 | [],l',p,_,_=>(List.nil_perm.mp p).symm
 | a::r,[],p,_,_=>absurd (List.perm_nil.mp p) (by simp)
 | a::r,b::r',p,h1,h2=>by
  obtain ⟨a1,a2⟩:=List.pairwise_cons.mp h1
  obtain ⟨b1,b2⟩:=List.pairwise_cons.mp h2
  have e:a=b:=by
   rcases List.mem_cons.mp (p.mem_iff.mp List.mem_cons_self) with h | h
   ·exact h
   ·rcases List.mem_cons.mp (p.mem_iff.mpr List.mem_cons_self) with h' | h'
    ·exact h'.symm
    ·have q1:b.1 < a.1:=b1 _ (List.mem_map_of_mem (f:=fun e:Int × List Key=>e.1) h)
     have q2:a.1 < b.1:=a1 _ (List.mem_map_of_mem (f:=fun e:Int × List Key=>e.1) h')
     omega
  subst e
  rw [lt_uniq (List.Perm.cons_inv p) a2 b2]
theorem bookT_nk {al:List Nat}{ws:List Int}{r:Int}{a b:List Ben} (h:a.map nk=b.map nk):bookT al ws r a=bookT al ws r b:=by
 have e:∀ l:List Ben,l.map (entR al ws r)=(l.map nk).map fun q=>wdL al ws r q.1++entS q.2:=fun l=>by rw [List.map_map];rfl
 unfold bookT
 rw [e,e,h]
theorem nk_same {ms' es ms:List Ben} (h:es.map nk=ms.map nk) (mp:ms'.Perm es) (h1:(ms'.map (·.num)).Pairwise (· < ·)) (h2:(ms.map (·.num)).Pairwise (· < ·)):ms'.map nk=ms.map nk:=by
 have e:∀ l:List Ben,(l.map nk).map (·.1)=l.map (·.num):=fun l=>by rw [List.map_map];rfl
 exact lt_uniq ((mp.map nk).trans (by rw [h])) (by rw [e];exact h1) (by rw [e];exact h2)
theorem bookT_len {al:List Nat}{ws:List Int}{r:Int}{ms:List Ben} (ok:CodeOk al ws r) (h:∀ m∈ms,EnOk m.key/\0<=m.num/\m.num < ManyI al ws) (l64:ms.length < 64):(bookT al ws r ms).length<=100000:=by
 unfold bookT
 have h1:=Mk.joinL_len (c:=10) (codeR al ws r::ms.map (entR al ws r))
 have h2:∀ (ls:List (List Nat)),(∀ l∈ls,l.length<=138)->(ls.map fun w=>w.length + 1).sum<=139 * ls.length:=fun ls=>by
  induction ls with
  | nil=>simp
  | cons l r ih =>
   intro h
   have h1:=ih fun x hx=>h x (List.mem_cons_of_mem _ hx)
   have h2:=h l List.mem_cons_self
   simp only [List.map_cons,List.sum_cons,List.length_cons]
   rw [Nat.mul_add]
   omega
 have h3:=h2 (codeR al ws r::ms.map (entR al ws r)) fun l hl=>by
  rcases List.mem_cons.mp hl with rfl | hl
  ·have:=codeR_len ok;omega
  ·obtain ⟨m,hm,rfl⟩:=List.mem_map.mp hl
   exact entR_len ok (h m hm)
 rw [List.length_cons,List.length_map] at h3
 omega
structure MsOk (al:List Nat) (ws:List Int) (ms:List Ben):Prop where
 few:ms.length < 64
 en:∀ m∈ms,EnOk m.key/\0<=m.num/\m.num < ManyI al ws
 up:(ms.map (·.num)).Pairwise (· < ·)
 nk:(ms.map (·.key)).Nodup
def sp_is_whole:Sp:=fun vs H Q _=>∃ x t,vs=[x]/\tagV H x=some t/\Q (.bl (decide (t=Tg.int))) H
theorem sc_is_whole:FnScope ["thing"] ["thing"] (defScope s_is_whole):=⟨rfl,rfl,rfl,by decide +kernel,rfl,by decide +kernel,by decide +kernel⟩
theorem ok_is_whole {f:Addr}{fd:FuncData} (F:Fun K "is_whole" "is_whole" s_is_whole f fd) (T:Bl mg) (AF:AdF K mg Ad) :FnOk P w K mg base (CX1 P w) 1 f fd ["thing"] sp_is_whole:=by
 refine F.okX (k:=0) sc_is_whole (fun vs H Q E h=>?_) (fun cdv A outer s H vs Q E hr h=>?_)
 ·obtain ⟨x,t,rfl,_⟩:=h
  rfl
 ·obtain ⟨x,t,rfl,ht,k⟩:=h
  have hu:=hr.units0
  have hu1:=hu_of hr
  refine ⟨_,pss_one (ps_ret (pe_and (pe_callBG (call_isiC .int) T.isinstance bt_isinstance (pa_c (pvL 0) (pa_c (pe_tyG T.int bt_int) (pa_nil)))) (pe_one (pe_not (pe_callBG (call_isiC .bl) T.isinstance bt_isinstance (pa_c (pvL 0) (pa_c (pe_tyG T.bool bt_bool) (pa_nil)))))))),?_⟩
  ac_nf
  refine ⟨trivial,t,ht,?_⟩
  cases t <;> (simp only [Tg.sub,if_true,if_false,Bool.false_eq_true,reduceCtorEq];first | exact k | exact ⟨trivial,_,ht,k⟩)
def sp_common_divisor:Sp:=fun vs H Q _=>∃ a b:Int,vs=[.int a,.int b]/\Q (.int ((Int.gcd a b:Nat):Int)) H
theorem sc_common_divisor:FnScope ["one","other","left","right","over"] ["one","other"] (defScope s_common_divisor):=⟨rfl,rfl,rfl,by decide +kernel,rfl,by decide +kernel,by decide +kernel⟩
theorem ok_common_divisor {f:Addr}{fd:FuncData} (F:Fun K "common_divisor" "common_divisor" s_common_divisor f fd) (T:Bl mg) (AF:AdF K mg Ad) :FnOk P w K mg base (CX1 P w) 1 f fd ["one","other"] sp_common_divisor:=by
 refine F.okX (k:=0) sc_common_divisor (fun vs H Q E h=>?_) (fun cdv A outer s H vs Q E hr h=>?_)
 ·obtain ⟨a,b,rfl,_⟩:=h
  rfl
 ·obtain ⟨a,b,rfl,k⟩:=h
  have hu:=hr.units0
  have hu1:=hu_of hr
  refine ⟨_,pss_cons (ps_setL (i:=2) sc_common_divisor.nd (pe_callBG call_absX T.abs bt_abs (pa_c (pvL 0) (pa_nil)))) (pss_cons (ps_setL (i:=3) sc_common_divisor.nd (pe_callBG call_absX T.abs bt_abs (pa_c (pvL 1) (pa_nil)))) (pss_cons (ps_while PassesOwn.leaving (pt_cmpR (op_neK (K:=K) rfl hu) (pvL 3) (pe_int) (nomark _)) (pss_cons (ps_setL (i:=4) sc_common_divisor.nd (pe_op op_modX (pvL 2) (pvL 3))) (pss_cons (ps_setL (i:=2) sc_common_divisor.nd (pvL 3)) (pss_one (ps_setL (i:=3) sc_common_divisor.nd (pvL 4)))))) (pss_one (ps_ret (pvL 2))))),?_⟩
  ac_nf
  refine while_x (fun σ H'=>H'=H/\∃ (l r:Nat) (o:Option V),σ=[some (.int a),some (.int b),some (.int l),some (.int r),o]/\Nat.gcd l r=Int.gcd a b)
   (fun σ _=>match σ with | [_,_,_,some (.int r),_]=>r.toNat | _=>0) ⟨rfl,a.natAbs,b.natAbs,none,rfl,rfl⟩ ?_
  rintro σ H' ⟨rfl,l,r,o,rfl,hg⟩
  ac_nf
  by_cases hr0:r=0
  ·subst hr0
   rw [Nat.gcd_zero_right] at hg
   subst hg
   exact k
  ·have e:(!decide ((r:Int)=0))=true:=by simp [hr0]
   rw [if_pos e]
   refine ⟨_,fun _ _ h=>h,by omega,⟨rfl,r,l % r,some (.int ((l % r:Nat):Int)),?_,?_⟩,?_⟩
   ·rw [Int.natCast_emod]
   ·rw [← hg,Nat.gcd_comm l r,Nat.gcd_rec r l,Nat.gcd_comm]
   ·show ((l:Int) % (r:Int)).toNat < ((r:Int)).toNat
    have h1:(l:Int) % (r:Int) < r:=Int.emod_lt_of_pos _ (by omega)
    have h2:0<=(l:Int) % (r:Int):=Int.emod_nonneg _ (by omega)
    omega
def isAlphaL (z:List Nat):Bool:=decide (3<=z.length) && decide (z.length<=26) && decide z.Nodup && z.all fun c=>decide (97<=c/\c < 123)
def isAlphaV:V->Bool
 | .str z=>isAlphaL z.cps.toList
 | _=>false
def sp_is_alphabet:Sp:=fun vs H Q _=>∃ (x:V) (t:Tg),vs=[x]/\tagV H x=some t/\(∀ z,x=.str z->z.length<=4000)/\∀ H',Same H H'->Q (.bl (isAlphaV x)) H'
theorem sc_is_alphabet:FnScope ["thing"] ["thing"] (defScope s_is_alphabet):=⟨rfl,rfl,rfl,by decide +kernel,rfl,by decide +kernel,by decide +kernel⟩
theorem ok_is_alphabet {f:Addr}{fd:FuncData} (F:Fun K "is_alphabet" "is_alphabet" s_is_alphabet f fd) (T:Bl mg) (AF:AdF K mg Ad) :FnOk P w K mg base (CX1 P w) 1 f fd ["thing"] sp_is_alphabet:=by
 refine F.okX (k:=0) sc_is_alphabet (fun vs H Q E h=>?_) (fun cdv A outer s H vs Q E hr h=>?_)
 ·obtain ⟨x,t,rfl,_⟩:=h
  rfl
 ·obtain ⟨x,t,rfl,ht,hz,k⟩:=h
  have hu:=hr.units0
  have hu1:=hu_of hr
  refine ⟨_,pss_cons (ps_if ((pw_or (pt_not (pt_val (pe_callBG (call_isiC .str) T.isinstance bt_isinstance (pa_c (pvL 0) (pa_c (pe_tyG T.str bt_str) (pa_nil)))))) (pw_or1 (pt_not (pt_chain op_leX op_leX (pe_int) (pe_callBG (call_lenK (K:=K) rfl) T.len bt_len (pa_c (pvL 0) (pa_nil))) (pe_int))))).pt) (pss_one (ps_ret (pe_bl))) (pss_nil)) (pss_one (ps_ret (pe_and (pe_cmpR (op_eqK (K:=K) rfl hu) (pe_callBG (call_lenTK (P:=P) (w:=w) rfl rfl) T.len bt_len (pa_c (pe_callTyG (call_setK (P:=P) (w:=w) rfl rfl rfl) T.set bt_set (pa_c (pvL 0) (pa_nil))) (pa_nil))) (pe_callBG (call_lenK (K:=K) rfl) T.len bt_len (pa_c (pvL 0) (pa_nil))) (nomark _)) (pe_one (pe_callBG (call_allK (K:=K) rfl rfl) T.all bt_all (pa_c (pe_lc ["sign"] rfl ⟨rfl,by decide +kernel,rfl,by decide +kernel⟩ (.nil) (by decide +kernel) (pi_seqK (K:=K) rfl (pvL 0)) (fun _ _ _ _=>pg_nameL (i:=0) (show (["sign"]:List Str).Nodup from by decide +kernel)) (fun _ _ _ _=>pif_nil) (fun _ _ _ _=>pe_cmpR (op_inK (K:=K) rfl hu1) (pvL 0) (pe_globE AF.v_SMALL_LETTERS) (by kernel_rfl))) (pa_nil))))))),?_⟩
  by_cases hs:∃ z,x=.str z
  ·obtain ⟨z,rfl⟩:=hs
   cases ht
   have hl:=hz z rfl
   have hc:=len_cps z
   have ek:isAlphaV (.str z)=isAlphaL z.cps.toList:=rfl
   ac_nf
   refine ⟨trivial,Tg.str,rfl,?_⟩
   ac_nf
   refine ⟨Nat.le_of_lt (small_line (by omega)),?_⟩
   by_cases h3:3<=z.length/\z.length<=26
   ·have d1:decide ((3:Int)<=(z.length:Int))=true:=decide_eq_true (by omega)
    have d2:decide ((z.length:Int)<=26)=true:=decide_eq_true (by omega)
    rw [d1]
    bv_omega
    rw [d2]
    bv_omega
    refine ⟨by omega,fun p H1 hp s1 h1=>?_⟩
    refine ⟨_,h1,Nat.le_of_lt (small_line (by omega)),?_⟩
    by_cases hn:z.cps.toList.Nodup
    ·have e1:=(met_nodup z).mpr hn
     rw [e1,decide_eq_true rfl]
     bv_omega
     refine lc_M (fun c:Nat=>V.str ⟨#[c]⟩) inj_sg (seq_sg z) (small_line (by omega)) (fun c=>.bl (decide (97<=c/\c < 123))) ?_ ?_
     ·intro c hc H2 s2 R hR
      ac_nf
      rw [in_one,abc_codes]
      have e2:decide (c∈List.range' 97 26)=decide (97<=c/\c < 123):=decide_eq_decide.mpr (by rw [List.mem_range'_1])
      rw [e2]
      exact hR H2 (Same.refl _)
     ·intro D H2 hD s2 h2
      refine ⟨D,z.cps.toList.map fun c=>decide (97<=c/\c < 123),rfl,.of (by rw [h2,List.map_map];rfl),?_⟩
      have e:(z.cps.toList.map fun c=>decide (97<=c/\c < 123)).all id=isAlphaV (.str z):=by
       rw [ek]
       unfold isAlphaL
       rw [decide_eq_true (show 3<=z.cps.toList.length by omega),decide_eq_true (show z.cps.toList.length<=26 by omega),decide_eq_true hn,List.all_map];rfl
      rw [e]
      exact k H2 (s1.trans s2)
    ·have e1:decide (((metK (valT z) z.length).length:Int)=(z.length:Int))=false:=decide_eq_false fun e=>hn ((met_nodup z).mp (by omega))
     rw [e1]
     bv_omega
     have e:isAlphaV (.str z)=false:=by rw [ek];unfold isAlphaL;rw [decide_eq_false hn];simp
     rw [e] at k
     exact k H1 s1
   ·have e:isAlphaV (.str z)=false:=by
     rw [ek]
     unfold isAlphaL
     by_cases h4:3<=z.length
     ·rw [decide_eq_false (show ¬ z.cps.toList.length<=26 by omega)];simp
     ·rw [decide_eq_false (show ¬ 3<=z.cps.toList.length by omega)];simp
    rw [e] at k
    by_cases h4:3<=z.length
    ·have d1:decide ((3:Int)<=(z.length:Int))=true:=decide_eq_true (by omega)
     have d2:decide ((z.length:Int)<=26)=false:=decide_eq_false (by omega)
     rw [d1]
     bv_omega
     rw [d2]
     bv_omega
     exact k H (Same.refl _)
    ·have d1:decide ((3:Int)<=(z.length:Int))=false:=decide_eq_false (by omega)
     rw [d1]
     bv_omega
     exact k H (Same.refl _)
  ·have hv:isAlphaV x=false:=by
    cases x with
    | str z=>exact absurd ⟨z,rfl⟩ hs
    | _=>rfl
   have hne:=sub_str ht fun z e=>hs ⟨z,e⟩
   rw [hv] at k
   ac_nf
   refine ⟨trivial,t,ht,?_⟩
   cases t <;> first
    | exact absurd rfl hne
    | exact k H (Same.refl _)
def isWordV (al:Str) (n:Int):V->Bool
 | .str z=>Mk.isWordL al.cps.toList n z.cps.toList
 | _=>false
def sp_is_word:Sp:=fun vs H Q _=>∃ (al:Str) (n:Int) (x:V) (t:Tg),vs=[.str al,.int n,x]/\tagV H x=some t/\(∀ z,x=.str z->z.length<=100000)/\∀ H',Same H H'->Q (.bl (isWordV al n x)) H'
theorem sc_is_word:FnScope ["alphabet","length","thing"] ["alphabet","length","thing"] (defScope s_is_word):=⟨rfl,rfl,rfl,by decide +kernel,rfl,by decide +kernel,by decide +kernel⟩
theorem ok_is_word {f:Addr}{fd:FuncData} (F:Fun K "is_word" "is_word" s_is_word f fd) (T:Bl mg) (AF:AdF K mg Ad) :FnOk P w K mg base (CX1 P w) 1 f fd ["alphabet","length","thing"] sp_is_word:=by
 refine F.okX (k:=0) sc_is_word (fun vs H Q E h=>?_) (fun cdv A outer s H vs Q E hr h=>?_)
 ·obtain ⟨al,n,x,t,rfl,_⟩:=h
  rfl
 ·obtain ⟨al,n,x,t,rfl,ht,hz,k⟩:=h
  have hu:=hr.units0
  have hu1:=hu_of hr
  refine ⟨_,pss_cons (ps_if ((pw_or (pt_not (pt_val (pe_callBG (call_isiC .str) T.isinstance bt_isinstance (pa_c (pvL 2) (pa_c (pe_tyG T.str bt_str) (pa_nil)))))) (pw_or1 (pt_cmpR (op_neK (K:=K) rfl hu) (pe_callBG (call_lenK (K:=K) rfl) T.len bt_len (pa_c (pvL 2) (pa_nil))) (pvL 1) (nomark _)))).pt) (pss_one (ps_ret (pe_bl))) (pss_nil)) (pss_one (ps_ret (pe_callBG (call_allK (K:=K) rfl rfl) T.all bt_all (pa_c (pe_lc ["sign"] rfl ⟨rfl,by decide +kernel,rfl,by decide +kernel⟩ (.cons (j:=0) rfl (.inl (by kernel_rfl)) (.nil)) (by decide +kernel) (pi_seqK (K:=K) rfl (pvL 2)) (fun _ _ _ _=>pg_nameL (i:=0) (show (["sign","alphabet"]:List Str).Nodup from by decide +kernel)) (fun _ _ _ _=>pif_nil) (fun _ _ _ _=>pe_cmpR (op_inK (K:=K) rfl hu1) (pvL 0) (pvC 1) (by kernel_rfl))) (pa_nil))))),?_⟩
  by_cases hs:∃ z,x=.str z
  ·obtain ⟨z,rfl⟩:=hs
   cases ht
   have hl:=hz z rfl
   ac_nf
   refine ⟨trivial,Tg.str,rfl,?_⟩
   ac_nf
   refine ⟨Nat.le_of_lt (small_line hl),?_⟩
   have hl2:z.cps.toList.length<=100000:=by rw [← len_cps];exact hl
   by_cases hn:(z.length:Int)=n
   ·rw [if_neg (by simp [hn])]
    refine lc_M (fun c:Nat=>V.str ⟨#[c]⟩) inj_sg (seq_sg z) (small_line hl2) (fun c=>.bl (decide (c∈al.cps.toList))) ?_ ?_
    ·intro c hc H2 s2 R hR
     ac_nf
     rw [in_one]
     exact hR H2 (Same.refl _)
    ·intro D H2 hD s2 h2
     refine ⟨D,z.cps.toList.map fun c=>decide (c∈al.cps.toList),rfl,.of (by rw [h2,List.map_map];rfl),?_⟩
     have e:(z.cps.toList.map fun c=>decide (c∈al.cps.toList)).all id=isWordV al n (.str z):=by
      show _=Mk.isWordL al.cps.toList n z.cps.toList
      unfold Mk.isWordL
      rw [decide_eq_true (by rw [← len_cps];exact hn),Bool.true_and,List.all_map];rfl
     rw [e]
     exact k H2 s2
   ·rw [if_pos (by simp [hn])]
    have e:isWordV al n (.str z)=false:=by
     show Mk.isWordL al.cps.toList n z.cps.toList=false
     unfold Mk.isWordL
     rw [decide_eq_false (by rw [← len_cps];exact hn),Bool.false_and]
    rw [e] at k
    exact k H (Same.refl _)
  ·have hv:isWordV al n x=false:=by
    cases x with
    | str z=>exact absurd ⟨z,rfl⟩ hs
    | _=>rfl
   have hne:=sub_str ht fun z e=>hs ⟨z,e⟩
   rw [hv] at k
   ac_nf
   refine ⟨trivial,t,ht,?_⟩
   cases t <;> first
    | exact absurd rfl hne
    | exact k H (Same.refl _)
def sp_places_of:Sp:=fun vs H Q _=>∃ al w:Str,vs=[.str al,.str w]/\w.length<=100000/\(∀ c∈w.cps.toList,c∈al.cps.toList)/\∀ p H',H p=none->Same H H'->H' p=some (.lst ((Mk.plc al.cps.toList w.cps.toList).map V.int))->Q (.ref p) H'
theorem sc_places_of:FnScope ["alphabet","word"] ["alphabet","word"] (defScope s_places_of):=⟨rfl,rfl,rfl,by decide +kernel,rfl,by decide +kernel,by decide +kernel⟩
theorem ok_places_of {f:Addr}{fd:FuncData} (F:Fun K "places_of" "places_of" s_places_of f fd) (T:Bl mg) (AF:AdF K mg Ad) :FnOk P w K mg base (CX1 P w) 1 f fd ["alphabet","word"] sp_places_of:=by
 refine F.okX (k:=0) sc_places_of (fun vs H Q E h=>?_) (fun cdv A outer s H vs Q E hr h=>?_)
 ·obtain ⟨al,w,rfl,_⟩:=h
  rfl
 ·obtain ⟨al,z,rfl,hl,hm,k⟩:=h
  have hu:=hr.units0
  have hu1:=hu_of hr
  refine ⟨_,pss_one (ps_ret (pe_lc ["letter"] rfl ⟨rfl,by decide +kernel,rfl,by decide +kernel⟩ (.cons (j:=0) rfl (.inl (by kernel_rfl)) (.nil)) (by decide +kernel) (pi_seqK (K:=K) rfl (pvL 1)) (fun _ _ _ _=>pg_nameL (i:=0) (show (["letter","alphabet"]:List Str).Nodup from by decide +kernel)) (fun _ _ _ _=>pif_nil) (fun _ _ _ _=>pe_bmG (K:=K) rfl PySem.F.plainAttrs_str PySem.F.slot_str_index PySem.F.type_str_index mt_indexS (pvC 1) (pa_c (pvL 0) (pa_nil))))),?_⟩
  ac_nf
  have hl2:z.cps.toList.length<=100000:=by rw [← len_cps];exact hl
  refine lc_M (fun c:Nat=>V.str ⟨#[c]⟩) inj_sg (seq_sg z) (small_line hl2) (fun c=>.int ((al.cps.toList.idxOf c:Nat):Int)) ?_ ?_
  ·intro c hc H2 s2 R hR
   ac_nf
   rw [find_one (hm c hc)]
   exact ⟨rfl,Int.natCast_nonneg _,hR H2 (Same.refl _)⟩
  ·intro D H2 hD s2 h2
   refine k D H2 hD s2 ?_
   rw [h2]
   unfold Mk.plc
   rw [List.map_map]
   rfl
def sp_spelled:Sp:=fun vs H Q _=>∃ (al:Str) (q:Addr) (ps:List Int),vs=[.str al,.ref q]/\al.length<=1000/\H q=some (.lst (ps.map V.int))/\ps.length<=1000/\(∀ p∈ps,0<=p/\p < al.cps.toList.length)/\∀ H',Same H H'->Q (.str (tx (Mk.spell al.cps.toList ps))) H'
theorem sc_spelled:FnScope ["alphabet","places"] ["alphabet","places"] (defScope s_spelled):=⟨rfl,rfl,rfl,by decide +kernel,rfl,by decide +kernel,by decide +kernel⟩
theorem ok_spelled {f:Addr}{fd:FuncData} (F:Fun K "spelled" "spelled" s_spelled f fd) (T:Bl mg) (AF:AdF K mg Ad) :FnOk P w K mg base (CX1 P w) 1 f fd ["alphabet","places"] sp_spelled:=by
 refine F.okX (k:=0) sc_spelled (fun vs H Q E h=>?_) (fun cdv A outer s H vs Q E hr h=>?_)
 ·obtain ⟨al,q,ps,rfl,_⟩:=h
  rfl
 ·obtain ⟨al,q,ps,rfl,hal,hq,hl,hm,k⟩:=h
  have hu:=hr.units0
  have hu1:=hu_of hr
  refine ⟨_,pss_one (ps_ret (pe_bmG (K:=K) rfl PySem.F.plainAttrs_str PySem.F.slot_str_join PySem.F.type_str_join (mt_joinK (K:=K) rfl) (pe_str) (pa_c (pe_lc ["place"] rfl ⟨rfl,by decide +kernel,rfl,by decide +kernel⟩ (.cons (j:=0) rfl (.inl (by kernel_rfl)) (.nil)) (by decide +kernel) (pi_seqK (K:=K) rfl (pvL 1)) (fun _ _ _ _=>pg_nameL (i:=0) (show (["place","alphabet"]:List Str).Nodup from by decide +kernel)) (fun _ _ _ _=>pif_nil) (fun _ _ _ _=>pe_ix (ix_K (K:=K) rfl) (pvC 1) (pvL 0) (fun _ _=>rfl))) (pa_nil)))),?_⟩
  ac_nf
  refine ⟨by rfl,.inl ⟨⟨_,.of hq⟩,lc_M V.int inj_int (seq_list (.of hq)) (small_line (by omega)) (fun x=>.str (tx [al.cps.toList.getD x.toNat 0])) ?_ ?_⟩⟩
  ·intro x hx H5 t5 R hR
   ac_nf
   refine ⟨Nat.le_of_lt (small_line (by omega)),_,atI_of (hm x hx).1 (Mk.getD_at (hm x hx)),?_⟩
   exact hR H5 (Same.refl _)
  ·intro D H5 hD t5 h5
   ac_nf
   refine ⟨(Mk.spell al.cps.toList ps).map fun c=>tx [c],js_seq (by rw [h5];unfold Mk.spell;rw [List.map_map];rfl),js_len (by rw [Mk.spell_len];omega),?_⟩
   rw [js_join]
   exact k H5 t5
def sp_are_good:Sp:=fun vs H Q _=>∃ (m:Int) (p:Addr) (ws:List Int) (r:Int) (q:Addr) (ps:List Int),vs=[.int m,.ref p,.int r,.ref q]/\0 < m/\H p=some (.lst (ws.map V.int))/\H q=some (.lst (ps.map V.int))/\ws.length<=100000 ∧
 Mk.sml ws/\Mk.sml ps/\∀ H',Same H H'->Q (.bl (Mk.good m ws r ps)) H'
theorem sc_are_good:FnScope ["m","weights","rest","places","total"] ["m","weights","rest","places"] (defScope s_are_good):=⟨rfl,rfl,rfl,by decide +kernel,rfl,by decide +kernel,by decide +kernel⟩
theorem ok_are_good {f:Addr}{fd:FuncData} (F:Fun K "are_good" "are_good" s_are_good f fd) (T:Bl mg) (AF:AdF K mg Ad) :FnOk P w K mg base (CX1 P w) 1 f fd ["m","weights","rest","places"] sp_are_good:=by
 refine F.okX (k:=0) sc_are_good (fun vs H Q E h=>?_) (fun cdv A outer s H vs Q E hr h=>?_)
 ·obtain ⟨m,p,ws,r,q,ps,rfl,_⟩:=h
  rfl
 ·obtain ⟨m,p,ws,r,q,ps,rfl,hm,hp,hq,hl,hb,hb2,k⟩:=h
  have hu:=hr.units0
  have hu1:=hu_of hr
  refine ⟨_,pss_cons (ps_setL (i:=4) sc_are_good.nd (pe_callBG (call_sumK (K:=K) rfl rfl) T.sum bt_sum (pa_c (pe_lc ["weight","place"] rfl ⟨rfl,by decide +kernel,rfl,by decide +kernel⟩ (.nil) (by decide +kernel) (pi_zipG (K:=K) rfl T.zip (pa_c (pvL 1) (pa_c (pvL 3) (pa_nil)))) (fun _ _ _ _=>pg_tupK (K:=K) (n:=2) rfl rfl (pgs_cons (pg_nameL (i:=0) (show (["weight","place"]:List Str).Nodup from by decide +kernel)) (pgs_cons (pg_nameL (i:=1) (show (["weight","place"]:List Str).Nodup from by decide +kernel)) (pgs_nil)))) (fun _ _ _ _=>pif_nil) (fun _ _ _ _=>pe_op op_mulX (pvL 0) (pvL 1))) (pa_nil)))) (pss_one (ps_ret (pe_cmpR (op_eqK (K:=K) rfl hu) (pe_op op_modX (pe_op op_subX (pvL 4) (pvL 2)) (pvL 0)) (pe_int) (nomark _)))),?_⟩
  ac_nf
  refine ⟨⟨_,.of hp⟩,⟨_,.of hq⟩,lc_Z V.int V.int inj_int inj_int (.of hp) (.of hq) (small_line hl) (fun a b=>.int (a * b)) ?_ ?_⟩
  ·intro a b hab H2 s2 R hR
   ac_nf
   exact ⟨cbig_small (hb a (List.of_mem_zip hab).1) (hb2 b (List.of_mem_zip hab).2),hR H2 (Same.refl _)⟩
  ·intro D H2 hD s2 h2
   ac_nf
   refine ⟨D,(ws.zip ps).map fun x=>x.1 * x.2,rfl,.of (by rw [h2,List.map_map];rfl),?_⟩
   rw [Mk.dot_zip]
   ac_nf
   exact ⟨hm,k H2 s2⟩
def sp_Code_alphabet (Ad:Ads):Sp:=fun vs H Q _=>∃ (a:Addr) (al:List Nat) (ws:List Int) (r:Int),vs=[.ref a]/\CodeAt Ad H a al ws r/\Q (.str (tx al)) H
theorem sc_Code_alphabet:FnScope ["self"] ["self"] (defScope s_Code_alphabet):=⟨rfl,rfl,rfl,by decide +kernel,rfl,by decide +kernel,by decide +kernel⟩
theorem ok_Code_alphabet {f:Addr}{fd:FuncData} (F:Fun K "alphabet" "Code.alphabet" s_Code_alphabet f fd) (T:Bl mg) (AF:AdF K mg Ad) :FnOk P w K mg base (CX1 P w) 1 f fd ["self"] (sp_Code_alphabet Ad):=by
 refine F.okX (k:=0) sc_Code_alphabet (fun vs H Q E h=>?_) (fun cdv A outer s H vs Q E hr h=>?_)
 ·obtain ⟨a,al,ws,r,rfl,_⟩:=h
  rfl
 ·obtain ⟨a,al,ws,r,rfl,⟨dx,q,h1,h2⟩,k⟩:=h
  have hu:=hr.units0
  have hu1:=hu_of hr
  refine ⟨_,pss_one (ps_ret (pe_fldX (K:=K) rfl (pvL 0))),?_⟩
  ac_nf
  exact ⟨_,dx,_,_,h1,AF.c_Code,AF.n_Code_letters,codeF_letters al q r,k⟩
def sp_Code_weights (Ad:Ads):Sp:=fun vs H Q _=>∃ (a:Addr) (al:List Nat) (ws:List Int) (r:Int),vs=[.ref a]/\CodeAt Ad H a al ws r/\nw H (.lst (ws.map V.int)) Q
theorem sc_Code_weights:FnScope ["self"] ["self"] (defScope s_Code_weights):=⟨rfl,rfl,rfl,by decide +kernel,rfl,by decide +kernel,by decide +kernel⟩
theorem ok_Code_weights {f:Addr}{fd:FuncData} (F:Fun K "weights" "Code.weights" s_Code_weights f fd) (T:Bl mg) (AF:AdF K mg Ad) :FnOk P w K mg base (CX1 P w) 1 f fd ["self"] (sp_Code_weights Ad):=by
 refine F.okX (k:=0) sc_Code_weights (fun vs H Q E h=>?_) (fun cdv A outer s H vs Q E hr h=>?_)
 ·obtain ⟨a,al,ws,r,rfl,_⟩:=h
  rfl
 ·obtain ⟨a,al,ws,r,rfl,⟨dx,q,h1,h2⟩,k⟩:=h
  have hu:=hr.units0
  have hu1:=hu_of hr
  refine ⟨_,pss_one (ps_ret (pe_callTyG (call_listK (K:=K) rfl rfl) T.list bt_list (pa_c (pe_fldX (K:=K) rfl (pvL 0)) (pa_nil)))),?_⟩
  ac_nf
  exact ⟨_,dx,_,_,h1,AF.c_Code,AF.n_Code_factors,codeF_factors al q r,_,.inl (.l h2),k⟩
def sp_Code_rest (Ad:Ads):Sp:=fun vs H Q _=>∃ (a:Addr) (al:List Nat) (ws:List Int) (r:Int),vs=[.ref a]/\CodeAt Ad H a al ws r/\Q (.int r) H
theorem sc_Code_rest:FnScope ["self"] ["self"] (defScope s_Code_rest):=⟨rfl,rfl,rfl,by decide +kernel,rfl,by decide +kernel,by decide +kernel⟩
theorem ok_Code_rest {f:Addr}{fd:FuncData} (F:Fun K "rest" "Code.rest" s_Code_rest f fd) (T:Bl mg) (AF:AdF K mg Ad) :FnOk P w K mg base (CX1 P w) 1 f fd ["self"] (sp_Code_rest Ad):=by
 refine F.okX (k:=0) sc_Code_rest (fun vs H Q E h=>?_) (fun cdv A outer s H vs Q E hr h=>?_)
 ·obtain ⟨a,al,ws,r,rfl,_⟩:=h
  rfl
 ·obtain ⟨a,al,ws,r,rfl,⟨dx,q,h1,h2⟩,k⟩:=h
  have hu:=hr.units0
  have hu1:=hu_of hr
  refine ⟨_,pss_one (ps_ret (pe_fldX (K:=K) rfl (pvL 0))),?_⟩
  ac_nf
  exact ⟨_,dx,_,_,h1,AF.c_Code,AF.n_Code_remainder,codeF_remainder al q r,k⟩
def sp_Code_many (Ad:Ads):Sp:=fun vs H Q _=>∃ (a:Addr) (al:List Nat) (ws:List Int) (r:Int),vs=[.ref a]/\CodeAt Ad H a al ws r/\al.length<=26/\1<=ws.length/\ws.length<=8/\∀ H',Same H H'->Q (.int ((al.length:Int) ^ (ws.length - 1))) H'
theorem sc_Code_many:FnScope ["self","product","weight"] ["self"] (defScope s_Code_many):=⟨rfl,rfl,rfl,by decide +kernel,rfl,by decide +kernel,by decide +kernel⟩
theorem ok_Code_many {f:Addr}{fd:FuncData} (F:Fun K "many" "Code.many" s_Code_many f fd) (T:Bl mg) (AF:AdF K mg Ad) :FnOk P w K mg base (CX1 P w) 1 f fd ["self"] (sp_Code_many Ad):=by
 refine F.okX (k:=0) sc_Code_many (fun vs H Q E h=>?_) (fun cdv A outer s H vs Q E hr h=>?_)
 ·obtain ⟨a,al,ws,r,rfl,_⟩:=h
  rfl
 ·obtain ⟨a,al,ws,r,rfl,⟨dx,q,h1,h2⟩,h26,hw1,hw8,k⟩:=h
  have hu:=hr.units0
  have hu1:=hu_of hr
  refine ⟨_,pss_cons (ps_setL (i:=1) sc_Code_many.nd (pe_int)) (pss_cons (ps_for PassesOwn.leaving rfl (pi_seqK (K:=K) rfl (pe_slice (sl_YK (K:=K) rfl) (pe_fldX (K:=K) rfl (pvL 0)) (po_some (pe_int)) (po_none))) (pg_nameL (i:=2) sc_Code_many.nd) (pss_one (ps_setL (i:=1) sc_Code_many.nd (pe_op op_mulX (pvL 1) (pe_callBG (call_lenK (K:=K) rfl) T.len bt_len (pa_c (pe_fldX (K:=K) rfl (pvL 0)) (pa_nil))))))) (pss_one (ps_ret (pvL 1)))),?_⟩
  and_intros
  rw [ap_seq]
  and_intros
  rw [ap_seq]
  and_intros
  refine ⟨_,dx,_,_,h1,AF.c_Code,AF.n_Code_factors,codeF_factors al q r,?_⟩
  and_intros
  refine ⟨_,.of h2,fun p H1 hp s1 h3=>.inl ⟨⟨_,.of h3⟩,?_⟩⟩
  rw [show (1:Int)=((1:Nat):Int) from rfl,cutV_drop,← List.map_drop] at h3
  refine for_lst (xs:=(ws.drop 1).map V.int) (fun i σ H'=>H'=H1/\∃ o,σ=[some (.ref a),some (.int ((al.length:Int) ^ i)),o]) ?_ ?_ ?_ ?_
  ·exact ⟨rfl,none,by simp⟩
  ·rintro i σ H' _ ⟨rfl,_⟩
   exact .of h3
  ·rintro i x σ H' hx ⟨rfl,o,rfl⟩
   have hi:i < ws.length - 1:=by
    have:=(List.getElem?_eq_some_iff.mp hx).1
    rw [List.length_map,List.length_drop] at this
    exact this
   ac_nf
   refine ⟨_,dx,_,_,s1 _ _ h1,AF.c_Code,AF.n_Code_letters,codeF_letters al q r,?_⟩
   ac_nf
   rw [tx_len]
   refine ⟨Nat.le_of_lt (small_line (by omega)),⟨?_,Nat.lt_of_lt_of_le (show ((al.length:Int)).natAbs < 1000 by omega) (by decide)⟩,trivial,some x,?_⟩
   ·have e:(((al.length:Int)) ^ i).natAbs=al.length ^ i:=by rw [Int.natAbs_pow];rfl
    rw [e]
    refine Nat.lt_of_le_of_lt (Nat.pow_le_pow_left h26 i) (Nat.lt_of_le_of_lt (Nat.pow_le_pow_right (by decide) (show i<=8 by omega)) (by decide))
   ·rw [← Int.pow_succ]
  ·rintro σ H' ⟨rfl,o,rfl⟩
   rw [List.length_map,List.length_drop]
   ac_nf
   exact k _ s1
def sp_are_letters:Sp:=fun vs H Q _=>∃ (x:V) (t:Tg) (n:Nat),vs=[x,.int n]/\tagV H x=some t/\(∀ z,x=.str z->z.length<=100000)/\n<=1000/\∀ H',Same H H'->Q (.bl (areLetV n x)) H'
theorem sc_are_letters:FnScope ["thing","most"] ["thing","most"] (defScope s_are_letters):=⟨rfl,rfl,rfl,by decide +kernel,rfl,by decide +kernel,by decide +kernel⟩
theorem ok_are_letters {f:Addr}{fd:FuncData} (F:Fun K "are_letters" "are_letters" s_are_letters f fd) (T:Bl mg) (AF:AdF K mg Ad) :FnOk P w K mg base (CX1 P w) 1 f fd ["thing","most"] sp_are_letters:=by
 refine F.okX (k:=0) sc_are_letters (fun vs H Q E h=>?_) (fun cdv A outer s H vs Q E hr h=>?_)
 ·obtain ⟨x,t,n,rfl,_⟩:=h
  rfl
 ·obtain ⟨x,t,n,rfl,ht,hz,hn,k⟩:=h
  have hu:=hr.units0
  have hu1:=hu_of hr
  refine ⟨_,pss_cons (ps_if ((pw_or (pt_not (pt_val (pe_callBG (call_isiC .str) T.isinstance bt_isinstance (pa_c (pvL 0) (pa_c (pe_tyG T.str bt_str) (pa_nil)))))) (pw_or1 (pt_not (pt_chain op_leX op_leX (pe_int) (pe_callBG (call_lenK (K:=K) rfl) T.len bt_len (pa_c (pvL 0) (pa_nil))) (pvL 1))))).pt) (pss_one (ps_ret (pe_bl))) (pss_nil)) (pss_one (ps_ret (pe_callBG (call_allK (K:=K) rfl rfl) T.all bt_all (pa_c (pe_lc ["sign"] rfl ⟨rfl,by decide +kernel,rfl,by decide +kernel⟩ (.nil) (by decide +kernel) (pi_seqK (K:=K) rfl (pvL 0)) (fun _ _ _ _=>pg_nameL (i:=0) (show (["sign"]:List Str).Nodup from by decide +kernel)) (fun _ _ _ _=>pif_nil) (fun _ _ _ _=>pe_cmpR (op_inK (K:=K) rfl hu1) (pvL 0) (pe_globE AF.v_SMALL_LETTERS) (by kernel_rfl))) (pa_nil))))),?_⟩
  by_cases hs:∃ z,x=.str z
  ·obtain ⟨z,rfl⟩:=hs
   cases ht
   have hl:=hz z rfl
   have hc:=len_cps z
   have ek:areLetV n (.str z)=areLet n z.cps.toList:=rfl
   ac_nf
   refine ⟨trivial,Tg.str,rfl,?_⟩
   ac_nf
   refine ⟨Nat.le_of_lt (small_line (by omega)),?_⟩
   by_cases h1:1<=z.length
   ·rw [decide_eq_true (show (1:Int)<=(z.length:Int) by omega)]
    bv_omega
    by_cases h2:z.length<=n
    ·rw [decide_eq_true (show (z.length:Int)<=(n:Int) by omega)]
     bv_omega
     refine lc_M (fun c:Nat=>V.str ⟨#[c]⟩) inj_sg (seq_sg z) (small_line (by omega)) (fun c=>.bl (decide (97<=c/\c < 123))) ?_ ?_
     ·intro c hc H2 s2 R hR
      ac_nf
      rw [in_one,abc_codes]
      have e2:decide (c∈List.range' 97 26)=decide (97<=c/\c < 123):=decide_eq_decide.mpr (by rw [List.mem_range'_1])
      rw [e2]
      exact hR H2 (Same.refl _)
     ·intro D H2 hD s2 h2'
      refine ⟨D,z.cps.toList.map fun c=>decide (97<=c/\c < 123),rfl,.of (by rw [h2',List.map_map];rfl),?_⟩
      have e:(z.cps.toList.map fun c=>decide (97<=c/\c < 123)).all id=areLetV n (.str z):=by
       rw [ek]
       unfold areLet
       rw [decide_eq_true (show 1<=z.cps.toList.length by omega),decide_eq_true (show z.cps.toList.length<=n by omega),List.all_map];rfl
      rw [e]
      exact k H2 s2
    ·have e:areLetV n (.str z)=false:=by rw [ek];unfold areLet;rw [decide_eq_false (show ¬ z.cps.toList.length<=n by omega)];simp
     rw [e] at k
     rw [decide_eq_false (show ¬ (z.length:Int)<=(n:Int) by omega)]
     bv_omega
     exact k H (Same.refl _)
   ·have e:areLetV n (.str z)=false:=by rw [ek];unfold areLet;rw [decide_eq_false (show ¬ 1<=z.cps.toList.length by omega)];simp
    rw [e] at k
    rw [decide_eq_false (show ¬ (1:Int)<=(z.length:Int) by omega)]
    bv_omega
    exact k H (Same.refl _)
  ·have hv:areLetV n x=false:=by
    cases x with
    | str z=>exact absurd ⟨z,rfl⟩ hs
    | _=>rfl
   have hne:=sub_str ht fun z e=>hs ⟨z,e⟩
   rw [hv] at k
   ac_nf
   refine ⟨trivial,t,ht,?_⟩
   cases t <;> first
    | exact absurd rfl hne
    | exact k H (Same.refl _)
def sp_number_written:Sp:=fun vs H Q _=>∃ m:Nat,vs=[.str (tx (Mk.dgN m))]/\m < 26/\∀ H',Same H H'->Q (.int m) H'
theorem sc_number_written:FnScope ["text"] ["text"] (defScope s_number_written):=⟨rfl,rfl,rfl,by decide +kernel,rfl,by decide +kernel,by decide +kernel⟩
theorem ok_number_written {f:Addr}{fd:FuncData} (F:Fun K "number_written" "number_written" s_number_written f fd) (T:Bl mg) (AF:AdF K mg Ad) :FnOk P w K mg base (CX1 P w) 1 f fd ["text"] sp_number_written:=by
 refine F.okX (k:=0) sc_number_written (fun vs H Q E h=>?_) (fun cdv A outer s H vs Q E hr h=>?_)
 ·obtain ⟨m,rfl,_⟩:=h
  rfl
 ·obtain ⟨m,rfl,hm,k⟩:=h
  have hu:=hr.units0
  have hu1:=hu_of hr
  refine ⟨_,pss_cons (ps_if ((pw_or (pt_not (pt_chain op_leX op_leX (pe_int) (pe_callBG (call_lenK (K:=K) rfl) T.len bt_len (pa_c (pvL 0) (pa_nil))) (pe_globE AF.v_MOST_FIGURES))) (pw_or1 (pt_not (pt_val (pe_callBG (call_allK (K:=K) rfl rfl) T.all bt_all (pa_c (pe_lc ["sign"] rfl ⟨rfl,by decide +kernel,rfl,by decide +kernel⟩ (.nil) (by decide +kernel) (pi_seqK (K:=K) rfl (pvL 0)) (fun _ _ _ _=>pg_nameL (i:=0) (show (["sign"]:List Str).Nodup from by decide +kernel)) (fun _ _ _ _=>pif_nil) (fun _ _ _ _=>pe_cmpR (op_inK (K:=K) rfl hu1) (pvL 0) (pe_globE AF.v_FIGURES) (by kernel_rfl))) (pa_nil))))))).pt) (pss_one (ps_ret (pe_non))) (pss_nil)) (pss_cons (ps_if ((pw_and (pt_cmpR op_gtX (pe_callBG (call_lenK (K:=K) rfl) T.len bt_len (pa_c (pvL 0) (pa_nil))) (pe_int) (nomark _)) (pw_and1 (pt_cmpR (op_eqK (K:=K) rfl hu) (pe_ix (ix_K (K:=K) rfl) (pvL 0) (pe_int) (fun _ _=>rfl)) (pe_str) (nomark _)))).pt) (pss_one (ps_ret (pe_non))) (pss_nil)) (pss_one (ps_ret (pe_callTyG call_intT T.int bt_int (pa_c (pvL 0) (pa_nil)))))),?_⟩
  obtain ⟨d1,d2,d3,d4⟩:=Mk.dgN_small m hm
  have l9:(tx (Mk.dgN m)).length<=sizeLine:=Nat.le_of_lt (small_line (by rw [tx_len];omega))
  refine seq_go fun nn hN=>?_
  and_intros
  refine ⟨l9,?_⟩
  rw [decide_eq_true (by rw [tx_len];omega),decide_eq_true (by rw [tx_len];omega)]
  bv_omega
  refine lc_M (fun c:Nat=>V.str ⟨#[c]⟩) inj_sg (seq_sg (tx (Mk.dgN m))) (small_line (by rw [tx_cps];omega)) (fun c=>.bl true) ?_ ?_
  ·intro c hc H2 s2 R hR
   rw [tx_cps] at hc
   have h48:=d3 c hc
   ac_nf
   rw [in_one,decide_eq_true (show c∈(Str.ofString "0123456789").cps.toList by
    rw [show (Str.ofString "0123456789").cps.toList=List.range' 48 10 from rfl,List.mem_range'_1];omega)]
   exact hR H2 (Same.refl _)
  ·intro D H2 hD s2 h2'
   refine ⟨D,(Mk.dgN m).map fun _=>true,rfl,.of (by rw [h2',tx_cps,List.map_map];rfl),?_⟩
   rw [show ((Mk.dgN m).map fun _=>true).all id=true from by rw [List.all_map];exact List.all_eq_true.mpr fun _ _=>rfl]
   bv_omega
   rw [hN]
   clear hN nn
   have fin:∀ H3,Same H2 H3->∃ m':Nat,tx (Mk.dgN m)=tx (Mk.dgN m')/\m' < 1000000000/\Q (.int m') H3:=fun H3 s3=>⟨m,rfl,by omega,k H3 (s2.trans s3)⟩
   refine seq_go fun nn hN=>?_
   and_intros
   refine ⟨l9,?_⟩
   by_cases h2:(Mk.dgN m).length=2
   ·rw [decide_eq_true (by rw [tx_len];omega)]
    bv_omega
    obtain ⟨c,hc⟩:∃ c,(Mk.dgN m)[0]?=some c:=⟨_,List.getElem?_eq_getElem (by omega)⟩
    refine ⟨l9,c,?_,?_⟩
    ·rw [tx_cps];exact atI_nat hc
    rw [decide_eq_false (fun e=>d4 h2 (by rw [hc];have:=congrArg (fun z:Str=>z.cps.toList) e;exact congrArg some (List.head_eq_of_cons_eq (show [c]=[48] from this))))]
    bv_omega
    show nn _ _ _
    rw [hN]
    clear hN nn
    and_intros
    exact fin H2 (Same.refl _)
   ·rw [decide_eq_false (by rw [tx_len];omega)]
    bv_omega
    show nn _ _ _
    rw [hN]
    clear hN nn
    and_intros
    exact fin H2 (Same.refl _)
def sp_Book_init (Ad:Ads):Sp:=fun vs H Q _=>∃ (b dx ca:Addr),vs=[.ref b,.ref ca]/\H b=some (.ins Ad.Book dx [])/\∀ dn de H',H dn=none->H de=none->dn≠de->dn≠b->de≠b->(∀ c u,c≠b->H c=some u->H' c=some u)->H' b=some (.ins Ad.Book dx (bookF ca dn de))->H' dn=some (.dK [])->H' de=some (.dT [])->Q .non H'
theorem sc_Book_init:FnScope ["self","code"] ["self","code"] (defScope s_Book_init):=⟨rfl,rfl,rfl,by decide +kernel,rfl,by decide +kernel,by decide +kernel⟩
theorem ok_Book_init {f:Addr}{fd:FuncData} (F:Fun K "__init__" "Book.__init__" s_Book_init f fd) (T:Bl mg) (AF:AdF K mg Ad) :FnOk P w K mg base (CX1 P w) 1 f fd ["self","code"] (sp_Book_init Ad):=by
 refine F.okX (k:=0) sc_Book_init (fun vs H Q E h=>?_) (fun cdv A outer s H vs Q E hr h=>?_)
 ·obtain ⟨b,dx,ca,rfl,_⟩:=h
  rfl
 ·obtain ⟨b,dx,ca,rfl,hb,k⟩:=h
  have hu:=hr.units0
  have hu1:=hu_of hr
  refine ⟨_,pss_cons (ps_fldX (K:=K) rfl (pvL 0) (pvL 1)) (pss_cons (ps_fldX (K:=K) rfl (pvL 0) (pe_dnewX)) (pss_one (ps_fldX (K:=K) rfl (pvL 0) (pe_dnewTX)))),?_⟩
  ac_nf
  refine ⟨_,_,_,hb,AF.c_Book,AF.n_Book_basis,by decide,fun p G1 z1 t1 g1=>?_⟩
  have np1:p≠b:=fun e=>by rw [e,upd_same] at z1;cases z1
  have hb1:=t1 b _ upd_same
  refine ⟨_,_,_,hb1,AF.c_Book,AF.n_Book_by_number,Nat.lt_of_le_of_lt (Nat.le_refl 1) (by decide),fun p2 G2 z2 t2 g2=>?_⟩
  have np2:p2≠b:=fun e=>by rw [e,upd_same] at z2;cases z2
  have hb2:=t2 b _ upd_same
  have k1:∀ c u,c≠b->H c=some u->G1 c=some u:=fun c u hc h=>t1 c u (by rw [upd_ne hc];exact h)
  have k2:∀ c u,c≠b->G1 c=some u->G2 c=some u:=fun c u hc h=>t2 c u (by rw [upd_ne hc];exact h)
  have ne:p≠p2:=fun e=>by rw [← e,upd_ne np1,g1] at z2;cases z2
  refine ⟨_,_,_,hb2,AF.c_Book,AF.n_Book_by_entry,Nat.lt_of_le_of_lt (Nat.le_refl 2) (by decide),k p p2 _ ?_ ?_ ne np1 np2 (fun c u hc h=>by rw [upd_ne hc];exact k2 c u hc (k1 c u hc h)) (by rw [upd_same];rfl) (by rw [upd_ne np1];exact k2 _ _ np1 g1) (by rw [upd_ne np2];exact g2)⟩
  ·cases e:H p with
   | none=>rfl
   | some o=>rw [upd_ne np1,e] at z1;cases z1
  ·cases e:H p2 with
   | none=>rfl
   | some o=>rw [upd_ne np2,k1 p2 o np2 e] at z2;cases z2
def sp_Book_code (Ad:Ads):Sp:=fun vs H Q _=>∃ (b ca dn de:Addr) (es:List Ben),vs=[.ref b]/\BookAt Ad H b ca dn de es/\Q (.ref ca) H
theorem sc_Book_code:FnScope ["self"] ["self"] (defScope s_Book_code):=⟨rfl,rfl,rfl,by decide +kernel,rfl,by decide +kernel,by decide +kernel⟩
theorem ok_Book_code {f:Addr}{fd:FuncData} (F:Fun K "code" "Book.code" s_Book_code f fd) (T:Bl mg) (AF:AdF K mg Ad) :FnOk P w K mg base (CX1 P w) 1 f fd ["self"] (sp_Book_code Ad):=by
 refine F.okX (k:=0) sc_Book_code (fun vs H Q E h=>?_) (fun cdv A outer s H vs Q E hr h=>?_)
 ·obtain ⟨b,ca,dn,de,es,rfl,_⟩:=h
  rfl
 ·obtain ⟨b,ca,dn,de,es,rfl,B,k⟩:=h
  obtain ⟨dx,h1⟩:=B.bk
  have hu:=hr.units0
  have hu1:=hu_of hr
  refine ⟨_,pss_one (ps_ret (pe_fldX (K:=K) rfl (pvL 0))),?_⟩
  ac_nf
  exact ⟨_,dx,_,_,h1,AF.c_Book,AF.n_Book_basis,bookF_basis ca dn de,k⟩
def sp_Book_entries (Ad:Ads):Sp:=fun vs H Q _=>∃ (b ca dn de:Addr) (es:List Ben),vs=[.ref b]/\BookAt Ad H b ca dn de es/\es.length < 64/\∀ D ws (ms:List Ben) H',H D=none->Same H H'->H' D=some (.lst ws)->ms.Perm es->(ms.map (·.num)).Pairwise (· < ·)->Paired (fun v (m:Ben)=>∃ p,v=V.ref p/\H' p=some (.tup [.int m.num,.ref m.adr])) ws ms->Q (.ref D) H'
theorem sc_Book_entries:FnScope ["self"] ["self"] (defScope s_Book_entries):=⟨rfl,rfl,rfl,by decide +kernel,rfl,by decide +kernel,by decide +kernel⟩
theorem ok_Book_entries {f:Addr}{fd:FuncData} (F:Fun K "entries" "Book.entries" s_Book_entries f fd) (T:Bl mg) (AF:AdF K mg Ad) :FnOk P w K mg base (CX1 P w) 1 f fd ["self"] (sp_Book_entries Ad):=by
 refine F.okX (k:=0) sc_Book_entries (fun vs H Q E h=>?_) (fun cdv A outer s H vs Q E hr h=>?_)
 ·obtain ⟨b,ca,dn,de,es,rfl,_⟩:=h
  rfl
 ·obtain ⟨b,ca,dn,de,es,rfl,B,h64,k⟩:=h
  obtain ⟨dx,h1⟩:=B.bk
  have hu:=hr.units0
  have hu1:=hu_of hr
  refine ⟨_,pss_one (ps_ret (pe_lc ["number"] rfl ⟨rfl,by decide +kernel,rfl,by decide +kernel⟩ (.cons (j:=0) rfl (.inl (by kernel_rfl)) (.nil)) (by decide +kernel) (pi_seqK (K:=K) rfl (pe_callBG (call_sortD rfl) T.sorted bt_sorted (pa_c (pe_fldX (K:=K) rfl (pvC 0)) (pa_nil)))) (fun _ _ _ _=>pg_nameL (i:=0) (show (["number","self"]:List Str).Nodup from by decide +kernel)) (fun _ _ _ _=>pif_nil) (fun _ _ _ _=>pe_tupX (pa_c (pvL 0) (pa_c (pe_dgetG hu1 (pe_fldX (K:=K) rfl (pvC 1)) (pvL 0)) (pa_nil)))))),?_⟩
  ac_nf
  refine ⟨_,dx,_,_,h1,AF.c_Book,AF.n_Book_by_number,bookF_num ca dn de,?_⟩
  ac_nf
  refine ⟨es.map fun e:Ben=>(e.num,V.ref e.adr),.inl B.hn,by rw [List.length_map];exact h64,fun ns hp hs p G1 z1 t1 g1=>?_⟩
  ac_nf
  obtain ⟨ms,mp,mn,ml⟩:=by_num hp hs B.nn
  have nl:(ns.map V.int).length < sizeLine:=small_line (by rw [List.length_map,hp.length_eq,List.length_map,List.length_map];omega)
  refine .inl ⟨⟨_,.of g1⟩,lc_newT (seq_list (.of g1)) nl (ms.map fun m=>[V.int m.num,V.ref m.adr]) (by rw [List.length_map,List.length_map,← mn,List.length_map]) ?_ ?_⟩
  ·intro i x ts hx hts G2 t2 R hR
   rw [List.getElem?_map] at hx hts
   obtain ⟨m,hm,rfl⟩:=Option.map_eq_some_iff.mp hts
   have:ns[i]?=some m.num:=by rw [← mn,List.getElem?_map,hm];rfl
   rw [this] at hx
   cases hx
   have B2:=B.same (t1.trans t2)
   obtain ⟨dx2,h2⟩:=B2.bk
   ac_nf
   exact ⟨_,dx2,_,_,h2,AF.c_Book,AF.n_Book_by_number,bookF_num ca dn de,_,_,rfl,.inl ⟨_,.inl m.num,.inl B2.hn,rfl,(num_val B2.nn (mp.mem_iff.mp (List.mem_of_getElem? hm))).symm⟩,Nat.le_of_lt (small_line (by decide)),fun p2 G3 z3 t3 g3=>hR p2 G3 z3 t3 g3⟩
  ·intro D ws G2 hD t2 g2 hT
   refine k D ws ms G2 (t1.free hD) (t1.trans t2) g2 mp ml (paired_mapR hT)
def sp_entry_row:Sp:=fun vs H Q _=>∃ (w:List Nat) (p:Addr) (key:List Key),vs=[.str (tx w),.ref p]/\H p=some (.tup (key.map kV))/\EnOk key/\w.length<=100/\∀ H',Same H H'->Q (.str (tx (w++entS key))) H'
theorem sc_entry_row:FnScope ["word","entry","sign","letters"] ["word","entry"] (defScope s_entry_row):=⟨rfl,rfl,rfl,by decide +kernel,rfl,by decide +kernel,by decide +kernel⟩
theorem ok_entry_row {f:Addr}{fd:FuncData} (F:Fun K "entry_row" "entry_row" s_entry_row f fd) (T:Bl mg) (AF:AdF K mg Ad) :FnOk P w K mg base (CX1 P w) 1 f fd ["word","entry"] sp_entry_row:=by
 refine F.okX (k:=0) sc_entry_row (fun vs H Q E h=>?_) (fun cdv A outer s H vs Q E hr h=>?_)
 ·obtain ⟨w,p,key,rfl,_⟩:=h
  rfl
 ·obtain ⟨w,p,key,rfl,hp,ok,hw,k⟩:=h
  have hu:=hr.units0
  have hu1:=hu_of hr
  refine ⟨_,pss_cons (ps_if (pt_cmpR (op_eqK (K:=K) rfl hu) (pe_ix (ix_K (K:=K) rfl) (pvL 1) (pe_int) (fun _ _=>rfl)) (pe_str) (nomark _)) (pss_one (ps_ret (pe_fN (pf_val (pvL 0) (pf_lit (pf_nil)))))) (pss_nil)) (pss_cons (ps_setL (i:=2) sc_entry_row.nd (pe_ifExp (pt_cmpR (op_eqK (K:=K) rfl hu) (pe_ix (ix_K (K:=K) rfl) (pvL 1) (pe_int) (fun _ _=>rfl)) (pe_str) (nomark _)) (pe_str) (pe_str))) (pss_cons (ps_setL (i:=3) sc_entry_row.nd (pe_ix (ix_K (K:=K) rfl) (pvL 1) (pe_int) (fun _ _=>rfl))) (pss_one (ps_ret (pe_fN (pf_val (pvL 0) (pf_lit (pf_val (pvL 2) (pf_lit (pf_val (pvL 3) (pf_nil))))))))))),?_⟩
  refine seq_go fun nn hN=>?_
  and_intros
  rcases en_cases ok with rfl | ⟨l,rfl,_,hl⟩ | ⟨l,rfl,_,hl⟩
  ·refine ⟨_,_,.t hp,atI_nat (j:=0) rfl,?_⟩
   show rEqX K (V.str (Str.ofString "end")) (V.str (Str.ofString "end")) H _
   and_intros
   rw [if_pos (decide_eq_true trivial)]
   rw [tx_cps]
   refine ⟨by omega,by rw [List.length_append];exact Nat.le_trans (Nat.add_le_add_right hw _) (by decide),?_⟩
   exact k H (Same.refl _)
  ·refine ⟨_,_,.t hp,atI_nat (j:=0) rfl,?_⟩
   show rEqX K (V.str (Str.ofString "phrase")) (V.str (Str.ofString "end")) H _
   and_intros
   rw [decide_eq_false (by decide:¬ Str.ofString "phrase"=Str.ofString "end")]
   bv_omega
   show nn _ _ _
   rw [hN]
   clear hN nn
   refine seq_go fun nn hN=>?_
   and_intros
   refine ⟨_,_,.t hp,atI_nat (j:=0) rfl,?_⟩
   show rEqX K (V.str (Str.ofString "phrase")) (V.str (Str.ofString "phrase")) H _
   and_intros
   rw [if_pos (decide_eq_true trivial)]
   rw [hN]
   clear hN nn
   refine seq_go fun nn hN=>?_
   and_intros
   refine ⟨_,_,.t hp,atI_nat (j:=1) rfl,?_⟩
   show nn _ [some (V.str (tx w)),some (V.ref p),some (V.str (Str.ofString "=")),some (V.str (tx l))] H
   rw [hN]
   clear hN nn
   and_intros
   rw [tx_cps,tx_cps]
   have e:(Str.ofString " ").cps.toList=[32]:=rfl
   have e2:(Str.ofString "=").cps.toList=[61]:=rfl
   rw [e,e2]
   refine ⟨by omega,by rw [List.length_append];simp only [List.length_cons,List.length_nil];omega,by simp only [List.length_append,List.length_cons,List.length_nil];omega,by simp only [List.length_append,List.length_cons,List.length_nil];omega,by simp only [List.length_append,List.length_cons,List.length_nil];omega,?_⟩
   have:=k H (Same.refl _)
   rw [entS_ph] at this
   simpa using this
  ·refine ⟨_,_,.t hp,atI_nat (j:=0) rfl,?_⟩
   show rEqX K (V.str (Str.ofString "part")) (V.str (Str.ofString "end")) H _
   and_intros
   rw [decide_eq_false (by decide:¬ Str.ofString "part"=Str.ofString "end")]
   bv_omega
   show nn _ _ _
   rw [hN]
   clear hN nn
   refine seq_go fun nn hN=>?_
   and_intros
   refine ⟨_,_,.t hp,atI_nat (j:=0) rfl,?_⟩
   show rEqX K (V.str (Str.ofString "part")) (V.str (Str.ofString "phrase")) H _
   and_intros
   rw [decide_eq_false (by decide:¬ Str.ofString "part"=Str.ofString "phrase"),if_neg (by decide)]
   rw [hN]
   clear hN nn
   refine seq_go fun nn hN=>?_
   and_intros
   refine ⟨_,_,.t hp,atI_nat (j:=1) rfl,?_⟩
   show nn _ [some (V.str (tx w)),some (V.ref p),some (V.str (Str.ofString "+")),some (V.str (tx l))] H
   rw [hN]
   clear hN nn
   and_intros
   rw [tx_cps,tx_cps]
   have e:(Str.ofString " ").cps.toList=[32]:=rfl
   have e2:(Str.ofString "+").cps.toList=[43]:=rfl
   rw [e,e2]
   refine ⟨by omega,by rw [List.length_append];simp only [List.length_cons,List.length_nil];omega,by simp only [List.length_append,List.length_cons,List.length_nil];omega,by simp only [List.length_append,List.length_cons,List.length_nil];omega,by simp only [List.length_append,List.length_cons,List.length_nil];omega,?_⟩
   have:=k H (Same.refl _)
   rw [entS_pa] at this
   simpa using this
def sp_entry_written:Sp:=fun vs H Q _=>∃ (p:Addr) (key:List Key),vs=[.ref p]/\H p=some (.lst (entP key))/\EnOk key/\∀ t H',H t=none->Same H H'->H' t=some (.tup (key.map kV))->Q (.ref t) H'
theorem sc_entry_written:FnScope ["parts"] ["parts"] (defScope s_entry_written):=⟨rfl,rfl,rfl,by decide +kernel,rfl,by decide +kernel,by decide +kernel⟩
theorem ok_entry_written {f:Addr}{fd:FuncData} (F:Fun K "entry_written" "entry_written" s_entry_written f fd) (T:Bl mg) (AF:AdF K mg Ad) :FnOk P w K mg base (CX1 P w) 1 f fd ["parts"] sp_entry_written:=by
 refine F.okX (k:=0) sc_entry_written (fun vs H Q E h=>?_) (fun cdv A outer s H vs Q E hr h=>?_)
 ·obtain ⟨p,key,rfl,_⟩:=h
  rfl
 ·obtain ⟨p,key,rfl,hp,ok,k⟩:=h
  have hu:=hr.units0
  have hu1:=hu_of hr
  refine ⟨_,pss_cons (ps_if (pt_cmpR (op_eqK (K:=K) rfl hu) (pvL 0) (pe_lstX (pa_c (pe_str) (pa_nil))) (nomark _)) (pss_one (ps_ret (pe_tupX (pa_c (pe_str) (pa_nil))))) (pss_nil)) (pss_cons (ps_if ((pw_and (pt_cmpR (op_eqK (K:=K) rfl hu) (pe_callBG (call_lenK (K:=K) rfl) T.len bt_len (pa_c (pvL 0) (pa_nil))) (pe_int) (nomark _)) (pw_and1 (pt_cmpR (op_eqK (K:=K) rfl hu) (pe_ix (ix_K (K:=K) rfl) (pvL 0) (pe_int) (fun _ _=>rfl)) (pe_str) (nomark _)))).pt) (pss_one (ps_ret (pe_tupX (pa_c (pe_str) (pa_c (pe_ix (ix_K (K:=K) rfl) (pvL 0) (pe_int) (fun _ _=>rfl)) (pa_nil)))))) (pss_nil)) (pss_cons (ps_if ((pw_and (pt_cmpR (op_eqK (K:=K) rfl hu) (pe_callBG (call_lenK (K:=K) rfl) T.len bt_len (pa_c (pvL 0) (pa_nil))) (pe_int) (nomark _)) (pw_and1 (pt_cmpR (op_eqK (K:=K) rfl hu) (pe_ix (ix_K (K:=K) rfl) (pvL 0) (pe_int) (fun _ _=>rfl)) (pe_str) (nomark _)))).pt) (pss_one (ps_ret (pe_tupX (pa_c (pe_str) (pa_c (pe_ix (ix_K (K:=K) rfl) (pvL 0) (pe_int) (fun _ _=>rfl)) (pa_nil)))))) (pss_nil)) (pss_one (ps_ret (pe_non))))),?_⟩
  have le2:2<=sizeLine:=Nat.le_of_lt (small_line (by decide))
  refine seq_go fun nn hN=>?_
  and_intros
  refine ⟨Nat.le_of_lt (small_line (by decide)),fun p1 H1 hp1 s1 h1=>?_⟩
  rcases en_cases ok with rfl | ⟨l,rfl,_,hl⟩ | ⟨l,rfl,_,hl⟩
  ·refine ⟨_,_,.of (s1 _ _ hp),.of h1,rfl,rfl,?_⟩
   rw [if_pos (show eqVs _ _=true from rfl)]
   exact ⟨Nat.le_of_lt (small_line (by decide)),fun t H2 ht s2 h2=>k t H2 (s1.free ht) (s1.trans s2) h2⟩
  ·rw [entP_ph] at hp
   refine ⟨_,_,.of (s1 _ _ hp),.of h1,rfl,rfl,?_⟩
   rw [if_neg (by rw [eqVs_len (by simp)];decide)]
   show nn _ _ _
   rw [hN]
   clear hN nn
   refine seq_go fun nn hN=>?_
   and_intros
   refine ⟨_,.l (s1 _ _ hp),?_⟩
   rw [if_pos (by rfl)]
   refine ⟨_,_,.l (s1 _ _ hp),atI_nat (j:=0) rfl,?_⟩
   and_intros
   rw [if_pos (by decide)]
   exact ⟨_,_,.l (s1 _ _ hp),atI_nat (j:=1) rfl,le2,fun t H2 ht s2 h2=>k t H2 (s1.free ht) (s1.trans s2) h2⟩
  ·rw [entP_pa] at hp
   refine ⟨_,_,.of (s1 _ _ hp),.of h1,rfl,rfl,?_⟩
   rw [if_neg (by rw [eqVs_len (by simp)];decide)]
   show nn _ _ _
   rw [hN]
   clear hN nn
   refine seq_go fun nn hN=>?_
   and_intros
   refine ⟨_,.l (s1 _ _ hp),?_⟩
   rw [if_pos (by rfl)]
   refine ⟨_,_,.l (s1 _ _ hp),atI_nat (j:=0) rfl,?_⟩
   and_intros
   rw [if_neg (by decide)]
   show nn _ _ _
   rw [hN]
   clear hN nn
   refine seq_go fun nn hN=>?_
   and_intros
   refine ⟨_,.l (s1 _ _ hp),?_⟩
   rw [if_pos (by rfl)]
   refine ⟨_,_,.l (s1 _ _ hp),atI_nat (j:=0) rfl,?_⟩
   and_intros
   rw [if_pos (by decide)]
   exact ⟨_,_,.l (s1 _ _ hp),atI_nat (j:=1) rfl,le2,fun t H2 ht s2 h2=>k t H2 (s1.free ht) (s1.trans s2) h2⟩
def sp_law_cell_at (K:PySem.W.Frag):Sp:=fun vs H Q _=>∃ (a:Addr) (ns:List Int) (k:Int),vs=[.ref a,.int k]/\SqL K H a (ns.map V.int)/\0<=k/\Q (.int (ns.getD k.toNat 0)) H
theorem sc_law_cell_at:FnScope ["_law_script","_law_k"] ["_law_script","_law_k"] (defScope s_law_cell_at):=⟨rfl,rfl,rfl,by decide +kernel,rfl,by decide +kernel,by decide +kernel⟩
theorem ok_law_cell_at {f:Addr}{fd:FuncData} (F:Fun K "_law_cell_at" "_law_cell_at" s_law_cell_at f fd) (T:Bl mg) (AF:AdF K mg Ad) :FnOk P w K mg base (CX1 P w) 1 f fd ["_law_script","_law_k"] (sp_law_cell_at K):=by
 refine F.okX (k:=0) sc_law_cell_at (fun vs H Q E h=>?_) (fun cdv A outer s H vs Q E hr h=>?_)
 ·obtain ⟨a,ns,k,rfl,_⟩:=h
  rfl
 ·obtain ⟨a,ns,i,rfl,hS,hi,k⟩:=h
  have hu:=hr.units0
  have hu1:=hu_of hr
  refine ⟨_,pss_cons (ps_if (pt_cmpR op_ltX (pvL 1) (pe_callBG (call_lenK (K:=K) rfl) T.len bt_len (pa_c (pvL 0) (pa_nil))) (nomark _)) (pss_one (ps_ret (pe_ix (ix_K (K:=K) rfl) (pvL 0) (pvL 1) (fun _ _=>rfl)))) (pss_nil)) (pss_one (ps_ret (pe_int))),?_⟩
  ac_nf
  refine ⟨_,.inl hS,?_⟩
  rw [List.length_map]
  by_cases hlt:i < (ns.length:Int)
  ·rw [if_pos (decide_eq_true hlt)]
   refine ⟨_,.int (ns.getD i.toNat 0),.inl hS,?_,k⟩
   have e:(ns.map V.int)[i.toNat]?=some (.int (ns.getD i.toNat 0)):=by
    rw [List.getElem?_map,List.getD_eq_getElem?_getD,List.getElem?_eq_getElem (by omega)];rfl
   have:=atI_nat e
   rwa [Int.toNat_of_nonneg hi] at this
  ·rw [if_neg (by rw [decide_eq_true_eq];exact hlt)]
   have e:ns.getD i.toNat 0=0:=by rw [List.getD_eq_getElem?_getD,List.getElem?_eq_none (by omega)];rfl
   rw [e] at k
   exact k
def mix11 (c:Int):Int:=c * 69621 % 2147483629 + 2147483629 * (c % 10 ^ 60)
def sp_law_mixed:Sp:=fun vs H Q _=>∃ c:Int,vs=[.int c]/\Q (.int (mix11 c)) H
theorem sc_law_mixed:FnScope ["_law_cell"] ["_law_cell"] (defScope s_law_mixed):=⟨rfl,rfl,rfl,by decide +kernel,rfl,by decide +kernel,by decide +kernel⟩
theorem ok_law_mixed {f:Addr}{fd:FuncData} (F:Fun K "_law_mixed" "_law_mixed" s_law_mixed f fd) (T:Bl mg) (AF:AdF K mg Ad) :FnOk P w K mg base (CX1 P w) 1 f fd ["_law_cell"] sp_law_mixed:=by
 refine F.okX (k:=0) sc_law_mixed (fun vs H Q E h=>?_) (fun cdv A outer s H vs Q E hr h=>?_)
 ·obtain ⟨c,rfl,_⟩:=h
  rfl
 ·obtain ⟨c,rfl,k⟩:=h
  have hu:=hr.units0
  have hu1:=hu_of hr
  refine ⟨_,pss_one (ps_ret (pe_op op_addX (pe_op op_modX (pe_op op_mulS (pvL 0) (pe_int)) (pe_int)) (pe_op op_mulS (pe_int) (pe_op op_modX (pvL 0) (pe_op op_powX (pe_int) (pe_int)))))),?_⟩
  ac_nf
  exact ⟨.inr (by decide),by decide,⟨by decide,by decide,by decide⟩,by decide,.inl (by decide),k⟩
def sp_law_divisor:Sp:=fun vs H Q _=>∃ (a:Int) (b:Nat),vs=[.int a,.int b]/\Q (.int ((Nat.gcd a.natAbs b:Nat):Int)) H
theorem sc_law_divisor:FnScope ["_law_one","_law_other"] ["_law_one","_law_other"] (defScope s_law_divisor):=⟨rfl,rfl,rfl,by decide +kernel,rfl,by decide +kernel,by decide +kernel⟩
theorem ok_law_divisor {f:Addr}{fd:FuncData} (F:Fun K "_law_divisor" "_law_divisor" s_law_divisor f fd) (T:Bl mg) (AF:AdF K mg Ad) :FnOk P w K mg base (CX1 P w) 1 f fd ["_law_one","_law_other"] sp_law_divisor:=by
 refine F.okX (k:=0) sc_law_divisor (fun vs H Q E h=>?_) (fun cdv A outer s H vs Q E hr h=>?_)
 ·obtain ⟨a,b,rfl,_⟩:=h
  rfl
 ·obtain ⟨a,b,rfl,k⟩:=h
  have hu:=hr.units0
  have hu1:=hu_of hr
  refine ⟨_,pss_cons (ps_setL (i:=0) sc_law_divisor.nd (pe_callBG call_absX T.abs bt_abs (pa_c (pvL 0) (pa_nil)))) (pss_cons (ps_while PassesOwn.leaving (pt_cmpR op_gtX (pvL 1) (pe_int) (nomark _)) (pss_one (ps_par (i:=0) (j:=1) rfl sc_law_divisor.nd rfl rfl (by decide) rfl rfl (pa_c (pvL 1) (pa_c (pe_op op_modX (pvL 0) (pvL 1)) (pa_nil))) rfl))) (pss_one (ps_ret (pvL 0)))),?_⟩
  ac_nf
  refine while_x (fun σ H'=>H'=H/\∃ l r:Nat,σ=[some (.int l),some (.int r)]/\Nat.gcd l r=Nat.gcd a.natAbs b) (fun σ _=>match σ with | [_,some (.int r)]=>r.toNat | _=>0) ⟨rfl,a.natAbs,b,rfl,rfl⟩ ?_
  rintro σ H' ⟨rfl,l,r,rfl,hg⟩
  ac_nf
  by_cases hr0:r=0
  ·subst hr0
   rw [Nat.gcd_zero_right] at hg
   subst hg
   rw [if_neg (by decide)]
   exact k
  ·have e:decide ((0:Int) < (r:Int))=true:=decide_eq_true (by omega)
   rw [if_pos e]
   refine ⟨_,fun _ _ h=>h,by omega,⟨rfl,r,l % r,by rw [Int.natCast_emod],?_⟩,?_⟩
   ·rw [← hg,Nat.gcd_comm l r,Nat.gcd_rec r l,Nat.gcd_comm]
   ·show ((l:Int) % (r:Int)).toNat < r
    have h1:(l:Int) % (r:Int) < r:=Int.emod_lt_of_pos _ (by omega)
    have h2:0<=(l:Int) % (r:Int):=Int.emod_nonneg _ (by omega)
    omega
def lets:Nat->Int->List Nat
 | 0,_=>[]
 | n + 1,k=>(97 + (k % 26).toNat)::lets n (k / 26)
theorem lets_len:∀ (n:Nat) (k:Int),(lets n k).length=n
 | 0,_=>rfl
 | n + 1,k=>by show (lets n (k / 26)).length + 1=_;rw [lets_len]
theorem lets_mem:∀ (n:Nat) (k:Int),∀ c∈lets n k,97<=c/\c < 123
 | 0,_,c,h=>nomatch h
 | n + 1,k,c,h=>by
  rcases List.mem_cons.mp h with rfl | h
  ·omega
  ·exact lets_mem n _ c h
theorem lets_snoc:∀ (n:Nat) (k:Int),lets (n + 1) k=lets n k++[97 + (k / 26 ^ n % 26).toNat]
 | 0,k=>by simp [lets]
 | n + 1,k=>by
  show (97 + (k % 26).toNat)::lets (n + 1) (k / 26)=(97 + (k % 26).toNat)::(lets n (k / 26)++_)
  rw [lets_snoc n (k / 26),Int.ediv_ediv_of_nonneg (by decide),← Int.pow_succ']
theorem some_words:∀ j:Nat,j < 8->∃ w:List Nat,[V.str ("a":Str),.str ("ab":Str),.str ("abc":Str),.str ("b":Str),.str ("ba":Str),.str ("cab":Str),.str ("bb":Str),.str ("c":Str)][j]?=some (.str (tx w))/\1<=w.length/\w.length<=20/\∀ c∈w,97<=c/\c < 123
 | 0,_=>⟨[97],rfl,by decide,by decide,by decide⟩
 | 1,_=>⟨[97,98],rfl,by decide,by decide,by decide⟩
 | 2,_=>⟨[97,98,99],rfl,by decide,by decide,by decide⟩
 | 3,_=>⟨[98],rfl,by decide,by decide,by decide⟩
 | 4,_=>⟨[98,97],rfl,by decide,by decide,by decide⟩
 | 5,_=>⟨[99,97,98],rfl,by decide,by decide,by decide⟩
 | 6,_=>⟨[98,98],rfl,by decide,by decide,by decide⟩
 | 7,_=>⟨[99],rfl,by decide,by decide,by decide⟩
 | _ + 8,h=>absurd h (by omega)
def sp_law_word:Sp:=fun vs H Q _=>∃ n:Int,vs=[.int n]/\0<=n/\∀ p (w:List Nat) (n':Int) H',1<=w.length->w.length<=20->(∀ c∈w,97<=c/\c < 123)->0<=n'->H p=none->Same H H'->H' p=some (.lst [.str (tx w),.int n'])->Q (.ref p) H'
theorem sc_law_word:FnScope ["_law_number","_law_letters","_law_some","_law_size","_law_word_here","_law_k"] ["_law_number"] (defScope s_law_word):=⟨rfl,rfl,rfl,by decide +kernel,rfl,by decide +kernel,by decide +kernel⟩
theorem ok_law_word {f:Addr}{fd:FuncData} (F:Fun K "_law_word" "_law_word" s_law_word f fd) (T:Bl mg) (AF:AdF K mg Ad) :FnOk P w K mg base (CX1 P w) 1 f fd ["_law_number"] sp_law_word:=by
 refine F.okX (k:=0) sc_law_word (fun vs H Q E h=>?_) (fun cdv A outer s H vs Q E hr h=>?_)
 ·obtain ⟨n,rfl,_⟩:=h
  rfl
 ·obtain ⟨n,rfl,hn,k⟩:=h
  have hu:=hr.units0
  have hu1:=hu_of hr
  refine ⟨_,pss_cons (ps_setL (i:=1) sc_law_word.nd (pe_str)) (pss_cons (ps_setL (i:=2) sc_law_word.nd (pe_lstX (pa_c (pe_str) (pa_c (pe_str) (pa_c (pe_str) (pa_c (pe_str) (pa_c (pe_str) (pa_c (pe_str) (pa_c (pe_str) (pa_c (pe_str) (pa_nil))))))))))) (pss_cons (ps_if (pt_cmpR op_ltX (pe_op op_modX (pvL 0) (pe_int)) (pe_int) (nomark _)) (pss_one (ps_ret (pe_lstX (pa_c (pe_ix (ix_K (K:=K) rfl) (pvL 2) (pe_op op_modX (pe_op op_fdivX (pvL 0) (pe_int)) (pe_int)) (fun _ _=>rfl)) (pa_c (pe_op op_fdivX (pvL 0) (pe_int)) (pa_nil)))))) (pss_nil)) (pss_cons (ps_setL (i:=3) sc_law_word.nd (pe_op op_addX (pe_int) (pe_op op_modX (pe_op op_fdivX (pvL 0) (pe_int)) (pe_int)))) (pss_cons (ps_setL (i:=0) sc_law_word.nd (pe_op op_fdivX (pvL 0) (pe_int))) (pss_cons (ps_setL (i:=4) sc_law_word.nd (pe_str)) (pss_cons (ps_for PassesOwn.leaving rfl (pi_range1G T.range (pa_c (pvL 3) (pa_nil))) (pg_nameL (i:=5) sc_law_word.nd) (pss_cons (ps_setL (i:=4) sc_law_word.nd (pe_op op_addX (pvL 4) (pe_ix (ix_K (K:=K) rfl) (pvL 1) (pe_op op_modX (pvL 0) (pe_int)) (fun _ _=>rfl)))) (pss_one (ps_setL (i:=0) sc_law_word.nd (pe_op op_fdivX (pvL 0) (pe_int)))))) (pss_one (ps_ret (pe_lstX (pa_c (pvL 4) (pa_c (pvL 0) (pa_nil)))))))))))),?_⟩
  refine seq_go fun nn hN=>?_
  and_intros
  rw [hN]
  clear hN nn
  refine seq_go fun nn hN=>?_
  and_intros
  refine ⟨Nat.le_of_lt (small_line (by decide)),fun p0 H1 hp0 s1 h1=>?_⟩
  rw [hN]
  clear hN nn
  refine seq_go fun nn hN=>?_
  and_intros
  refine ⟨by decide,?_⟩
  by_cases h3:n % 4 < 3
  ·rw [if_pos (decide_eq_true h3)]
   and_intros
   obtain ⟨j,hj⟩:=Int.eq_ofNat_of_zero_le (show 0<=n / 4 % 8 by omega)
   obtain ⟨w,e1,e2,e3,e4⟩:=some_words j (by omega)
   rw [hj]
   refine ⟨⟨by decide,by decide⟩,by decide,_,_,.l h1,atI_nat e1,⟨by decide,by decide⟩,Nat.le_of_lt (small_line (by decide)),fun p H2 hp s2 h2=>?_⟩
   exact k p w _ H2 e2 e3 e4 (by omega) (by cases e:H p with | none=>rfl | some o=>rw [s1 _ _ e] at hp;cases hp) (s1.trans s2) h2
  ·rw [if_neg (by simpa using h3),hN]
   clear hN nn
   refine seq_go fun nn hN=>?_
   and_intros
   refine ⟨⟨by decide,by decide⟩,by decide,?_⟩
   rw [hN]
   clear hN nn
   refine seq_go fun nn hN=>?_
   and_intros
   refine ⟨⟨by decide,by decide⟩,?_⟩
   rw [hN]
   clear hN nn
   refine seq_go fun nn hN=>?_
   and_intros
   rw [hN]
   clear hN nn
   obtain ⟨sz,hsz⟩:=Int.eq_ofNat_of_zero_le (show 0<=1 + n / 4 % 20 by omega)
   have hs1:1<=sz/\sz<=20:=by omega
   have hm0:0<=n / 80:=by omega
   generalize n / 80=m at hm0
   rw [hsz]
   refine seq_go fun nn hN=>?_
   and_intros
   refine ⟨by omega,by omega,?_⟩
   refine for_rng (n:=sz) (fun i σ H'=>H'=H1/\∃ o,σ=[some (.int (m / 26 ^ i)),some (.str ("abcdefghijklmnopqrstuvwxyz":Str)),some (.ref p0),some (.int (sz:Int)),some (.str (tx (lets i m))),o]) ?_ ?_ ?_
   ·exact ⟨rfl,none,by rw [Int.pow_zero,Int.ediv_one];rfl⟩
   ·rintro i σ H' hi ⟨rfl,o,rfl⟩
    have hd:0<=m / 26 ^ i:=Int.ediv_nonneg hm0 (Int.pow_nonneg (by decide))
    have hsn:=lets_snoc i m
    have hq:m / 26 ^ (i + 1)=m / 26 ^ i / 26:=by rw [Int.pow_succ,Int.ediv_ediv_of_nonneg (Int.pow_nonneg (by decide))]
    rw [hsn,hq]
    have hll:=lets_len i m
    generalize m / 26 ^ i=d at hd
    generalize lets i m=wd at hll
    and_intros
    rw [ap_seq]
    and_intros
    have hc:atI ("abcdefghijklmnopqrstuvwxyz":Str).cps.toList (d % 26)=some (97 + (d % 26).toNat):=by
     refine atI_of (by omega) ?_
     rw [abc_codes,List.getElem?_range' (by omega)]
     simp
    refine ⟨by decide,Nat.le_of_lt (small_line (by decide)),_,hc,?_⟩
    rw [show (⟨#[97 + (d % 26).toNat]⟩:Str)=tx [97 + (d % 26).toNat] from rfl,tx_app,tx_len,tx_len]
    and_intros
    exact ⟨Nat.le_of_lt (small_line (by omega)),⟨by decide,by decide⟩,trivial,_,rfl⟩
   ·rintro σ H' ⟨rfl,o,rfl⟩
    show nn _ _ _
    rw [hN]
    and_intros
    refine ⟨Nat.le_of_lt (small_line (by decide)),fun p H2 hp s2 h2=>?_⟩
    refine k p (lets sz m) _ H2 (by rw [lets_len];exact hs1.1) (by rw [lets_len];exact hs1.2) (lets_mem sz m) ?_ (by cases e:H p with | none=>rfl | some o=>rw [s1 _ _ e] at hp;cases hp) (s1.trans s2) h2
    exact Int.ediv_nonneg hm0 (Int.pow_nonneg (by decide))
def sp_are_safe:Sp:=fun vs H Q _=>∃ (p:Addr) (ws:List Int) (m:Int),vs=[.ref p,.int m]/\H p=some (.lst (ws.map V.int))/\ws.length<=1000/\∀ H',Same H H'->Q (.bl (Mk.safe m ws)) H'
theorem sc_are_safe:FnScope ["weights","m","differences"] ["weights","m"] (defScope s_are_safe):=⟨rfl,rfl,rfl,by decide +kernel,rfl,by decide +kernel,by decide +kernel⟩
theorem ok_are_safe {f:Addr}{fd:FuncData} (F:Fun K "are_safe" "are_safe" s_are_safe f fd) (T:Bl mg) (AF:AdF K mg Ad) (C_common_divisor:Fnc P w K mg base (CX1 P w) 1 "common_divisor" ["one","other"] sp_common_divisor):FnOk P w K mg base (CX1 P w) 2 f fd ["weights","m"] sp_are_safe:=by
 refine F.okX (k:=1) sc_are_safe (fun vs H Q E h=>?_) (fun cdv A outer s H vs Q E hr h=>?_)
 ·obtain ⟨p,ws,m,rfl,_⟩:=h
  rfl
 ·obtain ⟨p,ws,m,rfl,hp,hl,k⟩:=h
  have hu:=hr.units0
  have hu1:=hu_of hr
  refine ⟨_,pss_cons (ps_setLC (i:=2) ["ahead","behind"] sc_are_safe.nd rfl (Or.inl rfl) rfl ⟨rfl,by decide +kernel,rfl,by decide +kernel⟩ (.nil) (by decide +kernel) (pi_zipG (K:=K) rfl T.zip (pa_c (pvL 0) (pa_c (pe_slice (sl_YK (K:=K) rfl) (pvL 0) (po_some (pe_int)) (po_none)) (pa_nil)))) (fun _ _ _ _=>pg_tupK (K:=K) (n:=2) rfl rfl (pgs_cons (pg_nameL (i:=0) (show (["ahead","behind"]:List Str).Nodup from by decide +kernel)) (pgs_cons (pg_nameL (i:=1) (show (["ahead","behind"]:List Str).Nodup from by decide +kernel)) (pgs_nil)))) (fun _ _ _ _=>pif_nil) (fun _ _ _ _=>pe_op op_subX (pvL 1) (pvL 0))) (pss_one (ps_ret (pe_callBG (call_allK (K:=K) rfl rfl) T.all bt_all (pa_c (pe_lc ["number"] rfl ⟨rfl,by decide +kernel,rfl,by decide +kernel⟩ (.cons (j:=1) rfl (.inl (by kernel_rfl)) (.nil)) (by decide +kernel) (pi_seqK (K:=K) rfl (pe_op op_addX (pvL 0) (pvL 2))) (fun _ _ _ _=>pg_nameL (i:=0) (show (["number","m"]:List Str).Nodup from by decide +kernel)) (fun _ _ _ _=>pif_nil) (fun _ _ _ _=>pe_cmpR (op_eqK (K:=K) rfl hu) (pe_callG C_common_divisor passE0 (hr.mono (by decide)) (pa_c (pvL 0) (pa_c (pvC 1) (pa_nil)))) (pe_int) (nomark _))) (pa_nil))))),?_⟩
  ac_nf
  refine ⟨_,.of hp,fun q H1 hq s1 h1=>?_⟩
  have hp1:H1 p=some (.lst (ws.map V.int)):=s1 _ _ hp
  have ec:cutV (ws.map V.int) (some 1) none=(ws.drop 1).map V.int:=by rw [show (1:Int)=((1:Nat):Int) from rfl,cutV_drop,List.map_drop]
  rw [ec] at h1
  refine ⟨⟨_,.of hp1⟩,⟨_,.of h1⟩,lc_Z V.int V.int inj_int inj_int (.of hp1) (.of h1) (small_line (by omega)) (fun a b=>.int (b - a)) ?_ ?_⟩
  ·intro a b hab H' s' R hR
   ac_nf
   exact hR H' (Same.refl _)
  ·intro D H2 hD s2 h2
   have e2:H2 D=some (.lst ((Mk.dif ws).map V.int)):=by rw [h2];unfold Mk.dif;rw [List.map_map];rfl
   have hp2:H2 p=some (.lst (ws.map V.int)):=s2 _ _ hp1
   have ldif:(Mk.dif ws).length<=1000:=by unfold Mk.dif;rw [List.length_map,List.length_zip];omega
   ac_nf
   refine ⟨_,_,hp2,e2,?_,fun r H3 hr s3 h3=>.inl ⟨⟨_,.of h3⟩,?_⟩⟩
   ·rw [List.length_map,List.length_map];exact Nat.le_of_lt (small_line (by omega))
   ·rw [← List.map_append] at h3
    refine lc_M (xs:=ws++Mk.dif ws) V.int inj_int (seq_list (.of h3)) (by rw [List.length_append];exact small_line (by omega)) (fun n=>.bl (Mk.cop m n)) ?_ ?_
    ·intro n hn H' s' R hR
     ac_nf
     refine ⟨n,m,rfl,?_⟩
     have e:decide (((Int.gcd n m:Nat):Int)=1)=Mk.cop m n:=by
      unfold Mk.cop
      by_cases h:Int.gcd n m=1
      ·rw [decide_eq_true h];exact decide_eq_true (by omega)
      ·rw [decide_eq_false h];exact decide_eq_false (by omega)
     show R (V.bl (decide (((Int.gcd n m:Nat):Int)=1))) H'
     rw [e]
     exact hR H' (Same.refl _)
    ·intro D' H4 hD' s4 h4
     refine ⟨D',(ws++Mk.dif ws).map (Mk.cop m),rfl,.of (by rw [h4,List.map_map];rfl),?_⟩
     have ea:(((ws++Mk.dif ws).map (Mk.cop m)).all id)=Mk.safe m ws:=by unfold Mk.safe;rw [List.all_map];rfl
     rw [ea]
     exact k H4 (s1.trans (s2.trans (s3.trans s4)))
def isBelowV (b:Int):V->Bool
 | .int i=>decide (0<=i) && decide (i < b)
 | _=>false
def sp_is_below:Sp:=fun vs H Q _=>∃ (x:V) (t:Tg) (b:Int),vs=[x,.int b]/\tagV H x=some t/\Q (.bl (isBelowV b x)) H
theorem sc_is_below:FnScope ["thing","bound"] ["thing","bound"] (defScope s_is_below):=⟨rfl,rfl,rfl,by decide +kernel,rfl,by decide +kernel,by decide +kernel⟩
theorem ok_is_below {f:Addr}{fd:FuncData} (F:Fun K "is_below" "is_below" s_is_below f fd) (T:Bl mg) (AF:AdF K mg Ad) (C_is_whole:Fnc P w K mg base (CX1 P w) 1 "is_whole" ["thing"] sp_is_whole):FnOk P w K mg base (CX1 P w) 2 f fd ["thing","bound"] sp_is_below:=by
 refine F.okX (k:=1) sc_is_below (fun vs H Q E h=>?_) (fun cdv A outer s H vs Q E hr h=>?_)
 ·obtain ⟨x,t,b,rfl,_⟩:=h
  rfl
 ·obtain ⟨x,t,b,rfl,ht,k⟩:=h
  have hu:=hr.units0
  have hu1:=hu_of hr
  refine ⟨_,pss_one (ps_ret (pe_and (pe_callG C_is_whole pass_def (hr.mono (by decide)) (pa_c (pvL 0) (pa_nil))) (pe_one (pe_chain op_leX op_ltX (pe_int) (pvL 0) (pvL 1))))),?_⟩
  by_cases hs:∃ i,x=.int i
  ·obtain ⟨i,rfl⟩:=hs
   cases ht
   ac_nf
   refine ⟨_,Tg.int,rfl,rfl,?_⟩
   ac_nf
   have ek:isBelowV b (.int i)=(decide (0<=i) && decide (i < b)):=rfl
   rw [ek] at k
   rw [if_pos (by simp)]
   cases h0:decide (0<=i) with
   | false=>rw [h0,Bool.false_and] at k;bv_omega;exact k
   | true=>rw [h0,Bool.true_and] at k;bv_omega;exact k
  ·have hv:isBelowV b x=false:=by
    cases x with
    | int i=>exact absurd ⟨i,rfl⟩ hs
    | _=>rfl
   have hne:t≠Tg.int:=fun e=>by
    subst e
    cases x with
    | int i=>exact hs ⟨i,rfl⟩
    | ref a =>
     have h':tagO (H a)=some .int:=ht
     cases e:H a with
     | none=>rw [e] at h';cases h'
     | some o=>rw [e] at h';cases o with
      | frz ob u=>cases u <;> cases h'
      | _=>cases h'
    | _=>cases ht
   rw [hv] at k
   ac_nf
   refine ⟨x,t,rfl,ht,?_⟩
   ac_nf
   rw [decide_eq_false hne]
   bv_omega
   exact k
def isGoodV (al:Str) (ws:List Int) (r:Int):V->Bool
 | .str z=>Mk.isGoodL al.cps.toList ws r z.cps.toList
 | _=>false
def sp_is_good:Sp:=fun vs H Q _=>∃ (al:Str) (p:Addr) (ws:List Int) (r:Int) (x:V) (t:Tg),vs=[.str al,.ref p,.int r,x]/\H p=some (.lst (ws.map V.int))/\ws.length<=1000/\0 < al.length/\al.length<=1000/\Mk.sml ws ∧
 tagV H x=some t/\(∀ z,x=.str z->z.length<=100000)/\∀ H',Same H H'->Q (.bl (isGoodV al ws r x)) H'
theorem sc_is_good:FnScope ["alphabet","weights","rest","word"] ["alphabet","weights","rest","word"] (defScope s_is_good):=⟨rfl,rfl,rfl,by decide +kernel,rfl,by decide +kernel,by decide +kernel⟩
theorem ok_is_good {f:Addr}{fd:FuncData} (F:Fun K "is_good" "is_good" s_is_good f fd) (T:Bl mg) (AF:AdF K mg Ad) (C_are_good:Fnc P w K mg base (CX1 P w) 1 "are_good" ["m","weights","rest","places"] sp_are_good) (C_places_of:Fnc P w K mg base (CX1 P w) 1 "places_of" ["alphabet","word"] sp_places_of) (C_is_word:Fnc P w K mg base (CX1 P w) 1 "is_word" ["alphabet","length","thing"] sp_is_word):FnOk P w K mg base (CX1 P w) 2 f fd ["alphabet","weights","rest","word"] sp_is_good:=by
 refine F.okX (k:=1) sc_is_good (fun vs H Q E h=>?_) (fun cdv A outer s H vs Q E hr h=>?_)
 ·obtain ⟨al,p,ws,r,x,t,rfl,_⟩:=h
  rfl
 ·obtain ⟨al,p,ws,r,x,t,rfl,hp,hwl,ha0,ha,hsm,ht,hz,k⟩:=h
  have hu:=hr.units0
  have hu1:=hu_of hr
  refine ⟨_,pss_cons (ps_if (pt_not (pt_val (pe_callG C_is_word pass_def (hr.mono (by decide)) (pa_c (pvL 0) (pa_c (pe_callBG (call_lenK (K:=K) rfl) T.len bt_len (pa_c (pvL 1) (pa_nil))) (pa_c (pvL 3) (pa_nil))))))) (pss_one (ps_ret (pe_bl))) (pss_nil)) (pss_one (ps_ret (pe_callG C_are_good pass_def (hr.mono (by decide)) (pa_c (pe_callBG (call_lenK (K:=K) rfl) T.len bt_len (pa_c (pvL 0) (pa_nil))) (pa_c (pvL 1) (pa_c (pvL 2) (pa_c (pe_callG C_places_of pass_def (hr.mono (by decide)) (pa_c (pvL 0) (pa_c (pvL 3) (pa_nil)))) (pa_nil)))))))),?_⟩
  ac_nf
  refine ⟨_,.l hp,?_⟩
  rw [List.length_map]
  refine ⟨al,_,x,t,rfl,ht,hz,fun H1 s1=>?_⟩
  have h1p:H1 p=some (.lst (ws.map V.int)):=s1 _ _ hp
  ac_nf
  cases hw:isWordV al ws.length x with
  | false =>
   have e:isGoodV al ws r x=false:=by
    cases x with
    | str z =>
     show (Mk.isWordL al.cps.toList ws.length z.cps.toList && _)=false
     rw [show Mk.isWordL al.cps.toList ws.length z.cps.toList=false from hw,Bool.false_and]
    | _=>rfl
   rw [e] at k
   exact k H1 s1
  | true =>
   cases x with
   | str z =>
    have hw':Mk.isWordL al.cps.toList ws.length z.cps.toList=true:=hw
    obtain ⟨hw1,hw2⟩:=Mk.isWord_iff.mp hw'
    have hzl:z.cps.toList.length<=1000:=by omega
    bv_omega
    refine ⟨Nat.le_of_lt (small_line (by omega)),al,z,rfl,by rw [len_cps];omega,hw2,fun q H2 hq s2 h2=>?_⟩
    have h2p:H2 p=some (.lst (ws.map V.int)):=s2 _ _ h1p
    ac_nf
    refine ⟨_,p,ws,r,q,_,rfl,by omega,h2p,h2,by omega,hsm,Mk.sml_of (Mk.plc_mem hw2) (by rw [len_cps] at ha;omega),fun H3 s3=>?_⟩
    have e:isGoodV al ws r (.str z)=Mk.good al.length ws r (Mk.plc al.cps.toList z.cps.toList):=by
     show (Mk.isWordL al.cps.toList ws.length z.cps.toList && Mk.good al.cps.toList.length ws r _)=_
     rw [hw',Bool.true_and,← len_cps]
    rw [e] at k
    exact k H3 (s1.trans (s2.trans s3))
   | _=>cases hw
def sp_are_words:Sp:=fun vs H Q _=>∃ (x:V) (t:Tg) (n:Nat),vs=[x,.int n]/\tagV H x=some t/\(∀ z,x=.str z->z.length<=10000)/\n<=1000/\∀ H',Same H H'->Q (.bl (areWdsV n x)) H'
theorem sc_are_words:FnScope ["thing","most","words"] ["thing","most"] (defScope s_are_words):=⟨rfl,rfl,rfl,by decide +kernel,rfl,by decide +kernel,by decide +kernel⟩
theorem ok_are_words {f:Addr}{fd:FuncData} (F:Fun K "are_words" "are_words" s_are_words f fd) (T:Bl mg) (AF:AdF K mg Ad) (C_are_letters:Fnc P w K mg base (CX1 P w) 1 "are_letters" ["thing","most"] sp_are_letters):FnOk P w K mg base (CX1 P w) 2 f fd ["thing","most"] sp_are_words:=by
 refine F.okX (k:=1) sc_are_words (fun vs H Q E h=>?_) (fun cdv A outer s H vs Q E hr h=>?_)
 ·obtain ⟨x,t,n,rfl,_⟩:=h
  rfl
 ·obtain ⟨x,t,n,rfl,ht,hz,hn,k⟩:=h
  have hu:=hr.units0
  have hu1:=hu_of hr
  refine ⟨_,pss_cons (ps_if (pt_not (pt_val (pe_callBG (call_isiC .str) T.isinstance bt_isinstance (pa_c (pvL 0) (pa_c (pe_tyG T.str bt_str) (pa_nil)))))) (pss_one (ps_ret (pe_bl))) (pss_nil)) (pss_cons (ps_setL (i:=2) sc_are_words.nd (pe_bmG (K:=K) rfl PySem.F.plainAttrs_str PySem.F.slot_str_split PySem.F.type_str_split mt_split (pvL 0) (pa_c (pe_str) (pa_nil)))) (pss_one (ps_ret (pe_and (pe_cmpR op_leX (pe_callBG (call_lenK (K:=K) rfl) T.len bt_len (pa_c (pvL 2) (pa_nil))) (pvL 1) (nomark _)) (pe_one (pe_callBG (call_allK (K:=K) rfl rfl) T.all bt_all (pa_c (pe_lc ["word"] rfl ⟨rfl,by decide +kernel,rfl,by decide +kernel⟩ (.nil) (by decide +kernel) (pi_seqK (K:=K) rfl (pvL 2)) (fun _ _ _ _=>pg_nameL (i:=0) (show (["word"]:List Str).Nodup from by decide +kernel)) (fun _ _ _ _=>pif_nil) (fun _ _ _ _=>pe_callG C_are_letters passE0 (hr.mono (by decide)) (pa_c (pvL 0) (pa_c (pe_globE AF.v_LONGEST_WORD) (pa_nil))))) (pa_nil)))))))),?_⟩
  by_cases hs:∃ z,x=.str z
  ·obtain ⟨z,rfl⟩:=hs
   cases ht
   have hl:=hz z rfl
   have hc:=len_cps z
   have ek:areWdsV n (.str z)=areWds n z.cps.toList:=rfl
   ac_nf
   refine ⟨trivial,Tg.str,rfl,?_⟩
   ac_nf
   obtain ⟨sl1,sl2⟩:=Mk.splitL_mem (c:=32) z.cps.toList
   refine ⟨rfl,by omega,32,rfl,fun p H1 hp s1 h1=>⟨_,.l h1,?_⟩⟩
   rw [List.length_map]
   by_cases h2:(Mk.splitL 32 z.cps.toList).length<=n
   ·rw [decide_eq_true (show ((Mk.splitL 32 z.cps.toList).length:Int)<=(n:Int) by omega)]
    bv_omega
    refine .inl ⟨⟨_,.of h1⟩,lc_M (fun w:List Nat=>V.str (tx w)) (fun a b e=>tx_inj (V.str.inj e)) (seq_list (.of h1)) (small_line (by omega)) (fun w=>.bl (areLet 20 w)) ?_ ?_⟩
    ·intro w hw H2 s2 R hR
     have hwl:=sl2 w hw
     ac_nf
     refine ⟨_,Tg.str,20,rfl,rfl,(fun y e=>by cases e;rw [tx_len];omega),by decide,fun H3 s3=>?_⟩
     have e:areLetV 20 (.str (tx w))=areLet 20 w:=by show areLet 20 (tx w).cps.toList=_;rw [tx_cps]
     rw [e]
     exact hR H3 s3
    ·intro D H2 hD s2 h2'
     refine ⟨D,(Mk.splitL 32 z.cps.toList).map (areLet 20),rfl,.of (by rw [h2',List.map_map];rfl),?_⟩
     have e:((Mk.splitL 32 z.cps.toList).map (areLet 20)).all id=areWdsV n (.str z):=by
      rw [ek]
      unfold areWds
      rw [decide_eq_true h2,List.all_map];rfl
     rw [e]
     exact k H2 (s1.trans s2)
   ·have e:areWdsV n (.str z)=false:=by rw [ek];unfold areWds;rw [decide_eq_false h2];rfl
    rw [e] at k
    rw [decide_eq_false (show ¬ ((Mk.splitL 32 z.cps.toList).length:Int)<=(n:Int) by omega)]
    bv_omega
    exact k H1 s1
  ·have hv:areWdsV n x=false:=by
    cases x with
    | str z=>exact absurd ⟨z,rfl⟩ hs
    | _=>rfl
   have hne:=sub_str ht fun z e=>hs ⟨z,e⟩
   rw [hv] at k
   ac_nf
   refine ⟨trivial,t,ht,?_⟩
   cases t <;> first
    | exact absurd rfl hne
    | exact k H (Same.refl _)
def sp_code_written:Sp:=fun vs H Q _=>∃ (p:Addr) (al:List Nat) (ws:List Int) (r:Int),vs=[.ref p]/\H p=some (.lst [.str (tx [99,111,100,101]),.str (tx al),.str (tx (Mk.joinL 44 (ws.map fun w=>Mk.dgN w.toNat))),.str (tx (Mk.dgN r.toNat))])/\(∀ w∈ws,0<=w/\w < 26)/\1<=ws.length/\ws.length<=8/\(0<=r/\r < 26)/\∀ t q H',Same H H'->H' t=some (.tup [.str (tx al),.ref q,.int r])->H' q=some (.lst (ws.map V.int))->Q (.ref t) H'
theorem sc_code_written:FnScope ["words","weights","rest"] ["words"] (defScope s_code_written):=⟨rfl,rfl,rfl,by decide +kernel,rfl,by decide +kernel,by decide +kernel⟩
theorem ok_code_written {f:Addr}{fd:FuncData} (F:Fun K "code_written" "code_written" s_code_written f fd) (T:Bl mg) (AF:AdF K mg Ad) (C_number_written:Fnc P w K mg base (CX1 P w) 1 "number_written" ["text"] sp_number_written):FnOk P w K mg base (CX1 P w) 2 f fd ["words"] sp_code_written:=by
 refine F.okX (k:=1) sc_code_written (fun vs H Q E h=>?_) (fun cdv A outer s H vs Q E hr h=>?_)
 ·obtain ⟨p,al,ws,r,rfl,_⟩:=h
  rfl
 ·obtain ⟨p,al,ws,r,rfl,hp,hws,w1,w8,hr0,k⟩:=h
  have hu:=hr.units0
  have hu1:=hu_of hr
  refine ⟨_,pss_cons (ps_if ((pw_or (pt_cmpR (op_neK (K:=K) rfl hu) (pe_callBG (call_lenK (K:=K) rfl) T.len bt_len (pa_c (pvL 0) (pa_nil))) (pe_int) (nomark _)) (pw_or1 (pt_cmpR (op_neK (K:=K) rfl hu) (pe_ix (ix_K (K:=K) rfl) (pvL 0) (pe_int) (fun _ _=>rfl)) (pe_str) (nomark _)))).pt) (pss_one (ps_ret (pe_non))) (pss_nil)) (pss_cons (ps_setLC (i:=1) ["part"] sc_code_written.nd rfl (Or.inl rfl) rfl ⟨rfl,by decide +kernel,rfl,by decide +kernel⟩ (.nil) (by decide +kernel) (pi_seqK (K:=K) rfl (pe_bmG (K:=K) rfl PySem.F.plainAttrs_str PySem.F.slot_str_split PySem.F.type_str_split mt_split (pe_ix (ix_K (K:=K) rfl) (pvL 0) (pe_int) (fun _ _=>rfl)) (pa_c (pe_str) (pa_nil)))) (fun _ _ _ _=>pg_nameL (i:=0) (show (["part"]:List Str).Nodup from by decide +kernel)) (fun _ _ _ _=>pif_nil) (fun _ _ _ _=>pe_callG C_number_written passE0 (hr.mono (by decide)) (pa_c (pvL 0) (pa_nil)))) (pss_cons (ps_setL (i:=2) sc_code_written.nd (pe_callG C_number_written pass_def (hr.mono (by decide)) (pa_c (pe_ix (ix_K (K:=K) rfl) (pvL 0) (pe_int) (fun _ _=>rfl)) (pa_nil)))) (pss_cons (ps_if ((pw_or (pt_cmpR (op_inK (K:=K) rfl hu1) (pe_non) (pvL 1) (by kernel_rfl)) (pw_or1 (pt_cmpR op_isX (pvL 2) (pe_non) (nomark _)))).pt) (pss_one (ps_ret (pe_non))) (pss_nil)) (pss_one (ps_ret (pe_tupX (pa_c (pe_ix (ix_K (K:=K) rfl) (pvL 0) (pe_int) (fun _ _=>rfl)) (pa_c (pvL 1) (pa_c (pvL 2) (pa_nil)))))))))),?_⟩
  have big:∀ {u:Nat},u<=1000->u<=sizeLine:=fun hu=>Nat.le_of_lt (small_line (by omega))
  refine seq_go fun nn hN=>?_
  and_intros
  refine ⟨_,.l hp,?_⟩
  rw [if_neg (by simp)]
  refine ⟨_,_,.l hp,atI_nat (j:=0) rfl,?_⟩
  and_intros
  rw [if_neg (by decide)]
  show nn _ _ _
  rw [hN]
  clear hN nn
  have hdl:∀ d∈ws.map (fun w=>Mk.dgN w.toNat),d.length<=2/\44 ∉ d:=fun d hd=>by
   obtain ⟨w,hw,rfl⟩:=List.mem_map.mp hd
   have:=hws w hw
   obtain ⟨d1,d2,d3,d4⟩:=Mk.dgN_small w.toNat (by omega)
   exact ⟨d2,fun h=>by have:=d3 _ h;omega⟩
  refine seq_go fun nn hN=>?_
  and_intros
  refine ⟨_,_,.l hp,atI_nat (j:=2) rfl,?_⟩
  and_intros
  have hjl:=wj_len hws w8
  refine ⟨rfl,by rw [tx_len];omega,44,rfl,fun p1 H1 hp1 s1 g1=>?_⟩
  rw [tx_cps,Mk.split_joinL _ (fun e=>by have:=congrArg List.length e;simp at this;rw [this] at w1;simp at w1) fun w hw=>(hdl w hw).2] at g1
  refine .inl ⟨⟨_,.of g1⟩,lc_M (fun d:List Nat=>V.str (tx d)) (fun a b e=>tx_inj (V.str.inj e)) (seq_list (.of g1)) (small_line (by rw [List.length_map];omega)) (fun d=>V.int (PySem.NumText.digitsVal d:Nat)) ?_ ?_⟩
  ·intro d hd H2 s2 R hR
   obtain ⟨w,hw,rfl⟩:=List.mem_map.mp hd
   have hw0:=hws w hw
   and_intros
   refine ⟨w.toNat,rfl,by omega,fun H3 s3=>?_⟩
   rw [show PySem.NumText.digitsVal (Mk.dgN w.toNat)=w.toNat from PySem.W.KIN.val_back _] at hR
   exact hR H3 s3
  intro q H2 hq s2 g2
  have eq2:(ws.map fun w=>Mk.dgN w.toNat).map (fun d=>V.int (PySem.NumText.digitsVal d:Nat))=ws.map V.int:=by
   rw [List.map_map]
   refine List.map_congr_left fun w hw=>?_
   show V.int ((PySem.NumText.digitsVal (Mk.dgN w.toNat):Nat):Int)=V.int w
   rw [show PySem.NumText.digitsVal (Mk.dgN w.toNat)=w.toNat from PySem.W.KIN.val_back _,Int.toNat_of_nonneg (hws w hw).1]
  rw [eq2] at g2
  have s02:=s1.trans s2
  rw [hN]
  clear hN nn
  refine seq_go fun nn hN=>?_
  and_intros
  refine ⟨_,_,.l (s02 _ _ hp),atI_nat (j:=3) rfl,?_⟩
  refine ⟨r.toNat,rfl,by omega,fun H3 s3=>?_⟩
  rw [Int.toNat_of_nonneg hr0.1,hN]
  clear hN nn
  have s03:=s02.trans s3
  refine seq_go fun nn hN=>?_
  and_intros
  refine .inl ⟨_,.l (s3 _ _ g2),rfl,?_,?_⟩
  ·exact List.all_eq_true.mpr fun v hv=>by obtain ⟨w,_,rfl⟩:=List.mem_map.mp hv;rfl
  rw [show inV V.non (ws.map V.int)=false from by clear hN hws w1 w8 hp k hdl hjl g1 g2 eq2;induction ws with | nil=>rfl | cons w r ih=>exact ih]
  bv_omega
  show nn _ _ _
  rw [hN]
  clear hN nn
  and_intros
  refine ⟨_,_,.l (s03 _ _ hp),atI_nat (j:=1) rfl,big (by decide),fun t H4 ht s4 g4=>?_⟩
  exact k t q H4 (s03.trans s4) g4 ((s3.trans s4) _ _ g2)
def sp_Book_least_free (Ad:Ads):Sp:=fun vs H Q _=>∃ (b ca dn de f:Addr) (es:List Ben) (al:List Nat) (ws:List Int) (r n:Int),vs=[.ref b,.ref f]/\BookAt Ad H b ca dn de es/\CodeAt Ad H ca al ws r/\CodeOk al ws r/\BarF lamQ Ad.tb H f/\LeastF (es.map (·.num)) n/\n < ManyI al ws/\∀ H',Same H H'->Q (.int n) H'
theorem sc_Book_least_free:FnScope ["self","is_barred","k"] ["self","is_barred"] (defScope s_Book_least_free):=⟨rfl,rfl,rfl,by decide +kernel,rfl,by decide +kernel,by decide +kernel⟩
theorem ok_Book_least_free {f:Addr}{fd:FuncData} (F:Fun K "least_free" "Book.least_free" s_Book_least_free f fd) (T:Bl mg) (AF:AdF K mg Ad) (M_Code_many:Mtd P w K mg base (CX1 P w) Ad.Code "many" 1 ["self"] (sp_Code_many Ad)):FnOk P w K mg base (CX1 P w) 2 f fd ["self","is_barred"] (sp_Book_least_free Ad):=by
 refine F.okX (k:=1) sc_Book_least_free (fun vs H Q E h=>?_) (fun cdv A outer s H vs Q E hr h=>?_)
 ·obtain ⟨b,ca,dn,de,f,es,al,ws,r,n,rfl,_⟩:=h
  rfl
 ·obtain ⟨b,ca,dn,de,f,es,al,ws,r,n,rfl,B,C,ok,Fb,Lf,hn,k⟩:=h
  obtain ⟨dx,h1⟩:=B.bk
  have hu:=hr.units0
  have hu1:=hu_of hr
  refine ⟨_,pss_cons (ps_setL (i:=2) sc_Book_least_free.nd (pe_int)) (pss_cons (ps_while PassesOwn.leaving ((pw_or (pt_cmpR (op_inK (K:=K) rfl hu1) (pvL 2) (pe_fldX (K:=K) rfl (pvL 0)) (by kernel_rfl)) (pw_or1 (pt_val (pe_callBar (q:=lamQ) (Pt:=Ad.tb) (pvL 1) hr (pa_c (pvL 2) (pa_nil)))))).pt) (pss_one (ps_setL (i:=2) sc_Book_least_free.nd (pe_op op_addX (pvL 2) (pe_int))))) (pss_cons (ps_if (pt_cmpR (op_geL (K:=K) rfl hu) (pvL 2) (pe_methX0 M_Code_many pass_def (hr.mono (by decide)) (pe_fldX (K:=K) rfl (pvL 0))) (nomark _)) (pss_one (ps_raise PySem.F.excBase_ValueError AF.q_TooMany AF.g_TooMany raise_def rfl (pa_c (pe_str) (pa_nil)))) (pss_nil)) (pss_one (ps_ret (pvL 2))))),?_⟩
  refine seq_go fun nn hN=>?_
  and_intros
  rw [hN]
  clear hN nn
  refine seq_go fun nn hN=>?_
  and_intros
  refine while_x (fun σ H'=>∃ k:Int,0<=k/\k<=n/\σ=[some (V.ref b),some (V.ref f),some (V.int k)]/\H'=H) (fun σ _=>match σ with | [_,_,some (V.int k)]=>(n - k).toNat | _=>0) ⟨0,by decide,Lf.1,rfl,rfl⟩ ?_
  rintro σ H' ⟨j,j0,jn,rfl,rfl⟩
  and_intros
  refine ⟨_,dx,_,_,h1,AF.c_Book,AF.n_Book_by_number,bookF_num ca dn de,?_⟩
  refine .inr ⟨_,.inl ⟨_,.inl j,.inl B.hn,rfl,rfl⟩,?_⟩
  rw [num_is B.nn]
  by_cases hm:j∈es.map (·.num)
  ·rw [decide_eq_true hm,if_pos rfl]
   have jl:j≠n:=fun e=>Lf.2.1 (by rw [← e];exact hm)
   refine ⟨fun σ G=>σ=[some (V.ref b),some (V.ref f),some (V.int (j + 1))]/\G=H',?_,rfl,rfl⟩
   rintro σ G ⟨rfl,rfl⟩
   exact ⟨⟨j + 1,by omega,by omega,rfl,rfl⟩,show (n - (j + 1)).toNat < (n - j).toNat by omega⟩
  ·rw [decide_eq_false hm,if_neg (by decide)]
   have je:j=n:=by
    rcases Int.lt_or_eq_of_le jn with h | h
    ·exact absurd (Lf.2.2 j j0 h) hm
    ·exact h
   subst je
   refine ⟨Fb,Fb,trivial,?_⟩
   rw [hN]
   clear hN nn
   obtain ⟨dc,qc,hc1,hc2⟩:=id C
   refine seq_go fun nn hN=>?_
   and_intros
   refine ⟨_,dx,_,_,h1,AF.c_Book,AF.n_Book_basis,bookF_basis ca dn de,?_⟩
   refine ⟨dc,_,hc1,codeF_none (by decide) (by decide) (by decide) al qc r,ca,al,ws,r,rfl,C,ok.a26,by have:=ok.w3;omega,ok.w8,fun G1 t1=>?_⟩
   and_intros
   rw [decide_eq_false (show ¬ (al.length:Int) ^ (ws.length - 1)<=j by have:j < (al.length:Int) ^ (ws.length - 1):=hn;omega)]
   bv_omega
   show nn _ _ _
   rw [hN]
   clear hN nn
   and_intros
   exact k G1 t1
def sp_code_row (Ad:Ads):Sp:=fun vs H Q _=>∃ (a:Addr) (al:List Nat) (ws:List Int) (r:Int),vs=[.ref a]/\CodeAt Ad H a al ws r/\CodeOk al ws r/\∀ H',Same H H'->Q (.str (tx (codeR al ws r))) H'
theorem sc_code_row:FnScope ["code","alphabet","weights","rest"] ["code"] (defScope s_code_row):=⟨rfl,rfl,rfl,by decide +kernel,rfl,by decide +kernel,by decide +kernel⟩
theorem ok_code_row {f:Addr}{fd:FuncData} (F:Fun K "code_row" "code_row" s_code_row f fd) (T:Bl mg) (AF:AdF K mg Ad) (M_Code_rest:Mtd P w K mg base (CX1 P w) Ad.Code "rest" 1 ["self"] (sp_Code_rest Ad)) (M_Code_weights:Mtd P w K mg base (CX1 P w) Ad.Code "weights" 1 ["self"] (sp_Code_weights Ad)) (M_Code_alphabet:Mtd P w K mg base (CX1 P w) Ad.Code "alphabet" 1 ["self"] (sp_Code_alphabet Ad)):FnOk P w K mg base (CX1 P w) 2 f fd ["code"] (sp_code_row Ad):=by
 refine F.okX (k:=1) sc_code_row (fun vs H Q E h=>?_) (fun cdv A outer s H vs Q E hr h=>?_)
 ·obtain ⟨a,al,ws,r,rfl,_⟩:=h
  rfl
 ·obtain ⟨a,al,ws,r,rfl,C,ok,k⟩:=h
  have hu:=hr.units0
  have hu1:=hu_of hr
  refine ⟨_,pss_cons (ps_setL (i:=1) sc_code_row.nd (pe_methX0 M_Code_alphabet pass_def (hr.mono (by decide)) (pvL 0))) (pss_cons (ps_setL (i:=2) sc_code_row.nd (pe_bmG (K:=K) rfl PySem.F.plainAttrs_str PySem.F.slot_str_join PySem.F.type_str_join (mt_joinK (K:=K) rfl) (pe_str) (pa_c (pe_lc ["weight"] rfl ⟨rfl,by decide +kernel,rfl,by decide +kernel⟩ (.nil) (by decide +kernel) (pi_seqK (K:=K) rfl (pe_methX0 M_Code_weights pass_def (hr.mono (by decide)) (pvL 0))) (fun _ _ _ _=>pg_nameL (i:=0) (show (["weight"]:List Str).Nodup from by decide +kernel)) (fun _ _ _ _=>pif_nil) (fun _ _ _ _=>pe_callTyG call_strI T.str bt_str (pa_c (pvL 0) (pa_nil)))) (pa_nil)))) (pss_cons (ps_setL (i:=3) sc_code_row.nd (pe_methX0 M_Code_rest pass_def (hr.mono (by decide)) (pvL 0))) (pss_one (ps_ret (pe_fN (pf_lit (pf_val (pvL 1) (pf_lit (pf_val (pvL 2) (pf_lit (pf_val (pvL 3) (pf_nil)))))))))))),?_⟩
  have a26:=ok.a26
  have w3:=ok.w3
  have w8:=ok.w8
  obtain ⟨dx,q,h1,h2⟩:=id C
  refine seq_go fun nn hN=>?_
  and_intros
  refine ⟨dx,_,h1,codeF_none (by decide) (by decide) (by decide) al q r,a,al,ws,r,rfl,C,?_⟩
  rw [hN]
  clear hN nn
  refine seq_go fun nn hN=>?_
  and_intros
  refine ⟨rfl,dx,_,h1,codeF_none (by decide) (by decide) (by decide) al q r,a,al,ws,r,rfl,C,fun p1 H1 hp1 s1 g1=>?_⟩
  and_intros
  have hdl:∀ w∈ws,0<=w/\w < 26/\(Mk.dgN w.toNat).length<=2:=fun w hw=>by
   have:=ok.wm w hw
   exact ⟨by omega,by omega,(Mk.dgN_small w.toNat (by omega)).2.1⟩
  refine .inl ⟨⟨_,.of g1⟩,lc_M V.int inj_int (seq_list (.of g1)) (small_line (by omega)) (fun w=>V.str (tx (Mk.dgN w.toNat))) ?_ ?_⟩
  ·intro w hw H2 s2 R hR
   have:=hdl w hw
   and_intros
   exact ⟨by omega,by omega,hR H2 (Same.refl _)⟩
  intro D H2 hD s2 g2
  have e44:Str.ofString ","=tx [44]:=rfl
  and_intros
  refine ⟨(ws.map fun w=>Mk.dgN w.toNat).map tx,.of (by rw [g2,List.map_map,List.map_map];rfl),?_,?_⟩
  ·rw [List.length_map,List.length_map,e44,tx_len]
   have h2:(((ws.map fun w=>Mk.dgN w.toNat).map tx).map (·.length)).sum<=2 * ws.length:=by
    clear hN g1 g2 w3 w8 C h2 h1 k ok
    induction ws with
    | nil=>simp
    | cons w r ih =>
     have h3:=ih fun x hx=>hdl x (List.mem_cons_of_mem _ hx)
     have h4:=(hdl w List.mem_cons_self).2.2
     simp only [List.map_cons,List.sum_cons,List.length_cons,tx_len] at h3 h4 ⊢
     omega
   show _ + ws.length * 1<=_
   omega
  rw [e44,txjoin_tx,hN]
  clear hN nn
  have s02:=s1.trans s2
  refine seq_go fun nn hN=>?_
  and_intros
  refine ⟨dx,_,s02 _ _ h1,codeF_none (by decide) (by decide) (by decide) al q r,a,al,ws,r,rfl,C.same s02,?_⟩
  rw [hN]
  clear hN nn
  and_intros
  have rm:=ok.rm
  have j24:=wj_len (fun w hw=>⟨(hdl w hw).1,(hdl w hw).2.1⟩) w8
  have dr:=(Mk.dgN_small r.toNat (by omega)).2.1
  rw [tx_cps,tx_cps,show (Str.ofString "code ").cps.toList=[99,111,100,101,32] from rfl,show (Str.ofString " ").cps.toList=[32] from rfl]
  have:=k H2 s02
  unfold codeR at this
  refine ⟨by decide,?_,?_,?_,?_,by omega,by omega,?_,this⟩ <;> simp only [List.length_append,List.length_cons,List.length_nil] <;> omega
theorem cop_gcd {m:Nat}{a:Int}:decide (((Nat.gcd a.natAbs m:Nat):Int)=1)=Mk.cop m a:=by
 unfold Mk.cop
 rw [decide_eq_decide]
 show ((Nat.gcd a.natAbs m:Nat):Int)=1 ↔ Nat.gcd a.natAbs m=1
 omega
theorem cop_sub {m a b:Int}:Mk.cop m (a - b)=Mk.cop m (b - a):=by
 unfold Mk.cop
 congr 1
 rw [show b - a=-(a - b) by omega]
 simp
def sp_law_weight:Sp:=fun vs H Q _=>∃ (p:Addr) (fnd:List Int) (m:Nat) (n:Int),vs=[.ref p,.int m,.int n]/\H p=some (.lst (fnd.map V.int))/\fnd.length<=8/\3<=m/\m<=26/\m % 2=1/\0<=n/\(∀ x∈fnd,0<=x/\x < (m:Int))/\Mk.safe m fnd=true ∧
 ∀ q (x n':Int) H',H q=none->Same H H'->H' q=some (.lst [.int x,.int n'])->0<=x/\x < (m:Int)->Mk.safe m (fnd++[x])=true->0<=n'->Q (.ref q) H'
theorem sc_law_weight:FnScope ["_law_weights","_law_m","_law_number","_law_some"] ["_law_weights","_law_m","_law_number"] (defScope s_law_weight):=⟨rfl,rfl,rfl,by decide +kernel,rfl,by decide +kernel,by decide +kernel⟩
theorem ok_law_weight {f:Addr}{fd:FuncData} (F:Fun K "_law_weight" "_law_weight" s_law_weight f fd) (T:Bl mg) (AF:AdF K mg Ad) (C_law_divisor:Fnc P w K mg base (CX1 P w) 1 "_law_divisor" ["_law_one","_law_other"] sp_law_divisor):FnOk P w K mg base (CX1 P w) 2 f fd ["_law_weights","_law_m","_law_number"] sp_law_weight:=by
 refine F.okX (k:=1) sc_law_weight (fun vs H Q E h=>?_) (fun cdv A outer s H vs Q E hr h=>?_)
 ·obtain ⟨p,fnd,m,n,rfl,_⟩:=h
  rfl
 ·obtain ⟨p,fnd,m,n,rfl,hp,f8,m3,m26,mo,hn,hb,hs,k⟩:=h
  have hu:=hr.units0
  have hu1:=hu_of hr
  refine ⟨_,pss_cons (ps_setLC (i:=3) ["_law_weight_here"] sc_law_weight.nd rfl (Or.inl rfl) rfl ⟨rfl,by decide +kernel,rfl,by decide +kernel⟩ (.cons (j:=1) rfl (.inl (by kernel_rfl)) (.nil)) (by decide +kernel) (pi_range2G T.range (pa_c (pe_int) (pa_c (pvC 1) (pa_nil)))) (fun _ _ _ _=>pg_nameL (i:=0) (show (["_law_weight_here","_law_m"]:List Str).Nodup from by decide +kernel)) (fun _ _ _ _=>pif_one (pt_cmpR (op_eqK (K:=K) rfl hu) (pe_callG C_law_divisor passE0 (hr.mono (by decide)) (pa_c (pvL 0) (pa_c (pvC 1) (pa_nil)))) (pe_int) (nomark _))) (fun _ _ _ _=>pvL 0)) (pss_cons (ps_if (pt_cmpR (op_neK (K:=K) rfl hu) (pvC 0) (pe_lstX (pa_nil)) (nomark _)) (pss_one (ps_setLC (i:=3) ["_law_weight_here"] sc_law_weight.nd rfl (Or.inl rfl) rfl ⟨rfl,by decide +kernel,rfl,by decide +kernel⟩ (.cons (j:=1) rfl (.inl (by kernel_rfl)) (.cons (j:=0) rfl (.inl (by kernel_rfl)) (.nil))) (by decide +kernel) (pi_seqK (K:=K) rfl (pvL 3)) (fun _ _ _ _=>pg_nameL (i:=0) (show (["_law_weight_here","_law_m","_law_weights"]:List Str).Nodup from by decide +kernel)) (fun _ _ _ _=>pif_one (pt_cmpR (op_eqK (K:=K) rfl hu) (pe_callG C_law_divisor passE0 (hr.mono (by decide)) (pa_c (pe_op op_subX (pe_ix (ix_K (K:=K) rfl) (pvC 2) (pe_un un_neg (pe_int)) (fun _ _=>rfl)) (pvL 0)) (pa_c (pvC 1) (pa_nil)))) (pe_int) (nomark _))) (fun _ _ _ _=>pvL 0))) (pss_nil)) (pss_one (ps_ret (pe_lstX (pa_c (pe_ix (ix_K (K:=K) rfl) (pvL 3) (pe_op op_modX (pvL 2) (pe_callBG (call_lenK (K:=K) rfl) T.len bt_len (pa_c (pvL 3) (pa_nil)))) (fun _ _=>rfl)) (pa_c (pe_op op_fdivX (pvL 2) (pe_callBG (call_lenK (K:=K) rfl) T.len bt_len (pa_c (pvL 3) (pa_nil)))) (pa_nil))))))),?_⟩
  have big:∀ {u:Nat},u<=1000->u<=sizeLine:=fun hu=>Nat.le_of_lt (small_line (by omega))
  have fin:∀ (D:Addr) (S:List Int) (H':Hp),Same H H'->H' D=some (.lst (S.map V.int))->S.length<=26->(∀ w,w∈S ↔ (0<=w/\w < (m:Int))/\Mk.cop m w=true/\(fnd=[] ∨ Mk.cop m (w - fnd.getLastD 0)=true))->∃ x∈S,S.length≠0/\∀ y∈S,(0<=y/\y < (m:Int))/\Mk.safe m (fnd++[y])=true:=by
   intro D S H' _ _ _ hm
   have hne:=Mk.cand_odd (m:=(m:Int)) (by omega) (by omega) (by omega) hb (Mk.safe_iff.mp hs).1
   obtain ⟨x,hx⟩:=List.exists_mem_of_ne_nil _ hne
   have hx':x∈S:=by
    unfold Mk.cand at hx
    obtain ⟨h1,h2⟩:=List.mem_filter.mp hx
    rw [Bool.and_eq_true,Bool.or_eq_true] at h2
    exact (hm x).mpr ⟨Mk.mem_ofN.mp h1,h2.1,h2.2.imp (fun e=>List.isEmpty_iff.mp e) id⟩
   refine ⟨x,hx',fun e=>?_,fun y hy=>?_⟩
   ·rw [List.length_eq_zero_iff.mp e] at hx';cases hx'
   ·obtain ⟨h1,h2,h3⟩:=(hm y).mp hy
    exact ⟨h1,Mk.safe_snoc hs h2 h3⟩
  refine seq_go fun nn hN=>?_
  and_intros
  refine ⟨⟨by decide,by decide,by omega,by omega⟩,lc_A (fun k:Nat=>V.int (1 + (k:Int))) (fun x y e=>by have:=V.int.inj e;omega) seq_range (by rw [List.length_range];exact small_line (by omega)) (fun k=>Mk.cop m (1 + (k:Int))) (fun k=>V.int (1 + (k:Int))) ?_ ?_ ?_⟩
  ·intro x hx H5 t5 R hR
   and_intros
   refine ⟨1 + (x:Int),m,rfl,?_⟩
   and_intros
   rw [cop_gcd]
   exact hR H5 (Same.refl _)
  ·intro x hx hpr H5 t5 R hR
   and_intros
   exact hR H5 (Same.refl _)
  intro D H1 hD s1 h1
  have h1':H1 D=some (.lst ((((List.range ((m:Int) - 1).toNat).filter fun (k:Nat)=>Mk.cop m (1 + (k:Int))).map fun (k:Nat)=>1 + (k:Int)).map V.int)):=by rw [h1,List.map_map];rfl
  have hm1:∀ w,w∈((List.range ((m:Int) - 1).toNat).filter fun (k:Nat)=>Mk.cop m (1 + (k:Int))).map (fun (k:Nat)=>1 + (k:Int)) ↔ (0<=w/\w < (m:Int))/\Mk.cop m w=true:=by
   intro w
   constructor
   ·intro h
    obtain ⟨k,hk,rfl⟩:=List.mem_map.mp h
    obtain ⟨h1,h2⟩:=List.mem_filter.mp hk
    have:=List.mem_range.mp h1
    exact ⟨by omega,h2⟩
   ·rintro ⟨h1,h2⟩
    have h0:w≠0:=fun e=>by
     subst e
     have h2':decide (Int.gcd 0 (m:Int)=1)=true:=h2
     rw [Int.zero_gcd] at h2'
     have:=of_decide_eq_true h2'
     omega
    have hw:1 + (((w - 1).toNat:Nat):Int)=w:=by omega
    exact List.mem_map.mpr ⟨(w - 1).toNat,List.mem_filter.mpr ⟨List.mem_range.mpr (by omega),by rw [hw];exact h2⟩,hw⟩
  have hl1:(((List.range ((m:Int) - 1).toNat).filter fun (k:Nat)=>Mk.cop m (1 + (k:Int))).map (fun (k:Nat)=>1 + (k:Int))).length<=26:=by
   rw [List.length_map]
   refine Nat.le_trans (List.length_filter_le _ _) ?_
   rw [List.length_range];omega
  clear h1
  generalize ((List.range ((m:Int) - 1).toNat).filter fun (k:Nat)=>Mk.cop m (1 + (k:Int))).map (fun (k:Nat)=>1 + (k:Int))=S at h1' hm1 hl1
  rw [hN]
  clear hN nn
  refine cut_seq (fun σ H'=>∃ (D:Addr) (S:List Int),σ=[some (V.ref p),some (V.int m),some (V.int n),some (V.ref D)]/\Same H H'/\H' D=some (.lst (S.map V.int))/\S.length<=26/\(∀ w,w∈S ↔ (0<=w/\w < (m:Int))/\Mk.cop m w=true/\(fnd=[] ∨ Mk.cop m (w - fnd.getLastD 0)=true))) ?_ ?_
  ·rintro σ H2 ⟨D2,S2,rfl,s2,h2,l2,m2⟩
   obtain ⟨x,hx,hne,hall⟩:=fin D2 S2 H2 s2 h2 l2 m2
   have i0:=Int.emod_nonneg n (b:=(S2.length:Int)) (by omega)
   have i1:=Int.emod_lt_of_pos n (b:=(S2.length:Int)) (by omega)
   have hat:S2[(n % (S2.length:Int)).toNat]?=some (S2[(n % (S2.length:Int)).toNat]'(by omega)):=List.getElem?_eq_getElem _
   generalize S2[(n % (S2.length:Int)).toNat]'(by omega)=y at hat
   obtain ⟨y1,y2⟩:=hall y (List.mem_of_getElem? hat)
   and_intros
   refine ⟨_,.inl (.of h2),?_⟩
   rw [List.length_map]
   refine ⟨by omega,_,_,.inl (.of h2),atI_of i0 (by rw [List.getElem?_map,hat];rfl),_,.inl (.of h2),?_⟩
   rw [List.length_map]
   refine ⟨⟨by omega,Int.lt_trans (show (S2.length:Int) < 1000 by omega) (by decide)⟩,big (by decide),fun q H3 hq s3 h3=>k q y _ H3 (s2.free hq) (s2.trans s3) h3 y1 y2 (Int.ediv_nonneg hn (by omega))⟩
  ·intro U hU
   and_intros
   refine ⟨Nat.zero_le _,fun p1 H2 hp1 s2 h2=>⟨_,_,.of ((s1.trans s2) _ _ hp),.of h2,flat_ints fnd,rfl,?_⟩⟩
   have s12:=s1.trans s2
   cases hf:fnd with
   | nil =>
    rw [if_neg (by rw [show eqVs (([]:List Int).map V.int) []=true from rfl];decide)]
    exact hU _ _ ⟨D,S,rfl,s12,s2 _ _ h1',hl1,fun w=>by rw [hm1 w];exact ⟨fun ⟨a,b⟩=>⟨a,b,.inl hf⟩,fun ⟨a,b,_⟩=>⟨a,b⟩⟩⟩
   | cons x y =>
    have hlast:(fnd.map V.int).getLast?=some (.int (fnd.getLastD 0)):=by
     rw [List.getLast?_map,List.getLastD_eq_getLast?,hf,List.getLast?_cons];rfl
    have hne:fnd≠[]:=by rw [hf];simp
    rw [if_pos (by simp [eqVs])]
    refine .inl ⟨⟨_,.of (s2 _ _ h1')⟩,lc_A V.int inj_int (seq_list (.of (s2 _ _ h1'))) (small_line (by omega)) (fun w=>Mk.cop m (w - fnd.getLastD 0)) V.int ?_ ?_ ?_⟩
    ·intro x hx H5 t5 R hR
     and_intros
     refine ⟨_,_,.inl (.of (t5 _ _ (s12 _ _ hp))),atI_lastP hlast,?_⟩
     and_intros
     refine ⟨fnd.getLastD 0 - x,m,rfl,?_⟩
     and_intros
     rw [cop_gcd,cop_sub]
     exact hR H5 (Same.refl _)
    ·intro x hx hpr H5 t5 R hR
     and_intros
     exact hR H5 (Same.refl _)
    intro D3 H3 hD3 s3 h3
    refine hU _ _ ⟨D3,_,rfl,s12.trans s3,h3,Nat.le_trans (List.length_filter_le _ _) hl1,fun w=>?_⟩
    rw [List.mem_filter,hm1 w]
    constructor
    ·rintro ⟨⟨a,b⟩,c⟩
     exact ⟨a,b,.inr c⟩
    ·rintro ⟨a,b,c⟩
     exact ⟨⟨a,b⟩,c.resolve_left hne⟩
def sp_law_some_words:Sp:=fun vs H Q _=>∃ (n:Int) (j:Nat),vs=[.int n,.int j]/\0<=n/\j<=6/\∀ p (ws:List (List Nat)) H',ws.length=j->(∀ w∈ws,1<=w.length/\w.length<=20/\∀ c∈w,97<=c/\c < 123)->H p=none->Same H H'->H' p=some (.lst (ws.map fun w=>.str (tx w)))->Q (.ref p) H'
theorem sc_law_some_words:FnScope ["_law_number","_law_many","_law_words","_law_k","_law_word_here"] ["_law_number","_law_many"] (defScope s_law_some_words):=⟨rfl,rfl,rfl,by decide +kernel,rfl,by decide +kernel,by decide +kernel⟩
theorem ok_law_some_words {f:Addr}{fd:FuncData} (F:Fun K "_law_some_words" "_law_some_words" s_law_some_words f fd) (T:Bl mg) (AF:AdF K mg Ad) (C_law_word:Fnc P w K mg base (CX1 P w) 1 "_law_word" ["_law_number"] sp_law_word):FnOk P w K mg base (CX1 P w) 2 f fd ["_law_number","_law_many"] sp_law_some_words:=by
 refine F.okX (k:=1) sc_law_some_words (fun vs H Q E h=>?_) (fun cdv A outer s H vs Q E hr h=>?_)
 ·obtain ⟨n,j,rfl,_⟩:=h
  rfl
 ·obtain ⟨n,j,rfl,hn,hj,k⟩:=h
  have hu:=hr.units0
  have hu1:=hu_of hr
  refine ⟨_,pss_cons (ps_setL (i:=2) sc_law_some_words.nd (pe_lstX (pa_nil))) (pss_cons (ps_for PassesOwn.leaving rfl (pi_range1G T.range (pa_c (pvL 1) (pa_nil))) (pg_nameL (i:=3) sc_law_some_words.nd) (pss_cons (ps_asg (pe_callG C_law_word pass_def (hr.mono (by decide)) (pa_c (pvL 0) (pa_nil))) (pg_unpK (K:=K) (n:=2) rfl rfl (pgs_cons (pg_nameL (i:=4) sc_law_some_words.nd) (pgs_cons (pg_nameL (i:=0) sc_law_some_words.nd) (pgs_nil))))) (pss_one (ps_expr (pe_bmG (K:=K) rfl PySem.F.plainAttrs_list PySem.F.slot_list_append PySem.F.type_list_append mt_append (pvL 2) (pa_c (pvL 4) (pa_nil))))))) (pss_one (ps_ret (pvL 2)))),?_⟩
  refine seq_go fun nn hN=>?_
  and_intros
  refine ⟨Nat.zero_le _,fun p H1 hp s1 h1=>?_⟩
  rw [hN]
  clear hN nn
  refine seq_go fun nn hN=>?_
  and_intros
  refine ⟨by omega,by omega,?_⟩
  refine for_rngO (n:=j) (fun i σ H'=>∃ (ws:List (List Nat)) (n':Int) (o3 o4:Option V),σ=[some (.int n'),some (.int (j:Int)),some (.ref p),o3,o4]/\0<=n'/\ws.length=i/\(∀ w∈ws,1<=w.length/\w.length<=20/\∀ c∈w,97<=c/\c < 123)/\(∀ b o,b≠p->H1 b=some o->H' b=some o)/\H' p=some (.lst (ws.map fun w=>.str (tx w)))) ?_ ?_ ?_
  ·exact ⟨[],n,none,none,rfl,hn,rfl,(fun _ h=>nomatch h),fun _ _ _ h=>h,h1⟩
  ·rintro i σ H2 hi ⟨ws,n',o3,o4,rfl,hn',hwl,hw,f1,f2⟩ N hNx
   clear hN
   and_intros
   rw [ap_seq]
   and_intros
   refine ⟨n',rfl,hn',fun q w n2 H3 w1 w2 w3 hn2 hq s3 h3=>?_⟩
   and_intros
   refine ⟨_,.l h3,rfl,?_⟩
   have f2':=s3 _ _ f2
   and_intros
   refine ⟨.inl ⟨rfl,_,.of f2'⟩,p,_,_,rfl,rfl,f2',?_,hNx _ _ ⟨ws++[w],n2,_,_,rfl,hn2,?_,?_,fun b o hb e=>?_,?_⟩⟩
   ·rw [List.length_map];exact small_line (by omega)
   ·rw [List.length_append,List.length_singleton];omega
   ·intro w' hw'
    rcases List.mem_append.mp hw' with hw' | hw'
    ·exact hw w' hw'
    ·rw [List.mem_singleton.mp hw'];exact ⟨w1,w2,w3⟩
   ·rw [upd_ne hb];exact s3 _ _ (f1 b o hb e)
   ·rw [upd_same,List.map_append];rfl
  ·rintro σ H2 ⟨ws,n',o3,o4,rfl,hn',hwl,hw,f1,f2⟩
   show nn _ _ _
   rw [hN]
   and_intros
   refine k p ws H2 hwl hw hp (fun b o e=>f1 b o (fun e2=>by rw [← e2,e] at hp;cases hp) (s1 b o e)) f2
def areWeightsV (H:Hp) (m:Int):V->Bool
 | .ref p=>match H p with
  | some (.lst xs)=>decide (3<=xs.length) && decide (xs.length<=8) && xs.all (isBelowV m)
  | _=>false
 | _=>false
def sp_are_weights:Sp:=fun vs H Q _=>∃ (x:V) (t:Tg) (m:Int),vs=[x,.int m]/\tagV H x=some t/\(∀ p o u,x=.ref p->H p≠some (.frz o u))/\(∀ p xs,x=.ref p->H p=some (.lst xs)->xs.length<=1000/\∀ y∈xs,∃ t,tagV H y=some t) ∧
 ∀ H',Same H H'->Q (.bl (areWeightsV H m x)) H'
theorem sc_are_weights:FnScope ["thing","m"] ["thing","m"] (defScope s_are_weights):=⟨rfl,rfl,rfl,by decide +kernel,rfl,by decide +kernel,by decide +kernel⟩
theorem ok_are_weights {f:Addr}{fd:FuncData} (F:Fun K "are_weights" "are_weights" s_are_weights f fd) (T:Bl mg) (AF:AdF K mg Ad) (C_is_below:Fnc P w K mg base (CX1 P w) 2 "is_below" ["thing","bound"] sp_is_below):FnOk P w K mg base (CX1 P w) 3 f fd ["thing","m"] sp_are_weights:=by
 refine F.okX (k:=2) sc_are_weights (fun vs H Q E h=>?_) (fun cdv A outer s H vs Q E hr h=>?_)
 ·obtain ⟨x,t,m,rfl,_⟩:=h
  rfl
 ·obtain ⟨x,t,m,rfl,ht,hfz,hit,k⟩:=h
  have hu:=hr.units0
  have hu1:=hu_of hr
  refine ⟨_,pss_cons (ps_if ((pw_or (pt_not (pt_val (pe_callBG (call_isiC .lst) T.isinstance bt_isinstance (pa_c (pvL 0) (pa_c (pe_tyG T.list bt_list) (pa_nil)))))) (pw_or1 (pt_not (pt_chain op_leX op_leX (pe_int) (pe_callBG (call_lenK (K:=K) rfl) T.len bt_len (pa_c (pvL 0) (pa_nil))) (pe_int))))).pt) (pss_one (ps_ret (pe_bl))) (pss_nil)) (pss_one (ps_ret (pe_callBG (call_allK (K:=K) rfl rfl) T.all bt_all (pa_c (pe_lc ["weight"] rfl ⟨rfl,by decide +kernel,rfl,by decide +kernel⟩ (.cons (j:=1) rfl (.inl (by kernel_rfl)) (.nil)) (by decide +kernel) (pi_seqK (K:=K) rfl (pvL 0)) (fun _ _ _ _=>pg_nameL (i:=0) (show (["weight","m"]:List Str).Nodup from by decide +kernel)) (fun _ _ _ _=>pif_nil) (fun _ _ _ _=>pe_callG C_is_below passE0 (hr.mono (by decide)) (pa_c (pvL 0) (pa_c (pvC 1) (pa_nil))))) (pa_nil))))),?_⟩
  by_cases hs:∃ p xs,x=.ref p/\H p=some (.lst xs)
  ·obtain ⟨p,xs,rfl,hp⟩:=hs
   obtain ⟨hl,hty⟩:=hit p xs rfl hp
   have et:t=Tg.lst:=by
    have:tagO (H p)=some t:=ht
    rw [hp] at this;cases this;rfl
   subst et
   have ek:areWeightsV H m (.ref p)=(decide (3<=xs.length) && decide (xs.length<=8) && xs.all (isBelowV m)):=by
    show (match H p with | some (.lst xs)=>_ | _=>false)=_
    rw [hp]
   rw [ek] at k
   ac_nf
   refine ⟨trivial,Tg.lst,ht,?_⟩
   ac_nf
   refine ⟨_,.l hp,?_⟩
   by_cases h3:3<=xs.length
   ·rw [decide_eq_true h3,Bool.true_and] at k
    rw [decide_eq_true (show (3:Int)<=(xs.length:Int) by omega)]
    bv_omega
    by_cases h8:xs.length<=8
    ·rw [decide_eq_true h8,Bool.true_and] at k
     rw [decide_eq_true (show (xs.length:Int)<=8 by omega)]
     bv_omega
     refine .inl ⟨⟨_,.of hp⟩,lc_map (xs:=xs) (seq_list (.of hp)) (small_line (by omega)) (fun y=>.bl (isBelowV m y)) ?_ ?_⟩
     ·intro y hy H2 s2 R hR
      obtain ⟨ty,hty⟩:=hty y hy
      have hty2:tagV H2 y=some ty:=tag_same s2 hty
      ac_nf
      refine ⟨y,ty,m,rfl,hty2,?_⟩
      exact hR H2 (Same.refl _)
     ·intro D H2 hD s2 h2
      refine ⟨D,xs.map (isBelowV m),rfl,.of (by rw [h2,List.map_map];rfl),?_⟩
      have e:(xs.map (isBelowV m)).all id=xs.all (isBelowV m):=by rw [List.all_map];rfl
      rw [e]
      exact k H2 s2
    ·rw [decide_eq_false h8,Bool.false_and] at k
     rw [decide_eq_false (show ¬ (xs.length:Int)<=8 by omega)]
     bv_omega
     exact k H (Same.refl _)
   ·rw [decide_eq_false h3,Bool.false_and,Bool.false_and] at k
    rw [decide_eq_false (show ¬ (3:Int)<=(xs.length:Int) by omega)]
    bv_omega
    exact k H (Same.refl _)
  ·have hv:areWeightsV H m x=false:=by
    cases x with
    | ref p =>
     show (match H p with | some (.lst xs)=>_ | _=>false)=_
     split
     ·rename_i xs hp;exact absurd ⟨p,xs,rfl,hp⟩ hs
     ·rfl
    | _=>rfl
   have hne:t≠Tg.lst:=fun e=>by
    subst e
    cases x with
    | ref a =>
     have h':tagO (H a)=some .lst:=ht
     cases e:H a with
     | none=>rw [e] at h';cases h'
     | some o=>rw [e] at h';cases o with
      | lst xs=>exact hs ⟨a,xs,rfl,e⟩
      | frz ob u=>exact hfz a ob u rfl e
      | _=>cases h'
    | _=>cases ht
   rw [hv] at k
   ac_nf
   refine ⟨trivial,t,ht,?_⟩
   cases t <;> first
    | exact absurd rfl hne
    | exact k H (Same.refl _)
def sp_Code_word (Ad:Ads):Sp:=fun vs H Q E=>∃ (a:Addr) (al:List Nat) (ws:List Int) (r:Int) (x:V) (t:Tg),vs=[.ref a,x]/\CodeAt Ad H a al ws r/\CodeOk al ws r/\tagV H x=some t ∧
 (isBelowV ((al.length:Int) ^ (ws.length - 1)) x=false->∀ H',Same H H'->E (.ref Ad.NoNumber) none H') ∧
 (∀ k,x=.int k->0<=k->k < (al.length:Int) ^ (ws.length - 1)->∀ H',Same H H'->Q (.str (tx (Mk.spell al (Mk.wordP al.length ws r k)))) H')
theorem sc_Code_word:FnScope ["self","k","m","left","ahead","weight","lasts"] ["self","k"] (defScope s_Code_word):=⟨rfl,rfl,rfl,by decide +kernel,rfl,by decide +kernel,by decide +kernel⟩
theorem ok_Code_word {f:Addr}{fd:FuncData} (F:Fun K "word" "Code.word" s_Code_word f fd) (T:Bl mg) (AF:AdF K mg Ad) (C_spelled:Fnc P w K mg base (CX1 P w) 1 "spelled" ["alphabet","places"] sp_spelled) (C_are_good:Fnc P w K mg base (CX1 P w) 1 "are_good" ["m","weights","rest","places"] sp_are_good) (C_is_below:Fnc P w K mg base (CX1 P w) 2 "is_below" ["thing","bound"] sp_is_below) (M_Code_many:Mtd P w K mg base (CX1 P w) Ad.Code "many" 1 ["self"] (sp_Code_many Ad)):FnOk P w K mg base (CX1 P w) 3 f fd ["self","k"] (sp_Code_word Ad):=by
 refine F.okX (k:=2) sc_Code_word (fun vs H Q E h=>?_) (fun cdv A outer s H vs Q E hr h=>?_)
 ·obtain ⟨a,al,ws,r,x,t,rfl,_⟩:=h
  rfl
 ·obtain ⟨a,al,ws,r,x,t,rfl,⟨dx,q,h1,h2⟩,ok,ht,kE,kQ⟩:=h
  have hu:=hr.units0
  have hu1:=hu_of hr
  refine ⟨_,pss_cons (ps_if (pt_not (pt_val (pe_callG C_is_below pass_def (hr.mono (by decide)) (pa_c (pvL 1) (pa_c (pe_methX0 M_Code_many pass_def (hr.mono (by decide)) (pvC 0)) (pa_nil)))))) (pss_one (ps_raise PySem.F.excBase_ValueError AF.q_NoNumber AF.g_NoNumber raise_def rfl (pa_c (pe_str) (pa_nil)))) (pss_nil)) (pss_cons (ps_setC (i:=2) sc_Code_word.nd (pe_callBG (call_lenK (K:=K) rfl) T.len bt_len (pa_c (pe_fldX (K:=K) rfl (pvC 0)) (pa_nil)))) (pss_cons (ps_setL (i:=3) sc_Code_word.nd (pvL 1)) (pss_cons (ps_setC (i:=4) sc_Code_word.nd (pe_lstX (pa_nil))) (pss_cons (ps_for PassesOwn.leaving rfl (pi_seqK (K:=K) rfl (pe_slice (sl_YK (K:=K) rfl) (pe_fldX (K:=K) rfl (pvC 0)) (po_some (pe_int)) (po_none))) (pg_nameL (i:=5) sc_Code_word.nd) (pss_cons (ps_expr (pe_bmG (K:=K) rfl PySem.F.plainAttrs_list PySem.F.slot_list_insert PySem.F.type_list_insert mt_insert (pvC 4) (pa_c (pe_int) (pa_c (pe_op op_modX (pvL 3) (pvC 2)) (pa_nil))))) (pss_one (ps_setL (i:=3) sc_Code_word.nd (pe_op op_fdivX (pvL 3) (pvC 2)))))) (pss_cons (ps_setLC (i:=6) ["last"] sc_Code_word.nd rfl (Or.inl rfl) rfl ⟨rfl,by decide +kernel,rfl,by decide +kernel⟩ (.cons (j:=2) rfl (.inl (by kernel_rfl)) (.cons (j:=0) rfl (.inl (by kernel_rfl)) (.cons (j:=4) rfl (.inl (by kernel_rfl)) (.nil)))) (by decide +kernel) (pi_range1G T.range (pa_c (pvC 2) (pa_nil))) (fun _ _ _ _=>pg_nameL (i:=0) (show (["last","m","self","ahead"]:List Str).Nodup from by decide +kernel)) (fun _ _ _ _=>pif_one (pt_val (pe_callG C_are_good passE0 (hr.mono (by decide)) (pa_c (pvC 1) (pa_c (pe_fldX (K:=K) rfl (pvC 2)) (pa_c (pe_fldX (K:=K) rfl (pvC 2)) (pa_c (pe_op op_addX (pvC 3) (pe_lstX (pa_c (pvL 0) (pa_nil)))) (pa_nil)))))))) (fun _ _ _ _=>pvL 0)) (pss_one (ps_ret (pe_callG C_spelled pass_def (hr.mono (by decide)) (pa_c (pe_fldX (K:=K) rfl (pvC 0)) (pa_c (pe_op op_addX (pvC 4) (pvL 6)) (pa_nil))))))))))),?_⟩
  have g3:=ok.a3
  have g26:=ok.a26
  have w3:=ok.w3
  have w8:=ok.w8
  rw [ap_seq]
  and_intros
  refine ⟨dx,_,h1,codeF_none (by decide) (by decide) (by decide) al q r,a,al,ws,r,rfl,⟨dx,q,h1,h2⟩,g26,by omega,w8,fun H1 s1=>?_⟩
  and_intros
  refine ⟨x,t,_,rfl,tag_same s1 ht,?_⟩
  cases hG:isBelowV ((al.length:Int) ^ (ws.length - 1)) x with
  | false =>
   bv_omega
   exact ⟨by decide,kE hG H1 s1⟩
  | true =>
   bv_omega
   obtain ⟨k,rfl⟩:∃ k,x=.int k:=by
    cases x with
    | int k=>exact ⟨k,rfl⟩
    | _=>cases hG
   have hG':(decide (0<=k) && decide (k < (al.length:Int) ^ (ws.length - 1)))=true:=hG
   rw [Bool.and_eq_true,decide_eq_true_eq,decide_eq_true_eq] at hG'
   have kQ':=kQ k rfl hG'.1 hG'.2
   have h11:=s1 _ _ h1
   have h21:=s1 _ _ h2
   rw [ap_seq]
   and_intros
   refine ⟨_,dx,_,_,h11,AF.c_Code,AF.n_Code_letters,codeF_letters al q r,?_⟩
   and_intros
   rw [tx_len]
   refine ⟨Nat.le_of_lt (small_line (by omega)),?_⟩
   and_intros
   rw [ap_seq]
   and_intros
   rw [ap_seq]
   and_intros
   refine ⟨Nat.zero_le _,fun p H2 hp s2 hp2=>?_⟩
   rw [ap_seq]
   and_intros
   refine ⟨_,dx,_,_,s2 _ _ h11,AF.c_Code,AF.n_Code_factors,codeF_factors al q r,?_⟩
   and_intros
   refine ⟨_,.of (s2 _ _ h21),fun q1 H3 hq1 s3 h3=>.inl ⟨⟨_,.of h3⟩,?_⟩⟩
   rw [show (1:Int)=((1:Nat):Int) from rfl,cutV_drop,← List.map_drop] at h3
   have hp3:=s3 _ _ hp2
   have hqp:q1≠p:=fun e=>by rw [e,hp2] at hq1;cases hq1
   have hap:a≠p:=fun e=>by rw [← e,h11] at hp;cases hp
   have hqq:q≠p:=fun e=>by rw [← e,h21] at hp;cases hp
   have h13:=s3 _ _ (s2 _ _ h11)
   have h23:=s3 _ _ (s2 _ _ h21)
   have m0:(0:Int) < al.length:=by omega
   refine for_lst (xs:=(ws.drop 1).map V.int) (fun i σ H'=>(∀ b o,b≠p->H3 b=some o->H' b=some o)/\H' p=some (.lst ((Mk.figs al.length i k).map V.int))/\∃ o,σ=[some (.ref a),some (.int k),some (.int al.length),some (.int (k / (al.length:Int) ^ i)),some (.ref p),o,none]) ?_ ?_ ?_ ?_
   ·exact ⟨fun _ _ _ h=>h,hp3,none,by rw [Int.pow_zero,Int.ediv_one]⟩
   ·rintro i σ H' _ ⟨f1,_⟩
    exact .of (f1 _ _ hqp h3)
   ·rintro i x σ H' hx ⟨f1,f2,o,rfl⟩
    have hi:i < ws.length - 1:=by
     have:=(List.getElem?_eq_some_iff.mp hx).1
     rw [List.length_map,List.length_drop] at this
     exact this
    ac_nf
    refine ⟨.inl ⟨rfl,_,.of f2⟩,m0,_,f2,Int.le_refl 0,by decide,?_,⟨m0,Int.lt_of_lt_of_le (show (al.length:Int) < 1000 by omega) (by decide)⟩,fun b o hb e=>?_,?_,some x,?_⟩
    ·rw [List.length_map,Mk.figs_len]
     exact small_line (by omega)
    ·rw [upd_ne hb]
     exact f1 b o hb e
    ·rw [upd_same,Mk.figs_cons m0]
     rfl
    ·rw [Int.ediv_ediv_of_nonneg (Int.pow_nonneg (Int.le_of_lt m0)),Int.pow_succ]
   ·rintro σ H' ⟨f1,f2,o,rfl⟩
    rw [List.length_map,List.length_drop] at f2
    have f13:=f1 _ _ hap h13
    have f23:=f1 _ _ hqq h23
    have fm:=Mk.figs_mem m0 (ws.length - 1) k
    have fl:=Mk.figs_len al.length (ws.length - 1) k
    obtain ⟨l1,l2,l3,-⟩:=Mk.lasts_one (r:=r) m0 (by omega) ok.wm (Mk.safe_iff.mp ok.safe).1 (show (Mk.figs al.length (ws.length - 1) k).length + 1=ws.length by omega)
    ac_nf
    refine ⟨by omega,by omega,?_⟩
    refine lc_A V.int inj_int (seq_ofN al.length) (by rw [Mk.ofN_len];exact small_line (by omega)) (fun x=>Mk.good al.length ws r (Mk.figs al.length (ws.length - 1) k++[x])) V.int ?_ ?_ ?_
    ·intro x hx H5 s5 R hR
     have hxm:=Mk.mem_ofN.mp hx
     ac_nf
     refine ⟨_,dx,_,_,s5 _ _ f13,AF.c_Code,AF.n_Code_factors,codeF_factors al q r,?_⟩
     refine ⟨_,dx,_,_,s5 _ _ f13,AF.c_Code,AF.n_Code_remainder,codeF_remainder al q r,?_⟩
     refine ⟨Nat.le_of_lt (small_line (by decide)),fun p1 H6 hp1 s6 h6=>?_⟩
     have f26:=s6 _ _ (s5 _ _ f2)
     refine ⟨_,_,f26,h6,by rw [List.length_map,fl];show ws.length - 1 + 1<=sizeLine;exact Nat.le_of_lt (small_line (by omega)),fun p2 H7 hp2 s7 h7=>?_⟩
     refine ⟨_,q,ws,r,p2,Mk.figs al.length (ws.length - 1) k++[x],rfl,m0,s7 _ _ (s6 _ _ (s5 _ _ f23)),by rw [h7,List.map_append];rfl,by omega,ok.sml,?_,fun H8 s8=>⟨_,rfl,hR H8 ((s6.trans s7).trans s8)⟩⟩
     intro y hy
     rcases List.mem_append.mp hy with hy | hy
     ·have:=fm y hy;omega
     ·rw [List.mem_singleton.mp hy];omega
    ·intro x hx _ H5 s5 R hR
     ac_nf
     exact hR H5 (Same.refl _)
    ·intro D H5 hD s5 h5
     have f15:=s5 _ _ f13
     have f25:=s5 _ _ f2
     have h5':H5 D=some (.lst ([Mk.lastP al.length ws r (Mk.figs al.length (ws.length - 1) k)].map V.int)):=by
      rw [h5,← l1]
      rfl
     ac_nf
     refine ⟨_,dx,_,_,f15,AF.c_Code,AF.n_Code_letters,codeF_letters al q r,_,_,f25,h5',by rw [List.length_map,fl];show ws.length - 1 + 1<=sizeLine;exact Nat.le_of_lt (small_line (by omega)),fun p1 H6 hp1 s6 h6=>?_⟩
     refine ⟨tx al,p1,Mk.wordP al.length ws r k,rfl,by rw [tx_len];omega,by rw [h6,← List.map_append];rfl,?_,?_,fun H7 s7=>?_⟩
     ·unfold Mk.wordP
      rw [List.length_append,fl]
      show ws.length - 1 + 1<=_
      omega
     ·rw [tx_cps]
      unfold Mk.wordP
      intro y hy
      rcases List.mem_append.mp hy with hy | hy
      ·exact fm y hy
      ·rw [List.mem_singleton.mp hy];exact ⟨l2,l3⟩
     ·rw [tx_cps]
      refine kQ' H7 fun b o e=>?_
      have hbp:b≠p:=fun e2=>by rw [← e2,s1 _ _ e] at hp;cases hp
      exact s7 _ _ (s6 _ _ (s5 _ _ (f1 b o hbp (s3 _ _ (s2 _ _ (s1 _ _ e))))))
def sp_Code_has_good (Ad:Ads):Sp:=fun vs H Q _=>∃ (a:Addr) (al:List Nat) (ws:List Int) (r:Int) (x:V) (t:Tg),vs=[.ref a,x]/\CodeAt Ad H a al ws r/\CodeOk al ws r/\tagV H x=some t/\(∀ z,x=.str z->z.length<=100000)/\∀ H',Same H H'->Q (.bl (isGoodV (tx al) ws r x)) H'
theorem sc_Code_has_good:FnScope ["self","thing"] ["self","thing"] (defScope s_Code_has_good):=⟨rfl,rfl,rfl,by decide +kernel,rfl,by decide +kernel,by decide +kernel⟩
theorem ok_Code_has_good {f:Addr}{fd:FuncData} (F:Fun K "has_good" "Code.has_good" s_Code_has_good f fd) (T:Bl mg) (AF:AdF K mg Ad) (C_is_good:Fnc P w K mg base (CX1 P w) 2 "is_good" ["alphabet","weights","rest","word"] sp_is_good):FnOk P w K mg base (CX1 P w) 3 f fd ["self","thing"] (sp_Code_has_good Ad):=by
 refine F.okX (k:=2) sc_Code_has_good (fun vs H Q E h=>?_) (fun cdv A outer s H vs Q E hr h=>?_)
 ·obtain ⟨a,al,ws,r,x,t,rfl,_⟩:=h
  rfl
 ·obtain ⟨a,al,ws,r,x,t,rfl,⟨dx,q,h1,h2⟩,ok,ht,hz,k⟩:=h
  have hu:=hr.units0
  have hu1:=hu_of hr
  refine ⟨_,pss_one (ps_ret (pe_callG C_is_good pass_def (hr.mono (by decide)) (pa_c (pe_fldX (K:=K) rfl (pvL 0)) (pa_c (pe_fldX (K:=K) rfl (pvL 0)) (pa_c (pe_fldX (K:=K) rfl (pvL 0)) (pa_c (pvL 1) (pa_nil))))))),?_⟩
  ac_nf
  refine ⟨_,dx,_,_,h1,AF.c_Code,AF.n_Code_letters,codeF_letters al q r,?_⟩
  refine ⟨_,dx,_,_,h1,AF.c_Code,AF.n_Code_factors,codeF_factors al q r,?_⟩
  refine ⟨_,dx,_,_,h1,AF.c_Code,AF.n_Code_remainder,codeF_remainder al q r,?_⟩
  have g3:=ok.a3
  have g26:=ok.a26
  have w8:=ok.w8
  refine ⟨tx al,q,ws,r,x,t,rfl,h2,by omega,by rw [tx_len];omega,by rw [tx_len];omega,ok.sml,ht,hz,k⟩
def sp_is_entry:Sp:=fun vs H Q _=>∃ (x:V) (t:Tg),vs=[x]/\tagV H x=some t/\(∀ p xs,x=.ref p->H p=some (.tup xs)->xs.length<=1000/\∀ y∈xs,(∃ t,tagV H y=some t)/\∀ z,y=.str z->z.length<=10000)/\∀ H',Same H H'->Q (.bl (isEntV H x)) H'
theorem sc_is_entry:FnScope ["thing"] ["thing"] (defScope s_is_entry):=⟨rfl,rfl,rfl,by decide +kernel,rfl,by decide +kernel,by decide +kernel⟩
theorem ok_is_entry {f:Addr}{fd:FuncData} (F:Fun K "is_entry" "is_entry" s_is_entry f fd) (T:Bl mg) (AF:AdF K mg Ad) (C_are_letters:Fnc P w K mg base (CX1 P w) 1 "are_letters" ["thing","most"] sp_are_letters) (C_are_words:Fnc P w K mg base (CX1 P w) 2 "are_words" ["thing","most"] sp_are_words):FnOk P w K mg base (CX1 P w) 3 f fd ["thing"] sp_is_entry:=by
 refine F.okX (k:=2) sc_is_entry (fun vs H Q E h=>?_) (fun cdv A outer s H vs Q E hr h=>?_)
 ·obtain ⟨x,t,rfl,_⟩:=h
  rfl
 ·obtain ⟨x,t,rfl,ht,hit,k⟩:=h
  have hu:=hr.units0
  have hu1:=hu_of hr
  refine ⟨_,pss_cons (ps_if ((pw_or (pt_not (pt_val (pe_callBG (call_isiC .tup) T.isinstance bt_isinstance (pa_c (pvL 0) (pa_c (pe_tyG T.tuple bt_tuple) (pa_nil)))))) (pw_or (pt_cmpR (op_eqK (K:=K) rfl hu) (pe_callBG (call_lenK (K:=K) rfl) T.len bt_len (pa_c (pvL 0) (pa_nil))) (pe_int) (nomark _)) (pw_or1 (pt_not (pt_val (pe_callBG (call_isiC .str) T.isinstance bt_isinstance (pa_c (pe_ix (ix_K (K:=K) rfl) (pvL 0) (pe_int) (fun _ _=>rfl)) (pa_c (pe_tyG T.str bt_str) (pa_nil))))))))).pt) (pss_one (ps_ret (pe_bl))) (pss_nil)) (pss_cons (ps_if (pt_cmpR (op_eqK (K:=K) rfl hu) (pe_callBG (call_lenK (K:=K) rfl) T.len bt_len (pa_c (pvL 0) (pa_nil))) (pe_int) (nomark _)) (pss_one (ps_ret (pe_cmpR (op_eqK (K:=K) rfl hu) (pe_ix (ix_K (K:=K) rfl) (pvL 0) (pe_int) (fun _ _=>rfl)) (pe_str) (nomark _)))) (pss_nil)) (pss_cons (ps_if (pt_cmpR (op_neK (K:=K) rfl hu) (pe_callBG (call_lenK (K:=K) rfl) T.len bt_len (pa_c (pvL 0) (pa_nil))) (pe_int) (nomark _)) (pss_one (ps_ret (pe_bl))) (pss_nil)) (pss_cons (ps_if (pt_cmpR (op_eqK (K:=K) rfl hu) (pe_ix (ix_K (K:=K) rfl) (pvL 0) (pe_int) (fun _ _=>rfl)) (pe_str) (nomark _)) (pss_one (ps_ret (pe_callG C_are_words pass_def (hr.mono (by decide)) (pa_c (pe_ix (ix_K (K:=K) rfl) (pvL 0) (pe_int) (fun _ _=>rfl)) (pa_c (pe_globE AF.v_MOST_PHRASE_WORDS) (pa_nil)))))) (pss_nil)) (pss_one (ps_ret (pe_and (pe_cmpR (op_eqK (K:=K) rfl hu) (pe_ix (ix_K (K:=K) rfl) (pvL 0) (pe_int) (fun _ _=>rfl)) (pe_str) (nomark _)) (pe_one (pe_callG C_are_letters pass_def (hr.mono (by decide)) (pa_c (pe_ix (ix_K (K:=K) rfl) (pvL 0) (pe_int) (fun _ _=>rfl)) (pa_c (pe_globE AF.v_MOST_PART_LETTERS) (pa_nil))))))))))),?_⟩
  by_cases hs:∃ p xs,x=.ref p/\H p=some (.tup xs)
  ·obtain ⟨p,xs,rfl,hp⟩:=hs
   obtain ⟨hl,hty⟩:=hit p xs rfl hp
   have et:t=Tg.tup:=by
    have:tagO (H p)=some t:=ht
    rw [hp] at this;cases this;rfl
   subst et
   have ek:isEntV H (.ref p)=isEntL xs:=by
    show (match H p with | some (.tup xs)=>isEntL xs | _=>false)=_
    rw [hp]
   rw [ek] at k
   have hT:Sq K H p xs:=.t hp
   rw [ap_seq]
   and_intros
   refine ⟨trivial,Tg.tup,ht,?_⟩
   and_intros
   refine ⟨_,hT,?_⟩
   match xs,hT,hty,hl,k with
   | [],hT,hty,hl,k =>
    and_intros
    exact k H (Same.refl _)
   | v::r,hT,hty,hl,k =>
    rw [decide_eq_false (show ¬ (((v::r).length:Nat):Int)=0 by rw [List.length_cons];omega)]
    bv_omega
    have a0:atI (v::r) 0=some v:=atI_nat (xs:=v::r) (j:=0) rfl
    refine ⟨_,v,hT,a0,?_⟩
    obtain ⟨⟨tv,htv⟩,hzv⟩:=hty v List.mem_cons_self
    by_cases hvs:∃ z,v=.str z
    ·obtain ⟨z,rfl⟩:=hvs
     refine ⟨Tg.str,rfl,?_⟩
     and_intros
     rw [ap_seq]
     and_intros
     refine ⟨_,hT,?_⟩
     match r,hT,hty,hl,k with
     | [],hT,hty,hl,k =>
      and_intros
      rw [if_pos (by rfl)]
      refine ⟨_,_,hT,atI_nat (xs:=[V.str z]) (j:=0) rfl,k H (Same.refl _)⟩
     | [y],hT,hty,hl,k =>
      rw [decide_eq_false (show ¬ ((([V.str z,y]:List V).length:Nat):Int)=1 by show ¬ (2:Int)=1;decide)]
      bv_omega
      obtain ⟨⟨ty,hty1⟩,hzy⟩:=hty y (List.mem_cons_of_mem _ List.mem_cons_self)
      have a0:atI [V.str z,y] 0=some (.str z):=atI_nat (xs:=[V.str z,y]) (j:=0) rfl
      have a1:atI [V.str z,y] 1=some y:=atI_nat (xs:=[V.str z,y]) (j:=1) rfl
      rw [ap_seq]
      and_intros
      refine ⟨_,hT,?_⟩
      rw [if_neg (show ¬ (!decide ((([V.str z,y].length:Nat):Int)=2))=true by rw [show [V.str z,y].length=2 from rfl];decide)]
      rw [ap_seq]
      and_intros
      refine ⟨_,_,hT,a0,?_⟩
      and_intros
      have ek2:isEntL [.str z,y]=if z=("phrase":Str) then areWdsV 6 y else if z=("part":Str) then areLetV 6 y else false:=rfl
      rw [ek2] at k
      by_cases e1:z=("phrase":Str)
      ·rw [if_pos e1] at k
       rw [decide_eq_true e1]
       bv_omega
       refine ⟨_,_,hT,a1,?_⟩
       exact ⟨y,ty,6,rfl,hty1,hzy,by decide,k⟩
      ·rw [if_neg e1] at k
       rw [decide_eq_false e1]
       bv_omega
       and_intros
       refine ⟨_,_,hT,a0,?_⟩
       and_intros
       by_cases e2:z=("part":Str)
       ·rw [if_pos e2] at k
        rw [decide_eq_true e2]
        bv_omega
        refine ⟨_,_,hT,a1,?_⟩
        exact ⟨y,ty,6,rfl,hty1,(fun w e=>by have:=hzy w e;omega),by decide,k⟩
       ·rw [if_neg e2] at k
        rw [decide_eq_false e2]
        bv_omega
        exact k H (Same.refl _)
     | y::y2::r,hT,hty,hl,k =>
      have hlen:(V.str z::y::y2::r).length=r.length + 3:=rfl
      rw [hlen,decide_eq_false (show ¬ (((r.length + 3:Nat)):Int)=1 by omega)]
      bv_omega
      rw [ap_seq]
      and_intros
      refine ⟨_,hT,?_⟩
      rw [hlen,decide_eq_false (show ¬ (((r.length + 3:Nat)):Int)=2 by omega)]
      bv_omega
      exact k H (Same.refl _)
    ·have hv:isEntL (v::r)=false:=by
      cases v with
      | str z=>exact absurd ⟨z,rfl⟩ hvs
      | _=>cases r with
       | nil=>rfl
       | cons y r=>cases r <;> rfl
     have hne:=sub_str htv fun z e=>hvs ⟨z,e⟩
     rw [hv] at k
     refine ⟨tv,htv,?_⟩
     cases tv <;> first
      | exact absurd rfl hne
      | exact k H (Same.refl _)
  ·have hv:isEntV H x=false:=by
    cases x with
    | ref p =>
     show (match H p with | some (.tup xs)=>isEntL xs | _=>false)=_
     split
     ·rename_i xs hp;exact absurd ⟨p,xs,rfl,hp⟩ hs
     ·rfl
    | _=>rfl
   have hne:t≠Tg.tup:=fun e=>by
    subst e
    cases x with
    | ref a =>
     have h':tagO (H a)=some .tup:=ht
     cases e:H a with
     | none=>rw [e] at h';cases h'
     | some o=>rw [e] at h';cases o with
      | tup xs=>exact hs ⟨a,xs,rfl,e⟩
      | frz ob u=>cases u <;> cases h'
      | _=>cases h'
    | _=>cases ht
   rw [hv] at k
   rw [ap_seq]
   and_intros
   refine ⟨trivial,t,ht,?_⟩
   cases t <;> first
    | exact absurd rfl hne
    | exact k H (Same.refl _)
theorem below_int {b k:Int} (h0:0<=k) (h1:k < b):isBelowV b (.int k)=true:=by
 show (decide (0<=k) && decide (k < b))=true
 rw [decide_eq_true h0,decide_eq_true h1];rfl
theorem below_inv {b:Int}{x:V} (h:isBelowV b x=true):∃ k,x=.int k/\0<=k/\k < b:=by
 cases x with
 | int k =>
  have h':(decide (0<=k) && decide (k < b))=true:=h
  rw [Bool.and_eq_true,decide_eq_true_eq,decide_eq_true_eq] at h'
  exact ⟨k,rfl,h'⟩
 | _=>cases h
def sp_Book_entry (Ad:Ads):Sp:=fun vs H Q _=>∃ (b ca dn de:Addr) (es:List Ben) (al:List Nat) (ws:List Int) (r:Int) (x:V) (t:Tg),vs=[.ref b,x]/\BookAt Ad H b ca dn de es/\CodeAt Ad H ca al ws r/\CodeOk al ws r/\tagV H x=some t ∧
 (isBelowV (ManyI al ws) x=false->∀ H',Same H H'->Q .non H')/\(∀ n,x=.int n->0<=n->n < ManyI al ws->n ∉ es.map (·.num)->∀ H',Same H H'->Q .non H')/\(∀ n,x=.int n->0<=n->n < ManyI al ws->∀ e∈es,e.num=n->∀ H',Same H H'->Q (.ref e.adr) H')
theorem sc_Book_entry:FnScope ["self","number"] ["self","number"] (defScope s_Book_entry):=⟨rfl,rfl,rfl,by decide +kernel,rfl,by decide +kernel,by decide +kernel⟩
theorem ok_Book_entry {f:Addr}{fd:FuncData} (F:Fun K "entry" "Book.entry" s_Book_entry f fd) (T:Bl mg) (AF:AdF K mg Ad) (C_is_below:Fnc P w K mg base (CX1 P w) 2 "is_below" ["thing","bound"] sp_is_below) (M_Code_many:Mtd P w K mg base (CX1 P w) Ad.Code "many" 1 ["self"] (sp_Code_many Ad)):FnOk P w K mg base (CX1 P w) 3 f fd ["self","number"] (sp_Book_entry Ad):=by
 refine F.okX (k:=2) sc_Book_entry (fun vs H Q E h=>?_) (fun cdv A outer s H vs Q E hr h=>?_)
 ·obtain ⟨b,ca,dn,de,es,al,ws,r,x,t,rfl,_⟩:=h
  rfl
 ·obtain ⟨b,ca,dn,de,es,al,ws,r,x,t,rfl,B,C,ok,ht,k1,k2,k3⟩:=h
  obtain ⟨dx,h1⟩:=B.bk
  have hu:=hr.units0
  have hu1:=hu_of hr
  refine ⟨_,pss_cons (ps_if (pt_not (pt_val (pe_callG C_is_below pass_def (hr.mono (by decide)) (pa_c (pvL 1) (pa_c (pe_methX0 M_Code_many pass_def (hr.mono (by decide)) (pe_fldX (K:=K) rfl (pvL 0))) (pa_nil)))))) (pss_one (ps_ret (pe_non))) (pss_nil)) (pss_one (ps_ret (pe_dget1G hu1 (pe_fldX (K:=K) rfl (pvL 0)) (pvL 1)))),?_⟩
  refine seq_go fun nn hN=>?_
  and_intros
  refine ⟨_,dx,_,_,h1,AF.c_Book,AF.n_Book_basis,bookF_basis ca dn de,?_⟩
  obtain ⟨dc,qc,hc1,hc2⟩:=id C
  refine ⟨dc,_,hc1,codeF_none (by decide) (by decide) (by decide) al qc r,ca,al,ws,r,rfl,C,ok.a26,by have:=ok.w3;omega,ok.w8,fun G1 t1=>?_⟩
  refine ⟨x,t,_,rfl,tag_same t1 ht,?_⟩
  cases hb:isBelowV ((al.length:Int) ^ (ws.length - 1)) x with
  | false =>
   and_intros
   exact k1 hb G1 t1
  | true =>
   and_intros
   rw [hN]
   clear hN nn
   obtain ⟨n,rfl,n0,n1⟩:=below_inv hb
   have B1:=B.same t1
   obtain ⟨dx1,h11⟩:=B1.bk
   and_intros
   refine ⟨_,dx1,_,_,h11,AF.c_Book,AF.n_Book_by_number,bookF_num ca dn de,dn,rfl,.inl ⟨_,.inl B1.hn⟩,_,.inl ⟨_,.inl n,.inl B1.hn,rfl,rfl⟩,?_⟩
   by_cases hm:n∈es.map (·.num)
   ·obtain ⟨e,he,ee⟩:=List.mem_map.mp hm
    rw [← ee,num_val B.nn he]
    exact k3 n rfl n0 n1 e he ee G1 t1
   ·rw [num_no hm]
    exact k2 n rfl n0 n1 hm G1 t1
def sp_law_entry:Sp:=fun vs H Q _=>∃ n:Int,vs=[.int n]/\0<=n/\∀ p H',H p=none->Same H H'->EntAt H' p->Q (.ref p) H'
theorem sc_law_entry:FnScope ["_law_number","_law_turn","_law_many"] ["_law_number"] (defScope s_law_entry):=⟨rfl,rfl,rfl,by decide +kernel,rfl,by decide +kernel,by decide +kernel⟩
theorem ok_law_entry {f:Addr}{fd:FuncData} (F:Fun K "_law_entry" "_law_entry" s_law_entry f fd) (T:Bl mg) (AF:AdF K mg Ad) (C_law_some_words:Fnc P w K mg base (CX1 P w) 2 "_law_some_words" ["_law_number","_law_many"] sp_law_some_words) (C_law_word:Fnc P w K mg base (CX1 P w) 1 "_law_word" ["_law_number"] sp_law_word):FnOk P w K mg base (CX1 P w) 3 f fd ["_law_number"] sp_law_entry:=by
 refine F.okX (k:=2) sc_law_entry (fun vs H Q E h=>?_) (fun cdv A outer s H vs Q E hr h=>?_)
 ·obtain ⟨n,rfl,_⟩:=h
  rfl
 ·obtain ⟨n,rfl,hn,k⟩:=h
  have hu:=hr.units0
  have hu1:=hu_of hr
  refine ⟨_,pss_cons (ps_setL (i:=1) sc_law_entry.nd (pe_op op_modX (pvL 0) (pe_int))) (pss_cons (ps_setL (i:=0) sc_law_entry.nd (pe_op op_fdivX (pvL 0) (pe_int))) (pss_cons (ps_if (pt_cmpR (op_eqK (K:=K) rfl hu) (pvL 1) (pe_int) (nomark _)) (pss_one (ps_ret (pe_tupX (pa_c (pe_str) (pa_nil))))) (pss_nil)) (pss_cons (ps_if (pt_cmpR op_gtX (pvL 1) (pe_int) (nomark _)) (pss_one (ps_ret (pe_tupX (pa_c (pe_str) (pa_c (pe_slice (sl_YK (K:=K) rfl) (pe_ix (ix_K (K:=K) rfl) (pe_callG C_law_word pass_def (hr.mono (by decide)) (pa_c (pvL 0) (pa_nil))) (pe_int) (fun _ _=>rfl)) (po_none) (po_some (pe_int))) (pa_nil)))))) (pss_nil)) (pss_cons (ps_setL (i:=2) sc_law_entry.nd (pe_op op_addX (pe_int) (pe_op op_modX (pvL 0) (pe_int)))) (pss_cons (ps_if (pt_cmpR op_gtX (pvL 1) (pe_int) (nomark _)) (pss_one (ps_setL (i:=2) sc_law_entry.nd (pe_op op_addX (pe_int) (pe_op op_modX (pvL 0) (pe_int))))) (pss_nil)) (pss_one (ps_ret (pe_tupX (pa_c (pe_str) (pa_c (pe_bmG (K:=K) rfl PySem.F.plainAttrs_str PySem.F.slot_str_join PySem.F.type_str_join (mt_joinK (K:=K) rfl) (pe_str) (pa_c (pe_callG C_law_some_words pass_def (hr.mono (by decide)) (pa_c (pe_op op_fdivX (pvL 0) (pe_int)) (pa_c (pvL 2) (pa_nil)))) (pa_nil))) (pa_nil))))))))))),?_⟩
  refine seq_go fun nn hN=>?_
  and_intros
  refine ⟨by decide,?_⟩
  rw [hN]
  clear hN nn
  refine seq_go fun nn hN=>?_
  and_intros
  refine ⟨⟨by decide,by decide⟩,?_⟩
  have ht0:0<=n % 9/\n % 9 < 9:=by omega
  have hm0:0<=n / 9:=by omega
  generalize n % 9=tn at ht0
  generalize n / 9=m at hm0
  rw [hN]
  clear hN nn
  refine seq_go fun nn hN=>?_
  and_intros
  by_cases e8:tn=8
  ·rw [decide_eq_true e8]
   bv_omega
   refine ⟨Nat.le_of_lt (small_line (by decide)),fun p H1 hp s1 h1=>k p H1 hp s1 ⟨[.inr ("end":Str)],h1,rfl,by decide,by decide,fun z hz=>?_⟩⟩
   rw [List.mem_singleton.mp hz]
   exact ⟨[101,110,100],rfl,by decide⟩
  rw [decide_eq_false e8]
  bv_omega
  rw [hN]
  clear hN nn
  refine seq_go fun nn hN=>?_
  and_intros
  by_cases e4:4 < tn
  ·rw [decide_eq_true e4]
   bv_omega
   refine ⟨m,rfl,hm0,fun q w n2 H1 w1 w2 w3 hn2 hq s1 h1=>?_⟩
   and_intros
   refine ⟨_,_,.l h1,rfl,?_⟩
   and_intros
   rw [tx_len,tx_cps,show (6:Int)=((6:Nat):Int) from rfl,cutN_take]
   have l6:(w.take 6).length=min 6 w.length:=List.length_take
   refine ⟨Nat.le_of_lt (small_line (by omega)),Nat.le_of_lt (small_line (by decide)),fun p H2 hp s2 h2=>k p H2 (by cases e:H p with | none=>rfl | some o=>rw [s1 _ _ e] at hp;cases hp) (s1.trans s2) ⟨[.inr ("part":Str),.inr (tx (w.take 6))],h2,isEnt_part (areLet_of (by omega) (by omega) fun c hc=>w3 c (List.mem_of_mem_take hc)),by simp,by simp,fun z hz=>?_⟩⟩
   rcases List.mem_cons.mp hz with rfl | hz
   ·exact ⟨[112,97,114,116],rfl,by decide⟩
   ·rw [List.mem_singleton.mp hz]
    exact ⟨_,rfl,by omega⟩
  rw [decide_eq_false e4]
  bv_omega
  rw [hN]
  clear hN nn
  refine seq_go fun nn hN=>?_
  and_intros
  refine ⟨by decide,?_⟩
  rw [hN]
  clear hN nn
  refine cut_seq (fun σ H'=>H'=H/\∃ j:Nat,1<=j/\j<=6/\σ=[some (.int m),some (.int tn),some (.int (j:Int))]) ?_ ?_
  ·rintro σ H' ⟨rfl,j,hj1,hj6,rfl⟩
   and_intros
   refine ⟨rfl,⟨by decide,by decide⟩,m / 6,j,rfl,by omega,hj6,fun q ws H1 hwl hw hq s1 h1=>?_⟩
   obtain ⟨jl1,jl2⟩:=join_len (n:=6) (ws:=ws) (by omega) fun w hx=>(hw w hx).2.1
   have ejs:(ws.map fun w=>V.str (tx w))=(ws.map tx).map V.str:=by rw [List.map_map];rfl
   refine ⟨ws.map tx,.of (by rw [h1,ejs]),?_,?_⟩
   ·rw [List.map_map,List.length_map]
    have:(ws.map ((fun z:Str=>z.length) ∘ tx)).sum<=(ws.map fun w=>w.length + 1).sum:=by
     have e:ws.map ((fun z:Str=>z.length) ∘ tx)=ws.map fun w=>w.length:=List.map_congr_left fun w _=>tx_len w
     rw [e]
     clear e jl1 jl2 ejs h1 hw hwl
     induction ws with
     | nil=>simp
     | cons w r ih=>simp only [List.map_cons,List.sum_cons];omega
    have e1:(Str.ofString " ").length=1:=rfl
    rw [e1]
    omega
   ·rw [show (Str.ofString " ")=tx [32] from rfl,txjoin_tx]
    refine ⟨Nat.le_of_lt (small_line (by decide)),fun p H2 hp s2 h2=>k p H2 (by cases e:H' p with | none=>rfl | some o=>rw [s1 _ _ e] at hp;cases hp) (s1.trans s2) ⟨[.inr ("phrase":Str),.inr (tx (Mk.joinL 32 ws))],h2,isEnt_phrase (areWds_of (by omega) (by omega) hw),by simp,by simp,fun z hz=>?_⟩⟩
    rcases List.mem_cons.mp hz with rfl | hz
    ·exact ⟨[112,104,114,97,115,101],rfl,by decide⟩
    ·rw [List.mem_singleton.mp hz]
     exact ⟨_,rfl,by omega⟩
  ·intro U hU
   and_intros
   by_cases e1:1 < tn
   ·rw [if_pos (decide_eq_true e1)]
    obtain ⟨j,hj⟩:=Int.eq_ofNat_of_zero_le (show 0<=1 + m % 2 by omega)
    refine ⟨by decide,hU _ _ ⟨rfl,j,by omega,by omega,by rw [hj]⟩⟩
   ·rw [if_neg (by simpa using e1)]
    obtain ⟨j,hj⟩:=Int.eq_ofNat_of_zero_le (show 0<=1 + m % 6 by omega)
    exact hU _ _ ⟨rfl,j,by omega,by omega,by rw [hj]⟩
theorem belows_of {b:Int}:∀ {xs:List V},xs.all (isBelowV b)=true->∃ ws:List Int,xs=ws.map V.int/\∀ x∈ws,0<=x/\x < b
 | [],_=>⟨[],rfl,fun _ h=>nomatch h⟩
 | y::ys,h=>by
  rw [List.all_cons,Bool.and_eq_true] at h
  obtain ⟨ws,e,hw⟩:=belows_of h.2
  cases y with
  | int i =>
   have h1:(decide (0<=i) && decide (i < b))=true:=h.1
   rw [Bool.and_eq_true,decide_eq_true_eq,decide_eq_true_eq] at h1
   refine ⟨i::ws,by rw [e];rfl,fun x hx=>?_⟩
   cases hx with
   | head=>exact h1
   | tail _ hx=>exact hw x hx
  | _=>cases h.1
theorem areW_of {H:Hp}{b:Int}{x:V} (h:areWeightsV H b x=true):∃ (p:Addr) (ws:List Int),x=.ref p/\H p=some (.lst (ws.map V.int))/\3<=ws.length/\ws.length<=8/\∀ y∈ws,0<=y/\y < b:=by
 cases x with
 | ref p =>
  have h1:(match H p with | some (.lst xs)=>decide (3<=xs.length) && decide (xs.length<=8) && xs.all (isBelowV b) | _=>false)=true:=h
  split at h1
  ·rename_i xs e
   simp only [Bool.and_eq_true,decide_eq_true_eq] at h1
   obtain ⟨ws,e1,hw⟩:=belows_of h1.2
   subst e1
   rw [List.length_map] at h1
   exact ⟨p,ws,rfl,e,h1.1.1,h1.1.2,hw⟩
  ·cases h1
 | _=>cases h
def sp_Code_init (Ad:Ads):Sp:=fun vs H Q E=>∃ (a dx:Addr) (xa xw xr:V) (ta tw tr:Tg),vs=[.ref a,xa,xw,xr]/\H a=some (.ins Ad.Code dx [])/\tagV H xa=some ta/\tagV H xw=some tw/\tagV H xr=some tr ∧
 (∀ z,xa=.str z->z.length<=4000)/\(∀ p o u,xw=.ref p->H p≠some (.frz o u))/\(∀ p xs,xw=.ref p->H p=some (.lst xs)->xs.length<=1000/\∀ y∈xs,∃ t,tagV H y=some t) ∧
 (codeBad H xa xw xr->∀ H',Same H H'->E (.ref Ad.NoCode) none H') ∧
 (∀ al p ws r,codeMade H xa xw xr al p ws r->∀ q H',H q=none->(∀ b o,b≠a->H b=some o->H' b=some o)->H' a=some (.ins Ad.Code dx (codeF al q r))->H' q=some (.lst (ws.map V.int))->Q .non H')
theorem init_made {Ad:Ads}{H:Hp}{ca cd qn:Addr}{al:List Nat}{ws:List Int}{r:Int}{Q:VK}{E:XK} (ha:H ca=some (.ins Ad.Code cd [])) (hq:H qn=some (.lst (ws.map V.int))) (ok:CodeOk al ws r)
  (k:∀ H',(∀ b o,b≠ca->H b=some o->H' b=some o)->CodeAt Ad H' ca al ws r->Q .non H'):sp_Code_init Ad [.ref ca,.str (tx al),.ref qn,.int r] H Q E:=by
 have g26:=ok.a26
 have w8:=ok.w8
 refine ⟨ca,cd,.str (tx al),.ref qn,.int r,Tg.str,Tg.lst,Tg.int,rfl,ha,rfl,?_,rfl,?_,?_,?_,?_,?_⟩
 ·show tagO (H qn)=_
  rw [hq];rfl
 ·intro z e
  cases e
  rw [tx_len];omega
 ·intro p o u e e2
  cases e
  rw [hq] at e2;cases e2
 ·intro p xs e e2
  cases e
  rw [hq] at e2
  cases e2
  refine ⟨by rw [List.length_map];omega,fun y hy=>?_⟩
  obtain ⟨x,_,rfl⟩:=List.mem_map.mp hy
  exact ⟨Tg.int,rfl⟩
 ·intro hb
  exact absurd ⟨rfl,rfl,hq,rfl,ok⟩ (hb al qn ws r)
 ·intro al' p ws' r' hm q H' hq' hs h1 h2
  obtain ⟨e1,e2,e3,e4,_⟩:=hm
  have ea:al=al':=by injection e1 with e1;exact tx_inj e1
  have er:r=r':=by injection e4
  have ep:qn=p:=by injection e2
  subst ea er ep
  rw [hq] at e3
  have e6:ws.map V.int=ws'.map V.int:=by injection e3 with e3;injection e3
  have ew:ws=ws':=(List.map_inj_right (fun x y h=>by injection h)).mp e6
  subst ew
  exact k H' hs ⟨cd,q,h1,h2⟩
theorem sc_Code_init:FnScope ["self","alphabet","weights","rest","m"] ["self","alphabet","weights","rest"] (defScope s_Code_init):=⟨rfl,rfl,rfl,by decide +kernel,rfl,by decide +kernel,by decide +kernel⟩
theorem ok_Code_init {f:Addr}{fd:FuncData} (F:Fun K "__init__" "Code.__init__" s_Code_init f fd) (T:Bl mg) (AF:AdF K mg Ad) (C_are_safe:Fnc P w K mg base (CX1 P w) 2 "are_safe" ["weights","m"] sp_are_safe) (C_is_below:Fnc P w K mg base (CX1 P w) 2 "is_below" ["thing","bound"] sp_is_below) (C_are_weights:Fnc P w K mg base (CX1 P w) 3 "are_weights" ["thing","m"] sp_are_weights) (C_is_alphabet:Fnc P w K mg base (CX1 P w) 1 "is_alphabet" ["thing"] sp_is_alphabet):FnOk P w K mg base (CX1 P w) 4 f fd ["self","alphabet","weights","rest"] (sp_Code_init Ad):=by
 refine F.okX (k:=3) sc_Code_init (fun vs H Q E h=>?_) (fun cdv A outer s H vs Q E hr h=>?_)
 ·obtain ⟨a,dx,xa,xw,xr,ta,tw,tr,rfl,_⟩:=h
  rfl
 ·obtain ⟨a,dx,xa,xw,xr,ta,tw,tr,rfl,ha,hta,htw,htr,hza,hfz,hit,kE,kQ⟩:=h
  have hu:=hr.units0
  have hu1:=hu_of hr
  refine ⟨_,pss_cons (ps_if (pt_not (pt_val (pe_callG C_is_alphabet pass_def (hr.mono (by decide)) (pa_c (pvL 1) (pa_nil))))) (pss_one (ps_raise PySem.F.excBase_ValueError AF.q_NoCode AF.g_NoCode raise_def rfl (pa_c (pe_str) (pa_nil)))) (pss_nil)) (pss_cons (ps_setL (i:=4) sc_Code_init.nd (pe_callBG (call_lenK (K:=K) rfl) T.len bt_len (pa_c (pvL 1) (pa_nil)))) (pss_cons (ps_if (pt_not (pt_val (pe_callG C_are_weights pass_def (hr.mono (by decide)) (pa_c (pvL 2) (pa_c (pvL 4) (pa_nil)))))) (pss_one (ps_raise PySem.F.excBase_ValueError AF.q_NoCode AF.g_NoCode raise_def rfl (pa_c (pe_str) (pa_nil)))) (pss_nil)) (pss_cons (ps_if (pt_not (pt_val (pe_callG C_is_below pass_def (hr.mono (by decide)) (pa_c (pvL 3) (pa_c (pvL 4) (pa_nil)))))) (pss_one (ps_raise PySem.F.excBase_ValueError AF.q_NoCode AF.g_NoCode raise_def rfl (pa_c (pe_str) (pa_nil)))) (pss_nil)) (pss_cons (ps_if (pt_not (pt_val (pe_callG C_are_safe pass_def (hr.mono (by decide)) (pa_c (pvL 2) (pa_c (pvL 4) (pa_nil)))))) (pss_one (ps_raise PySem.F.excBase_ValueError AF.q_NoCode AF.g_NoCode raise_def rfl (pa_c (pe_str) (pa_nil)))) (pss_nil)) (pss_cons (ps_fldX (K:=K) rfl (pvL 0) (pvL 1)) (pss_cons (ps_fldX (K:=K) rfl (pvL 0) (pe_callTyG (call_listK (K:=K) rfl rfl) T.list bt_list (pa_c (pvL 2) (pa_nil)))) (pss_one (ps_fldX (K:=K) rfl (pvL 0) (pvL 3))))))))),?_⟩
  rw [ap_seq]
  and_intros
  refine ⟨xa,ta,rfl,hta,hza,fun H1 s1=>?_⟩
  and_intros
  cases hA:isAlphaV xa with
  | false =>
   bv_omega
   refine ⟨by decide,kE (fun al p ws r ⟨e1,_,_,_,e5⟩=>?_) H1 s1⟩
   have:isAlphaV xa=true:=by
    rw [e1]
    show isAlphaL (tx al).cps.toList=true
    rw [tx_cps]
    unfold isAlphaL
    rw [decide_eq_true e5.a3,decide_eq_true e5.a26,decide_eq_true e5.nd,List.all_eq_true.mpr fun c hc=>decide_eq_true (e5.abc c hc)];rfl
   rw [hA] at this;cases this
  | true =>
   bv_omega
   obtain ⟨z,rfl⟩:∃ z,xa=.str z:=by
    cases xa with
    | str z=>exact ⟨z,rfl⟩
    | _=>cases hA
   have hA':isAlphaL z.cps.toList=true:=hA
   have hz:=len_cps z
   unfold isAlphaL at hA'
   simp only [Bool.and_eq_true,decide_eq_true_eq,List.all_eq_true] at hA'
   obtain ⟨⟨⟨g3,g26⟩,gnd⟩,gabc⟩:=hA'
   rw [ap_seq]
   and_intros
   refine ⟨Nat.le_of_lt (small_line (by omega)),?_⟩
   and_intros
   rw [ap_seq]
   and_intros
   refine ⟨xw,tw,_,rfl,tag_same s1 htw,fun p o u e e2=>?_,fun p xs e e2=>?_,fun H2 s2=>?_⟩
   ·subst e
    have:tagO (H p)=some tw:=htw
    cases e3:H p with
    | none=>rw [e3] at this;cases this
    | some ob =>
     have e4:=s1 p ob e3
     rw [e2] at e4
     cases e4
     exact hfz p o u rfl e3
   ·subst e
    have:tagO (H p)=some tw:=htw
    cases e3:H p with
    | none=>rw [e3] at this;cases this
    | some ob =>
     have e4:=s1 p ob e3
     rw [e2] at e4
     cases e4
     obtain ⟨i1,i2⟩:=hit p xs rfl e3
     exact ⟨i1,fun y hy=>by obtain ⟨ty,hty⟩:=i2 y hy;exact ⟨ty,tag_same s1 hty⟩⟩
   and_intros
   have eW:areWeightsV H1 (z.length:Int) xw=areWeightsV H (z.length:Int) xw:=by
    cases xw with
    | ref p =>
     have:tagO (H p)=some tw:=htw
     cases e3:H p with
     | none=>rw [e3] at this;cases this
     | some ob =>
      show (match H1 p with | some (.lst xs)=>_ | _=>false)=(match H p with | some (.lst xs)=>_ | _=>false)
      rw [s1 p ob e3,e3]
    | _=>rfl
   rw [eW]
   cases hW:areWeightsV H (z.length:Int) xw with
   | false =>
    bv_omega
    refine ⟨by decide,kE (fun al p ws r ⟨e1,e2,e3,_,e5⟩=>?_) H2 (s1.trans s2)⟩
    have hal:z=tx al:=by cases e1;rfl
    have:areWeightsV H (z.length:Int) xw=true:=by
     rw [e2,hal,tx_len]
     show (match H p with | some (.lst xs)=>decide (3<=xs.length) && decide (xs.length<=8) && xs.all (isBelowV (al.length:Int)) | _=>false)=true
     rw [e3]
     simp only [List.length_map]
     rw [decide_eq_true e5.w3,decide_eq_true e5.w8,List.all_map,List.all_eq_true.mpr];rfl
     intro x hx
     have:=e5.wm x hx
     show (decide (0<=x) && decide (x < (al.length:Int)))=true
     rw [decide_eq_true this.1,decide_eq_true this.2];rfl
    rw [hW] at this;cases this
   | true =>
    bv_omega
    rw [ap_seq]
    and_intros
    refine ⟨xr,tr,_,rfl,tag_same (s1.trans s2) htr,?_⟩
    and_intros
    cases hB:isBelowV (z.length:Int) xr with
    | false =>
     bv_omega
     refine ⟨by decide,kE (fun al p ws r ⟨e1,e2,e3,e4,e5⟩=>?_) H2 (s1.trans s2)⟩
     have hal:z=tx al:=by cases e1;rfl
     have:isBelowV (z.length:Int) xr=true:=by
      rw [e4,hal,tx_len]
      show (decide (0<=r) && decide (r < (al.length:Int)))=true
      rw [decide_eq_true e5.rm.1,decide_eq_true e5.rm.2];rfl
     rw [hB] at this;cases this
    | true =>
     bv_omega
     obtain ⟨r,rfl⟩:∃ r,xr=.int r:=by
      cases xr with
      | int r=>exact ⟨r,rfl⟩
      | _=>cases hB
     have hB':(decide (0<=r) && decide (r < (z.length:Int)))=true:=hB
     rw [Bool.and_eq_true,decide_eq_true_eq,decide_eq_true_eq] at hB'
     obtain ⟨p,ws,rfl,hp,w3,w8,wm⟩:=areW_of hW
     have hp2:H2 p=some (.lst (ws.map V.int)):=s2 _ _ (s1 _ _ hp)
     rw [ap_seq]
     and_intros
     refine ⟨p,ws,_,rfl,hp2,by omega,fun H3 s3=>?_⟩
     and_intros
     have s03:Same H H3:=(s1.trans s2).trans s3
     have el:(z.length:Int)=(z.cps.toList.length:Int):=by rw [hz]
     cases hS:Mk.safe (z.length:Int) ws with
     | false =>
      bv_omega
      refine ⟨by decide,kE (fun al p' ws' r' ⟨e1,e2,e3,e4,e5⟩=>?_) H3 s03⟩
      have hal:z=tx al:=by cases e1;rfl
      have hpp:p'=p:=by cases e2;rfl
      subst hpp
      have hww:ws'=ws:=by
       rw [hp] at e3
       have e6:ws.map V.int=ws'.map V.int:=by injection e3 with e3;injection e3
       exact (List.map_inj_right (fun x y h=>by injection h)).mp e6.symm
      subst hww
      have:=e5.safe
      rw [hal,tx_len] at hS
      rw [hS] at this;cases this
     | true =>
      bv_omega
      have ha3:=s03 _ _ ha
      have hp3:H3 p=some (.lst (ws.map V.int)):=s03 _ _ hp
      have hne:p≠a:=fun e=>by rw [e,ha] at hp;cases hp
      have hM:codeMade H (.str z) (.ref p) (.int r) z.cps.toList p ws r:=⟨by rw [tx_of],rfl,hp,rfl,⟨g3,g26,gnd,gabc,w3,w8,by rw [← el];exact wm,by rw [← el];exact hS,by rw [← el];exact hB'⟩⟩
      ac_nf
      refine ⟨_,_,_,ha3,AF.c_Code,AF.n_Code_letters,by decide,ws.map V.int,.inl (.inl (.of (by rw [upd_ne hne];exact hp3))),fun q H4 hq s4 h4=>?_⟩
      have ha4:=s4 a _ upd_same
      refine ⟨_,_,_,ha4,AF.c_Code,AF.n_Code_factors,Nat.lt_of_le_of_lt (Nat.le_refl 1) (by decide),_,_,_,upd_same,AF.c_Code,AF.n_Code_remainder,Nat.lt_of_le_of_lt (Nat.le_refl 2) (by decide),?_⟩
      have hqa:q≠a:=fun e=>by rw [e,upd_same] at hq;cases hq
      rw [upd_ne hqa] at hq
      have hq0:H q=none:=by
       cases e:H q with
       | none=>rfl
       | some o=>rw [s03 q o e] at hq;cases hq
      refine kQ z.cps.toList p ws r hM q _ hq0 (fun b o hb e=>?_) ?_ ?_
      ·rw [upd_ne hb,upd_ne hb]
       exact s4 b o (by rw [upd_ne hb];exact s03 b o e)
      ·rw [upd_same]
       unfold codeF
       rw [tx_of]
       rfl
      ·rw [upd_ne hqa,upd_ne hqa];exact h4
def sp_Code_number (Ad:Ads):Sp:=fun vs H Q E=>∃ (a:Addr) (al:List Nat) (ws:List Int) (r:Int) (x:V) (t:Tg),vs=[.ref a,x]/\CodeAt Ad H a al ws r/\CodeOk al ws r/\tagV H x=some t/\(∀ z,x=.str z->z.length<=100000) ∧
 (isGoodV (tx al) ws r x=false->∀ H',Same H H'->E (.ref Ad.NoWord) none H') ∧
 (∀ z,x=.str z->Mk.isGoodL al ws r z.cps.toList=true->∀ H',Same H H'->Q (.int (Mk.numOf al.length (Mk.plc al z.cps.toList.dropLast))) H')
theorem sc_Code_number:FnScope ["self","word","k","place"] ["self","word"] (defScope s_Code_number):=⟨rfl,rfl,rfl,by decide +kernel,rfl,by decide +kernel,by decide +kernel⟩
theorem ok_Code_number {f:Addr}{fd:FuncData} (F:Fun K "number" "Code.number" s_Code_number f fd) (T:Bl mg) (AF:AdF K mg Ad) (C_places_of:Fnc P w K mg base (CX1 P w) 1 "places_of" ["alphabet","word"] sp_places_of) (M_Code_has_good:Mtd P w K mg base (CX1 P w) Ad.Code "has_good" 3 ["self","thing"] (sp_Code_has_good Ad)):FnOk P w K mg base (CX1 P w) 4 f fd ["self","word"] (sp_Code_number Ad):=by
 refine F.okX (k:=3) sc_Code_number (fun vs H Q E h=>?_) (fun cdv A outer s H vs Q E hr h=>?_)
 ·obtain ⟨a,al,ws,r,x,t,rfl,_⟩:=h
  rfl
 ·obtain ⟨a,al,ws,r,x,t,rfl,⟨dx,q,h1,h2⟩,ok,ht,hz,kE,kQ⟩:=h
  have hu:=hr.units0
  have hu1:=hu_of hr
  refine ⟨_,pss_cons (ps_if (pt_not (pt_val (pe_methX M_Code_has_good pass_def (hr.mono (by decide)) (pvL 0) (pa_c (pvL 1) (pa_nil))))) (pss_one (ps_raise PySem.F.excBase_ValueError AF.q_NoWord AF.g_NoWord raise_def rfl (pa_c (pe_str) (pa_nil)))) (pss_nil)) (pss_cons (ps_setL (i:=2) sc_Code_number.nd (pe_int)) (pss_cons (ps_for PassesOwn.leaving rfl (pi_seqK (K:=K) rfl (pe_callG C_places_of pass_def (hr.mono (by decide)) (pa_c (pe_fldX (K:=K) rfl (pvL 0)) (pa_c (pe_slice (sl_YK (K:=K) rfl) (pvL 1) (po_none) (po_some (pe_un un_neg (pe_int)))) (pa_nil))))) (pg_nameL (i:=3) sc_Code_number.nd) (pss_one (ps_setL (i:=2) sc_Code_number.nd (pe_op op_addX (pe_op op_mulX (pvL 2) (pe_callBG (call_lenK (K:=K) rfl) T.len bt_len (pa_c (pe_fldX (K:=K) rfl (pvL 0)) (pa_nil)))) (pvL 3))))) (pss_one (ps_ret (pvL 2))))),?_⟩
  have g3:=ok.a3
  have g26:=ok.a26
  have w8:=ok.w8
  rw [ap_seq]
  and_intros
  refine ⟨dx,_,h1,codeF_none (by decide) (by decide) (by decide) al q r,a,al,ws,r,x,t,rfl,⟨dx,q,h1,h2⟩,ok,ht,hz,fun H1 s1=>?_⟩
  and_intros
  cases hG:isGoodV (tx al) ws r x with
  | false =>
   bv_omega
   exact ⟨by decide,kE hG H1 s1⟩
  | true =>
   bv_omega
   obtain ⟨z,rfl⟩:∃ z,x=.str z:=by
    cases x with
    | str z=>exact ⟨z,rfl⟩
    | _=>cases hG
   have hG':Mk.isGoodL al ws r z.cps.toList=true:=by
    have:Mk.isGoodL (tx al).cps.toList ws r z.cps.toList=true:=hG
    rw [tx_cps] at this
    exact this
   and_intros
   rw [ap_seq]
   and_intros
   rw [ap_seq]
   and_intros
   refine ⟨_,dx,_,_,s1 _ _ h1,AF.c_Code,AF.n_Code_letters,codeF_letters al q r,?_⟩
   and_intros
   have e0:cutN z.cps.toList none (some (-1))=z.cps.toList.dropLast:=cutN_last _
   rw [e0]
   have hzl:=hz z rfl
   have hzc:=len_cps z
   unfold Mk.isGoodL Mk.isWordL at hG'
   simp only [Bool.and_eq_true,decide_eq_true_eq,List.all_eq_true] at hG'
   obtain ⟨⟨hl,hm⟩,-⟩:=hG'
   have hd:z.cps.toList.dropLast.length<=z.cps.toList.length:=by rw [List.length_dropLast];omega
   have hdm:∀ c∈z.cps.toList.dropLast,c∈al:=fun c hc=>hm c (List.dropLast_subset _ hc)
   refine ⟨Nat.le_of_lt (small_line (by omega)),tx al,tx z.cps.toList.dropLast,rfl,by rw [tx_len];omega,by rw [tx_cps,tx_cps];exact hdm,fun p H2 hp s2 h3=>.inl ⟨⟨_,.of h3⟩,?_⟩⟩
   rw [tx_cps,tx_cps] at h3
   have hpm:=Mk.plc_mem hdm
   have hpl:(Mk.plc al z.cps.toList.dropLast).length<=8:=by rw [Mk.plc_len];omega
   have kQ':=kQ z rfl (by
    have:Mk.isGoodL (tx al).cps.toList ws r z.cps.toList=true:=hG
    rw [tx_cps] at this
    exact this)
   generalize Mk.plc al z.cps.toList.dropLast=ps at h3 hpm hpl kQ'
   refine for_lst (xs:=ps.map V.int) (fun i σ H'=>H'=H2/\∃ o,σ=[some (.ref a),some (.str z),some (.int (Mk.numOf al.length (ps.take i))),o]) ?_ ?_ ?_ ?_
   ·exact ⟨rfl,none,rfl⟩
   ·rintro i σ H' _ ⟨rfl,_⟩
    exact .of h3
   ·rintro i x σ H' hx ⟨rfl,o,rfl⟩
    rw [List.getElem?_map] at hx
    obtain ⟨x,hy,rfl⟩:=Option.map_eq_some_iff.mp hx
    have hi:=(List.getElem?_eq_some_iff.mp hy).1
    have hb:=Mk.numOf_bounds (m:=al.length) (by omega) (ps.take i) fun p hp=>hpm p (List.mem_of_mem_take hp)
    have hxm:=hpm x (List.mem_of_getElem? hy)
    ac_nf
    refine ⟨_,dx,_,_,s2 _ _ (s1 _ _ h1),AF.c_Code,AF.n_Code_letters,codeF_letters al q r,?_⟩
    ac_nf
    rw [tx_len]
    refine ⟨Nat.le_of_lt (small_line (by omega)),⟨?_,Nat.lt_of_lt_of_le (show ((al.length:Int)).natAbs < 1000 by omega) (by decide)⟩,?_⟩
    ·refine Nat.lt_of_lt_of_le (show (Mk.numOf (al.length:Int) (ps.take i)).natAbs < 26 ^ 8 from ?_) (by decide)
     have e1:((al.length:Int)) ^ (ps.take i).length<=((26 ^ 8:Nat):Int):=by
      rw [← Int.natCast_pow]
      exact Int.ofNat_le.mpr (Nat.le_trans (Nat.pow_le_pow_left g26 _) (Nat.pow_le_pow_right (by decide) (by rw [List.length_take];omega)))
     omega
    ·refine ⟨trivial,some (.int x),?_⟩
     have e:ps.take (i + 1)=ps.take i++[x]:=by rw [List.take_add_one,hy];rfl
     rw [e,Mk.numOf_snoc]
   ·rintro σ H' ⟨rfl,o,rfl⟩
    rw [List.length_map,List.take_length]
    ac_nf
    exact kQ' _ (s1.trans s2)
def sp_Book_choose (Ad:Ads):Sp:=fun vs H Q _=>∃ (b ca dn de f t:Addr) (es:List Ben) (al:List Nat) (ws:List Int) (r n:Int) (key:List Key) (y:V),vs=[.ref b,.ref t,y,.ref f]/\BookAt Ad H b ca dn de es/\CodeAt Ad H ca al ws r/\CodeOk al ws r/\BarF lamQ Ad.tb H f/\H t=some (.tup (key.map kV))/\EnOk key/\key ∉ es.map (·.key)/\es.length < 300 ∧
 0<=n/\n < ManyI al ws/\n ∉ es.map (·.num)/\(y=.int n ∨ (y=.non/\LeastF (es.map (·.num)) n))/\∀ H',Same H H'->Q (.int n) H'
theorem sc_Book_choose:FnScope ["self","entry","number","is_barred"] ["self","entry","number","is_barred"] (defScope s_Book_choose):=⟨rfl,rfl,rfl,by decide +kernel,rfl,by decide +kernel,by decide +kernel⟩
theorem ok_Book_choose {f:Addr}{fd:FuncData} (F:Fun K "choose" "Book.choose" s_Book_choose f fd) (T:Bl mg) (AF:AdF K mg Ad) (C_is_below:Fnc P w K mg base (CX1 P w) 2 "is_below" ["thing","bound"] sp_is_below) (C_is_entry:Fnc P w K mg base (CX1 P w) 3 "is_entry" ["thing"] sp_is_entry) (M_Book_least_free:Mtd P w K mg base (CX1 P w) Ad.Book "least_free" 2 ["self","is_barred"] (sp_Book_least_free Ad)) (M_Code_many:Mtd P w K mg base (CX1 P w) Ad.Code "many" 1 ["self"] (sp_Code_many Ad)):FnOk P w K mg base (CX1 P w) 4 f fd ["self","entry","number","is_barred"] (sp_Book_choose Ad):=by
 refine F.okX (k:=3) sc_Book_choose (fun vs H Q E h=>?_) (fun cdv A outer s H vs Q E hr h=>?_)
 ·obtain ⟨b,ca,dn,de,f,t,es,al,ws,r,n,key,y,rfl,_⟩:=h
  rfl
 ·obtain ⟨b,ca,dn,de,f,t,es,al,ws,r,n,key,y,rfl,B,C,ok,Fb,ht,eo,hk,h300,n0,n1,hnn,hy,k⟩:=h
  obtain ⟨dx,h1⟩:=B.bk
  have hu:=hr.units0
  have hu1:=hu_of hr
  refine ⟨_,pss_cons (ps_if (pt_not (pt_val (pe_callG C_is_entry pass_def (hr.mono (by decide)) (pa_c (pvL 1) (pa_nil))))) (pss_one (ps_raise PySem.F.excBase_ValueError AF.q_NoEntry AF.g_NoEntry raise_def rfl (pa_c (pe_str) (pa_nil)))) (pss_nil)) (pss_cons (ps_if (pt_cmpR (op_inK (K:=K) rfl hu1) (pvL 1) (pe_fldX (K:=K) rfl (pvL 0)) (by kernel_rfl)) (pss_one (ps_raise PySem.F.excBase_ValueError AF.q_Twice AF.g_Twice raise_def rfl (pa_c (pe_str) (pa_nil)))) (pss_nil)) (pss_cons (ps_if (pt_cmpR op_isnotX (pvL 2) (pe_non) (nomark _)) (pss_cons (ps_if (pt_not (pt_val (pe_callG C_is_below pass_def (hr.mono (by decide)) (pa_c (pvL 2) (pa_c (pe_methX0 M_Code_many pass_def (hr.mono (by decide)) (pe_fldX (K:=K) rfl (pvL 0))) (pa_nil)))))) (pss_one (ps_raise PySem.F.excBase_ValueError AF.q_NoNumber AF.g_NoNumber raise_def rfl (pa_c (pe_str) (pa_nil)))) (pss_nil)) (pss_one (ps_if ((pw_or (pt_cmpR (op_inK (K:=K) rfl hu1) (pvL 2) (pe_fldX (K:=K) rfl (pvL 0)) (by kernel_rfl)) (pw_or1 (pt_val (pe_callBar (q:=lamQ) (Pt:=Ad.tb) (pvL 3) hr (pa_c (pvL 2) (pa_nil)))))).pt) (pss_one (ps_raise PySem.F.excBase_ValueError AF.q_NoNumber AF.g_NoNumber raise_def rfl (pa_c (pe_str) (pa_nil)))) (pss_nil)))) (pss_nil)) (pss_cons (ps_if (pt_cmpR (op_geL (K:=K) rfl hu) (pe_callBG call_lenD T.len bt_len (pa_c (pe_fldX (K:=K) rfl (pvL 0)) (pa_nil))) (pe_globE AF.v_MOST_ENTRIES) (nomark _)) (pss_one (ps_raise PySem.F.excBase_ValueError AF.q_TooMany AF.g_TooMany raise_def rfl (pa_c (pe_str) (pa_nil)))) (pss_nil)) (pss_one (ps_ret (pe_ifExp (pt_cmpR op_isX (pvL 2) (pe_non) (nomark _)) (pe_methX M_Book_least_free pass_def (hr.mono (by decide)) (pvL 0) (pa_c (pvL 3) (pa_nil))) (pvL 2))))))),?_⟩
  refine seq_go fun nn hN=>?_
  and_intros
  refine ⟨_,.tup,rfl,(show tagO (H t)=_ by rw [ht];rfl),(fun p xs ep hp=>?_),fun G1 t1=>?_⟩
  ·cases ep
   rw [ht] at hp
   cases hp
   refine ⟨by rw [List.length_map];have:=eo.few;omega,fun v hv=>?_⟩
   obtain ⟨z,hz,rfl⟩:=List.mem_map.mp hv
   exact ⟨kV_tag H z,fun s es=>eo.short s (by rw [← es];exact hv)⟩
  rw [entV_of ht eo]
  and_intros
  rw [hN]
  clear hN nn
  have B1:=B.same t1
  obtain ⟨dx1,h11⟩:=B1.bk
  refine seq_go fun nn hN=>?_
  and_intros
  refine ⟨_,dx1,_,_,h11,AF.c_Book,AF.n_Book_by_entry,bookF_ent ca dn de,?_⟩
  refine .inr ⟨_,.inr ⟨_,key,t,.inl B1.he,rfl,t1 _ _ ht,rfl⟩,?_⟩
  rw [ent_no hk]
  bv_omega
  show nn _ _ _
  rw [hN]
  clear hN nn
  have rest:∀ (G2:Hp),Same H G2->(tSeq
       (tIfS
        (tTest
         (tOp (rGeL K) (tCB rLenD (tCons (tFldX K (tVar 0) (Str.ofString "by_number")) tNil)) (tC (V.int 300))))
        (sRaise Ad.TooMany (fun x=>E) (tCons (tC (V.str (Str.ofString "a book has at most 300 entries"))) tNil))
        tNext)
       (tRet
        (tIf (tTest (tOp (rIsX false) (tVar 2) (tC V.non)))
         (tMethX Ad.Book (Str.ofString "least_free") (sp_Book_least_free Ad) (fun x=>E) (tVar 0)
          (tCons (tVar 3) tNil))
         (tVar 2)))) { nx:=fun x H'=>Q V.non H',rt:=Q } [some (V.ref b),some (V.ref t),some y,some (V.ref f)] G2:=by
   intro G2 t2
   have B2:=B.same t2
   obtain ⟨dx2,h12⟩:=B2.bk
   refine seq_go fun nn hN=>?_
   and_intros
   refine ⟨_,dx2,_,_,h12,AF.c_Book,AF.n_Book_by_number,bookF_num ca dn de,?_⟩
   and_intros
   refine ⟨_,.inl B2.hn,?_⟩
   rw [numD_len,decide_eq_false (show ¬ (300:Int)<=(es.length:Int) by omega)]
   bv_omega
   show nn _ _ _
   rw [hN]
   clear hN nn
   rcases hy with rfl | ⟨rfl,Lf⟩
   ·and_intros
    exact k G2 t2
   ·and_intros
    exact ⟨dx2,_,h12,bookF_none (by decide) (by decide) (by decide) ca dn de,b,ca,dn,de,f,es,al,ws,r,n,rfl,B2,C.same t2,ok,Fb.same t2,Lf,n1,fun G3 t3=>k G3 (t2.trans t3)⟩
  refine seq_go fun nn hN=>?_
  and_intros
  rcases id hy with rfl | ⟨rfl,Lf⟩
  ·and_intros
   have C1:=C.same t1
   obtain ⟨dc,qc,hc1,hc2⟩:=id C1
   refine seq_go fun n2 hM=>?_
   and_intros
   refine ⟨_,dx1,_,_,h11,AF.c_Book,AF.n_Book_basis,bookF_basis ca dn de,?_⟩
   refine ⟨dc,_,hc1,codeF_none (by decide) (by decide) (by decide) al qc r,ca,al,ws,r,rfl,C1,ok.a26,by have:=ok.w3;omega,ok.w8,fun G2 t2=>?_⟩
   refine ⟨_,.int,_,rfl,rfl,?_⟩
   rw [below_int (b:=(al.length:Int) ^ (ws.length - 1)) n0 n1]
   and_intros
   rw [hM]
   clear hM n2
   have t02:=t1.trans t2
   have B2:=B.same t02
   obtain ⟨dx2,h12⟩:=B2.bk
   and_intros
   refine ⟨_,dx2,_,_,h12,AF.c_Book,AF.n_Book_by_number,bookF_num ca dn de,?_⟩
   refine .inr ⟨_,.inl ⟨_,.inl n,.inl B2.hn,rfl,rfl⟩,?_⟩
   rw [num_no hnn]
   bv_omega
   refine ⟨Fb.same t02,Fb.same t02,?_⟩
   show nn _ _ _
   rw [hN]
   exact rest G2 t02
  ·and_intros
   show nn _ _ _
   rw [hN]
   exact rest G1 t1
theorem ent_keys {xs:List V} (h:isEntL xs=true):∃ key:List Key,xs=key.map kV:=by
 cases xs with
 | nil=>cases h
 | cons a r =>
  cases a with
  | str z =>
   cases r with
   | nil=>exact ⟨[.inr z],rfl⟩
   | cons y r2 =>
    cases r2 with
    | cons _ _=>cases h
    | nil =>
     have h':(if z=("phrase":Str) then areWdsV 6 y else if z=("part":Str) then areLetV 6 y else false)=true:=h
     cases y with
     | str y=>exact ⟨[.inr z,.inr y],rfl⟩
     | _ =>
      exfalso
      split at h'
      ·cases h'
      ·split at h'
       ·cases h'
       ·cases h'
  | _=>cases h
def sp_Book_number (Ad:Ads):Sp:=fun vs H Q _=>∃ (b ca dn de:Addr) (es:List Ben) (x:V) (t:Tg),vs=[.ref b,x]/\BookAt Ad H b ca dn de es/\tagV H x=some t/\(∀ p xs,x=.ref p->H p=some (.tup xs)->xs.length<=1000/\∀ y∈xs,(∃ t,tagV H y=some t)/\∀ z,y=.str z->z.length<=10000) ∧
 (isEntV H x=false->∀ H',Same H H'->Q .non H') ∧
 (∀ p key,x=.ref p->H p=some (.tup (key.map kV))->isEntL (key.map kV)=true->(∀ e∈es,e.key=key->∀ H',Same H H'->Q (.int e.num) H')/\(key ∉ es.map (·.key)->∀ H',Same H H'->Q .non H'))
theorem sc_Book_number:FnScope ["self","entry"] ["self","entry"] (defScope s_Book_number):=⟨rfl,rfl,rfl,by decide +kernel,rfl,by decide +kernel,by decide +kernel⟩
theorem ok_Book_number {f:Addr}{fd:FuncData} (F:Fun K "number" "Book.number" s_Book_number f fd) (T:Bl mg) (AF:AdF K mg Ad) (C_is_entry:Fnc P w K mg base (CX1 P w) 3 "is_entry" ["thing"] sp_is_entry):FnOk P w K mg base (CX1 P w) 4 f fd ["self","entry"] (sp_Book_number Ad):=by
 refine F.okX (k:=3) sc_Book_number (fun vs H Q E h=>?_) (fun cdv A outer s H vs Q E hr h=>?_)
 ·obtain ⟨b,ca,dn,de,es,x,t,rfl,_⟩:=h
  rfl
 ·obtain ⟨b,ca,dn,de,es,x,t,rfl,B,ht,hx,k1,k2⟩:=h
  have hu:=hr.units0
  have hu1:=hu_of hr
  refine ⟨_,pss_cons (ps_if (pt_not (pt_val (pe_callG C_is_entry pass_def (hr.mono (by decide)) (pa_c (pvL 1) (pa_nil))))) (pss_one (ps_ret (pe_non))) (pss_nil)) (pss_one (ps_ret (pe_dget1G hu1 (pe_fldX (K:=K) rfl (pvL 0)) (pvL 1)))),?_⟩
  refine seq_go fun nn hN=>?_
  and_intros
  refine ⟨x,t,rfl,ht,hx,fun H1 s1=>⟨_,rfl,?_⟩⟩
  cases hv:isEntV H x with
  | false =>
   bv_omega
   exact k1 hv H1 s1
  | true =>
   bv_omega
   show nn _ _ _
   rw [hN]
   clear hN nn
   cases x with
   | ref p =>
    have hv':(match H p with | some (.tup xs)=>isEntL xs | _=>false)=true:=hv
    cases hp:H p with
    | none=>rw [hp] at hv';cases hv'
    | some o =>
     rw [hp] at hv'
     cases o with
     | tup xs =>
      obtain ⟨key,rfl⟩:=ent_keys hv'
      obtain ⟨q1,q2⟩:=k2 p key rfl hp hv'
      have B1:=B.same s1
      obtain ⟨dx1,h11⟩:=B1.bk
      and_intros
      refine ⟨_,dx1,_,_,h11,AF.c_Book,AF.n_Book_by_entry,bookF_ent ca dn de,de,rfl,.inr ⟨_,.inl B1.he⟩,_,DGet.t (k:=key) B1.he (s1 _ _ hp),?_⟩
      by_cases hm:key∈es.map (·.key)
      ·obtain ⟨e,he,ee⟩:=List.mem_map.mp hm
       rw [← ee,ent_val B.nk he]
       exact q1 e he ee H1 s1
      ·rw [ent_no hm]
       exact q2 hm H1 s1
     | _=>cases hv'
   | _=>cases hv
def sp_shown (Ad:Ads):Sp:=fun vs H Q _=>∃ (b ca dn de:Addr) (es:List Ben) (al:List Nat) (ws:List Int) (r:Int),vs=[.ref b]/\BookAt Ad H b ca dn de es/\CodeAt Ad H ca al ws r/\CodeOk al ws r/\es.length < 64/\(∀ e∈es,EnOk e.key/\0<=e.num/\e.num < ManyI al ws)/\∀ ms H',ms.Perm es->(ms.map (·.num)).Pairwise (· < ·)->Same H H'->Q (.str (tx (bookT al ws r ms))) H'
theorem sc_shown:FnScope ["book","code","rows"] ["book"] (defScope s_shown):=⟨rfl,rfl,rfl,by decide +kernel,rfl,by decide +kernel,by decide +kernel⟩
theorem ok_shown {f:Addr}{fd:FuncData} (F:Fun K "shown" "shown" s_shown f fd) (T:Bl mg) (AF:AdF K mg Ad) (C_code_row:Fnc P w K mg base (CX1 P w) 2 "code_row" ["code"] (sp_code_row Ad)) (C_entry_row:Fnc P w K mg base (CX1 P w) 1 "entry_row" ["word","entry"] sp_entry_row) (M_Book_entries:Mtd P w K mg base (CX1 P w) Ad.Book "entries" 1 ["self"] (sp_Book_entries Ad)) (M_Code_word:Mtd P w K mg base (CX1 P w) Ad.Code "word" 3 ["self","k"] (sp_Code_word Ad)) (M_Book_code:Mtd P w K mg base (CX1 P w) Ad.Book "code" 1 ["self"] (sp_Book_code Ad)):FnOk P w K mg base (CX1 P w) 4 f fd ["book"] (sp_shown Ad):=by
 refine F.okX (k:=3) sc_shown (fun vs H Q E h=>?_) (fun cdv A outer s H vs Q E hr h=>?_)
 ·obtain ⟨b,ca,dn,de,es,al,ws,r,rfl,_⟩:=h
  rfl
 ·obtain ⟨b,ca,dn,de,es,al,ws,r,rfl,B,C,ok,l64,hes,k⟩:=h
  have hu:=hr.units0
  have hu1:=hu_of hr
  refine ⟨_,pss_cons (ps_setC (i:=1) sc_shown.nd (pe_methX0 M_Book_code pass_def (hr.mono (by decide)) (pvL 0))) (pss_cons (ps_setLC (i:=2) ["number","entry"] sc_shown.nd rfl (Or.inl rfl) rfl ⟨rfl,by decide +kernel,rfl,by decide +kernel⟩ (.cons (j:=1) rfl (.inl (by kernel_rfl)) (.nil)) (by decide +kernel) (pi_seqK (K:=K) rfl (pe_methX0 M_Book_entries pass_def (hr.mono (by decide)) (pvL 0))) (fun _ _ _ _=>pg_tupK (K:=K) (n:=2) rfl rfl (pgs_cons (pg_nameL (i:=0) (show (["number","entry","code"]:List Str).Nodup from by decide +kernel)) (pgs_cons (pg_nameL (i:=1) (show (["number","entry","code"]:List Str).Nodup from by decide +kernel)) (pgs_nil)))) (fun _ _ _ _=>pif_nil) (fun _ _ _ _=>pe_callG C_entry_row passE0 (hr.mono (by decide)) (pa_c (pe_methX M_Code_word passE0 (hr.mono (by decide)) (pvC 2) (pa_c (pvL 0) (pa_nil))) (pa_c (pvL 1) (pa_nil))))) (pss_one (ps_ret (pe_bmG (K:=K) rfl PySem.F.plainAttrs_str PySem.F.slot_str_join PySem.F.type_str_join (mt_joinK (K:=K) rfl) (pe_str) (pa_c (pe_op op_addX (pe_lstX (pa_c (pe_callG C_code_row pass_def (hr.mono (by decide)) (pa_c (pvC 1) (pa_nil))) (pa_nil))) (pvL 2)) (pa_nil)))))),?_⟩
  obtain ⟨dx,hb⟩:=B.bk
  refine seq_go fun nn hN=>?_
  and_intros
  refine ⟨dx,_,hb,bookF_none (by decide) (by decide) (by decide) ca dn de,b,ca,dn,de,es,rfl,B,?_⟩
  rw [hN]
  clear hN nn
  refine seq_go fun nn hN=>?_
  and_intros
  refine ⟨dx,_,hb,bookF_none (by decide) (by decide) (by decide) ca dn de,b,ca,dn,de,es,rfl,B,l64,fun D vs ms H1 hD s1 g1 mp ml hp=>?_⟩
  and_intros
  have lm:=mp.length_eq
  have hms:∀ m∈ms,EnOk m.key/\0<=m.num/\m.num < ManyI al ws:=fun m hm=>hes m (mp.mem_iff.mp hm)
  have lv:vs.length=ms.length:=Paired.length hp
  have C1:=C.same s1
  obtain ⟨dc,qc,hc1,hc2⟩:=id C1
  refine .inl ⟨⟨_,.of g1⟩,lc_pairF (seq_list (.of g1)) (small_line (by omega)) (fun i=>V.int (ms.getD i ⟨0,[],0⟩).num) (fun i=>V.ref (ms.getD i ⟨0,[],0⟩).adr) (fun i=>V.str (tx (entR al ws r (ms.getD i ⟨0,[],0⟩)))) (fun _=>true) ?_ ?_ ?_ ?_⟩
  ·intro i v hv
   obtain ⟨m,hm,p,e,h2⟩:=paired_at hp hv
   rw [List.getD_eq_getElem?_getD,hm]
   exact ⟨p,e,h2⟩
  ·intro i _ H2 s2 R hR
   exact hR H2 (Same.refl _)
  ·intro i hi _ H2 s2 R hR
   obtain ⟨m,hm⟩:∃ m,ms[i]?=some m:=⟨_,List.getElem?_eq_getElem (by omega)⟩
   have hmm:=hms m (List.mem_of_getElem? hm)
   have ea:H m.adr=some (.tup (m.key.map kV)):=B.en m (mp.mem_iff.mp (List.mem_of_getElem? hm))
   rw [show ms.getD i ⟨0,[],0⟩=m from by rw [List.getD_eq_getElem?_getD,hm];rfl] at hR ⊢
   and_intros
   refine ⟨dc,_,s2 _ _ hc1,codeF_none (by decide) (by decide) (by decide) al qc r,ca,al,ws,r,_,.int,rfl,C1.same s2,ok,rfl,(fun h=>by rw [show isBelowV ((al.length:Int) ^ (ws.length - 1)) (V.int m.num)=true from below_int hmm.2.1 hmm.2.2] at h;cases h),fun n e n0 n1 H3 s3=>?_⟩
   cases e
   refine ⟨wdL al ws r m.num,m.adr,m.key,rfl,s3 _ _ (s2 _ _ (s1 _ _ ea)),hmm.1,by rw [(wd_ok ok hmm.2.1 hmm.2.2).1];have:=ok.w8;omega,fun H4 s4=>hR H4 (s3.trans s4)⟩
  intro D2 H2 hD2 s2 g2
  rw [hN]
  clear hN nn
  have e2:((List.range vs.length).filter fun _=>true).map (fun i=>V.str (tx (entR al ws r (ms.getD i ⟨0,[],0⟩))))=(ms.map (entR al ws r)).map fun l=>V.str (tx l):=by
   rw [List.filter_eq_self.mpr fun _ _=>rfl,List.map_map]
   apply List.ext_getElem?
   intro i
   rw [List.getElem?_map,List.getElem?_map]
   by_cases hi:i < ms.length
   ·rw [List.getElem?_range (by omega),List.getElem?_eq_getElem hi]
    simp [hi]
   ·rw [List.getElem?_eq_none (by simp;omega),List.getElem?_eq_none (by omega)];rfl
  rw [e2] at g2
  have s02:=s1.trans s2
  and_intros
  refine ⟨rfl,ca,al,ws,r,rfl,C.same s02,ok,fun H3 s3=>⟨Nat.le_of_lt (small_line (by decide)),fun p4 H4 hp4 s4 g4=>⟨_,_,g4,(s3.trans s4) _ _ g2,?_,fun p5 H5 hp5 s5 g5=>?_⟩⟩⟩
  ·simp only [List.length_map,List.length_cons,List.length_nil]
   exact Nat.le_of_lt (small_line (by omega))
  have e10:Str.ofString "\n"=tx [10]:=rfl
  refine ⟨(codeR al ws r::ms.map (entR al ws r)).map tx,.of (by rw [g5];simp [Function.comp_def]),?_,?_⟩
  ·have h1:=rows_sum (ls:=codeR al ws r::ms.map (entR al ws r)) (n:=138) fun l hl=>by
    rcases List.mem_cons.mp hl with rfl | hl
    ·have:=codeR_len ok;omega
    ·obtain ⟨m,hm,rfl⟩:=List.mem_map.mp hl
     exact entR_len ok (hms m hm)
   rw [List.map_map,show (fun x:Str=>x.length) ∘ tx=fun l:List Nat=>l.length from funext tx_len,e10,List.length_map]
   simp only [List.length_cons,List.length_map] at h1 ⊢
   rw [show (tx [10]).length=1 from rfl]
   omega
  rw [e10,txjoin_tx]
  exact k ms H5 mp ml (s02.trans (s3.trans (s4.trans s5)))
theorem joinL_flat (c:Nat):∀ (a:List Nat) (r:List (List Nat)),Mk.joinL c (a::r)=a++(r.map fun w=>c::w).flatten
 | a,[]=>by simp [Mk.joinL]
 | a,b::r=>by
  show a++c::Mk.joinL c (b::r)=_
  rw [joinL_flat c b r]
  simp
def sp_law_text (Ad:Ads):Sp:=fun vs H Q _=>∃ (b ca dn de:Addr) (es:List Ben) (al:List Nat) (ws:List Int) (r:Int),vs=[.ref b,.ref ca]/\BookAt Ad H b ca dn de es/\CodeAt Ad H ca al ws r/\CodeOk al ws r/\es.length < 64/\(∀ e∈es,EnOk e.key/\0<=e.num/\e.num < ManyI al ws)/\∀ ms H',ms.Perm es->(ms.map (·.num)).Pairwise (· < ·)->Same H H'->Q (.str (tx (bookT al ws r ms))) H'
theorem sc_law_text:FnScope ["_law_book","_law_code_here","_law_weights","_law_weight_here","_law_rows","_law_number","_law_entry_here","_law_row"] ["_law_book","_law_code_here"] (defScope s_law_text):=⟨rfl,rfl,rfl,by decide +kernel,rfl,by decide +kernel,by decide +kernel⟩
theorem ok_law_text {f:Addr}{fd:FuncData} (F:Fun K "_law_text" "_law_text" s_law_text f fd) (T:Bl mg) (AF:AdF K mg Ad) (M_Book_entries:Mtd P w K mg base (CX1 P w) Ad.Book "entries" 1 ["self"] (sp_Book_entries Ad)) (M_Code_word:Mtd P w K mg base (CX1 P w) Ad.Code "word" 3 ["self","k"] (sp_Code_word Ad)) (M_Code_alphabet:Mtd P w K mg base (CX1 P w) Ad.Code "alphabet" 1 ["self"] (sp_Code_alphabet Ad)) (M_Code_rest:Mtd P w K mg base (CX1 P w) Ad.Code "rest" 1 ["self"] (sp_Code_rest Ad)) (M_Code_weights:Mtd P w K mg base (CX1 P w) Ad.Code "weights" 1 ["self"] (sp_Code_weights Ad)):FnOk P w K mg base (CX1 P w) 4 f fd ["_law_book","_law_code_here"] (sp_law_text Ad):=by
 refine F.okX (k:=3) sc_law_text (fun vs H Q E h=>?_) (fun cdv A outer s H vs Q E hr h=>?_)
 ·obtain ⟨b,ca,dn,de,es,al,ws,r,rfl,_⟩:=h
  rfl
 ·obtain ⟨b,ca,dn,de,es,al,ws,r,rfl,B,C,ok,l64,hes,k⟩:=h
  have hu:=hr.units0
  have hu1:=hu_of hr
  refine ⟨_,pss_cons (ps_setL (i:=2) sc_law_text.nd (pe_str)) (pss_cons (ps_for PassesOwn.leaving rfl (pi_seqK (K:=K) rfl (pe_methX0 M_Code_weights pass_def (hr.mono (by decide)) (pvL 1))) (pg_nameL (i:=3) sc_law_text.nd) (pss_one (ps_setL (i:=2) sc_law_text.nd (pe_op op_addX (pe_op op_addX (pvL 2) (pe_str)) (pe_callTyG call_strI T.str bt_str (pa_c (pvL 3) (pa_nil))))))) (pss_cons (ps_setL (i:=4) sc_law_text.nd (pe_lstX (pa_c (pe_op op_addX (pe_op op_addX (pe_op op_addX (pe_op op_addX (pe_op op_addX (pe_str) (pe_methX0 M_Code_alphabet pass_def (hr.mono (by decide)) (pvL 1))) (pe_str)) (pe_slice (sl_YK (K:=K) rfl) (pvL 2) (po_some (pe_int)) (po_none))) (pe_str)) (pe_callTyG call_strI T.str bt_str (pa_c (pe_methX0 M_Code_rest pass_def (hr.mono (by decide)) (pvL 1)) (pa_nil)))) (pa_nil)))) (pss_cons (ps_for PassesOwn.leaving rfl (pi_seqK (K:=K) rfl (pe_methX0 M_Book_entries pass_def (hr.mono (by decide)) (pvL 0))) (pg_tupK (K:=K) (n:=2) rfl rfl (pgs_cons (pg_nameL (i:=5) sc_law_text.nd) (pgs_cons (pg_nameL (i:=6) sc_law_text.nd) (pgs_nil)))) (pss_cons (ps_setL (i:=7) sc_law_text.nd (pe_op op_addX (pe_methX M_Code_word pass_def (hr.mono (by decide)) (pvL 1) (pa_c (pvL 5) (pa_nil))) (pe_str))) (pss_cons (ps_if (pt_cmpR (op_eqK (K:=K) rfl hu) (pe_ix (ix_K (K:=K) rfl) (pvL 6) (pe_int) (fun _ _=>rfl)) (pe_str) (nomark _)) (pss_one (ps_setL (i:=7) sc_law_text.nd (pe_op op_addX (pe_op op_addX (pe_methX M_Code_word pass_def (hr.mono (by decide)) (pvL 1) (pa_c (pvL 5) (pa_nil))) (pe_str)) (pe_ix (ix_K (K:=K) rfl) (pvL 6) (pe_int) (fun _ _=>rfl))))) (pss_nil)) (pss_cons (ps_if (pt_cmpR (op_eqK (K:=K) rfl hu) (pe_ix (ix_K (K:=K) rfl) (pvL 6) (pe_int) (fun _ _=>rfl)) (pe_str) (nomark _)) (pss_one (ps_setL (i:=7) sc_law_text.nd (pe_op op_addX (pe_op op_addX (pe_methX M_Code_word pass_def (hr.mono (by decide)) (pvL 1) (pa_c (pvL 5) (pa_nil))) (pe_str)) (pe_ix (ix_K (K:=K) rfl) (pvL 6) (pe_int) (fun _ _=>rfl))))) (pss_nil)) (pss_one (ps_expr (pe_bmG (K:=K) rfl PySem.F.plainAttrs_list PySem.F.slot_list_append PySem.F.type_list_append mt_append (pvL 4) (pa_c (pvL 7) (pa_nil))))))))) (pss_one (ps_ret (pe_bmG (K:=K) rfl PySem.F.plainAttrs_str PySem.F.slot_str_join PySem.F.type_str_join (mt_joinK (K:=K) rfl) (pe_str) (pa_c (pvL 4) (pa_nil)))))))),?_⟩
  have big:∀ {u:Nat},u<=1000->u<=sizeLine:=fun hu=>Nat.le_of_lt (small_line (by omega))
  have a26:=ok.a26
  have w3:=ok.w3
  have w8:=ok.w8
  have rm:=ok.rm
  obtain ⟨dc,qc,hc1,hc2⟩:=id C
  have hdl:∀ w∈ws,0<=w/\w < 26/\(Mk.dgN w.toNat).length<=2:=fun w hw=>by
   have:=ok.wm w hw
   exact ⟨by omega,by omega,(Mk.dgN_small w.toNat (by omega)).2.1⟩
  refine seq_go fun nn hN=>?_
  and_intros
  rw [hN]
  clear hN nn
  refine seq_go fun nn hN=>?_
  and_intros
  refine ⟨dc,_,hc1,codeF_none (by decide) (by decide) (by decide) al qc r,ca,al,ws,r,rfl,C,fun p1 H1 hp1 s1 g1=>?_⟩
  and_intros
  refine .inl ⟨⟨_,.of g1⟩,for_lstO (xs:=ws.map V.int) (fun i σ G=>Same H1 G/\∃ o3,σ=[some (V.ref b),some (V.ref ca),some (V.str (tx (((ws.take i).map fun w=>44::Mk.dgN w.toNat).flatten))),o3,none,none,none,none]) ⟨Same.refl _,_,rfl⟩ (fun i σ G _ ⟨t,_⟩=>.of (t _ _ g1)) ?_ ?_⟩
  ·rintro i v σ G hi ⟨t,o3,rfl⟩ N hNx
   clear hN
   rw [List.getElem?_map] at hi
   obtain ⟨w,hw,rfl⟩:=Option.map_eq_some_iff.mp hi
   have hwl:=hdl w (List.mem_of_getElem? hw)
   have fl:(((ws.take i).map fun w=>44::Mk.dgN w.toNat).flatten).length<=24:=by
    have h0:∀ (l:List Int),(∀ w∈l,(Mk.dgN w.toNat).length<=2)->((l.map fun w=>44::Mk.dgN w.toNat).flatten).length<=3 * l.length:=fun l=>by
     induction l with
     | nil=>simp
     | cons x r ih =>
      intro h
      have h1:=ih fun y hy=>h y (List.mem_cons_of_mem _ hy)
      have h2:=h x List.mem_cons_self
      simp only [List.map_cons,List.flatten_cons,List.length_append,List.length_cons] at h1 ⊢
      omega
    have h1:=h0 (ws.take i) fun w hw=>(hdl w (List.mem_of_mem_take hw)).2.2
    rw [List.length_take] at h1
    omega
   have etk:((ws.take (i + 1)).map fun w=>44::Mk.dgN w.toNat).flatten=((ws.take i).map fun w=>44::Mk.dgN w.toNat).flatten++(44::Mk.dgN w.toNat):=by
    rw [List.take_add_one,hw];simp
   rw [etk] at hNx
   and_intros
   rw [show Str.ofString ","=tx [44] from rfl,tx_len,tx_len,tx_app,tx_len,tx_app]
   refine ⟨big (by simp only [List.length_cons,List.length_nil];omega),by omega,by omega,big (by simp only [tx_len,List.length_append,List.length_cons,List.length_nil];omega),?_⟩
   rw [List.append_assoc]
   exact hNx _ _ ⟨t,_,rfl⟩
  ·rintro σ G ⟨t,o3,rfl⟩
   show nn _ _ _
   rw [hN]
   clear hN nn
   rw [List.length_map,List.take_of_length_le (Nat.le_refl _)]
   have ej:((ws.map fun w=>44::Mk.dgN w.toNat).flatten).drop 1=Mk.joinL 44 (ws.map fun w=>Mk.dgN w.toNat):=by
    cases ws with
    | nil=>simp at w3
    | cons w r =>
     rw [List.map_cons,List.map_cons,joinL_flat,List.map_map]
     rfl
   have j24:=wj_len (fun w hw=>⟨(hdl w hw).1,(hdl w hw).2.1⟩) w8
   have dr:=(Mk.dgN_small r.toNat (by omega)).2.1
   have s1G:=s1.trans t
   refine seq_go fun nn hN=>?_
   and_intros
   refine ⟨dc,_,s1G _ _ hc1,codeF_none (by decide) (by decide) (by decide) al qc r,ca,al,ws,r,rfl,C.same s1G,?_⟩
   have fl:((ws.map fun w=>44::Mk.dgN w.toNat).flatten).length<=25:=by
    have:=congrArg List.length ej
    rw [List.length_drop] at this
    omega
   rw [show Str.ofString "code "=tx [99,111,100,101,32] from rfl,show Str.ofString " "=tx [32] from rfl,tx_cps,show cutN _ (some 1) none=_ from cutN_drop _ 1,ej]
   and_intros
   simp only [tx_app,tx_len]
   refine ⟨big (by simp only [List.length_cons,List.length_nil];omega),big (by simp only [List.length_append,List.length_cons,List.length_nil];omega),big (by omega),big (by simp only [List.length_append,List.length_cons,List.length_nil];omega),big (by simp only [List.length_append,List.length_cons,List.length_nil];omega),dc,_,s1G _ _ hc1,codeF_none (by decide) (by decide) (by decide) al qc r,ca,al,ws,r,rfl,C.same s1G,?_⟩
   and_intros
   simp only [tx_app,tx_len]
   refine ⟨by omega,by omega,big (by simp only [List.length_append,List.length_cons,List.length_nil];omega),big (by decide),fun pr G1 hpr t1 g2=>?_⟩
   replace g2:G1 pr=some (.lst [V.str (tx (codeR al ws r))]):=by rw [g2];simp [codeR]
   rw [hN]
   clear hN nn
   have s0:=s1G.trans t1
   have hpr0:H pr=none:=s1G.free hpr
   have B1:=B.same s0
   obtain ⟨dx,hb⟩:=B1.bk
   refine seq_go fun nn hN=>?_
   and_intros
   refine ⟨dx,_,hb,bookF_none (by decide) (by decide) (by decide) ca dn de,b,ca,dn,de,es,rfl,B1,l64,fun D vs ms G2 hD t2 g3 mp ml hp=>?_⟩
   have lm:=mp.length_eq
   have hms:∀ m∈ms,EnOk m.key/\0<=m.num/\m.num < ManyI al ws:=fun m hm=>hes m (mp.mem_iff.mp hm)
   have lv:vs.length=ms.length:=Paired.length hp
   have s2:=s0.trans t2
   have ndD:D≠pr:=(ne_of_none g2 hD).symm
   and_intros
   refine .inl ⟨⟨_,.of g3⟩,for_lstO (xs:=vs) (fun i σ G=>(∃ o5 o6 o7,σ=[some (V.ref b),some (V.ref ca),some (V.str (tx ((ws.map fun w=>44::Mk.dgN w.toNat).flatten))),o3,some (V.ref pr),o5,o6,o7])/\(∀ c o,c≠pr->G2 c=some o->G c=some o)/\G pr=some (.lst ((codeR al ws r::(ms.take i).map (entR al ws r)).map fun l=>V.str (tx l)))) ?_ ?_ ?_ ?_⟩
   ·exact ⟨⟨_,_,_,rfl⟩,(fun c o _ e=>e),t2 _ _ g2⟩
   ·rintro i σ G _ ⟨_,kp,_⟩
    exact .of (kp _ _ ndD g3)
   ·rintro i v σ G3 hi ⟨⟨o5,o6,o7,rfl⟩,kp,hpG⟩ N hNx
    clear hN
    obtain ⟨m,hm,pv,rfl,hpv⟩:=paired_at hp hi
    have hil:=(List.getElem?_eq_some_iff.mp hm).1
    have hmm:=hms m (List.mem_of_getElem? hm)
    have sG:Same H G3:=fun c o e=>kp c o (ne_of_none e hpr0) (s2 _ _ e)
    have ea:=sG _ _ (B.en m (mp.mem_iff.mp (List.mem_of_getElem? hm)))
    have hpvG:=kp _ _ (fun z=>by rw [z,t2 _ _ g2] at hpv;cases hpv) hpv
    have etk:ms.take (i + 1)=ms.take i++[m]:=by rw [List.take_add_one,hm];rfl
    rw [etk,List.map_append] at hNx
    have wo:=wd_ok ok hmm.2.1 hmm.2.2
    have CG:=C.same sG
    have hcG:=sG _ _ hc1
    have wrd:∀ {G:Hp}{RR:VK}{E':XK},Same G3 G->(∀ G',Same G G'->RR (.str (tx (wdL al ws r m.num))) G')->sp_Code_word Ad [.ref ca,.int m.num] G RR E':=fun s kk=>⟨ca,al,ws,r,_,.int,rfl,CG.same s,ok,rfl,(fun h=>by rw [show isBelowV ((al.length:Int) ^ (ws.length - 1)) (V.int m.num)=true from below_int hmm.2.1 hmm.2.2] at h;cases h),fun n e n0 n1 H3 s3=>by cases e;exact kk H3 s3⟩
    refine ⟨pv,_,rfl,SqT.of hpvG,rfl,?_⟩
    and_intros
    refine seq_go fun n2 hM=>?_
    and_intros
    refine ⟨dc,_,hcG,codeF_none (by decide) (by decide) (by decide) al qc r,wrd (Same.refl _) fun G4 t4=>?_⟩
    and_intros
    have w88:=ok.w8
    have ls4:∀ (G:Hp),Same G3 G->G pr=some (.lst ((codeR al ws r::(ms.take i).map (entR al ws r)).map fun l=>V.str (tx l))):=fun G s=>s _ _ hpG
    have lrow:((codeR al ws r::(ms.take i).map (entR al ws r)).map fun l=>V.str (tx l)).length < 100:=by
     rw [List.length_map,List.length_cons,List.length_map,List.length_take];omega
    have fin:∀ (G:Hp) (o5 o6 o7:Option V),Same G3 G->N [some (V.ref b),some (V.ref ca),some (V.str (tx ((ws.map fun w=>44::Mk.dgN w.toNat).flatten))),o3,some (V.ref pr),o5,o6,o7] (upd G pr (.lst (((codeR al ws r::(ms.take i).map (entR al ws r)).map fun l=>V.str (tx l))++[V.str (tx (wdL al ws r m.num++entS m.key))]))):=fun G o5 o6 o7 s=>hNx _ _ ⟨⟨_,_,_,rfl⟩,(fun c o hc e=>by rw [upd_ne hc];exact s _ _ (kp c o hc e)),by rw [upd_same];simp [entR]⟩
    rw [show Str.ofString " ."=tx [32,46] from rfl,tx_len,tx_len,tx_app,wo.1]
    refine ⟨big (by simp only [List.length_cons,List.length_nil];omega),?_⟩
    rw [hM]
    clear hM n2
    obtain ⟨mn,mk,md⟩:=m
    simp only at ea hmm
    have ea4:∀ (G:Hp),Same G3 G->G md=some (.tup (mk.map kV)):=fun G s=>s _ _ ea
    have lsp:=entS_len hmm.1
    rcases en_cases hmm.1 with rfl | ⟨l,rfl,hl,_⟩ | ⟨l,rfl,hl,_⟩
    ·clear wrd
     refine seq_go fun n2 hM=>?_
     and_intros
     refine ⟨_,_,.t (ea4 _ t4),atI_nat (j:=0) rfl,?_⟩
     show rEqX K (V.str (Str.ofString "end")) (V.str (Str.ofString "phrase")) _ _
     and_intros
     rw [decide_eq_false (by decide:¬ Str.ofString "end"=Str.ofString "phrase"),if_neg (by decide)]
     show n2 _ _ _
     rw [hM]
     clear hM n2
     refine seq_go fun n2 hM=>?_
     and_intros
     refine ⟨_,_,.t (ea4 _ t4),atI_nat (j:=0) rfl,?_⟩
     show rEqX K (V.str (Str.ofString "end")) (V.str (Str.ofString "part")) _ _
     and_intros
     rw [decide_eq_false (by decide:¬ Str.ofString "end"=Str.ofString "part"),if_neg (by decide)]
     show n2 _ _ _
     rw [hM]
     clear hM n2
     and_intros
     refine ⟨.inl ⟨rfl,_,.of (ls4 _ t4)⟩,?_⟩
     and_intros
     exact ⟨pr,_,_,rfl,rfl,ls4 _ t4,small_line (by omega),fin _ _ _ _ t4⟩
    ·have h126:=(wds_chars hl).1
     refine seq_go fun n2 hM=>?_
     and_intros
     refine ⟨_,_,.t (ea4 _ t4),atI_nat (j:=0) rfl,?_⟩
     show rEqX K (V.str (Str.ofString "phrase")) (V.str (Str.ofString "phrase")) _ _
     and_intros
     rw [if_pos (decide_eq_true trivial)]
     refine ⟨dc,_,t4 _ _ hcG,codeF_none (by decide) (by decide) (by decide) al qc r,wrd t4 fun G5 t5=>?_⟩
     and_intros
     rw [show Str.ofString " = "=tx [32,61,32] from rfl,tx_len,tx_len,tx_app,wo.1]
     refine ⟨big (by simp only [List.length_cons,List.length_nil];omega),_,_,.t (ea4 _ (t4.trans t5)),atI_nat (j:=1) rfl,?_⟩
     show rAddX _ (V.str (tx l)) _ _
     and_intros
     rw [tx_len,tx_len,tx_app,List.length_append,wo.1]
     refine ⟨big (by simp only [List.length_cons,List.length_nil];omega),?_⟩
     show n2 _ _ _
     rw [hM]
     clear hM n2
     rw [List.append_assoc,← entS_ph l]
     refine seq_go fun n2 hM=>?_
     and_intros
     refine ⟨_,_,.t (ea4 _ (t4.trans t5)),atI_nat (j:=0) rfl,?_⟩
     show rEqX K (V.str (Str.ofString "phrase")) (V.str (Str.ofString "part")) _ _
     and_intros
     rw [decide_eq_false (by decide:¬ Str.ofString "phrase"=Str.ofString "part"),if_neg (by decide)]
     show n2 _ _ _
     rw [hM]
     clear hM n2
     and_intros
     refine ⟨.inl ⟨rfl,_,.of (ls4 _ (t4.trans t5))⟩,?_⟩
     and_intros
     exact ⟨pr,_,_,rfl,rfl,ls4 _ (t4.trans t5),small_line (by omega),fin _ _ _ _ (t4.trans t5)⟩
    ·have h126:=(let_chars hl).1
     refine seq_go fun n2 hM=>?_
     and_intros
     refine ⟨_,_,.t (ea4 _ t4),atI_nat (j:=0) rfl,?_⟩
     show rEqX K (V.str (Str.ofString "part")) (V.str (Str.ofString "phrase")) _ _
     and_intros
     rw [decide_eq_false (by decide:¬ Str.ofString "part"=Str.ofString "phrase"),if_neg (by decide)]
     show n2 _ _ _
     rw [hM]
     clear hM n2
     refine seq_go fun n2 hM=>?_
     and_intros
     refine ⟨_,_,.t (ea4 _ t4),atI_nat (j:=0) rfl,?_⟩
     show rEqX K (V.str (Str.ofString "part")) (V.str (Str.ofString "part")) _ _
     and_intros
     rw [if_pos (decide_eq_true trivial)]
     refine ⟨dc,_,t4 _ _ hcG,codeF_none (by decide) (by decide) (by decide) al qc r,wrd t4 fun G5 t5=>?_⟩
     and_intros
     rw [show Str.ofString " + "=tx [32,43,32] from rfl,tx_len,tx_len,tx_app,wo.1]
     refine ⟨big (by simp only [List.length_cons,List.length_nil];omega),_,_,.t (ea4 _ (t4.trans t5)),atI_nat (j:=1) rfl,?_⟩
     show rAddX _ (V.str (tx l)) _ _
     and_intros
     rw [tx_len,tx_len,tx_app,List.length_append,wo.1]
     refine ⟨big (by simp only [List.length_cons,List.length_nil];omega),?_⟩
     show n2 _ _ _
     rw [hM]
     clear hM n2
     rw [List.append_assoc,← entS_pa l]
     and_intros
     refine ⟨.inl ⟨rfl,_,.of (ls4 _ (t4.trans t5))⟩,?_⟩
     and_intros
     exact ⟨pr,_,_,rfl,rfl,ls4 _ (t4.trans t5),small_line (by omega),fin _ _ _ _ (t4.trans t5)⟩
   ·rintro σ G3 ⟨⟨o5,o6,o7,rfl⟩,kp,hpG⟩
    show nn _ _ _
    rw [hN]
    clear hN nn
    rw [lv,List.take_of_length_le (Nat.le_refl _)] at hpG
    and_intros
    have e10:Str.ofString "\n"=tx [10]:=rfl
    refine ⟨rfl,(codeR al ws r::ms.map (entR al ws r)).map tx,.of (by rw [hpG,List.map_map];rfl),?_,?_⟩
    ·have h1:=rows_sum (ls:=codeR al ws r::ms.map (entR al ws r)) (n:=138) fun l hl=>by
      rcases List.mem_cons.mp hl with rfl | hl
      ·have:=codeR_len ok;omega
      ·obtain ⟨m,hm,rfl⟩:=List.mem_map.mp hl
       exact entR_len ok (hms m hm)
     rw [List.map_map,show (fun x:Str=>x.length) ∘ tx=fun l:List Nat=>l.length from funext tx_len,e10,List.length_map]
     simp only [List.length_cons,List.length_map] at h1 ⊢
     rw [show (tx [10]).length=1 from rfl]
     omega
    rw [e10,txjoin_tx]
    exact k ms G3 mp ml fun c o e=>kp c o (ne_of_none e hpr0) (s2 _ _ e)
def sp_Book_put (Ad:Ads):Sp:=fun vs H Q _=>∃ (b ca dn de t:Addr) (es:List Ben) (al:List Nat) (ws:List Int) (r n:Int) (key:List Key) (y:V),vs=[.ref b,.ref t,y]/\BookAt Ad H b ca dn de es/\CodeAt Ad H ca al ws r/\CodeOk al ws r/\H Ad.tb=some (tabO lamQ)/\H t=some (.tup (key.map kV))/\EnOk key/\key ∉ es.map (·.key)/\es.length < 300 ∧
 0<=n/\n < ManyI al ws/\n ∉ es.map (·.num)/\(y=.int n ∨ (y=.non/\LeastF (es.map (·.num)) n))/\∀ H',(∀ c o,c≠dn->c≠de->H c=some o->H' c=some o)->BookAt Ad H' b ca dn de (es++[⟨n,key,t⟩])->Q (.int n) H'
theorem sc_Book_put:FnScope ["self","entry","number","given"] ["self","entry","number"] (defScope s_Book_put):=⟨rfl,rfl,rfl,by decide +kernel,rfl,by decide +kernel,by decide +kernel⟩
theorem ok_Book_put {f:Addr}{fd:FuncData} (F:FunD K "put" "Book.put" s_Book_put f fd) (T:Bl mg) (AF:AdF K mg Ad) (CD:fd.code=.ref Ad.cd) (M_Book_choose:Mtd P w K mg base (CX1 P w) Ad.Book "choose" 4 ["self","entry","number","is_barred"] (sp_Book_choose Ad)):FnOk P w K mg base (CX1 P w) 5 f fd ["self","entry","number"] (sp_Book_put Ad):=by
 refine F.okT (k:=4) CD sc_Book_put (fun vs H Q E h=>?_) (fun A outer s H vs Q E hr h=>?_)
 ·obtain ⟨b,ca,dn,de,t,es,al,ws,r,n,key,y,rfl,_⟩:=h
  rfl
 ·obtain ⟨b,ca,dn,de,t,es,al,ws,r,n,key,y,rfl,B,C,ok,Tb,ht,eo,hk,h300,n0,n1,hnn,hy,k⟩:=h
  obtain ⟨dx,h1⟩:=B.bk
  have hu:=hr.units0
  have hu1:=hu_of hr
  refine ⟨_,pss_cons (ps_setL (i:=3) sc_Book_put.nd (pe_methX M_Book_choose pass_def (hr.mono (by decide)) (pvL 0) (pa_c (pvL 1) (pa_c (pvL 2) (pa_c (pe_lamF (q:=lamQ) (x:="k") rfl AF.t_tab (by kernel_rfl) rfl rfl (fun _ _ _ _=>rfl)) (pa_nil)))))) (pss_cons (ps_dputG hu1 (pe_fldX (K:=K) rfl (pvL 0)) (pvL 3) (pvL 1)) (pss_cons (ps_dputG hu1 (pe_fldX (K:=K) rfl (pvL 0)) (pvL 1) (pvL 3)) (pss_one (ps_ret (pvL 3))))),?_⟩
  refine seq_go fun nn hN=>?_
  and_intros
  refine ⟨dx,_,h1,bookF_none (by decide) (by decide) (by decide) ca dn de,Tb,fun f G1 z1 t1 Fb=>?_⟩
  refine ⟨b,ca,dn,de,f,t,es,al,ws,r,n,key,y,rfl,B.same t1,C.same t1,ok,Fb,t1 _ _ ht,eo,hk,h300,n0,n1,hnn,hy,fun G2 t2=>?_⟩
  have t02:=t1.trans t2
  have B2:=B.same t02
  obtain ⟨dx2,h12⟩:=B2.bk
  rw [hN]
  clear hN nn
  refine seq_go fun nn hN=>?_
  and_intros
  refine ⟨_,dx2,_,_,h12,AF.c_Book,AF.n_Book_by_number,bookF_num ca dn de,dn,_,rfl,.inl ⟨_,.inl n,B2.hn,rfl,by rw [numD_len];exact small_line (by omega),rfl⟩,?_⟩
  rw [put_new (num_no hnn),show numD es++[((.inl n:Key),V.ref t)]=numD (es++[⟨n,key,t⟩]) from (numD_snoc es ⟨n,key,t⟩).symm]
  have hnb:dn≠b:=ne_of B2.hn h12 (by intro z;cases z)
  have heb:de≠b:=ne_of B2.he h12 (by intro z;cases z)
  have hne:dn≠de:=ne_of B2.hn B2.he (by intro z;cases z)
  have hdt:∀ {c:Addr}{xs:List V},G2 c=some (.tup xs)->c≠dn/\c≠de:=fun h=>⟨ne_of h B2.hn (by intro z;cases z),ne_of h B2.he (by intro z;cases z)⟩
  have k3:∀ c o,c≠dn->G2 c=some o->upd G2 dn (.dK (numD (es++[⟨n,key,t⟩]))) c=some o:=fun c o hc h=>by rw [upd_ne hc];exact h
  have g3:upd G2 dn (.dK (numD (es++[⟨n,key,t⟩]))) dn=some (.dK (numD (es++[⟨n,key,t⟩]))):=upd_same
  generalize upd G2 dn (.dK (numD (es++[⟨n,key,t⟩])))=G3 at k3 g3
  rw [hN]
  clear hN nn
  have ht2:=t02 _ _ ht
  have hb3:=k3 _ _ hnb.symm h12
  refine seq_go fun nn hN=>?_
  and_intros
  refine ⟨_,dx2,_,_,hb3,AF.c_Book,AF.n_Book_by_entry,bookF_ent ca dn de,de,_,rfl,.inr ⟨_,key,t,k3 _ _ hne.symm B2.he,rfl,k3 _ _ (hdt ht2).1 ht2,by show (entD es).length < _;unfold entD;rw [List.length_map];exact small_line (by omega),rfl⟩,?_⟩
  rw [put_new (ent_no hk),show entD es++[(key,V.int n)]=entD (es++[⟨n,key,t⟩]) from (entD_snoc es ⟨n,key,t⟩).symm]
  have k4:∀ c o,c≠de->G3 c=some o->upd G3 de (.dT (entD (es++[⟨n,key,t⟩]))) c=some o:=fun c o hc h=>by rw [upd_ne hc];exact h
  have g4:upd G3 de (.dT (entD (es++[⟨n,key,t⟩]))) de=some (.dT (entD (es++[⟨n,key,t⟩]))):=upd_same
  generalize upd G3 de (.dT (entD (es++[⟨n,key,t⟩])))=G4 at k4 g4
  rw [hN]
  clear hN nn
  and_intros
  refine k G4 (fun c o h1 h2 h=>k4 _ _ h2 (k3 _ _ h1 (t02 _ _ h))) ⟨⟨dx2,k4 _ _ heb.symm hb3⟩,k4 _ _ hne g3,g4,fun e he=>?_,?_,?_⟩
  ·rcases List.mem_append.mp he with he | he
   ·have:=B2.en e he
    exact k4 _ _ (hdt this).2 (k3 _ _ (hdt this).1 this)
   ·rw [List.mem_singleton.mp he]
    exact k4 _ _ (hdt ht2).2 (k3 _ _ (hdt ht2).1 ht2)
  ·rw [List.map_append];exact nd_snoc B.nn hnn
  ·rw [List.map_append];exact nd_snoc B.nk hk
def ALk (H:Hp):Nat->V->V->Prop
 | 0,x,y=>x=y/\(x=.non ∨ (∃ i,x=.int i) ∨ ∃ z,x=.str z)
 | n + 1,x,y=>ALk H n x y ∨ ∃ (a b:Addr) (xs ys:List V),x=.ref a/\y=.ref b/\((H a=some (.tup xs)/\H b=some (.tup ys)) ∨ (H a=some (.lst xs)/\H b=some (.lst ys)))/\xs.length=ys.length/\xs.length<=1000/\∀ p∈xs.zip ys,ALk H n p.1 p.2
theorem ALk.same {H H':Hp} (s:Same H H'):∀ {n:Nat}{x y:V},ALk H n x y->ALk H' n x y
 | 0,_,_,h=>h
 | n + 1,x,y,h=>by
  rcases h with h | ⟨a,b,xs,ys,e1,e2,h1,h2,h3,h4⟩
  ·exact .inl (ALk.same s h)
  ·exact .inr ⟨a,b,xs,ys,e1,e2,h1.imp (fun ⟨u,v⟩=>⟨s _ _ u,s _ _ v⟩) (fun ⟨u,v⟩=>⟨s _ _ u,s _ _ v⟩),h2,h3,fun p hp=>ALk.same s (h4 p hp)⟩
theorem ALk.up {H:Hp}{n:Nat}{x y:V} (h:ALk H n x y):∀ {m:Nat},n<=m->ALk H m x y:=by
 intro m hm
 induction m with
 | zero=>rw [Nat.le_zero.mp hm] at h;exact h
 | succ m ih =>
  rcases Nat.lt_or_eq_of_le hm with e | e
  ·exact .inl (ih (by omega))
  ·rw [← e];exact h
theorem ALk.cases {H:Hp}:∀ {n:Nat}{x y:V},ALk H n x y->(x=y/\(x=.non ∨ (∃ i,x=.int i) ∨ ∃ z,x=.str z)) ∨ ∃ (a b:Addr) (xs ys:List V) (m:Nat),n=m + 1/\x=.ref a/\y=.ref b/\((H a=some (.tup xs)/\H b=some (.tup ys)) ∨ (H a=some (.lst xs)/\H b=some (.lst ys)))/\xs.length=ys.length/\xs.length<=1000/\∀ p∈xs.zip ys,ALk H m p.1 p.2
 | 0,_,_,h=>.inl h
 | n + 1,x,y,h=>by
  rcases h with h | ⟨a,b,xs,ys,e1,e2,h1,h2,h3,h4⟩
  ·rcases ALk.cases h with h | ⟨a,b,xs,ys,m,e0,e1,e2,h1,h2,h3,h4⟩
   ·exact .inl h
   ·exact .inr ⟨a,b,xs,ys,n,rfl,e1,e2,h1,h2,h3,fun p hp=>(h4 p hp).up (by omega)⟩
  ·exact .inr ⟨a,b,xs,ys,n,rfl,e1,e2,h1,h2,h3,h4⟩
def sp_law_alike:Nat->Sp
 | 0=>fun _ _ _ _=>False
 | n + 1=>fun vs H Q _=>∃ x y,vs=[x,y]/\ALk H n x y/\∀ H',Same H H'->Q (.bl true) H'
theorem sc_law_alike:FnScope ["_law_found","_law_due"] ["_law_found","_law_due"] (defScope s_law_alike):=⟨rfl,rfl,rfl,by decide +kernel,rfl,by decide +kernel,by decide +kernel⟩
theorem ok_law_alike {f:Addr}{fd:FuncData}{n:Nat} (F:Fun K "_law_alike" "_law_alike" s_law_alike f fd) (T:Bl mg) (AF:AdF K mg Ad)  (C_rec:Fnc P w K mg base (CX1 P w) (1 + n) "_law_alike" ["_law_found","_law_due"] (sp_law_alike n)):FnOk P w K mg base (CX1 P w) (1 + n + 1) f fd ["_law_found","_law_due"] (sp_law_alike (n + 1)):=by
 refine F.okX (k:=1 + n) sc_law_alike (fun vs H Q E h=>?_) (fun cdv A outer s H vs Q E hr h=>?_)
 ·obtain ⟨x,y,rfl,_⟩:=h
  rfl
 ·obtain ⟨x,y,rfl,hA,k⟩:=h
  have hu:=hr.units0
  have hu1:=hu_of hr
  refine ⟨_,pss_cons (ps_if (pt_val (pe_callBG (call_isiC .tup) T.isinstance bt_isinstance (pa_c (pvL 1) (pa_c (pe_tyG T.tuple bt_tuple) (pa_nil))))) (pss_cons (ps_if ((pw_or (pt_not (pt_val (pe_callBG (call_isiC .tup) T.isinstance bt_isinstance (pa_c (pvL 0) (pa_c (pe_tyG T.tuple bt_tuple) (pa_nil)))))) (pw_or1 (pt_cmpR (op_neK (K:=K) rfl hu) (pe_callBG (call_lenK (K:=K) rfl) T.len bt_len (pa_c (pvL 0) (pa_nil))) (pe_callBG (call_lenK (K:=K) rfl) T.len bt_len (pa_c (pvL 1) (pa_nil))) (nomark _)))).pt) (pss_one (ps_ret (pe_bl))) (pss_nil)) (pss_one (ps_ret (pe_callBG (call_allK (K:=K) rfl rfl) T.all bt_all (pa_c (pe_lc ["_law_one","_law_other"] rfl ⟨rfl,by decide +kernel,rfl,by decide +kernel⟩ (.nil) (by decide +kernel) (pi_zipP (K:=K) rfl T.zip (pa_c (pvL 0) (pa_c (pvL 1) (pa_nil)))) (fun _ _ _ _=>pg_tupK (K:=K) (n:=2) rfl rfl (pgs_cons (pg_nameL (i:=0) (show (["_law_one","_law_other"]:List Str).Nodup from by decide +kernel)) (pgs_cons (pg_nameL (i:=1) (show (["_law_one","_law_other"]:List Str).Nodup from by decide +kernel)) (pgs_nil)))) (fun _ _ _ _=>pif_nil) (fun _ _ _ _=>pe_callG C_rec passE0 (hr.mono (by omega)) (pa_c (pvL 0) (pa_c (pvL 1) (pa_nil))))) (pa_nil)))))) (pss_nil)) (pss_cons (ps_if (pt_val (pe_callBG (call_isiC .lst) T.isinstance bt_isinstance (pa_c (pvL 1) (pa_c (pe_tyG T.list bt_list) (pa_nil))))) (pss_cons (ps_if ((pw_or (pt_not (pt_val (pe_callBG (call_isiC .lst) T.isinstance bt_isinstance (pa_c (pvL 0) (pa_c (pe_tyG T.list bt_list) (pa_nil)))))) (pw_or1 (pt_cmpR (op_neK (K:=K) rfl hu) (pe_callBG (call_lenK (K:=K) rfl) T.len bt_len (pa_c (pvL 0) (pa_nil))) (pe_callBG (call_lenK (K:=K) rfl) T.len bt_len (pa_c (pvL 1) (pa_nil))) (nomark _)))).pt) (pss_one (ps_ret (pe_bl))) (pss_nil)) (pss_one (ps_ret (pe_callBG (call_allK (K:=K) rfl rfl) T.all bt_all (pa_c (pe_lc ["_law_one","_law_other"] rfl ⟨rfl,by decide +kernel,rfl,by decide +kernel⟩ (.nil) (by decide +kernel) (pi_zipG (K:=K) rfl T.zip (pa_c (pvL 0) (pa_c (pvL 1) (pa_nil)))) (fun _ _ _ _=>pg_tupK (K:=K) (n:=2) rfl rfl (pgs_cons (pg_nameL (i:=0) (show (["_law_one","_law_other"]:List Str).Nodup from by decide +kernel)) (pgs_cons (pg_nameL (i:=1) (show (["_law_one","_law_other"]:List Str).Nodup from by decide +kernel)) (pgs_nil)))) (fun _ _ _ _=>pif_nil) (fun _ _ _ _=>pe_callG C_rec passE0 (hr.mono (by omega)) (pa_c (pvL 0) (pa_c (pvL 1) (pa_nil))))) (pa_nil)))))) (pss_nil)) (pss_cons (ps_if (pt_val (pe_callBG (call_isiC .str) T.isinstance bt_isinstance (pa_c (pvL 1) (pa_c (pe_tyG T.str bt_str) (pa_nil))))) (pss_one (ps_ret (pe_and (pe_callBG (call_isiC .str) T.isinstance bt_isinstance (pa_c (pvL 0) (pa_c (pe_tyG T.str bt_str) (pa_nil)))) (pe_one (pe_cmpR (op_eqK (K:=K) rfl hu) (pvL 0) (pvL 1) (nomark _)))))) (pss_nil)) (pss_cons (ps_if (pt_cmpR op_isX (pvL 1) (pe_non) (nomark _)) (pss_one (ps_ret (pe_cmpR op_isX (pvL 0) (pe_non) (nomark _)))) (pss_nil)) (pss_one (ps_ret (pe_and (pe_callBG (call_isiC .int) T.isinstance bt_isinstance (pa_c (pvL 0) (pa_c (pe_tyG T.int bt_int) (pa_nil)))) (pe_and (pe_not (pe_callBG (call_isiC .bl) T.isinstance bt_isinstance (pa_c (pvL 0) (pa_c (pe_tyG T.bool bt_bool) (pa_nil))))) (pe_one (pe_cmpR (op_eqK (K:=K) rfl hu) (pvL 0) (pvL 1) (nomark _)))))))))),?_⟩
  rcases hA.cases with ⟨rfl,hl⟩ | ⟨a,b,xs,ys,m,rfl,rfl,rfl,h1,h2,h3,h4⟩
  ·rcases hl with rfl | ⟨i,rfl⟩ | ⟨z,rfl⟩
   ·refine seq_go fun nn hN=>?_
    and_intros
    refine ⟨trivial,.non,rfl,?_⟩
    rw [if_neg (by decide)]
    show nn _ _ _
    rw [hN]
    clear hN nn
    refine seq_go fun nn hN=>?_
    and_intros
    refine ⟨trivial,.non,rfl,?_⟩
    rw [if_neg (by decide)]
    show nn _ _ _
    rw [hN]
    clear hN nn
    refine seq_go fun nn hN=>?_
    and_intros
    refine ⟨trivial,.non,rfl,?_⟩
    rw [if_neg (by decide)]
    show nn _ _ _
    rw [hN]
    clear hN nn
    ac_nf
    exact k H (Same.refl _)
   ·refine seq_go fun nn hN=>?_
    and_intros
    refine ⟨trivial,.int,rfl,?_⟩
    rw [if_neg (by decide)]
    show nn _ _ _
    rw [hN]
    clear hN nn
    refine seq_go fun nn hN=>?_
    and_intros
    refine ⟨trivial,.int,rfl,?_⟩
    rw [if_neg (by decide)]
    show nn _ _ _
    rw [hN]
    clear hN nn
    refine seq_go fun nn hN=>?_
    and_intros
    refine ⟨trivial,.int,rfl,?_⟩
    rw [if_neg (by decide)]
    show nn _ _ _
    rw [hN]
    clear hN nn
    ac_nf
    refine ⟨trivial,.int,rfl,?_⟩
    rw [if_pos (by decide)]
    refine ⟨trivial,.int,rfl,?_⟩
    rw [if_pos (by decide)]
    exact k H (Same.refl _)
   ·refine seq_go fun nn hN=>?_
    and_intros
    refine ⟨trivial,.str,rfl,?_⟩
    rw [if_neg (by decide)]
    show nn _ _ _
    rw [hN]
    clear hN nn
    refine seq_go fun nn hN=>?_
    and_intros
    refine ⟨trivial,.str,rfl,?_⟩
    rw [if_neg (by decide)]
    show nn _ _ _
    rw [hN]
    clear hN nn
    refine seq_go fun nn hN=>?_
    and_intros
    refine ⟨trivial,.str,rfl,?_⟩
    rw [if_pos (by decide)]
    and_intros
    refine ⟨trivial,.str,rfl,?_⟩
    rw [if_pos (by decide)]
    and_intros
    exact k H (Same.refl _)
  ·have hl:=Nat.le_of_lt (small_line (show xs.length<=100000 by omega))
   rcases h1 with ⟨ha,hb⟩ | ⟨ha,hb⟩
   ·refine seq_go fun nn hN=>?_
    and_intros
    refine ⟨trivial,.tup,by rw [hb],?_⟩
    rw [if_pos (by decide)]
    clear hN
    refine seq_go fun nn hN=>?_
    and_intros
    refine ⟨trivial,.tup,by rw [ha],?_⟩
    rw [if_neg (by decide)]
    and_intros
    refine ⟨_,.inr (.of ha),_,.inr (.of hb),?_⟩
    rw [h2,decide_eq_true rfl]
    bv_omega
    show nn _ _ _
    rw [hN]
    clear hN nn
    and_intros
    refine ⟨⟨_,.of ha⟩,⟨_,.of hb⟩,lc_zipP ha hb h2 (small_line (by omega)) (fun _ _=>.bl true) ?_ ?_⟩
    ·intro x y hxy H5 t5 R hR
     and_intros
     exact ⟨x,y,rfl,(h4 (x,y) hxy).same t5,fun H6 s6=>hR H6 s6⟩
    intro D H1 hD s1 h1'
    and_intros
    refine ⟨D,(xs.zip ys).map fun _=>true,rfl,.of (by rw [h1',List.map_map];rfl),?_⟩
    rw [show ((xs.zip ys).map fun _=>true).all id=true by rw [List.all_map];exact List.all_eq_true.mpr fun _ _=>rfl]
    exact k H1 s1
   ·refine seq_go fun nn hN=>?_
    and_intros
    refine ⟨trivial,.lst,by rw [hb],?_⟩
    rw [if_neg (by decide)]
    show nn _ _ _
    rw [hN]
    clear hN nn
    refine seq_go fun nn hN=>?_
    and_intros
    refine ⟨trivial,.lst,by rw [hb],?_⟩
    rw [if_pos (by decide)]
    clear hN
    refine seq_go fun nn hN=>?_
    and_intros
    refine ⟨trivial,.lst,by rw [ha],?_⟩
    rw [if_neg (by decide)]
    and_intros
    refine ⟨_,.inl (.of ha),_,.inl (.of hb),?_⟩
    rw [h2,decide_eq_true rfl]
    bv_omega
    show nn _ _ _
    rw [hN]
    clear hN nn
    and_intros
    refine ⟨⟨_,.of ha⟩,⟨_,.of hb⟩,lc_zip (.of ha) (.of hb) (small_line (by omega)) (fun _ _=>.bl true) ?_ ?_⟩
    ·intro x y hxy H5 t5 R hR
     and_intros
     exact ⟨x,y,rfl,(h4 (x,y) hxy).same t5,fun H6 s6=>hR H6 s6⟩
    intro D H1 hD s1 h1'
    and_intros
    refine ⟨D,(xs.zip ys).map fun _=>true,rfl,.of (by rw [h1',List.map_map];rfl),?_⟩
    rw [show ((xs.zip ys).map fun _=>true).all id=true by rw [List.all_map];exact List.all_eq_true.mpr fun _ _=>rfl]
    exact k H1 s1
def sp_built (Ad:Ads):Sp:=fun vs H Q _=>∃ (p:Addr) (al:List Nat) (ws:List Int) (r:Int) (ms:List Ben),vs=[.ref p]/\H p=some (.lst ((codeR al ws r::ms.map (entR al ws r)).map fun l=>V.str (tx l)))/\CodeOk al ws r/\MsOk al ws ms/\H Ad.tb=some (tabO lamQ)/\∀ b ca dn de es H',Same H H'->H dn=none->H de=none->BookAt Ad H' b ca dn de es->CodeAt Ad H' ca al ws r->es.map nk=ms.map nk->Q (.ref b) H'
theorem sc_built:FnScope ["rows","fields","code","book","row","parts"] ["rows"] (defScope s_built):=⟨rfl,rfl,rfl,by decide +kernel,rfl,by decide +kernel,by decide +kernel⟩
theorem ok_built {f:Addr}{fd:FuncData} (F:Fun K "built" "built" s_built f fd) (T:Bl mg) (AF:AdF K mg Ad) (C_entry_written:Fnc P w K mg base (CX1 P w) 1 "entry_written" ["parts"] sp_entry_written) (C_code_written:Fnc P w K mg base (CX1 P w) 2 "code_written" ["words"] sp_code_written) (M_Book_put:Mtd P w K mg base (CX1 P w) Ad.Book "put" 5 ["self","entry","number"] (sp_Book_put Ad)) (M_Code_number:Mtd P w K mg base (CX1 P w) Ad.Code "number" 4 ["self","word"] (sp_Code_number Ad)) (K_Book:Mak P w K mg base (CX1 P w) Ad.Book "Book" 1 ["self","code"] (sp_Book_init Ad)) (K_Code:Mak P w K mg base (CX1 P w) Ad.Code "Code" 4 ["self","alphabet","weights","rest"] (sp_Code_init Ad)):FnOk P w K mg base (CX1 P w) 6 f fd ["rows"] (sp_built Ad):=by
 refine F.okX (k:=5) sc_built (fun vs H Q E h=>?_) (fun cdv A outer s H vs Q E hr h=>?_)
 ·obtain ⟨p,al,ws,r,ms,rfl,_⟩:=h
  rfl
 ·obtain ⟨p,al,ws,r,ms,rfl,hp,ok,om,Tb,k⟩:=h
  have hu:=hr.units0
  have hu1:=hu_of hr
  refine ⟨_,pss_cons (ps_setL (i:=1) sc_built.nd (pe_callG C_code_written pass_def (hr.mono (by decide)) (pa_c (pe_bmG (K:=K) rfl PySem.F.plainAttrs_str PySem.F.slot_str_split PySem.F.type_str_split mt_split (pe_ix (ix_K (K:=K) rfl) (pvL 0) (pe_int) (fun _ _=>rfl)) (pa_c (pe_str) (pa_nil))) (pa_nil)))) (pss_cons (ps_if (pt_cmpR op_isX (pvL 1) (pe_non) (nomark _)) (pss_one (ps_raise PySem.F.excBase_ValueError AF.q_NoBook AF.g_NoBook raise_def rfl (pa_c (pe_str) (pa_nil)))) (pss_nil)) (pss_cons (ps_setL (i:=2) sc_built.nd (pe_makeX K_Code pass_def (hr.mono (by decide)) (pa_c (pe_ix (ix_K (K:=K) rfl) (pvL 1) (pe_int) (fun _ _=>rfl)) (pa_c (pe_ix (ix_K (K:=K) rfl) (pvL 1) (pe_int) (fun _ _=>rfl)) (pa_c (pe_ix (ix_K (K:=K) rfl) (pvL 1) (pe_int) (fun _ _=>rfl)) (pa_nil)))))) (pss_cons (ps_setL (i:=3) sc_built.nd (pe_makeX K_Book pass_def (hr.mono (by decide)) (pa_c (pvL 2) (pa_nil)))) (pss_cons (ps_for PassesOwn.leaving rfl (pi_seqK (K:=K) rfl (pe_slice (sl_YK (K:=K) rfl) (pvL 0) (po_some (pe_int)) (po_none))) (pg_nameL (i:=4) sc_built.nd) (pss_cons (ps_setL (i:=5) sc_built.nd (pe_bmG (K:=K) rfl PySem.F.plainAttrs_str PySem.F.slot_str_split PySem.F.type_str_split mt_splitM (pvL 4) (pa_c (pe_str) (pa_c (pe_int) (pa_nil))))) (pss_one (ps_expr (pe_methX M_Book_put pass_def (hr.mono (by decide)) (pvL 3) (pa_c (pe_callG C_entry_written pass_def (hr.mono (by decide)) (pa_c (pe_slice (sl_YK (K:=K) rfl) (pvL 5) (po_some (pe_int)) (po_none)) (pa_nil))) (pa_c (pe_methX M_Code_number pass_def (hr.mono (by decide)) (pvL 2) (pa_c (pe_ix (ix_K (K:=K) rfl) (pvL 5) (pe_int) (fun _ _=>rfl)) (pa_nil))) (pa_nil)))))))) (pss_one (ps_ret (pvL 3))))))),?_⟩
  have big:∀ {u:Nat},u<=1000->u<=sizeLine:=fun hu=>Nat.le_of_lt (small_line (by omega))
  have a26:=ok.a26
  have w3:=ok.w3
  have w8:=ok.w8
  have rm:=ok.rm
  have l64:=om.few
  refine seq_go fun nn hN=>?_
  and_intros
  refine ⟨_,_,.l hp,atI_nat (j:=0) rfl,?_⟩
  show tyV K "str" (V.str (tx (codeR al ws r))) H/\_
  and_intros
  have cl:=codeR_len ok
  refine ⟨rfl,by rw [tx_len];omega,32,rfl,fun p1 H1 hp1 s1 g1=>?_⟩
  rw [tx_cps,(codeR_parts ok).1] at g1
  refine ⟨p1,al,ws,r,rfl,g1,(fun w hw=>by have:=ok.wm w hw;exact ⟨this.1,by omega⟩),by omega,w8,⟨rm.1,by omega⟩,fun t q H2 s2 g2 g3=>?_⟩
  rw [hN]
  clear hN nn
  refine seq_go fun nn hN=>?_
  and_intros
  rw [hN]
  clear hN nn
  refine seq_go fun nn hN=>?_
  and_intros
  refine ⟨_,_,.t g2,atI_nat (j:=0) rfl,_,_,.t g2,atI_nat (j:=1) rfl,_,_,.t g2,atI_nat (j:=2) rfl,?_⟩
  intro ca dc H3 hca hdc _ s3 hi ho
  refine init_made hi (s3 _ _ g3) ok fun H4 kp4 C4=>⟨rfl,?_⟩
  have s4:Same H2 H4:=fun c o e=>kp4 c o (ne_of_none e hca) (s3 _ _ e)
  rw [hN]
  clear hN nn
  have s04:=s1.trans (s2.trans s4)
  refine seq_go fun nn hN=>?_
  and_intros
  intro b bx G0 hb hbx hbb t0 g0 g0x
  refine ⟨b,bx,ca,rfl,g0,fun dn de G1 hdn hde ne1 ne2 ne3 k1 g1 gn ge=>⟨rfl,?_⟩⟩
  have t01:Same H4 G1:=fun x o e=>k1 x o (fun z=>by rw [z,hb] at e;cases e) (t0 _ _ e)
  have B1:BookAt Ad G1 b ca dn de []:=⟨⟨bx,g1⟩,gn,ge,(fun e he=>by cases he),.nil,.nil⟩
  have hdn0:H4 dn=none:=t0.free hdn
  have hde0:H4 de=none:=t0.free hde
  rw [hN]
  clear hN nn
  refine seq_go fun nn hN=>?_
  and_intros
  have sp1:=s04.trans t01
  refine ⟨_,.of (sp1 _ _ hp),fun p5 G2 hp5 t2 g5=>?_⟩
  rw [show cutV _ (some 1) none=_ from cutV_drop _ 1,List.map_cons,List.drop_one,List.tail_cons] at g5
  have n5n:p5≠dn:=fun z=>by rw [z,gn] at hp5;cases hp5
  have n5e:p5≠de:=fun z=>by rw [z,ge] at hp5;cases hp5
  refine .inl ⟨⟨_,.of g5⟩,for_lstO (xs:=(ms.map (entR al ws r)).map fun l=>V.str (tx l)) (fun i σ G=>(∃ o4 o5,σ=[some (V.ref p),some (V.ref t),some (V.ref ca),some (V.ref b),o4,o5])/\(∀ c o,c≠dn->c≠de->G2 c=some o->G c=some o)/\∃ es,BookAt Ad G b ca dn de es/\es.map nk=(ms.take i).map nk) ?_ ?_ ?_ ?_⟩
  ·exact ⟨⟨_,_,rfl⟩,(fun c o _ _ e=>e),[],B1.same t2,rfl⟩
  ·rintro i σ G _ ⟨_,kp,_⟩
   exact .of (kp _ _ n5n n5e g5)
  ·rintro i v σ G3 hi ⟨⟨o4,o5,rfl⟩,kp,es,B,he⟩ N hNx
   clear hN
   rw [List.map_map,List.getElem?_map] at hi
   obtain ⟨m,hm,rfl⟩:=Option.map_eq_some_iff.mp hi
   have hil:=(List.getElem?_eq_some_iff.mp hm).1
   have hmm:=om.en m (List.mem_of_getElem? hm)
   have etk:ms.take (i + 1)=ms.take i++[m]:=by rw [List.take_add_one,hm];rfl
   rw [etk,List.map_append] at hNx
   have sG:Same H4 G3:=fun c o e=>kp c o (fun z=>by rw [z,hdn0] at e;cases e) (fun z=>by rw [z,hde0] at e;cases e) (t2 _ _ (t01 _ _ e))
   have rl:=entR_len ok hmm
   have wo:=wd_ok ok hmm.2.1 hmm.2.2
   have kno:m.key ∉ es.map (·.key):=fun h=>by
    rw [nk_key he] at h
    have:=om.nk
    rw [← List.take_append_drop i ms,List.map_append,List.nodup_append] at this
    refine this.2.2 _ h _ ?_ rfl
    rw [List.drop_eq_getElem_cons hil,List.map_cons,(List.getElem?_eq_some_iff.mp hm).2]
    exact List.mem_cons_self
   have nno:m.num ∉ es.map (·.num):=fun h=>by
    rw [nk_num he] at h
    have:=om.up
    rw [← List.take_append_drop i ms,List.map_append,List.pairwise_append] at this
    have:=this.2.2 _ h m.num (by rw [List.drop_eq_getElem_cons hil,List.map_cons,(List.getElem?_eq_some_iff.mp hm).2];exact List.mem_cons_self)
    omega
   have les:es.length<=i:=by
    have:=congrArg List.length he
    rw [List.length_map,List.length_map,List.length_take] at this
    omega
   show tSeq _ _ _ [some (V.ref p),some (V.ref t),some (V.ref ca),some (V.ref b),some (V.str (tx (entR al ws r m))),o5] _
   refine seq_go fun n2 hM=>?_
   and_intros
   refine ⟨rfl,by rw [tx_len];omega,by decide,by decide,32,rfl,fun pp G4 hpp t4 g4=>?_⟩
   rw [tx_cps,show (2:Int).toNat=2 from rfl,(row_parts ok hmm).1] at g4
   rw [hM]
   clear hM n2
   have B4:=B.same t4
   obtain ⟨dx,hb4⟩:=B4.bk
   and_intros
   refine ⟨dx,_,hb4,bookF_none (by decide) (by decide) (by decide) ca dn de,_,.of g4,fun p6 G6 hp6 t6 g6=>?_⟩
   rw [show cutV _ (some 1) none=_ from cutV_drop _ 1,List.drop_one,List.tail_cons] at g6
   refine ⟨p6,m.key,rfl,g6,hmm.1,fun t7 G7 ht7 t67 g7=>?_⟩
   have s47:=t6.trans t67
   have sG7:=sG.trans (t4.trans s47)
   have C7:=C4.same sG7
   obtain ⟨dc7,qc7,hc71,hc72⟩:=id C7
   refine ⟨dc7,_,hc71,codeF_none (by decide) (by decide) (by decide) al qc7 r,_,_,.l (s47 _ _ g4),atI_nat (j:=0) rfl,ca,al,ws,r,V.str (tx (wdL al ws r m.num)),.str,rfl,C7,ok,rfl,(fun z e=>by cases e;rw [tx_len,wo.1];omega),(fun hg=>?_),fun z e hg G8 t8=>?_⟩
   ·rw [show isGoodV (tx al) ws r (V.str (tx (wdL al ws r m.num)))=true from by show Mk.isGoodL (tx al).cps.toList ws r (tx (wdL al ws r m.num)).cps.toList=true;rw [tx_cps,tx_cps];exact wo.2.2.1] at hg
    cases hg
   cases e
   rw [tx_cps,wo.2.2.2]
   have s48:=t4.trans (s47.trans t8)
   refine ⟨b,ca,dn,de,t7,es,al,ws,r,m.num,m.key,.int m.num,rfl,B.same s48,C4.same (sG7.trans t8),ok,(sG7.trans t8) _ _ (s04 _ _ Tb),t8 _ _ g7,hmm.1,kno,by omega,hmm.2.1,hmm.2.2,nno,.inl rfl,fun G9 kp9 B9=>hNx _ _ ⟨⟨_,_,rfl⟩,(fun c o h1 h2 e=>kp9 c o h1 h2 (s48 _ _ (kp c o h1 h2 e))),_,B9,?_⟩⟩
   rw [List.map_append,he];rfl
  ·rintro σ G3 ⟨⟨o4,o5,rfl⟩,kp,es,B,he⟩
   show nn _ _ _
   rw [hN]
   clear hN nn
   rw [List.length_map,List.length_map,List.take_of_length_le (Nat.le_refl _)] at he
   have sG:Same H4 G3:=fun c o e=>kp c o (fun z=>by rw [z,hdn0] at e;cases e) (fun z=>by rw [z,hde0] at e;cases e) (t2 _ _ (t01 _ _ e))
   and_intros
   exact k b ca dn de es G3 (s04.trans sG) (s04.free hdn0) (s04.free hde0) B (C4.same sG) he
theorem al_step {S L:List Nat}{j:Nat}{c:Nat} (h:(S++L).Perm (List.range' 97 26)) (hj:L[j]?=some c):((S++[c])++(L.take j++L.drop (j + 1))).Perm (List.range' 97 26):=by
 have e:L=L.take j++c::L.drop (j + 1):=by
  obtain ⟨hl,e⟩:=List.getElem?_eq_some_iff.mp hj
  rw [← e,List.getElem_cons_drop,List.take_append_drop]
 refine List.Perm.trans ?_ h
 conv=>rhs;rw [e]
 rw [List.append_assoc]
 exact List.Perm.append_left S (by
  rw [List.singleton_append]
  exact List.perm_middle.symm)
def sp_law_code (K:PySem.W.Frag) (Ad:Ads):Sp:=fun vs H Q _=>∃ (a:Addr) (ns:List Int),vs=[.ref a]/\SqL K H a (ns.map V.int)/\∀ ca al ws r H',Same H H'->CodeAt Ad H' ca al ws r->CodeOk al ws r->Q (.ref ca) H'
theorem sc_law_code:FnScope ["_law_script","_law_left","_law_number","_law_m","_law_size","_law_signs","_law_k","_law_at","_law_weights","_law_one"] ["_law_script"] (defScope s_law_code):=⟨rfl,rfl,rfl,by decide +kernel,rfl,by decide +kernel,by decide +kernel⟩
theorem ok_law_code {f:Addr}{fd:FuncData} (F:Fun K "_law_code" "_law_code" s_law_code f fd) (T:Bl mg) (AF:AdF K mg Ad) (C_law_weight:Fnc P w K mg base (CX1 P w) 2 "_law_weight" ["_law_weights","_law_m","_law_number"] sp_law_weight) (C_law_mixed:Fnc P w K mg base (CX1 P w) 1 "_law_mixed" ["_law_cell"] sp_law_mixed) (C_law_cell_at:Fnc P w K mg base (CX1 P w) 1 "_law_cell_at" ["_law_script","_law_k"] (sp_law_cell_at K)) (K_Code:Mak P w K mg base (CX1 P w) Ad.Code "Code" 4 ["self","alphabet","weights","rest"] (sp_Code_init Ad)):FnOk P w K mg base (CX1 P w) 6 f fd ["_law_script"] (sp_law_code K Ad):=by
 refine F.okX (k:=5) sc_law_code (fun vs H Q E h=>?_) (fun cdv A outer s H vs Q E hr h=>?_)
 ·obtain ⟨a,ns,rfl,_⟩:=h
  rfl
 ·obtain ⟨a,ns,rfl,hS,k⟩:=h
  have hu:=hr.units0
  have hu1:=hu_of hr
  refine ⟨_,pss_cons (ps_setL (i:=1) sc_law_code.nd (pe_str)) (pss_cons (ps_setL (i:=2) sc_law_code.nd (pe_callG C_law_mixed pass_def (hr.mono (by decide)) (pa_c (pe_callG C_law_cell_at pass_def (hr.mono (by decide)) (pa_c (pvL 0) (pa_c (pe_int) (pa_nil)))) (pa_nil)))) (pss_cons (ps_setL (i:=3) sc_law_code.nd (pe_op op_addX (pe_int) (pe_op op_mulS (pe_int) (pe_op op_modX (pvL 2) (pe_int))))) (pss_cons (ps_setL (i:=4) sc_law_code.nd (pe_op op_addX (pe_int) (pe_op op_modX (pe_op op_fdivX (pvL 2) (pe_int)) (pe_int)))) (pss_cons (ps_setL (i:=2) sc_law_code.nd (pe_op op_fdivX (pvL 2) (pe_int))) (pss_cons (ps_setL (i:=5) sc_law_code.nd (pe_str)) (pss_cons (ps_for PassesOwn.leaving rfl (pi_range1G T.range (pa_c (pvL 3) (pa_nil))) (pg_nameL (i:=6) sc_law_code.nd) (pss_cons (ps_setL (i:=7) sc_law_code.nd (pe_op op_modX (pvL 2) (pe_callBG (call_lenK (K:=K) rfl) T.len bt_len (pa_c (pvL 1) (pa_nil))))) (pss_cons (ps_setL (i:=2) sc_law_code.nd (pe_op op_fdivX (pvL 2) (pe_callBG (call_lenK (K:=K) rfl) T.len bt_len (pa_c (pvL 1) (pa_nil))))) (pss_cons (ps_setL (i:=5) sc_law_code.nd (pe_op op_addX (pvL 5) (pe_ix (ix_K (K:=K) rfl) (pvL 1) (pvL 7) (fun _ _=>rfl)))) (pss_one (ps_setL (i:=1) sc_law_code.nd (pe_op op_addX (pe_slice (sl_YK (K:=K) rfl) (pvL 1) (po_none) (po_some (pvL 7))) (pe_slice (sl_YK (K:=K) rfl) (pvL 1) (po_some (pe_op op_addX (pvL 7) (pe_int))) (po_none))))))))) (pss_cons (ps_setL (i:=8) sc_law_code.nd (pe_lstX (pa_nil))) (pss_cons (ps_for PassesOwn.leaving rfl (pi_range1G T.range (pa_c (pvL 4) (pa_nil))) (pg_nameL (i:=6) sc_law_code.nd) (pss_cons (ps_asg (pe_callG C_law_weight pass_def (hr.mono (by decide)) (pa_c (pvL 8) (pa_c (pvL 3) (pa_c (pvL 2) (pa_nil))))) (pg_unpK (K:=K) (n:=2) rfl rfl (pgs_cons (pg_nameL (i:=9) sc_law_code.nd) (pgs_cons (pg_nameL (i:=2) sc_law_code.nd) (pgs_nil))))) (pss_one (ps_expr (pe_bmG (K:=K) rfl PySem.F.plainAttrs_list PySem.F.slot_list_append PySem.F.type_list_append mt_append (pvL 8) (pa_c (pvL 9) (pa_nil))))))) (pss_one (ps_ret (pe_makeX K_Code pass_def (hr.mono (by decide)) (pa_c (pvL 5) (pa_c (pvL 8) (pa_c (pe_op op_modX (pvL 2) (pvL 3)) (pa_nil))))))))))))))),?_⟩
  have big:∀ {u:Nat},u<=1000->u<=sizeLine:=fun hu=>Nat.le_of_lt (small_line (by omega))
  refine seq_go fun nn hN=>?_
  and_intros
  rw [hN]
  clear hN nn
  refine seq_go fun nn hN=>?_
  and_intros
  refine ⟨a,ns,0,rfl,hS,by decide,?_⟩
  generalize ns.getD (0:Int).toNat 0=c0
  refine ⟨c0,rfl,?_⟩
  have n0:0<=mix11 c0:=mix_pos c0
  generalize mix11 c0=num at n0
  rw [hN]
  clear hN nn
  refine seq_go fun nn hN=>?_
  and_intros
  refine ⟨by decide,.inl (by decide),?_⟩
  obtain ⟨m,em⟩:=Int.eq_ofNat_of_zero_le (a:=3 + 2 * (num % 12)) (by omega)
  have m3:3<=m:=by omega
  have m25:m<=25:=by omega
  have mo:m % 2=1:=by omega
  rw [em]
  rw [hN]
  clear hN nn
  refine seq_go fun nn hN=>?_
  and_intros
  refine ⟨⟨by decide,by decide⟩,by decide,?_⟩
  obtain ⟨z,ez⟩:=Int.eq_ofNat_of_zero_le (a:=3 + num / 12 % 6) (by omega)
  have z3:3<=z:=by omega
  have z8:z<=8:=by omega
  rw [ez]
  rw [hN]
  clear hN nn
  refine seq_go fun nn hN=>?_
  and_intros
  refine ⟨⟨by decide,by decide⟩,?_⟩
  have n1:0<=num / 72:=by omega
  generalize num / 72=nu at n1
  clear em ez n0
  rw [hN]
  clear hN nn
  refine seq_go fun nn hN=>?_
  and_intros
  rw [hN]
  clear hN nn
  refine seq_go fun nn hN=>?_
  and_intros
  refine ⟨by omega,by omega,for_rngO (fun i σ H'=>H'=H/\∃ (L S:List Nat) (n:Int) (o6 o7:Option V),σ=[some (V.ref a),some (V.str (tx L)),some (V.int n),some (V.int m),some (V.int z),some (V.str (tx S)),o6,o7,none,none]/\0<=n/\S.length=i/\(S++L).Perm (List.range' 97 26)) ?_ ?_ ?_⟩
  ·exact ⟨rfl,List.range' 97 26,[],nu,_,_,rfl,n1,rfl,List.Perm.refl _⟩
  ·rintro i σ _ hi ⟨rfl,L,S,n,o6,o7,rfl,hn,hSl,hpm⟩ N hNx
   clear hN
   have hi':i < m:=by omega
   have ll:S.length + L.length=26:=by have:=hpm.length_eq;rw [List.length_append,List.length_range'] at this;exact this
   have i0:=Int.emod_nonneg n (b:=(L.length:Int)) (by omega)
   have i1:=Int.emod_lt_of_pos n (b:=(L.length:Int)) (by omega)
   obtain ⟨j,ej⟩:=Int.eq_ofNat_of_zero_le i0
   have hat:L[j]?=some (L[j]'(by omega)):=List.getElem?_eq_getElem _
   generalize L[j]'(by omega)=c at hat
   refine seq_go fun n2 hM=>?_
   and_intros
   rw [tx_len]
   refine ⟨big (by omega),by omega,?_⟩
   rw [ej]
   rw [hM]
   clear hM n2
   refine seq_go fun n2 hM=>?_
   and_intros
   rw [tx_len]
   refine ⟨big (by omega),⟨by omega,Int.lt_trans (show (L.length:Int) < 1000 by omega) (by decide)⟩,?_⟩
   rw [hM]
   clear hM n2
   refine seq_go fun n2 hM=>?_
   and_intros
   simp only [tx_len,tx_cps]
   refine ⟨big (by omega),c,atI_of (by omega) (by rw [Int.toNat_natCast];exact hat),?_⟩
   rw [show (⟨#[c]⟩:Str)=tx [c] from rfl]
   simp only [tx_len,tx_app]
   refine ⟨big (by simp;omega),?_⟩
   rw [hM]
   clear hM n2
   and_intros
   have e1:(j:Int) + 1=((j + 1:Nat):Int):=rfl
   simp only [tx_len,tx_cps,e1,cutN_take,cutN_drop,tx_app]
   refine ⟨big (by omega),big (by omega),big (by simp;omega),hNx _ _ ⟨rfl,_,_,_,_,_,rfl,Int.ediv_nonneg hn (by omega),by rw [List.length_append,hSl];rfl,al_step hpm hat⟩⟩
  rintro σ H ⟨rfl,L,S,n,o6,o7,rfl,hn,hSl,hpm⟩
  show nn _ _ _
  rw [hN]
  clear hN nn
  have snd:S.Nodup:=(List.nodup_append.mp (hpm.nodup_iff.mpr List.nodup_range')).1
  have smem:∀ c∈S,97<=c/\c < 123:=fun c hc=>by
   have:=hpm.mem_iff.mp (List.mem_append_left L hc)
   rw [List.mem_range'] at this
   obtain ⟨i,hi,rfl⟩:=this
   omega
  have sl:S.length=m:=by omega
  clear hpm
  refine seq_go fun nn hN=>?_
  and_intros
  refine ⟨Nat.zero_le _,fun D H1 hD s1 h1=>?_⟩
  rw [hN]
  clear hN nn
  refine seq_go fun nn hN=>?_
  and_intros
  refine ⟨by omega,by omega,for_rngO (fun i σ H'=>∃ (fnd:List Int) (n:Int) (o6 o9:Option V),σ=[some (V.ref a),some (V.str (tx L)),some (V.int n),some (V.int m),some (V.int z),some (V.str (tx S)),o6,o7,some (V.ref D),o9]/\Same H H'/\H' D=some (.lst (fnd.map V.int))/\fnd.length=i/\0<=n/\(∀ x∈fnd,0<=x/\x < (m:Int))/\Mk.safe m fnd=true) ?_ ?_ ?_⟩
  ·exact ⟨[],n,_,_,rfl,s1,h1,rfl,hn,(fun x hx=>by cases hx),rfl⟩
  ·rintro i σ H2 hi ⟨fnd,n,o6,o9,rfl,s2,h2,fl,hn2,hb,hs⟩ N hNx
   clear hN
   have hi':i < z:=by omega
   refine seq_go fun n2 hM=>?_
   and_intros
   refine ⟨D,fnd,m,n,rfl,h2,by omega,m3,by omega,mo,hn2,hb,hs,fun q x n' H3 hq s3 h3 x1 x2 n'0=>?_⟩
   and_intros
   refine ⟨_,.inl (.of h3),rfl,?_⟩
   and_intros
   rw [hM]
   clear hM n2
   have h23:=s3 _ _ h2
   and_intros
   refine ⟨.inl ⟨rfl,_,.of h23⟩,D,_,_,rfl,rfl,h23,by rw [List.length_map];exact small_line (by omega),hNx _ _ ⟨fnd++[x],_,_,_,rfl,(s2.trans s3).upd_new hD,by rw [upd_same,List.map_append];rfl,by rw [List.length_append,fl];rfl,n'0,fun y hy=>?_,x2⟩⟩
   rcases List.mem_append.mp hy with hy | hy
   ·exact hb y hy
   ·rw [List.mem_singleton.mp hy];exact x1
  rintro σ H2 ⟨fnd,n,o6,o9,rfl,s2,h2,fl,hn2,hb,hs⟩
  show nn _ _ _
  rw [hN]
  clear hN nn
  have r0:=Int.emod_nonneg n (b:=(m:Int)) (by omega)
  have r1:=Int.emod_lt_of_pos n (b:=(m:Int)) (by omega)
  have ok:CodeOk S fnd (n % (m:Int)):=⟨by omega,by omega,snd,smem,by omega,by omega,by rw [sl];exact hb,by rw [sl];exact hs,r0,by rw [sl];exact r1⟩
  and_intros
  refine ⟨by omega,fun ca cd H3 hca hcd hcc s3 h3a h3d=>?_⟩
  refine init_made h3a (s3 _ _ h2) ok fun H4 s4 c4=>⟨rfl,k ca S fnd _ H4 (fun b o e=>?_) c4 ok⟩
  have hb:b≠ca:=fun e2=>by rw [← e2,s2 _ _ e] at hca;cases hca
  exact s4 b o hb (s3 _ _ (s2 _ _ e))
def sp_law_filled (K:PySem.W.Frag) (Ad:Ads):Sp:=fun vs H Q _=>∃ (ca cl:Addr) (al:List Nat) (ws:List Int) (r:Int) (ns:List Int) (st:Int),vs=[.ref ca,.ref cl,.int st]/\CodeAt Ad H ca al ws r/\CodeOk al ws r/\H Ad.tb=some (tabO lamQ)/\SqL K H cl (ns.map V.int)/\ns.length<=62 ∧
 ∀ b dn de es H',Same H H'->BookAt Ad H' b ca dn de es->es.length<=ns.length->(∀ e∈es,EnOk e.key/\0<=e.num/\e.num < ManyI al ws)->Q (.ref b) H'
theorem sc_law_filled:FnScope ["_law_code_here","_law_cells","_law_start","_law_book","_law_k","_law_cell","_law_number","_law_entry_here","_law_place"] ["_law_code_here","_law_cells","_law_start"] (defScope s_law_filled):=⟨rfl,rfl,rfl,by decide +kernel,rfl,by decide +kernel,by decide +kernel⟩
theorem ok_law_filled {f:Addr}{fd:FuncData} (F:Fun K "_law_filled" "_law_filled" s_law_filled f fd) (T:Bl mg) (AF:AdF K mg Ad) (C_law_entry:Fnc P w K mg base (CX1 P w) 3 "_law_entry" ["_law_number"] sp_law_entry) (C_law_mixed:Fnc P w K mg base (CX1 P w) 1 "_law_mixed" ["_law_cell"] sp_law_mixed) (M_Book_entries:Mtd P w K mg base (CX1 P w) Ad.Book "entries" 1 ["self"] (sp_Book_entries Ad)) (M_Code_many:Mtd P w K mg base (CX1 P w) Ad.Code "many" 1 ["self"] (sp_Code_many Ad)) (M_Book_number:Mtd P w K mg base (CX1 P w) Ad.Book "number" 4 ["self","entry"] (sp_Book_number Ad)) (M_Book_entry:Mtd P w K mg base (CX1 P w) Ad.Book "entry" 3 ["self","number"] (sp_Book_entry Ad)) (M_Book_put:Mtd P w K mg base (CX1 P w) Ad.Book "put" 5 ["self","entry","number"] (sp_Book_put Ad)) (D_Book_put:MtdD P w K mg base (CX1 P w) Ad.Book "put" 5 ["self","entry","number"] (sp_Book_put Ad)) (K_Book:Mak P w K mg base (CX1 P w) Ad.Book "Book" 1 ["self","code"] (sp_Book_init Ad)):FnOk P w K mg base (CX1 P w) 6 f fd ["_law_code_here","_law_cells","_law_start"] (sp_law_filled K Ad):=by
 refine F.okX (k:=5) sc_law_filled (fun vs H Q E h=>?_) (fun cdv A outer s H vs Q E hr h=>?_)
 ·obtain ⟨ca,cl,al,ws,r,ns,st,rfl,_⟩:=h
  rfl
 ·obtain ⟨ca,cl,al,ws,r,ns,st,rfl,C,ok,Tb,hS,hlen,k⟩:=h
  have hu:=hr.units0
  have hu1:=hu_of hr
  refine ⟨_,pss_cons (ps_setL (i:=3) sc_law_filled.nd (pe_makeX K_Book pass_def (hr.mono (by decide)) (pa_c (pvL 0) (pa_nil)))) (pss_cons (ps_for PassesOwn.leaving rfl (pi_enumG (K:=K) rfl T.enumerate (pa_c (pvL 1) (pa_nil))) (pg_tupK (K:=K) (n:=2) rfl rfl (pgs_cons (pg_nameL (i:=4) sc_law_filled.nd) (pgs_cons (pg_nameL (i:=5) sc_law_filled.nd) (pgs_nil)))) (pss_cons (ps_setL (i:=6) sc_law_filled.nd (pe_callG C_law_mixed pass_def (hr.mono (by decide)) (pa_c (pe_op op_addX (pe_op op_addX (pe_op op_mulS (pe_int) (pvL 5)) (pvL 2)) (pvL 4)) (pa_nil)))) (pss_cons (ps_setL (i:=7) sc_law_filled.nd (pe_callG C_law_entry pass_def (hr.mono (by decide)) (pa_c (pe_op op_fdivX (pvL 6) (pe_int)) (pa_nil)))) (pss_one (ps_if ((pw_and (pt_cmpR op_isX (pe_methX M_Book_number pass_def (hr.mono (by decide)) (pvL 3) (pa_c (pvL 7) (pa_nil))) (pe_non) (nomark _)) (pw_and1 (pt_cmpR op_ltX (pe_callBG (call_lenK (K:=K) rfl) T.len bt_len (pa_c (pe_methX0 M_Book_entries pass_def (hr.mono (by decide)) (pvL 3)) (pa_nil))) (pe_methX0 M_Code_many pass_def (hr.mono (by decide)) (pvL 0)) (nomark _)))).pt) (pss_cons (ps_setL (i:=8) sc_law_filled.nd (pe_op op_modX (pe_ix (ix_K (K:=K) rfl) (pe_lstX (pa_c (pe_op op_fdivX (pvL 6) (pe_int)) (pa_c (pe_op op_modX (pe_op op_fdivX (pvL 6) (pe_int)) (pe_int)) (pa_nil)))) (pe_op op_modX (pvL 6) (pe_int)) (fun _ _=>rfl)) (pe_methX0 M_Code_many pass_def (hr.mono (by decide)) (pvL 0)))) (pss_one (ps_if ((pw_and (pt_cmpR op_isX (pe_methX M_Book_entry pass_def (hr.mono (by decide)) (pvL 3) (pa_c (pvL 8) (pa_nil))) (pe_non) (nomark _)) (pw_and1 (pt_cmpR op_gtX (pe_op op_modX (pvL 6) (pe_int)) (pe_int) (nomark _)))).pt) (pss_one (ps_expr (pe_methX M_Book_put pass_def (hr.mono (by decide)) (pvL 3) (pa_c (pvL 7) (pa_c (pvL 8) (pa_nil)))))) (pss_one (ps_expr (pe_methD D_Book_put pass_def (hr.mono (by decide)) (pvL 3) (pa_c (pvL 7) (pa_nil)))))))) (pss_nil)))))) (pss_one (ps_ret (pvL 3)))),?_⟩
  have big:∀ {u:Nat},u<=1000->u<=sizeLine:=fun hu=>Nat.le_of_lt (small_line (by omega))
  have a3:=ok.a3
  have a26:=ok.a26
  have w3:=ok.w3
  have w8:=ok.w8
  have hpos:0 < ManyI al ws:=Int.pow_pos (by omega)
  refine seq_go fun nn hN=>?_
  and_intros
  intro b bx G0 hb hbx hbb t0 g0 g0x
  refine ⟨b,bx,ca,rfl,g0,fun dn de G1 hdn hde ne1 ne2 ne3 k1 g1 gn ge=>⟨rfl,?_⟩⟩
  have s1:Same H G1:=fun x o e=>k1 x o (fun z=>by rw [z,hb] at e;cases e) (t0 _ _ e)
  have B1:BookAt Ad G1 b ca dn de []:=⟨⟨bx,g1⟩,gn,ge,(fun e he=>by cases he),.nil,.nil⟩
  have hdn0:H dn=none:=t0.free hdn
  have hde0:H de=none:=t0.free hde
  rw [hN]
  clear hN nn
  refine seq_go fun nn hN=>?_
  and_intros
  refine ⟨cl,rfl,⟨_,s1.seq hS⟩,?_⟩
  refine for_enumO (xs:=ns.map V.int) (fun i σ H'=>(∃ o3 o4 o5 o6 o7,σ=[some (V.ref ca),some (V.ref cl),some (V.int st),some (V.ref b),o3,o4,o5,o6,o7])/\Same H H'/\∃ es,BookAt Ad H' b ca dn de es/\es.length<=i/\∀ e∈es,EnOk e.key/\0<=e.num/\e.num < ManyI al ws) ?_ ?_ ?_ ?_
  ·exact ⟨⟨_,_,_,_,_,rfl⟩,s1,[],B1,Nat.le_refl _,fun e he=>by cases he⟩
  ·rintro i σ H' _ ⟨_,sH,_⟩
   exact sH.seq hS
  ·rintro i x σ A1 hx ⟨⟨o3,o4,o5,o6,o7,rfl⟩,sA,es,BA,el,hes⟩ N hNx p A2 zp t2 h2
   clear hN
   obtain ⟨c1,hci,rfl⟩:=map_pick hx
   have hi:i < ns.length:=(List.getElem?_eq_some_iff.mp hci).1
   refine ⟨p,_,rfl,.of h2,rfl,?_⟩
   have S2:=sA.trans t2
   have B2:=BA.same t2
   clear zp h2
   and_intros
   refine seq_go fun n2 hM=>?_
   and_intros
   refine ⟨.inl (by decide),_,rfl,?_⟩
   have hmx:0<=mix11 (64 * c1 + st + (i:Int)):=mix_pos _
   generalize mix11 (64 * c1 + st + (i:Int))=nu at hmx
   rw [hM]
   clear hM n2
   refine seq_go fun n2 hM=>?_
   and_intros
   refine ⟨by decide,nu / 3,rfl,by omega,fun q G2 hq t3 ent=>?_⟩
   obtain ⟨ks,hq2,eok⟩:=ent_ok ent
   rw [hM]
   clear hM n2 ent
   have S3:=S2.trans t3
   have t4:=t3
   have hq4:=hq2
   clear hq2 hq t3 S3
   have S4:=S2.trans t4
   have B4:=B2.same t4
   obtain ⟨dx4,h14⟩:=B4.bk
   obtain ⟨tt1,tt2⟩:=ent_tup hq4 eok
   have keep:∀ G o,Same A2 G->N [some (V.ref ca),some (V.ref cl),some (V.int st),some (V.ref b),some (V.int (i:Int)),some (V.int c1),some (V.int nu),some (V.ref q),o] G:=fun G o tG=>hNx _ _ ⟨⟨_,_,_,_,_,rfl⟩,S2.trans tG,es,B2.same tG,by omega,hes⟩
   and_intros
   refine ⟨dx4,_,h14,bookF_none (by decide) (by decide) (by decide) ca dn de,b,ca,dn,de,es,.ref q,.tup,rfl,B4,tt1,tt2,fun hv=>?_,fun q' key e1 e2 e3=>⟨fun u hu ek G5 t5=>?_,fun hno G5 t5=>?_⟩⟩
   ·rw [entV_of hq4 eok] at hv;cases hv
   ·exact keep G5 _ (t4.trans t5)
   cases e1
   have ekk:ks=key:=kVs_inj (by rw [hq4] at e2;injection e2 with e2;injection e2)
   subst ekk
   have S5:=S4.trans t5
   have B5:=B4.same t5
   obtain ⟨dx5,h15⟩:=B5.bk
   show (if (true != false)=true then _ else _)
   rw [if_pos (by decide)]
   refine ⟨dx5,_,h15,bookF_none (by decide) (by decide) (by decide) ca dn de,b,ca,dn,de,es,rfl,B5,by omega,fun D6 ws6 ms G6 hD6 t6 g6 mp ml hp=>?_⟩
   have C6:=C.same (S5.trans t6)
   obtain ⟨dc6,qc6,hc61,hc62⟩:=id C6
   refine ⟨_,.l g6,dc6,_,hc61,codeF_none (by decide) (by decide) (by decide) al qc6 r,ca,al,ws,r,rfl,C6,a26,by omega,w8,fun G7 t7=>?_⟩
   have em:(al.length:Int) ^ (ws.length - 1)=ManyI al ws:=rfl
   rw [em,paired_len hp,mp.length_eq]
   have t57:=t5.trans (t6.trans t7)
   by_cases hl:(es.length:Int) < ManyI al ws
   ·and_intros
    rw [decide_eq_true hl,if_pos rfl]
    refine seq_go fun n2 hM=>?_
    and_intros
    refine ⟨⟨by decide,by decide⟩,⟨by decide,by decide⟩,by decide,big (by decide),fun p8 G8 z8 t8 g8=>⟨by decide,?_⟩⟩
    obtain ⟨v,hv⟩:∃ v:Int,atI [V.int (nu / 5),V.int (nu / 5 % 40)] (nu % 2)=some (.int v):=by
     rcases (show nu % 2=0 ∨ nu % 2=1 by omega) with e | e
     ·exact ⟨_,by rw [e];rfl⟩
     ·exact ⟨_,by rw [e];rfl⟩
    have t48:=t4.trans (t57.trans t8)
    have C8:=C.same (S2.trans t48)
    obtain ⟨dc8,qc8,hc81,hc82⟩:=id C8
    refine ⟨_,_,.inl (.of g8),hv,dc8,_,hc81,codeF_none (by decide) (by decide) (by decide) al qc8 r,ca,al,ws,r,rfl,C8,a26,by omega,w8,fun G9 t9=>?_⟩
    rw [em]
    and_intros
    refine ⟨by omega,?_⟩
    have u0:=Int.emod_nonneg v (b:=ManyI al ws) (by omega)
    have u1:=Int.emod_lt_of_pos v (b:=ManyI al ws) (by omega)
    generalize v % ManyI al ws=pl at u0 u1
    clear hv g8
    rw [hM]
    clear hM n2
    have t49:=t48.trans t9
    have B9:=B2.same t49
    have C9:=C.same (S2.trans t49)
    have hq9:=(t57.trans (t8.trans t9)) _ _ hq4
    obtain ⟨dx9,h19⟩:=B9.bk
    have fin:∀ (n:Int) (G G':Hp),Same A2 G->0<=n->n < ManyI al ws->(∀ c o,c≠dn->c≠de->G c=some o->G' c=some o)->BookAt Ad G' b ca dn de (es++[⟨n,ks,q⟩])->N [some (V.ref ca),some (V.ref cl),some (V.int st),some (V.ref b),some (V.int (i:Int)),some (V.int c1),some (V.int nu),some (V.ref q),some (V.int pl)] G':=fun n G G' tG n0 n1 hs BG=>hNx _ _ ⟨⟨_,_,_,_,_,rfl⟩,fun x o e=>hs x o (fun z=>by rw [z,hdn0] at e;cases e) (fun z=>by rw [z,hde0] at e;cases e) ((S2.trans tG) _ _ e),es++[⟨n,ks,q⟩],BG,by rw [List.length_append];show es.length + 1<=_;omega,fun e he=>(List.mem_append.mp he).elim (hes e) fun h=>by rw [List.mem_singleton.mp h];exact ⟨eok,n0,n1⟩⟩
    have els:∀ (G:Hp),Same G9 G->∃ dx fs,G b=some (HO.ins Ad.Book dx fs)/\List.lookup (Str.ofString "put") fs=none/\spD (sp_Book_put Ad) [V.ref b,V.ref q] G (fun x H1=>N [some (V.ref ca),some (V.ref cl),some (V.int st),some (V.ref b),some (V.int (i:Int)),some (V.int c1),some (V.int nu),some (V.ref q),some (V.int pl)] H1) E:=fun G tG=>by
     have BG:=B9.same tG
     obtain ⟨dxG,h1G⟩:=BG.bk
     obtain ⟨n,Lf,hn⟩:=least_ex (es.map (·.num))
     rw [List.length_map] at hn
     refine ⟨dxG,_,h1G,bookF_none (by decide) (by decide) (by decide) ca dn de,?_⟩
     refine ⟨b,ca,dn,de,q,es,al,ws,r,n,ks,.non,rfl,BG,C9.same tG,ok,(S2.trans (t49.trans tG)) _ _ Tb,tG _ _ hq9,eok,hno,by omega,by omega,by omega,Lf.2.1,.inr ⟨rfl,Lf⟩,fun GA kA BA=>?_⟩
     exact fin n G GA (t49.trans tG) (by omega) (by omega) kA BA
    and_intros
    refine ⟨dx9,_,h19,bookF_none (by decide) (by decide) (by decide) ca dn de,b,ca,dn,de,es,al,ws,r,.int pl,.int,rfl,B9,C9,ok,rfl,(fun h=>by rw [below_int u0 u1] at h;cases h),(fun n e _ _ hn GA tA=>?_),fun n e _ _ x hx ex GA tA=>?_⟩
    ·cases e
     show (if (true != false)=true then _ else _)
     rw [if_pos (by decide)]
     refine ⟨by decide,?_⟩
     by_cases h3:0 < nu % 3
     ·rw [if_pos (decide_eq_true h3)]
      have BA:=B9.same tA
      obtain ⟨dxA,h1A⟩:=BA.bk
      refine ⟨dxA,_,h1A,bookF_none (by decide) (by decide) (by decide) ca dn de,b,ca,dn,de,q,es,al,ws,r,pl,ks,.int pl,rfl,BA,C9.same tA,ok,(S2.trans (t49.trans tA)) _ _ Tb,tA _ _ hq9,eok,hno,by omega,u0,u1,hn,.inl rfl,fun GB kB BB=>?_⟩
      exact fin pl GA GB (t49.trans tA) u0 u1 kB BB
     ·rw [if_neg (by rw [decide_eq_false h3];decide)]
      exact els GA tA
    ·exact els GA tA
   ·and_intros
    rw [decide_eq_false hl,if_neg (by decide)]
    exact keep G7 _ (t4.trans t57)
  rintro σ H2 ⟨⟨o3,o4,o5,o6,o7,rfl⟩,s2,es,B2,el,hes⟩
  show nn _ _ _
  rw [hN]
  clear hN nn
  and_intros
  exact k b dn de es H2 s2 B2 (by rw [List.length_map] at el;exact el) hes
theorem kV_leaf {H:Hp} (z:Key):ALk H 0 (kV z) (kV z):=by
 cases z with
 | inl i=>exact ⟨rfl,.inr (.inl ⟨i,rfl⟩)⟩
 | inr i=>exact ⟨rfl,.inr (.inr ⟨i,rfl⟩)⟩
theorem al_keys {H:Hp}{a b:Addr}{key:List Key} (h:H a=some (.tup (key.map kV))) (h':H b=some (.tup (key.map kV))) (hl:key.length<=2):ALk H 1 (.ref a) (.ref b):=by
 refine .inr ⟨a,b,key.map kV,key.map kV,rfl,rfl,.inl ⟨h,h'⟩,rfl,by rw [List.length_map];omega,fun p hp=>?_⟩
 rw [List.zip_map'] at hp
 obtain ⟨z,_,rfl⟩:=List.mem_map.mp hp
 exact kV_leaf z
def RowP (H:Hp) (v:V) (m:Ben):Prop:=∃ p,v=V.ref p/\H p=some (.tup [.int m.num,.ref m.adr])
theorem al_pair2 {H:Hp}{p q a b:Addr}{n:Int}{key:List Key} (hp:H p=some (.tup [.int n,.ref a])) (hq:H q=some (.tup [.int n,.ref b])) (h:H a=some (.tup (key.map kV))) (h':H b=some (.tup (key.map kV))) (hl:key.length<=2):ALk H 2 (.ref p) (.ref q):=by
 refine .inr ⟨p,q,_,_,rfl,rfl,.inl ⟨hp,hq⟩,rfl,by show 2<=1000;decide,fun u hu=>?_⟩
 have hu':u∈[(V.int n,V.int n),(V.ref a,V.ref b)]:=hu
 simp only [List.mem_cons,List.not_mem_nil,or_false] at hu'
 rcases hu' with rfl | rfl
 ·exact .inl ⟨rfl,.inr (.inl ⟨n,rfl⟩)⟩
 ·exact al_keys h h' hl
theorem rows_zip2 {H:Hp}:∀ {ws ws':List V}{ms ms':List Ben},Paired (RowP H) ws ms->Paired (RowP H) ws' ms'->ms.map nk=ms'.map nk->ws.length=ws'.length/\ws.length=ms.length/\∀ p∈ws.zip ws',∃ m∈ms,∃ m'∈ms',nk m=nk m'/\RowP H p.1 m/\RowP H p.2 m'
 | _,_,_,_,.nil,.nil,_=>⟨rfl,rfl,fun p h=>by cases h⟩
 | _,_,_,_,.nil,.cons _ _,e=>by simp at e
 | _,_,_,_,.cons _ _,.nil,e=>by simp at e
 | _,_,_,_,.cons f t,.cons f' t',e=>by
  rw [List.map_cons,List.map_cons,List.cons.injEq] at e
  obtain ⟨h1,h2,h3⟩:=rows_zip2 t t' e.2
  refine ⟨by rw [List.length_cons,List.length_cons,h1],by rw [List.length_cons,List.length_cons,h2],fun p hp=>?_⟩
  rcases List.mem_cons.mp hp with rfl | hp
  ·exact ⟨_,List.mem_cons_self,_,List.mem_cons_self,e.1,f,f'⟩
  ·obtain ⟨m,hm,m',hm',r⟩:=h3 p hp
   exact ⟨m,List.mem_cons_of_mem _ hm,m',List.mem_cons_of_mem _ hm',r⟩
theorem al_rows2 {H:Hp}{D D':Addr}{ws ws':List V}{ms ms':List Ben} (h:H D=some (.lst ws)) (h':H D'=some (.lst ws')) (p:Paired (RowP H) ws ms) (p':Paired (RowP H) ws' ms') (en:ms.map nk=ms'.map nk) (hl:ms.length<=1000) (he:∀ m∈ms,H m.adr=some (.tup (m.key.map kV))/\m.key.length<=2) (he':∀ m∈ms',H m.adr=some (.tup (m.key.map kV))):ALk H 3 (.ref D) (.ref D'):=by
 obtain ⟨h1,h2,h3⟩:=rows_zip2 p p' en
 refine .inr ⟨D,D',ws,ws',rfl,rfl,.inr ⟨h,h'⟩,h1,by omega,fun q hq=>?_⟩
 obtain ⟨m,hm,m',hm',e,⟨a,e1,q1⟩,⟨b,e2,q2⟩⟩:=h3 q hq
 have en1:m.num=m'.num:=congrArg (·.1) e
 have en2:m.key=m'.key:=congrArg (·.2) e
 rw [e1,e2]
 exact al_pair2 q1 (by rw [en1];exact q2) (he m hm).1 (by rw [en2];exact he' m' hm') (he m hm).2
def sp_law_same (Ad:Ads):Sp:=fun vs H Q _=>∃ (b ca dn de b' ca' dn' de':Addr) (es es' ms:List Ben) (al:List Nat) (ws:List Int) (r:Int),vs=[.ref b',.ref b,.ref ca]/\BookAt Ad H b ca dn de es/\BookAt Ad H b' ca' dn' de' es'/\CodeAt Ad H ca al ws r/\CodeAt Ad H ca' al ws r/\CodeOk al ws r/\es.length < 64/\(∀ e∈es,EnOk e.key)/\ms.Perm es/\(ms.map (·.num)).Pairwise (· < ·)/\es'.map nk=ms.map nk/\∀ H',Same H H'->Q (.bl true) H'
theorem sc_law_same:FnScope ["_law_found","_law_book","_law_code_here","_law_other"] ["_law_found","_law_book","_law_code_here"] (defScope s_law_same):=⟨rfl,rfl,rfl,by decide +kernel,rfl,by decide +kernel,by decide +kernel⟩
theorem ok_law_same {f:Addr}{fd:FuncData} (F:Fun K "_law_same" "_law_same" s_law_same f fd) (T:Bl mg) (AF:AdF K mg Ad) (C_law_alike:Fnc P w K mg base (CX1 P w) 5 "_law_alike" ["_law_found","_law_due"] (sp_law_alike 4)) (M_Code_rest:Mtd P w K mg base (CX1 P w) Ad.Code "rest" 1 ["self"] (sp_Code_rest Ad)) (M_Code_weights:Mtd P w K mg base (CX1 P w) Ad.Code "weights" 1 ["self"] (sp_Code_weights Ad)) (M_Code_alphabet:Mtd P w K mg base (CX1 P w) Ad.Code "alphabet" 1 ["self"] (sp_Code_alphabet Ad)) (M_Book_code:Mtd P w K mg base (CX1 P w) Ad.Book "code" 1 ["self"] (sp_Book_code Ad)) (M_Book_entries:Mtd P w K mg base (CX1 P w) Ad.Book "entries" 1 ["self"] (sp_Book_entries Ad)):FnOk P w K mg base (CX1 P w) 6 f fd ["_law_found","_law_book","_law_code_here"] (sp_law_same Ad):=by
 refine F.okX (k:=5) sc_law_same (fun vs H Q E h=>?_) (fun cdv A outer s H vs Q E hr h=>?_)
 ·obtain ⟨b,ca,dn,de,b',ca',dn',de',es,es',ms,al,ws,r,rfl,_⟩:=h
  rfl
 ·obtain ⟨b,ca,dn,de,b',ca',dn',de',es,es',ms,al,ws,r,rfl,B,B',C,C',ok,l64,hes,mp,mu,en,k⟩:=h
  have hu:=hr.units0
  have hu1:=hu_of hr
  refine ⟨_,pss_cons (ps_if ((pw_or (pt_not (pt_val (pe_callBG (call_isiGK (K:=K) rfl) T.isinstance bt_isinstance (pa_c (pvL 0) (pa_c (pe_globR AF.g_Book) (pa_nil)))))) (pw_or1 (pt_not (pt_val (pe_callG C_law_alike pass_def (hr.mono (by decide)) (pa_c (pe_methX0 M_Book_entries pass_def (hr.mono (by decide)) (pvL 0)) (pa_c (pe_methX0 M_Book_entries pass_def (hr.mono (by decide)) (pvL 1)) (pa_nil)))))))).pt) (pss_one (ps_ret (pe_bl))) (pss_nil)) (pss_cons (ps_setL (i:=3) sc_law_same.nd (pe_methX0 M_Book_code pass_def (hr.mono (by decide)) (pvL 0))) (pss_one (ps_ret (pe_and (pe_cmpR (op_eqK (K:=K) rfl hu) (pe_methX0 M_Code_alphabet pass_def (hr.mono (by decide)) (pvL 3)) (pe_methX0 M_Code_alphabet pass_def (hr.mono (by decide)) (pvL 2)) (nomark _)) (pe_and (pe_cmpR (op_eqK (K:=K) rfl hu) (pe_methX0 M_Code_weights pass_def (hr.mono (by decide)) (pvL 3)) (pe_methX0 M_Code_weights pass_def (hr.mono (by decide)) (pvL 2)) (nomark _)) (pe_one (pe_cmpR (op_eqK (K:=K) rfl hu) (pe_methX0 M_Code_rest pass_def (hr.mono (by decide)) (pvL 3)) (pe_methX0 M_Code_rest pass_def (hr.mono (by decide)) (pvL 2)) (nomark _)))))))),?_⟩
  have l64':es'.length < 64:=by
   have h1:=congrArg List.length en
   rw [List.length_map,List.length_map,mp.length_eq] at h1
   omega
  obtain ⟨dx',hb'⟩:=B'.bk
  refine seq_go fun nn hN=>?_
  and_intros
  refine ⟨_,_,AF.i_Book.ty AF.c_Book hb',.inl AF.i_Book.e,?_⟩
  rw [if_neg (by decide)]
  refine ⟨dx',_,hb',bookF_none (by decide) (by decide) (by decide) ca' dn' de',b',ca',dn',de',es',rfl,B',l64',fun D1 vs1 ms1 H1 hD1 s1 g1 mp1 mu1 hp1=>?_⟩
  obtain ⟨dx,hb⟩:=(B.same s1).bk
  refine ⟨dx,_,hb,bookF_none (by decide) (by decide) (by decide) ca dn de,b,ca,dn,de,es,rfl,B.same s1,l64,fun D2 vs2 ms2 H2 hD2 s2 g2 mp2 mu2 hp2=>?_⟩
  have keep:∀ {us:List V}{ls:List Ben}{H H':Hp},Same H H'->Paired (RowP H) us ls->Paired (RowP H') us ls:=fun {us ls H H'} t h=>by
   induction h with
   | nil=>exact .nil
   | cons f _ ih=>obtain ⟨p,e,q⟩:=f;exact .cons ⟨p,e,t _ _ q⟩ ih
  have n1:ms1.map nk=ms.map nk:=nk_same en mp1 mu1 mu
  have n2:ms2.map nk=ms.map nk:=nk_same rfl (mp2.trans mp.symm) mu2 mu
  have B2:=B.same (s1.trans s2)
  have B2':=B'.same (s1.trans s2)
  have s02:=s1.trans s2
  refine ⟨_,_,rfl,al_rows2 (s2 _ _ g1) g2 (keep s2 hp1) hp2 (n1.trans n2.symm) ?_ (fun m hm=>?_) (fun m hm=>B2.en m (mp2.mem_iff.mp hm)),fun H3 s3=>⟨_,rfl,?_⟩⟩
  ·rw [mp1.length_eq];omega
  ·refine ⟨B2'.en m (mp1.mem_iff.mp hm),?_⟩
   obtain ⟨m',hm',e⟩:=List.mem_map.mp (show nk m∈ms.map nk from n1 ▸ List.mem_map_of_mem hm)
   rw [← show m'.key=m.key from congrArg (·.2) e]
   exact (hes m' (mp.mem_iff.mp hm')).few
  rw [if_neg (by decide)]
  show nn _ _ _
  rw [hN]
  clear hN nn
  have s03:=s02.trans s3
  refine seq_go fun nn hN=>?_
  obtain ⟨dx3,hb3⟩:=(B'.same s03).bk
  and_intros
  refine ⟨dx3,_,hb3,bookF_none (by decide) (by decide) (by decide) ca' dn' de',b',ca',dn',de',es',rfl,B'.same s03,?_⟩
  rw [hN]
  clear hN nn
  have C3:=C.same s03
  have C3':=C'.same s03
  obtain ⟨dc,qc,hc1,hc2⟩:=id C3
  obtain ⟨dc',qc',hc1',hc2'⟩:=id C3'
  and_intros
  refine ⟨dc',_,hc1',codeF_none (by decide) (by decide) (by decide) al qc' r,ca',al,ws,r,rfl,C3',?_⟩
  refine ⟨dc,_,hc1,codeF_none (by decide) (by decide) (by decide) al qc r,ca,al,ws,r,rfl,C3,?_⟩
  and_intros
  rw [if_pos (by decide)]
  refine ⟨dc',_,hc1',codeF_none (by decide) (by decide) (by decide) al qc' r,ca',al,ws,r,rfl,C3',fun p4 H4 hp4 s4 g4=>?_⟩
  refine ⟨dc,_,s4 _ _ hc1,codeF_none (by decide) (by decide) (by decide) al qc r,ca,al,ws,r,rfl,C3.same s4,fun p5 H5 hp5 s5 g5=>?_⟩
  and_intros
  have fw:(ws.map V.int).all flatV=true:=List.all_eq_true.mpr fun v hv=>by obtain ⟨w,_,rfl⟩:=List.mem_map.mp hv;rfl
  refine ⟨_,_,.of (s5 _ _ g4),.of g5,fw,fw,?_⟩
  have ee:eqVs (ws.map V.int) (ws.map V.int)=true:=by rw [eqVs_ints];exact decide_eq_true rfl
  rw [ee]
  and_intros
  have s45:=s4.trans s5
  refine ⟨dc',_,s45 _ _ hc1',codeF_none (by decide) (by decide) (by decide) al qc' r,ca',al,ws,r,rfl,C3'.same s45,?_⟩
  refine ⟨dc,_,s45 _ _ hc1,codeF_none (by decide) (by decide) (by decide) al qc r,ca,al,ws,r,rfl,C3.same s45,?_⟩
  and_intros
  exact k H5 (s03.trans s45)
def sp_read (Ad:Ads):Sp:=fun vs H Q _=>∃ (al:List Nat) (ws:List Int) (r:Int) (ms:List Ben),vs=[.str (tx (bookT al ws r ms))]/\CodeOk al ws r/\MsOk al ws ms/\H Ad.tb=some (tabO lamQ)/\∀ b ca dn de es H',Same H H'->H dn=none->H de=none->BookAt Ad H' b ca dn de es->CodeAt Ad H' ca al ws r->es.map nk=ms.map nk->Q (.ref b) H'
theorem sc_read:FnScope ["text","book"] ["text"] (defScope s_read):=⟨rfl,rfl,rfl,by decide +kernel,rfl,by decide +kernel,by decide +kernel⟩
theorem ok_read {f:Addr}{fd:FuncData} (F:Fun K "read" "read" s_read f fd) (T:Bl mg) (AF:AdF K mg Ad) (C_shown:Fnc P w K mg base (CX1 P w) 4 "shown" ["book"] (sp_shown Ad)) (C_built:Fnc P w K mg base (CX1 P w) 6 "built" ["rows"] (sp_built Ad)):FnOk P w K mg base (CX1 P w) 7 f fd ["text"] (sp_read Ad):=by
 refine F.okX (k:=6) sc_read (fun vs H Q E h=>?_) (fun cdv A outer s H vs Q E hr h=>?_)
 ·obtain ⟨al,ws,r,ms,rfl,_⟩:=h
  rfl
 ·obtain ⟨al,ws,r,ms,rfl,ok,om,Tb,k⟩:=h
  have hu:=hr.units0
  have hu1:=hu_of hr
  refine ⟨_,pss_cons (ps_if (pt_not (pt_val (pe_callBG (call_isiC .str) T.isinstance bt_isinstance (pa_c (pvL 0) (pa_c (pe_tyG T.str bt_str) (pa_nil)))))) (pss_one (ps_raise PySem.F.excBase_ValueError AF.q_NoBook AF.g_NoBook raise_def rfl (pa_c (pe_str) (pa_nil)))) (pss_nil)) (pss_cons (ps_try0 (fun pn=>pss_one (ps_setL (i:=1) sc_read.nd (pe_callG C_built passE0 (hr.mono (by decide)) (pa_c (pe_bmG (K:=K) rfl PySem.F.plainAttrs_str PySem.F.slot_str_split PySem.F.type_str_split mt_split (pvL 0) (pa_c (pe_str) (pa_nil))) (pa_nil)))))) (pss_cons (ps_if (pt_cmpR (op_neK (K:=K) rfl hu) (pe_callG C_shown pass_def (hr.mono (by decide)) (pa_c (pvL 1) (pa_nil))) (pvL 0) (nomark _)) (pss_one (ps_raise PySem.F.excBase_ValueError AF.q_NoBook AF.g_NoBook raise_def rfl (pa_c (pe_str) (pa_nil)))) (pss_nil)) (pss_one (ps_ret (pvL 1))))),?_⟩
  refine seq_go fun nn hN=>?_
  and_intros
  refine ⟨trivial,.str,rfl,?_⟩
  rw [if_neg (by decide)]
  show nn _ _ _
  rw [hN]
  clear hN nn
  refine seq_go fun nn hN=>?_
  and_intros
  have bl:=bookT_len ok om.en om.few
  refine ⟨rfl,by rw [tx_len];exact bl,10,rfl,fun p1 H1 hp1 s1 g1=>?_⟩
  have es1:Mk.splitL 10 (bookT al ws r ms)=codeR al ws r::ms.map (entR al ws r):=by
   unfold bookT
   refine Mk.split_joinL _ (by simp) fun w hw=>?_
   rcases List.mem_cons.mp hw with rfl | hw
   ·exact (codeR_parts ok).2
   ·obtain ⟨m,hm,rfl⟩:=List.mem_map.mp hw
    exact (row_parts ok (om.en m hm)).2
  rw [tx_cps,es1] at g1
  refine ⟨p1,al,ws,r,ms,rfl,g1,ok,om,s1 _ _ Tb,fun b ca dn de es H2 s2 hd0 he0 B C he=>?_⟩
  rw [hN]
  clear hN nn
  have s02:=s1.trans s2
  have les:es.length=ms.length:=by have:=congrArg List.length he;rwa [List.length_map,List.length_map] at this
  have hen:∀ e∈es,EnOk e.key/\0<=e.num/\e.num < ManyI al ws:=fun e h=>by
   have h1:nk e∈ms.map nk:=by rw [← he];exact List.mem_map.mpr ⟨e,h,rfl⟩
   obtain ⟨m,hm,e1⟩:=List.mem_map.mp h1
   have h2:=om.en m hm
   have e2:m.num=e.num:=congrArg Prod.fst e1
   have e3:m.key=e.key:=congrArg Prod.snd e1
   rwa [e2,e3] at h2
  refine seq_go fun nn hN=>?_
  and_intros
  refine ⟨b,ca,dn,de,es,al,ws,r,rfl,B,C,ok,by have:=om.few;omega,hen,fun ms' H3 mp ml s3=>?_⟩
  and_intros
  rw [bookT_nk (nk_same he mp ml om.up)]
  rw [if_neg (by simp)]
  show nn _ _ _
  rw [hN]
  clear hN nn
  and_intros
  exact k b ca dn de es H3 (s02.trans s3) (s1.free hd0) (s1.free he0) (B.same s3) (C.same s3) he
theorem all_yes (n:Nat):((List.range n).all fun _=>true)=true:=List.all_eq_true.mpr fun _ _=>rfl
theorem ents_eq {K:PySem.W.Frag}{H:Hp}{D1 D2:Addr}{ws1 ws2:List V}{ms:List Ben} (g1:H D1=some (.lst ws1)) (g2:H D2=some (.lst ws2)) (P1:Paired (fun v (m:Ben)=>∃ p,v=V.ref p/\H p=some (.tup [.int m.num,.ref m.adr])) ws1 ms)
  (P2:Paired (fun v (m:Ben)=>∃ p,v=V.ref p/\H p=some (.tup [.int m.num,.ref m.adr])) ws2 ms):RcR K H 1 (.ref D1) (.ref D2) true:=by
 refine ⟨D1,D2,rfl,rfl,.inl ⟨ws1,ws2,.of g1,.of g2,.inr ⟨(Paired.length P1).trans (Paired.length P2).symm,fun _=>true,fun i x y e1 e2=>?_,(all_yes _).symm⟩⟩⟩
 obtain ⟨m1,f1,p1,rfl,h1⟩:=paired_at P1 e1
 obtain ⟨m2,f2,p2,rfl,h2⟩:=paired_at P2 e2
 rw [f1] at f2
 cases f2
 by_cases e:p1=p2
 ·subst e;exact .same rfl
 ·refine EqR.tup (K:=K) (H:=H) (n:=0) (fun _=>true) e (.of h1) (.of h2) (fun j u v a1 a2=>?_)
  rw [a1] at a2
  cases a2
  match j,a1 with
  | 0,a1=>cases a1;exact .same rfl
  | 1,a1=>cases a1;exact .same rfl
theorem sorted_uniq {ms ms':List Ben} (h1:(ms.map (·.num)).Pairwise (· < ·)) (h2:(ms'.map (·.num)).Pairwise (· < ·)) (hp:ms.Perm ms'):ms=ms' :=
 List.Perm.eq_of_pairwise (le:=fun a b:Ben=>a.num < b.num) (fun a b _ _ h1 h2=>absurd h2 (by omega)) (List.pairwise_map.mp h1) (List.pairwise_map.mp h2) hp
theorem cut_ints (ns:List Int) (a b:Nat):∃ l:List Int,cutV (ns.map V.int) (some (a:Int)) (some (b:Int))=l.map V.int/\l.length<=b - a:=by
 refine ⟨(ns.drop (min a ns.length)).take (min b ns.length - min a ns.length),?_,?_⟩
 ·unfold cutV
  rw [HT.sIx_nat,HT.sIx_nat,List.length_map,List.map_take,List.map_drop]
 ·rw [List.length_take,List.length_drop]
  omega
theorem en_q {k:Nat} (h:k<=5):EnOk [.inr ("phrase":Str),.inr (tx (113::(List.replicate k [32,113]).flatten))]:=⟨by
 show areWds 6 (tx (113::(List.replicate k [32,113]).flatten)).cps.toList=true
 rw [tx_cps]
 rcases (show k=0 ∨ k=1 ∨ k=2 ∨ k=3 ∨ k=4 ∨ k=5 by omega) with rfl | rfl | rfl | rfl | rfl | rfl <;> decide,Nat.le_refl 2,fun z hz=>by
 have hz':V.str z∈[V.str ("phrase":Str),V.str (tx (113::(List.replicate k [32,113]).flatten))]:=hz
 rcases List.mem_cons.mp hz' with e | e
 ·cases e;decide
 ·have e2:V.str z=V.str (tx (113::(List.replicate k [32,113]).flatten)):=List.mem_singleton.mp e
  cases e2
  rw [tx_len,List.length_cons,List.length_flatten]
  simp
  omega⟩
theorem CodeAt.past {Ad:Ads}{H H':Hp}{ca b ca' dn de:Addr}{al:List Nat}{ws:List Int}{r:Int}{es:List Ben} (C:CodeAt Ad H ca al ws r) (B:BookAt Ad H b ca' dn de es) (k:∀ c o,c≠dn->c≠de->H c=some o->H' c=some o):CodeAt Ad H' ca al ws r:=by
 obtain ⟨dc,qc,h1,h2⟩:=C
 exact ⟨dc,qc,k _ _ (fun z=>by rw [z,B.hn] at h1;cases h1) (fun z=>by rw [z,B.he] at h1;cases h1) h1,k _ _ (fun z=>by rw [z,B.hn] at h2;cases h2) (fun z=>by rw [z,B.he] at h2;cases h2) h2⟩
def sp_law (K:PySem.W.Frag) (tb:Addr):Sp:=fun vs H Q _=>∃ (a:Addr) (ns:List Int),vs=[.ref a]/\SqL K H a (ns.map V.int)/\ns.length<=63/\H tb=some (tabO lamQ)/\∀ H',Q (.bl true) H'
theorem sc_law:FnScope ["_law_script","_law_code_here","_law_book","_law_due","_law_known","_law_found","_law_again","_law_entry_here"] ["_law_script"] (defScope s_law):=⟨rfl,rfl,rfl,by decide +kernel,rfl,by decide +kernel,by decide +kernel⟩
theorem ok_law {f:Addr}{fd:FuncData} (F:Fun K "law" "law" s_law f fd) (T:Bl mg) (AF:AdF K mg Ad) (C_law_filled:Fnc P w K mg base (CX1 P w) 6 "_law_filled" ["_law_code_here","_law_cells","_law_start"] (sp_law_filled K Ad)) (C_shown:Fnc P w K mg base (CX1 P w) 4 "shown" ["book"] (sp_shown Ad)) (C_read:Fnc P w K mg base (CX1 P w) 7 "read" ["text"] (sp_read Ad)) (C_law_same:Fnc P w K mg base (CX1 P w) 6 "_law_same" ["_law_found","_law_book","_law_code_here"] (sp_law_same Ad)) (C_law_text:Fnc P w K mg base (CX1 P w) 4 "_law_text" ["_law_book","_law_code_here"] (sp_law_text Ad)) (C_law_code:Fnc P w K mg base (CX1 P w) 6 "_law_code" ["_law_script"] (sp_law_code K Ad)) (M_Code_many:Mtd P w K mg base (CX1 P w) Ad.Code "many" 1 ["self"] (sp_Code_many Ad)) (M_Book_entries:Mtd P w K mg base (CX1 P w) Ad.Book "entries" 1 ["self"] (sp_Book_entries Ad)) (M_Book_number:Mtd P w K mg base (CX1 P w) Ad.Book "number" 4 ["self","entry"] (sp_Book_number Ad)) (D_Book_put:MtdD P w K mg base (CX1 P w) Ad.Book "put" 5 ["self","entry","number"] (sp_Book_put Ad)) (K_Book:Mak P w K mg base (CX1 P w) Ad.Book "Book" 1 ["self","code"] (sp_Book_init Ad)):FnOk P w K mg base (CX1 P w) 8 f fd ["_law_script"] (sp_law K Ad.tb):=by
 refine F.okX (k:=7) sc_law (fun vs H Q E h=>?_) (fun cdv A outer s H vs Q E hr h=>?_)
 ·obtain ⟨a,ns,rfl,_⟩:=h
  rfl
 ·obtain ⟨a,ns,rfl,hS,hlen,Tb,k⟩:=h
  have hu:=hr.units0
  have hu1:=hu_of hr
  have hu9:=hr.hu9
  refine ⟨_,pss_cons (ps_setL (i:=1) sc_law.nd (pe_callG C_law_code pass_def (hr.mono (by decide)) (pa_c (pvL 0) (pa_nil)))) (pss_cons (ps_for PassesOwn.leaving rfl (pi_seqK (K:=K) rfl (pe_lstX (pa_c (pe_callG C_law_filled pass_def (hr.mono (by decide)) (pa_c (pvL 1) (pa_c (pe_slice (sl_YK (K:=K) rfl) (pvL 0) (po_some (pe_int)) (po_some (pe_int))) (pa_c (pe_int) (pa_nil))))) (pa_c (pe_makeX K_Book pass_def (hr.mono (by decide)) (pa_c (pvL 1) (pa_nil))) (pa_nil))))) (pg_nameL (i:=2) sc_law.nd) (pss_cons (ps_setL (i:=3) sc_law.nd (pe_callG C_law_text pass_def (hr.mono (by decide)) (pa_c (pvL 2) (pa_c (pvL 1) (pa_nil))))) (pss_cons (ps_setL (i:=4) sc_law.nd (pe_methX0 M_Book_entries pass_def (hr.mono (by decide)) (pvL 2))) (pss_cons (ps_setL (i:=5) sc_law.nd (pe_callG C_shown pass_def (hr.mono (by decide)) (pa_c (pvL 2) (pa_nil)))) (pss_cons (ps_if ((pw_or (pt_not (pt_val (pe_callBG (call_isiC .str) T.isinstance bt_isinstance (pa_c (pvL 5) (pa_c (pe_tyG T.str bt_str) (pa_nil)))))) (pw_or (pt_cmpR (op_neK (K:=K) rfl hu) (pvL 5) (pvL 3) (nomark _)) (pw_or1 (pt_cmpR (op_neQ (K:=K) rfl hu9) (pe_methX0 M_Book_entries pass_def (hr.mono (by decide)) (pvL 2)) (pvL 4) (nomark _))))).pt) (pss_one (ps_ret (pe_bl))) (pss_nil)) (pss_cons (ps_setL (i:=6) sc_law.nd (pe_callG C_read pass_def (hr.mono (by decide)) (pa_c (pvL 5) (pa_nil)))) (pss_cons (ps_if ((pw_or (pt_not (pt_val (pe_callG C_law_same pass_def (hr.mono (by decide)) (pa_c (pvL 6) (pa_c (pvL 2) (pa_c (pvL 1) (pa_nil))))))) (pw_or1 (pt_cmpR (op_neK (K:=K) rfl hu) (pe_callG C_shown pass_def (hr.mono (by decide)) (pa_c (pvL 6) (pa_nil))) (pvL 3) (nomark _)))).pt) (pss_one (ps_ret (pe_bl))) (pss_nil)) (pss_one (ps_if (pt_cmpR op_ltX (pe_callBG (call_lenK (K:=K) rfl) T.len bt_len (pa_c (pvL 4) (pa_nil))) (pe_methX0 M_Code_many pass_def (hr.mono (by decide)) (pvL 1)) (nomark _)) (pss_cons (ps_setL (i:=7) sc_law.nd (pe_tupX (pa_c (pe_str) (pa_c (pe_op op_addX (pe_str) (pe_op op_mulN (pe_str) (pe_op op_modX (pe_callBG (call_lenK (K:=K) rfl) T.len bt_len (pa_c (pvL 4) (pa_nil))) (pe_int)))) (pa_nil))))) (pss_cons (ps_if (pt_cmpR op_isX (pe_methX M_Book_number pass_def (hr.mono (by decide)) (pvL 6) (pa_c (pvL 7) (pa_nil))) (pe_non) (nomark _)) (pss_one (ps_expr (pe_methD D_Book_put pass_def (hr.mono (by decide)) (pvL 6) (pa_c (pvL 7) (pa_nil))))) (pss_nil)) (pss_one (ps_if ((pw_or (pt_cmpR (op_neQ (K:=K) rfl hu9) (pe_methX0 M_Book_entries pass_def (hr.mono (by decide)) (pvL 2)) (pvL 4) (nomark _)) (pw_or1 (pt_cmpR (op_neK (K:=K) rfl hu) (pe_callG C_shown pass_def (hr.mono (by decide)) (pa_c (pe_callG C_read pass_def (hr.mono (by decide)) (pa_c (pe_callG C_shown pass_def (hr.mono (by decide)) (pa_c (pvL 6) (pa_nil))) (pa_nil))) (pa_nil))) (pe_callG C_shown pass_def (hr.mono (by decide)) (pa_c (pvL 6) (pa_nil))) (nomark _)))).pt) (pss_one (ps_ret (pe_bl))) (pss_nil))))) (pss_nil)))))))))) (pss_one (ps_ret (pe_bl)))),?_⟩
  have big:∀ {u:Nat},u<=10000->u<=sizeLine:=fun hu=>Nat.le_of_lt (small_line (by omega))
  refine seq_go fun nn hN=>?_
  and_intros
  refine ⟨a,ns,rfl,hS,fun ca al ws r H1 s1 C ok=>?_⟩
  have hS1:=s1.seq hS
  have a3:=ok.a3
  have a26:=ok.a26
  have w3:=ok.w3
  have w8:=ok.w8
  rw [hN]
  clear hN nn
  refine seq_go fun nn hN=>?_
  and_intros
  obtain ⟨l1,c1,z1⟩:=cut_ints ns 1 63
  refine ⟨_,hS1,fun p1 G1 w1 t1 g1=>?_⟩
  rw [show cutV (ns.map V.int) (some 1) (some 63)=l1.map V.int from c1] at g1
  refine ⟨ca,p1,al,ws,r,l1,1,rfl,C.same t1,ok,t1 _ _ (s1 _ _ Tb),.of g1,by omega,fun b1 dn1 de1 es1 H2 s2 B1 el1 hes1=>?_⟩
  intro b2 bx G0 hb hbx hbb t0 g0 g0x
  refine ⟨b2,bx,ca,rfl,g0,fun dn2 de2 G3 hdn hde ne1 ne2 ne3 k1 g3 gn ge=>⟨rfl,big (by decide),fun D H5 hD t5 hD5=>?_⟩⟩
  have s23:Same H2 G3:=fun x o e=>k1 x o (fun z=>by rw [z,hb] at e;cases e) (t0 _ _ e)
  have s15:Same H1 H5:=t1.trans (s2.trans (s23.trans t5))
  have C5:=C.same s15
  have Tb5:=s15 _ _ (s1 _ _ Tb)
  have hbk:∀ v∈[V.ref b1,V.ref b2],∃ b dn de es,v=V.ref b/\BookAt Ad H5 b ca dn de es/\es.length<=62/\∀ e∈es,EnOk e.key/\0<=e.num/\e.num < ManyI al ws:=fun v hv=>by
   rcases List.mem_cons.mp hv with rfl | hv
   ·exact ⟨b1,dn1,de1,es1,rfl,B1.same (s23.trans t5),by omega,hes1⟩
   ·rw [List.mem_singleton.mp hv]
    exact ⟨b2,dn2,de2,[],rfl,BookAt.same ⟨⟨bx,g3⟩,gn,ge,(fun e he=>by cases he),.nil,.nil⟩ t5,by simp,fun e he=>by cases he⟩
  clear B1 el1 hes1 g3 gn ge k1 g0 g0x t0 hb hbx hbb hdn hde ne1 ne2 ne3 s23 t1 g1 w1 c1 z1 s2
  refine .inl ⟨⟨_,.of hD5⟩,for_lstO (xs:=[V.ref b1,V.ref b2]) (fun i σ G=>(∃ o2 o3 o4 o5 o6 o7,σ=[some (V.ref a),some (V.ref ca),o2,o3,o4,o5,o6,o7])/\Same H5 G) ⟨⟨_,_,_,_,_,_,rfl⟩,Same.refl _⟩ (fun i σ G _ ⟨_,t⟩=>.of (t _ _ hD5)) ?_ ?_⟩
  ·rintro i v σ G6 hi ⟨⟨o2,o3,o4,o5,o6,o7,rfl⟩,t6⟩ N hNx
   clear hN
   obtain ⟨b,dn,de,es,rfl,B,el,hes⟩:=hbk v (List.mem_of_getElem? hi)
   clear hbk
   have B6:=B.same t6
   have C6:=C5.same t6
   show tSeq _ _ _ [some (V.ref a),some (V.ref ca),some (V.ref b),o3,o4,o5,o6,o7] _
   refine seq_go fun n2 hM=>?_
   and_intros
   refine ⟨b,ca,dn,de,es,al,ws,r,rfl,B6,C6,ok,by omega,hes,fun ms G7 mp mu t7=>?_⟩
   rw [hM]
   clear hM n2
   refine seq_go fun n2 hM=>?_
   have B7:=B6.same t7
   have C7:=C6.same t7
   obtain ⟨dx7,hb7⟩:=B7.bk
   and_intros
   refine ⟨dx7,_,hb7,bookF_none (by decide) (by decide) (by decide) ca dn de,b,ca,dn,de,es,rfl,B7,by omega,fun D8 vs8 ms8 G8 hD8 t8 g8 mp8 mu8 hp8=>?_⟩
   obtain rfl:ms8=ms:=sorted_uniq mu8 mu (mp8.trans mp.symm)
   rw [hM]
   clear hM n2
   refine seq_go fun n2 hM=>?_
   have B8:=B7.same t8
   have C8:=C7.same t8
   and_intros
   refine ⟨b,ca,dn,de,es,al,ws,r,rfl,B8,C8,ok,by omega,hes,fun ms9 G9 mp9 mu9 t9=>?_⟩
   obtain rfl:ms9=ms8:=sorted_uniq mu9 mu (mp9.trans mp.symm)
   rw [hM]
   clear hM n2
   refine seq_go fun n2 hM=>?_
   and_intros
   refine ⟨trivial,.str,rfl,?_⟩
   rw [if_neg (by decide),if_neg (by decide)]
   have keep:∀ {us:List V}{ls:List Ben}{H H':Hp},Same H H'->Paired (RowP H) us ls->Paired (RowP H') us ls:=fun {us ls H H'} t h=>by
    induction h with
    | nil=>exact .nil
    | cons f _ ih=>obtain ⟨p,e,q⟩:=f;exact .cons ⟨p,e,t _ _ q⟩ ih
   have B9:=B8.same t9
   obtain ⟨dx9,hb9⟩:=B9.bk
   refine ⟨dx9,_,hb9,bookF_none (by decide) (by decide) (by decide) ca dn de,b,ca,dn,de,es,rfl,B9,by omega,fun D10 vs10 ms10 G10 hD10 t10 g10 mp10 mu10 hp10=>?_⟩
   obtain rfl:ms10=ms9:=sorted_uniq mu10 mu (mp10.trans mp.symm)
   refine ⟨1,true,by decide,ents_eq g10 ((t9.trans t10) _ _ g8) hp10 (keep (t9.trans t10) hp8),?_⟩
   rw [if_neg (by decide)]
   show n2 _ _ _
   rw [hM]
   clear hM n2
   have t510:=t6.trans (t7.trans (t8.trans (t9.trans t10)))
   have om:MsOk al ws ms10:=⟨by rw [mp.length_eq];omega,fun m hm=>hes m (mp.mem_iff.mp hm),mu,(mp.map (·.key)).nodup_iff.mpr B.nk⟩
   refine seq_go fun n2 hM=>?_
   and_intros
   refine ⟨al,ws,r,ms10,rfl,ok,om,t510 _ _ Tb5,fun b' ca' dn' de' es' G11 t11 hdn' hde' B' C' en=>?_⟩
   have hen:∀ {es'' ls:List Ben},es''.map nk=ls.map nk->(∀ e∈ls,EnOk e.key/\0<=e.num/\e.num < ManyI al ws)->∀ e∈es'',EnOk e.key/\0<=e.num/\e.num < ManyI al ws:=fun {es'' ls} he hls e h=>by
    have h1:nk e∈ls.map nk:=by rw [← he];exact List.mem_map.mpr ⟨e,h,rfl⟩
    obtain ⟨m,hm,e1⟩:=List.mem_map.mp h1
    have h2:=hls m hm
    rwa [show m.num=e.num from congrArg Prod.fst e1,show m.key=e.key from congrArg Prod.snd e1] at h2
   have len':es'.length=es.length:=by
    have h1:=congrArg List.length en
    rwa [List.length_map,List.length_map,mp.length_eq] at h1
   have hes':=hen en om.en
   rw [hM]
   clear hM n2
   refine seq_go fun n2 hM=>?_
   have B11:=B9.same (t10.trans t11)
   have C11:=C8.same (t9.trans (t10.trans t11))
   and_intros
   refine ⟨b,ca,dn,de,b',ca',dn',de',es,es',ms10,al,ws,r,rfl,B11,B',C11,C',ok,by omega,fun e he=>(hes e he).1,mp,mu,en,fun G12 t12=>?_⟩
   refine ⟨_,rfl,?_⟩
   rw [if_neg (by decide)]
   refine ⟨b',ca',dn',de',es',al,ws,r,rfl,B'.same t12,C'.same t12,ok,by omega,hes',fun ms13 G13 mp13 mu13 t13=>?_⟩
   rw [bookT_nk (nk_same en mp13 mu13 mu)]
   and_intros
   rw [if_neg (by decide)]
   show n2 _ _ _
   rw [hM]
   clear hM n2
   have t1013:=t11.trans (t12.trans t13)
   have B13:=B9.same (t10.trans t1013)
   have C13:=C11.same (t12.trans t13)
   have B'13:=B'.same (t12.trans t13)
   have C'13:=C'.same (t12.trans t13)
   have g13:=(t9.trans (t10.trans t1013)) _ _ g8
   have hp13:=keep (t9.trans (t10.trans t1013)) hp8
   have S13:=t510.trans t1013
   obtain ⟨dc13,qc13,hc131,hc132⟩:=id C13
   and_intros
   refine ⟨_,.l g13,dc13,_,hc131,codeF_none (by decide) (by decide) (by decide) al qc13 r,ca,al,ws,r,rfl,C13,a26,by omega,w8,fun G14 t14=>?_⟩
   and_intros
   have vl:vs8.length=es'.length:=by rw [len',← mp.length_eq];exact Paired.length hp8
   by_cases hm:((vs8.length:Nat):Int) < (al.length:Int) ^ (ws.length - 1)
   case neg =>
    rw [if_neg (by rw [decide_eq_false hm];decide)]
    exact hNx _ _ ⟨⟨_,_,_,_,_,_,rfl⟩,S13.trans t14⟩
   rw [if_pos (decide_eq_true hm)]
   refine seq_go fun n2 hM=>?_
   and_intros
   refine ⟨_,.l (t14 _ _ g13),?_⟩
   and_intros
   have k5:((vs8.length:Int) % 6).toNat<=5:=by omega
   refine ⟨by decide,[32,113],rfl,by omega,by omega,by decide,by decide,?_,big (by decide),fun q G15 hq t15 g15=>?_⟩
   ·rw [tx_len,List.length_flatten,List.map_replicate,List.sum_replicate_nat]
    exact big (by show 1 + _ * 2<=_;omega)
   rw [show Str.ofString "q"++tx (List.replicate ((vs8.length:Int) % 6).toNat [32,113]).flatten=tx (113::(List.replicate ((vs8.length:Int) % 6).toNat [32,113]).flatten) from tx_app [113] _] at g15
   generalize ((vs8.length:Int) % 6).toNat=kq at k5 g15
   have eok:=en_q k5
   generalize hks:[Sum.inr ("phrase":Str),Sum.inr (tx (113::(List.replicate kq [32,113]).flatten))]=ks at eok
   have hq15:G15 q=some (.tup (ks.map kV)):=by rw [← hks];exact g15
   clear g15 hks
   rw [hM]
   clear hM n2
   have t1015:=t1013.trans (t14.trans t15)
   have B'15:=B'13.same (t14.trans t15)
   have C'15:=C'13.same (t14.trans t15)
   refine cut_seq (fun σ G=>σ=[some (V.ref a),some (V.ref ca),some (V.ref b),some (V.str (tx (bookT al ws r ms10))),some (V.ref D8),some (V.str (tx (bookT al ws r ms10))),some (V.ref b'),some (V.ref q)]/\Same G10 G/\∃ es'',BookAt Ad G b' ca' dn' de' es''/\CodeAt Ad G ca' al ws r/\es''.length < 64/\∀ e∈es'',EnOk e.key/\0<=e.num/\e.num < ManyI al ws) ?_ ?_
   ·rintro σ G16 ⟨rfl,t16,es2,B2,C2,l2,hes2⟩
    clear B'15 C'15 hq15 t15 t14 hm hq t1015 G15 G14
    have B16:=B9.same (t10.trans t16)
    obtain ⟨dx16,hb16⟩:=B16.bk
    and_intros
    refine ⟨dx16,_,hb16,bookF_none (by decide) (by decide) (by decide) ca dn de,b,ca,dn,de,es,rfl,B16,by omega,fun D17 vs17 ms17 G17 hD17 t17 g17 mp17 mu17 hp17=>?_⟩
    obtain rfl:ms17=ms10:=sorted_uniq mu17 mu (mp17.trans mp.symm)
    have t917:=t9.trans (t10.trans (t16.trans t17))
    refine ⟨1,true,by decide,ents_eq g17 (t917 _ _ g8) hp17 (keep t917 hp8),?_⟩
    rw [if_neg (by decide)]
    have B2':=B2.same t17
    have C2':=C2.same t17
    refine ⟨b',ca',dn',de',es2,al,ws,r,rfl,B2',C2',ok,l2,hes2,fun ms18 G18 mp18 mu18 t18=>?_⟩
    have om18:MsOk al ws ms18:=⟨by rw [mp18.length_eq];omega,fun m hm=>hes2 m (mp18.mem_iff.mp hm),mu18,(mp18.map (·.key)).nodup_iff.mpr B2.nk⟩
    refine ⟨al,ws,r,ms18,rfl,ok,om18,(t510.trans (t16.trans (t17.trans t18))) _ _ Tb5,fun b3 ca3 dn3 de3 es3 G19 t19 _ _ B3 C3 en3=>?_⟩
    have l3:es3.length=ms18.length:=by
     have h1:=congrArg List.length en3
     rwa [List.length_map,List.length_map] at h1
    refine ⟨b3,ca3,dn3,de3,es3,al,ws,r,rfl,B3,C3,ok,by have:=om18.few;omega,hen en3 om18.en,fun ms20 G20 mp20 mu20 t20=>?_⟩
    refine ⟨b',ca',dn',de',es2,al,ws,r,rfl,B2'.same (t18.trans (t19.trans t20)),C2'.same (t18.trans (t19.trans t20)),ok,l2,hes2,fun ms21 G21 mp21 mu21 t21=>?_⟩
    obtain rfl:ms21=ms18:=sorted_uniq mu21 mu18 (mp21.trans mp18.symm)
    rw [bookT_nk (nk_same en3 mp20 mu20 mu18)]
    and_intros
    rw [if_neg (by decide)]
    exact hNx _ _ ⟨⟨_,_,_,_,_,_,rfl⟩,t510.trans (t16.trans (t17.trans (t18.trans (t19.trans (t20.trans t21)))))⟩
   ·intro U hU
    obtain ⟨dx15,hb15⟩:=B'15.bk
    obtain ⟨tt1,tt2⟩:=ent_tup hq15 eok
    and_intros
    refine ⟨dx15,_,hb15,bookF_none (by decide) (by decide) (by decide) ca' dn' de',b',ca',dn',de',es',.ref q,.tup,rfl,B'15,tt1,tt2,fun hv=>?_,fun q' key e1 e2 e3=>⟨fun u hu ek G5 t5=>?_,fun hno G5 t5=>?_⟩⟩
    ·rw [entV_of hq15 eok] at hv;cases hv
    ·show (if (false != false)=true then _ else _)
     rw [if_neg (by decide)]
     exact hU _ _ ⟨rfl,t1015.trans t5,es',B'15.same t5,C'15.same t5,by omega,hes'⟩
    cases e1
    have ekk:ks=key:=kVs_inj (by rw [hq15] at e2;injection e2 with e2;injection e2)
    subst ekk
    have BG:=B'15.same t5
    have CG:=C'15.same t5
    obtain ⟨dxG,h1G⟩:=BG.bk
    obtain ⟨n,Lf,hn⟩:=least_ex (es'.map (·.num))
    rw [List.length_map] at hn
    have em:(al.length:Int) ^ (ws.length - 1)=ManyI al ws:=rfl
    rw [em] at hm
    show (if (true != false)=true then _ else _)
    rw [if_pos (by decide)]
    refine ⟨dxG,_,h1G,bookF_none (by decide) (by decide) (by decide) ca' dn' de',?_⟩
    refine ⟨b',ca',dn',de',q,es',al,ws,r,n,ks,.non,rfl,BG,CG,ok,(t510.trans (t1015.trans t5)) _ _ Tb5,t5 _ _ hq15,eok,hno,by omega,by omega,by omega,Lf.2.1,.inr ⟨rfl,Lf⟩,fun GA kA BA=>?_⟩
    have n0:(0:Int)<=n:=by omega
    have n1:(n:Int) < ManyI al ws:=by omega
    refine hU _ _ ⟨rfl,fun x o e=>kA x o (fun z=>by rw [z,hdn'] at e;cases e) (fun z=>by rw [z,hde'] at e;cases e) ((t1015.trans t5) _ _ e),es'++[⟨n,ks,q⟩],BA,CG.past BG kA,by rw [List.length_append];show es'.length + 1 < 64;omega,fun e he=>(List.mem_append.mp he).elim (hes' e) fun h=>by rw [List.mem_singleton.mp h];exact ⟨eok,n0,n1⟩⟩
  rintro σ H2 ⟨⟨o2,o3,o4,o5,o6,o7,rfl⟩,t⟩
  show nn _ _ _
  rw [hN]
  clear hN nn
  and_intros
  exact k _
end
theorem all_mk {l : PySem.W.OpenLaw} {w : World} {K : PySem.W.Frag} {h : Heap} {mg : Str → Option Value} {fa : Addr} {k_Code k_Book k_CableError k_NoCode k_NoNumber k_NoWord k_NoEntry k_Twice k_TooMany k_NoBook k_cd k_tb : Addr} {f0 f1 f2 f3 f4 f5 f6 f7 f8 f9 f10 f11 f12 f13 f14 f15 f16 f17 f18 f19 f20 f21 f22 f23 f24 f25 f26 f27 f28 f29 f30 f31 f32 f33 f34 f35 f36 f37 f38 f39 f40 f41 f42 f43 f44 f45 f46 f47 f48 f49 f50 : Addr} (X : K.In h) (G : h.Ns mainGlobals mg) (hfa : mg "law" = some (.ref fa))
    {od0 an0 od1 an1 od2 an2 od3 an3 od4 an4 od5 an5 od6 an6 od7 an7 od8 an8 od9 an9 od10 an10 od11 an11 od12 an12 od13 an13 od14 an14 od15 an15 od16 an16 od17 an17 od18 an18 od19 an19 od20 an20 od21 an21 od22 an22 od23 an23 od24 an24 od25 an25 od26 an26 od27 an27 od28 an28 od29 an29 od30 an30 od31 an31 od32 an32 od33 an33 od34 an34 od35 an35 od36 an36 od37 an37 od38 an38 od39 an39 od40 an40 od41 an41 od42 an42 od43 an43 od44 an44 od45 an45 od46 an46 od47 an47 od48 an48 od49 an49 od50 an50 : Option Addr} {sl0 sl1 sl2 sl3 sl4 sl5 sl6 sl7 sl8 sl9 sl10 sl11 sl12 sl13 sl14 sl15 sl16 sl17 sl18 sl19 sl20 sl21 sl22 sl23 sl24 sl25 sl26 sl27 sl28 sl29 sl30 sl31 sl32 sl33 sl34 sl35 sl36 sl37 sl38 sl39 sl40 sl41 sl42 sl43 sl44 sl45 sl46 sl47 sl48 sl49 sl50 : Array (Option Value)} {oc0 kV0 dc0 pm0 cd0 ct0 oc1 kV1 dc1 pm1 cd1 ct1 oc2 kV2 dc2 pm2 cd2 ct2 oc3 kV3 dc3 pm3 cd3 ct3 oc4 kV4 dc4 pm4 cd4 ct4 oc5 kV5 dc5 pm5 cd5 ct5 oc6 kV6 dc6 pm6 cd6 ct6 oc7 kV7 dc7 pm7 cd7 ct7 oc8 kV8 dc8 pm8 cd8 ct8 oc9 kV9 dc9 pm9 cd9 ct9 oc10 kV10 dc10 pm10 cd10 ct10 oc11 kV11 dc11 pm11 cd11 ct11 oc12 kV12 dc12 pm12 cd12 ct12 oc13 kV13 dc13 pm13 cd13 ct13 oc14 kV14 dc14 pm14 cd14 ct14 oc15 kV15 dc15 pm15 cd15 ct15 oc16 kV16 dc16 pm16 cd16 ct16 oc17 kV17 dc17 pm17 cd17 ct17 oc18 kV18 dc18 pm18 cd18 ct18 oc19 kV19 dc19 pm19 cd19 ct19 oc20 kV20 dc20 pm20 cd20 ct20 oc21 kV21 dc21 pm21 cd21 ct21 oc22 kV22 dc22 pm22 cd22 ct22 oc23 kV23 dc23 pm23 cd23 ct23 oc24 kV24 dc24 pm24 cd24 ct24 oc25 kV25 dc25 pm25 cd25 ct25 oc26 kV26 dc26 pm26 ct26 oc27 kV27 dc27 pm27 cd27 ct27 oc28 kV28 dc28 pm28 cd28 ct28 oc29 kV29 dc29 pm29 cd29 ct29 oc30 kV30 dc30 pm30 cd30 ct30 oc31 kV31 dc31 pm31 cd31 ct31 oc32 kV32 dc32 pm32 cd32 ct32 oc33 kV33 dc33 pm33 cd33 ct33 oc34 kV34 dc34 pm34 cd34 ct34 oc35 kV35 dc35 pm35 cd35 ct35 oc36 kV36 dc36 pm36 cd36 ct36 oc37 kV37 dc37 pm37 cd37 ct37 oc38 kV38 dc38 pm38 cd38 ct38 oc39 kV39 dc39 pm39 cd39 ct39 oc40 kV40 dc40 pm40 cd40 ct40 oc41 kV41 dc41 pm41 cd41 ct41 oc42 kV42 dc42 pm42 cd42 ct42 oc43 kV43 dc43 pm43 cd43 ct43 oc44 kV44 dc44 pm44 cd44 ct44 oc45 kV45 dc45 pm45 cd45 ct45 oc46 kV46 dc46 pm46 cd46 ct46 oc47 kV47 dc47 pm47 cd47 ct47 oc48 kV48 dc48 pm48 cd48 ct48 oc49 kV49 dc49 pm49 cd49 ct49 oc50 kV50 dc50 pm50 cd50 ct50 : Value}
    (g_Code : PySem.W.nsIn K mainGlobals "Code" = some (some (.ref k_Code)))
    (g_Book : PySem.W.nsIn K mainGlobals "Book" = some (some (.ref k_Book)))
    (g_CableError : PySem.W.nsIn K mainGlobals "CableError" = some (some (.ref k_CableError)))
    (g_NoCode : PySem.W.nsIn K mainGlobals "NoCode" = some (some (.ref k_NoCode)))
    (g_NoNumber : PySem.W.nsIn K mainGlobals "NoNumber" = some (some (.ref k_NoNumber)))
    (g_NoWord : PySem.W.nsIn K mainGlobals "NoWord" = some (some (.ref k_NoWord)))
    (g_NoEntry : PySem.W.nsIn K mainGlobals "NoEntry" = some (some (.ref k_NoEntry)))
    (g_Twice : PySem.W.nsIn K mainGlobals "Twice" = some (some (.ref k_Twice)))
    (g_TooMany : PySem.W.nsIn K mainGlobals "TooMany" = some (some (.ref k_TooMany)))
    (g_NoBook : PySem.W.nsIn K mainGlobals "NoBook" = some (some (.ref k_NoBook)))
    (a0 : PySem.W.nsIn K mainGlobals "is_whole" = some (some (.ref f0)))
    (l0 : K.lookup f0 = some ⟨oc0, od0, .func (PySem.W.fnOf "is_whole" "is_whole" (defArgs s_is_whole) (defBody s_is_whole) (defScope s_is_whole) .none kV0 dc0 pm0 an0 cd0 ct0), sl0⟩)
    (c0 : PySem.W.codeIn K cd0 "is_whole" = true)
    (k0 : PySem.W.keepIn K (.ref f0) = true)
    (a1 : PySem.W.nsIn K mainGlobals "common_divisor" = some (some (.ref f1)))
    (l1 : K.lookup f1 = some ⟨oc1, od1, .func (PySem.W.fnOf "common_divisor" "common_divisor" (defArgs s_common_divisor) (defBody s_common_divisor) (defScope s_common_divisor) .none kV1 dc1 pm1 an1 cd1 ct1), sl1⟩)
    (c1 : PySem.W.codeIn K cd1 "common_divisor" = true)
    (k1 : PySem.W.keepIn K (.ref f1) = true)
    (a2 : PySem.W.nsIn K mainGlobals "are_safe" = some (some (.ref f2)))
    (l2 : K.lookup f2 = some ⟨oc2, od2, .func (PySem.W.fnOf "are_safe" "are_safe" (defArgs s_are_safe) (defBody s_are_safe) (defScope s_are_safe) .none kV2 dc2 pm2 an2 cd2 ct2), sl2⟩)
    (c2 : PySem.W.codeIn K cd2 "are_safe" = true)
    (k2 : PySem.W.keepIn K (.ref f2) = true)
    (a3 : PySem.W.nsIn K mainGlobals "is_alphabet" = some (some (.ref f3)))
    (l3 : K.lookup f3 = some ⟨oc3, od3, .func (PySem.W.fnOf "is_alphabet" "is_alphabet" (defArgs s_is_alphabet) (defBody s_is_alphabet) (defScope s_is_alphabet) .none kV3 dc3 pm3 an3 cd3 ct3), sl3⟩)
    (c3 : PySem.W.codeIn K cd3 "is_alphabet" = true)
    (k3 : PySem.W.keepIn K (.ref f3) = true)
    (a4 : PySem.W.nsIn K mainGlobals "is_below" = some (some (.ref f4)))
    (l4 : K.lookup f4 = some ⟨oc4, od4, .func (PySem.W.fnOf "is_below" "is_below" (defArgs s_is_below) (defBody s_is_below) (defScope s_is_below) .none kV4 dc4 pm4 an4 cd4 ct4), sl4⟩)
    (c4 : PySem.W.codeIn K cd4 "is_below" = true)
    (k4 : PySem.W.keepIn K (.ref f4) = true)
    (a5 : PySem.W.nsIn K mainGlobals "are_weights" = some (some (.ref f5)))
    (l5 : K.lookup f5 = some ⟨oc5, od5, .func (PySem.W.fnOf "are_weights" "are_weights" (defArgs s_are_weights) (defBody s_are_weights) (defScope s_are_weights) .none kV5 dc5 pm5 an5 cd5 ct5), sl5⟩)
    (c5 : PySem.W.codeIn K cd5 "are_weights" = true)
    (k5 : PySem.W.keepIn K (.ref f5) = true)
    (a6 : PySem.W.nsIn K mainGlobals "is_word" = some (some (.ref f6)))
    (l6 : K.lookup f6 = some ⟨oc6, od6, .func (PySem.W.fnOf "is_word" "is_word" (defArgs s_is_word) (defBody s_is_word) (defScope s_is_word) .none kV6 dc6 pm6 an6 cd6 ct6), sl6⟩)
    (c6 : PySem.W.codeIn K cd6 "is_word" = true)
    (k6 : PySem.W.keepIn K (.ref f6) = true)
    (a7 : PySem.W.nsIn K mainGlobals "places_of" = some (some (.ref f7)))
    (l7 : K.lookup f7 = some ⟨oc7, od7, .func (PySem.W.fnOf "places_of" "places_of" (defArgs s_places_of) (defBody s_places_of) (defScope s_places_of) .none kV7 dc7 pm7 an7 cd7 ct7), sl7⟩)
    (c7 : PySem.W.codeIn K cd7 "places_of" = true)
    (k7 : PySem.W.keepIn K (.ref f7) = true)
    (a8 : PySem.W.nsIn K mainGlobals "spelled" = some (some (.ref f8)))
    (l8 : K.lookup f8 = some ⟨oc8, od8, .func (PySem.W.fnOf "spelled" "spelled" (defArgs s_spelled) (defBody s_spelled) (defScope s_spelled) .none kV8 dc8 pm8 an8 cd8 ct8), sl8⟩)
    (c8 : PySem.W.codeIn K cd8 "spelled" = true)
    (k8 : PySem.W.keepIn K (.ref f8) = true)
    (a9 : PySem.W.nsIn K mainGlobals "are_good" = some (some (.ref f9)))
    (l9 : K.lookup f9 = some ⟨oc9, od9, .func (PySem.W.fnOf "are_good" "are_good" (defArgs s_are_good) (defBody s_are_good) (defScope s_are_good) .none kV9 dc9 pm9 an9 cd9 ct9), sl9⟩)
    (c9 : PySem.W.codeIn K cd9 "are_good" = true)
    (k9 : PySem.W.keepIn K (.ref f9) = true)
    (a10 : PySem.W.nsIn K mainGlobals "is_good" = some (some (.ref f10)))
    (l10 : K.lookup f10 = some ⟨oc10, od10, .func (PySem.W.fnOf "is_good" "is_good" (defArgs s_is_good) (defBody s_is_good) (defScope s_is_good) .none kV10 dc10 pm10 an10 cd10 ct10), sl10⟩)
    (c10 : PySem.W.codeIn K cd10 "is_good" = true)
    (k10 : PySem.W.keepIn K (.ref f10) = true)
    (a11 : PySem.W.findIn K (.ref k_Code) "__init__" = some (some (.ref f11)))
    (i11 : PySem.W.isFn K (.ref f11) = true)
    (l11 : K.lookup f11 = some ⟨oc11, od11, .func (PySem.W.fnOf "__init__" "Code.__init__" (defArgs s_Code_init) (defBody s_Code_init) (defScope s_Code_init) .none kV11 dc11 pm11 an11 cd11 ct11), sl11⟩)
    (c11 : PySem.W.codeIn K cd11 "Code.__init__" = true)
    (k11 : PySem.W.keepIn K (.ref f11) = true)
    (a12 : PySem.W.findIn K (.ref k_Code) "alphabet" = some (some (.ref f12)))
    (i12 : PySem.W.isFn K (.ref f12) = true)
    (l12 : K.lookup f12 = some ⟨oc12, od12, .func (PySem.W.fnOf "alphabet" "Code.alphabet" (defArgs s_Code_alphabet) (defBody s_Code_alphabet) (defScope s_Code_alphabet) .none kV12 dc12 pm12 an12 cd12 ct12), sl12⟩)
    (c12 : PySem.W.codeIn K cd12 "Code.alphabet" = true)
    (k12 : PySem.W.keepIn K (.ref f12) = true)
    (a13 : PySem.W.findIn K (.ref k_Code) "weights" = some (some (.ref f13)))
    (i13 : PySem.W.isFn K (.ref f13) = true)
    (l13 : K.lookup f13 = some ⟨oc13, od13, .func (PySem.W.fnOf "weights" "Code.weights" (defArgs s_Code_weights) (defBody s_Code_weights) (defScope s_Code_weights) .none kV13 dc13 pm13 an13 cd13 ct13), sl13⟩)
    (c13 : PySem.W.codeIn K cd13 "Code.weights" = true)
    (k13 : PySem.W.keepIn K (.ref f13) = true)
    (a14 : PySem.W.findIn K (.ref k_Code) "rest" = some (some (.ref f14)))
    (i14 : PySem.W.isFn K (.ref f14) = true)
    (l14 : K.lookup f14 = some ⟨oc14, od14, .func (PySem.W.fnOf "rest" "Code.rest" (defArgs s_Code_rest) (defBody s_Code_rest) (defScope s_Code_rest) .none kV14 dc14 pm14 an14 cd14 ct14), sl14⟩)
    (c14 : PySem.W.codeIn K cd14 "Code.rest" = true)
    (k14 : PySem.W.keepIn K (.ref f14) = true)
    (a15 : PySem.W.findIn K (.ref k_Code) "many" = some (some (.ref f15)))
    (i15 : PySem.W.isFn K (.ref f15) = true)
    (l15 : K.lookup f15 = some ⟨oc15, od15, .func (PySem.W.fnOf "many" "Code.many" (defArgs s_Code_many) (defBody s_Code_many) (defScope s_Code_many) .none kV15 dc15 pm15 an15 cd15 ct15), sl15⟩)
    (c15 : PySem.W.codeIn K cd15 "Code.many" = true)
    (k15 : PySem.W.keepIn K (.ref f15) = true)
    (a16 : PySem.W.findIn K (.ref k_Code) "word" = some (some (.ref f16)))
    (i16 : PySem.W.isFn K (.ref f16) = true)
    (l16 : K.lookup f16 = some ⟨oc16, od16, .func (PySem.W.fnOf "word" "Code.word" (defArgs s_Code_word) (defBody s_Code_word) (defScope s_Code_word) .none kV16 dc16 pm16 an16 cd16 ct16), sl16⟩)
    (c16 : PySem.W.codeIn K cd16 "Code.word" = true)
    (k16 : PySem.W.keepIn K (.ref f16) = true)
    (a17 : PySem.W.findIn K (.ref k_Code) "number" = some (some (.ref f17)))
    (i17 : PySem.W.isFn K (.ref f17) = true)
    (l17 : K.lookup f17 = some ⟨oc17, od17, .func (PySem.W.fnOf "number" "Code.number" (defArgs s_Code_number) (defBody s_Code_number) (defScope s_Code_number) .none kV17 dc17 pm17 an17 cd17 ct17), sl17⟩)
    (c17 : PySem.W.codeIn K cd17 "Code.number" = true)
    (k17 : PySem.W.keepIn K (.ref f17) = true)
    (a18 : PySem.W.findIn K (.ref k_Code) "has_good" = some (some (.ref f18)))
    (i18 : PySem.W.isFn K (.ref f18) = true)
    (l18 : K.lookup f18 = some ⟨oc18, od18, .func (PySem.W.fnOf "has_good" "Code.has_good" (defArgs s_Code_has_good) (defBody s_Code_has_good) (defScope s_Code_has_good) .none kV18 dc18 pm18 an18 cd18 ct18), sl18⟩)
    (c18 : PySem.W.codeIn K cd18 "Code.has_good" = true)
    (k18 : PySem.W.keepIn K (.ref f18) = true)
    (a19 : PySem.W.nsIn K mainGlobals "are_letters" = some (some (.ref f19)))
    (l19 : K.lookup f19 = some ⟨oc19, od19, .func (PySem.W.fnOf "are_letters" "are_letters" (defArgs s_are_letters) (defBody s_are_letters) (defScope s_are_letters) .none kV19 dc19 pm19 an19 cd19 ct19), sl19⟩)
    (c19 : PySem.W.codeIn K cd19 "are_letters" = true)
    (k19 : PySem.W.keepIn K (.ref f19) = true)
    (a20 : PySem.W.nsIn K mainGlobals "are_words" = some (some (.ref f20)))
    (l20 : K.lookup f20 = some ⟨oc20, od20, .func (PySem.W.fnOf "are_words" "are_words" (defArgs s_are_words) (defBody s_are_words) (defScope s_are_words) .none kV20 dc20 pm20 an20 cd20 ct20), sl20⟩)
    (c20 : PySem.W.codeIn K cd20 "are_words" = true)
    (k20 : PySem.W.keepIn K (.ref f20) = true)
    (a21 : PySem.W.nsIn K mainGlobals "number_written" = some (some (.ref f21)))
    (l21 : K.lookup f21 = some ⟨oc21, od21, .func (PySem.W.fnOf "number_written" "number_written" (defArgs s_number_written) (defBody s_number_written) (defScope s_number_written) .none kV21 dc21 pm21 an21 cd21 ct21), sl21⟩)
    (c21 : PySem.W.codeIn K cd21 "number_written" = true)
    (k21 : PySem.W.keepIn K (.ref f21) = true)
    (a22 : PySem.W.nsIn K mainGlobals "code_written" = some (some (.ref f22)))
    (l22 : K.lookup f22 = some ⟨oc22, od22, .func (PySem.W.fnOf "code_written" "code_written" (defArgs s_code_written) (defBody s_code_written) (defScope s_code_written) .none kV22 dc22 pm22 an22 cd22 ct22), sl22⟩)
    (c22 : PySem.W.codeIn K cd22 "code_written" = true)
    (k22 : PySem.W.keepIn K (.ref f22) = true)
    (a23 : PySem.W.nsIn K mainGlobals "is_entry" = some (some (.ref f23)))
    (l23 : K.lookup f23 = some ⟨oc23, od23, .func (PySem.W.fnOf "is_entry" "is_entry" (defArgs s_is_entry) (defBody s_is_entry) (defScope s_is_entry) .none kV23 dc23 pm23 an23 cd23 ct23), sl23⟩)
    (c23 : PySem.W.codeIn K cd23 "is_entry" = true)
    (k23 : PySem.W.keepIn K (.ref f23) = true)
    (a24 : PySem.W.findIn K (.ref k_Book) "__init__" = some (some (.ref f24)))
    (i24 : PySem.W.isFn K (.ref f24) = true)
    (l24 : K.lookup f24 = some ⟨oc24, od24, .func (PySem.W.fnOf "__init__" "Book.__init__" (defArgs s_Book_init) (defBody s_Book_init) (defScope s_Book_init) .none kV24 dc24 pm24 an24 cd24 ct24), sl24⟩)
    (c24 : PySem.W.codeIn K cd24 "Book.__init__" = true)
    (k24 : PySem.W.keepIn K (.ref f24) = true)
    (a25 : PySem.W.findIn K (.ref k_Book) "code" = some (some (.ref f25)))
    (i25 : PySem.W.isFn K (.ref f25) = true)
    (l25 : K.lookup f25 = some ⟨oc25, od25, .func (PySem.W.fnOf "code" "Book.code" (defArgs s_Book_code) (defBody s_Book_code) (defScope s_Book_code) .none kV25 dc25 pm25 an25 cd25 ct25), sl25⟩)
    (c25 : PySem.W.codeIn K cd25 "Book.code" = true)
    (k25 : PySem.W.keepIn K (.ref f25) = true)
    (a26 : PySem.W.findIn K (.ref k_Book) "put" = some (some (.ref f26)))
    (i26 : PySem.W.isFn K (.ref f26) = true)
    {dt26 : Addr} {tc26 : Value} {td26 : Option Addr} {tn26 : Nat} {ts26 : Array (Option Value)}
    (l26 : K.lookup f26 = some ⟨oc26, od26, .func (PySem.W.fnOf "put" "Book.put" (defArgs s_Book_put) (defBody s_Book_put) (defScope s_Book_put) (.ref dt26) kV26 dc26 pm26 an26 (.ref k_cd) ct26), sl26⟩)
    (t26 : K.lookup dt26 = some ⟨tc26, td26, .seq #[.none] tn26, ts26⟩)
    (c26 : PySem.W.codeIn K (.ref k_cd) "Book.put" = true)
    (k26 : PySem.W.keepIn K (.ref f26) = true)
    (a27 : PySem.W.findIn K (.ref k_Book) "choose" = some (some (.ref f27)))
    (i27 : PySem.W.isFn K (.ref f27) = true)
    (l27 : K.lookup f27 = some ⟨oc27, od27, .func (PySem.W.fnOf "choose" "Book.choose" (defArgs s_Book_choose) (defBody s_Book_choose) (defScope s_Book_choose) .none kV27 dc27 pm27 an27 cd27 ct27), sl27⟩)
    (c27 : PySem.W.codeIn K cd27 "Book.choose" = true)
    (k27 : PySem.W.keepIn K (.ref f27) = true)
    (a28 : PySem.W.findIn K (.ref k_Book) "least_free" = some (some (.ref f28)))
    (i28 : PySem.W.isFn K (.ref f28) = true)
    (l28 : K.lookup f28 = some ⟨oc28, od28, .func (PySem.W.fnOf "least_free" "Book.least_free" (defArgs s_Book_least_free) (defBody s_Book_least_free) (defScope s_Book_least_free) .none kV28 dc28 pm28 an28 cd28 ct28), sl28⟩)
    (c28 : PySem.W.codeIn K cd28 "Book.least_free" = true)
    (k28 : PySem.W.keepIn K (.ref f28) = true)
    (a29 : PySem.W.findIn K (.ref k_Book) "entry" = some (some (.ref f29)))
    (i29 : PySem.W.isFn K (.ref f29) = true)
    (l29 : K.lookup f29 = some ⟨oc29, od29, .func (PySem.W.fnOf "entry" "Book.entry" (defArgs s_Book_entry) (defBody s_Book_entry) (defScope s_Book_entry) .none kV29 dc29 pm29 an29 cd29 ct29), sl29⟩)
    (c29 : PySem.W.codeIn K cd29 "Book.entry" = true)
    (k29 : PySem.W.keepIn K (.ref f29) = true)
    (a30 : PySem.W.findIn K (.ref k_Book) "number" = some (some (.ref f30)))
    (i30 : PySem.W.isFn K (.ref f30) = true)
    (l30 : K.lookup f30 = some ⟨oc30, od30, .func (PySem.W.fnOf "number" "Book.number" (defArgs s_Book_number) (defBody s_Book_number) (defScope s_Book_number) .none kV30 dc30 pm30 an30 cd30 ct30), sl30⟩)
    (c30 : PySem.W.codeIn K cd30 "Book.number" = true)
    (k30 : PySem.W.keepIn K (.ref f30) = true)
    (a31 : PySem.W.findIn K (.ref k_Book) "entries" = some (some (.ref f31)))
    (i31 : PySem.W.isFn K (.ref f31) = true)
    (l31 : K.lookup f31 = some ⟨oc31, od31, .func (PySem.W.fnOf "entries" "Book.entries" (defArgs s_Book_entries) (defBody s_Book_entries) (defScope s_Book_entries) .none kV31 dc31 pm31 an31 cd31 ct31), sl31⟩)
    (c31 : PySem.W.codeIn K cd31 "Book.entries" = true)
    (k31 : PySem.W.keepIn K (.ref f31) = true)
    (a32 : PySem.W.nsIn K mainGlobals "code_row" = some (some (.ref f32)))
    (l32 : K.lookup f32 = some ⟨oc32, od32, .func (PySem.W.fnOf "code_row" "code_row" (defArgs s_code_row) (defBody s_code_row) (defScope s_code_row) .none kV32 dc32 pm32 an32 cd32 ct32), sl32⟩)
    (c32 : PySem.W.codeIn K cd32 "code_row" = true)
    (k32 : PySem.W.keepIn K (.ref f32) = true)
    (a33 : PySem.W.nsIn K mainGlobals "entry_row" = some (some (.ref f33)))
    (l33 : K.lookup f33 = some ⟨oc33, od33, .func (PySem.W.fnOf "entry_row" "entry_row" (defArgs s_entry_row) (defBody s_entry_row) (defScope s_entry_row) .none kV33 dc33 pm33 an33 cd33 ct33), sl33⟩)
    (c33 : PySem.W.codeIn K cd33 "entry_row" = true)
    (k33 : PySem.W.keepIn K (.ref f33) = true)
    (a34 : PySem.W.nsIn K mainGlobals "shown" = some (some (.ref f34)))
    (l34 : K.lookup f34 = some ⟨oc34, od34, .func (PySem.W.fnOf "shown" "shown" (defArgs s_shown) (defBody s_shown) (defScope s_shown) .none kV34 dc34 pm34 an34 cd34 ct34), sl34⟩)
    (c34 : PySem.W.codeIn K cd34 "shown" = true)
    (k34 : PySem.W.keepIn K (.ref f34) = true)
    (a35 : PySem.W.nsIn K mainGlobals "entry_written" = some (some (.ref f35)))
    (l35 : K.lookup f35 = some ⟨oc35, od35, .func (PySem.W.fnOf "entry_written" "entry_written" (defArgs s_entry_written) (defBody s_entry_written) (defScope s_entry_written) .none kV35 dc35 pm35 an35 cd35 ct35), sl35⟩)
    (c35 : PySem.W.codeIn K cd35 "entry_written" = true)
    (k35 : PySem.W.keepIn K (.ref f35) = true)
    (a36 : PySem.W.nsIn K mainGlobals "built" = some (some (.ref f36)))
    (l36 : K.lookup f36 = some ⟨oc36, od36, .func (PySem.W.fnOf "built" "built" (defArgs s_built) (defBody s_built) (defScope s_built) .none kV36 dc36 pm36 an36 cd36 ct36), sl36⟩)
    (c36 : PySem.W.codeIn K cd36 "built" = true)
    (k36 : PySem.W.keepIn K (.ref f36) = true)
    (a37 : PySem.W.nsIn K mainGlobals "read" = some (some (.ref f37)))
    (l37 : K.lookup f37 = some ⟨oc37, od37, .func (PySem.W.fnOf "read" "read" (defArgs s_read) (defBody s_read) (defScope s_read) .none kV37 dc37 pm37 an37 cd37 ct37), sl37⟩)
    (c37 : PySem.W.codeIn K cd37 "read" = true)
    (k37 : PySem.W.keepIn K (.ref f37) = true)
    (a38 : PySem.W.nsIn K mainGlobals "_law_cell_at" = some (some (.ref f38)))
    (l38 : K.lookup f38 = some ⟨oc38, od38, .func (PySem.W.fnOf "_law_cell_at" "_law_cell_at" (defArgs s_law_cell_at) (defBody s_law_cell_at) (defScope s_law_cell_at) .none kV38 dc38 pm38 an38 cd38 ct38), sl38⟩)
    (c38 : PySem.W.codeIn K cd38 "_law_cell_at" = true)
    (k38 : PySem.W.keepIn K (.ref f38) = true)
    (a39 : PySem.W.nsIn K mainGlobals "_law_mixed" = some (some (.ref f39)))
    (l39 : K.lookup f39 = some ⟨oc39, od39, .func (PySem.W.fnOf "_law_mixed" "_law_mixed" (defArgs s_law_mixed) (defBody s_law_mixed) (defScope s_law_mixed) .none kV39 dc39 pm39 an39 cd39 ct39), sl39⟩)
    (c39 : PySem.W.codeIn K cd39 "_law_mixed" = true)
    (k39 : PySem.W.keepIn K (.ref f39) = true)
    (a40 : PySem.W.nsIn K mainGlobals "_law_divisor" = some (some (.ref f40)))
    (l40 : K.lookup f40 = some ⟨oc40, od40, .func (PySem.W.fnOf "_law_divisor" "_law_divisor" (defArgs s_law_divisor) (defBody s_law_divisor) (defScope s_law_divisor) .none kV40 dc40 pm40 an40 cd40 ct40), sl40⟩)
    (c40 : PySem.W.codeIn K cd40 "_law_divisor" = true)
    (k40 : PySem.W.keepIn K (.ref f40) = true)
    (a41 : PySem.W.nsIn K mainGlobals "_law_weight" = some (some (.ref f41)))
    (l41 : K.lookup f41 = some ⟨oc41, od41, .func (PySem.W.fnOf "_law_weight" "_law_weight" (defArgs s_law_weight) (defBody s_law_weight) (defScope s_law_weight) .none kV41 dc41 pm41 an41 cd41 ct41), sl41⟩)
    (c41 : PySem.W.codeIn K cd41 "_law_weight" = true)
    (k41 : PySem.W.keepIn K (.ref f41) = true)
    (a42 : PySem.W.nsIn K mainGlobals "_law_code" = some (some (.ref f42)))
    (l42 : K.lookup f42 = some ⟨oc42, od42, .func (PySem.W.fnOf "_law_code" "_law_code" (defArgs s_law_code) (defBody s_law_code) (defScope s_law_code) .none kV42 dc42 pm42 an42 cd42 ct42), sl42⟩)
    (c42 : PySem.W.codeIn K cd42 "_law_code" = true)
    (k42 : PySem.W.keepIn K (.ref f42) = true)
    (a43 : PySem.W.nsIn K mainGlobals "_law_word" = some (some (.ref f43)))
    (l43 : K.lookup f43 = some ⟨oc43, od43, .func (PySem.W.fnOf "_law_word" "_law_word" (defArgs s_law_word) (defBody s_law_word) (defScope s_law_word) .none kV43 dc43 pm43 an43 cd43 ct43), sl43⟩)
    (c43 : PySem.W.codeIn K cd43 "_law_word" = true)
    (k43 : PySem.W.keepIn K (.ref f43) = true)
    (a44 : PySem.W.nsIn K mainGlobals "_law_some_words" = some (some (.ref f44)))
    (l44 : K.lookup f44 = some ⟨oc44, od44, .func (PySem.W.fnOf "_law_some_words" "_law_some_words" (defArgs s_law_some_words) (defBody s_law_some_words) (defScope s_law_some_words) .none kV44 dc44 pm44 an44 cd44 ct44), sl44⟩)
    (c44 : PySem.W.codeIn K cd44 "_law_some_words" = true)
    (k44 : PySem.W.keepIn K (.ref f44) = true)
    (a45 : PySem.W.nsIn K mainGlobals "_law_entry" = some (some (.ref f45)))
    (l45 : K.lookup f45 = some ⟨oc45, od45, .func (PySem.W.fnOf "_law_entry" "_law_entry" (defArgs s_law_entry) (defBody s_law_entry) (defScope s_law_entry) .none kV45 dc45 pm45 an45 cd45 ct45), sl45⟩)
    (c45 : PySem.W.codeIn K cd45 "_law_entry" = true)
    (k45 : PySem.W.keepIn K (.ref f45) = true)
    (a46 : PySem.W.nsIn K mainGlobals "_law_filled" = some (some (.ref f46)))
    (l46 : K.lookup f46 = some ⟨oc46, od46, .func (PySem.W.fnOf "_law_filled" "_law_filled" (defArgs s_law_filled) (defBody s_law_filled) (defScope s_law_filled) .none kV46 dc46 pm46 an46 cd46 ct46), sl46⟩)
    (c46 : PySem.W.codeIn K cd46 "_law_filled" = true)
    (k46 : PySem.W.keepIn K (.ref f46) = true)
    (a47 : PySem.W.nsIn K mainGlobals "_law_alike" = some (some (.ref f47)))
    (l47 : K.lookup f47 = some ⟨oc47, od47, .func (PySem.W.fnOf "_law_alike" "_law_alike" (defArgs s_law_alike) (defBody s_law_alike) (defScope s_law_alike) .none kV47 dc47 pm47 an47 cd47 ct47), sl47⟩)
    (c47 : PySem.W.codeIn K cd47 "_law_alike" = true)
    (k47 : PySem.W.keepIn K (.ref f47) = true)
    (a48 : PySem.W.nsIn K mainGlobals "_law_text" = some (some (.ref f48)))
    (l48 : K.lookup f48 = some ⟨oc48, od48, .func (PySem.W.fnOf "_law_text" "_law_text" (defArgs s_law_text) (defBody s_law_text) (defScope s_law_text) .none kV48 dc48 pm48 an48 cd48 ct48), sl48⟩)
    (c48 : PySem.W.codeIn K cd48 "_law_text" = true)
    (k48 : PySem.W.keepIn K (.ref f48) = true)
    (a49 : PySem.W.nsIn K mainGlobals "_law_same" = some (some (.ref f49)))
    (l49 : K.lookup f49 = some ⟨oc49, od49, .func (PySem.W.fnOf "_law_same" "_law_same" (defArgs s_law_same) (defBody s_law_same) (defScope s_law_same) .none kV49 dc49 pm49 an49 cd49 ct49), sl49⟩)
    (c49 : PySem.W.codeIn K cd49 "_law_same" = true)
    (k49 : PySem.W.keepIn K (.ref f49) = true)
    (a50 : PySem.W.nsIn K mainGlobals "law" = some (some (.ref f50)))
    (l50 : K.lookup f50 = some ⟨oc50, od50, .func (PySem.W.fnOf "law" "law" (defArgs s_law) (defBody s_law) (defScope s_law) .none kV50 dc50 pm50 an50 cd50 ct50), sl50⟩)
    (c50 : PySem.W.codeIn K cd50 "law" = true)
    (k50 : PySem.W.keepIn K (.ref f50) = true)
    (pg_Code : PySem.W.plainGet K k_Code Str.empty = true)
    (hd_Code : PySem.W.hasDictIn K k_Code = true)
    (po_Code : PySem.W.plainOver K k_Code = true)
    (sa_Code : PySem.W.findIn K (.ref k_Code) "__setattr__" = some (some (.builtin "object.__setattr__")))
    (mk_Code : PySem.W.makesIn K k_Code = true)
    (kc_Code : PySem.W.keepIn K (.ref k_Code) = true)
    (n_Code_letters : PySem.W.findIn K (.ref k_Code) "letters" = some none)
    (n_Code_factors : PySem.W.findIn K (.ref k_Code) "factors" = some none)
    (n_Code_remainder : PySem.W.findIn K (.ref k_Code) "remainder" = some none)
    (pg_Book : PySem.W.plainGet K k_Book Str.empty = true)
    (hd_Book : PySem.W.hasDictIn K k_Book = true)
    (po_Book : PySem.W.plainOver K k_Book = true)
    (sa_Book : PySem.W.findIn K (.ref k_Book) "__setattr__" = some (some (.builtin "object.__setattr__")))
    (mk_Book : PySem.W.makesIn K k_Book = true)
    (kc_Book : PySem.W.keepIn K (.ref k_Book) = true)
    (n_Book_basis : PySem.W.findIn K (.ref k_Book) "basis" = some none)
    (n_Book_by_number : PySem.W.findIn K (.ref k_Book) "by_number" = some none)
    (n_Book_by_entry : PySem.W.findIn K (.ref k_Book) "by_entry" = some none)
    (q_NoCode : PySem.W.excIn K k_NoCode [.type "ValueError", .type "Exception", .type "BaseException", .type "object"] "ValueError.__new__" = true)
    (q_NoNumber : PySem.W.excIn K k_NoNumber [.type "ValueError", .type "Exception", .type "BaseException", .type "object"] "ValueError.__new__" = true)
    (q_NoWord : PySem.W.excIn K k_NoWord [.type "ValueError", .type "Exception", .type "BaseException", .type "object"] "ValueError.__new__" = true)
    (q_NoEntry : PySem.W.excIn K k_NoEntry [.type "ValueError", .type "Exception", .type "BaseException", .type "object"] "ValueError.__new__" = true)
    (q_Twice : PySem.W.excIn K k_Twice [.type "ValueError", .type "Exception", .type "BaseException", .type "object"] "ValueError.__new__" = true)
    (q_TooMany : PySem.W.excIn K k_TooMany [.type "ValueError", .type "Exception", .type "BaseException", .type "object"] "ValueError.__new__" = true)
    (q_NoBook : PySem.W.excIn K k_NoBook [.type "ValueError", .type "Exception", .type "BaseException", .type "object"] "ValueError.__new__" = true)
    (ia_Book : PySem.W.findIn K (.ref k_Book) "__class__" = some (some (.builtin "object.__class__")))
    (ib_Book : PySem.W.specialIn K (.builtin "object.__class__") "__get__" = some (some (.builtin "getset_descriptor.__get__")))
    (ic_Book : PySem.W.takesIn K (.builtin "object.__class__") = some true)
    (id_Book : PySem.W.mroIn K k_Book (.type "object") = some true)
    (ie_Book : PySem.W.kitOne K (.ref k_Book) (.ref k_Book) = some true)
    (tab : PySem.W.codeHdIn K k_cd k_tb = true)
    (err : errAll K k_CableError [k_NoCode, k_NoNumber, k_NoWord, k_NoEntry, k_Twice, k_TooMany, k_NoBook] = true)
    (ndx : ndB [k_NoCode, k_NoNumber, k_NoWord, k_NoEntry, k_Twice, k_TooMany, k_NoBook] = true)
    {u_SMALL_LETTERS : Value}
    (v_SMALL_LETTERS : PySem.W.nsIn K mainGlobals "SMALL_LETTERS" = some (some u_SMALL_LETTERS))
    (r_SMALL_LETTERS : RelV (.str "abcdefghijklmnopqrstuvwxyz") u_SMALL_LETTERS)
    {u_FIGURES : Value}
    (v_FIGURES : PySem.W.nsIn K mainGlobals "FIGURES" = some (some u_FIGURES))
    (r_FIGURES : RelV (.str "0123456789") u_FIGURES)
    {u_MOST_FIGURES : Value}
    (v_MOST_FIGURES : PySem.W.nsIn K mainGlobals "MOST_FIGURES" = some (some u_MOST_FIGURES))
    (r_MOST_FIGURES : RelV (.int 9) u_MOST_FIGURES)
    {u_LONGEST_WORD : Value}
    (v_LONGEST_WORD : PySem.W.nsIn K mainGlobals "LONGEST_WORD" = some (some u_LONGEST_WORD))
    (r_LONGEST_WORD : RelV (.int 20) u_LONGEST_WORD)
    {u_MOST_ENTRIES : Value}
    (v_MOST_ENTRIES : PySem.W.nsIn K mainGlobals "MOST_ENTRIES" = some (some u_MOST_ENTRIES))
    (r_MOST_ENTRIES : RelV (.int 300) u_MOST_ENTRIES)
    {u_MOST_PHRASE_WORDS : Value}
    (v_MOST_PHRASE_WORDS : PySem.W.nsIn K mainGlobals "MOST_PHRASE_WORDS" = some (some u_MOST_PHRASE_WORDS))
    (r_MOST_PHRASE_WORDS : RelV (.int 6) u_MOST_PHRASE_WORDS)
    {u_MOST_PART_LETTERS : Value}
    (v_MOST_PART_LETTERS : PySem.W.nsIn K mainGlobals "MOST_PART_LETTERS" = some (some u_MOST_PART_LETTERS))
    (r_MOST_PART_LETTERS : RelV (.int 6) u_MOST_PART_LETTERS)
    (z_isinstance : PySem.W.nsIn K mainGlobals "isinstance" = some none)
    (z_bool : PySem.W.nsIn K mainGlobals "bool" = some none)
    (z_int : PySem.W.nsIn K mainGlobals "int" = some none)
    (z_abs : PySem.W.nsIn K mainGlobals "abs" = some none)
    (z_all : PySem.W.nsIn K mainGlobals "all" = some none)
    (z_zip : PySem.W.nsIn K mainGlobals "zip" = some none)
    (z_len : PySem.W.nsIn K mainGlobals "len" = some none)
    (z_set : PySem.W.nsIn K mainGlobals "set" = some none)
    (z_str : PySem.W.nsIn K mainGlobals "str" = some none)
    (z_list : PySem.W.nsIn K mainGlobals "list" = some none)
    (z_sum : PySem.W.nsIn K mainGlobals "sum" = some none)
    (z_range : PySem.W.nsIn K mainGlobals "range" = some none)
    (z_tuple : PySem.W.nsIn K mainGlobals "tuple" = some none)
    (z_sorted : PySem.W.nsIn K mainGlobals "sorted" = some none)
    (z_enumerate : PySem.W.nsIn K mainGlobals "enumerate" = some none)
    : (∃ c, PySem.W.codeHdIn K c k_tb = true) ∧ ∃ fd : FuncData, (∀ (s : Shared) (v : Value), BindsTo s fd ⟨[v], []⟩ [("_law_script", v)]) ∧ ∀ base : Heap, K.In base → base.Ns mainGlobals mg → FnOk l.prog w K mg base (CX1 l.prog w) 8 fa fd ["_law_script"] (sp_law K k_tb) := by
  have e := hfa.symm.trans (PySem.W.mg_of X G a50)
  cases e
  have T : Bl mg := ⟨PySem.W.mg_none_of X G z_isinstance, PySem.W.mg_none_of X G z_bool, PySem.W.mg_none_of X G z_int, PySem.W.mg_none_of X G z_abs, PySem.W.mg_none_of X G z_all, PySem.W.mg_none_of X G z_zip, PySem.W.mg_none_of X G z_len, PySem.W.mg_none_of X G z_set, PySem.W.mg_none_of X G z_str, PySem.W.mg_none_of X G z_list, PySem.W.mg_none_of X G z_sum, PySem.W.mg_none_of X G z_range, PySem.W.mg_none_of X G z_tuple, PySem.W.mg_none_of X G z_sorted, PySem.W.mg_none_of X G z_enumerate⟩
  have AF : AdF K mg ⟨k_Code, k_Book, k_CableError, k_NoCode, k_NoNumber, k_NoWord, k_NoEntry, k_Twice, k_TooMany, k_NoBook, k_cd, k_tb, ()⟩ := ⟨PySem.W.mg_of X G g_Code, PySem.W.mg_of X G g_Book, PySem.W.mg_of X G g_CableError, PySem.W.mg_of X G g_NoCode, PySem.W.mg_of X G g_NoNumber, PySem.W.mg_of X G g_NoWord, PySem.W.mg_of X G g_NoEntry, PySem.W.mg_of X G g_Twice, PySem.W.mg_of X G g_TooMany, PySem.W.mg_of X G g_NoBook, ⟨pg_Code, hd_Code, po_Code, sa_Code⟩, n_Code_letters, n_Code_factors, n_Code_remainder, ⟨pg_Book, hd_Book, po_Book, sa_Book⟩, n_Book_basis, n_Book_by_number, n_Book_by_entry, q_NoCode, q_NoNumber, q_NoWord, q_NoEntry, q_Twice, q_TooMany, q_NoBook, ⟨ia_Book, ib_Book, ic_Book, id_Book, ie_Book⟩, tab, err, ndx, ⟨_, PySem.W.mg_of X G v_SMALL_LETTERS, r_SMALL_LETTERS⟩, ⟨_, PySem.W.mg_of X G v_FIGURES, r_FIGURES⟩, ⟨_, PySem.W.mg_of X G v_MOST_FIGURES, r_MOST_FIGURES⟩, ⟨_, PySem.W.mg_of X G v_LONGEST_WORD, r_LONGEST_WORD⟩, ⟨_, PySem.W.mg_of X G v_MOST_ENTRIES, r_MOST_ENTRIES⟩, ⟨_, PySem.W.mg_of X G v_MOST_PHRASE_WORDS, r_MOST_PHRASE_WORDS⟩, ⟨_, PySem.W.mg_of X G v_MOST_PART_LETTERS, r_MOST_PART_LETTERS⟩⟩
  have F0 := fun_mk (st := s_is_whole) l0 c0 k0
  have F1 := fun_mk (st := s_common_divisor) l1 c1 k1
  have F2 := fun_mk (st := s_are_safe) l2 c2 k2
  have F3 := fun_mk (st := s_is_alphabet) l3 c3 k3
  have F4 := fun_mk (st := s_is_below) l4 c4 k4
  have F5 := fun_mk (st := s_are_weights) l5 c5 k5
  have F6 := fun_mk (st := s_is_word) l6 c6 k6
  have F7 := fun_mk (st := s_places_of) l7 c7 k7
  have F8 := fun_mk (st := s_spelled) l8 c8 k8
  have F9 := fun_mk (st := s_are_good) l9 c9 k9
  have F10 := fun_mk (st := s_is_good) l10 c10 k10
  have F11 := fun_mk (st := s_Code_init) l11 c11 k11
  have F12 := fun_mk (st := s_Code_alphabet) l12 c12 k12
  have F13 := fun_mk (st := s_Code_weights) l13 c13 k13
  have F14 := fun_mk (st := s_Code_rest) l14 c14 k14
  have F15 := fun_mk (st := s_Code_many) l15 c15 k15
  have F16 := fun_mk (st := s_Code_word) l16 c16 k16
  have F17 := fun_mk (st := s_Code_number) l17 c17 k17
  have F18 := fun_mk (st := s_Code_has_good) l18 c18 k18
  have F19 := fun_mk (st := s_are_letters) l19 c19 k19
  have F20 := fun_mk (st := s_are_words) l20 c20 k20
  have F21 := fun_mk (st := s_number_written) l21 c21 k21
  have F22 := fun_mk (st := s_code_written) l22 c22 k22
  have F23 := fun_mk (st := s_is_entry) l23 c23 k23
  have F24 := fun_mk (st := s_Book_init) l24 c24 k24
  have F25 := fun_mk (st := s_Book_code) l25 c25 k25
  have F26 := funD_mk (st := s_Book_put) l26 c26 k26
  have F27 := fun_mk (st := s_Book_choose) l27 c27 k27
  have F28 := fun_mk (st := s_Book_least_free) l28 c28 k28
  have F29 := fun_mk (st := s_Book_entry) l29 c29 k29
  have F30 := fun_mk (st := s_Book_number) l30 c30 k30
  have F31 := fun_mk (st := s_Book_entries) l31 c31 k31
  have F32 := fun_mk (st := s_code_row) l32 c32 k32
  have F33 := fun_mk (st := s_entry_row) l33 c33 k33
  have F34 := fun_mk (st := s_shown) l34 c34 k34
  have F35 := fun_mk (st := s_entry_written) l35 c35 k35
  have F36 := fun_mk (st := s_built) l36 c36 k36
  have F37 := fun_mk (st := s_read) l37 c37 k37
  have F38 := fun_mk (st := s_law_cell_at) l38 c38 k38
  have F39 := fun_mk (st := s_law_mixed) l39 c39 k39
  have F40 := fun_mk (st := s_law_divisor) l40 c40 k40
  have F41 := fun_mk (st := s_law_weight) l41 c41 k41
  have F42 := fun_mk (st := s_law_code) l42 c42 k42
  have F43 := fun_mk (st := s_law_word) l43 c43 k43
  have F44 := fun_mk (st := s_law_some_words) l44 c44 k44
  have F45 := fun_mk (st := s_law_entry) l45 c45 k45
  have F46 := fun_mk (st := s_law_filled) l46 c46 k46
  have F47 := fun_mk (st := s_law_alike) l47 c47 k47
  have F48 := fun_mk (st := s_law_text) l48 c48 k48
  have F49 := fun_mk (st := s_law_same) l49 c49 k49
  have F50 := fun_mk (st := s_law) l50 c50 k50
  refine ⟨⟨_, tab⟩, PySem.W.fnOf "law" "law" (defArgs s_law) (defBody s_law) (defScope s_law) .none kV50 dc50 pm50 an50 cd50 ct50, fun s v => .of_eq rfl, fun base _ _ => ?_⟩
  have b0 := F0.binds (ps := ["thing"]) fun _ _ _ _ _ _ => L2.bind1 fun _ => rfl
  have C_is_whole : Fnc l.prog w K mg base (CX1 l.prog w) 1 "is_whole" ["thing"] sp_is_whole := ⟨f0, _, ok_is_whole F0 T AF , PySem.W.mg_of X G a0, k0, b0⟩
  have b1 := F1.binds (ps := ["one", "other"]) fun _ _ _ _ _ _ => L2.bind2 fun _ _ => rfl
  have C_common_divisor : Fnc l.prog w K mg base (CX1 l.prog w) 1 "common_divisor" ["one", "other"] sp_common_divisor := ⟨f1, _, ok_common_divisor F1 T AF , PySem.W.mg_of X G a1, k1, b1⟩
  have b3 := F3.binds (ps := ["thing"]) fun _ _ _ _ _ _ => L2.bind1 fun _ => rfl
  have C_is_alphabet : Fnc l.prog w K mg base (CX1 l.prog w) 1 "is_alphabet" ["thing"] sp_is_alphabet := ⟨f3, _, ok_is_alphabet F3 T AF , PySem.W.mg_of X G a3, k3, b3⟩
  have b6 := F6.binds (ps := ["alphabet", "length", "thing"]) fun _ _ _ _ _ _ => L2.bind3 fun _ _ _ => rfl
  have C_is_word : Fnc l.prog w K mg base (CX1 l.prog w) 1 "is_word" ["alphabet", "length", "thing"] sp_is_word := ⟨f6, _, ok_is_word F6 T AF , PySem.W.mg_of X G a6, k6, b6⟩
  have b7 := F7.binds (ps := ["alphabet", "word"]) fun _ _ _ _ _ _ => L2.bind2 fun _ _ => rfl
  have C_places_of : Fnc l.prog w K mg base (CX1 l.prog w) 1 "places_of" ["alphabet", "word"] sp_places_of := ⟨f7, _, ok_places_of F7 T AF , PySem.W.mg_of X G a7, k7, b7⟩
  have b8 := F8.binds (ps := ["alphabet", "places"]) fun _ _ _ _ _ _ => L2.bind2 fun _ _ => rfl
  have C_spelled : Fnc l.prog w K mg base (CX1 l.prog w) 1 "spelled" ["alphabet", "places"] sp_spelled := ⟨f8, _, ok_spelled F8 T AF , PySem.W.mg_of X G a8, k8, b8⟩
  have b9 := F9.binds (ps := ["m", "weights", "rest", "places"]) fun _ _ _ _ _ _ => L2.bind4 fun _ _ _ _ => rfl
  have C_are_good : Fnc l.prog w K mg base (CX1 l.prog w) 1 "are_good" ["m", "weights", "rest", "places"] sp_are_good := ⟨f9, _, ok_are_good F9 T AF , PySem.W.mg_of X G a9, k9, b9⟩
  have b12 := F12.binds (ps := ["self"]) fun _ _ _ _ _ _ => L2.bind1 fun _ => rfl
  have M_Code_alphabet : Mtd l.prog w K mg base (CX1 l.prog w) k_Code "alphabet" 1 ["self"] (sp_Code_alphabet (⟨k_Code, k_Book, k_CableError, k_NoCode, k_NoNumber, k_NoWord, k_NoEntry, k_Twice, k_TooMany, k_NoBook, k_cd, k_tb, ()⟩ : Ads)) := ⟨⟨f12, _, ok_Code_alphabet F12 T AF , ⟨a12, i12, k12⟩, b12⟩, AF.c_Code⟩
  have b13 := F13.binds (ps := ["self"]) fun _ _ _ _ _ _ => L2.bind1 fun _ => rfl
  have M_Code_weights : Mtd l.prog w K mg base (CX1 l.prog w) k_Code "weights" 1 ["self"] (sp_Code_weights (⟨k_Code, k_Book, k_CableError, k_NoCode, k_NoNumber, k_NoWord, k_NoEntry, k_Twice, k_TooMany, k_NoBook, k_cd, k_tb, ()⟩ : Ads)) := ⟨⟨f13, _, ok_Code_weights F13 T AF , ⟨a13, i13, k13⟩, b13⟩, AF.c_Code⟩
  have b14 := F14.binds (ps := ["self"]) fun _ _ _ _ _ _ => L2.bind1 fun _ => rfl
  have M_Code_rest : Mtd l.prog w K mg base (CX1 l.prog w) k_Code "rest" 1 ["self"] (sp_Code_rest (⟨k_Code, k_Book, k_CableError, k_NoCode, k_NoNumber, k_NoWord, k_NoEntry, k_Twice, k_TooMany, k_NoBook, k_cd, k_tb, ()⟩ : Ads)) := ⟨⟨f14, _, ok_Code_rest F14 T AF , ⟨a14, i14, k14⟩, b14⟩, AF.c_Code⟩
  have b15 := F15.binds (ps := ["self"]) fun _ _ _ _ _ _ => L2.bind1 fun _ => rfl
  have M_Code_many : Mtd l.prog w K mg base (CX1 l.prog w) k_Code "many" 1 ["self"] (sp_Code_many (⟨k_Code, k_Book, k_CableError, k_NoCode, k_NoNumber, k_NoWord, k_NoEntry, k_Twice, k_TooMany, k_NoBook, k_cd, k_tb, ()⟩ : Ads)) := ⟨⟨f15, _, ok_Code_many F15 T AF , ⟨a15, i15, k15⟩, b15⟩, AF.c_Code⟩
  have b19 := F19.binds (ps := ["thing", "most"]) fun _ _ _ _ _ _ => L2.bind2 fun _ _ => rfl
  have C_are_letters : Fnc l.prog w K mg base (CX1 l.prog w) 1 "are_letters" ["thing", "most"] sp_are_letters := ⟨f19, _, ok_are_letters F19 T AF , PySem.W.mg_of X G a19, k19, b19⟩
  have b21 := F21.binds (ps := ["text"]) fun _ _ _ _ _ _ => L2.bind1 fun _ => rfl
  have C_number_written : Fnc l.prog w K mg base (CX1 l.prog w) 1 "number_written" ["text"] sp_number_written := ⟨f21, _, ok_number_written F21 T AF , PySem.W.mg_of X G a21, k21, b21⟩
  have b24 := F24.binds (ps := ["self", "code"]) fun _ _ _ _ _ _ => L2.bind2 fun _ _ => rfl
  have K_Book : Mak l.prog w K mg base (CX1 l.prog w) k_Book "Book" 1 ["self", "code"] (sp_Book_init (⟨k_Code, k_Book, k_CableError, k_NoCode, k_NoNumber, k_NoWord, k_NoEntry, k_Twice, k_TooMany, k_NoBook, k_cd, k_tb, ()⟩ : Ads)) := ⟨⟨f24, _, ok_Book_init F24 T AF , ⟨mk_Book, a24, i24, kc_Book⟩, b24⟩, AF.g_Book⟩
  have b25 := F25.binds (ps := ["self"]) fun _ _ _ _ _ _ => L2.bind1 fun _ => rfl
  have M_Book_code : Mtd l.prog w K mg base (CX1 l.prog w) k_Book "code" 1 ["self"] (sp_Book_code (⟨k_Code, k_Book, k_CableError, k_NoCode, k_NoNumber, k_NoWord, k_NoEntry, k_Twice, k_TooMany, k_NoBook, k_cd, k_tb, ()⟩ : Ads)) := ⟨⟨f25, _, ok_Book_code F25 T AF , ⟨a25, i25, k25⟩, b25⟩, AF.c_Book⟩
  have b31 := F31.binds (ps := ["self"]) fun _ _ _ _ _ _ => L2.bind1 fun _ => rfl
  have M_Book_entries : Mtd l.prog w K mg base (CX1 l.prog w) k_Book "entries" 1 ["self"] (sp_Book_entries (⟨k_Code, k_Book, k_CableError, k_NoCode, k_NoNumber, k_NoWord, k_NoEntry, k_Twice, k_TooMany, k_NoBook, k_cd, k_tb, ()⟩ : Ads)) := ⟨⟨f31, _, ok_Book_entries F31 T AF , ⟨a31, i31, k31⟩, b31⟩, AF.c_Book⟩
  have b33 := F33.binds (ps := ["word", "entry"]) fun _ _ _ _ _ _ => L2.bind2 fun _ _ => rfl
  have C_entry_row : Fnc l.prog w K mg base (CX1 l.prog w) 1 "entry_row" ["word", "entry"] sp_entry_row := ⟨f33, _, ok_entry_row F33 T AF , PySem.W.mg_of X G a33, k33, b33⟩
  have b35 := F35.binds (ps := ["parts"]) fun _ _ _ _ _ _ => L2.bind1 fun _ => rfl
  have C_entry_written : Fnc l.prog w K mg base (CX1 l.prog w) 1 "entry_written" ["parts"] sp_entry_written := ⟨f35, _, ok_entry_written F35 T AF , PySem.W.mg_of X G a35, k35, b35⟩
  have b38 := F38.binds (ps := ["_law_script", "_law_k"]) fun _ _ _ _ _ _ => L2.bind2 fun _ _ => rfl
  have C_law_cell_at : Fnc l.prog w K mg base (CX1 l.prog w) 1 "_law_cell_at" ["_law_script", "_law_k"] (sp_law_cell_at K) := ⟨f38, _, ok_law_cell_at F38 T AF , PySem.W.mg_of X G a38, k38, b38⟩
  have b39 := F39.binds (ps := ["_law_cell"]) fun _ _ _ _ _ _ => L2.bind1 fun _ => rfl
  have C_law_mixed : Fnc l.prog w K mg base (CX1 l.prog w) 1 "_law_mixed" ["_law_cell"] sp_law_mixed := ⟨f39, _, ok_law_mixed F39 T AF , PySem.W.mg_of X G a39, k39, b39⟩
  have b40 := F40.binds (ps := ["_law_one", "_law_other"]) fun _ _ _ _ _ _ => L2.bind2 fun _ _ => rfl
  have C_law_divisor : Fnc l.prog w K mg base (CX1 l.prog w) 1 "_law_divisor" ["_law_one", "_law_other"] sp_law_divisor := ⟨f40, _, ok_law_divisor F40 T AF , PySem.W.mg_of X G a40, k40, b40⟩
  have b43 := F43.binds (ps := ["_law_number"]) fun _ _ _ _ _ _ => L2.bind1 fun _ => rfl
  have C_law_word : Fnc l.prog w K mg base (CX1 l.prog w) 1 "_law_word" ["_law_number"] sp_law_word := ⟨f43, _, ok_law_word F43 T AF , PySem.W.mg_of X G a43, k43, b43⟩
  have b2 := F2.binds (ps := ["weights", "m"]) fun _ _ _ _ _ _ => L2.bind2 fun _ _ => rfl
  have C_are_safe : Fnc l.prog w K mg base (CX1 l.prog w) 2 "are_safe" ["weights", "m"] sp_are_safe := ⟨f2, _, ok_are_safe F2 T AF C_common_divisor, PySem.W.mg_of X G a2, k2, b2⟩
  have b4 := F4.binds (ps := ["thing", "bound"]) fun _ _ _ _ _ _ => L2.bind2 fun _ _ => rfl
  have C_is_below : Fnc l.prog w K mg base (CX1 l.prog w) 2 "is_below" ["thing", "bound"] sp_is_below := ⟨f4, _, ok_is_below F4 T AF C_is_whole, PySem.W.mg_of X G a4, k4, b4⟩
  have b10 := F10.binds (ps := ["alphabet", "weights", "rest", "word"]) fun _ _ _ _ _ _ => L2.bind4 fun _ _ _ _ => rfl
  have C_is_good : Fnc l.prog w K mg base (CX1 l.prog w) 2 "is_good" ["alphabet", "weights", "rest", "word"] sp_is_good := ⟨f10, _, ok_is_good F10 T AF C_are_good C_places_of C_is_word, PySem.W.mg_of X G a10, k10, b10⟩
  have b20 := F20.binds (ps := ["thing", "most"]) fun _ _ _ _ _ _ => L2.bind2 fun _ _ => rfl
  have C_are_words : Fnc l.prog w K mg base (CX1 l.prog w) 2 "are_words" ["thing", "most"] sp_are_words := ⟨f20, _, ok_are_words F20 T AF C_are_letters, PySem.W.mg_of X G a20, k20, b20⟩
  have b22 := F22.binds (ps := ["words"]) fun _ _ _ _ _ _ => L2.bind1 fun _ => rfl
  have C_code_written : Fnc l.prog w K mg base (CX1 l.prog w) 2 "code_written" ["words"] sp_code_written := ⟨f22, _, ok_code_written F22 T AF C_number_written, PySem.W.mg_of X G a22, k22, b22⟩
  have b28 := F28.binds (ps := ["self", "is_barred"]) fun _ _ _ _ _ _ => L2.bind2 fun _ _ => rfl
  have M_Book_least_free : Mtd l.prog w K mg base (CX1 l.prog w) k_Book "least_free" 2 ["self", "is_barred"] (sp_Book_least_free (⟨k_Code, k_Book, k_CableError, k_NoCode, k_NoNumber, k_NoWord, k_NoEntry, k_Twice, k_TooMany, k_NoBook, k_cd, k_tb, ()⟩ : Ads)) := ⟨⟨f28, _, ok_Book_least_free F28 T AF M_Code_many, ⟨a28, i28, k28⟩, b28⟩, AF.c_Book⟩
  have b32 := F32.binds (ps := ["code"]) fun _ _ _ _ _ _ => L2.bind1 fun _ => rfl
  have C_code_row : Fnc l.prog w K mg base (CX1 l.prog w) 2 "code_row" ["code"] (sp_code_row (⟨k_Code, k_Book, k_CableError, k_NoCode, k_NoNumber, k_NoWord, k_NoEntry, k_Twice, k_TooMany, k_NoBook, k_cd, k_tb, ()⟩ : Ads)) := ⟨f32, _, ok_code_row F32 T AF M_Code_rest M_Code_weights M_Code_alphabet, PySem.W.mg_of X G a32, k32, b32⟩
  have b41 := F41.binds (ps := ["_law_weights", "_law_m", "_law_number"]) fun _ _ _ _ _ _ => L2.bind3 fun _ _ _ => rfl
  have C_law_weight : Fnc l.prog w K mg base (CX1 l.prog w) 2 "_law_weight" ["_law_weights", "_law_m", "_law_number"] sp_law_weight := ⟨f41, _, ok_law_weight F41 T AF C_law_divisor, PySem.W.mg_of X G a41, k41, b41⟩
  have b44 := F44.binds (ps := ["_law_number", "_law_many"]) fun _ _ _ _ _ _ => L2.bind2 fun _ _ => rfl
  have C_law_some_words : Fnc l.prog w K mg base (CX1 l.prog w) 2 "_law_some_words" ["_law_number", "_law_many"] sp_law_some_words := ⟨f44, _, ok_law_some_words F44 T AF C_law_word, PySem.W.mg_of X G a44, k44, b44⟩
  have b5 := F5.binds (ps := ["thing", "m"]) fun _ _ _ _ _ _ => L2.bind2 fun _ _ => rfl
  have C_are_weights : Fnc l.prog w K mg base (CX1 l.prog w) 3 "are_weights" ["thing", "m"] sp_are_weights := ⟨f5, _, ok_are_weights F5 T AF C_is_below, PySem.W.mg_of X G a5, k5, b5⟩
  have b16 := F16.binds (ps := ["self", "k"]) fun _ _ _ _ _ _ => L2.bind2 fun _ _ => rfl
  have M_Code_word : Mtd l.prog w K mg base (CX1 l.prog w) k_Code "word" 3 ["self", "k"] (sp_Code_word (⟨k_Code, k_Book, k_CableError, k_NoCode, k_NoNumber, k_NoWord, k_NoEntry, k_Twice, k_TooMany, k_NoBook, k_cd, k_tb, ()⟩ : Ads)) := ⟨⟨f16, _, ok_Code_word F16 T AF C_spelled C_are_good C_is_below M_Code_many, ⟨a16, i16, k16⟩, b16⟩, AF.c_Code⟩
  have b18 := F18.binds (ps := ["self", "thing"]) fun _ _ _ _ _ _ => L2.bind2 fun _ _ => rfl
  have M_Code_has_good : Mtd l.prog w K mg base (CX1 l.prog w) k_Code "has_good" 3 ["self", "thing"] (sp_Code_has_good (⟨k_Code, k_Book, k_CableError, k_NoCode, k_NoNumber, k_NoWord, k_NoEntry, k_Twice, k_TooMany, k_NoBook, k_cd, k_tb, ()⟩ : Ads)) := ⟨⟨f18, _, ok_Code_has_good F18 T AF C_is_good, ⟨a18, i18, k18⟩, b18⟩, AF.c_Code⟩
  have b23 := F23.binds (ps := ["thing"]) fun _ _ _ _ _ _ => L2.bind1 fun _ => rfl
  have C_is_entry : Fnc l.prog w K mg base (CX1 l.prog w) 3 "is_entry" ["thing"] sp_is_entry := ⟨f23, _, ok_is_entry F23 T AF C_are_letters C_are_words, PySem.W.mg_of X G a23, k23, b23⟩
  have b29 := F29.binds (ps := ["self", "number"]) fun _ _ _ _ _ _ => L2.bind2 fun _ _ => rfl
  have M_Book_entry : Mtd l.prog w K mg base (CX1 l.prog w) k_Book "entry" 3 ["self", "number"] (sp_Book_entry (⟨k_Code, k_Book, k_CableError, k_NoCode, k_NoNumber, k_NoWord, k_NoEntry, k_Twice, k_TooMany, k_NoBook, k_cd, k_tb, ()⟩ : Ads)) := ⟨⟨f29, _, ok_Book_entry F29 T AF C_is_below M_Code_many, ⟨a29, i29, k29⟩, b29⟩, AF.c_Book⟩
  have b45 := F45.binds (ps := ["_law_number"]) fun _ _ _ _ _ _ => L2.bind1 fun _ => rfl
  have C_law_entry : Fnc l.prog w K mg base (CX1 l.prog w) 3 "_law_entry" ["_law_number"] sp_law_entry := ⟨f45, _, ok_law_entry F45 T AF C_law_some_words C_law_word, PySem.W.mg_of X G a45, k45, b45⟩
  have b11 := F11.binds (ps := ["self", "alphabet", "weights", "rest"]) fun _ _ _ _ _ _ => L2.bind4 fun _ _ _ _ => rfl
  have K_Code : Mak l.prog w K mg base (CX1 l.prog w) k_Code "Code" 4 ["self", "alphabet", "weights", "rest"] (sp_Code_init (⟨k_Code, k_Book, k_CableError, k_NoCode, k_NoNumber, k_NoWord, k_NoEntry, k_Twice, k_TooMany, k_NoBook, k_cd, k_tb, ()⟩ : Ads)) := ⟨⟨f11, _, ok_Code_init F11 T AF C_are_safe C_is_below C_are_weights C_is_alphabet, ⟨mk_Code, a11, i11, kc_Code⟩, b11⟩, AF.g_Code⟩
  have b17 := F17.binds (ps := ["self", "word"]) fun _ _ _ _ _ _ => L2.bind2 fun _ _ => rfl
  have M_Code_number : Mtd l.prog w K mg base (CX1 l.prog w) k_Code "number" 4 ["self", "word"] (sp_Code_number (⟨k_Code, k_Book, k_CableError, k_NoCode, k_NoNumber, k_NoWord, k_NoEntry, k_Twice, k_TooMany, k_NoBook, k_cd, k_tb, ()⟩ : Ads)) := ⟨⟨f17, _, ok_Code_number F17 T AF C_places_of M_Code_has_good, ⟨a17, i17, k17⟩, b17⟩, AF.c_Code⟩
  have b27 := F27.binds (ps := ["self", "entry", "number", "is_barred"]) fun _ _ _ _ _ _ => L2.bind4 fun _ _ _ _ => rfl
  have M_Book_choose : Mtd l.prog w K mg base (CX1 l.prog w) k_Book "choose" 4 ["self", "entry", "number", "is_barred"] (sp_Book_choose (⟨k_Code, k_Book, k_CableError, k_NoCode, k_NoNumber, k_NoWord, k_NoEntry, k_Twice, k_TooMany, k_NoBook, k_cd, k_tb, ()⟩ : Ads)) := ⟨⟨f27, _, ok_Book_choose F27 T AF C_is_below C_is_entry M_Book_least_free M_Code_many, ⟨a27, i27, k27⟩, b27⟩, AF.c_Book⟩
  have b30 := F30.binds (ps := ["self", "entry"]) fun _ _ _ _ _ _ => L2.bind2 fun _ _ => rfl
  have M_Book_number : Mtd l.prog w K mg base (CX1 l.prog w) k_Book "number" 4 ["self", "entry"] (sp_Book_number (⟨k_Code, k_Book, k_CableError, k_NoCode, k_NoNumber, k_NoWord, k_NoEntry, k_Twice, k_TooMany, k_NoBook, k_cd, k_tb, ()⟩ : Ads)) := ⟨⟨f30, _, ok_Book_number F30 T AF C_is_entry, ⟨a30, i30, k30⟩, b30⟩, AF.c_Book⟩
  have b34 := F34.binds (ps := ["book"]) fun _ _ _ _ _ _ => L2.bind1 fun _ => rfl
  have C_shown : Fnc l.prog w K mg base (CX1 l.prog w) 4 "shown" ["book"] (sp_shown (⟨k_Code, k_Book, k_CableError, k_NoCode, k_NoNumber, k_NoWord, k_NoEntry, k_Twice, k_TooMany, k_NoBook, k_cd, k_tb, ()⟩ : Ads)) := ⟨f34, _, ok_shown F34 T AF C_code_row C_entry_row M_Book_entries M_Code_word M_Book_code, PySem.W.mg_of X G a34, k34, b34⟩
  have b48 := F48.binds (ps := ["_law_book", "_law_code_here"]) fun _ _ _ _ _ _ => L2.bind2 fun _ _ => rfl
  have C_law_text : Fnc l.prog w K mg base (CX1 l.prog w) 4 "_law_text" ["_law_book", "_law_code_here"] (sp_law_text (⟨k_Code, k_Book, k_CableError, k_NoCode, k_NoNumber, k_NoWord, k_NoEntry, k_Twice, k_TooMany, k_NoBook, k_cd, k_tb, ()⟩ : Ads)) := ⟨f48, _, ok_law_text F48 T AF M_Book_entries M_Code_word M_Code_alphabet M_Code_rest M_Code_weights, PySem.W.mg_of X G a48, k48, b48⟩
  have b26 : Binds K (PySem.W.fnOf "put" "Book.put" (defArgs s_Book_put) (defBody s_Book_put) (defScope s_Book_put) (.ref dt26) kV26 dc26 pm26 an26 (.ref k_cd) ct26) ["self", "entry", "number"] [] := fun s us hK hl => match us, (show us.length = 3 by simpa using hl) with | [_, _, _], _ => .of_defaults rfl (hK _ _ t26) rfl rfl rfl
  have bd26 : Binds K (PySem.W.fnOf "put" "Book.put" (defArgs s_Book_put) (defBody s_Book_put) (defScope s_Book_put) (.ref dt26) kV26 dc26 pm26 an26 (.ref k_cd) ct26) ["self", "entry", "number"] [.none] := fun s us hK hl => match us, (show us.length = 2 by simpa using hl) with | [_, _], _ => .of_defaults rfl (hK _ _ t26) rfl rfl rfl
  have M_Book_put : Mtd l.prog w K mg base (CX1 l.prog w) k_Book "put" 5 ["self", "entry", "number"] (sp_Book_put (⟨k_Code, k_Book, k_CableError, k_NoCode, k_NoNumber, k_NoWord, k_NoEntry, k_Twice, k_TooMany, k_NoBook, k_cd, k_tb, ()⟩ : Ads)) := ⟨⟨f26, _, ok_Book_put F26 T AF rfl M_Book_choose, ⟨a26, i26, k26⟩, b26⟩, AF.c_Book⟩
  have D_Book_put : MtdD l.prog w K mg base (CX1 l.prog w) k_Book "put" 5 ["self", "entry", "number"] (sp_Book_put (⟨k_Code, k_Book, k_CableError, k_NoCode, k_NoNumber, k_NoWord, k_NoEntry, k_Twice, k_TooMany, k_NoBook, k_cd, k_tb, ()⟩ : Ads)) := ⟨⟨f26, _, ok_Book_put F26 T AF rfl M_Book_choose, ⟨a26, i26, k26⟩, bd26⟩, AF.c_Book⟩
  have b47 := F47.binds (ps := ["_law_found", "_law_due"]) fun _ _ _ _ _ _ => L2.bind2 fun _ _ => rfl
  have R47_0 : Fnc l.prog w K mg base (CX1 l.prog w) 1 "_law_alike" ["_law_found", "_law_due"] (sp_law_alike 0) := ⟨f47, PySem.W.fnOf "_law_alike" "_law_alike" (defArgs s_law_alike) (defBody s_law_alike) (defScope s_law_alike) .none kV47 dc47 pm47 an47 cd47 ct47, ⟨fun _ _ _ _ h => h.elim, fun _ _ _ _ _ _ _ _ _ _ _ _ _ h => h.elim⟩, PySem.W.mg_of X G a47, k47, b47⟩
  have R47_1 : Fnc l.prog w K mg base (CX1 l.prog w) 2 "_law_alike" ["_law_found", "_law_due"] (sp_law_alike 1) := ⟨f47, _, ok_law_alike (n := 0) F47 T AF  R47_0, PySem.W.mg_of X G a47, k47, b47⟩
  have R47_2 : Fnc l.prog w K mg base (CX1 l.prog w) 3 "_law_alike" ["_law_found", "_law_due"] (sp_law_alike 2) := ⟨f47, _, ok_law_alike (n := 1) F47 T AF  R47_1, PySem.W.mg_of X G a47, k47, b47⟩
  have R47_3 : Fnc l.prog w K mg base (CX1 l.prog w) 4 "_law_alike" ["_law_found", "_law_due"] (sp_law_alike 3) := ⟨f47, _, ok_law_alike (n := 2) F47 T AF  R47_2, PySem.W.mg_of X G a47, k47, b47⟩
  have C_law_alike : Fnc l.prog w K mg base (CX1 l.prog w) 5 "_law_alike" ["_law_found", "_law_due"] (sp_law_alike 4) := ⟨f47, _, ok_law_alike (n := 3) F47 T AF  R47_3, PySem.W.mg_of X G a47, k47, b47⟩
  have b36 := F36.binds (ps := ["rows"]) fun _ _ _ _ _ _ => L2.bind1 fun _ => rfl
  have C_built : Fnc l.prog w K mg base (CX1 l.prog w) 6 "built" ["rows"] (sp_built (⟨k_Code, k_Book, k_CableError, k_NoCode, k_NoNumber, k_NoWord, k_NoEntry, k_Twice, k_TooMany, k_NoBook, k_cd, k_tb, ()⟩ : Ads)) := ⟨f36, _, ok_built F36 T AF C_entry_written C_code_written M_Book_put M_Code_number K_Book K_Code, PySem.W.mg_of X G a36, k36, b36⟩
  have b42 := F42.binds (ps := ["_law_script"]) fun _ _ _ _ _ _ => L2.bind1 fun _ => rfl
  have C_law_code : Fnc l.prog w K mg base (CX1 l.prog w) 6 "_law_code" ["_law_script"] (sp_law_code K (⟨k_Code, k_Book, k_CableError, k_NoCode, k_NoNumber, k_NoWord, k_NoEntry, k_Twice, k_TooMany, k_NoBook, k_cd, k_tb, ()⟩ : Ads)) := ⟨f42, _, ok_law_code F42 T AF C_law_weight C_law_mixed C_law_cell_at K_Code, PySem.W.mg_of X G a42, k42, b42⟩
  have b46 := F46.binds (ps := ["_law_code_here", "_law_cells", "_law_start"]) fun _ _ _ _ _ _ => L2.bind3 fun _ _ _ => rfl
  have C_law_filled : Fnc l.prog w K mg base (CX1 l.prog w) 6 "_law_filled" ["_law_code_here", "_law_cells", "_law_start"] (sp_law_filled K (⟨k_Code, k_Book, k_CableError, k_NoCode, k_NoNumber, k_NoWord, k_NoEntry, k_Twice, k_TooMany, k_NoBook, k_cd, k_tb, ()⟩ : Ads)) := ⟨f46, _, ok_law_filled F46 T AF C_law_entry C_law_mixed M_Book_entries M_Code_many M_Book_number M_Book_entry M_Book_put D_Book_put K_Book, PySem.W.mg_of X G a46, k46, b46⟩
  have b49 := F49.binds (ps := ["_law_found", "_law_book", "_law_code_here"]) fun _ _ _ _ _ _ => L2.bind3 fun _ _ _ => rfl
  have C_law_same : Fnc l.prog w K mg base (CX1 l.prog w) 6 "_law_same" ["_law_found", "_law_book", "_law_code_here"] (sp_law_same (⟨k_Code, k_Book, k_CableError, k_NoCode, k_NoNumber, k_NoWord, k_NoEntry, k_Twice, k_TooMany, k_NoBook, k_cd, k_tb, ()⟩ : Ads)) := ⟨f49, _, ok_law_same F49 T AF C_law_alike M_Code_rest M_Code_weights M_Code_alphabet M_Book_code M_Book_entries, PySem.W.mg_of X G a49, k49, b49⟩
  have b37 := F37.binds (ps := ["text"]) fun _ _ _ _ _ _ => L2.bind1 fun _ => rfl
  have C_read : Fnc l.prog w K mg base (CX1 l.prog w) 7 "read" ["text"] (sp_read (⟨k_Code, k_Book, k_CableError, k_NoCode, k_NoNumber, k_NoWord, k_NoEntry, k_Twice, k_TooMany, k_NoBook, k_cd, k_tb, ()⟩ : Ads)) := ⟨f37, _, ok_read F37 T AF C_shown C_built, PySem.W.mg_of X G a37, k37, b37⟩
  exact ok_law F50 T AF C_law_filled C_shown C_read C_law_same C_law_text C_law_code M_Code_many M_Book_entries M_Book_number D_Book_put K_Book
end Kb
open PySem PySem.W PyProof.Rows
set_option maxRecDepth 100000 in
set_option maxHeartbeats 0 in
theorem Hk.top_c : Hk.top.c := by
  delta Hk.top
  dsimp only
  k_fill
  refine L2.walk_ofT (l := PySem.Challenge.rw_cablehouse_k14_whole_book_rows) (n := 63) (k := 8) (x := "_law_script") (CX := fun w => L2.CX1 PySem.Challenge.rw_cablehouse_k14_whole_book_rows.prog w) (sp := fun w => Kb.sp_law _ _) Kb.lamQ rfl (by decide) rfl ⟨rfl, by decide, by decide⟩ (fun w h Y => ⟨PySem.W.km_in_of Y, PySem.W.km_tabs_of Y _ (List.Mem.head _)⟩) ?F (fun w => by kernel_rfl) (fun _ _ a ns hl hS hT => ⟨a, ns, rfl, hS, hl, hT, fun _ => rfl⟩) fun _ _ _ _ _ z => L2.cx1_false z
  case F =>
    intro w mg fa h KX G hmg
    refine' Kb.all_mk KX G hmg ?g_Code ?g_Book ?g_CableError ?g_NoCode ?g_NoNumber ?g_NoWord ?g_NoEntry ?g_Twice ?g_TooMany ?g_NoBook ?a0 ?l0 ?c0 ?k0 ?a1 ?l1 ?c1 ?k1 ?a2 ?l2 ?c2 ?k2 ?a3 ?l3 ?c3 ?k3 ?a4 ?l4 ?c4 ?k4 ?a5 ?l5 ?c5 ?k5 ?a6 ?l6 ?c6 ?k6 ?a7 ?l7 ?c7 ?k7 ?a8 ?l8 ?c8 ?k8 ?a9 ?l9 ?c9 ?k9 ?a10 ?l10 ?c10 ?k10 ?a11 ?i11 ?l11 ?c11 ?k11 ?a12 ?i12 ?l12 ?c12 ?k12 ?a13 ?i13 ?l13 ?c13 ?k13 ?a14 ?i14 ?l14 ?c14 ?k14 ?a15 ?i15 ?l15 ?c15 ?k15 ?a16 ?i16 ?l16 ?c16 ?k16 ?a17 ?i17 ?l17 ?c17 ?k17 ?a18 ?i18 ?l18 ?c18 ?k18 ?a19 ?l19 ?c19 ?k19 ?a20 ?l20 ?c20 ?k20 ?a21 ?l21 ?c21 ?k21 ?a22 ?l22 ?c22 ?k22 ?a23 ?l23 ?c23 ?k23 ?a24 ?i24 ?l24 ?c24 ?k24 ?a25 ?i25 ?l25 ?c25 ?k25 ?a26 ?i26 ?l26 ?t26 ?c26 ?k26 ?a27 ?i27 ?l27 ?c27 ?k27 ?a28 ?i28 ?l28 ?c28 ?k28 ?a29 ?i29 ?l29 ?c29 ?k29 ?a30 ?i30 ?l30 ?c30 ?k30 ?a31 ?i31 ?l31 ?c31 ?k31 ?a32 ?l32 ?c32 ?k32 ?a33 ?l33 ?c33 ?k33 ?a34 ?l34 ?c34 ?k34 ?a35 ?l35 ?c35 ?k35 ?a36 ?l36 ?c36 ?k36 ?a37 ?l37 ?c37 ?k37 ?a38 ?l38 ?c38 ?k38 ?a39 ?l39 ?c39 ?k39 ?a40 ?l40 ?c40 ?k40 ?a41 ?l41 ?c41 ?k41 ?a42 ?l42 ?c42 ?k42 ?a43 ?l43 ?c43 ?k43 ?a44 ?l44 ?c44 ?k44 ?a45 ?l45 ?c45 ?k45 ?a46 ?l46 ?c46 ?k46 ?a47 ?l47 ?c47 ?k47 ?a48 ?l48 ?c48 ?k48 ?a49 ?l49 ?c49 ?k49 ?a50 ?l50 ?c50 ?k50 ?pg_Code ?hd_Code ?po_Code ?sa_Code ?mk_Code ?kc_Code ?n_Code_letters ?n_Code_factors ?n_Code_remainder ?pg_Book ?hd_Book ?po_Book ?sa_Book ?mk_Book ?kc_Book ?n_Book_basis ?n_Book_by_number ?n_Book_by_entry ?q_NoCode ?q_NoNumber ?q_NoWord ?q_NoEntry ?q_Twice ?q_TooMany ?q_NoBook ?ia_Book ?ib_Book ?ic_Book ?id_Book ?ie_Book ?tab ?err ?ndx ?v_SMALL_LETTERS ?r_SMALL_LETTERS ?v_FIGURES ?r_FIGURES ?v_MOST_FIGURES ?r_MOST_FIGURES ?v_LONGEST_WORD ?r_LONGEST_WORD ?v_MOST_ENTRIES ?r_MOST_ENTRIES ?v_MOST_PHRASE_WORDS ?r_MOST_PHRASE_WORDS ?v_MOST_PART_LETTERS ?r_MOST_PART_LETTERS ?z_isinstance ?z_bool ?z_int ?z_abs ?z_all ?z_zip ?z_len ?z_set ?z_str ?z_list ?z_sum ?z_range ?z_tuple ?z_sorted ?z_enumerate
    (case g_Code => k_is)
    (case g_Book => k_is)
    (case g_CableError => k_is)
    (case g_NoCode => k_is)
    (case g_NoNumber => k_is)
    (case g_NoWord => k_is)
    (case g_NoEntry => k_is)
    (case g_Twice => k_is)
    (case g_TooMany => k_is)
    (case g_NoBook => k_is)
    (case a0 => k_is)
    (case l0 => k_is)
    (case c0 => k_is)
    (case k0 => k_is)
    (case a1 => k_is)
    (case l1 => k_is)
    (case c1 => k_is)
    (case k1 => k_is)
    (case a2 => k_is)
    (case l2 => k_is)
    (case c2 => k_is)
    (case k2 => k_is)
    (case a3 => k_is)
    (case l3 => k_is)
    (case c3 => k_is)
    (case k3 => k_is)
    (case a4 => k_is)
    (case l4 => k_is)
    (case c4 => k_is)
    (case k4 => k_is)
    (case a5 => k_is)
    (case l5 => k_is)
    (case c5 => k_is)
    (case k5 => k_is)
    (case a6 => k_is)
    (case l6 => k_is)
    (case c6 => k_is)
    (case k6 => k_is)
    (case a7 => k_is)
    (case l7 => k_is)
    (case c7 => k_is)
    (case k7 => k_is)
    (case a8 => k_is)
    (case l8 => k_is)
    (case c8 => k_is)
    (case k8 => k_is)
    (case a9 => k_is)
    (case l9 => k_is)
    (case c9 => k_is)
    (case k9 => k_is)
    (case a10 => k_is)
    (case l10 => k_is)
    (case c10 => k_is)
    (case k10 => k_is)
    (case a11 => k_is)
    (case i11 => k_is)
    (case l11 => k_is)
    (case c11 => k_is)
    (case k11 => k_is)
    (case a12 => k_is)
    (case i12 => k_is)
    (case l12 => k_is)
    (case c12 => k_is)
    (case k12 => k_is)
    (case a13 => k_is)
    (case i13 => k_is)
    (case l13 => k_is)
    (case c13 => k_is)
    (case k13 => k_is)
    (case a14 => k_is)
    (case i14 => k_is)
    (case l14 => k_is)
    (case c14 => k_is)
    (case k14 => k_is)
    (case a15 => k_is)
    (case i15 => k_is)
    (case l15 => k_is)
    (case c15 => k_is)
    (case k15 => k_is)
    (case a16 => k_is)
    (case i16 => k_is)
    (case l16 => k_is)
    (case c16 => k_is)
    (case k16 => k_is)
    (case a17 => k_is)
    (case i17 => k_is)
    (case l17 => k_is)
    (case c17 => k_is)
    (case k17 => k_is)
    (case a18 => k_is)
    (case i18 => k_is)
    (case l18 => k_is)
    (case c18 => k_is)
    (case k18 => k_is)
    (case a19 => k_is)
    (case l19 => k_is)
    (case c19 => k_is)
    (case k19 => k_is)
    (case a20 => k_is)
    (case l20 => k_is)
    (case c20 => k_is)
    (case k20 => k_is)
    (case a21 => k_is)
    (case l21 => k_is)
    (case c21 => k_is)
    (case k21 => k_is)
    (case a22 => k_is)
    (case l22 => k_is)
    (case c22 => k_is)
    (case k22 => k_is)
    (case a23 => k_is)
    (case l23 => k_is)
    (case c23 => k_is)
    (case k23 => k_is)
    (case a24 => k_is)
    (case i24 => k_is)
    (case l24 => k_is)
    (case c24 => k_is)
    (case k24 => k_is)
    (case a25 => k_is)
    (case i25 => k_is)
    (case l25 => k_is)
    (case c25 => k_is)
    (case k25 => k_is)
    (case a26 => k_is)
    (case i26 => k_is)
    (case l26 => k_is)
    (case t26 => k_is)
    (case c26 => k_is)
    (case k26 => k_is)
    (case a27 => k_is)
    (case i27 => k_is)
    (case l27 => k_is)
    (case c27 => k_is)
    (case k27 => k_is)
    (case a28 => k_is)
    (case i28 => k_is)
    (case l28 => k_is)
    (case c28 => k_is)
    (case k28 => k_is)
    (case a29 => k_is)
    (case i29 => k_is)
    (case l29 => k_is)
    (case c29 => k_is)
    (case k29 => k_is)
    (case a30 => k_is)
    (case i30 => k_is)
    (case l30 => k_is)
    (case c30 => k_is)
    (case k30 => k_is)
    (case a31 => k_is)
    (case i31 => k_is)
    (case l31 => k_is)
    (case c31 => k_is)
    (case k31 => k_is)
    (case a32 => k_is)
    (case l32 => k_is)
    (case c32 => k_is)
    (case k32 => k_is)
    (case a33 => k_is)
    (case l33 => k_is)
    (case c33 => k_is)
    (case k33 => k_is)
    (case a34 => k_is)
    (case l34 => k_is)
    (case c34 => k_is)
    (case k34 => k_is)
    (case a35 => k_is)
    (case l35 => k_is)
    (case c35 => k_is)
    (case k35 => k_is)
    (case a36 => k_is)
    (case l36 => k_is)
    (case c36 => k_is)
    (case k36 => k_is)
    (case a37 => k_is)
    (case l37 => k_is)
    (case c37 => k_is)
    (case k37 => k_is)
    (case a38 => k_is)
    (case l38 => k_is)
    (case c38 => k_is)
    (case k38 => k_is)
    (case a39 => k_is)
    (case l39 => k_is)
    (case c39 => k_is)
    (case k39 => k_is)
    (case a40 => k_is)
    (case l40 => k_is)
    (case c40 => k_is)
    (case k40 => k_is)
    (case a41 => k_is)
    (case l41 => k_is)
    (case c41 => k_is)
    (case k41 => k_is)
    (case a42 => k_is)
    (case l42 => k_is)
    (case c42 => k_is)
    (case k42 => k_is)
    (case a43 => k_is)
    (case l43 => k_is)
    (case c43 => k_is)
    (case k43 => k_is)
    (case a44 => k_is)
    (case l44 => k_is)
    (case c44 => k_is)
    (case k44 => k_is)
    (case a45 => k_is)
    (case l45 => k_is)
    (case c45 => k_is)
    (case k45 => k_is)
    (case a46 => k_is)
    (case l46 => k_is)
    (case c46 => k_is)
    (case k46 => k_is)
    (case a47 => k_is)
    (case l47 => k_is)
    (case c47 => k_is)
    (case k47 => k_is)
    (case a48 => k_is)
    (case l48 => k_is)
    (case c48 => k_is)
    (case k48 => k_is)
    (case a49 => k_is)
    (case l49 => k_is)
    (case c49 => k_is)
    (case k49 => k_is)
    (case a50 => k_is)
    (case l50 => k_is)
    (case c50 => k_is)
    (case k50 => k_is)
    (case pg_Code => k_is)
    (case hd_Code => k_is)
    (case po_Code => k_is)
    (case sa_Code => k_is)
    (case mk_Code => k_is)
    (case kc_Code => k_is)
    (case n_Code_letters => k_is)
    (case n_Code_factors => k_is)
    (case n_Code_remainder => k_is)
    (case pg_Book => k_is)
    (case hd_Book => k_is)
    (case po_Book => k_is)
    (case sa_Book => k_is)
    (case mk_Book => k_is)
    (case kc_Book => k_is)
    (case n_Book_basis => k_is)
    (case n_Book_by_number => k_is)
    (case n_Book_by_entry => k_is)
    (case q_NoCode => kernel_rfl)
    (case q_NoNumber => kernel_rfl)
    (case q_NoWord => kernel_rfl)
    (case q_NoEntry => kernel_rfl)
    (case q_Twice => kernel_rfl)
    (case q_TooMany => kernel_rfl)
    (case q_NoBook => kernel_rfl)
    (case ia_Book => k_is)
    (case ib_Book => kernel_rfl)
    (case ic_Book => kernel_rfl)
    (case id_Book => kernel_rfl)
    (case ie_Book => kernel_rfl)
    (case tab => kernel_rfl)
    (case err => kernel_rfl)
    (case ndx => kernel_rfl)
    (case v_SMALL_LETTERS => k_is)
    (case r_SMALL_LETTERS => exact ⟨_, rfl⟩)
    (case v_FIGURES => k_is)
    (case r_FIGURES => exact ⟨_, rfl⟩)
    (case v_MOST_FIGURES => k_is)
    (case r_MOST_FIGURES => exact ⟨_, rfl⟩)
    (case v_LONGEST_WORD => k_is)
    (case r_LONGEST_WORD => exact ⟨_, rfl⟩)
    (case v_MOST_ENTRIES => k_is)
    (case r_MOST_ENTRIES => exact ⟨_, rfl⟩)
    (case v_MOST_PHRASE_WORDS => k_is)
    (case r_MOST_PHRASE_WORDS => exact ⟨_, rfl⟩)
    (case v_MOST_PART_LETTERS => k_is)
    (case r_MOST_PART_LETTERS => exact ⟨_, rfl⟩)
    (case z_isinstance => k_is)
    (case z_bool => k_is)
    (case z_int => k_is)
    (case z_abs => k_is)
    (case z_all => k_is)
    (case z_zip => k_is)
    (case z_len => k_is)
    (case z_set => k_is)
    (case z_str => k_is)
    (case z_list => k_is)
    (case z_sum => k_is)
    (case z_range => k_is)
    (case z_tuple => k_is)
    (case z_sorted => k_is)
    (case z_enumerate => k_is)
theorem PySem.Challenge.cw_cablehouse_k14_whole_book_rows_holds : PySem.Challenge.rw_cablehouse_k14_whole_book_rows.Holds :=
  Hk.top.go Hk.top_1 Hk.top_2 Hk.top_3 Hk.top_4 Hk.top_5 Hk.top_6 Hk.top_7 Hk.top_8 Hk.top_h Hk.top_c
