import PyProof.Rows.All
import Wide.All
import OpenK.AllK
import Wide.FinOn
import Lean
import PyProof.EqAt
import PyProof.EqKinds
import PyProof.TupleCall
import PySem.Challenge.RW_cablehouse_k35_editions_by_days
set_option Elab.async false
set_option linter.all false
set_option maxRecDepth 100000
namespace Hd
open PySem PySem.W PyProof.Rows
theorem keep3 {b1 b2 b3 a : Prop} (main : a) (hl : b1) (hw : b2) (hc : b3) : a := main
structure Top (r : Prop) where
  l1 : Prop
  l2 : Prop
  l3 : Prop
  h : Prop
  c : Prop
  go : l1 → l2 → l3 → h → c → r
/-- the same, what is seen in six parts -/
structure TopS (r : Prop) where
  l1 : Prop
  l2 : Prop
  l3 : Prop
  l4 : Prop
  l5 : Prop
  l6 : Prop
  l7 : Prop
  l8 : Prop
  h : Prop
  c : Prop
  go : l1 → l2 → l3 → l4 → l5 → l6 → l7 → l8 → h → c → r
/-- the same, what is left behind in two parts too -/
structure TopT (r : Prop) where
  l1 : Prop
  l2 : Prop
  l3 : Prop
  l4 : Prop
  l5 : Prop
  l6 : Prop
  l7 : Prop
  l8 : Prop
  l9 : Prop
  h : Prop
  c : Prop
  go : l1 → l2 → l3 → l4 → l5 → l6 → l7 → l8 → l9 → h → c → r
/-- a list that is seen, in two parts -/
theorem two {σ α β γ : Type} {x : World → OsState → Option σ} {as : List α} {f : σ → α → β} {h : σ → γ} {g : World → List β} {e : World → γ} (n : Nat)
    (h1 : ∀ w os, (x w os).map (fun s => (as.take n).map (f s)) = some ((g w).take n)) (h2 : ∀ w os, (x w os).map (fun s => ((as.drop n).map (f s), h s)) = some ((g w).drop n, e w)) : ∀ w os, (x w os).map (fun s => (as.map (f s), h s)) = some (g w, e w) := fun w os => by
  obtain ⟨s, e0, e1⟩ := Option.map_eq_some_iff.mp (h1 w os)
  have e2 := h2 w os
  rw [e0] at e2 ⊢
  have e2 := Option.some.inj e2
  simp only [Prod.mk.injEq] at e2
  refine congrArg some (Prod.ext ?_ e2.2)
  show as.map (f s) = g w
  rw [← List.take_append_drop n as, List.map_append, e1, e2.1, List.take_append_drop]
def tree : List Obj → Nat → BT → BT
  | [], _, t => t
  | o :: l, n, t => tree l (n + 1) (t.ins n o)
def goT (st : SharedT → Thread → Option (SharedT × Thread)) (ok : Thread → Bool) : Nat → SharedT → Thread → Option SharedT
  | 0, _, _ => none
  | n + 1, s, t => match through t with
    | true => some s
    | false => match ok t with
      | false => none
      | true => match st s t with
        | some (s', t') => goT st ok n s' t'
        | none => none
theorem goT_of {tb : String → Option Builtin} {p : Program} {w : World} {n₀ : Nat} {ann : Option Value} : ∀ {n : Nat} {s s' : SharedT} {t : Thread}, goT (stepT (denote tb) p w) (stepOk n₀ ann) n s t = some s' → topRun tb p w n₀ ann n s.abs t = some s'.abs
  | 0, _, _, _, h => nomatch h
  | n + 1, s, s', t, h => by
    unfold goT at h
    unfold topRun
    cases ht : through t with
    | true => rw [ht] at h; cases h; rfl
    | false =>
      rw [ht] at h
      cases hk : stepOk n₀ ann t with
      | false => rw [hk] at h; cases h
      | true =>
        rw [hk] at h
        cases hs : stepT (denote tb) p w s t with
        | none => rw [hs] at h; cases h
        | some r => obtain ⟨s₂, t₂⟩ := r; rw [hs] at h; rw [stepT_spec hs]; exact goT_of h
/-- the state behind the boot, its heap as a tree -/
noncomputable def boot (w : World) (os : OsState) : SharedT := ⟨tree (boot_heap w.params).objs.toList 0 .nil, (boot_heap w.params).objs.size, (boot_heap w.params).life, #[], boot_drawn, boot_toks, os⟩
/-- the run of the top behind the boot -/
noncomputable def ran (p : Program) (N : Nat) (w : World) (os : OsState) : Option SharedT := goT (stepT (denote treeTable) p w) (stepOk 11 (some (.ref 6))) N (boot w os) (topStub p)
theorem boot_tree (P : Params) : absHeap (tree (boot_heap P).objs.toList 0 .nil) (boot_heap P).objs.size (boot_heap P).life = boot_heap P := by kernel_rfl
theorem boot_size (P : Params) : ((boot_heap P).isNs mainGlobals, (boot_heap P).objs.size, (boot_heap P).nsMap mainGlobals "__annotations__") = (true, 11, some (.ref 6)) := by kernel_rfl
/-- what is seen behind the run, in six parts, each by itself -/
theorem six {σ α β γ δ ε ζ η θ ι : Type} {x : World → OsState → Option σ} {f1 : σ → α} {f2 : σ → β} {f3 : σ → γ} {f4 : σ → δ} {f5 : σ → ε} {f6 : σ → ζ} {f7 : σ → η} {f8 : σ → θ} {f9 : σ → ι} {g1 : α} {g2 : β} {g3 : γ} {g4 : δ} {g5 : ε} {g6 : ζ} {g7 : η} {g8 : θ} {g9 : ι}
    (h1 : ∀ w os, (x w os).map (fun s => f1 s) = some g1) (h2 : ∀ w os, (x w os).map (fun s => (f2 s, f3 s)) = some (g2, g3)) (h3 : ∀ w os, (x w os).map (fun s => (f4 s, f5 s)) = some (g4, g5)) (h4 : ∀ w os, (x w os).map (fun s => f6 s) = some g6)
    (h5 : ∀ w os, (x w os).map (fun s => (f7 s, f8 s)) = some (g7, g8)) (h6 : ∀ w os, (x w os).map (fun s => f9 s) = some g9) : ∀ w os, (x w os).map (fun s => (f1 s, f2 s, f3 s, f4 s, f5 s, f6 s, f7 s, f8 s, f9 s)) = some (g1, g2, g3, g4, g5, g6, g7, g8, g9) := fun w os => by
  obtain ⟨s, e, e1⟩ := Option.map_eq_some_iff.mp (h1 w os)
  have e2 := h2 w os
  have e3 := h3 w os
  have e4 := h4 w os
  have e5 := h5 w os
  have e6 := h6 w os
  rw [e] at e2 e3 e4 e5 e6 ⊢
  have e2 := Option.some.inj e2
  have e3 := Option.some.inj e3
  have e4 := Option.some.inj e4
  have e5 := Option.some.inj e5
  have e6 := Option.some.inj e6
  simp only [Prod.mk.injEq] at e2 e3 e5
  exact congrArg some (Prod.ext e1 (Prod.ext e2.1 (Prod.ext e2.2 (Prod.ext e3.1 (Prod.ext e3.2 (Prod.ext e4 (Prod.ext e5.1 (Prod.ext e5.2 e6))))))))
theorem left {p q : Program} {loose : List Str} {Xt : Shared → Bool} {α : Type} {Yf : Shared → α} {Ya : World → α} {N : Nat} {g0 : Bool}
    (e : opening p = plainProg p.main.scope.names) (hN : Nat.ble 600 N = true) (f : ∀ s, fenceModules? p s = some s)
    (r1 : ∀ w os, (ran p N w os).map (fun s => staticsOk (importedModules p.main.body) (boot_heap w.params) s.abs.heap && namesBound p s.abs.heap && gensDone s.abs && laidKept (boot_heap w.params) s.abs.heap) = some true)
    (r2 : ∀ w os, (ran p N w os).map (fun s => openSeen q loose (importedModules p.main.body) Xt g0 s.abs) = some (openGood q loose))
    (r3 : ∀ w os, (ran p N w os).map (fun s => Yf s.abs) = some (Ya w)) : LeftO p q loose Xt Yf Ya N g0 := fun w => by
  obtain ⟨⟨h, gs, d, k, os⟩, e, e'⟩ := Option.map_eq_some_iff.mp (boot_open e hN f w)
  obtain ⟨rfl, rfl, rfl, rfl⟩ : h = boot_heap w.params ∧ gs = #[] ∧ d = boot_drawn ∧ k = boot_toks := by simpa using e'
  obtain ⟨z1, z2, z3⟩ : _ ∧ _ ∧ _ := by simpa only [Prod.mk.injEq] using boot_size w.params
  obtain ⟨s', r, l1⟩ := Option.map_eq_some_iff.mp (r1 w os)
  have l2 := r2 w os
  have l3 := r3 w os
  rw [r] at l2 l3
  have l2 := Option.some.inj l2
  have l3 := Option.some.inj l3
  unfold ran at r
  have r := goT_of r
  have hB : (boot w os).abs = ⟨boot_heap w.params, #[], boot_drawn, boot_toks, os⟩ := by
    unfold boot SharedT.abs
    rw [boot_tree]
  rw [hB] at r
  have t : topFrom treeTable p w N ⟨boot_heap w.params, #[], boot_drawn, boot_toks, os⟩ = some s'.abs := by
    unfold topFrom
    dsimp only
    rw [z1, z2, z3, r]
    show (match staticsOk (importedModules p.main.body) (boot_heap w.params) s'.abs.heap && namesBound p s'.abs.heap && gensDone s'.abs && laidKept (boot_heap w.params) s'.abs.heap with | true => _ | false => _) = _
    rw [l1]
  unfold openEnds
  rw [e]
  show (topFrom treeTable p w N _).map _ = _
  rw [t]
  exact congrArg some (Prod.ext l2 l3)
/-- the same run by the library's quick twins -/
theorem ran_eq : @ran = fun p N w os => goT (PySem.W.Fast.tw10156331382660048174 (denote PySem.W.Fast.tw14364793385576792824) p w) (PySem.W.Fast.tw6613529449190102663 11 (some (.ref 6))) N (boot w os) (topStub p) := by
  unfold ran
  rw [PySem.W.Fast.te10156331382660048174, PySem.W.Fast.te6613529449190102663, PySem.W.Fast.te14364793385576792824]
end Hd

section
open PySem PySem.W PyProof.Rows
set_option maxHeartbeats 0
noncomputable def Hk.top : Hd.TopT PySem.Challenge.rw_cablehouse_k35_editions_by_days.Holds := by
  apply Hd.TopT.mk
  case go =>
    intro x1 x2 x3 x4 x5 x6 x7 x8 x9 y z
    w_on; refine PySem.W.holds_law (by kernel_rfl) fun said => ?_
    apply Hd.keep3
    case main => k_head
    case hl => exact Hd.left (by kernel_rfl) (by decide) (fun _ => by kernel_rfl) x1 (Hd.six x2 x4 x5 x6 x7 x8) (Hd.two 180 x3 x9)
    case hw => exact y
    case hc => exact z
theorem Hk.DE : Hk.top.l1 := by
  delta Hk.top
  dsimp only
  intro w os
  rw [Hd.ran_eq]
  kernel_rfl
theorem Hk.DF : Hk.top.l2 := by
  delta Hk.top
  dsimp only
  intro w os
  rw [Hd.ran_eq]
  kernel_rfl
theorem Hk.DH : Hk.top.l3 := by
  delta Hk.top
  dsimp only
  intro w os
  rw [Hd.ran_eq]
  kernel_rfl
theorem Hk.DI : Hk.top.l4 := by
  delta Hk.top
  dsimp only
  intro w os
  rw [Hd.ran_eq]
  kernel_rfl
theorem Hk.DJ : Hk.top.l5 := by
  delta Hk.top
  dsimp only
  intro w os
  rw [Hd.ran_eq]
  kernel_rfl
theorem Hk.DL : Hk.top.l6 := by
  delta Hk.top
  dsimp only
  intro w os
  rw [Hd.ran_eq]
  kernel_rfl
theorem Hk.DM : Hk.top.l7 := by
  delta Hk.top
  dsimp only
  intro w os
  rw [Hd.ran_eq]
  kernel_rfl
theorem Hk.DN : Hk.top.l8 := by
  delta Hk.top
  dsimp only
  intro w os
  rw [Hd.ran_eq]
  kernel_rfl
theorem Hk.DO : Hk.top.l9 := by
  delta Hk.top
  dsimp only
  intro w os
  rw [Hd.ran_eq]
  kernel_rfl
theorem Hk.DQ : Hk.top.h := by
  delta Hk.top
  dsimp only
  w_witness2
end
-- CHANGE: your row's module here,as the last of these rows
set_option Elab.async false
set_option linter.all false
set_option maxRecDepth 100000
namespace L2
open PySem PySem.Spec PyProof.Rows

abbrev Key:=Sum Int Str
def ip:Key->Value->Bool
 | .inl k,v=>Value.isInt k v
 | .inr x,v=>Value.isStrOf x v
def DZ (w:World):Key->Int
 | .inl k=>hashInt k
 | .inr x=>hashStr w x
theorem bD:∀ {k:Key}{v:Value},ip k v=true->(∃ i t,k=Sum.inl i/\v=Value.int i t) ∨ (∃ x t,k=Sum.inr x/\v=Value.str x t)
 | .inl i,v,h=>by
  obtain ⟨t,e⟩:=Value.isInt_shape (k:=i) (v:=v) h
  exact .inl ⟨i,t,rfl,e⟩
 | .inr x,v,h=>by
  obtain ⟨t,e⟩:=Value.isStrOf_shape (x:=x) (v:=v) h
  exact .inr ⟨x,t,rfl,e⟩
theorem vP (i:Int) (t:Tok):ip (.inl i) (.int i t)=true:=by simp [ip,Value.isInt]
theorem oq (x:Str) (t:Tok):ip (.inr x) (.str x t)=true:=by simp [ip,Value.isStrOf]
theorem Cd (a b:Int):decide ((Sum.inl a:Key)=Sum.inl b)=(a == b):=by
 by_cases e:a=b
 ·subst e;simp
 ·have h:¬ (Sum.inl a:Key)=Sum.inl b:=fun q=>e (Sum.inl.inj q)
  rw [decide_eq_false h]
  exact (beq_eq_false_iff_ne.mpr e).symm
theorem Cg (a b:Str):decide ((Sum.inr a:Key)=Sum.inr b)=decide (a=b):=by
 by_cases e:a=b
 ·subst e;simp
 ·have h:¬ (Sum.inr a:Key)=Sum.inr b:=fun q=>e (Sum.inr.inj q)
  rw [decide_eq_false h,decide_eq_false e]
theorem Ce (a:Int) (b:Str):decide ((Sum.inl a:Key)=Sum.inr b)=false:=decide_eq_false (fun q=>nomatch q)
theorem Cf (a:Str) (b:Int):decide ((Sum.inr a:Key)=Sum.inl b)=false:=decide_eq_false (fun q=>nomatch q)

def aI (prog:Program) (w:World):PySem.KeyKind prog w Key where
 is:=ip
 hash:=DZ w
 inj:=fun v a b ha hb=>by
  rcases bD ha with ⟨i,t,rfl,rfl⟩ | ⟨x,t,rfl,rfl⟩
  ·rcases bD hb with ⟨j,u,rfl,e⟩ | ⟨y,u,rfl,e⟩
   ·injection e with e1 _;rw [e1]
   ·exact nomatch e
  ·rcases bD hb with ⟨j,u,rfl,e⟩ | ⟨y,u,rfl,e⟩
   ·exact nomatch e
   ·injection e with e1 _;rw [e1]
 byValue:=fun k v h=>by
  rcases bD h with ⟨i,t,rfl,rfl⟩ | ⟨x,t,rfl,rfl⟩ <;> rfl
 pyHash:=fun hv h=>by
  rcases bD hv with ⟨i,t,rfl,rfl⟩ | ⟨x,t,rfl,rfl⟩
  ·exact wpAny_pyHash_int h
  ·exact wpAny_pyHash_str h
 eqBool:=fun hu hv h=>by
  rcases bD hu with ⟨i,t,rfl,rfl⟩ | ⟨x,t,rfl,rfl⟩
  ·rcases bD hv with ⟨j,u,rfl,rfl⟩ | ⟨y,u,rfl,rfl⟩
   ·rw [Cd] at h;exact wpAny_eqBool_int h
   ·rw [Ce] at h;exact SeqAt.EqAt.int_str i t y u _ _ _ _ h
  ·rcases bD hv with ⟨j,u,rfl,rfl⟩ | ⟨y,u,rfl,rfl⟩
   ·rw [Cf] at h;exact SeqAt.EqAt.str_int x t j u _ _ _ _ h
   ·rw [Cg] at h;exact wpAny_eqBool_str h
 «strs»:=fun k x t v h=>by
  rcases bD h with ⟨i,u,rfl,e⟩ | ⟨y,u,rfl,e⟩
  ·exact nomatch e
  ·injection e with e1 _
   subst e1
   cases v <;> rfl

theorem qS (prog:Program) (w:World) (i:Int) (t:Tok):(aI prog w).is (.inl i) (.int i t)=true:=vP i t
theorem qT (prog:Program) (w:World) (x:Str) (t:Tok):(aI prog w).is (.inr x) (.str x t)=true:=oq x t
end L2

namespace L2
open PySem PySem.Spec PyProof.Rows

inductive V where
 | non | bl (b:Bool) | int (i:Int) | str (x:Str) | byt (b:Array UInt8) | flt (b:UInt64) | ref (a:Addr) | ty (n:String)
 deriving DecidableEq

def RelV:V->Value->Prop
 | .non,u=>u=Value.none
 | .bl b,u=>u=Value.bool b
 | .int i,u=>∃ t,u=Value.int i t
 | .str x,u=>∃ t,u=Value.str x t
 | .byt b,u=>∃ t,u=Value.bytes b t
 | .flt b,u=>∃ t,u=Value.float b t
 | .ref a,u=>u=Value.ref a
 | .ty n,u=>u=Value.type n

abbrev Vals:List V->List Value->Prop:=Paired RelV
theorem Vals.length {xs:List V}{us:List Value} (r:Vals xs us):xs.length=us.length:=Paired.length r
theorem Vals.get:∀ {xs:List V}{us:List Value}{i:Nat}{x:V},Vals xs us->xs[i]?=some x->∃ u,us[i]?=some u/\RelV x u
 | _,_,_,_,.nil,e=>by simp at e
 | _,_,0,_,.cons r _,e=>by simp at e;subst e;exact ⟨_,rfl,r⟩
 | _,_,i + 1,x,.cons _ t,e=>by
  obtain ⟨u,h1,h2⟩:=Vals.get (i:=i) (x:=x) t (by simpa using e)
  exact ⟨u,by simpa using h1,h2⟩
theorem Vals.set {x:V}{u:Value} (r:RelV x u):∀ {xs:List V}{us:List Value} (i:Nat),Vals xs us->Vals (xs.set i x) (us.set i u)
 | _,_,_,.nil=>.nil
 | _,_,0,.cons _ t=>.cons r t
 | _,_,i + 1,.cons q t=>.cons q (Vals.set r i t)
theorem Vals.append:∀ {xs ys:List V}{us ws:List Value},Vals xs us->Vals ys ws->Vals (xs++ys) (us++ws)
 | _,_,_,_,.nil,s=>s
 | _,_,_,_,.cons r t,s=>.cons r (Vals.append t s)
theorem Vals.take:∀ {xs:List V}{us:List Value} (n:Nat),Vals xs us->Vals (xs.take n) (us.take n)
 | _,_,0,_=>.nil
 | _,_,_ + 1,.nil=>.nil
 | _,_,n + 1,.cons r t=>.cons r (Vals.take n t)
theorem Vals.drop:∀ {xs:List V}{us:List Value} (n:Nat),Vals xs us->Vals (xs.drop n) (us.drop n)
 | _,_,0,r=>r
 | _,_,_ + 1,.nil=>.nil
 | _,_,n + 1,.cons _ t=>Vals.drop n t
theorem Vals.none_of:∀ {xs:List V}{us:List Value}{i:Nat},Vals xs us->xs[i]?=none->us[i]?=none:=fun {xs us i} r e=>by
 have h1:=r.length
 have h2:xs.length<=i:=List.getElem?_eq_none_iff.mp e
 exact List.getElem?_eq_none_iff.mpr (by omega)

def gd:Option V->Option Value->Prop
 | some v,some u=>RelV v u
 | none,none=>True
 | _,_=>False
def KV {κ:Type}:List (κ × V)->List (κ × Value)->Prop:=Paired fun (p:κ × V) (q:κ × Value)=>p.1=q.1/\RelV p.2 q.2

def kV:Key->V
 | .inl i=>.int i
 | .inr x=>.str x

inductive HO where
 /-- a list -/
 | lst (xs:List V)
 /-- a tuple (never changes) -/
 | tup (xs:List V)
 /-- a dict whose keys are ints and texts;one whose keys are tuples of ints and texts (the empty one is both) -/
 | dK (kvs:List (Key × V)) | dT (kvs:List (List Key × V))
 /-- a set of ints: its members,its size -/
 | set (S:Int->Bool) (n:Nat)
 /-- an instance of the class at C,its dict at dx,its attributes -/
 | ins (C dx:Addr) (fs:List (Str × V))
 /-- the dict of the instance at x -/
 | own (x:Addr)
 /-- the dict of an exception -/
 | xd (fs:List (Str × V))
 /-- a bound method,f of x -/
 | met (f x:Addr)
 /-- a range object lo,lo + 1,.. below hi -/
 | rng (lo hi:Int)
 /-- a thing that is known to the object (the script;a dict while a loop walks it): read,never written while it is so -/
 | frz (o:Obj) (u:HO)
 /-- a code object's table -/
 | tbl (ps:Array Value)
 /-- any other thing,by what is true of its one object (a def of one's own: SetO a S n:=HO.ext fun h=>..) -/
 | ext (φ:Heap->Prop)

abbrev Hp:=Addr->Option HO
def upd (H:Hp) (a:Addr) (o:HO):Hp:=fun b=>if b=a then some o else H b
theorem aq {H:Hp}{a:Addr}{o:HO}:upd H a o a=some o:=by unfold upd;rw [if_pos rfl]
theorem aj {H:Hp}{a b:Addr}{o:HO} (h:b≠a):upd H a o b=H b:=by unfold upd;rw [if_neg h]
theorem aC {H:Hp}{a b:Addr}{o u:HO} (h:H a=some o) (h':H b=some u) (d:o≠u):a≠b:=by
 intro e;subst e;rw [h] at h';exact d (Option.some.inj h')
theorem aP {H:Hp}{a b:Addr}{o:HO} (h:H a=some o) (h':H b=none):a≠b:=by
 intro e;subst e;rw [h] at h';cases h'

section
variable (P:Program) (w:World)
def aS (H:Hp) (h:Heap) (a:Addr):HO->Prop
 | .lst xs=>xs.length<=sizeLine/\∃ (its:List Value) (n:Nat),Vals xs its/\h.get? a=some { cls:=.type "list",data:=.seq its.toArray n }
 | .tup xs=>xs.length<=sizeLine/\∃ its:List Value,Vals xs its/\IsTup h a its.toArray
 | .dK kvs=>kvs.length<=sizeLine/\(a == sysModules)=false/\∃ vs,KV kvs vs/\h.DictOf (aI P w) a vs
 | .dT kvs=>kvs.length<=sizeLine/\(a == sysModules)=false/\∃ xs:List (List Key × Addr × Value),
   Paired (fun (p:List Key × V) (q:List Key × Addr × Value)=>p.1=q.1/\H q.2.1=some (.tup (p.1.map kV))/\RelV p.2 q.2.2) kvs xs ∧
   ∃ o es ep,h.get? a=some o/\o.ExactDict/\o.data=.dict es ep/\es.toList=xs.map (entryOfKey (tupleKind (aI P w)))/\(xs.map (·.1)).Nodup
 | .set S n=>h.SetOf (intKind P w) a S n
 | .ins C dx fs=>H dx=some (.own a)/\fs.length<=1000/\dx≠a/\h.get? a=some (PySem.W.instObj C dx) ∧
   ∃ mA,h.Ns1 dx mA/\(∀ f,gd (fs.lookup f) (mA f))/\PySem.Within mA (fs.map (·.1))
 | .own _=>∃ o,h.get? a=some o
 | .xd fs=>∃ mA,h.Ns1 a mA/\∀ f,gd (fs.lookup f) (mA f)
 | .rng lo hi=>∃ t u v,h.get? a=some { cls:=.type "range",data:=.fields #[.int lo t,.int hi u,.int 1 v] }
 | .frz o u=>h.get? a=some o/\aS H h a u
 | .tbl ps=>∃ qs:Array Value,h.get? a=some { cls:=.none,data:=.fields qs }/\TriplesOk qs.toList/\∀ pos c,codeAmong pos qs.toList=some c->∃ c' oc vs t q,c=.ref c'/\H c'=some (.frz oc (.own a))/\oc.data=.fields vs/\vs[1]?=some (.str q t)/\ps=#[.str q 0]
 | .met f x=>h.get? a=some (PySem.W.methodObj (.ref f) (.ref x))
 | .ext φ=>φ h/\(∃ o,h.get? a=some o)/\∀ h1 h2:Heap,φ h1->(∀ o,h1.get? a=some o->h2.get? a=some o)->φ h2
def HOk (H:Hp) (h:Heap):Prop:=∀ a o,H a=some o->aS P w H h a o
end

section
variable {P:Program}{w:World}{H H':Hp}{h h':Heap}{a:Addr}{o:HO}
theorem aS.lt (x:aS P w H h a o):a < h.objs.size:=by
 cases o with
 | lst xs=>obtain ⟨_,_,_,_,e⟩:=x;exact Heap.lt_size e
 | tup xs=>obtain ⟨_,_,_,p⟩:=x;exact p.lt
 | dK kvs=>obtain ⟨_,_,_,_,o,_,_,e,_⟩:=x;exact Heap.lt_size e
 | dT kvs=>obtain ⟨_,_,_,_,o,_,_,e,_⟩:=x;exact Heap.lt_size e
 | set S n=>obtain ⟨o,_,_,_,e,_⟩:=x;exact Heap.lt_size e
 | ins C dx fs=>obtain ⟨_,_,_,e,_⟩:=x;exact Heap.lt_size e
 | own y=>obtain ⟨_,e⟩:=x;exact Heap.lt_size e
 | xd fs=>obtain ⟨_,⟨_,_,_,e,_⟩,_⟩:=x;exact Heap.lt_size e
 | rng lo hi=>obtain ⟨_,_,_,e⟩:=x;exact Heap.lt_size e
 | frz ob u=>obtain ⟨e,_⟩:=x;exact Heap.lt_size e
 | tbl ps=>obtain ⟨_,e,_⟩:=x;exact Heap.lt_size e
 | met f y=>exact Heap.lt_size (show h.get? a=some _ from x)
 | ext φ=>obtain ⟨_,⟨_,e⟩,_⟩:=x;exact Heap.lt_size e
theorem Paired.Cm {α β:Type}{F G:α->β->Prop}:∀ {l₁:List α}{l₂:List β},Paired F l₁ l₂->(∀ a b,F a b->G a b)->Paired G l₁ l₂
 | _,_,.nil,_=>.nil
 | _,_,.cons r t,f=>.cons (f _ _ r) (Paired.Cm t f)
theorem aS.ji (x:aS P w H h a o) (k:∀ b u,(b=a ∨ H b=some (.own a))->h.get? b=some u->h'.get? b=some u)
  (ho:∀ b,H b=some (.own a)->H' b=some (.own a)) (ht:∀ b xs,H b=some (.tup xs)->H' b=some (.tup xs))
  (hf:∀ b ob u,H b=some (.frz ob u)->H' b=some (.frz ob u):=by first | exact fun _ _ _ q=>q | exact fun c ob u q=>(aj (aP q (by assumption))).trans q):aS P w H' h' a o:=by
 induction o with
 | lst xs=>obtain ⟨z,its,n,r,e⟩:=x;exact ⟨z,its,n,r,k _ _ (.inl rfl) e⟩
 | tup xs=>obtain ⟨z,its,r,ob,e,c⟩:=x;exact ⟨z,its,r,ob,k _ _ (.inl rfl) e,c⟩
 | dK kvs=>obtain ⟨z,y,vs,r,ob,es,ep,e,c⟩:=x;exact ⟨z,y,vs,r,ob,es,ep,k _ _ (.inl rfl) e,c⟩
 | dT kvs =>
  obtain ⟨z,y,xs,r,ob,es,ep,e,c⟩:=x
  exact ⟨z,y,xs,Paired.Cm r fun p q z=>⟨z.1,ht _ _ z.2.1,z.2.2⟩,ob,es,ep,k _ _ (.inl rfl) e,c⟩
 | set S n=>obtain ⟨ob,es,ep,t,e,c⟩:=x;exact ⟨ob,es,ep,t,k _ _ (.inl rfl) e,c⟩
 | ins C dx fs =>
  obtain ⟨d,z,ne,e,mA,⟨od,es,ep,e2,c⟩,r⟩:=x
  exact ⟨ho _ d,z,ne,k _ _ (.inl rfl) e,mA,⟨od,es,ep,k _ _ (.inr d) e2,c⟩,r⟩
 | own y=>obtain ⟨ob,e⟩:=x;exact ⟨ob,k _ _ (.inl rfl) e⟩
 | xd fs=>obtain ⟨mA,⟨od,es,ep,e,c⟩,r⟩:=x;exact ⟨mA,⟨od,es,ep,k _ _ (.inl rfl) e,c⟩,r⟩
 | rng lo hi=>obtain ⟨t,u,v,e⟩:=x;exact ⟨t,u,v,k _ _ (.inl rfl) e⟩
 | frz ob u ih=>obtain ⟨e,q⟩:=x;exact ⟨k _ _ (.inl rfl) e,ih q⟩
 | tbl ps =>
  obtain ⟨qs,e,t,z⟩:=x
  refine ⟨qs,k a _ (.inl rfl) e,t,fun pos c q=>?_⟩
  obtain ⟨c',oc,vs,tk,qq,h1,h2,h3⟩:=z pos c q
  exact ⟨c',oc,vs,tk,qq,h1,hf _ _ _ h2,h3⟩
 | met f y =>
  have e:h.get? a=some (PySem.W.methodObj (.ref f) (.ref y)):=x
  show h'.get? a=some (PySem.W.methodObj (.ref f) (.ref y))
  exact k a _ (.inl rfl) e
 | ext φ=>obtain ⟨p,⟨o,e⟩,st⟩:=x;exact ⟨st _ _ p fun o q=>k _ _ (.inl rfl) q,⟨o,k _ _ (.inl rfl) e⟩,st⟩
theorem HOk.lt (x:HOk P w H h) (e:H a=some o):a < h.objs.size:=(x a o e).lt
theorem HOk.fresh (x:HOk P w H h) (e:h.objs.size<=a):H a=none:=by
 cases q:H a with
 | none=>rfl
 | some u=>exact absurd (Nat.lt_of_lt_of_le (x.lt q) e) (Nat.lt_irrefl _)
theorem HOk.kept (x:HOk P w H h) (k:∀ b u,h.get? b=some u->h'.get? b=some u):HOk P w H h':=fun a o e =>
 (x a o e).ji (fun b u _ q=>k b u q) (fun _ q=>q) fun _ _ q=>q
theorem HOk.laid (x:HOk P w H h) (k:∀ b u,h.get? b=some u->h'.get? b=some u) (hp:h.objs.size<=a) (new:aS P w (upd H a o) h' a o):HOk P w (upd H a o) h':=fun b u e=>by
 have hn:=x.fresh hp
 by_cases hb:b=a
 ·subst hb;rw [aq] at e;cases e;exact new
 ·rw [aj hb] at e
  exact (x b u e).ji (fun c v _ q=>k c v q) (fun c q=>by rw [aj (aP q hn)];exact q) fun c xs q=>by rw [aj (aP q hn)];exact q
end

def Rd (H:Hp) (a:Addr) (u:HO):Prop:=H a=some u ∨ ∃ o,H a=some (.frz o u)
theorem Rd.of {H:Hp}{a:Addr}{u:HO} (h:H a=some u):Rd H a u:=.inl h
theorem Rd.ok {P:Program}{w:World}{H:Hp}{h:Heap}{a:Addr}{u:HO} (r:Rd H a u) (x:HOk P w H h):aS P w H h a u:=by
 rcases r with r | ⟨o,r⟩
 ·exact x a u r
 ·obtain ⟨_,q⟩:=x a _ r
  exact q
def Mut:Option HO->Prop
 | some (.lst _)=>True
 | some (.dK _)=>True
 | some (.dT _)=>True
 | some (.set _ _)=>True
 | some (.ins _ _ _)=>True
 | some (.ext _)=>True
 | _=>False
section
variable {P:Program}{w:World}{H:Hp}{h h':Heap}{x e:Addr}{o':HO}
theorem HOk.write (ok:HOk P w H h) (mu:Mut (H x)) (he:e=x ∨ H e=some (.own x)) (k:∀ b u,b≠e->h.get? b=some u->h'.get? b=some u) (heo:∃ u,h'.get? e=some u)
  (new:aS P w (upd H x o') h' x o'):HOk P w (upd H x o') h':=fun b u q=>by
 have nown:∀ c y,H c=some (.own y)->c≠x:=fun c y r z=>by subst z;rw [r] at mu;exact mu
 have ntup:∀ c xs,H c=some (.tup xs)->c≠x:=fun c xs r z=>by subst z;rw [r] at mu;exact mu
 by_cases hb:b=x
 ·subst hb;rw [aq] at q;cases q;exact new
 ·rw [aj hb] at q
  by_cases hbe:b=e
  ·have q':H b=some (.own x):=by
    rcases he with z | z
    ·exact absurd (hbe.trans z) hb
    ·rw [hbe];exact z
   rw [q] at q';cases q'
   obtain ⟨v,hv⟩:=heo
   exact ⟨v,by rw [hbe];exact hv⟩
  ·refine (ok b u q).ji (fun c v hc r=>k c v ?_ r) (fun c r=>by rw [aj (nown c b r)];exact r) (fun c xs r=>by rw [aj (ntup c xs r)];exact r) fun c ob u r=>(aj (fun z=>by subst z;rw [r] at mu;exact mu)).trans r
   rcases hc with rfl | hc
   ·exact hbe
   ·rintro rfl
    rcases he with z | z
    ·exact nown c b hc z
    ·rw [hc] at z;cases z;exact hb rfl
end

structure Un (fs ex:List Addr) (H H':Hp) (h h':Heap):Prop where
 keep:∀ b o,h.get? b=some o->H b=none->b ∉ fs->b ∉ ex->h'.get? b=some o
 slot:∀ b o,h.get? b=some o->H b=none->b∈fs->b ∉ ex->∃ sl,h'.get? b=some { o with slots:=sl }
 free:∀ b o,h.get? b=some o->H b=none->b ∉ ex->H' b=none
 there:∀ b o,h.get? b=some o->b ∉ ex->∃ o',h'.get? b=some o'
 tups:∀ b xs,H b=some (.tup xs)->H' b=some (.tup xs)
 frzs:∀ b o u,H b=some (.frz o u)->H' b=some (.frz o u)
 tbls:∀ b ps,H b=some (.tbl ps)->∃ more,H' b=some (.tbl (ps++more))
section
variable {fs fs' ex ex':List Addr}{H H1 H2:Hp}{h h1 h2 h':Heap}{a x e:Addr}{o:HO}
theorem Un.any (u:Un fs ex H H1 h h1) {b:Addr}{ob:Obj} (q:h.get? b=some ob) (n:H b=none) (hx:b ∉ ex):∃ sl,h1.get? b=some { ob with slots:=sl }:=by
 by_cases hb:b∈fs
 ·exact u.slot b ob q n hb hx
 ·exact ⟨ob.slots,u.keep b ob q n hb hx⟩
theorem Un.trans (a:Un fs ex H H1 h h1) (b:Un fs ex H1 H2 h1 h2):Un fs ex H H2 h h2 where
 keep:=fun c ob q n hc hx=>b.keep c ob (a.keep c ob q n hc hx) (a.free c ob q n hx) hc hx
 slot:=fun c ob q n hc hx=>by
  obtain ⟨sl,e1⟩:=a.slot c ob q n hc hx
  obtain ⟨sl',e2⟩:=b.slot c _ e1 (a.free c ob q n hx) hc hx
  exact ⟨sl',e2⟩
 free:=fun c ob q n hx=>by
  obtain ⟨o',e1⟩:=a.there c ob q hx
  exact b.free c o' e1 (a.free c ob q n hx) hx
 there:=fun c ob q hx=>by
  obtain ⟨o',e1⟩:=a.there c ob q hx
  exact b.there c o' e1 hx
 tups:=fun c xs q=>b.tups c xs (a.tups c xs q)
 frzs:=fun c ob xs q=>b.frzs c ob xs (a.frzs c ob xs q)
 tbls:=fun c ps q=>by
  obtain ⟨m1,e1⟩:=a.tbls c ps q
  obtain ⟨m2,e2⟩:=b.tbls c _ e1
  exact ⟨m1++m2,by rw [e2,Array.append_assoc]⟩
theorem Un.kept (k:∀ b u,h.get? b=some u->h'.get? b=some u):Un fs ex H H h h' :=
 ⟨fun b ob q _ _ _=>k b ob q,fun b ob q _ _ _=>⟨ob.slots,k b ob q⟩,fun _ _ _ n _=>n,fun b ob q _=>⟨ob,k b ob q⟩,fun _ _ q=>q,fun _ _ _ q=>q,fun _ ps q=>⟨#[],by rw [q];simp⟩⟩
theorem Un.refl:Un fs ex H H h h:=Un.kept fun _ _ q=>q
theorem Un.laid (k:∀ b u,h.get? b=some u->h'.get? b=some u) (hp:h.objs.size<=a) (hn:H a=none):Un fs ex H (upd H a o) h h' where
 keep:=fun b u q _ _ _=>k b u q
 slot:=fun b u q _ _ _=>⟨u.slots,k b u q⟩
 free:=fun b u q n _=>by rw [aj (Nat.ne_of_lt (Nat.lt_of_lt_of_le (Heap.lt_size q) hp))];exact n
 there:=fun b u q _=>⟨u,k b u q⟩
 tups:=fun b xs q=>by rw [aj (aP q hn)];exact q
 frzs:=fun b u xs q=>by rw [aj (aP q hn)];exact q
 tbls:=fun b ps q=>⟨#[],by rw [aj (aP q hn),q];simp⟩
theorem Un.write (mu:Mut (H x)) (he:e=x ∨ H e=some (.own x)) (k:∀ b u,b≠e->h.get? b=some u->h'.get? b=some u) (heo:∃ u,h'.get? e=some u):Un fs ex H (upd H x o) h h':=by
 have hx:∀ b,H b=none->b≠x:=fun b n z=>by subst z;rw [n] at mu;exact mu
 have hb:∀ b,H b=none->b≠e:=fun b n z=>by
  subst z
  rcases he with r | r
  ·exact hx b n r
  ·rw [n] at r;cases r
 have hm:∀ b u,H b=some u->¬ Mut (some u)->b≠x:=fun b u q nm z=>by subst z;rw [q] at mu;exact nm mu
 refine ⟨fun b u q n _ _=>k b u (hb b n) q,fun b u q n _ _=>⟨u.slots,k b u (hb b n) q⟩,fun b u q n _=>by rw [aj (hx b n)];exact n,fun b u q _=>?_,
  fun b xs q=>by rw [aj (hm b _ q fun z=>z)];exact q,fun b u xs q=>by rw [aj (hm b _ q fun z=>z)];exact q,fun b ps q=>⟨#[],by rw [aj (hm b _ q fun z=>z),q];simp⟩⟩
 by_cases hbe:b=e
 ·subst hbe;exact heo
 ·exact ⟨u,k b u hbe q⟩
theorem Un.mono (u:Un fs ex H H1 h h1) (hs:∀ b∈fs,b∈fs') (hx:∀ b∈ex,b∈ex'):Un fs' ex' H H1 h h1 :=
 ⟨fun b ob q n hb he=>u.keep b ob q n (fun z=>hb (hs b z)) fun z=>he (hx b z),fun _ _ q n _ he=>u.any q n fun z=>he (hx _ z),fun b ob q n he=>u.free b ob q n fun z=>he (hx b z),fun b ob q he=>u.there b ob q fun z=>he (hx b z),u.tups,u.frzs,u.tbls⟩
end

def trk (h:Heap) (H:Hp):List Addr:=(List.range h.objs.size).filter fun a=>(H a).isSome
def oY (h:Heap) (H:Hp):Heap:=PySem.W.hideAll h (trk h H)
theorem vL (h:Heap) (H:Hp):(oY h H).objs.size=h.objs.size:=PySem.W.hideAll_size _ _
theorem xX {h:Heap}{H:Hp}{b:Addr}{o:Obj} (e:h.get? b=some o) (n:H b=none):(oY h H).get? b=some o :=
 PySem.W.hideAll_get _ e fun hm=>by
  have q:(H b).isSome=true:=(List.mem_filter.mp hm).2
  rw [n] at q;simp at q
theorem An {h:Heap}{H:Hp}{b:Addr}{o:Obj} (e:(oY h H).get? b=some o):h.get? b=some o/\H b=none:=by
 have e':h.get? b=some o:=PySem.W.of_hideAll (trk h H) e
 refine ⟨e',?_⟩
 cases q:H b with
 | none=>rfl
 | some x =>
  have hm:b∈trk h H:=List.mem_filter.mpr ⟨List.mem_range.mpr (Heap.lt_size e'),by simp [q]⟩
  have z:(oY h H).get? b=none:=PySem.W.hideAll_none (trk h H) hm
  rw [z] at e;cases e

def zM (g h:Heap) (L:Addr):List (Addr × Obj):=(List.range h.objs.size).filterMap fun a=>if a=L ∨ (g.get? a).isSome=true then none else (h.get? a).map fun o=>(a,o)
def rest (g h:Heap) (L d:Addr):List (Addr × Obj):=(zM g h L).filter fun p=>decide (p.1≠d)
end L2

namespace L2
open PySem PySem.Spec PyProof.Rows

structure Mod (K:PySem.W.Frag) (mg:Str->Option Value) (base:Heap):Prop where
 kin:K.In base
 glob:base.Ns mainGlobals mg
 blt:∃ mb,base.Ns builtinsNs mb/\∀ x:Str,x≠"__name__"->mb x=bootBuiltins x
 nolimit:base.NoLimit
 bmn:∃ bm ob,mg "__builtins__"=some (.ref bm)/\bm≠builtinsNs/\base.get? bm=some ob/\ob.cls=.type "module"/\ob.dict=some builtinsNs/\ob.data=.plain

/-- the context: a def's body (or a comprehension's block) running. base: fixed through the whole law;s₀,H₀: the entry;outer: the frames whose slots others may change (a def's callers);stack: all frames that run;
  ex: iterators that were made ahead of the entry and are walked here (a comprehension's);fn: the names whose cells were made at the entry (a def: all;a comprehension's block: its own);calm: not within an except suite;pn: pins that every state bears;xe: what is wanted of an exception that leaves the code -/
structure Cx where
 prog:Program
 w:World
 K:PySem.W.Frag
 mg:Str->Option Value
 base:Heap
 A:Around
 N:List Str
 s₀:Shared
 H₀:Hp
 env:Env
 outer:List Env
 stack:List Env
 ex:List Addr
 fn:Str->Bool
 calm:Bool
 pn:List (Addr × Obj)
 xe:Value->Shared->Prop
def frs (l:List Env):List Addr:=l.filterMap (·.frame)
abbrev Cx.fs (X:Cx):List Addr:=frs X.outer

def Vis (sc:Scope) (x:Str):Prop:=sc.names.lookup x=some .local ∨ sc.names.lookup x=some .cell ∨ sc.names.lookup x=some .free
def Loc (sc:Scope) (x:Str):Prop:=sc.names.lookup x=some .local ∨ sc.names.lookup x=some .cell
def Look (env:Env) (h:Heap) (m:Str->Option Value) (x:Str) (u:Value):Prop :=
 (env.kindOf x=some .local/\m x=some u) ∨ ((env.kindOf x=some .cell ∨ env.kindOf x=some .free)/\∃ c,env.cells.lookup x=some c/\h.IsCell c (some u))

structure Cx.Ok (X:Cx):Prop where
 mod:Mod X.K X.mg X.base
 kind:X.env.scope.kind=.function
 glob:X.env.globals=mainGlobals
 blt:X.env.builtins=builtinsNs
 above:X.s₀.heap.objs.size<=X.env.locals
 inj:∀ x y c,X.env.cells.lookup x=some c->X.env.cells.lookup y=some c->x=y
 has:∀ x,(X.env.kindOf x=some .cell ∨ X.env.kindOf x=some .free)->∃ c,X.env.cells.lookup x=some c
 cab:∀ x c,X.fn x=true->X.env.cells.lookup x=some c->X.s₀.heap.objs.size<=c
 hd:X.calm=true->X.A.handled=none
 frames:X.A.frames=some X.stack
 stk:X.stack=X.outer ∨ (X.stack=X.env::X.outer/\X.env.frame=some X.env.locals)
 exf:∀ b∈X.ex,b≠X.env.locals/\∀ x c,X.env.cells.lookup x=some c->c≠b
 bs:∀ b o,X.base.get? b=some o->X.s₀.heap.get? b=some o/\X.H₀ b=none
 bsz:X.base.objs.size<=X.s₀.heap.objs.size
 noex:∀ b o,X.base.get? b=some o->b ∉ X.ex
 exfs:∀ b∈X.ex,b ∉ X.fs
 ik:X.s₀.heap.FunFrames X.base X.outer
 frf:∀ b∈X.fs,X.H₀ b=none

structure Inv (X:Cx) (pins:List (Addr × Obj)) (σ:List (Option V)) (H:Hp) (s:Shared):Prop where
 ok:X.Ok
 os:s.os=X.s₀.os
 bare:AllBare s.gens
 base:Un X.fs X.ex X.H₀ H X.s₀.heap s.heap
 loc:∃ m,s.heap.Ns X.env.locals m/\∀ (i:Nat) (x:Str) (v:V),X.N[i]?=some x->σ[i]?=some (some v)->Vis X.env.scope x->∃ u,RelV v u/\Look X.env s.heap m x u
 cell:∀ x c,X.env.cells.lookup x=some c->∃ v,s.heap.IsCell c v
 free:H X.env.locals=none
 freeC:∀ x c,X.env.cells.lookup x=some c->H c=none
 pin:∀ p∈X.pn++pins,s.heap.get? p.1=some p.2/\H p.1=none/\p.1≠X.env.locals/\p.1 ∉ X.fs/\∀ v,p.2.data≠.cell v
 hok:HOk X.prog X.w H s.heap
 len:σ.length=X.N.length

section
variable {X:Cx}{pins:List (Addr × Obj)}{σ:List (Option V)}{H H':Hp}{s:Shared}{h':Heap}

theorem Cx.Ok.Ec (ok:X.Ok) {b:Addr}{o:Obj} (e:X.base.get? b=some o):b ∉ X.fs:=fun hb=>by
 have:=(ok.ik.mem hb).1
 rw [e] at this;cases this
theorem Inv.bs (I:Inv X pins σ H s):∀ b o,X.base.get? b=some o->s.heap.get? b=some o/\H b=none:=fun b o e =>
 ⟨I.base.keep b o (I.ok.bs b o e).1 (I.ok.bs b o e).2 (I.ok.Ec e) (I.ok.noex b o e),I.base.free b o (I.ok.bs b o e).1 (I.ok.bs b o e).2 (I.ok.noex b o e)⟩
theorem Inv.bk (I:Inv X pins σ H s):∀ b o,X.base.get? b=some o->s.heap.get? b=some o:=fun b o e=>(I.bs b o e).1
theorem Inv.mod (I:Inv X pins σ H s):Mod X.K X.mg X.base:=I.ok.mod
theorem Inv.kIn (I:Inv X pins σ H s):X.K.In s.heap:=I.ok.mod.kin.keeps I.bk
theorem Inv.nolimit (I:Inv X pins σ H s):s.heap.NoLimit:=I.ok.mod.nolimit.keeps I.bk
theorem Inv.fr (I:Inv X pins σ H s):∃ m,Fr X.base X.env.locals s.heap m :=
 let ⟨m,hn,_⟩:=I.loc
 ⟨m,hn,I.bk,Nat.le_trans I.ok.bsz I.ok.above⟩
theorem Inv.lt (I:Inv X pins σ H s):X.env.locals < s.heap.objs.size:=let ⟨_,hn,_⟩:=I.loc;hn.lt
theorem Inv.sz (I:Inv X pins σ H s):X.s₀.heap.objs.size<=s.heap.objs.size:=Nat.le_trans I.ok.above (Nat.le_of_lt I.lt)
theorem Inv.Ed (I:Inv X pins σ H s) {a:Addr} (h:s.heap.objs.size<=a):a ∉ X.fs:=fun hb=>by
 obtain ⟨_,o,ho,_⟩:=I.ok.ik.mem hb
 exact absurd (Nat.lt_of_lt_of_le (Heap.lt_size ho) (Nat.le_trans I.sz h)) (Nat.lt_irrefl _)
theorem Inv.cne (I:Inv X pins σ H s):∀ x c,X.env.cells.lookup x=some c->c≠X.env.locals:=fun x c e z=>by
 obtain ⟨v,o,ho,hd⟩:=I.cell x c e
 obtain ⟨m,⟨o',es,ep,ho',hd',_⟩,_⟩:=I.loc
 rw [z,ho'] at ho;cases ho;rw [hd'] at hd;cases hd
theorem Inv.ik (I:Inv X pins σ H s):s.heap.FunFrames X.base X.outer:=by
 have all:∀ (l:List Env),(∀ b∈frs l,b∈X.fs)->X.s₀.heap.FunFrames X.base l->s.heap.FunFrames X.base l:=by
  intro l
  induction l with
  | nil=>intro _ _;trivial
  | cons env r ih =>
   intro hs hl
   obtain ⟨hk,⟨L,o,hf,hn,ho,hd⟩,hr⟩:=hl
   have hL:L∈X.fs:=hs L (by unfold frs;rw [List.filterMap_cons,hf];exact List.mem_cons_self)
   obtain ⟨sl,e⟩:=I.base.slot L o ho (I.ok.frf L hL) hL fun z=>I.ok.exfs L z hL
   exact ⟨hk,⟨L,_,hf,hn,e,hd⟩,ih (fun b hb=>hs b (by unfold frs;rw [List.filterMap_cons,hf];exact List.mem_cons_of_mem _ hb)) hr⟩
 exact all X.outer (fun _ hb=>hb) I.ok.ik

theorem Inv.stack (I:Inv X pins σ H s):s.heap.FunFrames X.base X.stack:=by
 rcases I.ok.stk with e | ⟨e,hf⟩
 ·rw [e];exact I.ik
 ·rw [e]
  obtain ⟨m,hn,_⟩:=I.loc
  refine .cons (by rw [I.ok.kind];decide) hf hn ?_ I.ik
  exact Heap.get?_none_of_le (Nat.le_trans I.ok.bsz I.ok.above)
theorem Inv.mZ (I:Inv X pins σ H s):∀ b∈frs X.stack,b∈X.env.locals::X.fs:=fun b hb=>by
 rcases I.ok.stk with e | ⟨e,hf⟩
 ·rw [e] at hb;exact List.mem_cons_of_mem _ hb
 ·rw [e] at hb
  unfold frs at hb
  rw [List.filterMap_cons,hf] at hb
  exact hb
theorem Inv.lu (I:Inv X pins σ H s):∀ b∈frs X.stack,H b=none:=fun b hb=>by
 rcases List.mem_cons.mp (I.mZ b hb) with e | hb
 ·rw [e];exact I.free
 ·obtain ⟨_,o,ho,_⟩:=I.ok.ik.mem hb
  exact I.base.free b o ho (I.ok.frf b hb) fun z=>I.ok.exfs b z hb

theorem Inv.step {g':Array GenState}{t':Nat}{d':Drawn}{ch:List Addr} (I:Inv X pins σ H s)
  (hch:∀ b∈ch,(b∈X.ex ∨ X.s₀.heap.objs.size<=b)/\b≠X.env.locals/\(∀ x c,X.env.cells.lookup x=some c->c≠b)/\∀ p∈X.pn++pins,p.1≠b)
  (keep:∀ b o,b≠X.env.locals->b ∉ X.fs->b ∉ ch->s.heap.get? b=some o->H b=none->h'.get? b=some o)
  (slot:∀ b o,b≠X.env.locals->b∈X.fs->b ∉ ch->s.heap.get? b=some o->H b=none->∃ sl,h'.get? b=some { o with slots:=sl }) (free:∀ b o,b ∉ ch->s.heap.get? b=some o->H b=none->H' b=none)
  (there:∀ b o,b ∉ ch->s.heap.get? b=some o->∃ o',h'.get? b=some o')
  (tups:∀ b xs,H b=some (.tup xs)->H' b=some (.tup xs)) (frzs:∀ b o u,H b=some (.frz o u)->H' b=some (.frz o u)) (tbls:∀ b ps,H b=some (.tbl ps)->∃ more,H' b=some (.tbl (ps++more)))
  (ns:∀ m,s.heap.Ns X.env.locals m->h'.Ns X.env.locals m) (hok:HOk X.prog X.w H' h') (hg:AllBare g') :
  Inv X pins σ H' { s with heap:=h',gens:=g',drawn:=d',toks:=t' }:=by
 have neL:∀ b o,X.s₀.heap.get? b=some o->b≠X.env.locals:=fun b o e=>Nat.ne_of_lt (Nat.lt_of_lt_of_le (Heap.lt_size e) I.ok.above)
 have neC:∀ b o,X.s₀.heap.get? b=some o->b ∉ X.ex->b ∉ ch:=fun b o e hx hb=>by
  rcases (hch b hb).1 with z | z
  ·exact hx z
  ·exact absurd (Nat.lt_of_lt_of_le (Heap.lt_size e) z) (Nat.lt_irrefl _)
 have cellK:∀ x c,X.env.cells.lookup x=some c->∀ v,s.heap.IsCell c v->h'.IsCell c v:=fun x c e v ⟨o,ho,hd⟩=>by
  have nch:c ∉ ch:=fun z=>(hch c z).2.2.1 x c e rfl
  by_cases hc:c∈X.fs
  ·obtain ⟨sl,q⟩:=slot c o (I.cne x c e) hc nch ho (I.freeC x c e)
   exact ⟨_,q,hd⟩
  ·exact ⟨o,keep c o (I.cne x c e) hc nch ho (I.freeC x c e),hd⟩
 refine ⟨I.ok,I.os,hg,⟨fun b o e n hb hx=>?_,fun b o e n hb hx=>?_,fun b o e n hx=>?_,fun b o e hx=>?_,fun b xs e=>tups b xs (I.base.tups b xs e),fun b o xs e=>frzs b o xs (I.base.frzs b o xs e),fun b ps e=>?_⟩,?_,fun x c e=>?_,?_,fun x c e=>?_,fun p hp=>?_,hok,I.len⟩
 ·exact keep b o (neL b o e) hb (neC b o e hx) (I.base.keep b o e n hb hx) (I.base.free b o e n hx)
 ·obtain ⟨sl,e1⟩:=I.base.slot b o e n hb hx
  obtain ⟨sl',e2⟩:=slot b _ (neL b o e) hb (neC b o e hx) e1 (I.base.free b o e n hx)
  exact ⟨sl',e2⟩
 ·obtain ⟨o',e1⟩:=I.base.there b o e hx
  exact free b o' (neC b o e hx) e1 (I.base.free b o e n hx)
 ·obtain ⟨o',e1⟩:=I.base.there b o e hx
  exact there b o' (neC b o e hx) e1
 ·obtain ⟨m1,e1⟩:=I.base.tbls b ps e
  obtain ⟨m2,e2⟩:=tbls b _ e1
  exact ⟨m1++m2,by rw [e2,Array.append_assoc]⟩
 ·obtain ⟨m,hn,hl⟩:=I.loc
  refine ⟨m,ns m hn,fun i x v e1 e2 e3=>?_⟩
  obtain ⟨u,r,l⟩:=hl i x v e1 e2 e3
  refine ⟨u,r,?_⟩
  rcases l with l | ⟨k,c,e,z⟩
  ·exact .inl l
  ·exact .inr ⟨k,c,e,cellK x c e _ z⟩
 ·obtain ⟨v,z⟩:=I.cell x c e
  exact ⟨v,cellK x c e v z⟩
 ·obtain ⟨m,⟨o,_,_,ho,_⟩,_⟩:=I.loc
  exact free _ o (fun z=>(hch _ z).2.1 rfl) ho I.free
 ·obtain ⟨v,o,ho,hd⟩:=I.cell x c e
  exact free c o (fun z=>(hch c z).2.2.1 x c e rfl) ho (I.freeC x c e)
 ·obtain ⟨e,n,ne,nf,d⟩:=I.pin p hp
  have nch:p.1 ∉ ch:=fun z=>(hch p.1 z).2.2.2 p hp rfl
  exact ⟨keep p.1 p.2 ne nf nch e n,free p.1 p.2 nch e n,ne,nf,d⟩
theorem Inv.un {t':Nat} (I:Inv X pins σ H s) (u:Un X.fs [] H H' s.heap h') (hok:HOk X.prog X.w H' h'):Inv X pins σ H' { s with heap:=h',toks:=t' }:=by
 obtain ⟨m,⟨o,es,ep,ho,r⟩,_⟩:=id I.loc
 obtain ⟨sl,hL⟩:=u.any ho I.free (by simp)
 exact I.step (g':=s.gens) (d':=s.drawn) (ch:=[]) (fun _ z=>nomatch z) (fun b o _ hb _ e n=>u.keep b o e n hb (by simp)) (fun b o _ hb _ e n=>u.slot b o e n hb (by simp)) (fun b o _ e n=>u.free b o e n (by simp)) (fun b o _ e=>u.there b o e (by simp)) u.tups u.frzs u.tbls (fun m' hm=>by
  obtain ⟨o',es',ep',ho',r'⟩:=hm
  rw [ho] at ho';cases ho'
  exact ⟨_,es',ep',hL,r'⟩) hok I.bare
theorem Inv.call {g':Array GenState}{t':Nat}{d':Drawn}{ch:List Addr} (I:Inv X pins σ H s) (u:Un (frs X.stack) ch H H' s.heap h') (hok:HOk X.prog X.w H' h') (hg:AllBare g')
  (hch:∀ b∈ch,(b∈X.ex ∨ X.s₀.heap.objs.size<=b)/\b≠X.env.locals/\(∀ x c,X.env.cells.lookup x=some c->c≠b)/\∀ p∈X.pn++pins,p.1≠b) :
  Inv X pins σ H' { s with heap:=h',gens:=g',drawn:=d',toks:=t' }:=by
 obtain ⟨m,⟨o,es,ep,ho,r⟩,_⟩:=id I.loc
 obtain ⟨sl,hL⟩:=u.any ho I.free fun z=>(hch _ z).2.1 rfl
 exact I.step (ch:=ch) hch (fun b o hL hb hc e n=>u.keep b o e n (fun z=>(List.mem_cons.mp (I.mZ b z)).elim hL hb) hc) (fun b o _ _ hc e n=>u.any e n hc) (fun b o hc e n=>u.free b o e n hc) (fun b o hc e=>u.there b o e hc) u.tups u.frzs u.tbls (fun m' hm=>by
  obtain ⟨o',es',ep',ho',r'⟩:=hm
  rw [ho] at ho';cases ho'
  exact ⟨_,es',ep',hL,r'⟩) hok hg
theorem Inv.turned {t':Nat}{it:Addr} (I:Inv X pins σ H s) (k:∀ b o,b≠it->s.heap.get? b=some o->h'.get? b=some o) (hn:H it=none) (hL:it≠X.env.locals)
  (h1:it∈X.ex ∨ X.s₀.heap.objs.size<=it) (h2:∀ x c,X.env.cells.lookup x=some c->c≠it) (h3:∀ p∈X.pn++pins,p.1≠it):Inv X pins σ H { s with heap:=h',toks:=t' }:=by
 have nit:∀ b u,H b=some u->b≠it:=fun b u e z=>by rw [z,hn] at e;cases e
 refine I.step (g':=s.gens) (d':=s.drawn) (ch:=[it]) (fun b hb=>?_) (fun b o _ _ hc e _=>k b o (fun z=>hc (by simp [z])) e) (fun b o _ _ hc e _=>⟨o.slots,k b o (fun z=>hc (by simp [z])) e⟩) (fun _ _ _ _ n=>n)
  (fun b o hc e=>⟨o,k b o (fun z=>hc (by simp [z])) e⟩) (fun _ _ e=>e) (fun _ _ _ e=>e) (fun b ps e=>⟨#[],by rw [e];simp⟩) (fun m hm=>?_) (fun b u e=>?_) I.bare
 ·have e:b=it:=by simpa using hb
  subst e
  exact ⟨h1,hL,h2,h3⟩
 ·obtain ⟨o,es,ep,ho,r⟩:=hm
  exact ⟨o,es,ep,k _ o (Ne.symm hL) ho,r⟩
 ·refine (I.hok b u e).ji (fun c v hc q=>k c v ?_ q) (fun _ q=>q) fun _ _ q=>q
  rcases hc with z | z
  ·rw [z];exact nit b u e
  ·exact nit c _ z
theorem Inv.tok (I:Inv X pins σ H s) (t:Nat):Inv X pins σ H { s with toks:=t }:=I.un (h':=s.heap) (t':=t) Un.refl I.hok
theorem Inv.kept {t':Nat} (I:Inv X pins σ H s) (k:∀ b u,s.heap.get? b=some u->h'.get? b=some u):Inv X pins σ H { s with heap:=h',toks:=t' }:=I.un (Un.kept k) (I.hok.kept k)
theorem Inv.laid {a:Addr}{o:HO}{t':Nat} (I:Inv X pins σ H s) (k:∀ b u,s.heap.get? b=some u->h'.get? b=some u) (hp:s.heap.objs.size<=a) (new:aS X.prog X.w (upd H a o) h' a o) :
  Inv X pins σ (upd H a o) { s with heap:=h',toks:=t' }:=I.un (Un.laid k hp (I.hok.fresh hp)) (I.hok.laid k hp new)
theorem Inv.write {x e:Addr}{o:HO}{t':Nat} (I:Inv X pins σ H s) (mu:Mut (H x)) (he:e=x ∨ H e=some (.own x)) (k:∀ b u,b≠e->s.heap.get? b=some u->h'.get? b=some u) (heo:∃ u,h'.get? e=some u)
  (new:aS X.prog X.w (upd H x o) h' x o):Inv X pins σ (upd H x o) { s with heap:=h',toks:=t' }:=I.un (Un.write mu he k heo) (I.hok.write mu he k heo new)
theorem Inv.uL {pins':List (Addr × Obj)} (I:Inv X pins σ H s) (h:∀ p∈pins',s.heap.get? p.1=some p.2/\H p.1=none/\p.1≠X.env.locals/\p.1 ∉ X.fs/\∀ v,p.2.data≠.cell v):Inv X pins' σ H s :=
 ⟨I.ok,I.os,I.bare,I.base,I.loc,I.cell,I.free,I.freeC,fun p hp=>(List.mem_append.mp hp).elim (fun z=>I.pin p (List.mem_append_left _ z)) (h p),I.hok,I.len⟩

theorem mE {N:List Str} (hN:N.Nodup) {i j:Nat}{x:Str} (a:N[i]?=some x) (b:N[j]?=some x):i=j:=by
 obtain ⟨h1,e1⟩:=List.getElem?_eq_some_iff.mp a
 obtain ⟨h2,e2⟩:=List.getElem?_eq_some_iff.mp b
 exact (List.getElem_inj hN).mp (e1.trans e2.symm)

theorem oG {M:Model}{A:Around}{E:Value->Shared->Prop}{i:Nat}{x:Str}{v:V}{u:Value}{Q:Unit->Shared->Prop} (I:Inv X pins σ H s) (hN:X.N.Nodup) (hi:X.N[i]?=some x) (hx:Loc X.env.scope x) (r:RelV v u)
  (h:∀ s',Inv X pins (σ.set i (some v)) H s'->(∃ a,Heap.SameBut a s.heap s'.heap/\(a=X.env.locals ∨ X.env.cells.lookup x=some a))->Q () s') (hf:X.fn x=true ∨ X.env.scope.names.lookup x=some .local:=by first | exact .inl rfl | exact .inr rfl | assumption):wpAny M A (storeName X.env x u) Q E s:=by
 obtain ⟨m,hn,hl⟩:=id I.loc
 have hcls:(X.env.scope.kind == .class || (X.env.scope.kind == .module && X.env.locals != X.env.globals))=false:=by rw [I.ok.kind];rfl
 have hiσ:i < σ.length:=by rw [I.len];exact (List.getElem?_eq_some_iff.mp hi).1
 have cne:=I.cne
 have tracked:∀ {a:Addr}{h':Heap},(∃ o,s.heap.get? a=some o/\H a=none)->Heap.SameBut a s.heap h'->HOk X.prog X.w H h':=fun {a h'} ha hs b ob e=>by
  obtain ⟨_,_,hfree⟩:=ha
  refine (I.hok b ob e).ji (fun c w' hc q=>(hs.2 c ?_).trans q) (fun _ q=>q) fun _ _ q=>q
  rintro rfl
  rcases hc with rfl | hc
  ·rw [hfree] at e;cases e
  ·rw [hfree] at hc;cases hc
 rcases hx with hk | hk
 ·refine wpAny_storeName_local hk hn (fun h' hn' hs=>?_) hcls
  obtain ⟨oL,_,_,hoL,_⟩:=id hn
  refine h _ ⟨I.ok,I.os,I.bare,⟨fun b o e n hb hx=>?_,fun b o e n hb hx=>?_,I.base.free,fun b o e hx=>?_,I.base.tups,I.base.frzs,I.base.tbls⟩,⟨_,hn',fun j y v' e1 e2 e3=>?_⟩,fun y c e=>?_,I.free,I.freeC,fun p hp=>?_,tracked ⟨oL,hoL,I.free⟩ hs,by simpa using I.len⟩ ⟨_,hs,.inl rfl⟩
  ·exact (hs.2 b (Nat.ne_of_lt (Nat.lt_of_lt_of_le (Heap.lt_size e) I.ok.above))).trans (I.base.keep b o e n hb hx)
  ·obtain ⟨sl,e1⟩:=I.base.slot b o e n hb hx
   exact ⟨sl,(hs.2 b (Nat.ne_of_lt (Nat.lt_of_lt_of_le (Heap.lt_size e) I.ok.above))).trans e1⟩
  ·obtain ⟨o',e1⟩:=I.base.there b o e hx
   exact ⟨o',(hs.2 b (Nat.ne_of_lt (Nat.lt_of_lt_of_le (Heap.lt_size e) I.ok.above))).trans e1⟩
  ·by_cases hj:j=i
   ·subst hj
    rw [hi] at e1;cases e1
    rw [List.getElem?_set_self hiσ] at e2
    cases e2
    exact ⟨u,r,.inl ⟨hk,by simp⟩⟩
   ·rw [List.getElem?_set_ne (Ne.symm hj)] at e2
    obtain ⟨u',r',q⟩:=hl j y v' e1 e2 e3
    refine ⟨u',r',?_⟩
    rcases q with ⟨k,e⟩ | ⟨k,c,e,z⟩
    ·refine .inl ⟨k,?_⟩
     have:y≠x:=fun e=>hj (mE hN e1 (e ▸ hi))
     simp [this,e]
    ·exact .inr ⟨k,c,e,z.sameBut hs (cne y c e)⟩
  ·obtain ⟨w',z⟩:=I.cell y c e
   exact ⟨w',z.sameBut hs (cne y c e)⟩
  ·obtain ⟨e,n,ne,nf,d⟩:=I.pin p hp
   exact ⟨(hs.2 p.1 ne).trans e,n,ne,nf,d⟩
 ·have hfn:X.fn x=true:=by
   rcases hf with z | z
   ·exact z
   ·rw [z] at hk;cases hk
  obtain ⟨c,hc⟩:=I.ok.has x (.inl hk)
  obtain ⟨w',z⟩:=I.cell x c hc
  refine wpAny_storeName_cell I.ok.kind hk hc z (fun h' hc' hs=>?_)
  obtain ⟨oc,hoc,hocd⟩:=id z
  refine h { s with heap:=h' } ⟨I.ok,I.os,I.bare,⟨fun b o e n hb hx=>?_,fun b o e n hb hx=>?_,I.base.free,fun b o e hx=>?_,I.base.tups,I.base.frzs,I.base.tbls⟩,⟨m,hn.sameBut hs (Ne.symm (cne x c hc)),fun j y v' e1 e2 e3=>?_⟩,fun y c' e=>?_,I.free,I.freeC,fun p hp=>?_,tracked ⟨oc,hoc,I.freeC x c hc⟩ hs,by simpa using I.len⟩ ⟨c,hs,.inr hc⟩
  ·exact (hs.2 b (Nat.ne_of_lt (Nat.lt_of_lt_of_le (Heap.lt_size e) (I.ok.cab x c hfn hc)))).trans (I.base.keep b o e n hb hx)
  ·obtain ⟨sl,e1⟩:=I.base.slot b o e n hb hx
   exact ⟨sl,(hs.2 b (Nat.ne_of_lt (Nat.lt_of_lt_of_le (Heap.lt_size e) (I.ok.cab x c hfn hc)))).trans e1⟩
  ·obtain ⟨o',e1⟩:=I.base.there b o e hx
   exact ⟨o',(hs.2 b (Nat.ne_of_lt (Nat.lt_of_lt_of_le (Heap.lt_size e) (I.ok.cab x c hfn hc)))).trans e1⟩
  ·by_cases hj:j=i
   ·subst hj
    rw [hi] at e1;cases e1
    rw [List.getElem?_set_self hiσ] at e2
    cases e2
    exact ⟨u,r,.inr ⟨.inl hk,c,hc,hc'⟩⟩
   ·rw [List.getElem?_set_ne (Ne.symm hj)] at e2
    obtain ⟨u',r',q⟩:=hl j y v' e1 e2 e3
    refine ⟨u',r',?_⟩
    rcases q with q | ⟨k,c',e,z'⟩
    ·exact .inl q
    ·refine .inr ⟨k,c',e,z'.sameBut hs ?_⟩
     rintro rfl
     exact hj (mE hN e1 (I.ok.inj _ _ _ e hc ▸ hi))
  ·by_cases hcc:c'=c
   ·subst hcc;exact ⟨_,hc'⟩
   ·obtain ⟨w2,z2⟩:=I.cell y c' e
    exact ⟨w2,z2.sameBut hs hcc⟩
  ·obtain ⟨e,n,ne,nf,d⟩:=I.pin p hp
   refine ⟨(hs.2 p.1 ?_).trans e,n,ne,nf,d⟩
   intro q
   rw [q,hoc] at e
   have q':oc=p.2:=Option.some.inj e
   exact d w' (by rw [← q'];exact hocd)
theorem gD {M:Model}{A:Around}{E:Value->Shared->Prop}{i:Nat}{x:Str}{v:V}{u:Value}{Q:Unit->Shared->Prop} (I:Inv X pins σ H s) (hN:X.N.Nodup) (hi:X.N[i]?=some x) (hx:Loc X.env.scope x) (r:RelV v u)
  (h:∀ s',Inv X pins (σ.set i (some v)) H s'->Q () s') (hf:X.fn x=true ∨ X.env.scope.names.lookup x=some .local:=by first | exact .inl rfl | exact .inr rfl | assumption):wpAny M A (storeName X.env x u) Q E s :=
 oG I hN hi hx r (fun s' I' _=>h s' I') hf
theorem Inv.qt {s':Shared}{ch:List Addr} (I:Inv X pins σ H s) (ho:s'.os=s.os) (u:Un (frs X.stack) ch H H' s.heap s'.heap) (hok:HOk X.prog X.w H' s'.heap) (hg:AllBare s'.gens)
  (hch:∀ b∈ch,(b∈X.ex ∨ X.s₀.heap.objs.size<=b)/\b≠X.env.locals/\(∀ x c,X.env.cells.lookup x=some c->c≠b)/\∀ p∈X.pn++pins,p.1≠b):Inv X pins σ H' s':=by
 obtain ⟨h',g',d',t',o'⟩:=s'
 have e:o'=s.os:=ho
 subst e
 exact I.call (g':=g') (t':=t') (d':=d') u hok hg hch
end

abbrev XK:=Value->Option Addr->Hp->Prop
abbrev St:=List (Option V)
abbrev VK:=V->Hp->Prop
abbrev TE:=St->Hp->VK->Prop
abbrev TT:=St->Hp->(Bool->Hp->Prop)->Prop
abbrev TA:=St->Hp->(List V->Hp->Prop)->Prop
structure Ends where
 nx:St->Hp->Prop
 rt:VK
 bk:St->Hp->Prop:=fun _ _=>False
 ct:St->Hp->Prop:=fun _ _=>False
abbrev TS:=Ends->St->Hp->Prop

def EP (X:Cx) (pins:List (Addr × Obj)) (σ:St) (Q:VK) (u:Value) (s':Shared):Prop:=∃ v H',Inv X pins σ H' s'/\RelV v u/\Q v H'
def TP (X:Cx) (pins:List (Addr × Obj)) (σ:St) (Q:Bool->Hp->Prop) (b:Bool) (s':Shared):Prop:=∃ H',Inv X pins σ H' s'/\Q b H'
def AP (X:Cx) (pins:List (Addr × Obj)) (σ:St) (Q:List V->Hp->Prop) (us:List Value) (s':Shared):Prop:=∃ vs H',Inv X pins σ H' s'/\Vals vs us/\Q vs H'
def SP (X:Cx) (pins:List (Addr × Obj)) (D:Ends) (f:Flow) (s':Shared):Prop :=
 match f with
 | .next=>∃ σ' H',Inv X pins σ' H' s'/\D.nx σ' H'
 | .brk=>∃ σ' H',Inv X pins σ' H' s'/\D.bk σ' H'
 | .cont=>∃ σ' H',Inv X pins σ' H' s'/\D.ct σ' H'
 | .ret u=>∃ v σ' H',Inv X pins σ' H' s'/\RelV v u/\D.rt v H'

def PE (X:Cx) (e:Expr) (t:TE):Prop :=
 ∀ (pins:List (Addr × Obj)) (s:Shared) (σ:St) (H:Hp) (Q:VK),Inv X pins σ H s->t σ H Q->wpAny (model X.prog X.w) X.A (eval e X.env) (EP X pins σ Q) X.xe s
def PT (X:Cx) (e:Expr) (t:TT):Prop :=
 ∀ (pins:List (Addr × Obj)) (s:Shared) (σ:St) (H:Hp) (Q:Bool->Hp->Prop),Inv X pins σ H s->t σ H Q->wpAny (model X.prog X.w) X.A (isTrue e X.env (eval e X.env)) (TP X pins σ Q) X.xe s
def PW (X:Cx) (e:Expr) (t:TT):Prop :=
 ∀ (whole:Sem Value) (pins:List (Addr × Obj)) (s:Shared) (σ:St) (H:Hp) (Q:Bool->Hp->Prop),Inv X pins σ H s->t σ H Q->wpAny (model X.prog X.w) X.A (isTrue e X.env whole) (TP X pins σ Q) X.xe s
theorem PW.pt {X:Cx}{e:Expr}{t:TT} (h:PW X e t):PT X e t:=h _
def PA (X:Cx) (es:List Expr) (t:TA):Prop :=
 ∀ (pos:Pos) (pins:List (Addr × Obj)) (s:Shared) (σ:St) (H:Hp) (Q:List V->Hp->Prop),Inv X pins σ H s->t σ H Q->wpAny (model X.prog X.w) X.A (spliced (backTo pos (starEach es X.env))) (AP X pins σ Q) X.xe s
def PS (X:Cx) (st:Stmt) (t:TS):Prop :=
 ∀ (pins:List (Addr × Obj)) (s:Shared) (σ:St) (H:Hp) (D:Ends),Inv X pins σ H s->t D σ H->wpAny (model X.prog X.w) X.A (exec st X.env) (SP X pins D) X.xe s
def PSs (X:Cx) (st:List Stmt) (t:TS):Prop :=
 ∀ (pins:List (Addr × Obj)) (s:Shared) (σ:St) (H:Hp) (D:Ends),Inv X pins σ H s->t D σ H->wpAny (model X.prog X.w) X.A (execs st X.env) (SP X pins D) X.xe s
theorem thn {α:Type}{t:Sem α}{Q Q':α->Shared->Prop}{M:Model}{A:Around}{E:Value->Shared->Prop}{s:Shared} (h:wpAny M A t Q E s) (hQ:∀ a s,Q a s->Q' a s):wpAny M A t Q' E s:=wpAny_mono h hQ fun _ _ x=>x
end L2

namespace L2
open PySem PySem.Spec PyProof.Rows
section
variable {X:Cx}

def wB (i:Nat):TE:=fun σ H Q=>∃ v,σ[i]?=some (some v)/\Q v H
def tC (v:V):TE:=fun _ H Q=>Q v H
theorem pJ {i:Nat}{x:Str}{pos:Pos} (hN:X.N[i]?=some x) (hv:Vis X.env.scope x) (hd:(x == ("__debug__":Str))=false:=by decide) (hcd:(x == ("__classdict__":Str))=false:=by decide):PE X (.Name x pos) (wB i):=by
 intro pins s σ H Q I h
 obtain ⟨v,e,h⟩:=h
 obtain ⟨m,hn,hl⟩:=I.loc
 obtain ⟨u,r,l⟩:=hl i x v hN e hv
 have fin:EP X pins σ Q u s:=⟨v,H,I,r,h⟩
 rcases l with ⟨hk,hm⟩ | ⟨hk,c,hc,hcell⟩
 ·exact wpAny_Name (wpAny_loadName_local I.ok.kind hk hn hm fin) hd
 ·rcases hk with hk | hk
  ·exact wpAny_Name (wpAny_loadName_cell I.ok.kind hk hc hcell fin) hd
  ·exact wpAny_Name (wpAny_loadName_free I.ok.kind hk hc hcell fin hcd) hd
theorem ai {i j pos}:PE X (.Constant (.int i) j pos) (tC (.int i)):=fun _ _ _ H _ I h=>wpAny_Constant_int ⟨.int i,H,I.tok _,⟨_,rfl⟩,h⟩
theorem fS {b j pos}:PE X (.Constant (.bool b) j pos) (tC (.bl b)):=fun _ _ _ H _ I h=>Constant_bool ⟨.bl b,H,I,rfl,h⟩
theorem gi {j pos}:PE X (.Constant .none j pos) (tC .non):=fun _ _ _ H _ I h=>Constant_none ⟨.non,H,I,rfl,h⟩
theorem aF {x j pos}:PE X (.Constant (.str x) j pos) (tC (.str x)):=fun _ _ _ H _ I h=>Calls.Constant_str ⟨.str x,H,I.tok _,⟨_,rfl⟩,h⟩

def Gl (X:Cx) (x:Str):Prop:=X.env.kindOf x=some .globalImplicit
theorem ju {E:Value->Shared->Prop}{pins:List (Addr × Obj)}{s:Shared}{σ:St}{H:Hp}{x:Str}{u:Value}{pos:Pos}{Q:Value->Shared->Prop} (I:Inv X pins σ H s) (hg:Gl X x) (hm:X.mg x=some u) (h:Q u s)
  (hd:(x == ("__debug__":Str))=false:=by decide):wpAny (model X.prog X.w) X.A (eval (.Name x pos) X.env) Q E s :=
 Calls.Name_function_global I.ok.kind hg (Calls.loadGlobal_global (by rw [I.ok.glob];exact I.mod.glob.keeps I.bk) hm h) hd
theorem jW {E:Value->Shared->Prop}{pins:List (Addr × Obj)}{s:Shared}{σ:St}{H:Hp}{x:Str}{u:Value}{pos:Pos}{Q:Value->Shared->Prop} (I:Inv X pins σ H s) (hg:Gl X x) (hm:X.mg x=none) (hv:bootBuiltins x=some u) (h:Q u s)
  (hn:x≠"__name__":=by decide) (hd:(x == ("__debug__":Str))=false:=by decide):wpAny (model X.prog X.w) X.A (eval (.Name x pos) X.env) Q E s:=by
 obtain ⟨mb,h1,h2⟩:=I.mod.blt
 exact Calls.Name_function_global I.ok.kind hg (Calls.loadGlobal_builtin (by rw [I.ok.glob];exact I.mod.glob.keeps I.bk) hm (by rw [I.ok.blt];exact h1.keeps I.bk) ((h2 x hn).trans hv) h) hd
theorem uH {x:Str}{v:V}{u:Value}{pos:Pos} (hg:Gl X x) (hm:X.mg x=some u) (r:RelV v u) (hd:(x == ("__debug__":Str))=false:=by decide):PE X (.Name x pos) (tC v) :=
 fun _ _ _ H _ I h=>ju I hg hm ⟨v,H,I,r,h⟩ hd
theorem Au {x:Str}{v:V}{u:Value}{pos:Pos} (hg:Gl X x) (hm:X.mg x=none) (hv:bootBuiltins x=some u) (r:RelV v u) (hn:x≠"__name__":=by decide) (hd:(x == ("__debug__":Str))=false:=by decide):PE X (.Name x pos) (tC v) :=
 fun _ _ _ H _ I h=>jW I hg hm hv ⟨v,H,I,r,h⟩ hn hd

variable {a b:Expr}{ta tb:TE}{pos:Pos}
def tB (t:TE):TT:=fun σ H Q=>t σ H fun x H1=>∃ c,x=.bl c/\Q c H1
theorem bN {e:Expr}{t:TE} (h:PE X e t) (he:∀ whole,isTrue e X.env whole=(do let v ← whole;standAt e.pos;holding [v] (truthy v)):=by intro _;rfl):PT X e (tB t):=by
 intro pins s σ H Q I hw
 refine isTrue_plain (thn (h pins s σ H _ I hw) fun v s1 ⟨x,H1,I1,r1,q1⟩=>?_) (he _)
 obtain ⟨d,rfl,q⟩:=q1
 cases r1
 exact wpAny_truthy_bool ⟨H1,I1,q⟩

variable {tA tB':TT}{rest:List Expr}
def D5 (t u:TT):TT:=fun σ H Q=>t σ H fun c H1=>if c=true then u σ H1 Q else Q false H1
def tOr (t u:TT):TT:=fun σ H Q=>t σ H fun c H1=>if c=true then Q true H1 else u σ H1 Q
def D8 (t:TT):TT:=fun σ H Q=>t σ H fun c H1=>Q (!c) H1
theorem pM (ha:PT X a tA):PW X (.BoolOp .And [a] pos) tA:=by
 intro wh pins s σ H Q I h
 refine isTrue_and (thn (ha pins s σ H Q I h) fun c s1 e=>?_)
 cases c with
 | true=>exact isTrue_and_nil e
 | false=>exact e
theorem gj (ha:PT X a tA):PW X (.BoolOp .Or [a] pos) tA:=by
 intro wh pins s σ H Q I h
 refine isTrue_or (thn (ha pins s σ H Q I h) fun c s1 e=>?_)
 cases c with
 | false=>exact isTrue_or_nil e
 | true=>exact e
theorem sV (ha:PT X a tA) (hb:PW X (.BoolOp .And (b::rest) pos) tB'):PW X (.BoolOp .And (a::b::rest) pos) (D5 tA tB'):=by
 intro wh pins s σ H Q I h
 refine isTrue_and (thn (ha pins s σ H _ I h) fun c s1 ⟨H1,I1,q1⟩=>?_)
 cases c with
 | true=>exact hb wh pins s1 σ H1 Q I1 q1
 | false=>exact ⟨H1,I1,q1⟩
theorem i5 (ha:PT X a tA) (hb:PW X (.BoolOp .Or (b::rest) pos) tB'):PW X (.BoolOp .Or (a::b::rest) pos) (tOr tA tB'):=by
 intro wh pins s σ H Q I h
 refine isTrue_or (thn (ha pins s σ H _ I h) fun c s1 ⟨H1,I1,q1⟩=>?_)
 cases c with
 | true=>exact ⟨H1,I1,q1⟩
 | false=>exact hb wh pins s1 σ H1 Q I1 q1
theorem cc (ha:PT X a tA):PT X (.UnaryOp .Not a pos) (D8 tA):=by
 intro pins s σ H Q I h
 exact isTrue_not (ha pins s σ H (fun c H1=>Q (!c) H1) I h)
def B4 (ta tb:TE):TE:=fun σ H Q=>ta σ H fun x H1=>∃ c,x=.bl c/\if c=true then tb σ H1 Q else Q (.bl false) H1
def DA (ta tb:TE):TE:=fun σ H Q=>ta σ H fun x H1=>∃ c,x=.bl c/\if c=true then Q (.bl true) H1 else tb σ H1 Q
def BE (ta:TE):TE:=fun σ H Q=>ta σ H fun x H1=>∃ c,x=.bl c/\Q (.bl (!c)) H1
theorem gP {op}{t:TE} (h:PE X a t):PE X (.BoolOp op [a] pos) t:=fun pins s σ H Q I hw=>BoolOp_one (h pins s σ H Q I hw)
theorem iz (ha:PE X a ta) (hb:PE X (.BoolOp .And (b::rest) pos) tb):PE X (.BoolOp .And (a::b::rest) pos) (B4 ta tb):=by
 intro pins s σ H Q I h
 refine BoolOp_and (thn (ha pins s σ H _ I h) fun v s1 ⟨x,H1,I1,r1,q1⟩=>?_)
 obtain ⟨c,rfl,q1⟩:=q1
 cases r1
 refine wpAny_truthy_bool ?_
 cases c with
 | true=>exact hb pins s1 σ H1 Q I1 q1
 | false=>exact ⟨.bl false,H1,I1,rfl,q1⟩
theorem yL (ha:PE X a ta) (hb:PE X (.BoolOp .Or (b::rest) pos) tb):PE X (.BoolOp .Or (a::b::rest) pos) (DA ta tb):=by
 intro pins s σ H Q I h
 refine BoolOp_or (thn (ha pins s σ H _ I h) fun v s1 ⟨x,H1,I1,r1,q1⟩=>?_)
 obtain ⟨c,rfl,q1⟩:=q1
 cases r1
 refine wpAny_truthy_bool ?_
 cases c with
 | false=>exact hb pins s1 σ H1 Q I1 q1
 | true=>exact ⟨.bl true,H1,I1,rfl,q1⟩
theorem yK (ha:PE X a ta):PE X (.UnaryOp .Not a pos) (BE ta):=by
 intro pins s σ H Q I h
 refine UnaryOp_ (thn (ha pins s σ H _ I h) fun v s1 ⟨x,H1,I1,r1,q1⟩=>?_)
 obtain ⟨c,rfl,q1⟩:=q1
 cases r1
 exact not_of (wpAny_truthy_bool ⟨.bl (!c),H1,I1,rfl,q1⟩)
def tIf (t:TT) (ta tb:TE):TE:=fun σ H Q=>t σ H fun c H1=>if c=true then ta σ H1 Q else tb σ H1 Q
theorem j8 {c:Expr} (hc:PT X c tA) (ha:PE X a ta) (hb:PE X b tb):PE X (.IfExp c a b pos) (tIf tA ta tb):=by
 intro pins s σ H Q I h
 refine wpAny_IfExp (thn (hc pins s σ H _ I h) fun d s1 ⟨H1,I1,q1⟩=>?_)
 cases d with
 | true=>exact ha pins s1 σ H1 Q I1 q1
 | false=>exact hb pins s1 σ H1 Q I1 q1
end
end L2

namespace L2
open PySem PySem.Spec PyProof.Rows

def SqL (K:PySem.W.Frag) (H:Hp) (a:Addr) (xs:List V):Prop :=
 Rd H a (.lst xs) ∨
  ∃ (o:Obj) (its:Array Value) (n:Nat),K.lookup a=some o/\o.cls=.type "list"/\o.dict=none/\o.data=.seq its n/\its.size<=sizeLine/\Vals xs its.toList
def SqT (K:PySem.W.Frag) (H:Hp) (a:Addr) (xs:List V):Prop :=
 Rd H a (.tup xs) ∨
  ∃ (o:Obj) (its:Array Value) (n:Nat),K.lookup a=some o/\o.cls=.type "tuple"/\o.data=.seq its n/\its.size<=sizeLine/\Vals xs its.toList
def DW:Value->Option V
 | .none=>some .non
 | .bool b=>some (.bl b)
 | .int i _=>some (.int i)
 | .str x _=>some (.str x)
 | .bytes b _=>some (.byt b)
 | .float b _=>some (.flt b)
 | .ref a=>some (.ref a)
 | .type n=>some (.ty n)
 | _=>none
theorem RelV.abs {x:V}{u:Value} (r:RelV x u):DW u=some x:=by
 cases x with
 | non=>cases r;rfl
 | bl _=>cases r;rfl
 | int _=>obtain ⟨t,rfl⟩:=r;rfl
 | str _=>obtain ⟨t,rfl⟩:=r;rfl
 | byt _=>obtain ⟨t,rfl⟩:=r;rfl
 | flt _=>obtain ⟨t,rfl⟩:=r;rfl
 | ref _=>cases r;rfl
 | ty _=>cases r;rfl
theorem RelV.inj {x y:V}{u:Value} (r:RelV x u) (q:RelV y u):x=y:=Option.some.inj (r.abs.symm.trans q.abs)
theorem Vals.inj:∀ {xs ys:List V}{us:List Value},Vals xs us->Vals ys us->xs=ys
 | _,_,_,.nil,.nil=>rfl
 | _,_,_,.cons r t,.cons r' t'=>by rw [r.inj r',Vals.inj t t']
section
variable {X:Cx}{pins:List (Addr × Obj)}{σ:St}{H:Hp}{s:Shared}{a:Addr}{xs ys:List V}
theorem SqL.of {K:PySem.W.Frag} (h:H a=some (.lst xs)):SqL K H a xs:=.inl (.inl h)
theorem SqT.of {K:PySem.W.Frag} (h:H a=some (.tup xs)):SqT K H a xs:=.inl (.inl h)
theorem Inv.list (I:Inv X pins σ H s) (h:SqL X.K H a xs):∃ its:List Value,Vals xs its/\PlainL s.heap a its.toArray/\xs.length<=sizeLine:=by
 rcases h with h | ⟨o,its,n,hk,hc,hd,hs,hz,r⟩
 ·obtain ⟨z,its,n,r,e⟩:=h.ok I.hok
  exact ⟨its,r,⟨_,n,e,rfl,rfl,rfl⟩,z⟩
 ·refine ⟨its.toList,r,⟨o,n,I.kIn a o hk,hc,hd,by simpa using hs⟩,?_⟩
  have e:=r.length
  simp only [Array.length_toList] at e
  omega
theorem Inv.tuple (I:Inv X pins σ H s) (h:SqT X.K H a xs):∃ its:List Value,Vals xs its/\IsTup s.heap a its.toArray/\xs.length<=sizeLine:=by
 rcases h with h | ⟨o,its,n,hk,hc,hs,hz,r⟩
 ·obtain ⟨z,its,r,p⟩:=h.ok I.hok
  exact ⟨its,r,p,z⟩
 ·refine ⟨its.toList,r,⟨o,I.kIn a o hk,hc,n,by simpa using hs⟩,?_⟩
  have e:=r.length
  simp only [Array.length_toList] at e
  omega
theorem Inv.m8 (I:Inv X pins σ H s) (h:SqL X.K H a xs) (h':SqL X.K H a ys):xs=ys:=by
 obtain ⟨its,r,⟨o,n,e,_,_,d⟩,_⟩:=I.list h
 obtain ⟨its',r',⟨o',n',e',_,_,d'⟩,_⟩:=I.list h'
 rw [e] at e';cases e'
 rw [d] at d'
 injection d' with d1 _
 have:its=its':=by simpa using congrArg Array.toList d1
 subst this
 exact r.inj r'
theorem Inv.wD (I:Inv X pins σ H s) (h:SqT X.K H a xs) (h':SqT X.K H a ys):xs=ys:=by
 obtain ⟨its,r,⟨o,e,_,n,d⟩,_⟩:=I.tuple h
 obtain ⟨its',r',⟨o',e',_,n',d'⟩,_⟩:=I.tuple h'
 rw [e] at e';cases e'
 rw [d] at d'
 injection d' with d1 _
 have:its=its':=by simpa using congrArg Array.toList d1
 subst this
 exact r.inj r'
end

abbrev Cx.kU (X:Cx) (E:Value->Shared->Prop):Cx:={ X with xe:=E }
abbrev Cx.nox (X:Cx):Cx:=X.kU fun _ _=>False
theorem Cx.Ok.kU {X:Cx} (ok:X.Ok) (E:Value->Shared->Prop):(X.kU E).Ok :=
 ⟨ok.mod,ok.kind,ok.glob,ok.blt,ok.above,ok.inj,ok.has,ok.cab,ok.hd,ok.frames,ok.stk,ok.exf,ok.bs,ok.bsz,ok.noex,ok.exfs,ok.ik,ok.frf⟩
theorem Cx.Ok.gm {X:Cx}{E:Value->Shared->Prop} (ok:(X.kU E).Ok):X.Ok :=
 ⟨ok.mod,ok.kind,ok.glob,ok.blt,ok.above,ok.inj,ok.has,ok.cab,ok.hd,ok.frames,ok.stk,ok.exf,ok.bs,ok.bsz,ok.noex,ok.exfs,ok.ik,ok.frf⟩
section
variable {X:Cx}{pins:List (Addr × Obj)}{σ:St}{H:Hp}{s:Shared}{E:Value->Shared->Prop}
theorem Inv.kU (I:Inv X pins σ H s) (E:Value->Shared->Prop):Inv (X.kU E) pins σ H s:=⟨I.ok.kU E,I.os,I.bare,I.base,I.loc,I.cell,I.free,I.freeC,I.pin,I.hok,I.len⟩
theorem Inv.gm (I:Inv (X.kU E) pins σ H s):Inv X pins σ H s:=⟨I.ok.gm,I.os,I.bare,I.base,I.loc,I.cell,I.free,I.freeC,I.pin,I.hok,I.len⟩
theorem SP.gm {D:Ends}{f:Flow}{s':Shared} (h:SP (X.kU E) pins D f s'):SP X pins D f s':=by
 cases f with
 | next=>obtain ⟨σ',H',I,q⟩:=h;exact ⟨σ',H',I.gm,q⟩
 | brk=>obtain ⟨σ',H',I,q⟩:=h;exact ⟨σ',H',I.gm,q⟩
 | cont=>obtain ⟨σ',H',I,q⟩:=h;exact ⟨σ',H',I.gm,q⟩
 | ret u=>obtain ⟨v,σ',H',I,r,q⟩:=h;exact ⟨v,σ',H',I.gm,r,q⟩
theorem PE.nox {e:Expr}{t:TE} (h:PE X.nox e t):PE X e t:=fun pins s σ H Q I hw =>
 wpAny_mono (h pins s σ H Q (I.kU _) hw) (fun _ _ ⟨v,H',I',r,q⟩=>⟨v,H',I'.gm,r,q⟩) fun _ _ z=>False.elim z
theorem PT.nox {e:Expr}{t:TT} (h:PT X.nox e t):PT X e t:=fun pins s σ H Q I hw =>
 wpAny_mono (h pins s σ H Q (I.kU _) hw) (fun _ _ ⟨H',I',q⟩=>⟨H',I'.gm,q⟩) fun _ _ z=>False.elim z
theorem PSs.nox {st:List Stmt}{t:TS} (h:PSs X.nox st t):PSs X st t:=fun pins s σ H D I hw =>
 wpAny_mono (h pins s σ H D (I.kU _) hw) (fun _ _ q=>q.gm) fun _ _ z=>False.elim z
end

section
variable {X:Cx}{st:Stmt}{rest:List Stmt}{t u:TS}{e:Expr}{te:TE}{pos:Pos}
def BD:TS:=fun D σ H=>D.nx σ H
def zy (t u:TS):TS:=fun D σ H=>t { D with nx:=u D } σ H
theorem aJ:PSs X [] BD:=fun _ _ σ H _ I h=>wpAny_execs_nil ⟨σ,H,I,h⟩
theorem aa (h1:PS X st t) (h2:PSs X rest u):PSs X (st::rest) (zy t u):=by
 intro pins s σ H D I h
 refine wpAny_execs_cons (thn (h1 pins s σ H { D with nx:=u D } I h) fun f s1 q=>?_)
 cases f with
 | next =>
  obtain ⟨σ',H',I',q⟩:=q
  exact h2 pins s1 σ' H' D I' q
 | ret v=>exact q
 | brk=>exact q
 | cont=>exact q
theorem ah (h1:PS X st t):PSs X [st] t:=by
 intro pins s σ H D I h
 refine wpAny_execs_cons (thn (h1 pins s σ H D I h) fun f s1 q=>?_)
 cases f with
 | next=>exact wpAny_execs_nil q
 | ret v=>exact q
 | brk=>exact q
 | cont=>exact q
theorem Inv.quiet {pins:List (Addr × Obj)}{σ:St}{H:Hp}{s:Shared} (I:Inv X pins σ H s):interactive X.env=false:=by simp [interactive,I.ok.kind]
def B9 (te:TE):TS:=fun D σ H=>te σ H fun _ H1=>D.nx σ H1
theorem cC (he:PE X e te) (hs:swapsWith e none pos.line X.env=pure false:=by rfl):PS X (.Expr e pos) (B9 te):=by
 intro pins s σ H D I h
 exact wpAny_Expr_any (thn (he pins s σ H _ I h) fun v s1 ⟨x,H1,I1,r1,q1⟩=>⟨σ,H1,I1,q1⟩) I.quiet hs
def DC (te:TE):TS:=fun D σ H=>te σ H D.rt
theorem aG (he:PE X e te):PS X (.Return (some e) pos) (DC te):=by
 intro pins s σ H D I h
 exact wpAny_Return_some (thn (he pins s σ H _ I h) fun v s1 ⟨x,H1,I1,r1,q1⟩=>⟨x,σ,H1,I1,r1,q1⟩)
def D6 (c:TT) (t u:TS):TS:=fun D σ H=>c σ H fun b H1=>if b=true then t D σ H1 else u D σ H1
theorem aW {c:Expr}{a b:List Stmt}{tc:TT} (hc:PT X c tc) (ha:PSs X a t) (hb:PSs X b u):PS X (.If c a b pos) (D6 tc t u):=by
 intro pins s σ H D I h
 refine wpAny_If (thn (hc pins s σ H _ I h) fun d s1 ⟨H1,I1,q1⟩=>?_)
 cases d with
 | true=>exact ha pins s1 σ H1 D I1 q1
 | false=>exact hb pins s1 σ H1 D I1 q1
end

abbrev TG:=V->St->Hp->(St->Hp->Prop)->Prop
abbrev TGs:=List V->St->Hp->(St->Hp->Prop)->Prop
def PG (X:Cx) (target:Expr) (t:TG):Prop :=
 ∀ (pins:List (Addr × Obj)) (s:Shared) (σ:St) (H:Hp) (v:V) (u:Value) (Q:St->Hp->Prop),Inv X pins σ H s->RelV v u->t v σ H Q →
  wpAny (model X.prog X.w) X.A (assign target X.env u) (fun _ s'=>∃ σ' H',Inv X pins σ' H' s'/\Q σ' H') X.xe s
def PGs (X:Cx) (ts:List Expr) (t:TGs):Prop :=
 ∀ (pins:List (Addr × Obj)) (s:Shared) (σ:St) (H:Hp) (vs:List V) (us:List Value) (Q:St->Hp->Prop),Inv X pins σ H s->Vals vs us->t vs σ H Q →
  wpAny (model X.prog X.w) X.A (assignInOrder ((assignEach ts X.env).map (·.2)) us) (fun _ s'=>∃ σ' H',Inv X pins σ' H' s'/\Q σ' H') X.xe s
abbrev DV:=V->V->V->Hp->(Hp->Prop)->Prop
def DT (X:Cx) (t:DV):Prop :=
 ∀ (pins:List (Addr × Obj)) (s:Shared) (σ:St) (H:Hp) (o i v:V) (ov iv u:Value) (Q:Hp->Prop),Inv X pins σ H s->RelV o ov->RelV i iv->RelV v u->t o i v H Q →
  wpAny (model X.prog X.w) X.A (setItem ov iv u) (fun _ s'=>∃ H',Inv X pins σ H' s'/\Q H') X.xe s
section
variable {X:Cx}{pos:Pos}
def eh (i:Nat):TG:=fun v σ H Q=>Q (σ.set i (some v)) H
theorem uJ {i:Nat}{x:Str} (hN:X.N.Nodup) (hi:X.N[i]?=some x) (hx:Loc X.env.scope x) (hf:X.fn x=true ∨ X.env.scope.names.lookup x=some .local:=by first | exact .inl rfl | exact .inr rfl | assumption):PG X (.Name x pos) (eh i):=by
 intro pins s σ H v u Q I r h
 exact wpAny_assign_Name (gD I hN hi hx r (fun s' I'=>⟨_,H,I',h⟩) hf)
def zW:TGs:=fun vs σ H Q=>vs=[]/\Q σ H
def oh (t:TG) (u:TGs):TGs:=fun vs σ H Q=>∃ v r,vs=v::r/\t v σ H fun σ' H'=>u r σ' H' Q
theorem eR:PGs X [] zW:=by
 intro pins s σ H vs us Q I r h
 obtain ⟨e,h⟩:=h
 subst e
 cases r
 exact assignInOrder_nil ⟨σ,H,I,h⟩
theorem aM {e:Expr}{es:List Expr}{t:TG}{u:TGs} (h1:PG X e t) (h2:PGs X es u)
  (hs:(assignEach (e::es) X.env).map (·.2)=assign e X.env::(assignEach es X.env).map (·.2):=by rfl):PGs X (e::es) (oh t u):=by
 intro pins s σ H vs us Q I r h
 obtain ⟨v,vr,e1,h⟩:=h
 subst e1
 cases r with
 | cons r rr =>
  rw [hs]
  refine assignInOrder_cons (thn (h1 pins s σ H _ _ _ I r h) fun _ s1 ⟨σ1,H1,I1,q1⟩=>?_)
  exact h2 pins s1 σ1 H1 _ _ Q I1 rr q1
def zX (K:PySem.W.Frag) (n:Nat) (t:TGs):TG:=fun v σ H Q=>∃ a xs,v=.ref a/\SqT K H a xs/\xs.length=n/\t xs σ H Q
theorem yM {es:List Expr}{k:Nat}{t:TGs}{n:Nat} (hc:X.calm=true) (h:PGs X es t)
  (hn:(assignEach es X.env).length=n:=by rfl) (hst:(assignEach es X.env).findIdx? (·.1)=none:=by rfl):PG X (.Tuple es k pos) (zX X.K n t):=by
 intro pins s σ H v u Q I r hw
 obtain ⟨a,xs,e1,hq,hl,hw⟩:=hw
 subst e1
 cases r
 obtain ⟨its,rv,ht,hz⟩:=I.tuple hq
 refine assign_Tuple_tuple (I.ok.hd hc) ht (by simp [hn,← hl,rv.length]) hst fun h' hx=>?_
 have I1:Inv X pins σ H { s with heap:=h' }:=I.kept (t':=s.toks) fun b o e=>hx b o (Nat.ne_of_lt (Heap.lt_size e)) e
 exact h pins _ σ H xs _ Q I1 (by simpa using rv) hw
def wA (te:TE) (g:TG):TS:=fun D σ H=>te σ H fun x H1=>g x σ H1 D.nx
theorem kc {tg e:Expr}{te:TE}{g:TG} (he:PE X e te) (hg:PG X tg g) (hs:swapsWithSole [tg] e pos.line X.env=pure false:=by rfl) (hw:swappedStores [tg] e X.env=pure none:=by rfl)
  (h1:(assignEach [tg] X.env).map (·.2)=[assign tg X.env]:=by rfl):PS X (.Assign [tg] e pos) (wA te g):=by
 intro pins s σ H D I h
 refine wpAny_Assign_stores (thn (he pins s σ H _ I h) fun v s1 ⟨x,H1,I1,r1,q1⟩=>?_) hs hw
 rw [h1]
 exact thn (hg pins s1 σ H1 x v _ I1 r1 q1) fun _ s2 q=>q
theorem yP {i:Nat}{x:Str}{e:Expr}{te:TE}{pos':Pos} (hN:X.N.Nodup) (hi:X.N[i]?=some x) (hx:Loc X.env.scope x) (he:PE X e te) (hs:swapsWith e (some (.Name x pos')) pos.line X.env=pure false:=by rfl) (hf:X.fn x=true ∨ X.env.scope.names.lookup x=some .local:=by first | exact .inl rfl | exact .inr rfl | assumption) :
  PS X (.Assign [.Name x pos'] e pos) (wA te (eh i)):=by
 intro pins s σ H D I h
 refine wpAny_Assign_Name (thn (he pins s σ H _ I h) fun v s1 ⟨y,H1,I1,r1,q1⟩=>?_) hs
 exact gD I1 hN hi hx r1 (fun s2 I2=>⟨_,H1,I2,q1⟩) hf
def DB (i j:Nat) (ta:TA):TS:=fun D σ H=>ta σ H fun vs H1=>∃ v w,vs=[v,w]/\D.nx ((σ.set i (some v)).set j (some w)) H1
theorem CG {i j:Nat}{x y:Str}{a b:Expr}{ta:TA}{px py pt:Pos}{kt k2 pt2} (hc:X.calm=true) (hN:X.N.Nodup) (hi:X.N[i]?=some x) (hj:X.N[j]?=some y) (hij:i≠j)
  (hx:X.env.scope.names.lookup x=some .local) (hy:X.env.scope.names.lookup y=some .local) (ha:PA X [a,b] ta)
  (hw:swappedStores [.Tuple [.Name x px,.Name y py] kt pt] (.Tuple [a,b] k2 pt2) X.env=pure (some [x,y]))
  (hs:swapsWithSole [.Tuple [.Name x px,.Name y py] kt pt] (.Tuple [a,b] k2 pt2) pos.line X.env=pure false:=by rfl) :
  PS X (.Assign [.Tuple [.Name x px,.Name y py] kt pt] (.Tuple [a,b] k2 pt2) pos) (DB i j ta):=by
 intro pins s σ H D I h
 rw [exec_Assign_arm]
 refine wpAny_bind (wpAny_standAt ?_)
 rw [hs]
 refine wpAny_bind (wpAny_pure ?_)
 rw [if_neg (by decide)]
 refine wpAny_bind (Tuple_ (thn (ha _ pins s σ H _ I h) fun us s1 ⟨vs,H1,I1,r1,q1⟩=>?_))
 obtain ⟨v,w,e1,q1⟩:=q1
 subst e1
 obtain ⟨u1,u2,rfl,rv,rw'⟩:∃ u1 u2,us=[u1,u2]/\RelV v u1/\RelV w u2:=by
  cases r1 with
  | cons p q =>
   cases q with
   | cons p' q' =>
    cases q'
    exact ⟨_,_,rfl,p,p'⟩
 refine wpAny_newObj_type ?_ (by show 2<=sizeLine;decide)
 have I2:Inv X pins σ H1 { s1 with heap:=s1.heap.push { cls:=.type "tuple",data:=.seq [u1,u2].toArray } }:=I1.kept (t':=s1.toks) fun b o e=>Heap.get?_push_of_some _ e
 rw [hw]
 refine wpAny_bind (wpAny_pure ?_)
 show wpAny (model X.prog X.w) X.A (do rule "assign.swapped-stores";let items ← unpackItems (.ref s1.heap.objs.size) 2 none;assignInOrder [fun v=>bindName X.env y v,fun v=>bindName X.env x v] items.reverse;pure Flow.next) _ _ _
 refine wpAny_bind (wpAny_rule (wpAny_bind (unpackItems_tuple (items:=#[u1,u2]) (I.ok.hd hc) (IsTup.new s1.heap _) fun h' hx'=>?_)))
 have I3:=I2.kept (h':=h') (t':=s1.toks) fun b o e=>hx' b o (Nat.ne_of_lt (Heap.lt_size e)) e
 show wpAny _ _ (assignInOrder [fun v=>bindName X.env y v,fun v=>bindName X.env x v] [u2,u1] >>= fun _=>pure Flow.next) _ _ _
 refine wpAny_bind (assignInOrder_cons (wpAny_bindName (gD I3 hN hj (.inl hy) rw' (fun s2 I4=>?_) (.inr hy))))
 refine assignInOrder_cons (wpAny_bindName (gD I4 hN hi (.inl hx) rv (fun s3 I5=>assignInOrder_nil (wpAny_pure ?_)) (.inr hx)))
 rw [List.set_comm _ _ (Ne.symm hij)] at I5
 exact ⟨_,H1,I5,q1⟩
end

section
variable {X:Cx}{pos:Pos}
def zA (c:TT) (tb:TS):TS:=fun D σ H=>∃ W:Nat->St->Hp->Prop,(∃ m,W m σ H)/\∀ m σ H,W m σ H →
 c σ H fun b H1=>if b=true then ∃ N:St->Hp->Prop,(∀ σ' H',N σ' H'->∃ m',m' < m/\W m' σ' H')/\tb { D with nx:=N,ct:=N,bk:=D.nx } σ H1 else D.nx σ H1
theorem mR {c:Expr}{body:List Stmt}{tc:TT}{tb:TS} (hp:PassesOwn (model X.prog X.w) X.A X.env X.xe) (hc:PT X c tc) (hb:PSs X body tb):PS X (.While c body [] pos) (zA tc tb):=by
 intro pins s σ H D I h
 obtain ⟨W,⟨m0,w0⟩,turn⟩:=h
 refine wpAny_While (codeAny_whileLoop (fun n s'=>∃ σ' H',Inv X pins σ' H' s'/\W n σ' H') ?_ m0 ⟨σ,H,I,w0⟩)
 rintro n s1 ⟨σ1,H1,I1,w1⟩
 refine wpAny_passesOwn hp (thn (hc pins s1 σ1 H1 _ I1 (turn n σ1 H1 w1)) fun b s2 ⟨H2,I2,q2⟩=>?_)
 cases b with
 | true =>
  obtain ⟨N,hN,q2⟩:=q2
  rw [if_pos rfl]
  refine wpAny_passesOwn hp (thn (hb pins s2 σ1 H2 _ I2 q2) fun f s3 q3=>?_)
  cases f with
  | next =>
   obtain ⟨σ3,H3,I3,n3⟩:=q3
   obtain ⟨m',hm,w3⟩:=hN σ3 H3 n3
   exact ⟨m',hm,σ3,H3,I3,w3⟩
  | cont =>
   obtain ⟨σ3,H3,I3,n3⟩:=q3
   obtain ⟨m',hm,w3⟩:=hN σ3 H3 n3
   exact ⟨m',hm,σ3,H3,I3,w3⟩
  | brk=>exact q3
  | ret v=>exact q3
 | false =>
  rw [if_neg Bool.false_ne_true]
  exact wpAny_execs_nil ⟨σ1,H2,I2,q2⟩
end

structure It where
 go:Nat->Hp->Prop
 yld:Nat->Hp->V->Hp->Prop
 stop:Nat->Hp->Prop
def gG (X:Cx) (pins:List (Addr × Obj)) (H:Hp) (b:Addr):Prop :=
 H b=none/\b≠X.env.locals/\b ∉ X.fs/\(b∈X.ex ∨ X.s₀.heap.objs.size<=b)/\(∀ x c,X.env.cells.lookup x=some c->c≠b)/\∀ p∈X.pn++pins,p.1≠b
theorem Inv.mx {X:Cx}{pins:List (Addr × Obj)}{σ:St}{H H':Hp}{s:Shared}{b:Addr} (I:Inv X pins σ H s) (hb:s.heap.objs.size<=b) (hn:H' b=none):gG X pins H' b:=by
 refine ⟨hn,Nat.ne_of_gt (Nat.lt_of_lt_of_le I.lt hb),I.Ed hb,.inr (Nat.le_trans I.sz hb),fun x c e z=>?_,fun p hp z=>?_⟩
 ·obtain ⟨v,q⟩:=I.cell x c e
  exact absurd (Nat.lt_of_lt_of_le q.lt (by rw [z];exact hb)) (Nat.lt_irrefl _)
 ·exact absurd (Nat.lt_of_lt_of_le (Heap.lt_size (I.pin p hp).1) (by rw [z];exact hb)) (Nat.lt_irrefl _)
structure Turn (P:Program) (w:World) (K:PySem.W.Frag) (tg:Expr) (J:It) (fp:List Addr) (it:Addr) (tn:Nat->Heap->Prop):Prop where
 mem:it∈fp
 obj:∀ i h,tn i h->∀ b∈fp,∃ o,h.get? b=some o/\∀ v,o.data≠.cell v
 keep:∀ i h h',tn i h->(∀ b∈fp,∀ o,h.get? b=some o->h'.get? b=some o)->tn i h'
 item:∀ (X:Cx),X.prog=P->X.w=w->X.K=K->X.calm=true->∀ (i:Nat) (pins:List (Addr × Obj)) (s:Shared) (σ:St) (H:Hp) (E:Value->Shared->Prop),Inv X pins σ H s->(∀ b∈fp,gG X pins H b)->tn i s.heap->J.go i H →
  wpAny (model P w) X.A (pyNext (.ref it)) (fun r s1=>∃ u,r=some u ∧
   wpAny (model P w) X.A (letOwnedTupleGo tg (.ref it) u) (fun _ s2=>∃ x H',Inv X pins σ H' s2/\RelV x u/\J.yld i H x H'/\tn (i + 1) s2.heap/\∀ b∈fp,H' b=none) E s1) E s
 done:∀ (X:Cx),X.prog=P->X.w=w->X.K=K->X.calm=true->∀ (i:Nat) (pins:List (Addr × Obj)) (s:Shared) (σ:St) (H:Hp) (E:Value->Shared->Prop),Inv X pins σ H s->(∀ b∈fp,gG X pins H b)->tn i s.heap->J.stop i H →
  wpAny (model P w) X.A (pyNext (.ref it)) (fun r s1=>r=none/\Inv X pins σ H s1) E s
 self:∀ (A:Around) (i:Nat) (s:Shared) (Q:Value->Shared->Prop) (E:Value->Shared->Prop),tn i s.heap->Q (.ref it) s->wpAny (model P w) A (pyIter (.ref it)) Q E s
abbrev TI:=St->Hp->(It->Hp->Prop)->Prop
def PIE (X:Cx) (pins:List (Addr × Obj)) (σ:St) (tg:Expr) (R:It->Hp->Prop) (itv:Value) (s2:Shared):Prop :=
 ∃ (it:Addr) (fp:List Addr) (tn:Nat->Heap->Prop) (J:It) (H':Hp),itv=.ref it/\Inv X pins σ H' s2/\Turn X.prog X.w X.K tg J fp it tn/\tn 0 s2.heap/\(∀ b∈fp,gG X pins H' b)/\R J H'
def PI (X:Cx) (tg iter:Expr) (wi:TI):Prop :=
 ∀ (pins:List (Addr × Obj)) (s:Shared) (σ:St) (H:Hp) (R:It->Hp->Prop),Inv X pins σ H s->wi σ H R →
  wpAny (model X.prog X.w) X.A (eval iter X.env) (fun v s1=>wpAny (model X.prog X.w) X.A (pyIter v) (PIE X pins σ tg R) X.xe s1) X.xe s

theorem oi {M:Model}{A:Around}{E:Value->Shared->Prop}{s:Shared}{tg:Expr}{it:Addr}{u:Value}{o:Obj}{n:String}{vs:Array Value}{Q:Unit->Shared->Prop} (ho:s.heap.get? it=some o) (hc:o.cls=.type n) (hd:o.data=.fields vs)
  (hn:["enumerate","zip","dict_itemiterator","dict_reverseitemiterator","odict_iterator","itertools.zip_longest","itertools.pairwise"].contains n=false) (hQ:Q () s):wpAny M A (letOwnedTupleGo tg (.ref it) u) Q E s:=by
 unfold letOwnedTupleGo
 cases tg <;> first
  | exact wpAny_pure hQ
  | (cases u <;> first
    | exact wpAny_pure hQ
    | (refine wpAny_bind (wpAny_load ho ?_)
       rw [hc,hd]
       show wpAny M A (if (["enumerate","zip","dict_itemiterator","dict_reverseitemiterator","odict_iterator","itertools.zip_longest","itertools.pairwise"].contains n && vs[0]? == some (rawInt _))=true then _ else _) Q E s
       rw [if_neg (by intro h;rw [hn,Bool.false_and] at h;cases h)]
       exact wpAny_pure hQ))

def Itl (K:PySem.W.Frag) (a:Addr):It :=
 ⟨fun i H=>∃ xs x,SqL K H a xs/\xs[i]?=some x,fun i H x H'=>H'=H/\∀ xs,SqL K H a xs->xs[i]?=some x,fun i H=>∃ xs,SqL K H a xs/\xs.length<=i⟩
def Itt (K:PySem.W.Frag) (a:Addr):It :=
 ⟨fun i H=>∃ xs x,SqT K H a xs/\xs[i]?=some x,fun i H x H'=>H'=H/\∀ xs,SqT K H a xs->xs[i]?=some x,fun i H=>∃ xs,SqT K H a xs/\xs.length<=i⟩
def Itr (lo:Int) (n:Nat):It:=⟨fun i _=>i < n,fun i H x H'=>H'=H/\x=.int (lo + i),fun i _=>n<=i⟩
theorem wF {P:Program}{w:World}{K:PySem.W.Frag}{tg:Expr} (a it:Addr):Turn P w K tg (Itl K a) [it] it (fun i h=>h.IsListIter it a i) where
 mem:=by simp
 obj:=fun i h st b hb=>by
  have e:b=it:=by simpa using hb
  subst e
  obtain ⟨o,e,c,d⟩:=st
  exact ⟨o,e,fun v z=>by rw [d] at z;cases z⟩
 keep:=fun i h h' st k=>st.at fun o e=>k it (by simp) o e
 item:=by
  intro X hP hw hK hc i pins s σ H E I hf st hg
  subst hP hw hK
  obtain ⟨xs,x,hq,hx⟩:=hg
  obtain ⟨its,rv,p,hz⟩:=I.list hq
  obtain ⟨u,hu,ru⟩:=rv.get hx
  obtain ⟨f0,f1,f2,f3,f4,f5⟩:=hf it (by simp)
  refine wpAny_pyNext_list_item st p.isList (x:=u) (by simpa using hu) fun h' st' sb=>?_
  have I1:Inv X pins σ H { s with heap:=h' }:=I.turned (t':=s.toks) (fun b o hb e=>(sb.2 b hb).trans e) f0 f1 f3 f4 f5
  obtain ⟨o,e,c,d⟩:=id st'
  exact ⟨u,rfl,oi (s:={ s with heap:=h' }) e c d (by decide) ⟨x,H,I1,ru,⟨rfl,fun ys hy=>by rw [I.m8 hy hq];exact hx⟩,st',fun b hb=>(hf b hb).1⟩⟩
 done:=by
  intro X hP hw hK hc i pins s σ H E I hf st hg
  subst hP hw hK
  obtain ⟨xs,hq,hx⟩:=hg
  obtain ⟨its,rv,p,hz⟩:=I.list hq
  obtain ⟨f0,f1,f2,f3,f4,f5⟩:=hf it (by simp)
  have hl:=rv.length
  exact wpAny_pyNext_list_end (I.ok.hd hc) st p.isList (by simp;omega) fun h' eb=>⟨rfl,I.turned (t':=s.toks) (fun b o hb e=>eb b o hb e) f0 f1 f3 f4 f5⟩
 self:=fun _ _ _ _ _ st h=>wpAny_pyIter_listiter st h
theorem tI {P:Program}{w:World}{K:PySem.W.Frag}{tg:Expr} (a it:Addr):Turn P w K tg (Itt K a) [it] it (fun i h=>h.IsTupleIter it a i) where
 mem:=by simp
 obj:=fun i h st b hb=>by
  have e:b=it:=by simpa using hb
  subst e
  obtain ⟨o,e,c,d⟩:=st
  exact ⟨o,e,fun v z=>by rw [d] at z;cases z⟩
 keep:=fun i h h' st k=>st.at fun o e=>k it (by simp) o e
 item:=by
  intro X hP hw hK hc i pins s σ H E I hf st hg
  subst hP hw hK
  obtain ⟨xs,x,hq,hx⟩:=hg
  obtain ⟨its,rv,p,hz⟩:=I.tuple hq
  obtain ⟨u,hu,ru⟩:=rv.get hx
  obtain ⟨f0,f1,f2,f3,f4,f5⟩:=hf it (by simp)
  refine wpAny_pyNext_tuple_item st (show s.heap.IsTuple a its.toArray from p) (x:=u) (by simpa using hu) fun h' st' sb=>?_
  have I1:Inv X pins σ H { s with heap:=h' }:=I.turned (t':=s.toks) (fun b o hb e=>(sb.2 b hb).trans e) f0 f1 f3 f4 f5
  obtain ⟨o,e,c,d⟩:=id st'
  exact ⟨u,rfl,oi (s:={ s with heap:=h' }) e c d (by decide) ⟨x,H,I1,ru,⟨rfl,fun ys hy=>by rw [I.wD hy hq];exact hx⟩,st',fun b hb=>(hf b hb).1⟩⟩
 done:=by
  intro X hP hw hK hc i pins s σ H E I hf st hg
  subst hP hw hK
  obtain ⟨xs,hq,hx⟩:=hg
  obtain ⟨its,rv,p,hz⟩:=I.tuple hq
  obtain ⟨f0,f1,f2,f3,f4,f5⟩:=hf it (by simp)
  have hl:=rv.length
  exact wpAny_pyNext_tuple_end (I.ok.hd hc) st (show s.heap.IsTuple a its.toArray from p) (by simp;omega) fun h' eb=>⟨rfl,I.turned (t':=s.toks) (fun b o hb e=>eb b o hb e) f0 f1 f3 f4 f5⟩
 self:=fun _ _ _ _ _ st h=>wpAny_pyIter_tupleiter st h
theorem fN {P:Program}{w:World}{K:PySem.W.Frag}{tg:Expr} (it:Addr) (lo:Int) (n:Nat):Turn P w K tg (Itr lo n) [it] it (fun i h=>IsRangeIter h it (lo + (i:Nat) * 1) ((n:Int) - (i:Nat)) 1) where
 mem:=by simp
 obj:=fun i h st b hb=>by
  have e:b=it:=by simpa using hb
  subst e
  exact ⟨_,st,fun v z=>by
   have z':Data.fields _=Data.cell v:=z
   cases z'⟩
 keep:=fun i h h' st k=>k it (by simp) _ st
 item:=by
  intro X hP hw hK hc i pins s σ H E I hf st hg
  subst hP hw hK
  obtain ⟨f0,f1,f2,f3,f4,f5⟩:=hf it (by simp)
  have W:=Walks.range (prog:=X.prog) (w:=X.w) (I.ok.hd hc) it lo 1 n
  refine W.item i s _ _ hg st fun v h' tk hv st' kk=>?_
  obtain ⟨t,rfl⟩:=hv
  have I1:Inv X pins σ H { s with heap:=h',toks:=tk }:=I.turned (fun b o hb e=>kk b o (by simpa using hb) e) f0 f1 f3 f4 f5
  refine ⟨_,rfl,oi (s:={ s with heap:=h',toks:=tk }) (n:="range_iterator") st' rfl rfl (by decide) ⟨.int (lo + i),H,I1,⟨t,?_⟩,⟨rfl,rfl⟩,st',fun b hb=>(hf b hb).1⟩⟩
  rw [Int.mul_one]
 done:=by
  intro X hP hw hK hc i pins s σ H E I hf st hg
  subst hP hw hK
  obtain ⟨f0,f1,f2,f3,f4,f5⟩:=hf it (by simp)
  exact wpAny_pyNext_range_end (I.ok.hd hc) st (by have:n<=i:=hg;omega) fun h' eb=>⟨rfl,I.turned (t':=s.toks) (fun b o hb e=>eb b o hb e) f0 f1 f3 f4 f5⟩
 self:=fun _ _ _ _ _ st h=>wpAny_pyIter_rangeiter st h
end L2

namespace L2
open PySem PySem.Spec PyProof.Rows
section
variable {X:Cx}{tg:Expr}
theorem za {pins:List (Addr × Obj)}{σ:St}{H:Hp}{s:Shared}{R:It->Hp->Prop}{E:Value->Shared->Prop}{lo hi:Int}{t u v:Tok}{tk:Nat} (I:Inv X pins σ H s) (h1:-(2 ^ 62)<=lo) (h2:lo < 2 ^ 62) (h3:-(2 ^ 62)<=hi) (h4:hi < 2 ^ 62)
  (q:R (Itr lo (hi - lo).toNat) H):wpAny (model X.prog X.w) X.A (pyIter (.ref s.heap.objs.size)) (PIE X pins σ tg R) E { s with heap:=s.heap.push { cls:=.type "range",data:=.fields #[.int lo t,.int hi u,.int 1 v] },toks:=tk }:=by
 refine wpAny_pyIter_range (IsRange.new ..) (small_one h1 h2 h3 h4) ?_
 have I1:Inv X pins σ H { s with heap:=s.heap.push { cls:=.type "range",data:=.fields #[.int lo t,.int hi u,.int 1 v] },toks:=tk }:=I.kept fun b o e=>Heap.get?_push_of_some _ e
 refine ⟨(s.heap.push { cls:=.type "range",data:=.fields #[.int lo t,.int hi u,.int 1 v] }).objs.size,[(s.heap.push { cls:=.type "range",data:=.fields #[.int lo t,.int hi u,.int 1 v] }).objs.size],_,_,H,rfl,
  I1.kept (t':=tk) fun b o e=>Heap.get?_push_of_some _ e,fN _ lo (hi - lo).toNat,?_,fun b hb=>?_,q⟩
 ·have e1:lo + ((0:Nat):Int) * 1=lo:=by simp
  have e2:(((hi - lo).toNat:Nat):Int) - ((0:Nat):Int)=Builtin.Range.rangeSize lo hi 1:=by rw [rangeSize_one];split <;> omega
  show IsRangeIter _ _ (lo + ((0:Nat):Int) * 1) ((((hi - lo).toNat:Nat):Int) - ((0:Nat):Int)) 1
  rw [e1,e2]
  exact Heap.get?_push_size _ rfl
 ·have e:b=(s.heap.push { cls:=.type "range",data:=.fields #[.int lo t,.int hi u,.int 1 v] }).objs.size:=by simpa using hb
  subst e
  exact I1.mx (Nat.le_refl _) (I1.hok.fresh (Nat.le_refl _))
def yc (ta:TA):TI:=fun σ H R=>ta σ H fun vs H1=>∃ j:Int,vs=[.int j]/\-(2 ^ 62)<=j/\j < 2 ^ 62/\R (Itr 0 j.toNat) H1
theorem wj {a:Expr}{ta:TA}{p pos:Pos} (hg:Gl X "range") (hm:X.mg "range"=none) (ha:PA X [a] ta) (hs:starEach [a] X.env=[(false,eval a X.env)]:=by rfl):PI X tg (.Call (.Name "range" p) [a] [] pos) (yc ta):=by
 intro pins s σ H R I h
 refine Call_ (jW I hg hm boot_range (PyProof.Rows.callWith_type1 (thn (ha pos pins s σ H _ I h) fun us s1 ⟨vs,H1,I1,r1,q1⟩=>?_) hs rfl))
 obtain ⟨j,e,q1,q2,q⟩:=q1
 subst e
 cases r1 with
 | cons r rr =>
  cases rr
  obtain ⟨t,rfl⟩:=r
  exact call_range_1 (za I1 (by omega) (by omega) q1 q2 (by simpa using q))
def CM (wi:TI) (g:TG) (tb:TS):TS:=fun D σ H=>wi σ H fun J H1=>∃ W:Nat->Nat->St->Hp->Prop,(∃ m,W 0 m σ H1)/\∀ i m σ H,W i m σ H →
 (J.stop i H/\D.nx σ H) ∨ (J.go i H/\∃ N:St->Hp->Prop,(∀ σ' H',N σ' H'->∃ m',m' < m/\W (i + 1) m' σ' H')/\∀ x H',J.yld i H x H'->g x σ H' fun σ2 H2=>tb { D with nx:=N,ct:=N,bk:=D.nx } σ2 H2)
def jh (fp:List Addr) (h:Heap):List (Addr × Obj):=fp.filterMap fun b=>(h.get? b).map fun o=>(b,o)
theorem cW {fp:List Addr}{h:Heap}{b:Addr}{o:Obj} (hb:b∈fp) (e:h.get? b=some o):(b,o)∈jh fp h:=List.mem_filterMap.mpr ⟨b,hb,by rw [e];rfl⟩
theorem vV {fp:List Addr}{h:Heap}{p:Addr × Obj} (hp:p∈jh fp h):p.1∈fp/\h.get? p.1=some p.2:=by
 obtain ⟨b,hb,e⟩:=List.mem_filterMap.mp hp
 cases q:h.get? b with
 | none=>rw [q] at e;cases e
 | some o =>
  rw [q] at e
  have e':(b,o)=p:=Option.some.inj e
  subst e'
  exact ⟨hb,q⟩
theorem Inv.pinned {pins:List (Addr × Obj)}{σ:St}{H:Hp}{s:Shared}{fp:List Addr} (I:Inv X pins σ H s) (hf:∀ b∈fp,gG X pins H b) (ho:∀ b∈fp,∃ o,s.heap.get? b=some o/\∀ v,o.data≠.cell v):Inv X (pins++jh fp s.heap) σ H s :=
 I.uL fun p hp=>(List.mem_append.mp hp).elim (fun z=>I.pin p (List.mem_append_right _ z)) fun z=>by
  obtain ⟨hb,e⟩:=vV z
  obtain ⟨f0,f1,f2,_⟩:=hf p.1 hb
  obtain ⟨o,e',d⟩:=ho p.1 hb
  rw [e] at e';cases e'
  exact ⟨e,f0,f1,f2,d⟩
theorem Inv.eZ {pins pl:List (Addr × Obj)}{σ:St}{H:Hp}{s:Shared} (I:Inv X (pins++pl) σ H s):Inv X pins σ H s:=I.uL fun p hp=>I.pin p (List.mem_append_right _ (List.mem_append_left _ hp))
theorem gR {iter:Expr}{body:List Stmt}{wi:TI}{g:TG}{tb:TS}{pos:Pos} (hp:PassesOwn (model X.prog X.w) X.A X.env X.xe) (hc:X.calm=true) (hi:PI X tg iter wi) (hg:PG X tg g) (hb:PSs X body tb)
  (hs:∀ x,foldedSetIterable iter X.env x=pure x:=by intro _;rfl):PS X (.For tg iter body [] pos) (CM wi g tb):=by
 intro pins s σ H D I h
 refine wpAny_For (thn (hi pins s σ H _ I h) fun v s1 h1=>thn h1 fun itv s2 h2=>?_) hs
 obtain ⟨it,fp,tn,J,H2,e,I2,T,st2,f2,W,⟨m0,w0⟩,turn⟩:=h2
 subst e
 -- what stays true of the iterator's objects through the loop
 have stat:∀ {H':Hp},(∀ b∈fp,H' b=none)->∀ b∈fp,gG X pins H' b:=fun hn b hb=>⟨hn b hb,(f2 b hb).2⟩
 refine codeAny_forLoop_any (fun n s'=>∃ i σ' H',Inv X pins σ' H' s'/\tn i s'.heap/\(∀ b∈fp,H' b=none)/\W i n σ' H') ?_ m0 ⟨0,σ,H2,I2,st2,fun b hb=>(f2 b hb).1,w0⟩
 rintro n s3 ⟨i,σ3,H3,I3,st3,fr3,w3⟩
 rcases turn i n σ3 H3 w3 with ⟨stop,qn⟩ | ⟨go,N,hN,step⟩
 ·refine wpAny_passesOwn hp (thn (T.done X rfl rfl rfl hc i pins s3 σ3 H3 X.xe I3 (stat fr3) st3 stop) fun r s4 ⟨hr,I4⟩=>?_)
  subst hr
  exact wpAny_execs_nil ⟨σ3,H3,I4,qn⟩
 ·refine wpAny_passesOwn hp (thn (T.item X rfl rfl rfl hc i pins s3 σ3 H3 X.xe I3 (stat fr3) st3 go) fun r s4 ⟨u,hr,h4⟩=>?_)
  subst hr
  refine wpAny_passesOwn hp (thn h4 fun _ s5 ⟨x,H5,I5,r5,y5,st5,fr5⟩=>?_)
  have I5':=I5.pinned (stat fr5) (T.obj _ _ st5)
  refine wpAny_passesOwn hp (thn (hg _ s5 σ3 H5 x u _ I5' r5 (step x H5 y5)) fun _ s6 ⟨σ6,H6,I6,q6⟩=>?_)
  refine wpAny_passesOwn hp (thn (hb _ s6 σ6 H6 _ I6 q6) fun f s7 q7=>?_)
  have again:∀ {σ7:St}{H7:Hp},Inv X (pins++jh fp s5.heap) σ7 H7 s7->N σ7 H7->∃ m,m < n/\∃ i σ' H',Inv X pins σ' H' s7/\tn i s7.heap/\(∀ b∈fp,H' b=none)/\W i m σ' H':=fun {σ7 H7} I7 n7=>by
   obtain ⟨m',hm,w7⟩:=hN σ7 H7 n7
   refine ⟨m',hm,i + 1,σ7,H7,I7.eZ,T.keep _ _ _ st5 fun b hb o e=>(I7.pin (b,o) (List.mem_append_right _ (List.mem_append_right _ (cW hb e)))).1,fun b hb=>?_,w7⟩
   obtain ⟨o,e,d⟩:=T.obj _ _ st5 b hb
   exact (I7.pin (b,o) (List.mem_append_right _ (List.mem_append_right _ (cW hb e)))).2.1
  cases f with
  | next=>obtain ⟨σ7,H7,I7,n7⟩:=q7;exact again I7 n7
  | cont=>obtain ⟨σ7,H7,I7,n7⟩:=q7;exact again I7 n7
  | brk=>obtain ⟨σ7,H7,I7,q7⟩:=q7;exact ⟨σ7,H7,I7.eZ,q7⟩
  | ret v=>obtain ⟨x7,σ7,H7,I7,r7,q7⟩:=q7;exact ⟨x7,σ7,H7,I7.eZ,r7,q7⟩
end

theorem xO {K:PySem.W.Frag}{a:Addr}{xs:List V}{g:TG}{tb:TS}{D:Ends}{σ:St}{H:Hp} (Pv:Nat->St->Hp->Prop) (h0:Pv 0 σ H) (hl:∀ i σ H,i<=xs.length->Pv i σ H->SqL K H a xs)
  (hs:∀ i x σ H,xs[i]?=some x->Pv i σ H->g x σ H fun σ2 H2=>tb { D with nx:=Pv (i + 1),ct:=Pv (i + 1),bk:=D.nx } σ2 H2) (hd:∀ σ H,Pv xs.length σ H->D.nx σ H) :
  ∃ W:Nat->Nat->St->Hp->Prop,(∃ m,W 0 m σ H)/\∀ i m σ H,W i m σ H →
   ((Itl K a).stop i H/\D.nx σ H) ∨ ((Itl K a).go i H/\∃ N:St->Hp->Prop,(∀ σ' H',N σ' H'->∃ m',m' < m/\W (i + 1) m' σ' H')/\∀ x H',(Itl K a).yld i H x H'->g x σ H' fun σ2 H2=>tb { D with nx:=N,ct:=N,bk:=D.nx } σ2 H2):=by
 refine ⟨fun i m σ H=>m=xs.length - i/\i<=xs.length/\Pv i σ H,⟨xs.length,by simp,Nat.zero_le _,h0⟩,?_⟩
 rintro i m σ H ⟨rfl,hi,p⟩
 have q:=hl i σ H hi p
 by_cases hlt:i < xs.length
 ·refine .inr ⟨⟨xs,xs[i],q,by simp [hlt]⟩,Pv (i + 1),fun σ' H' p'=>⟨xs.length - (i + 1),by omega,rfl,hlt,p'⟩,fun x H' y=>?_⟩
  obtain ⟨e,y⟩:=y
  subst e
  exact hs i x σ _ (y xs q) p
 ·have e:i=xs.length:=by omega
  subst e
  exact .inl ⟨⟨xs,q,Nat.le_refl _⟩,hd σ H p⟩
theorem vI {lo:Int}{n:Nat}{g:TG}{tb:TS}{D:Ends}{σ:St}{H:Hp} (Pv:Nat->St->Hp->Prop) (h0:Pv 0 σ H)
  (hs:∀ i σ H,i < n->Pv i σ H->g (.int (lo + i)) σ H fun σ2 H2=>tb { D with nx:=Pv (i + 1),ct:=Pv (i + 1),bk:=D.nx } σ2 H2) (hd:∀ σ H,Pv n σ H->D.nx σ H) :
  ∃ W:Nat->Nat->St->Hp->Prop,(∃ m,W 0 m σ H)/\∀ i m σ H,W i m σ H →
   ((Itr lo n).stop i H/\D.nx σ H) ∨ ((Itr lo n).go i H/\∃ N:St->Hp->Prop,(∀ σ' H',N σ' H'->∃ m',m' < m/\W (i + 1) m' σ' H')/\∀ x H',(Itr lo n).yld i H x H'->g x σ H' fun σ2 H2=>tb { D with nx:=N,ct:=N,bk:=D.nx } σ2 H2):=by
 refine ⟨fun i m σ H=>m=n - i/\i<=n/\Pv i σ H,⟨n,by simp,Nat.zero_le _,h0⟩,?_⟩
 rintro i m σ H ⟨rfl,hi,p⟩
 by_cases hlt:i < n
 ·refine .inr ⟨hlt,Pv (i + 1),fun σ' H' p'=>⟨n - (i + 1),by omega,rfl,hlt,p'⟩,fun x H' y=>?_⟩
  obtain ⟨e,y⟩:=y
  subst e y
  exact hs i σ _ hlt p
 ·have e:i=n:=by omega
  subst e
  exact .inl ⟨Nat.le_refl _,hd σ H p⟩
end L2

namespace L2
open PySem PySem.Spec PyProof.Rows

abbrev R2:=V->V->Hp->VK->Prop
def OpR (X:Cx) (f:Value->Value->Sem Value) (r:R2):Prop :=
 ∀ (pins:List (Addr × Obj)) (s:Shared) (σ:St) (H:Hp) (x y:V) (v u:Value) (Q:VK),Inv X pins σ H s->RelV x v->RelV y u->r x y H Q →
  wpAny (model X.prog X.w) X.A (f v u) (EP X pins σ Q) X.xe s
def UnR (X:Cx) (f:Value->Sem Value) (r:V->Hp->VK->Prop):Prop :=
 ∀ (pins:List (Addr × Obj)) (s:Shared) (σ:St) (H:Hp) (x:V) (v:Value) (Q:VK),Inv X pins σ H s->RelV x v->r x H Q →
  wpAny (model X.prog X.w) X.A (f v) (EP X pins σ Q) X.xe s
def bw (X:Cx) (f:Value) (r:List V->Hp->VK->Prop):Prop :=
 ∀ (pins:List (Addr × Obj)) (s:Shared) (σ:St) (H:Hp) (xs:List V) (us:List Value) (Q:VK),Inv X pins σ H s->Vals xs us->r xs H Q →
  wpAny (model X.prog X.w) X.A (call f us) (EP X pins σ Q) X.xe s
def tOp (r:R2) (ta tb:TE):TE:=fun σ H Q=>ta σ H fun x H1=>tb σ H1 fun y H2=>r x y H2 Q
def tUn (r:V->Hp->VK->Prop) (ta:TE):TE:=fun σ H Q=>ta σ H fun x H1=>r x H1 Q
def rI (C:Int->Int->Prop) (g:Int->Int->V):R2:=fun x y H Q=>∃ i j,x=.int i/\y=.int j/\C i j/\Q (g i j) H
def rI0 (g:Int->Int->V):R2:=fun x y H Q=>∃ i j,x=.int i/\y=.int j/\Q (g i j) H
def rU (g:Int->V):V->Hp->VK->Prop:=fun x H Q=>∃ i,x=.int i/\Q (g i) H

section
variable {X:Cx}{a b c:Expr}{ta tb tc:TE}{pos:Pos}

theorem BM (ha:PE X a ta) (hb:PE X b tb) {pins:List (Addr × Obj)}{s:Shared}{σ:St}{H:Hp}{R:V->V->Hp->Prop} (I:Inv X pins σ H s)
  (h:ta σ H fun x H1=>tb σ H1 fun y H2=>R x y H2) {Q:Value->Shared->Prop}{f:Value->Value->Sem Value}
  (hf:∀ v u s2 x y H2,Inv X pins σ H2 s2->RelV x v->RelV y u->R x y H2->wpAny (model X.prog X.w) X.A (f v u) Q X.xe s2) :
  wpAny (model X.prog X.w) X.A (eval a X.env) (fun v s₁=>wpAny (model X.prog X.w) X.A (eval b X.env) (fun u s₂=>wpAny (model X.prog X.w) X.A (f v u) Q X.xe s₂) X.xe s₁) X.xe s:=by
 refine thn (ha pins s σ H _ I h) fun v s1 ⟨x,H1,I1,r1,q1⟩=>?_
 refine thn (hb pins s1 σ H1 _ I1 q1) fun u s2 ⟨y,H2,I2,r2,q2⟩=>?_
 exact hf v u s2 x y H2 I2 r1 r2 q2

theorem aD {op:Operator}{r:R2} (ho:OpR X (binaryOp op) r) (ha:PE X a ta) (hb:PE X b tb):PE X (.BinOp a op b pos) (tOp r ta tb):=by
 intro pins s σ H Q I h
 exact wpAny_BinOp (BM ha hb I h fun v u s2 x y H2 I2 rx ry q=>ho pins s2 σ H2 x y v u Q I2 rx ry q)
theorem Dr {op:UnaryOp}{r:V->Hp->VK->Prop} (ho:UnR X (unaryOp op) r) (ha:PE X a ta):PE X (.UnaryOp op a pos) (tUn r ta):=by
 intro pins s σ H Q I h
 exact UnaryOp_ (thn (ha pins s σ H _ I h) fun v s1 ⟨x,H1,I1,r1,q1⟩=>ho pins s1 σ H1 x v Q I1 r1 q1)
theorem opI {f:Value->Value->Sem Value}{C:Int->Int->Prop}{g:Int->Int->Int}
  (rule:∀ (i j:Int) (t u:Tok) (s:Shared) (Q:Value->Shared->Prop) (E:Value->Shared->Prop),C i j->Q (.int (g i j) s.toks) { s with toks:=s.toks + 1 }->wpAny (model X.prog X.w) X.A (f (.int i t) (.int j u)) Q E s) :
  OpR X f (rI C fun i j=>.int (g i j)):=by
 intro pins s σ H x y v u Q I rx ry h
 obtain ⟨i,j,rfl,rfl,hc,q⟩:=h
 obtain ⟨t,rfl⟩:=rx
 obtain ⟨t',rfl⟩:=ry
 exact rule i j t t' s _ _ hc ⟨.int (g i j),H,I.tok _,⟨_,rfl⟩,q⟩
theorem Dk {f:Value->Value->Sem Value}{g:Int->Int->Int}
  (rule:∀ (i j:Int) (t u:Tok) (s:Shared) (Q:Value->Shared->Prop) (E:Value->Shared->Prop),Q (.int (g i j) s.toks) { s with toks:=s.toks + 1 }->wpAny (model X.prog X.w) X.A (f (.int i t) (.int j u)) Q E s) :
  OpR X f (rI0 fun i j=>.int (g i j)):=by
 intro pins s σ H x y v u Q I rx ry h
 obtain ⟨i,j,rfl,rfl,q⟩:=h
 obtain ⟨t,rfl⟩:=rx
 obtain ⟨t',rfl⟩:=ry
 exact rule i j t t' s _ _ ⟨.int (g i j),H,I.tok _,⟨_,rfl⟩,q⟩
theorem Co {f:Value->Value->Sem Value}{g:Int->Int->Bool}
  (rule:∀ (i j:Int) (t u:Tok) (s:Shared) (Q:Value->Shared->Prop) (E:Value->Shared->Prop),Q (.bool (g i j)) s->wpAny (model X.prog X.w) X.A (f (.int i t) (.int j u)) Q E s) :
  OpR X f (rI0 fun i j=>.bl (g i j)):=by
 intro pins s σ H x y v u Q I rx ry h
 obtain ⟨i,j,rfl,rfl,q⟩:=h
 obtain ⟨t,rfl⟩:=rx
 obtain ⟨t',rfl⟩:=ry
 exact rule i j t t' s _ _ ⟨.bl (g i j),H,I,rfl,q⟩

def DS (i j:Int):Prop:=0<=j/\j<=1000000/\i.natAbs < 2 ^ 64
def CV (i j:Int):Prop:=(-(2 ^ 64) < i/\i < 2 ^ 64) ∨ (-(2 ^ 64) < j/\j < 2 ^ 64)
theorem CV.ok {i j:Int} (h:CV i j):IntMulOk i j:=by
 rcases h with ⟨h1,h2⟩ | ⟨h1,h2⟩
 ·exact .of_left (intBits_le_64 h1 h2)
 ·exact .of_right (intBits_le_64 h1 h2)
theorem Cp:OpR X (binaryOp .Add) (rI0 fun i j=>.int (i + j)):=Dk fun _ _ _ _ _ _ _ q=>add_int q
theorem C4:OpR X (binaryOp .Sub) (rI0 fun i j=>.int (i - j)):=Dk fun _ _ _ _ _ _ _ q=>sub_int q
theorem Cw:OpR X (binaryOp .Mod) (rI (fun _ j=>0 < j) fun i j=>.int (i % j)):=opI fun i j _ _ _ _ _ hc q=>by
 have h1:(0:Int) < j:=hc
 exact mod_int' (by omega) (by rw [Int.fmod_eq_emod_of_nonneg i (by omega)];exact q)
theorem C2:OpR X (binaryOp .Pow) (rI DS fun i j=>.int (i ^ j.toNat)):=opI fun _ _ _ _ _ _ _ hc q=>pow_int_small hc.1 hc.2.1 hc.2.2 q
theorem unI {f:Value->Sem Value}{g:Int->Int}
  (rule:∀ (i:Int) (t:Tok) (s:Shared) (Q:Value->Shared->Prop) (E:Value->Shared->Prop),Q (.int (g i) s.toks) { s with toks:=s.toks + 1 }->wpAny (model X.prog X.w) X.A (f (.int i t)) Q E s) :
  UnR X f (rU fun i=>.int (g i)):=by
 intro pins s σ H x v Q I rx h
 obtain ⟨i,rfl,q⟩:=h
 obtain ⟨t,rfl⟩:=rx
 exact rule i t s _ _ ⟨.int (g i),H,I.tok _,⟨_,rfl⟩,q⟩
theorem CQ:UnR X (unaryOp .USub) (rU fun i=>.int (-i)):=unI fun _ _ _ _ _ q=>neg_int q
end

def Dz:V->V->Bool
 | .non,.non=>true | .non,.int _=>true | .int _,.non=>true | .non,.bl _=>true | .bl _,.non=>true | .non,.str _=>true | .str _,.non=>true
 | .int _,.int _=>true | .bl _,.bl _=>true | .str _,.str _=>true | .byt _,.byt _=>true
 | .int _,.str _=>true | .str _,.int _=>true | .bl _,.str _=>true | .str _,.bl _=>true
 | _,_=>false
def rEq:R2:=fun x y H Q=>Dz x y=true/\Q (.bl (decide (x=y))) H
def rNe:R2:=fun x y H Q=>Dz x y=true/\Q (.bl (!decide (x=y))) H

theorem ur {i j:Int}:decide (V.int i=V.int j)=(i == j):=by
 rw [Bool.eq_iff_iff]
 simp
theorem xv {i j:Bool}:decide (V.bl i=V.bl j)=(i == j):=by
 rw [Bool.eq_iff_iff]
 simp
theorem uu {i j:Str}:decide (V.str i=V.str j)=(i == j):=by
 rw [Bool.eq_iff_iff]
 simp
theorem uq {i j:Array UInt8}:decide (V.byt i=V.byt j)=(i.toList == j.toList):=by
 rw [Bool.eq_iff_iff]
 cases i
 cases j
 simp

section
variable {X:Cx}{a b c:Expr}{ta tb tc:TE}{pos:Pos}
theorem aT {pins:List (Addr × Obj)}{σ:St}{H:Hp}{s:Shared}{Q:VK}{k k':Bool} (I:Inv X pins σ H s) (q:Q (.bl k) H) (e:k=k'):EP X pins σ Q (.bool k') s:=by
 subst e
 exact ⟨.bl k,H,I,rfl,q⟩
theorem y4:OpR X (compareOp .Eq) rEq:=by
 intro pins s σ H x y v u Q I rx ry h
 obtain ⟨hs,q⟩:=h
 cases x with
 | non =>
  cases rx
  cases y with
  | non=>cases ry;exact PySem.EqNone.eq_none_none (aT I q (by simp))
  | bl j=>cases ry;exact PySem.EqNone.eq_none_bool (aT I q (by simp))
  | int j=>obtain ⟨t',rfl⟩:=ry;exact PySem.EqNone.eq_none_int (aT I q (by simp))
  | str j=>obtain ⟨t',rfl⟩:=ry;exact PySem.EqNone.eq_none_str (aT I q (by simp))
  | _=>exact absurd (show false=true from hs) Bool.false_ne_true
 | bl i =>
  cases rx
  cases y with
  | non=>cases ry;exact PySem.EqNone.eq_bool_none (aT I q (by simp))
  | bl j=>cases ry;exact eq_bool (aT I q xv)
  | str j=>obtain ⟨t',rfl⟩:=ry;exact PySem.EqMixed.eq_bool_str (aT I q (by simp))
  | _=>exact absurd (show false=true from hs) Bool.false_ne_true
 | int i =>
  obtain ⟨t,rfl⟩:=rx
  cases y with
  | non=>cases ry;exact PySem.EqNone.eq_int_none (aT I q (by simp))
  | int j=>obtain ⟨t',rfl⟩:=ry;exact eq_int (aT I q ur)
  | str j=>obtain ⟨t',rfl⟩:=ry;exact PySem.EqMixed.eq_int_str (aT I q (by simp))
  | _=>exact absurd (show false=true from hs) Bool.false_ne_true
 | str i =>
  obtain ⟨t,rfl⟩:=rx
  cases y with
  | non=>cases ry;exact PySem.EqNone.eq_str_none (aT I q (by simp))
  | bl j=>cases ry;exact PySem.EqMixed.eq_str_bool (aT I q (by simp))
  | int j=>obtain ⟨t',rfl⟩:=ry;exact PySem.EqMixed.eq_str_int (aT I q (by simp))
  | str j=>obtain ⟨t',rfl⟩:=ry;exact eq_str (aT I q uu)
  | _=>exact absurd (show false=true from hs) Bool.false_ne_true
 | byt i =>
  obtain ⟨t,rfl⟩:=rx
  cases y with
  | byt j=>obtain ⟨t',rfl⟩:=ry;exact PySem.W.eq_bytes (aT I q uq)
  | _=>exact absurd (show false=true from hs) Bool.false_ne_true
 | _=>cases y <;> exact absurd (show false=true from hs) Bool.false_ne_true
theorem y9:OpR X (compareOp .NotEq) rNe:=by
 intro pins s σ H x y v u Q I rx ry h
 obtain ⟨hs,q⟩:=h
 cases x with
 | non =>
  cases rx
  cases y with
  | non=>cases ry;exact PySem.EqNone.ne_none_none (aT I q (by simp))
  | bl j=>cases ry;exact PySem.EqNone.ne_none_bool (aT I q (by simp))
  | int j=>obtain ⟨t',rfl⟩:=ry;exact PySem.EqNone.ne_none_int (aT I q (by simp))
  | str j=>obtain ⟨t',rfl⟩:=ry;exact PySem.EqNone.ne_none_str (aT I q (by simp))
  | _=>exact absurd (show false=true from hs) Bool.false_ne_true
 | bl i =>
  cases rx
  cases y with
  | non=>cases ry;exact PySem.EqNone.ne_bool_none (aT I q (by simp))
  | bl j=>cases ry;exact ne_bool (aT I q (congrArg not xv))
  | str j=>obtain ⟨t',rfl⟩:=ry;exact PySem.EqMixed.ne_bool_str (aT I q (by simp))
  | _=>exact absurd (show false=true from hs) Bool.false_ne_true
 | int i =>
  obtain ⟨t,rfl⟩:=rx
  cases y with
  | non=>cases ry;exact PySem.EqNone.ne_int_none (aT I q (by simp))
  | int j=>obtain ⟨t',rfl⟩:=ry;exact ne_int (aT I q (congrArg not ur))
  | str j=>obtain ⟨t',rfl⟩:=ry;exact PySem.EqMixed.ne_int_str (aT I q (by simp))
  | _=>exact absurd (show false=true from hs) Bool.false_ne_true
 | str i =>
  obtain ⟨t,rfl⟩:=rx
  cases y with
  | non=>cases ry;exact PySem.EqNone.ne_str_none (aT I q (by simp))
  | bl j=>cases ry;exact PySem.EqMixed.ne_str_bool (aT I q (by simp))
  | int j=>obtain ⟨t',rfl⟩:=ry;exact PySem.EqMixed.ne_str_int (aT I q (by simp))
  | str j=>obtain ⟨t',rfl⟩:=ry;exact ne_str (aT I q (congrArg not uu))
  | _=>exact absurd (show false=true from hs) Bool.false_ne_true
 | byt i =>
  obtain ⟨t,rfl⟩:=rx
  cases y with
  | byt j=>obtain ⟨t',rfl⟩:=ry;exact PySem.W.ne_bytes (aT I q (congrArg not uq))
  | _=>exact absurd (show false=true from hs) Bool.false_ne_true
 | _=>cases y <;> exact absurd (show false=true from hs) Bool.false_ne_true

theorem Dn:OpR X (compareOp .Lt) (rI0 fun i j=>.bl (decide (i < j))):=Co fun _ _ _ _ _ _ _ q=>lt_int q
theorem Dm:OpR X (compareOp .LtE) (rI0 fun i j=>.bl (decide (i<=j))):=Co fun _ _ _ _ _ _ _ q=>le_int q
theorem Dl:OpR X (compareOp .GtE) (rI0 fun i j=>.bl (decide (j<=i))):=Co fun _ _ _ _ _ _ _ q=>ge_int q
theorem vY:OpR X (compareOp .In) (fun x y H Q=>∃ i j,x=.str i/\y=.str j/\Q (.bl (!(Builtin.Str.occurrences j i 0 j.length 1).isEmpty)) H):=by
 intro pins s σ H x y v u Q I rx ry h
 obtain ⟨i,j,rfl,rfl,q⟩:=h
 obtain ⟨t,rfl⟩:=rx
 obtain ⟨t',rfl⟩:=ry
 exact in_str (aT I q rfl)

theorem Cv:OpR X (compareOp .Is) (fun x y H Q=>y=.non/\Q (.bl (decide (x=.non))) H):=by
 intro pins s σ H x y v u Q I rx ry h
 obtain ⟨rfl,q⟩:=h
 cases ry
 refine is_none_gen (aT I q ?_)
 cases x <;> first
  | (cases rx;rfl)
  | (obtain ⟨t,rfl⟩:=rx;rfl)
theorem Ap:OpR X (compareOp .IsNot) (fun x y H Q=>y=.non/\Q (.bl (!decide (x=.non))) H):=by
 intro pins s σ H x y v u Q I rx ry h
 obtain ⟨rfl,q⟩:=h
 cases ry
 refine isnot_none_gen (aT I q ?_)
 cases x <;> first
  | (cases rx;rfl)
  | (obtain ⟨t,rfl⟩:=rx;rfl)

theorem pG:OpR X (compareOp .NotIn) (fun x y H Q=>∃ i j,x=.str i/\y=.str j/\Q (.bl (!(!(Builtin.Str.occurrences j i 0 j.length 1).isEmpty))) H):=by
 intro pins s σ H x y v u Q I rx ry h
 obtain ⟨i,j,rfl,rfl,q⟩:=h
 obtain ⟨t,rfl⟩:=rx
 obtain ⟨t',rfl⟩:=ry
 exact notIn_str (aT I q rfl)
theorem OpR.or {f:Value->Value->Sem Value}{r r':R2} (h:OpR X f r) (h':OpR X f r'):OpR X f (fun x y H Q=>r x y H Q ∨ r' x y H Q):=by
 intro pins s σ H x y v u Q I rx ry q
 rcases q with q | q
 ·exact h pins s σ H x y v u Q I rx ry q
 ·exact h' pins s σ H x y v u Q I rx ry q

theorem aL (b:Expr) {op:CmpOp} (h:op≠.In:=by decide) (h2:op≠.NotIn:=by decide):behindInMarks op b=false:=by
 have e1:(op == CmpOp.In)=false:=by cases op <;> first | rfl | exact absurd rfl h
 have e2:(op == CmpOp.NotIn)=false:=by cases op <;> first | rfl | exact absurd rfl h2
 cases b <;> simp [behindInMarks,e1,e2]
theorem cj {op:CmpOp}{r:R2} (ho:OpR X (compareOp op) r) (ha:PE X a ta) (hb:PE X b tb) (hm:behindInMarks op b=false):PE X (.Compare a [op] [b] pos) (tOp r ta tb):=by
 intro pins s σ H Q I h
 exact wpAny_Compare1 (BM ha hb I h fun v u s2 x y H2 I2 rx ry q=>ho pins s2 σ H2 x y v u Q I2 rx ry q) hm
def zz (t:TE):TT:=fun σ H Q=>t σ H fun x H'=>∃ k,x=.bl k/\Q k H'
theorem aK {op:CmpOp}{r:R2} (ho:OpR X (compareOp op) r) (ha:PE X a ta) (hb:PE X b tb) (hm:behindInMarks op b=false):PT X (.Compare a [op] [b] pos) (zz (tOp r ta tb)):=by
 intro pins s σ H Q I h
 refine wpAny_isTrue_Compare1 (thn (ha pins s σ H _ I h) fun v s1 ⟨x,H1,I1,r1,q1⟩=>thn (hb pins s1 σ H1 _ I1 q1) fun u s2 ⟨y,H2,I2,r2,q2⟩ =>
  thn (ho pins s2 σ H2 x y v u _ I2 r1 r2 q2) fun c s3 ⟨z,H3,I3,r3,k,e,q3⟩=>?_) hm
 subst e
 cases r3
 exact wpAny_truthy_bool ⟨H3,I3,q3⟩
def tD (r r':R2) (ta tb tc:TE):TE:=fun σ H Q=>ta σ H fun x H1=>tb σ H1 fun y H2=>r x y H2 fun z H3=>∃ k,z=.bl k ∧
 (if k=true then tc σ H3 fun w' H4=>r' y w' H4 Q else Q (.bl false) H3)
theorem yD {op op':CmpOp}{r r':R2} (ho:OpR X (compareOp op) r) (ho':OpR X (compareOp op') r') (ha:PE X a ta) (hb:PE X b tb) (hc:PE X c tc)
  (hm:lastMarks [op,op'] [b,c]=false:=by with_unfolding_all rfl):PE X (.Compare a [op,op'] [b,c] pos) (tD r r' ta tb tc):=by
 intro pins s σ H Q I h
 refine Compare_chain (thn (ha pins s σ H _ I h) fun v s1 ⟨x,H1,I1,r1,q1⟩=>chain_link (thn (hb pins s1 σ H1 _ I1 q1) fun u s2 ⟨y,H2,I2,r2,q2⟩ =>
  thn (ho pins s2 σ H2 x y v u _ I2 r1 r2 q2) fun d s3 ⟨z,H3,I3,r3,k,e,q3⟩=>?_)) hm
 subst e
 cases r3
 refine wpAny_truthy_bool ?_
 cases k with
 | false=>exact ite_ff ⟨.bl false,H3,I3,rfl,q3⟩
 | true=>exact ite_tt (chain_last (thn (hc pins s3 σ H3 _ I3 q3) fun w' s4 ⟨z',H4,I4,r4,q4⟩=>ho' pins s4 σ H4 y z' u w' Q I4 r2 r4 q4))
theorem jF {op op':CmpOp}{r r':R2} (ho:OpR X (compareOp op) r) (ho':OpR X (compareOp op') r') (ha:PE X a ta) (hb:PE X b tb) (hc:PE X c tc)
  (hm:lastMarks [op,op'] [b,c]=false:=by with_unfolding_all rfl):PT X (.Compare a [op,op'] [b,c] pos) (zz (tD r r' ta tb tc)):=by
 intro pins s σ H Q I h
 refine isTrue_chain (thn (ha pins s σ H _ I h) fun v s1 ⟨x,H1,I1,r1,q1⟩=>test_link (thn (hb pins s1 σ H1 _ I1 q1) fun u s2 ⟨y,H2,I2,r2,q2⟩ =>
  thn (ho pins s2 σ H2 x y v u _ I2 r1 r2 q2) fun d s3 ⟨z,H3,I3,r3,k,e,q3⟩=>?_)) hm
 subst e
 cases r3
 refine wpAny_truthy_bool ?_
 cases k with
 | false =>
  obtain ⟨k',e',q'⟩:=q3
  cases e'
  exact ite_ff ⟨H3,I3,q'⟩
 | true =>
  refine ite_tt (test_last (thn (hc pins s3 σ H3 _ I3 q3) fun w' s4 ⟨z',H4,I4,r4,q4⟩=>thn (ho' pins s4 σ H4 y z' u w' _ I4 r2 r4 q4) fun d' s5 ⟨z2,H5,I5,r5,k2,e2,q5⟩=>?_))
  subst e2
  cases r5
  exact wpAny_truthy_bool ⟨H5,I5,q5⟩

theorem m7:(sizeLine:Nat) < 2 ^ 63:=by rw [sizeLine_eq];decide
theorem sO:OpR X (binaryOp .Add) (fun x y H Q=>∃ i j,x=.str i/\y=.str j/\i.length + j.length<=sizeLine/\Q (.str (i++j)) H):=by
 intro pins s σ H x y v u Q I rx ry h
 obtain ⟨i,j,rfl,rfl,hz,q⟩:=h
 obtain ⟨t,rfl⟩:=rx
 obtain ⟨t',rfl⟩:=ry
 exact add_str (fun t' tk=>⟨.str (i++j),H,I.tok _,⟨_,rfl⟩,q⟩) hz
theorem vals1 {x:V}{us:List Value} (r:Vals [x] us):∃ u,us=[u]/\RelV x u:=by
 cases r with
 | cons r1 r2=>cases r2;exact ⟨_,rfl,r1⟩
theorem vals2 {x y:V}{us:List Value} (r:Vals [x,y] us):∃ u w',us=[u,w']/\RelV x u/\RelV y w':=by
 cases r with
 | cons r1 r2 =>
  cases r2 with
  | cons r3 r4=>cases r4;exact ⟨_,_,rfl,r1,r3⟩
theorem xo:bw X (.builtin "abs") (fun xs H Q=>∃ i,xs=[.int i]/\Q (.int (if i < 0 then -i else i)) H):=by
 intro pins s σ H xs us Q I r h
 obtain ⟨i,rfl,q⟩:=h
 obtain ⟨u,rfl,t,rfl⟩:=vals1 r
 exact call_abs_int fun u tk=>⟨.int (if i < 0 then -i else i),H,I.tok _,⟨_,rfl⟩,q⟩
theorem vp (hc:X.calm=true):bw X (.builtin "max") (fun xs H Q=>∃ i j,xs=[.int i,.int j]/\Q (.int (if j > i then j else i)) H):=by
 intro pins s σ H xs us Q I r h
 obtain ⟨i,j,rfl,q⟩:=h
 obtain ⟨u,w',rfl,⟨t,rfl⟩,⟨t',rfl⟩⟩:=vals2 r
 refine max_two_ints (I.ok.hd hc) fun h' tk k=>⟨_,H,I.kept k,?_,q⟩
 by_cases hj:j > i
 ·rw [if_pos hj,if_pos hj];exact ⟨_,rfl⟩
 ·rw [if_neg hj,if_neg hj];exact ⟨_,rfl⟩
theorem vt (hc:X.calm=true):bw X (.builtin "min") (fun xs H Q=>∃ i j,xs=[.int i,.int j]/\Q (.int (if j < i then j else i)) H):=by
 intro pins s σ H xs us Q I r h
 obtain ⟨i,j,rfl,q⟩:=h
 obtain ⟨u,w',rfl,⟨t,rfl⟩,⟨t',rfl⟩⟩:=vals2 r
 refine min_two_ints (I.ok.hd hc) fun h' tk k=>⟨_,H,I.kept k,?_,q⟩
 by_cases hj:j < i
 ·rw [if_pos hj,if_pos hj];exact ⟨_,rfl⟩
 ·rw [if_neg hj,if_neg hj];exact ⟨_,rfl⟩
end
end L2

namespace L2
open PySem PySem.Spec PyProof.Rows

structure rW (h:Heap) (x dx C:Addr) (mA:Str->Option Value):Prop where
 obj:h.get? x=some (PySem.W.instObj C dx)
 ns:h.Ns1 dx mA
 ne:dx≠x

theorem vT {h:Heap}{dx:Addr}{mA:Str->Option Value} (n:h.Ns1 dx mA):∃ od,h.get? dx=some od/\∀ name,PySem.W.lookIn name od=some (mA name):=by
 obtain ⟨o,es,ep,ho,hd,hk,_,hm⟩:=n
 refine ⟨o,ho,fun name=>?_⟩
 have e:=hm name
 unfold nsFind findBy at e
 rw [← Array.find?_toList] at e
 unfold PySem.W.lookIn
 rw [hd]
 dsimp only
 split
 ·rename_i y q
  rw [q] at e
  exact congrArg some e
 ·rename_i q
  rw [q] at e
  have a:es.toList.any (·.refKey)=false:=by
   rw [List.any_eq_false]
   intro y hy
   obtain ⟨z,t,hkey⟩:=hk y (Array.mem_toList_iff.mp hy)
   simp [DictEntry.refKey,hkey]
  have a':¬ es.toList.any (·.refKey)=true:=by rw [a];exact Bool.false_ne_true
  rw [if_neg a']
  exact congrArg some e

theorem rW.look {h:Heap}{x dx C:Addr}{mA:Str->Option Value} (I:rW h x dx C mA):∃ od,PySem.W.InstAt h x (PySem.W.instObj C dx) C (some od)/\∀ name,PySem.W.lookIn name od=some (mA name) :=
 let ⟨od,ho,hl⟩:=vT I.ns
 ⟨od,⟨I.obj,rfl,rfl,ho⟩,hl⟩

section
variable {prog:Program}{w:World}{A:Around}{E:Value->Shared->Prop}{s:Shared}{K:PySem.W.Frag}{x dx C f:Addr}{mA:Str->Option Value}{name:Str}{v:Value}

theorem get_map {expr:Bool}{Q:Value->Shared->Prop} (X:K.In s.heap) (I:rW s.heap x dx C mA) (hg:PySem.W.plainGet K C name=true) (hh:PySem.W.hasDictIn K C=true)
  (ha:PySem.W.findIn K (.ref C) name=some none) (hv:mA name=some v) (hv':PySem.W.handedIn v=true) (h:Q v { s with toks:=s.toks + 1 }) :
  wpAny (model prog w) A (getAttr (.ref x) name expr) Q E s:=by
 obtain ⟨od,J,hl⟩:=I.look
 exact PySem.W.get_value X J (PySem.W.plainGet_of hg).1 (PySem.W.findObj_own hh ha rfl (by rw [hl,hv])) hv' h

theorem xV {pl:Sem Bool}{Q:Value × List Value->Shared->Prop} (X:K.In s.heap) (I:rW s.heap x dx C mA) (hg:PySem.W.plainGet K C name=true)
  (hf:PySem.W.findIn K (.ref C) name=some (some (.ref f))) (ht:PySem.W.isFn K (.ref f)=true) (hv:mA name=none) (h:Q (.ref f,[.ref x]) s) :
  wpAny (model prog w) A (getMethod (.ref x) name pl) Q E s:=by
 obtain ⟨od,J,hl⟩:=I.look
 exact PySem.W.method_fn X J (PySem.W.plainGet_of hg).1 (PySem.W.plainGet_of hg).2 hf (beq_iff_eq.mp ht) (by show (PySem.W.lookIn name od).map (·.isSome)=some false;rw [hl,hv];rfl) h

theorem AJ {ns:List Str}{Q:Unit->Shared->Prop} (X:K.In s.heap) (I:rW s.heap x dx C mA)
  (hs:PySem.W.findIn K (.ref C) "__setattr__"=some (some (.builtin "object.__setattr__"))) (hp:PySem.W.plainOver K C=true) (ht:PySem.W.takerIn K C name=some none) (hh:PySem.W.hasDictIn K C=true)
  (hw:PySem.Within mA ns) (hsz:ns.length<=sizeLine)
  (h:∀ h',rW h' x dx C (fun y=>if y=name then some v else mA y)->Heap.SameBut dx s.heap h'->Q () { s with heap:=h',toks:=s.toks + 2 }) :
  wpAny (model prog w) A (setAttr (.ref x) name v) Q E s:=by
 obtain ⟨od,J,hl⟩:=I.look
 refine PySem.W.set_plain X J hs (PySem.W.osa_open (s:={ s with toks:=s.toks + 1 }) (r:=none) X J hp ht fun b=>?_)
 obtain ⟨cd,hc,hd'⟩:=PySem.W.any_some hh
 have hx:s.heap.get? x=some ⟨.ref C,some dx,.plain,#[]⟩:=I.obj
 refine wpAny_bind (wpAny_pure (wpAny_bind (wpAny_bind (wpAny_loadPart hx (wpAny_bind (PySem.W.Looks.here (s:={ s with toks:=s.toks + 1 }) (PySem.W.looks_clsIn X hc) ?_))))))
 rw [hd']
 refine wpAny_pure (a:=some dx) (wpAny_bind (wpAny_pure (wpAny_bind ?_)))
 refine wpAny_nsSet1 (s:={ s with toks:=s.toks + 1 }) I.ns fun h' hn2 hs2=>?_
 obtain ⟨oD,esD,epD,hoD,hdD,hcD⟩:=hn2.count (PySem.Within.cons name v hw)
 refine wpAny_bind (wpAny_lookBehind hoD (by rw [hdD];exact pastItsLine_dict (Nat.le_trans hcD (by rw [List.length_cons];omega))) ?_)
 exact wpAny_pure (h _ ⟨(hs2.2 _ (Ne.symm I.ne)).trans I.obj,hn2,I.ne⟩ hs2)

theorem yo {R:Result->Shared->Prop}{vs:List Value}{kw:List (Str × Value)} (X:K.In s.heap) (hm:PySem.W.makesIn K C=true)
  (hi:PySem.W.findIn K (.ref C) "__init__"=some (some (.ref f))) (hf:PySem.W.typeIn K (.ref f)=some (.type "function"))
  (h:codeAny (model prog w) (A.under (.builtin "type.__call__" ⟨.ref C::vs,kw⟩)) (.call (.ref f) ⟨.ref (s.heap.objs.size + 1)::vs,kw⟩) (PySem.W.InitBack (s.heap.objs.size + 1) R)
   { s with heap:=(s.heap.push PySem.W.emptyDict).push (PySem.W.instObj C s.heap.objs.size) }) :
  codeAny (model prog w) A (.call (.ref C) ⟨vs,kw⟩) R s:=by
 obtain ⟨hh,g,d,t,os⟩:=s
 exact PySem.W.make_core (PySem.W.makes_of X hm) (PySem.W.looks_findIn X hi) (fun self=>PySem.W.bind_fn X self hf) (.inl rfl) h
end

def dj (f:Str) (v:V):List (Str × V)->List (Str × V)
 | []=>[(f,v)]
 | (g,x)::r=>if g=f then (g,v)::r else (g,x)::dj f v r
theorem kB (f g:Str) (v:V):∀ fs:List (Str × V),(dj f v fs).lookup g=if g=f then some v else fs.lookup g
 | []=>by
  show List.lookup g [(f,v)]=_
  by_cases h:g=f
  ·have hb:(g == f)=true:=beq_iff_eq.mpr h
   simp only [List.lookup,hb,if_pos h]
  ·have hb:(g == f)=false:=beq_eq_false_iff_ne.mpr h
   simp only [List.lookup,hb,if_neg h]
 | (k,x)::r=>by
  have ih:=kB f g v r
  rw [show dj f v ((k,x)::r)=(if k=f then (k,v)::r else (k,x)::dj f v r) from rfl]
  by_cases hk:k=f
  ·rw [if_pos hk]
   by_cases h:g=k
   ·have hb:(g == k)=true:=beq_iff_eq.mpr h
    simp only [List.lookup,hb,if_pos (h.trans hk)]
   ·have hb:(g == k)=false:=beq_eq_false_iff_ne.mpr h
    simp only [List.lookup,hb,if_neg (fun e:g=f=>h (e.trans hk.symm))]
  ·rw [if_neg hk]
   by_cases h:g=k
   ·have hb:(g == k)=true:=beq_iff_eq.mpr h
    simp only [List.lookup,hb,if_neg (fun e:g=f=>hk (h.symm.trans e))]
   ·have hb:(g == k)=false:=beq_eq_false_iff_ne.mpr h
    simp only [List.lookup,hb]
    exact ih
theorem jV (f:Str) (v:V):∀ fs:List (Str × V),f∈(dj f v fs).map (·.1)/\∀ g,g∈fs.map (·.1)->g∈(dj f v fs).map (·.1)
 | []=>⟨by simp [dj],fun g h=>by simp at h⟩
 | (k,x)::r=>by
  obtain ⟨i1,i2⟩:=jV f v r
  rw [show dj f v ((k,x)::r)=(if k=f then (k,v)::r else (k,x)::dj f v r) from rfl]
  by_cases hk:k=f
  ·rw [if_pos hk]
   subst hk
   exact ⟨by simp,fun g h=>by simpa using h⟩
  ·rw [if_neg hk]
   refine ⟨?_,fun g h=>?_⟩
   ·rw [List.map_cons]
    exact List.mem_cons_of_mem _ i1
   ·rw [List.map_cons] at h ⊢
    rcases List.mem_cons.mp h with e | e
    ·exact List.mem_cons.mpr (.inl e)
    ·exact List.mem_cons_of_mem _ (i2 g e)
theorem kA (f:Str) (v:V):∀ fs:List (Str × V),(dj f v fs).length<=fs.length + 1
 | []=>by simp [dj]
 | (k,x)::r=>by
  have ih:=kA f v r
  rw [show dj f v ((k,x)::r)=(if k=f then (k,v)::r else (k,x)::dj f v r) from rfl]
  by_cases hk:k=f
  ·rw [if_pos hk,List.length_cons,List.length_cons];omega
  ·rw [if_neg hk,List.length_cons,List.length_cons];omega

theorem gd.some_of {v:V}{o:Option Value} (r:gd (some v) o):∃ u,o=some u/\RelV v u:=by
 cases o with
 | none=>exact (show False from r).elim
 | some u=>exact ⟨u,rfl,r⟩
theorem gd.none_of {o:Option Value} (r:gd none o):o=none:=by
 cases o with
 | none=>rfl
 | some u=>exact (show False from r).elim
theorem vJ {v:V}{u:Value} (r:RelV v u):PySem.W.handedIn u=true:=by
 cases v with
 | non=>cases (show u=Value.none from r);rfl
 | bl b=>cases (show u=Value.bool b from r);rfl
 | int i=>obtain ⟨t,e⟩:=(show ∃ t,u=Value.int i t from r);cases e;rfl
 | str x=>obtain ⟨t,e⟩:=(show ∃ t,u=Value.str x t from r);cases e;rfl
 | byt b=>obtain ⟨t,e⟩:=(show ∃ t,u=Value.bytes b t from r);cases e;rfl
 | flt b=>obtain ⟨t,e⟩:=(show ∃ t,u=Value.float b t from r);cases e;rfl
 | ref a=>cases (show u=Value.ref a from r);rfl
 | ty n=>cases (show u=Value.type n from r);rfl

section
variable {P:Program}{w:World}{H H':Hp}{h h':Heap}{a C dx:Addr}{fs fs':List (Str × V)}
theorem lb (hok:HOk P w H h) (e:H a=some (.ins C dx fs)):∃ mA,rW h a dx C mA/\(∀ f,gd (fs.lookup f) (mA f))/\PySem.Within mA (fs.map (·.1))/\fs.length<=1000/\H dx=some (.own a):=by
 obtain ⟨d,z,ne,ob,mA,n,r,q⟩:=(show aS P w H h a (.ins C dx fs) from hok a _ e)
 exact ⟨mA,⟨ob,n,ne⟩,r,q,z,d⟩
end

structure Cls (K:PySem.W.Frag) (C:Addr):Prop where
 pg:PySem.W.plainGet K C Str.empty=true
 hd:PySem.W.hasDictIn K C=true
 po:PySem.W.plainOver K C=true
 sa:PySem.W.findIn K (.ref C) "__setattr__"=some (some (.builtin "object.__setattr__"))
theorem Cls.get {K:PySem.W.Frag}{C:Addr} (c:Cls K C) (f:Str):PySem.W.plainGet K C f=true:=c.pg
def cR (K:PySem.W.Frag) (C:Addr) (f:Str):Prop:=PySem.W.findIn K (.ref C) f=some none
theorem cR.DD {K:PySem.W.Frag}{C:Addr}{f:Str} (n:cR K C f):PySem.W.takerIn K C f=some none:=by
 unfold PySem.W.takerIn
 rw [show PySem.W.findIn K (.ref C) f=some none from n]
 rfl
structure Meth (K:PySem.W.Frag) (C:Addr) (m:Str) (f:Addr):Prop where
 at_:PySem.W.findIn K (.ref C) m=some (some (.ref f))
 fn:PySem.W.isFn K (.ref f)=true
 kp:PySem.W.keepIn K (.ref f)=true

section
variable {X:Cx}{pins:List (Addr × Obj)}{σ:St}{H:Hp}{s:Shared}{a C dx:Addr}{fs:List (Str × V)}{f:Str}{v:V}{A:Around}{E:Value->Shared->Prop}

theorem sq {b:Bool}{Q:Value->Shared->Prop} (I:Inv X pins σ H s) (e:H a=some (.ins C dx fs)) (c:Cls X.K C) (n:cR X.K C f) (l:fs.lookup f=some v)
  (h:∀ u s',Inv X pins σ H s'->RelV v u->Q u s'):wpAny (model X.prog X.w) A (getAttr (.ref a) f b) Q E s:=by
 obtain ⟨mA,O,r,_,_,_⟩:=lb I.hok e
 obtain ⟨u,hu,ru⟩:=gd.some_of (v:=v) (o:=mA f) (by rw [← l];exact r f)
 exact get_map I.kIn O (c.get f) c.hd n hu (vJ ru) (h u _ (I.tok _) ru)

theorem gJ {m:Str}{g:Addr}{pl:Sem Bool}{Q:Value × List Value->Shared->Prop} (I:Inv X pins σ H s) (e:H a=some (.ins C dx fs)) (c:Cls X.K C) (k:Meth X.K C m g) (l:fs.lookup m=none)
  (h:Q (.ref g,[.ref a]) s):wpAny (model X.prog X.w) A (getMethod (.ref a) m pl) Q E s:=by
 obtain ⟨mA,O,r,_,_,_⟩:=lb I.hok e
 have hn:mA m=none:=gd.none_of (by rw [← l];exact r m)
 exact xV I.kIn O (c.get m) k.at_ k.fn hn h

theorem ti {y:V}{u:Value}{Q:Unit->Shared->Prop} (I:Inv X pins σ H s) (e:H a=some (.ins C dx fs)) (c:Cls X.K C) (n:cR X.K C f) (hl:fs.length < 1000) (ry:RelV y u)
  (h:∀ s',Inv X pins σ (upd H a (.ins C dx (dj f y fs))) s'->Q () s'):wpAny (model X.prog X.w) A (setAttr (.ref a) f u) Q E s:=by
 obtain ⟨mA,O,r,wi,_,ho⟩:=lb I.hok e
 have hz:(fs.map (·.1)).length<=sizeLine:=by rw [List.length_map,sizeLine_eq];omega
 refine AJ I.kIn O c.sa c.po n.DD c.hd wi hz fun h' O' sb=>h _ ?_
 have hd:∃ o,h'.get? dx=some o:=let ⟨o,_,_,e',_⟩:=O'.ns;⟨o,e'⟩
 refine I.write (x:=a) (e:=dx) (by rw [e];exact True.intro) (.inr ho) (fun b q hb z=>(sb.2 b hb).trans z) hd ?_
 refine ⟨by rw [aj O.ne];exact ho,?_,O.ne,O'.obj,_,O'.ns,fun g=>?_,fun g hg=>?_⟩
 ·have:=kA f y fs;omega
 ·show gd ((dj f y fs).lookup g) (if g=f then some u else mA g)
  rw [kB]
  by_cases q:g=f
  ·rw [if_pos q,if_pos q];exact ry
  ·rw [if_neg q,if_neg q];exact r g
 ·by_cases q:g=f
  ·rw [q];exact (jV f y fs).1
  ·refine (jV f y fs).2 g (wi g fun z=>hg ?_)
   show (if g=f then some u else mA g)=none
   rw [if_neg q];exact z

theorem Inv.made (I:Inv X pins σ H s):Inv X pins σ (upd (upd H s.heap.objs.size (.own (s.heap.objs.size + 1))) (s.heap.objs.size + 1) (.ins C s.heap.objs.size []))
  { s with heap:=(s.heap.push PySem.W.emptyDict).push (PySem.W.instObj C s.heap.objs.size) }:=by
 have e1:(s.heap.push PySem.W.emptyDict).get? s.heap.objs.size=some PySem.W.emptyDict:=Heap.get?_push_size s.heap rfl
 have e2:((s.heap.push PySem.W.emptyDict).push (PySem.W.instObj C s.heap.objs.size)).get? (s.heap.objs.size + 1)=some (PySem.W.instObj C s.heap.objs.size):=by
  have:=Heap.get?_push_size (s.heap.push PySem.W.emptyDict) (o:=PySem.W.instObj C s.heap.objs.size) rfl
  rwa [Heap.size_push] at this
 have e3:(s.heap.push PySem.W.emptyDict).Ns s.heap.objs.size (fun _=>none):=⟨PySem.W.emptyDict,#[],_,e1,rfl,(fun e he=>absurd he (by simp)),fun _=>rfl⟩
 have I1:=I.laid (a:=s.heap.objs.size) (o:=.own (s.heap.objs.size + 1)) (h':=s.heap.push PySem.W.emptyDict) (t':=s.toks) (fun b u q=>Heap.get?_push_of_some _ q) (Nat.le_refl _) ⟨_,e1⟩
 refine I1.laid (a:=s.heap.objs.size + 1) (o:=.ins C s.heap.objs.size []) (t':=s.toks) (fun b u q=>Heap.get?_push_of_some _ q) (Nat.le_of_eq (Heap.size_push _ _)) ?_
 have ne:s.heap.objs.size≠s.heap.objs.size + 1:=Nat.ne_of_lt (Nat.lt_succ_self _)
 refine ⟨by rw [aj ne,aq],Nat.zero_le _,ne,e2,fun _=>none,(Heap.Ns1.of_empty e3).at fun o q=>Heap.get?_push_of_some _ q,fun _=>True.intro,fun y hy=>absurd rfl hy⟩

theorem zO {prog:Program}{w:World}{env:Env}{e:Expr}{f:Str}{pos:Pos}{s:Shared}{Q:Value->Shared->Prop} (hb:attributeBase e f env (eval e env)=eval e env)
  (h:wpAny (model prog w) A (eval e env) (fun o s₁=>wpAny (model prog w) A (getAttr o f true) Q E s₁) E s):wpAny (model prog w) A (eval (.Attribute e f pos) env) Q E s :=
 Attribute_any_ h (by rw [arm_eval_Attribute,hb])
end

def Et (K:PySem.W.Frag) (ta:TE) (f:Str):TE:=fun σ H Q=>ta σ H fun x H1=>∃ a C dx fs v,x=.ref a/\H1 a=some (.ins C dx fs)/\Cls K C/\cR K C f/\fs.lookup f=some v/\Q v H1
def Er (K:PySem.W.Frag) (ta tv:TE) (f:Str):TS:=fun D σ H=>tv σ H fun y H1=>ta σ H1 fun x H2=>∃ a C dx fs,x=.ref a/\H2 a=some (.ins C dx fs)/\Cls K C/\cR K C f/\fs.length < 1000 ∧
 D.nx σ (upd H2 a (.ins C dx (dj f y fs)))
section
variable {X:Cx}{o e value:Expr}{f:Str}{pos pos' tpos:Pos}{ta tv:TE}
theorem C8 (he:PE X e ta) (hb:attributeBase e f X.env (eval e X.env)=eval e X.env):PE X (.Attribute e f pos) (Et X.K ta f):=by
 intro pins s σ H Q I h
 refine zO hb (thn (he pins s σ H _ I h) fun u s1 ⟨x,H1,I1,rx,a,C,dx,fs,v,ex,ea,c,n,l,q⟩=>?_)
 subst ex
 obtain rfl:u=Value.ref a:=rx
 exact sq I1 ea c n l fun u' s2 I2 ru=>⟨v,H1,I2,ru,q⟩
theorem CF (ha:PE X o ta) (hv:PE X value tv) (hs:swapsWith value (some (.Attribute o f pos')) pos.line X.env=pure false):PS X (.Assign [.Attribute o f pos'] value pos) (Er X.K ta tv f):=by
 intro pins s σ H D I h
 refine plainObj_wpAny_Assign_Attribute (thn (hv pins s σ H _ I h) fun u s1 ⟨y,H1,I1,ry,q⟩=>thn (ha pins s1 σ H1 _ I1 q) fun ov s2 ⟨x,H2,I2,rx,a,C,dx,fs,ex,ea,c,n,l,q2⟩=>?_) hs
 subst ex
 obtain rfl:ov=Value.ref a:=rx
 exact ti I2 ea c n l ry fun s3 I3=>⟨σ,_,I3,q2⟩
end

section
variable {X:Cx}{pins:List (Addr × Obj)}{σ:St}{H:Hp}{s:Shared}{A:Around}{E:Value->Shared->Prop}{Q:Value->Shared->Prop}{c:Value}{b:Bool}
inductive iW (K:PySem.W.Frag) (H:Hp):V->Value->Prop where
 | non:iW K H .non (.type "NoneType")
 | bl (x:Bool):iW K H (.bl x) (.type "bool")
 | int (i:Int):iW K H (.int i) (.type "int")
 | str (x:Str):iW K H (.str x) (.type "str")
 | flt (x:UInt64):iW K H (.flt x) (.type "float")
 | lst {a:Addr}{xs:List V} (e:H a=some (.lst xs)):iW K H (.ref a) (.type "list")
 | frz {a:Addr}{o:Obj}{xs:List V} (e:H a=some (.frz o (.lst xs))):iW K H (.ref a) (.type "list")
 | tup {a:Addr}{xs:List V} (e:H a=some (.tup xs)):iW K H (.ref a) (.type "tuple")
 | dK {a:Addr}{kvs:List (Key × V)} (e:H a=some (.dK kvs)):iW K H (.ref a) (.type "dict")
 | dT {a:Addr}{kvs:List (List Key × V)} (e:H a=some (.dT kvs)):iW K H (.ref a) (.type "dict")
 | ins {a C dx:Addr}{fs:List (Str × V)} (e:H a=some (.ins C dx fs)) (cl:Cls K C) (ha:PySem.W.findIn K (.ref C) "__class__"=some (some (.builtin "object.__class__")))
   (hn:PySem.W.specialIn K (.builtin "object.__class__") "__get__"=some (some (.builtin "getset_descriptor.__get__"))) (htk:PySem.W.takesIn K (.builtin "object.__class__")=some true)
   (hm:PySem.W.mroIn K C (.type "object")=some true):iW K H (.ref a) (.ref C)
theorem isinst_ok {x:V}{u t:Value} (I:Inv X pins σ H s) (rx:RelV x u) (ty:iW X.K H x t) (e:PySem.W.kitOne X.K t c=some b) (h:∀ tk,Q (.bool b) { s with toks:=tk }) :
  wpAny (model X.prog X.w) A (call (.builtin "isinstance") [u,c]) Q E s:=by
 cases ty with
 | non=>cases (show u=Value.none from rx);exact PySem.W.kia_one PySem.W.kitx_none I.kIn True.intro e (fun z=>nomatch z) h
 | bl y=>cases (show u=Value.bool y from rx);exact PySem.W.kia_one PySem.W.kitx_bool I.kIn True.intro e (fun z=>nomatch z) h
 | int i=>obtain ⟨t,q⟩:=(show ∃ t,u=Value.int i t from rx);cases q;exact PySem.W.kia_one PySem.W.kitx_int I.kIn True.intro e (fun z=>nomatch z) h
 | str y=>obtain ⟨t,q⟩:=(show ∃ t,u=Value.str y t from rx);cases q;exact PySem.W.kia_one PySem.W.kitx_str I.kIn True.intro e (fun z=>nomatch z) h
 | flt y=>obtain ⟨t,q⟩:=(show ∃ t,u=Value.float y t from rx);cases q;exact PySem.W.kia_one PySem.W.kitx_float I.kIn True.intro e (fun z=>nomatch z) h
 | @lst a xs ea =>
  cases (show u=Value.ref a from rx)
  obtain ⟨_,_,n,_,h1⟩:=(show aS X.prog X.w H s.heap a (.lst xs) from I.hok a _ ea)
  exact PySem.W.kia_one PySem.W.kitx_list I.kIn ⟨_,h1,rfl⟩ e (fun z=>nomatch z) h
 | @frz a ob xs ea =>
  cases (show u=Value.ref a from rx)
  obtain ⟨_,_,_,n,_,h1⟩:=(show aS X.prog X.w H s.heap a (.frz ob (.lst xs)) from I.hok a _ ea)
  exact PySem.W.kia_one PySem.W.kitx_list I.kIn ⟨_,h1,rfl⟩ e (fun z=>nomatch z) h
 | @tup a xs ea =>
  cases (show u=Value.ref a from rx)
  obtain ⟨_,_,_,p⟩:=(show aS X.prog X.w H s.heap a (.tup xs) from I.hok a _ ea)
  obtain ⟨o,h1,h2,_⟩:=p
  exact PySem.W.kia_one PySem.W.kitx_tuple I.kIn ⟨o,h1,h2⟩ e (fun z=>nomatch z) h
 | @dK a kvs ea =>
  cases (show u=Value.ref a from rx)
  obtain ⟨_,_,vs,_,p⟩:=(show aS X.prog X.w H s.heap a (.dK kvs) from I.hok a _ ea)
  obtain ⟨o,es,ep,h1,h2,_⟩:=p
  exact PySem.W.kia_one PySem.W.kitx_dict I.kIn ⟨o,h1,h2.1⟩ e (fun z=>nomatch z) h
 | @dT a kvs ea =>
  cases (show u=Value.ref a from rx)
  obtain ⟨_,_,xs,_,o,es,ep,h1,h2,_⟩:=(show aS X.prog X.w H s.heap a (.dT kvs) from I.hok a _ ea)
  exact PySem.W.kia_one PySem.W.kitx_dict I.kIn ⟨o,h1,h2.1⟩ e (fun z=>nomatch z) h
 | @ins a C dx fs ea cl ha hn htk hm =>
  cases (show u=Value.ref a from rx)
  obtain ⟨mA,O,_⟩:=lb I.hok ea
  obtain ⟨od,J,_⟩:=O.look
  exact PySem.W.kia_one (PySem.W.kitx_own (cl.get _) cl.hd ha hn htk hm) I.kIn J e (fun z=>nomatch z) h
end
end L2

namespace L2
open PySem PySem.Spec PyProof.Rows

structure bA (k:Nat) (A:Around):Prop where
 hd:A.handled=none
 dp:A.depth + 3 * k + 5 < recursionLimit
 un:A.units + 16 * k + 200 < cLine
theorem bA.mono {j k:Nat}{A:Around} (r:bA k A) (h:j<=k):bA j A:=⟨r.hd,by have:=r.dp;omega,by have:=r.un;omega⟩
theorem bA.deeper {k:Nat}{A:Around} (r:bA (k + 1) A) (env:Env):bA k (A.deeper env) :=
 ⟨r.hd,by have:=r.dp;show A.depth + 1 + 3 * k + 5 < _;omega,by have:=r.un;show A.units + 3 + 16 * k + 200 < _;omega⟩
theorem bA.in1 {k:Nat}{A:Around} (r:bA (k + 1) A):bA k A.in1 :=
 ⟨r.hd,by have:=r.dp;show A.depth + 3 * k + 5 < _;omega,by have:=r.un;show A.units + 1 + 16 * k + 200 < _;omega⟩
theorem sD {A:Around}{C:Addr}{us:List Value}{kw:List (Str × Value)}:(A.under (.builtin "type.__call__" ⟨.ref C::us,kw⟩)).depth=A.depth + 1:=by
 first | rfl | simp [Around.under,Code.weight,Code.isCreation,Code.isGuard,Code.isCaller,Code.frames,Code.isFrame,guardIds]
theorem sE {A:Around}{C:Addr}{us:List Value}{kw:List (Str × Value)}:(A.under (.builtin "type.__call__" ⟨.ref C::us,kw⟩)).units=A.units + 1:=by
 first | rfl | simp [Around.under,Code.cUnits,Code.frames,Code.isFrame]
theorem bA.make {k:Nat}{A:Around} (r:bA (k + 1) A) (C:Addr) (us:List Value) (kw:List (Str × Value)):bA k (A.under (.builtin "type.__call__" ⟨.ref C::us,kw⟩)) :=
 ⟨r.hd,by have:=r.dp;rw [sD];omega,by have:=r.un;rw [sE];omega⟩
theorem bA.depth {k:Nat}{A:Around} (r:bA k A):A.depth < recursionLimit:=by have:=r.dp;omega
theorem bA.units {k:Nat}{A:Around} (r:bA k A):A.units + 64 < cLine:=by have:=r.un;omega
theorem bA.aO {k:Nat}{A:Around} (r:bA k A):A.units < cLine:=by have:=r.un;omega

def AO:TA:=fun _ H Q=>Q [] H
def zt (ta:TE) (tr:TA):TA:=fun σ H Q=>ta σ H fun x H1=>tr σ H1 fun xs H2=>Q (x::xs) H2
section
variable {X:Cx}{e:Expr}{es:List Expr}{te:TE}{t:TA}{pos:Pos}
theorem ae:PA X [] AO:=fun _ _ _ _ H Q I h=>Calls.spliced_nil ⟨[],H,I,.nil,h⟩
theorem As (ha:PE X e te) (hr:PA X es t) (hs:starEach (e::es) X.env=(false,eval e X.env)::starEach es X.env:=by rfl):PA X (e::es) (zt te t):=by
 intro pos pins s σ H Q I h
 rw [hs]
 show wpAny _ _ (spliced ((false,eval e X.env)::backTo pos (starEach es X.env))) _ _ s
 refine Calls.spliced_cons (thn (ha pins s σ H _ I h) fun u s1 ⟨x,H1,I1,r1,q1⟩=>?_)
 exact thn (hr pos pins s1 σ H1 _ I1 q1) fun us s2 ⟨xs,H2,I2,r2,q2⟩=>⟨x::xs,H2,I2,.cons r1 r2,q2⟩

end

abbrev Sp:=List V->Hp->VK->XK->Prop
abbrev CXT:=List Env->Hp->Shared->XK->Value->Shared->Prop

structure jO (P:Program) (w:World) (K:PySem.W.Frag) (mg:Str->Option Value) (base:Heap) (A:Around) (outer:List Env) (s:Shared) (H:Hp):Prop where
 frames:A.frames=some outer
 mod:Mod K mg base
 bs:∀ b o,base.get? b=some o->s.heap.get? b=some o/\H b=none
 bsz:base.objs.size<=s.heap.objs.size
 ik:s.heap.FunFrames base outer
 frf:∀ b∈frs outer,H b=none
 hok:HOk P w H s.heap
 bare:AllBare s.gens
def CE (outer:List Env) (P:Program) (w:World) (H:Hp) (s:Shared) (Q:VK) (u:Value) (s':Shared):Prop :=
 ∃ v H',s'.os=s.os/\AllBare s'.gens/\Un (frs outer) [] H H' s.heap s'.heap/\HOk P w H' s'.heap/\RelV v u/\Q v H'
def CR (CX:CXT) (outer:List Env) (P:Program) (w:World) (H:Hp) (s:Shared) (Q:VK) (E:XK) (r:Result) (s':Shared):Prop :=
 match r with
 | .ok (.ret u)=>CE outer P w H s Q u s'
 | .ok _=>False
 | .error e=>CX outer H s E e s'
structure aX (P:Program) (w:World) (K:PySem.W.Frag) (mg:Str->Option Value) (base:Heap) (CX:CXT) (k:Nat) (f:Addr) (fd:FuncData) (ps:List Str) (sp:Sp):Prop where
 len:∀ vs H Q E,sp vs H Q E->vs.length=ps.length
 run:∀ (A:Around) (outer:List Env) (s:Shared) (H:Hp) (args:Args) (us:List Value) (vs:List V) (Q:VK) (E:XK),bA k A->jO P w K mg base A outer s H->BindsTo s fd args (ps.zip us)->Vals vs us->sp vs H Q E →
  codeAny (model P w) A (.call (.ref f) args) (CR CX outer P w H s Q E) s
theorem aX.mono {P:Program}{w:World}{K:PySem.W.Frag}{mg:Str->Option Value}{base:Heap}{CX:CXT}{j k:Nat}{f:Addr}{fd:FuncData}{ps:List Str}{sp:Sp} (F:aX P w K mg base CX j f fd ps sp) (h:j<=k) :
  aX P w K mg base CX k f fd ps sp:=⟨F.len,fun A outer s H args us vs Q E hr=>F.run A outer s H args us vs Q E (hr.mono h)⟩
theorem aX.imp {P:Program}{w:World}{K:PySem.W.Frag}{mg:Str->Option Value}{base:Heap}{CX:CXT}{k:Nat}{f:Addr}{fd:FuncData}{ps:List Str}{sp sp':Sp} (F:aX P w K mg base CX k f fd ps sp)
  (h:∀ vs H Q E,sp' vs H Q E->sp vs H Q E):aX P w K mg base CX k f fd ps sp' :=
 ⟨fun vs H Q E q=>F.len vs H Q E (h _ _ _ _ q),fun A outer s H args us vs Q E hr he hb hv hs=>F.run A outer s H args us vs Q E hr he hb hv (h _ _ _ _ hs)⟩

theorem jO.make {P:Program}{w:World}{K:PySem.W.Frag}{mg:Str->Option Value}{base:Heap}{A:Around}{outer:List Env}{s:Shared}{H:Hp} (e:jO P w K mg base A outer s H) (C:Addr) (us:List Value) (kw:List (Str × Value)) :
  jO P w K mg base (A.under (.builtin "type.__call__" ⟨.ref C::us,kw⟩)) outer s H:=⟨by first | exact e.frames | (simpa [Around.under,Code.envs,Code.isFrame,pushEnvs] using e.frames),e.mod,e.bs,e.bsz,e.ik,e.frf,e.hok,e.bare⟩
theorem jO.in1 {P:Program}{w:World}{K:PySem.W.Frag}{mg:Str->Option Value}{base:Heap}{A:Around}{outer:List Env}{s:Shared}{H:Hp} (e:jO P w K mg base A outer s H) :
  jO P w K mg base A.in1 outer s H:=⟨e.frames,e.mod,e.bs,e.bsz,e.ik,e.frf,e.hok,e.bare⟩

section
variable {X:Cx}{pins:List (Addr × Obj)}{σ:St}{H:Hp}{s s':Shared}
theorem Inv.xD (I:Inv X pins σ H s):jO X.prog X.w X.K X.mg X.base X.A X.stack s H :=
 ⟨I.ok.frames,I.ok.mod,I.bs,Nat.le_trans I.ok.bsz I.sz,I.stack,I.lu,I.hok,I.bare⟩
theorem Inv.after {Q:VK}{u:Value} (I:Inv X pins σ H s) (h:CE X.stack X.prog X.w H s Q u s'):EP X pins σ Q u s':=by
 obtain ⟨v,H',os,bare,un,hok,r,q⟩:=h
 obtain ⟨hh,g,d,t,os'⟩:=s'
 obtain rfl:os'=s.os:=os
 exact ⟨v,H',I.call (h':=hh) (g':=g) (d':=d) (t':=t) (ch:=[]) un hok bare (fun b z=>absurd z (by simp)),r,q⟩
end

def uV (sp:Sp) (dvs:List V) (E:St->XK) (t:TA):TE:=fun σ H Q=>t σ H fun vs H1=>sp (vs++dvs) H1 Q (E σ)
def BC (C:Addr) (m:Str) (sp:Sp) (dvs:List V) (E:St->XK) (ta:TE) (t:TA):TE:=fun σ H Q=>ta σ H fun x H1=>∃ a dx fs,x=.ref a/\H1 a=some (.ins C dx fs)/\fs.lookup m=none ∧
 t σ H1 fun vs H2=>sp (x::(vs++dvs)) H2 Q (E σ)
def D7 (C:Addr) (sp:Sp) (dvs:List V) (E:St->XK) (t:TA):TE:=fun σ H Q=>t σ H fun vs H1=>∀ x dx,H1 x=none->H1 dx=none->dx≠x →
 sp (.ref x::(vs++dvs)) (upd (upd H1 dx (.own x)) x (.ins C dx [])) (fun v H2=>v=.non/\Q (.ref x) H2) (E σ)

def Binds (K:PySem.W.Frag) (fd:FuncData) (ps:List Str) (ds:List Value):Prop :=
 ∀ (s:Shared) (us:List Value),K.In s.heap->(us++ds).length=ps.length->BindsTo s fd ⟨us,[]⟩ (ps.zip (us++ds))
theorem Binds.all {K:PySem.W.Frag}{fd:FuncData}{ps:List Str} (h:∀ us:List Value,us.length=ps.length->bindArgs fd ⟨us,[]⟩=pure (ps.zip us)):Binds K fd ps []:=fun s us _ hl=>by
 rw [List.append_nil] at hl ⊢
 exact .of_eq (h us hl)

def Passes (CX:CXT) (X:Cx) (E:St->XK):Prop:=∀ (pins:List (Addr × Obj)) (σ:St) (H:Hp) (s:Shared) (e:Value) (s':Shared),Inv X pins σ H s->CX X.stack H s (E σ) e s'->X.xe e s'

section
variable {X:Cx}{CX:CXT}{k:Nat}{f C:Addr}{fd:FuncData}{ps:List Str}{sp:Sp}{dvs:List V}{ds:List Value}{E:St->XK}{x m:Str}{p pos apos:Pos}{e o:Expr}{es:List Expr}{ta:TE}{t:TA}

theorem sY {pins:List (Addr × Obj)}{σ:St}{H:Hp}{s:Shared}{Q:VK}{us:List Value}{vs:List V} (F:aX X.prog X.w X.K X.mg X.base CX k f fd ps sp) (hr:bA k X.A) (hb:Binds X.K fd ps ds) (hd:Vals dvs ds) (hx:Passes CX X E)
  (I:Inv X pins σ H s) (r:Vals vs us) (h:sp (vs++dvs) H Q (E σ)):wpAny (model X.prog X.w) X.A (call (.ref f) us) (EP X pins σ Q) X.xe s:=by
 have r2:Vals (vs++dvs) (us++ds):=r.append hd
 have hl:(us++ds).length=ps.length:=by rw [← r2.length];exact F.len _ _ _ _ h
 refine wpAny_call (codeAny_mono (F.run X.A X.stack s H ⟨us,[]⟩ (us++ds) (vs++dvs) Q (E σ) hr I.xD (hb s us I.kIn hl) r2 h) fun r s' hq=>?_)
 cases r with
 | error e=>exact hx pins σ H s e s' I hq
 | ok fl =>
  cases fl with
  | ret u=>exact I.after hq
  | next=>exact False.elim hq
  | brk=>exact False.elim hq
  | cont=>exact False.elim hq

theorem Aw (F:aX X.prog X.w X.K X.mg X.base CX k f fd ps sp) (hr:bA k X.A) (hg:Gl X x) (hm:X.mg x=some (.ref f)) (hk:PySem.W.keepIn X.K (.ref f)=true) (hb:Binds X.K fd ps ds) (hd:Vals dvs ds) (hx:Passes CX X E)
  (ha:PA X (e::es) t) (hdb:(x == ("__debug__":Str))=false:=by decide) (he:starEach (e::es) X.env=(false,eval e X.env)::starEach es X.env:=by rfl) (hpl:(backTo pos (starEach es X.env)).any (·.1)=false:=by rfl) :
  PE X (.Call (.Name x p) (e::es) [] pos) (uV sp dvs E t):=by
 intro pins s σ H Q I h
 refine wpAny_Call_Name_kw (ju I hg hm ?_ hdb)
 refine PySem.W.callWith_K (h₀:=X.base) I.ok.mod.kin hk (thn (ha pos pins s σ H _ I h) fun us s1 ⟨vs,H1,I1,r,q⟩=>⟨I1.kIn,?_⟩) he hpl
 exact sY F hr hb hd hx I1 r q
theorem uI {pl:Sem Bool} (he:PE X o ta) (c:Cls X.K C) (hm:Meth X.K C m f) (F:aX X.prog X.w X.K X.mg X.base CX k f fd ps sp) (hr:bA k X.A) (hb:Binds X.K fd ps ds) (hd:Vals dvs ds) (hx:Passes CX X E) (ha:PA X (e::es) t)
  (hst:starEach (e::es) X.env=(false,eval e X.env)::starEach es X.env:=by rfl) (hpl:(backTo pos (starEach es X.env)).any (·.1)=false:=by rfl)
  (ht:eval (.Call (.Attribute o m apos) (e::es) [] pos) X.env=(do
   let ov ← eval o X.env
   standAt apos.atName
   let (f,first) ← holding [ov] (getMethod ov m pl)
   callWith pos f first (backTo pos (starEach (e::es) X.env)) (backToKw pos (keywordEach [] X.env))):=by rfl) :
  PE X (.Call (.Attribute o m apos) (e::es) [] pos) (BC C m sp dvs E ta t):=by
 intro pins s σ H Q I h
 refine PySem.W.methodCall_KW (pl:=pl) (thn (he pins s σ H _ I h) fun u s1 ⟨x,H1,I1,rx,a,dx,fs,ex,ea,l,q⟩=>?_) ht
 subst ex
 obtain rfl:u=Value.ref a:=rx
 refine gJ I1 ea c hm l ?_
 refine PySem.W.callWith_K (first:=[.ref a]) (h₀:=X.base) I.ok.mod.kin hm.kp (thn (ha pos pins s1 σ H1 _ I1 q) fun us s2 ⟨vs,H2,I2,r,q2⟩=>⟨I2.kIn,?_⟩) hst hpl
 exact sY (us:=.ref a::us) (vs:=.ref a::vs) F hr hb hd hx I2 (.cons rfl r) q2
theorem yI {pl:Sem Bool} (he:PE X o ta) (c:Cls X.K C) (hm:Meth X.K C m f) (F:aX X.prog X.w X.K X.mg X.base CX k f fd ps sp) (hr:bA k X.A) (hb:Binds X.K fd ps ds) (hd:Vals dvs ds) (hx:Passes CX X E)
  (ht:eval (.Call (.Attribute o m apos) [] [] pos) X.env=(do
   let ov ← eval o X.env
   standAt apos.atName
   let (f,first) ← holding [ov] (getMethod ov m pl)
   callWith pos f first (backTo pos (starEach [] X.env)) (backToKw pos (keywordEach [] X.env))):=by rfl) :
  PE X (.Call (.Attribute o m apos) [] [] pos) (BC C m sp dvs E ta AO):=by
 intro pins s σ H Q I h
 refine PySem.W.methodCall_KW (pl:=pl) (thn (he pins s σ H _ I h) fun u s1 ⟨x,H1,I1,rx,a,dx,fs,ex,ea,l,q⟩=>?_) ht
 subst ex
 obtain rfl:u=Value.ref a:=rx
 refine gJ I1 ea c hm l ?_
 exact PySem.W.callWith_K0 (first:=[.ref a]) I1.kIn hm.kp (sY (us:=[.ref a]) (vs:=[.ref a]) F hr hb hd hx I1 (.cons rfl .nil) q)

structure Mk (K:PySem.W.Frag) (C f:Addr):Prop where
 makes:PySem.W.makesIn K C=true
 init:PySem.W.findIn K (.ref C) "__init__"=some (some (.ref f))
 fn:PySem.W.isFn K (.ref f)=true
 kp:PySem.W.keepIn K (.ref C)=true

theorem zf {pins:List (Addr × Obj)}{σ:St}{H:Hp}{s:Shared}{Q:VK}{us:List Value}{vs:List V} (M:Mk X.K C f) (F:aX X.prog X.w X.K X.mg X.base CX k f fd ps sp) (hr:bA (k + 1) X.A) (hb:Binds X.K fd ps ds) (hd:Vals dvs ds)
  (hx:Passes CX X E) (I:Inv X pins σ H s) (r:Vals vs us)
  (h:∀ x dx,H x=none->H dx=none->dx≠x->sp (.ref x::(vs++dvs)) (upd (upd H dx (.own x)) x (.ins C dx [])) (fun v H2=>v=.non/\Q (.ref x) H2) (E σ)) :
  wpAny (model X.prog X.w) X.A (call (.ref C) us) (EP X pins σ Q) X.xe s:=by
 have hq:=h (s.heap.objs.size + 1) s.heap.objs.size (I.hok.fresh (Nat.le_succ _)) (I.hok.fresh (Nat.le_refl _)) (Nat.ne_of_lt (Nat.lt_succ_self _))
 have I2:=Inv.made (C:=C) I
 have r2:Vals (V.ref (s.heap.objs.size + 1)::(vs++dvs)) (Value.ref (s.heap.objs.size + 1)::(us++ds)):=.cons rfl (r.append hd)
 have hl:(Value.ref (s.heap.objs.size + 1)::us++ds).length=ps.length:=by
  have e:=r2.length
  rw [F.len _ _ _ _ hq] at e
  exact e.symm
 refine wpAny_call (yo (f:=f) I.kIn M.makes M.init (beq_iff_eq.mp M.fn) (codeAny_mono (F.run _ X.stack _ _ ⟨Value.ref (s.heap.objs.size + 1)::us,[]⟩ (Value.ref (s.heap.objs.size + 1)::(us++ds)) _ _ (E σ) (hr.make C us [])
  (I2.xD.make C us []) (hb _ (Value.ref (s.heap.objs.size + 1)::us) I2.kIn hl) r2 hq) fun r s' hq'=>?_))
 cases r with
 | error e=>exact hx pins σ _ _ e s' I2 hq'
 | ok fl =>
  cases fl with
  | ret u =>
   obtain ⟨v,H',I3,rv,ev,q3⟩:=I2.after hq'
   subst ev
   exact ⟨rv,⟨V.ref (s.heap.objs.size + 1),H',I3,rfl,q3⟩⟩
  | next=>exact False.elim hq'
  | brk=>exact False.elim hq'
  | cont=>exact False.elim hq'
theorem Ay (M:Mk X.K C f) (F:aX X.prog X.w X.K X.mg X.base CX k f fd ps sp) (hr:bA (k + 1) X.A) (hg:Gl X x) (hm:X.mg x=some (.ref C)) (hb:Binds X.K fd ps ds) (hd:Vals dvs ds) (hx:Passes CX X E)
  (ha:PA X (e::es) t) (hdb:(x == ("__debug__":Str))=false:=by decide) (he:starEach (e::es) X.env=(false,eval e X.env)::starEach es X.env:=by rfl) (hpl:(backTo pos (starEach es X.env)).any (·.1)=false:=by rfl) :
  PE X (.Call (.Name x p) (e::es) [] pos) (D7 C sp dvs E t):=by
 intro pins s σ H Q I h
 refine wpAny_Call_Name_kw (ju I hg hm ?_ hdb)
 refine PySem.W.callWith_K (h₀:=X.base) I.ok.mod.kin M.kp (thn (ha pos pins s σ H _ I h) fun us s1 ⟨vs,H1,I1,r,q⟩=>⟨I1.kIn,?_⟩) he hpl
 exact zf M F hr hb hd hx I1 r q
end

section
variable {X:Cx}{CX:CXT}{k:Nat}{f C:Addr}{fd:FuncData}{ps ks:List Str}{sp:Sp}{E:St->XK}{x m:Str}{p pos apos kpos:Pos}{e o:Expr}{es:List Expr}{kws:List Keyword}{te ta:TE}{t tk:TA}{nm:Option Str}
variable {g:List Value->List Value->List Value}{gV:List V->List V->List V}
end

structure aA (N P:List Str) (sc:Scope):Prop where
 kind:sc.kind=.function
 co:sc.isCoroutine=false
 gen:sc.isGenerator=false
 nd:N.Nodup
 pre:N.take P.length=P
 par:∀ x∈P,sc.names.lookup x=some .local ∨ sc.names.lookup x=some .cell
 nofree:∀ y∈sc.names,y.2≠.free

theorem nK {kindOf:Str->Option NameKind}{x:Str}:∀ {binds:List (Str × Value)}{m:Str->Option Value},(∀ v,(x,v) ∉ binds)->bindL kindOf binds m x=m x
 | [],_,_=>rfl
 | (n,v)::r,m,h=>by
  unfold bindL
  rw [nK fun w hw=>h w (List.mem_cons_of_mem _ hw)]
  split
  ·have:x≠n:=by rintro rfl;exact h v List.mem_cons_self
   simp [this]
  ·rfl
theorem nI {kindOf:Str->Option NameKind}{x:Str}:∀ {binds:List (Str × Value)}{m:Str->Option Value},(∀ v,(x,v) ∉ binds)->bindC kindOf binds m x=m x
 | [],_,_=>rfl
 | (n,v)::r,m,h=>by
  unfold bindC
  rw [nI fun w hw=>h w (List.mem_cons_of_mem _ hw)]
  split
  ·rfl
  ·have:x≠n:=by rintro rfl;exact h v List.mem_cons_self
   simp [this]
theorem nJ {kindOf:Str->Option NameKind}{x:Str}{v:Value}:∀ {P:List Str}{vs:List Value}{i:Nat}{m:Str->Option Value},P.Nodup->P[i]?=some x->vs[i]?=some v->kindOf x=some .local →
  bindL kindOf (P.zip vs) m x=some v
 | [],_,_,_,_,h,_,_=>by simp at h
 | _::_,[],_,_,_,_,h,_=>by simp at h
 | p::P,w::vs,0,m,nd,h1,h2,hk=>by
  simp at h1 h2;subst h1;subst h2
  show bindL kindOf ((p,w)::P.zip vs) m p=_
  unfold bindL
  rw [nK fun v hv=>(List.nodup_cons.mp nd).1 (List.of_mem_zip hv).1,if_pos hk]
  simp
 | p::P,w::vs,i + 1,m,nd,h1,h2,hk=>by
  show bindL kindOf ((p,w)::P.zip vs) m x=_
  unfold bindL
  exact nJ (i:=i) (List.nodup_cons.mp nd).2 (by simpa using h1) (by simpa using h2) hk
theorem nH {kindOf:Str->Option NameKind}{x:Str}{v:Value}:∀ {P:List Str}{vs:List Value}{i:Nat}{m:Str->Option Value},P.Nodup->P[i]?=some x->vs[i]?=some v->kindOf x≠some .local →
  bindC kindOf (P.zip vs) m x=some v
 | [],_,_,_,_,h,_,_=>by simp at h
 | _::_,[],_,_,_,_,h,_=>by simp at h
 | p::P,w::vs,0,m,nd,h1,h2,hk=>by
  simp at h1 h2;subst h1;subst h2
  show bindC kindOf ((p,w)::P.zip vs) m p=_
  unfold bindC
  rw [nI fun v hv=>(List.nodup_cons.mp nd).1 (List.of_mem_zip hv).1,if_neg hk]
  simp
 | p::P,w::vs,i + 1,m,nd,h1,h2,hk=>by
  show bindC kindOf ((p,w)::P.zip vs) m x=_
  unfold bindC
  exact nH (i:=i) (List.nodup_cons.mp nd).2 (by simpa using h1) (by simpa using h2) hk

def start (N:List Str) (vs:List V):St:=vs.map some++List.replicate (N.length - vs.length) none

def iS (CX:CXT) (P:Program) (w:World) (K:PySem.W.Frag) (mg:Str->Option Value) (base:Heap) (N:List Str) (qual:Str) (scope:Scope) (f:Addr) (cd:Value) (A:Around) (outer:List Env) (s:Shared) (H:Hp) (E:XK):Cx where
 prog:=P
 w:=w
 K:=K
 mg:=mg
 base:=base
 A:=A.deeper (envOfC qual scope s.heap.objs.size f cd)
 N:=N
 s₀:=s
 H₀:=H
 env:=envOfC qual scope s.heap.objs.size f cd
 outer:=outer
 stack:=envOfC qual scope s.heap.objs.size f cd::outer
 ex:=[]
 calm:=true
 fn:=fun _=>true
 pn:=[]
 xe:=fun e s'=>wpAny (model P w) (A.deeper (envOfC qual scope s.heap.objs.size f cd)) (leaving (envOfC qual scope s.heap.objs.size f cd) e) (fun _ s''=>CX outer H s E e s'') (fun e' s''=>CX outer H s E e' s'') s'

theorem qy {sc:Scope}{n:Nat}{x:Str} (h:sc.names.lookup x=some .cell):∃ c,(cellsFrom n sc.names []).lookup x=some c:=by
 have q:=PySem.W.cellsFrom_some sc.names n [] (.inl h)
 exact Option.isSome_iff_exists.mp q

theorem oj {CX:CXT}{P:Program}{w:World}{K:PySem.W.Frag}{mg:Str->Option Value}{base:Heap}{N ps:List Str}{qual:Str}{scope:Scope}{f:Addr}{cd:Value}{A:Around}{outer:List Env}{s s1:Shared}{H:Hp}{E:XK}{us:List Value}{vs:List V}
  (S:aA N ps scope) (hd:A.handled=none) (e0:jO P w K mg base A outer s H) (hl:vs.length=ps.length) (r:Vals vs us)
  (x:InCallC s s.heap.objs.size (bindL (envOfC qual scope s.heap.objs.size f cd).kindOf (ps.zip us) fun _=>none) (cellsFrom (s.heap.objs.size + 1) scope.names []) (bindC (envOfC qual scope s.heap.objs.size f cd).kindOf (ps.zip us) fun _=>none) s1) :
  Inv (iS CX P w K mg base N qual scope f cd A outer s H E) [] (start N vs) H s1:=by
 have hpl:ps.length<=N.length:=by have:=congrArg List.length S.pre;rw [List.length_take] at this;omega
 obtain ⟨h1,tk,rfl,hk⟩:=x.done
 have noA:∀ b:Addr,b ∉ (iS CX P w K mg base N qual scope f cd A outer s H E).ex:=fun b z=>absurd (show b∈([]:List Addr) from z) (by simp)
 refine ⟨⟨e0.mod,S.kind,rfl,rfl,Nat.le_refl _,fun y z c h1 h2=>?_,fun y hy=>?_,fun y c _ h=>?_,fun _=>hd,Around.frames_deeper e0.frames,.inr ⟨rfl,rfl⟩,fun b z=>absurd z (noA b),e0.bs,e0.bsz,fun b _ _=>noA b,fun b z=>absurd z (noA b),e0.ik,e0.frf⟩,
  rfl,e0.bare,Un.kept hk,⟨_,x.toInCall.ns,fun i y v h1 h2 h3=>?_⟩,fun y c h=>⟨_,x.cell y c h⟩,e0.hok.fresh (Nat.le_refl _),fun y c h=>?_,fun p hp=>absurd (show p∈([]:List (Addr × Obj)) from hp) (by simp),e0.hok.kept hk,?_⟩
 ·exact name_of_addr x.apart (PySem.mem_of_lookup h1) (PySem.mem_of_lookup h2)
 ·have hy:scope.names.lookup y=some .cell ∨ scope.names.lookup y=some .free:=hy
  rcases hy with hy | hy
  ·exact qy hy
  ·exact absurd rfl (S.nofree _ (PySem.mem_of_lookup hy))
 ·exact Nat.le_of_lt (x.above y c (PySem.mem_of_lookup h))
 ·have hi:i < vs.length:=by
   unfold start at h2
   by_cases hi:i < vs.length
   ·exact hi
   ·rw [List.getElem?_append_right (by simpa using hi)] at h2
    rw [List.getElem?_replicate] at h2
    split at h2 <;> cases h2
  have ha:vs[i]?=some v:=by
   unfold start at h2
   rw [List.getElem?_append_left (by simpa using hi),List.getElem?_map] at h2
   cases e:vs[i]? with
   | none=>rw [e] at h2;cases h2
   | some a=>rw [e] at h2;cases h2;rfl
  obtain ⟨u,hu,rv⟩:=r.get ha
  have hp:ps[i]?=some y:=by
   rw [← S.pre,List.getElem?_take_of_lt (by omega)];exact h1
  have ndP:ps.Nodup:=by rw [← S.pre];exact S.nd.sublist (List.take_sublist _ _)
  refine ⟨u,rv,?_⟩
  rcases S.par y (List.mem_of_getElem? hp) with k | k
  ·exact .inl ⟨k,nJ ndP hp hu k⟩
  ·obtain ⟨c,e⟩:=qy (n:=s.heap.objs.size + 1) k
   refine .inr ⟨.inl k,c,e,?_⟩
   have q:=x.cell y c e
   rw [nH ndP hp hu (by show scope.names.lookup y≠_;rw [k];decide)] at q
   exact q
 ·exact e0.hok.fresh (Nat.le_of_lt (x.above y c (PySem.mem_of_lookup h)))
 ·unfold start
  show _=N.length
  rw [List.length_append,List.length_map,List.length_replicate]
  omega

theorem qL {CX:CXT}{P:Program}{w:World}{K:PySem.W.Frag}{mg:Str->Option Value}{base:Heap}{k:Nat}{f:Addr}{name qual:Str}{params:Arguments}{body:List Stmt}{scope:Scope}{dV kV doc pm cdv ct oc:Value}{an od:Option Addr}
  {osl:Array (Option Value)}{N ps:List Str}{sp:Sp} (lk:K.lookup f=some ⟨oc,od,.func (PySem.W.fnOf name qual params body scope dV kV doc pm an cdv ct),osl⟩) (hcd:PySem.W.codeIn K cdv qual=true) (S:aA N ps scope)
  (len:∀ vs H Q E,sp vs H Q E->vs.length=ps.length)
  (hbody:∀ (A:Around) (outer:List Env) (s:Shared) (H:Hp) (vs:List V) (Q:VK) (E:XK),bA k (A.deeper (envOfC qual scope s.heap.objs.size f cdv))->sp vs H Q E →
   ∃ t,PSs (iS CX P w K mg base N qual scope f cdv A outer s H E) body t/\t { nx:=fun _ H'=>Q .non H',rt:=Q } (start N vs) H) :
  aX P w K mg base CX (k + 1) f (PySem.W.fnOf name qual params body scope dV kV doc pm an cdv ct) ps sp:=by
 refine ⟨len,fun A outer s H args us vs Q E hr e0 hb r hsp=>?_⟩
 have hl:=len _ _ _ _ hsp
 have KX:K.In s.heap:=e0.mod.kin.keeps fun b o e=>(e0.bs b o e).1
 have lim:s.heap.NoLimit:=e0.mod.nolimit.keeps fun b o e=>(e0.bs b o e).1
 have hkind:∀ y∈ps.zip us,scope.names.lookup y.1=some .local ∨ (scope.names.lookup y.1=some .cell/\((cellsFrom (s.heap.objs.size + 1) scope.names []).lookup y.1).isSome=true):=fun ⟨n,v⟩ hy=>by
  rcases S.par n (List.of_mem_zip hy).1 with q | q
  ·exact .inl q
  ·exact .inr ⟨q,PySem.W.cellsFrom_some _ _ _ (.inl q)⟩
 refine codeAny_call_function hr.depth (KX _ _ lk) rfl S.co S.gen rfl (PySem.W.codeRec_of KX hcd) (hb _ _ _ _ ?_)
 refine wpAny_newFunctionEnv_cells S.kind hkind fun env he s1 x=>?_
 subst he
 refine ⟨lim.keeps x.toInCall.keep,codeAny_func ?_⟩
 obtain ⟨t,ht,hq⟩:=hbody A outer s H vs Q E (hr.deeper _) hsp
 have I:Inv (iS CX P w K mg base N qual scope f cdv A outer s H E) [] (start N vs) H s1:=oj S hr.hd e0 hl r x
 refine wpAny_mono (ht [] s1 (start N vs) H _ I hq) (fun fl s' hs=>?_) fun e s' hs=>hs
 have fin:∀ {σ':St}{H':Hp}{v:V}{u:Value},Inv (iS CX P w K mg base N qual scope f cdv A outer s H E) [] σ' H' s'->RelV v u->Q v H'->CE outer P w H s Q u s' :=
  fun {σ' H' v u} J rv q=>⟨v,H',J.os,J.bare,J.base,J.hok,rv,q⟩
 cases fl with
 | ret u =>
  obtain ⟨v,σ',H',J,rv,q⟩:=hs
  exact fin J rv q
 | next =>
  obtain ⟨σ',H',J,q⟩:=hs
  exact fin (v:=V.non) (u:=Value.none) J rfl q
 | brk =>
  obtain ⟨_,_,_,q⟩:=hs
  exact False.elim q
 | cont =>
  obtain ⟨_,_,_,q⟩:=hs
  exact False.elim q
end L2

namespace L2
open PySem PySem.Spec PyProof.Rows
section
variable {X:Cx}{x:Str}{p pos:Pos}{e:Expr}{es:List Expr}{t:TA}{id T:String}{r:List V->Hp->VK->Prop}

def tCB (r:List V->Hp->VK->Prop) (t:TA):TE:=fun σ H Q=>t σ H fun vs H1=>r vs H1 Q
theorem yB (hc:bw X (.builtin id) r) (hg:Gl X x) (hm:X.mg x=none) (hv:bootBuiltins x=some (.builtin id)) (ha:PA X (e::es) t) (hn:x≠"__name__":=by decide) (hdb:(x == ("__debug__":Str))=false:=by decide)
  (he:starEach (e::es) X.env=(false,eval e X.env)::starEach es X.env:=by rfl) (hpl:(backTo pos (starEach es X.env)).any (·.1)=false:=by rfl):PE X (.Call (.Name x p) (e::es) [] pos) (tCB r t):=by
 intro pins s σ H Q I h
 refine wpAny_Call_Name_kw (jW I hg hm hv ?_ hn hdb)
 exact PyProof.Rows.callWith_builtin1 (thn (ha pos pins s σ H _ I h) fun us s1 ⟨vs,H1,I1,r1,q1⟩=>hc pins s1 σ H1 vs us Q I1 r1 q1) he hpl
theorem wd (hc:bw X (.type T) r) (hg:Gl X x) (hm:X.mg x=none) (hv:bootBuiltins x=some (.type T)) (ha:PA X (e::es) t) (hn:x≠"__name__":=by decide) (hdb:(x == ("__debug__":Str))=false:=by decide)
  (he:starEach (e::es) X.env=(false,eval e X.env)::starEach es X.env:=by rfl) (hpl:(backTo pos (starEach es X.env)).any (·.1)=false:=by rfl):PE X (.Call (.Name x p) (e::es) [] pos) (tCB r t):=by
 intro pins s σ H Q I h
 refine wpAny_Call_Name_kw (jW I hg hm hv ?_ hn hdb)
 exact PyProof.Rows.callWith_type1 (thn (ha pos pins s σ H _ I h) fun us s1 ⟨vs,H1,I1,r1,q1⟩=>hc pins s1 σ H1 vs us Q I1 r1 q1) he hpl
end
end L2

namespace HT
open PySem PyProof.Rows

theorem xE (A:Around) (s:Shared) (a:Int) (t:Tok) (c:Int) (u:Tok):∃ e,SeqAt.EqAt A s (.int a t) (.int c u) e/\(e=true ↔ a=c) :=
 ⟨(a == c),SeqAt.EqAt.int_int a t c u,by simp⟩
section
open PySem.SeqAt
open PySem.AutoSeq1 (wpAny_loadPart')
open PySem.MeetsSeq PySem.MeetsSeq2 PySem.MeetsSeq3

end

section
variable {prog:Program}{w:World}{A:Around}{E:Value->Shared->Prop}{s:Shared}

def sIx (n d:Nat):Option Int->Nat
 | none=>d
 | some v=>if v < 0 then (v + (n:Int)).toNat else min v.toNat n
theorem zj (n d:Nat):sIx n d none=d:=rfl
theorem pP (n d k:Nat):sIx n d (some (k:Int))=min k n:=by
 show (if (k:Int) < 0 then ((k:Int) + (n:Int)).toNat else min (k:Int).toNat n)=min k n
 rw [if_neg (by omega),Int.toNat_natCast]
theorem zi (n d:Nat) (hd:d<=n) (o:Option Int):sIx n d o<=n:=by
 cases o with
 | none=>exact hd
 | some v =>
  show (if v < 0 then (v + (n:Int)).toNat else min v.toNat n)<=n
  by_cases hv:v < 0
  ·rw [if_pos hv];omega
  ·rw [if_neg hv];exact Nat.min_le_right _ _
end
end HT

namespace L2
open PySem PySem.Spec PyProof.Rows

abbrev TO:=St->Hp->(Option Int->Hp->Prop)->Prop
def PO (X:Cx) (e:Option Expr) (t:TO):Prop :=
 ∀ (pins:List (Addr × Obj)) (s:Shared) (σ:St) (H:Hp) (Q:Option Int->Hp->Prop),Inv X pins σ H s->t σ H Q →
  wpAny (model X.prog X.w) X.A (evalPart e X.env) (fun u s'=>∃ o H',Inv X pins σ H' s'/\IsPart u o/\Q o H') X.xe s
def uZ:TO:=fun _ H Q=>Q none H
def BF (t:TE):TO:=fun σ H Q=>t σ H fun x H1=>∃ i,x=.int i/\Q (some i) H1

theorem intsAre_of {ns:List Int}:∀ {us:List Value},Vals (ns.map V.int) us->IntsAre us ns:=by
 induction ns with
 | nil=>intro us r;rw [List.map_nil] at r;cases r;exact .nil
 | cons n ns ih =>
  intro us r
  rw [List.map_cons] at r
  cases r with
  | cons r1 r2 =>
   obtain ⟨t,e⟩:=r1
   subst e
   exact .cons n t (ih r2)

section
variable {X:Cx}{e:Expr}{te:TE}{lo hi:Option Expr}{tl th:TO}{pos p2:Pos}

theorem pL:PO X none uZ:=by
 intro pins s σ H Q I h
 rw [evalPart_none]
 exact wpAny_pure ⟨none,H,I,.none,h⟩
theorem jC (h:PE X e te):PO X (some e) (BF te):=by
 intro pins s σ H Q I hw
 rw [evalPart_some]
 refine thn (h pins s σ H _ I hw) fun u s1 ⟨x,H1,I1,r1,q1⟩=>?_
 obtain ⟨i,rfl,q⟩:=q1
 obtain ⟨t,rfl⟩:=r1
 exact ⟨some i,H1,I1,.int i t,q⟩

def SlR (X:Cx) (r:V->Option Int->Option Int->Hp->VK->Prop):Prop :=
 ∀ (pins:List (Addr × Obj)) (s:Shared) (σ:St) (H:Hp) (x:V) (v vl vu:Value) (lo hi:Option Int) (sl:Addr) (Q:VK),Inv X pins σ H s->RelV x v->s.heap.IsSliceOf sl vl vu .none->IsPart vl lo->IsPart vu hi->r x lo hi H Q →
  ∃ T id,typeLookup (.type T) "__getitem__"=pure (some (.builtin id))/\s.TypeIs v T/\wpAny (model X.prog X.w) X.A (getItem v (.ref sl)) (EP X pins σ Q) X.xe s
theorem SlR.or {r r':V->Option Int->Option Int->Hp->VK->Prop} (h:SlR X r) (h':SlR X r'):SlR X (fun x lo hi H Q=>r x lo hi H Q ∨ r' x lo hi H Q):=by
 intro pins s σ H x v vl vu lo hi sl Q I rx hs pl pu q
 rcases q with q | q
 ·exact h pins s σ H x v vl vu lo hi sl Q I rx hs pl pu q
 ·exact h' pins s σ H x v vl vu lo hi sl Q I rx hs pl pu q
def tSl (r:V->Option Int->Option Int->Hp->VK->Prop) (te:TE) (tl th:TO):TE:=fun σ H Q=>te σ H fun x H1=>tl σ H1 fun l H2=>th σ H2 fun u H3=>r x l u H3 Q
theorem jA {r:V->Option Int->Option Int->Hp->VK->Prop} (hr:SlR X r) (he:PE X e te) (hl:PO X lo tl) (hu:PO X hi th):PE X (.Subscript e (.Slice lo hi none p2) pos) (tSl r te tl th):=by
 intro pins s σ H Q I h
 refine Subscript_ (thn (he pins s σ H _ I h) fun v s1 ⟨x,H1,I1,r1,q1⟩=>?_)
 refine wpAny_Slice (thn (hl pins s1 σ H1 _ I1 q1) fun vl s2 ⟨l,H2,I2,pl,q2⟩=>thn (hu pins s2 σ H2 _ I2 q2) fun vu s3 ⟨u,H3,I3,pu,q3⟩=>?_)
 rw [evalPart_none]
 refine wpAny_pure ?_
 have I4:Inv X pins σ H3 { s3 with heap:=s3.heap.push { cls:=.type "slice",data:=.fields #[vl,vu,.none] } }:=I3.kept (t':=s3.toks) fun b ob q=>Heap.get?_push_of_some _ q
 obtain ⟨T,id,hT,ht,hg⟩:=hr pins { s3 with heap:=s3.heap.push { cls:=.type "slice",data:=.fields #[vl,vu,.none] } } σ H3 x v vl vu l u s3.heap.objs.size Q I4 r1 (Heap.IsSliceOf.new ..) pl pu q3
 show wpAny (model X.prog X.w) X.A (subscriptTail e (.Slice lo hi none p2) v (.ref s3.heap.objs.size)) (EP X pins σ Q) X.xe { s3 with heap:=s3.heap.push { cls:=.type "slice",data:=.fields #[vl,vu,.none] } }
 exact tail_any (ops:=[.ref s3.heap.objs.size,v]) ht hT hg (by with_unfolding_all rfl)

def kO (xs:List V) (lo hi:Option Int):List V:=(xs.drop (HT.sIx xs.length 0 lo)).take (HT.sIx xs.length xs.length hi - HT.sIx xs.length 0 lo)
theorem qB (xs:List V) (lo hi:Option Int):(kO xs lo hi).length<=xs.length:=by
 unfold kO
 rw [List.length_take,List.length_drop]
 omega
end
end L2

namespace L2
open PySem PySem.Spec PyProof.Rows

def ixN (n:Nat) (i:Int):Option Nat:=if 0<=i then (if i < n then some i.toNat else none) else if -(n:Int)<=i then some (i + n).toNat else none
def atI {α:Type} (xs:List α) (i:Int):Option α:=(ixN xs.length i).bind fun j=>xs[j]?
theorem Ab {n:Nat}{i:Int}{j:Nat} (h:ixN n i=some j):seqIndex? i n=some j/\j < n/\-(n:Int)<=i/\i < n:=by
 unfold ixN at h
 by_cases h0:0<=i
 ·rw [if_pos h0] at h
  by_cases h1:i < n
  ·rw [if_pos h1] at h
   have e:i.toNat=j:=Option.some.inj h
   exact ⟨by rw [seqIndex_of h0 h1,e],by omega,by omega,h1⟩
  ·rw [if_neg h1] at h;cases h
 ·rw [if_neg h0] at h
  by_cases h1:-(n:Int)<=i
  ·rw [if_pos h1] at h
   have e:(i + n).toNat=j:=Option.some.inj h
   exact ⟨by rw [seqIndex_neg (by omega) h1,e],by omega,h1,by omega⟩
  ·rw [if_neg h1] at h;cases h
theorem oR {α:Type}{xs:List α}{i:Int}{v:α} (h:atI xs i=some v):∃ j,seqIndex? i xs.length=some j/\xs[j]?=some v/\j < xs.length/\-(xs.length:Int)<=i/\i < xs.length:=by
 unfold atI at h
 cases e:ixN xs.length i with
 | none=>rw [e] at h;cases h
 | some j =>
  rw [e] at h
  obtain ⟨h1,h2,h3,h4⟩:=Ab e
  exact ⟨j,h1,h,h2,h3,h4⟩
theorem bX {α:Type}{xs:List α}{j:Nat}{v:α} (h:xs[j]?=some v):atI xs (j:Int)=some v:=by
 have hj:j < xs.length:=(List.getElem?_eq_some_iff.mp h).1
 have e:ixN xs.length (j:Int)=some j:=by
  unfold ixN
  rw [if_pos (by omega),if_pos (by omega)];simp
 unfold atI;rw [e];exact h
def zL (b:Expr):Prop:=∀ o i,subscripted b false o i=operate [o,i] (getItem o i)
def IxR (X:Cx) (r:R2):Prop :=
 ∀ (value slice:Expr) (pins:List (Addr × Obj)) (s:Shared) (σ:St) (H:Hp) (x y:V) (v u:Value) (Q:VK),Inv X pins σ H s->RelV x v->RelV y u->r x y H Q →
  subscripted slice false v u=operate [v,u] (getItem v u)->wpAny (model X.prog X.w) X.A (subscriptTail value slice v u) (EP X pins σ Q) X.xe s
def MtR (X:Cx) (id:String) (r:V->List V->Hp->VK->Prop):Prop :=
 ∀ (pins:List (Addr × Obj)) (s:Shared) (σ:St) (H:Hp) (x:V) (xs:List V) (v:Value) (us:List Value) (Q:VK),Inv X pins σ H s->RelV x v->Vals xs us->r x xs H Q →
  wpAny (model X.prog X.w) X.A (call (.builtin id) (v::us)) (EP X pins σ Q) X.xe s
section
variable {X:Cx}{a b:Expr}{ta tb:TE}{pos:Pos}
theorem IxR.or {r r':R2} (h:IxR X r) (h':IxR X r'):IxR X (fun x y H Q=>r x y H Q ∨ r' x y H Q):=by
 intro value slice pins s σ H x y v u Q I rx ry q hs
 rcases q with q | q
 ·exact h value slice pins s σ H x y v u Q I rx ry q hs
 ·exact h' value slice pins s σ H x y v u Q I rx ry q hs
theorem MtR.or {id:String}{r r':V->List V->Hp->VK->Prop} (h:MtR X id r) (h':MtR X id r'):MtR X id (fun x xs H Q=>r x xs H Q ∨ r' x xs H Q):=by
 intro pins s σ H x xs v us Q I rx rs q
 rcases q with q | q
 ·exact h pins s σ H x xs v us Q I rx rs q
 ·exact h' pins s σ H x xs v us Q I rx rs q
theorem bz {r:R2} (hr:IxR X r) (ha:PE X a ta) (hb:PE X b tb) (hs:zL b):PE X (.Subscript a b pos) (tOp r ta tb):=by
 intro pins s σ H Q I h
 exact Subscript_ (BM ha hb I h fun v u s2 x y H2 I2 rx ry q=>hr a b pins s2 σ H2 x y v u Q I2 rx ry q (hs _ _))

def Ej (K:PySem.W.Frag):R2:=fun x y H Q=>∃ p xs i v,x=.ref p/\y=.int i/\SqL K H p xs/\atI xs i=some v/\Q v H
def El (K:PySem.W.Frag):R2:=fun x y H Q=>∃ p xs i v,x=.ref p/\y=.int i/\SqT K H p xs/\atI xs i=some v/\Q v H
def Ek:R2:=fun x y H Q=>∃ z i c,x=.str z/\y=.int i/\z.length<=sizeLine/\atI z.cps.toList i=some c/\Q (.str ⟨#[c]⟩) H
theorem Ac:IxR X (Ej X.K):=by
 intro value slice pins s σ H x y v u Q I rx ry h hs
 obtain ⟨p,xs,i,z,rfl,rfl,hq,he,q⟩:=h
 cases rx
 obtain ⟨t,rfl⟩:=ry
 obtain ⟨its,r,pl,hz⟩:=I.list hq
 obtain ⟨j,h1,h2,h3,h4,h5⟩:=oR he
 obtain ⟨w,ew,rw'⟩:=r.get h2
 have hl:=r.length
 have hn:=m7
 have fin:EP X pins σ Q w s:=⟨z,H,I,rw',q⟩
 by_cases h0:0<=i
 ·have hj:i.toNat=j:=by
   rw [seqIndex_of h0 h5] at h1
   exact Option.some.inj h1
  exact item_listR pl.isList h0 (by omega) (by rw [hj];simpa using ew) fin hs
 ·have hj:(i + (its.toArray.size:Int)).toNat=j:=by
   rw [seqIndex_neg (by omega) h4] at h1
   rw [List.size_toArray,← hl]
   exact Option.some.inj h1
  exact subscriptTail_builtinR (x:=w) pl.isList.typeIs slot_list_getitem.lookup
   (wpAny_getItem_list_neg (Q:=fun r s'=>r=w/\EP X pins σ Q r s') pl.isList (by omega) (by rw [List.size_toArray] <;> omega) (by omega) (by rw [hj];simpa using ew) ⟨rfl,fin⟩) hs
theorem BY:IxR X (El X.K):=by
 intro value slice pins s σ H x y v u Q I rx ry h hs
 obtain ⟨p,xs,i,z,rfl,rfl,hq,he,q⟩:=h
 cases rx
 obtain ⟨t,rfl⟩:=ry
 obtain ⟨its,r,pl,hz⟩:=I.tuple hq
 obtain ⟨j,h1,h2,h3,h4,h5⟩:=oR he
 obtain ⟨w,ew,rw'⟩:=r.get h2
 have hl:=r.length
 have hn:=m7
 have fin:EP X pins σ Q w s:=⟨z,H,I,rw',q⟩
 exact subscriptTail_builtinR (x:=w) pl.typeIs slot_tuple_getitem.lookup
  (getItem_tuple (j:=j) (Q:=fun r s'=>r=w/\EP X pins σ Q r s') pl (by omega) (by omega) (by rw [List.size_toArray,← hl];exact h1) (by simpa using ew) ⟨rfl,fin⟩) hs
theorem BX:IxR X Ek:=by
 intro value slice pins s σ H x y v u Q I rx ry h hs
 obtain ⟨z,i,c,rfl,rfl,hz,he,q⟩:=h
 obtain ⟨t,rfl⟩:=rx
 obtain ⟨t',rfl⟩:=ry
 obtain ⟨j,h1,h2,h3,h4,h5⟩:=oR he
 have hl:z.cps.toList.length=z.length:=by simp [Str.length]
 rw [hl] at h1 h4 h5
 have hn:=m7
 exact tail_any (typeIs_str s z t) slot_str_getitem.lookup (getItem_str (c:=c) (by
  have e1:decide (i < -(2 ^ 63:Int))=false:=decide_eq_false (by omega)
  have e2:decide (i ≥ 2 ^ 63)=false:=decide_eq_false (by omega)
  rw [e1,e2,Bool.or_false]) (by rw [h1];simpa using h2) ⟨.str ⟨#[c]⟩,H,I.tok _,⟨_,rfl⟩,q⟩) hs
theorem Inv.lst {pins:List (Addr × Obj)}{σ:St}{H:Hp}{s:Shared}{p:Addr}{xs:List V} (I:Inv X pins σ H s) (h:H p=some (.lst xs)) :
  ∃ (its:List Value) (n:Nat),Vals xs its/\s.heap.get? p=some { cls:=.type "list",data:=.seq its.toArray n }/\xs.length<=sizeLine:=by
 obtain ⟨z,its,n,r,e⟩:=I.hok p _ h
 exact ⟨its,n,r,e,z⟩
theorem pU (lo hi:Option Int) (n:Nat):(sliceBounds lo hi none n).1=((HT.sIx n 0 lo:Nat):Int)/\(sliceBounds lo hi none n).2.1=((HT.sIx n n hi:Nat):Int)/\(sliceBounds lo hi none n).2.2=1:=by
 refine ⟨?_,?_,rfl⟩
 ·cases lo with
  | none=>simp [sliceBounds,HT.sIx]
  | some i =>
   simp only [sliceBounds,HT.sIx,Option.getD_none,show (1:Int) > 0 by decide,if_true]
   by_cases h:i < 0
   ·simp only [h,if_true] <;> omega
   ·simp only [h,if_false] <;> omega
 ·cases hi with
  | none=>simp [sliceBounds,HT.sIx]
  | some i =>
   simp only [sliceBounds,HT.sIx,Option.getD_none,show (1:Int) > 0 by decide,if_true]
   by_cases h:i < 0
   ·simp only [h,if_true] <;> omega
   ·simp only [h,if_false] <;> omega
theorem nz (its:List Value) (lo hi:Option Int):slicePick its.toArray lo hi none=((its.drop (HT.sIx its.length 0 lo)).take (HT.sIx its.length its.length hi - HT.sIx its.length 0 lo)).toArray:=by
 obtain ⟨h1,h2,h3⟩:=pU lo hi its.toArray.size
 unfold slicePick
 rw [h1,h2,h3]
 simp only [sliceRange_one,pick_run,List.size_toArray] <;> rfl
def Ep (K:PySem.W.Frag):V->Option Int->Option Int->Hp->VK->Prop:=fun x lo hi H Q=>∃ a xs,x=.ref a/\SqL K H a xs/\∀ p,H p=none->Q (.ref p) (upd H p (.lst (kO xs lo hi)))
theorem AK:SlR X (Ep X.K):=by
 intro pins s σ H x v vl vu lo hi sl Q I rx hs pl pu h
 obtain ⟨a,xs,rfl,hx,q⟩:=h
 cases rx
 obtain ⟨its,r,ht,hz⟩:=I.list hx
 have hlen:=r.length
 refine ⟨"list",_,slot_list_getitem.lookup,ht.isList.typeIs,?_⟩
 refine wpAny_getItem_list_slice ht.isList hs pl pu .none (by simp) ?_ (by rw [List.size_toArray] <;> omega)
 rw [nz,← hlen]
 refine ⟨.ref s.heap.objs.size,_,I.laid (t':=s.toks) (o:=.lst (kO xs lo hi)) (fun b ob q=>Heap.get?_push_of_some _ q) (Nat.le_refl _) ?_,rfl,q _ (I.hok.fresh (Nat.le_refl _))⟩
 exact ⟨Nat.le_trans (qB xs lo hi) hz,_,0,(r.drop (HT.sIx xs.length 0 lo)).take (HT.sIx xs.length xs.length hi - HT.sIx xs.length 0 lo),Heap.get?_push_size _ rfl⟩

def cg:V->Bool
 | .non=>true
 | .bl _=>true
 | .int _=>true
 | .str _=>true
 | _=>false
def eqV:V->V->Bool
 | .non,.non=>true
 | .bl a,.bl b=>a == b
 | .bl a,.int b=>(if a then 1 else 0) == b
 | .int a,.bl b=>a == (if b then 1 else 0)
 | .int a,.int b=>a == b
 | .str a,.str b=>a == b
 | _,_=>false
theorem ja {A:Around}{s:Shared}{y x:V}{u v:Value} (ry:RelV y u) (rx:RelV x v) (fy:cg y=true) (fx:cg x=true):SeqAt.EqAt A s u v (eqV y x):=by
 cases y with
 | non =>
  cases ry
  cases x with
  | non=>cases rx;exact SeqAt.EqAt.same _
  | bl b=>cases rx;exact SeqAt.EqAt.none_bool b
  | int b=>obtain ⟨t,rfl⟩:=rx;exact SeqAt.EqAt.none_int b t
  | str b=>obtain ⟨t,rfl⟩:=rx;exact SeqAt.EqAt.none_str b t
  | _=>exact absurd (show false=true from fx) Bool.false_ne_true
 | bl a =>
  cases ry
  cases x with
  | non=>cases rx;exact SeqAt.EqAt.bool_none a
  | bl b=>cases rx;exact SeqAt.EqAt.bool_bool a b
  | int b=>obtain ⟨t,rfl⟩:=rx;exact SeqAt.EqAt.bool_int a b t
  | str b=>obtain ⟨t,rfl⟩:=rx;exact SeqAt.EqAt.bool_str a b t
  | _=>exact absurd (show false=true from fx) Bool.false_ne_true
 | int a =>
  obtain ⟨t',rfl⟩:=ry
  cases x with
  | non=>cases rx;exact SeqAt.EqAt.int_none a t'
  | bl b=>cases rx;exact SeqAt.EqAt.int_bool a t' b
  | int b=>obtain ⟨t,rfl⟩:=rx;exact SeqAt.EqAt.int_int a t' b t
  | str b=>obtain ⟨t,rfl⟩:=rx;exact SeqAt.EqAt.int_str a t' b t
  | _=>exact absurd (show false=true from fx) Bool.false_ne_true
 | str a =>
  obtain ⟨t',rfl⟩:=ry
  cases x with
  | non=>cases rx;exact SeqAt.EqAt.str_none a t'
  | bl b=>cases rx;exact SeqAt.EqAt.str_bool a t' b
  | int b=>obtain ⟨t,rfl⟩:=rx;exact SeqAt.EqAt.str_int a t' b t
  | str b=>obtain ⟨t,rfl⟩:=rx;exact SeqAt.EqAt.str_str a t' b t
  | _=>exact absurd (show false=true from fx) Bool.false_ne_true
 | _=>exact absurd (show false=true from fy) Bool.false_ne_true
def eqU (x:V) (u:Value):Bool:=match u with
 | .none=>eqV .non x
 | .bool b=>eqV (.bl b) x
 | .int i _=>eqV (.int i) x
 | .str z _=>eqV (.str z) x
 | _=>false
theorem xF {x y:V}{u:Value} (r:RelV y u) (f:cg y=true):eqU x u=eqV y x:=by
 cases y with
 | non=>cases r;rfl
 | bl b=>cases r;rfl
 | int i=>obtain ⟨t,rfl⟩:=r;rfl
 | str z=>obtain ⟨t,rfl⟩:=r;rfl
 | _=>exact absurd (show false=true from f) Bool.false_ne_true
theorem jm {x:V}:∀ {xs:List V}{us:List Value},Vals xs us->xs.all cg=true->us.any (eqU x)=xs.any fun y=>eqV y x
 | _,_,.nil,_=>rfl
 | y::xs,u::us,.cons r t,f=>by
  rw [List.all_cons,Bool.and_eq_true] at f
  rw [List.any_cons,List.any_cons,xF r f.1,jm t f.2]
theorem ir {A:Around}{s:Shared}{x:V}{v:Value} (rx:RelV x v) (fx:cg x=true):∀ {xs:List V}{us:List Value},Vals xs us->xs.all cg=true->∀ u∈us,SeqAt.EqAt A s u v (eqU x u)
 | _,_,.nil,_=>fun u hu=>by cases hu
 | y::xs,u::us,.cons r t,f=>fun u' hu=>by
  rw [List.all_cons,Bool.and_eq_true] at f
  rcases List.mem_cons.mp hu with rfl | hu
  ·rw [xF r f.1];exact ja r rx f.1 fx
  ·exact ir rx fx t f.2 u' hu
def inV (x:V) (xs:List V):Bool:=xs.any fun y=>eqV y x
def rIn (K:PySem.W.Frag) (neg:Bool):R2:=fun x y H Q=>∃ p xs,y=.ref p/\(SqL K H p xs ∨ SqT K H p xs)/\cg x=true/\xs.all cg=true/\Q (.bl (if neg then !inV x xs else inV x xs)) H
theorem vX:OpR X (compareOp .In) (rIn X.K false):=by
 intro pins s σ H x y v u Q I rx ry h
 obtain ⟨p,xs,rfl,hq,fx,fs,q⟩:=h
 cases ry
 rcases hq with hq | hq
 ·obtain ⟨its,r,pl,hz⟩:=I.list hq
  refine SeqAt.in_listAt (eqU x) pl.isList (fun w hw=>ir rx fx r fs w (by simpa using hw)) ⟨.bl _,H,I,rfl,?_⟩
  rw [show its.toArray.any (eqU x)=its.any (eqU x) by simp,jm r fs]
  exact q
 ·obtain ⟨its,r,pl,hz⟩:=I.tuple hq
  refine SeqAt.in_tupleAt (eqU x) pl (fun w hw=>ir rx fx r fs w (by simpa using hw)) ⟨.bl _,H,I,rfl,?_⟩
  rw [show its.toArray.any (eqU x)=its.any (eqU x) by simp,jm r fs]
  exact q
theorem pF:OpR X (compareOp .NotIn) (rIn X.K true):=by
 intro pins s σ H x y v u Q I rx ry h
 obtain ⟨p,xs,rfl,hq,fx,fs,q⟩:=h
 cases ry
 rcases hq with hq | hq
 ·obtain ⟨its,r,pl,hz⟩:=I.list hq
  refine SeqAt.notIn_listAt (eqU x) pl.isList (fun w hw=>ir rx fx r fs w (by simpa using hw)) ⟨.bl _,H,I,rfl,?_⟩
  rw [show its.toArray.any (eqU x)=its.any (eqU x) by simp,jm r fs]
  exact q
 ·obtain ⟨its,r,pl,hz⟩:=I.tuple hq
  refine SeqAt.notIn_tupleAt (eqU x) pl (fun w hw=>ir rx fx r fs w (by simpa using hw)) ⟨.bl _,H,I,rfl,?_⟩
  rw [show its.toArray.any (eqU x)=its.any (eqU x) by simp,jm r fs]
  exact q
theorem oS:bw X (.builtin "len") (fun xs H Q=>∃ p ys,xs=[.ref p]/\(SqL X.K H p ys ∨ SqT X.K H p ys)/\Q (.int ys.length) H):=by
 intro pins s σ H xs us Q I r h
 obtain ⟨p,ys,rfl,hq,q⟩:=h
 obtain ⟨u,rfl,rx⟩:=vals1 r
 cases rx
 have hn:=m7
 rcases hq with hq | hq
 ·obtain ⟨its,r',pl,hz⟩:=I.list hq
  have hlen:=r'.length
  exact Calls.call_len_list pl.isList (by simp only [List.size_toArray] <;> omega) ⟨.int ys.length,H,I.tok _,⟨s.toks + 1,by rw [List.size_toArray,hlen]⟩,q⟩
 ·obtain ⟨its,r',pl,hz⟩:=I.tuple hq
  have hlen:=r'.length
  exact len_tuple pl (by simp only [List.size_toArray] <;> omega) ⟨.int ys.length,H,I.tok _,⟨s.toks + 1,by rw [List.size_toArray,hlen]⟩,q⟩
theorem oT:bw X (.builtin "len") (fun xs H Q=>∃ z,xs=[.str z]/\z.length<=sizeLine/\Q (.int z.length) H):=by
 intro pins s σ H xs us Q I r h
 obtain ⟨z,rfl,hz,q⟩:=h
 obtain ⟨u,rfl,t,rfl⟩:=vals1 r
 have hn:=m7
 exact len_str (by omega) ⟨.int z.length,H,I.tok _,⟨_,rfl⟩,q⟩
theorem bw.or {f:Value}{r r':List V->Hp->VK->Prop} (h:bw X f r) (h':bw X f r'):bw X f (fun xs H Q=>r xs H Q ∨ r' xs H Q):=by
 intro pins s σ H xs us Q I rs q
 rcases q with q | q
 ·exact h pins s σ H xs us Q I rs q
 ·exact h' pins s σ H xs us Q I rs q
theorem oV:bw X (.type "list") (fun xs H Q=>∃ p ys,xs=[.ref p]/\(SqL X.K H p ys ∨ SqT X.K H p ys)/\∀ l,H l=none->Q (.ref l) (upd H l (.lst ys))):=by
 intro pins s σ H xs us Q I r h
 obtain ⟨p,ys,rfl,hq,q⟩:=h
 obtain ⟨u,rfl,rx⟩:=vals1 r
 cases rx
 have fin:∀ (its:List Value),Vals ys its->ys.length<=sizeLine->∀ (h':Heap) (c':Nat),(∀ b o',s.heap.get? b=some o'->h'.get? b=some o') →
   h'.get? s.heap.objs.size=some { cls:=.type "list",dict:=none,data:=.seq its.toArray c',slots:=#[] }->EP X pins σ Q (.ref s.heap.objs.size) { s with heap:=h' }:=fun its r' hz h' c' kp e =>
  ⟨.ref s.heap.objs.size,_,I.laid (t':=s.toks) kp (Nat.le_refl _) (show aS X.prog X.w _ h' _ (.lst ys) from ⟨hz,its,c',r',e⟩),rfl,q _ (I.hok.fresh (Nat.le_refl _))⟩
 rcases hq with hq | hq
 ·obtain ⟨its,r',pl,hz⟩:=I.list hq
  have hlen:=r'.length
  obtain ⟨o,ho,hc,n,hd⟩:=pl.isList
  exact call_list_seq p (.inl rfl) ho hc hd (fun h' c' kp e=>fin its r' hz h' c' kp e) (by simp only [List.size_toArray] <;> omega)
 ·obtain ⟨its,r',pl,hz⟩:=I.tuple hq
  have hlen:=r'.length
  obtain ⟨o,ho,hc,n,hd⟩:=pl
  exact call_list_seq p (.inr rfl) ho hc hd (fun h' c' kp e=>fin its r' hz h' c' kp e) (by simp only [List.size_toArray] <;> omega)
def tyV (K:PySem.W.Frag) (T:String) (x:V) (H:Hp):Prop:=match x with
 | .str _=>T="str"
 | .int _=>T="int"
 | .ref p=>(T="list"/\∃ xs,SqL K H p xs) ∨ (T="tuple"/\∃ o,K.lookup p=some o/\o.cls=.type "tuple"/\o.dict=none) ∨
   (T="dict"/\((∃ kvs,H p=some (.dK kvs)) ∨ ∃ kvs,H p=some (.dT kvs))) ∨ (T="set"/\∃ S n,H p=some (.set S n))
 | _=>False
theorem zD {pins:List (Addr × Obj)}{σ:St}{H:Hp}{s:Shared}{T:String}{x:V}{v:Value} (I:Inv X pins σ H s) (r:RelV x v) (ty:tyV X.K T x H) :
  s.TypeIs v T/\∀ a,v=.ref a->∃ ob,s.heap.get? a=some ob/\ob.dict=none:=by
 cases x with
 | str z =>
  obtain ⟨t,rfl⟩:=r
  cases (show T="str" from ty)
  exact ⟨typeIs_str s z t,fun _ e=>nomatch e⟩
 | int i =>
  obtain ⟨t,rfl⟩:=r
  cases (show T="int" from ty)
  exact ⟨typeIs_int s i t,fun _ e=>nomatch e⟩
 | ref p =>
  cases r
  rcases ty with ⟨rfl,xs,hq⟩ | ⟨rfl,o,hk,hc,hd⟩ | ⟨rfl,hk⟩ | ⟨rfl,S,n,hk⟩
  ·obtain ⟨its,_,pl,_⟩:=I.list hq
   refine ⟨pl.isList.typeIs,fun a e=>?_⟩
   cases e
   obtain ⟨o,n,e,c,hd,_⟩:=pl
   exact ⟨o,e,hd⟩
  ·refine ⟨⟨o,I.kIn p o hk,hc⟩,fun a e=>?_⟩
   cases e
   exact ⟨o,I.kIn _ o hk,hd⟩
  ·have z:∃ o,s.heap.get? p=some o/\o.ExactDict:=by
    rcases hk with ⟨kvs,hk⟩ | ⟨kvs,hk⟩
    ·obtain ⟨_,_,_,_,o,_,_,e,ex,_⟩:=I.hok p _ hk
     exact ⟨o,e,ex⟩
    ·obtain ⟨_,_,_,_,o,_,_,e,ex,_⟩:=I.hok p _ hk
     exact ⟨o,e,ex⟩
   obtain ⟨o,e,ex⟩:=z
   refine ⟨⟨o,e,ex.1⟩,fun a e2=>?_⟩
   cases e2
   exact ⟨o,e,ex.2.1⟩
  ·obtain ⟨o,_,_,_,e,ex,_⟩:=I.hok p _ hk
   refine ⟨⟨o,e,ex.1⟩,fun a e2=>?_⟩
   cases e2
   exact ⟨o,e,ex.2.1⟩
 | _=>exact False.elim ty
def CJ (K:PySem.W.Frag) (T:String) (r:V->List V->Hp->VK->Prop) (to:TE):TE:=fun σ H Q=>to σ H fun x H1=>tyV K T x H1/\r x [] H1 Q
def tBM (K:PySem.W.Frag) (T:String) (r:V->List V->Hp->VK->Prop) (to:TE) (t:TA):TE:=fun σ H Q=>to σ H fun x H1=>tyV K T x H1/\t σ H1 fun xs H2=>r x xs H2 Q
variable {o e:Expr}{es:List Expr}{to:TE}{t:TA}{name:Str}{apos cpos:Pos}{T id:String}{r:V->List V->Hp->VK->Prop}
theorem C6 (pa:PlainAttrs T) (slot:Slot T name id) (hty:typeOf (.builtin id)=pure (.type "method_descriptor")) (hm:MtR X id r) (ho:PE X o to)
  (hbase:attributeBase o name X.env (eval o X.env)=eval o X.env:=by rfl) (hline:(apos.endLine == cpos.line)=true:=by rfl):PE X (.Call (.Attribute o name apos) [] [] cpos) (CJ X.K T r to):=by
 intro pins s σ H Q I h
 refine wpAny_Call_method0_late hbase hline (thn (ho pins s σ H _ I h) fun v s1 ⟨x,H1,I1,r1,ty,q1⟩=>?_)
 obtain ⟨h1,h2⟩:=zD I1 r1 ty
 exact ⟨T,id,pa,slot,hty,h1,h2,Calls.callWith_builtin rfl (PySem.evalArgs_none (hm pins s1 σ H1 x [] v [] Q I1 r1 .nil q1))⟩
theorem Dp (pa:PlainAttrs T) (slot:Slot T name id) (hty:typeOf (.builtin id)=pure (.type "method_descriptor")) (hm:MtR X id r) (ho:PE X o to) (ha:PA X (e::es) t)
  (hbase:attributeBase o name X.env (eval o X.env)=eval o X.env:=by rfl)
  (hfew:((backTo cpos (starEach (e::es) X.env)).all (fun x=>!x.1) && (backToKw cpos (keywordEach [] X.env)).all (fun x=>x.1.isSome)
   && decide ((e::es).length + ([]:List Keyword).length + (if ([]:List Keyword).isEmpty then 0 else 1) < 30))=true:=by rfl)
  (hline:(apos.endLine == cpos.line)=true:=by rfl) (hs:starEach (e::es) X.env=(false,eval e X.env)::starEach es X.env:=by rfl) (hplain:(backTo cpos (starEach es X.env)).any (·.1)=false:=by rfl) :
  PE X (.Call (.Attribute o name apos) (e::es) [] cpos) (tBM X.K T r to t):=by
 intro pins s σ H Q I h
 refine wpAny_Call_method_late hbase hfew hline rfl (thn (ho pins s σ H _ I h) fun v s1 ⟨x,H1,I1,r1,ty,q1⟩=>?_)
 obtain ⟨h1,h2⟩:=zD I1 r1 ty
 refine ⟨T,id,pa,slot,hty,h1,h2,?_⟩
 have hA:=ha cpos pins s1 σ H1 _ I1 q1
 rw [hs] at hA ⊢
 refine Calls.callWith_builtin (by show (false || (backTo cpos (starEach es X.env)).any (·.1))=false;rw [hplain] <;> rfl) (Calls.evalArgs_plain ?_)
 exact thn hA fun us s2 ⟨vs,H2,I2,r2,q2⟩=>hm pins s2 σ H2 x vs v us Q I2 r1 r2 q2
end
end L2

namespace L2
open PySem PySem.Spec PyProof.Rows

def MtM (X:Cx) (id:String) (r:V->List V->Hp->VK->Prop):Prop :=
 ∀ (pins:List (Addr × Obj)) (s:Shared) (σ:St) (H:Hp) (x:V) (xs:List V) (v:Value) (us:List Value) (Q:VK),Inv X pins σ H s->RelV x v->Vals xs us->r x xs H Q →
  wpAny (model X.prog X.w) X.A (call (.builtin id) (v::us)) (EP X pins σ Q) X.xe s

theorem Vals.one:∀ {x:V}{us:List Value},Vals [x] us->∃ u,us=[u]/\RelV x u
 | _,_,.cons r .nil=>⟨_,rfl,r⟩
theorem Vals.two:∀ {x y:V}{us:List Value},Vals [x,y] us->∃ u v,us=[u,v]/\RelV x u/\RelV y v
 | _,_,_,.cons r (.cons q .nil)=>⟨_,_,rfl,r,q⟩
theorem Vals.zero:∀ {us:List Value},Vals [] us->us=[]
 | _,.nil=>rfl
theorem Vals.eraseIdx:∀ {xs:List V}{us:List Value} (i:Nat),Vals xs us->Vals (xs.eraseIdx i) (us.eraseIdx i)
 | _,_,_,.nil=>.nil
 | _,_,0,.cons _ t=>t
 | _,_,i + 1,.cons r t=>.cons r (Vals.eraseIdx i t)
theorem Vals.reverse {xs:List V}{us:List Value} (h:Vals xs us):Vals xs.reverse us.reverse:=by
 induction h with
 | nil=>exact .nil
 | cons r t ih=>rw [List.reverse_cons,List.reverse_cons];exact Vals.append ih (.cons r .nil)
theorem Vals.rep {xs:List V}{us:List Value} (h:Vals xs us):∀ k:Nat,Vals (List.replicate k xs).flatten (List.replicate k us).flatten
 | 0=>.nil
 | k + 1=>by
  rw [List.replicate_succ,List.replicate_succ,List.flatten_cons,List.flatten_cons]
  exact Vals.append h (Vals.rep h k)
theorem foldl_rep (its:List Value):∀ (k:Nat) (acc:List Value),
  List.foldl (fun x1 x2=>x1++x2) acc.toArray (List.replicate k its.toArray)=(acc++(List.replicate k its).flatten).toArray
 | 0,acc=>by simp
 | k + 1,acc=>by
  have e:acc.toArray++its.toArray=(acc++its).toArray:=by simp
  have e2:(acc++its)++(List.replicate k its).flatten=acc++(List.replicate (k + 1) its).flatten:=by
   rw [List.replicate_succ,List.flatten_cons,List.append_assoc]
  rw [← e2,← foldl_rep its k (acc++its),← e,List.replicate_succ,List.foldl_cons]

section
variable {X:Cx}{pins:List (Addr × Obj)}{σ:St}{H:Hp}{s:Shared}{l b:Addr}{xs ys zs:List V}

theorem Inv.Eb {its its':List Value}{n:Nat}{f:Array Value->Array Value}{t':Nat} (I:Inv X pins σ H s) (hH:H l=some (.lst xs))
  (e:s.heap.get? l=some { cls:=.type "list",data:=.seq its.toArray n }) (hf:f its.toArray=its'.toArray) (hv:Vals ys its') (hz:ys.length<=sizeLine) :
  Inv X pins σ (upd H l (.lst ys)) { s with heap:=s.heap.update l (Obj.mapSeq f),toks:=t' }:=by
 have q:=PySem.IsL.update e f
 rw [hf] at q
 refine I.write (x:=l) (e:=l) (by rw [hH];exact trivial) (.inl rfl) (fun b' u hb hu=>(Heap.get?_update_other s.heap (Obj.mapSeq f) (Ne.symm hb)).trans hu) ⟨_,q⟩ ?_
 exact ⟨hz,its',_,hv,q⟩
theorem Inv.Di {its:List Value}{t':Nat} (I:Inv X pins σ H s) (hv:Vals ys its) (hz:ys.length<=sizeLine) :
  Inv X pins σ (upd H s.heap.objs.size (.lst ys)) { s with heap:=s.heap.push { cls:=.type "list",data:=.seq its.toArray },toks:=t' } :=
 I.laid (fun _ _ q=>Heap.get?_push_of_some _ q) (Nat.le_refl _) ⟨hz,its,0,hv,Heap.get?_push_size _ rfl⟩
theorem Inv.fresh (I:Inv X pins σ H s):H s.heap.objs.size=none:=I.hok.fresh (Nat.le_refl _)
theorem Inv.Ak (I:Inv X pins σ H s) (hH:H l=some (.lst xs)):xs.length<=sizeLine/\∃ (its:List Value) (n:Nat),Vals xs its/\xs.length=its.length/\s.heap.get? l=some { cls:=.type "list",data:=.seq its.toArray n }:=by
 obtain ⟨z,its,n,r,e⟩:=I.hok l _ hH
 exact ⟨z,its,n,r,r.length,e⟩

theorem y3 {n:Nat} (h:n<=sizeLine):Builtin.List.listTooLong n=false:=by
 unfold Builtin.List.listTooLong
 exact decide_eq_false (by omega)
end

section
variable {X:Cx}

def AB:V->List V->Hp->VK->Prop:=fun x vs H Q=>∃ l xs y,x=.ref l/\vs=[y]/\H l=some (.lst xs)/\xs.length < sizeLine/\Q .non (upd H l (.lst (xs++[y])))
theorem fB:MtM X "list.append" AB:=by
 intro pins s σ H x vs v us Q I rx rv h
 obtain ⟨l,xs,y,rfl,rfl,hH,hz,q⟩:=h
 cases rx
 obtain ⟨u,rfl,ru⟩:=rv.one
 obtain ⟨z,its,n,r,hl,e⟩:=I.Ak hH
 refine call_meets F.slot_list_append ⟨_,e,rfl⟩ F.entry_list_append (F.args_list_append_2 _ _) (PySem.list_append l its.toArray n u (by rw [List.size_toArray];omega)) ⟨e,?_⟩
 refine ⟨.non,_,I.Eb (its':=its++[u]) hH e (by simp) (r.append (.cons ru .nil)) ?_,rfl,q⟩
 rw [List.length_append,List.length_singleton]
 omega

def Eg:R2:=fun x y H Q=>∃ l b xs zs,x=.ref l/\y=.ref b/\H l=some (.lst xs)/\H b=some (.lst zs)/\xs.length + zs.length<=sizeLine/\∀ p,H p=none->Q (.ref p) (upd H p (.lst (xs++zs)))
theorem Cq:OpR X (binaryOp .Add) Eg:=by
 intro pins s σ H x y v u Q I rx ry h
 obtain ⟨l,b,xs,zs,rfl,rfl,hH,hB,hz,q⟩:=h
 cases rx
 cases ry
 obtain ⟨z,its,n,r,hl,e⟩:=I.Ak hH
 obtain ⟨z2,its2,n2,r2,hl2,e2⟩:=I.Ak hB
 refine PySem.P.add_list e e2 ?_ (by rw [List.size_toArray,List.size_toArray];omega)
 have ea:its.toArray++its2.toArray=(its++its2).toArray:=by simp
 rw [ea]
 exact ⟨.ref _,_,I.Di (t':=s.toks) (r.append r2) (by rw [List.length_append];omega),rfl,q _ I.fresh⟩
def Eo:R2:=fun x y H Q=>∃ l k xs,x=.ref l/\y=.int k/\H l=some (.lst xs)/\-(2 ^ 63)<=k/\k < 2 ^ 63/\xs.length * k.toNat<=sizeLine ∧
 ∀ p,H p=none->Q (.ref p) (upd H p (.lst (List.replicate k.toNat xs).flatten))
theorem len_rep {α:Type} (xs:List α) (k:Nat):(List.replicate k xs).flatten.length=k * xs.length:=by
 induction k with
 | zero=>simp
 | succ k ih=>rw [List.replicate_succ,List.flatten_cons,List.length_append,ih,Nat.succ_mul,Nat.add_comm]
theorem C3:OpR X (binaryOp .Mult) Eo:=by
 intro pins s σ H x y v u Q I rx ry h
 obtain ⟨l,k,xs,rfl,rfl,hH,h1,h2,hz,q⟩:=h
 cases rx
 obtain ⟨t,rfl⟩:=ry
 obtain ⟨z,its,n,r,hl,e⟩:=I.Ak hH
 have hlen:its.toArray.size * k.toNat<=sizeLine:=by rw [List.size_toArray,← hl];exact hz
 have hcap:¬ its.toArray.size * k.toNat > (2 ^ 63 - 1) / 8:=by
  have:(sizeLine:Nat)<=(2 ^ 63 - 1) / 8:=by decide
  omega
 have hfit:¬ (!Builtin.List.listFitsIndex k)=true:=by
  rw [fitsIndex_both h1 h2]
  exact Bool.false_ne_true
 have hlong:¬ Builtin.List.listTooLong (its.toArray.size * k.toNat)=true:=by
  rw [y3 hlen]
  exact Bool.false_ne_true
 have hnew:List.foldl (fun x1 x2=>x1++x2) #[] (List.replicate (if its.toArray.isEmpty=true then 0 else k.toNat) its.toArray)=(List.replicate k.toNat its).flatten.toArray:=by
  have f0:∀ m:Nat,List.foldl (fun x1 x2=>x1++x2) #[] (List.replicate m its.toArray)=(List.replicate m its).flatten.toArray:=fun m=>by
   have:=foldl_rep its m []
   rw [List.nil_append] at this
   exact this
  rw [f0]
  cases its with
  | nil=>simp
  | cons a r'=>rw [if_neg (by simp)]
 refine wpAny_binaryOp_repeat_ref (T:="list") (U:="int") (by decide) ⟨_,e,rfl⟩ (fun s'=>typeIs_int s' k t) noFill_list_mul F.fills_int_mul F.slot_int_rmul repeat_list F.slot_int_index.lookup
  (call_meets F.slot_int_rmul (typeIs_int s k t) F.entry_int_rmul (F.args_int_rmul_2 _ _) (int___rmul___int_list k t l its.toArray n)
   ⟨e,rfl,⟨_,e,rfl⟩,call_meets F.slot_list_mul ⟨_,e,rfl⟩ F.entry_list_mul (F.args_list_mul_2 _ _) (AutoListH.list___mul___list_int_3 l its.toArray n k t hfit hcap hlong) ⟨e,?_⟩⟩)
 rw [hnew]
 exact ⟨.ref _,_,I.Di (t':=s.toks) (r.rep k.toNat) (by rw [len_rep,Nat.mul_comm];exact hz),rfl,q _ I.fresh⟩

end

section
variable {prog:Program}{w:World}{A:Around}{E:Value->Shared->Prop}{s:Shared}
end

section
variable {X:Cx}
end
end L2


namespace L2
open PySem PySem.Spec PyProof.Rows

section
variable {κ:Type} [DecidableEq κ]
def bS (kvs:List (κ × V)) (k:κ):Option V:=(kvs.find? fun kv=>decide (kv.1=k)).map (·.2)
def putK (kvs:List (κ × V)) (k:κ) (v:V):List (κ × V) :=
 if (kvs.any fun kv=>decide (kv.1=k))=true then kvs.map (fun kv=>if kv.1=k then (kv.1,v) else kv) else kvs++[(k,v)]
def Bh (kvs:List (κ × V)) (k:κ):List (κ × V):=kvs.filter fun kv=>decide (kv.1≠k)

theorem cz {p:κ × V}{r:List (κ × V)}{k:κ} (e:p.1=k):bS (p::r) k=some p.2:=by simp [bS,List.find?_cons,e]
theorem cy {p:κ × V}{r:List (κ × V)}{k:κ} (e:¬ p.1=k):bS (p::r) k=bS r k:=by simp [bS,List.find?_cons,e]
theorem iH (k:κ):∀ kvs:List (κ × V),(kvs.any fun kv=>decide (kv.1=k))=(bS kvs k).isSome
 | []=>rfl
 | p::r=>by
  rw [List.any_cons]
  by_cases e:p.1=k
  ·simp only [cz e,decide_eq_true e,Bool.true_or,Option.isSome_some]
  ·rw [cy e,decide_eq_false e,Bool.false_or];exact iH k r
theorem rS (k j:κ) (y:V):∀ kvs:List (κ × V),bS (kvs.map fun kv=>if kv.1=k then (kv.1,y) else kv) j=(bS kvs j).map fun x=>if j=k then y else x
 | []=>rfl
 | p::r=>by
  have ih:=rS k j y r
  rw [List.map_cons]
  by_cases h:p.1=k
  ·rw [if_pos h]
   by_cases e:p.1=j
   ·rw [cz (p:=(p.1,y)) e,cz e,Option.map_some,if_pos (e.symm.trans h)]
   ·rw [cy (p:=(p.1,y)) e,cy e,ih]
  ·rw [if_neg h]
   by_cases e:p.1=j
   ·rw [cz (p:=p) e,cz e,Option.map_some,if_neg (fun z=>h (e.trans z))]
   ·rw [cy (p:=p) e,cy e,ih]
theorem oJ (k j:κ) (y:V):∀ kvs:List (κ × V),bS kvs k=none->bS (kvs++[(k,y)]) j=if j=k then some y else bS kvs j
 | [],_=>by
  by_cases e:k=j
  ·rw [if_pos e.symm];exact cz (p:=(k,y)) e
  ·rw [if_neg (fun z=>e z.symm)];exact cy (p:=(k,y)) e
 | p::r,hn=>by
  rw [List.cons_append]
  have hk:¬ p.1=k:=fun z=>by rw [cz z] at hn;cases hn
  rw [cy hk] at hn
  have ih:=oJ k j y r hn
  by_cases e:p.1=j
  ·rw [cz e,cz e,if_neg (fun z=>hk (e.trans z))]
  ·rw [cy e,cy e,ih]
theorem nh (kvs:List (κ × V)) (k j:κ) (y:V):bS (putK kvs k y) j=if j=k then some y else bS kvs j:=by
 unfold putK
 by_cases a:(kvs.any fun kv=>decide (kv.1=k))=true
 ·rw [if_pos a,rS]
  rw [iH] at a
  by_cases e:j=k
  ·obtain ⟨x,hx⟩:=Option.isSome_iff_exists.mp a
   rw [if_pos e,e,hx,Option.map_some,if_pos rfl]
  ·rw [if_neg e]
   cases bS kvs j with
   | none=>rfl
   | some x=>rw [Option.map_some,if_neg e]
 ·rw [if_neg a]
  refine oJ k j y kvs ?_
  rw [iH] at a
  cases q:bS kvs k with
  | none=>rfl
  | some x=>rw [q] at a;exact (a rfl).elim
theorem eV (kvs:List (κ × V)) (k:κ) (v:V):(putK kvs k v).length<=kvs.length + 1:=by
 unfold putK
 split
 ·rw [List.length_map];omega
 ·rw [List.length_append,List.length_cons,List.length_nil];omega
theorem gd.gx {o:Option V}{u:Option Value} (r:gd o u):o.isSome=u.isSome:=by
 cases o with
 | none=>cases u with
  | none=>rfl
  | some _=>exact (show False from r).elim
 | some _=>cases u with
  | none=>exact (show False from r).elim
  | some _=>rfl
theorem gd.getD {o:Option V}{u:Option Value}{d:V}{d':Value} (r:gd o u) (rd:RelV d d'):RelV (o.getD d) (u.getD d'):=by
 cases o with
 | none=>cases u with
  | none=>exact rd
  | some _=>exact (show False from r).elim
 | some _=>cases u with
  | none=>exact (show False from r).elim
  | some _=>exact r

theorem KV.val {kvs:List (κ × V)}{vs:List (κ × Value)} (r:KV kvs vs) (k:κ):gd (bS kvs k) (valueAt vs k):=by
 unfold KV at r
 induction r with
 | nil=>exact True.intro
 | @cons p q ps qs h t ih =>
  obtain ⟨h1,h2⟩:=h
  by_cases e:p.1=k
  ·have e':q.1=k:=h1.symm.trans e
   have b:valueAt (q::qs) k=some q.2:=by simp [valueAt,List.find?_cons,e']
   rw [cz e,b];exact h2
  ·have e':¬ q.1=k:=fun z=>e (h1.trans z)
   have b:valueAt (q::qs) k=valueAt qs k:=by simp [valueAt,List.find?_cons,e']
   rw [cy e,b];exact ih
theorem KV.any {kvs:List (κ × V)}{vs:List (κ × Value)} (r:KV kvs vs) (k:κ):(kvs.any fun kv=>decide (kv.1=k))=vs.any fun kv=>decide (kv.1=k):=by
 unfold KV at r
 induction r with
 | nil=>rfl
 | cons h t ih=>rw [List.any_cons,List.any_cons,ih,h.1]
theorem KV.CI {kvs:List (κ × V)}{vs:List (κ × Value)} (r:KV kvs vs) (k:κ) {y:V}{u:Value} (ry:RelV y u) :
  KV (kvs.map fun kv=>if kv.1=k then (kv.1,y) else kv) (vs.map fun kv=>if kv.1=k then (kv.1,u) else kv):=by
 unfold KV at r ⊢
 induction r with
 | nil=>exact .nil
 | @cons p q ps qs h t ih =>
  rw [List.map_cons,List.map_cons]
  refine .cons ?_ ih
  obtain ⟨h1,h2⟩:=h
  by_cases e:p.1=k
  ·rw [if_pos e,if_pos (h1.symm.trans e)];exact ⟨h1,ry⟩
  ·rw [if_neg e,if_neg (fun z=>e (h1.trans z))];exact ⟨h1,h2⟩
theorem KV.put {kvs:List (κ × V)}{vs:List (κ × Value)} (r:KV kvs vs) (k:κ) {y:V}{u:Value} (ry:RelV y u):KV (putK kvs k y) (stored vs k u):=by
 unfold putK stored
 rw [r.any k]
 by_cases e:(vs.any fun kv=>decide (kv.1=k))=true
 ·rw [if_pos e,if_pos e];exact r.CI k ry
 ·rw [if_neg e,if_neg e];exact Paired.snoc r ⟨rfl,ry⟩
theorem KV.drop {kvs:List (κ × V)}{vs:List (κ × Value)} (r:KV kvs vs) (k:κ):KV (Bh kvs k) (without vs k):=by
 unfold KV at r ⊢
 unfold Bh without
 induction r with
 | nil=>exact .nil
 | @cons p q ps qs h t ih =>
  obtain ⟨h1,h2⟩:=h
  rw [List.filter_cons,List.filter_cons]
  by_cases e:p.1=k
  ·have a:¬ decide (p.1≠k)=true:=by simp [e]
   have b:¬ decide (q.1≠k)=true:=by simp [h1.symm.trans e]
   rw [if_neg a,if_neg b];exact ih
  ·have e':¬ q.1=k:=fun z=>e (h1.trans z)
   have a:decide (p.1≠k)=true:=by simp [e]
   have b:decide (q.1≠k)=true:=by simp [e']
   rw [if_pos a,if_pos b];exact .cons ⟨h1,h2⟩ ih
theorem KV.keys {kvs:List (κ × V)}{vs:List (κ × Value)} (r:KV kvs vs):kvs.map (·.1)=vs.map (·.1):=by
 unfold KV at r
 induction r with
 | nil=>rfl
 | cons h t ih=>rw [List.map_cons,List.map_cons,ih,h.1]
theorem KV.length {kvs:List (κ × V)}{vs:List (κ × Value)} (r:KV kvs vs):kvs.length=vs.length:=Paired.length r
end


theorem kz {P:Program}{w:World}{k:Key}{u:Value} (r:RelV (kV k) u):(aI P w).is k u=true:=by
 cases k with
 | inl i=>obtain ⟨t,e⟩:=(show ∃ t,u=Value.int i t from r);subst e;exact qS P w i t
 | inr x=>obtain ⟨t,e⟩:=(show ∃ t,u=Value.str x t from r);subst e;exact qT P w x t
theorem Cb {a b:Key} (e:kV a=kV b):a=b:=by
 cases a with
 | inl i=>cases b with
  | inl j=>have e':V.int i=V.int j:=e;injection e' with e';rw [e']
  | inr y=>exact nomatch (show V.int i=V.str y from e)
 | inr x=>cases b with
  | inl j=>exact nomatch (show V.str x=V.int j from e)
  | inr y=>have e':V.str x=V.str y:=e;injection e' with e';rw [e']
theorem pb:∀ {a b:List Key},a.map kV=b.map kV->a=b
 | [],[],_=>rfl
 | [],_::_,e=>by simp at e
 | _::_,[],e=>by simp at e
 | x::xs,y::ys,e=>by
  rw [List.map_cons,List.map_cons] at e
  injection e with e1 e2
  rw [Cb e1,pb e2]
theorem oo {P:Program}{w:World}:∀ {ks:List Key}{us:List Value},Vals (ks.map kV) us->ItemsAre (aI P w) ks us
 | [],_,r=>by rw [List.map_nil] at r;cases r;exact .nil
 | k::ks,_,r=>by
  rw [List.map_cons] at r
  cases r with
  | cons h t=>exact .cons (kz h) (oo t)

abbrev KT (H:Hp):List (List Key × V)->List (List Key × Addr × Value)->Prop:=Paired fun p q=>p.1=q.1/\H q.2.1=some (.tup (p.1.map kV))/\RelV p.2 q.2.2
theorem KT.val {H:Hp}{kvs:List (List Key × V)}{xs:List (List Key × Addr × Value)} (r:KT H kvs xs) (k:List Key):gd (bS kvs k) ((atKey xs k).map (·.2)):=by
 induction r with
 | nil=>exact True.intro
 | @cons p q ps qs h t ih =>
  obtain ⟨h1,_,h2⟩:=h
  by_cases e:p.1=k
  ·have e':q.1=k:=h1.symm.trans e
   have b:atKey (q::qs) k=some q.2:=by simp [atKey,List.find?_cons,e']
   rw [cz e,b];exact h2
  ·have e':¬ q.1=k:=fun z=>e (h1.trans z)
   have b:atKey (q::qs) k=atKey qs k:=by simp [atKey,List.find?_cons,e']
   rw [cy e,b];exact ih
theorem KT.CI {H:Hp}{kvs:List (List Key × V)}{xs:List (List Key × Addr × Value)} (r:KT H kvs xs) (k:List Key) {y:V}{u:Value} (ry:RelV y u) :
  KT H (kvs.map fun kv=>if kv.1=k then (kv.1,y) else kv) (xs.map (putAt k u)):=by
 induction r with
 | nil=>exact .nil
 | @cons p q ps qs h t ih =>
  rw [List.map_cons,List.map_cons]
  refine .cons ?_ ih
  obtain ⟨h1,h2,h3⟩:=h
  unfold putAt
  by_cases e:p.1=k
  ·rw [if_pos e,if_pos (h1.symm.trans e)];exact ⟨h1,h2,ry⟩
  ·rw [if_neg e,if_neg (fun z=>e (h1.trans z))];exact ⟨h1,h2,h3⟩
theorem KT.put {H:Hp}{kvs:List (List Key × V)}{xs:List (List Key × Addr × Value)} (r:KT H kvs xs) (k:List Key) {b:Addr}{y:V}{u:Value} (hb:H b=some (.tup (k.map kV))) (ry:RelV y u) :
  KT H (putK kvs k y) (storedH xs k b u):=by
 have e:(kvs.any fun kv=>decide (kv.1=k))=(atKey xs k).isSome:=by
  rw [iH,(r.val k).gx,Option.isSome_map]
 unfold putK storedH
 rw [e]
 by_cases q:(atKey xs k).isSome=true
 ·rw [if_pos q,if_pos q];exact r.CI k ry
 ·rw [if_neg q,if_neg q];exact Paired.snoc r ⟨rfl,hb,ry⟩
theorem KT.keeps {H H':Hp}{kvs:List (List Key × V)}{xs:List (List Key × Addr × Value)} (r:KT H kvs xs) (ht:∀ b ys,H b=some (.tup ys)->H' b=some (.tup ys)):KT H' kvs xs :=
 Paired.Cm r fun _ _ z=>⟨z.1,ht _ _ z.2.1,z.2.2⟩

section
variable {P:Program}{w:World}{H:Hp}{h:Heap}{a:Addr}
theorem Bz {u:HO} (ok:HOk P w H h) (e:Rd H a u):aS P w H h a u:=e.ok ok
theorem jo {kvs:List (Key × V)} (ok:HOk P w H h) (e:Rd H a (.dK kvs)):kvs.length<=sizeLine/\(a == sysModules)=false/\∃ vs,KV kvs vs/\h.DictOf (aI P w) a vs :=
 show aS P w H h a (.dK kvs) from Bz ok e
theorem qG {kvs:List (Key × V)} (ok:HOk P w H h) (e:H a=some (.dK kvs)):kvs.length<=sizeLine/\(a == sysModules)=false/\∃ vs,KV kvs vs/\h.DictOf (aI P w) a vs:=jo ok (.inl e)
theorem jc {ks:List Key} (ok:HOk P w H h) (e:H a=some (.tup (ks.map kV))):(tupleKind (aI P w)).is h ks a:=by
 obtain ⟨_,its,r,o,h1,h2,n,h3⟩:=(show aS P w H h a (.tup (ks.map kV)) from ok a _ e)
 exact ⟨o,its.toArray,n,h1,h2,h3,by simpa using oo r⟩
theorem lI {kvs:List (List Key × V)} (ok:HOk P w H h) (e:Rd H a (.dT kvs)):kvs.length<=sizeLine/\(a == sysModules)=false ∧
  ∃ xs,KT H kvs xs/\h.DictOfH (tupleKind (aI P w)) a xs:=by
 obtain ⟨z,y,xs,r,o,es,ep,h1,h2,h3,h4,h5⟩:=(show aS P w H h a (.dT kvs) from Bz ok e)
 refine ⟨z,y,xs,r,o,es,ep,h1,h2,h3,h4,fun x hx=>?_,h5⟩
 have all:∀ {l:List (List Key × V)}{m:List (List Key × Addr × Value)},KT H l m->∀ x∈m,(tupleKind (aI P w)).is h x.1 x.2.1:=by
  intro l m q
  induction q with
  | nil=>intro x hx;exact nomatch hx
  | @cons p q ps qs hq t ih =>
   intro x hx
   rcases List.mem_cons.mp hx with e | hx
   ·subst e
    exact jc ok (by rw [← hq.1];exact hq.2.1)
   ·exact ih x hx
 exact all r x hx
theorem Bi {kvs:List (List Key × V)} (ok:HOk P w H h) (e:H a=some (.dT kvs)):kvs.length<=sizeLine/\(a == sysModules)=false ∧
  ∃ xs,KT H kvs xs/\h.DictOfH (tupleKind (aI P w)) a xs:=lI ok (.inl e)
end

def gc (H:Hp) (a:Addr) (y:V) (r:Option V):Prop :=
 (∃ kvs k,Rd H a (.dK kvs)/\y=kV k/\r=bS kvs k) ∨ ∃ kvs k b,Rd H a (.dT kvs)/\y=.ref b/\H b=some (.tup (k.map kV))/\r=bS kvs k
def rT (H:Hp) (a:Addr) (y v:V) (H':Hp):Prop :=
 (∃ kvs k,H a=some (.dK kvs)/\y=kV k/\kvs.length < sizeLine/\H'=upd H a (.dK (putK kvs k v))) ∨
 ∃ kvs k b,H a=some (.dT kvs)/\y=.ref b/\H b=some (.tup (k.map kV))/\kvs.length < sizeLine/\H'=upd H a (.dT (putK kvs k v))
theorem gc.k {H:Hp}{a:Addr}{kvs:List (Key × V)}{k:Key} (e:H a=some (.dK kvs)):gc H a (kV k) (bS kvs k):=.inl ⟨kvs,k,.inl e,rfl,rfl⟩
theorem gc.t {H:Hp}{a b:Addr}{kvs:List (List Key × V)}{k:List Key} (e:H a=some (.dT kvs)) (eb:H b=some (.tup (k.map kV))):gc H a (.ref b) (bS kvs k):=.inr ⟨kvs,k,b,.inl e,rfl,eb,rfl⟩
theorem rT.k {H:Hp}{a:Addr}{kvs:List (Key × V)}{k:Key}{v:V} (e:H a=some (.dK kvs)) (hl:kvs.length < sizeLine):rT H a (kV k) v (upd H a (.dK (putK kvs k v))):=.inl ⟨kvs,k,e,rfl,hl,rfl⟩
theorem rT.t {H:Hp}{a b:Addr}{kvs:List (List Key × V)}{k:List Key}{v:V} (e:H a=some (.dT kvs)) (eb:H b=some (.tup (k.map kV))) (hl:kvs.length < sizeLine) :
  rT H a (.ref b) v (upd H a (.dT (putK kvs k v))):=.inr ⟨kvs,k,b,e,rfl,eb,hl,rfl⟩


section
variable {X:Cx}{pins:List (Addr × Obj)}{σ:St}{H:Hp}{s:Shared}{a:Addr}{y v:V}{u r:Value}{o:Option V}{A:Around}{E:Value->Shared->Prop}

theorem Inv.big (I:Inv X pins σ H s):sysModules < s.heap.objs.size:=by
 have h:mainGlobals < s.heap.objs.size:=(I.mod.glob.keeps I.bk).lt
 exact Nat.lt_trans (by decide) h

theorem vA {Q:Value->Shared->Prop} (hu:A.units + 1 < cLine) (I:Inv X pins σ H s) (g:gc H a y (some v)) (ry:RelV y u) (h:∀ w' s',Inv X pins σ H s'->RelV v w'->Q w' s') :
  wpAny (model X.prog X.w) A (getItem (.ref a) u) Q E s:=by
 rcases g with ⟨kvs,k,e,ey,l⟩ | ⟨kvs,k,b,e,ey,eb,l⟩
 ·subst ey
  obtain ⟨z,hd,vs,rel,dd⟩:=jo I.hok e
  obtain ⟨w',hw,rw'⟩:=gd.some_of (v:=v) (o:=valueAt vs k) (by rw [l];exact rel.val k)
  exact wpAny_getItem_of (kz ry) dd.mapOf hw (h w' _ (I.tok _) rw')
 ·subst ey
  cases (show u=Value.ref b from ry)
  obtain ⟨z,hd,xs,rel,dd⟩:=lI I.hok e
  obtain ⟨w',hw,rw'⟩:=gd.some_of (v:=v) (o:=(atKey xs k).map (·.2)) (by rw [l];exact rel.val k)
  obtain ⟨p,hp,hp2⟩:=Option.map_eq_some_iff.mp hw
  refine wpAny_getItem_heap (tupleKind_room_in1 hu) (jc I.hok eb) dd hp ?_
  rw [hp2]
  exact h w' _ (I.tok _) rw'
theorem DX {Q:Value->Shared->Prop} (hu:A.units + 1 < cLine) (I:Inv X pins σ H s) (g:gc H a y o) (ry:RelV y u) (h:∀ s',Inv X pins σ H s'->Q (.bool o.isSome) s') :
  wpAny (model X.prog X.w) A (compareOp .In u (.ref a)) Q E s:=by
 rcases g with ⟨kvs,k,e,ey,l⟩ | ⟨kvs,k,b,e,ey,eb,l⟩
 ·subst ey
  obtain ⟨z,hd,vs,rel,dd⟩:=jo I.hok e
  refine wpAny_in_of (kz ry) hd dd.mapOf ?_
  rw [← (rel.val k).gx,← l]
  exact h _ (I.tok _)
 ·subst ey
  cases (show u=Value.ref b from ry)
  obtain ⟨z,hd,xs,rel,dd⟩:=lI I.hok e
  refine wpAny_in_heap (tupleKind_room_in1 hu) (jc I.hok eb) hd dd ?_
  have q:=(rel.val k).gx
  rw [Option.isSome_map] at q
  rw [← q,← l]
  exact h _ (I.tok _)
theorem zQ {Q:Value->Shared->Prop} (hu:A.units + 1 < cLine) (I:Inv X pins σ H s) (g:gc H a y o) (ry:RelV y u) (h:∀ s',Inv X pins σ H s'->Q (.bool (!o.isSome)) s') :
  wpAny (model X.prog X.w) A (compareOp .NotIn u (.ref a)) Q E s:=by
 rcases g with ⟨kvs,k,e,ey,l⟩ | ⟨kvs,k,b,e,ey,eb,l⟩
 ·subst ey
  obtain ⟨z,hd,vs,rel,dd⟩:=jo I.hok e
  refine wpAny_notIn_of (kz ry) hd dd.mapOf ?_
  rw [← (rel.val k).gx,← l]
  exact h _ (I.tok _)
 ·subst ey
  cases (show u=Value.ref b from ry)
  obtain ⟨z,hd,xs,rel,dd⟩:=lI I.hok e
  refine wpAny_notIn_heap (tupleKind_room_in1 hu) (jc I.hok eb) hd dd ?_
  have q:=(rel.val k).gx
  rw [Option.isSome_map] at q
  rw [← q,← l]
  exact h _ (I.tok _)
theorem kZ {h':Heap}{t':Nat}{ob:HO} (I:Inv X pins σ H s) (mu:Mut (H a)) (hs:Heap.SameBut a s.heap h') (he:∃ q,h'.get? a=some q) (new:aS X.prog X.w (upd H a ob) h' a ob) :
  Inv X pins σ (upd H a ob) { s with heap:=h',toks:=t' } :=
 I.write (x:=a) (e:=a) mu (.inl rfl) (fun b q hb z=>(hs.2 b hb).trans z) he new
theorem xy {P:Program}{w:World}{H':Hp}{h':Heap}{kvs:List (Key × V)}{vs:List (Key × Value)} (z:kvs.length<=sizeLine) (hd:(a == sysModules)=false) (rel:KV kvs vs) (dd:h'.DictOf (aI P w) a vs) :
  aS P w H' h' a (.dK kvs):=⟨z,hd,vs,rel,dd⟩
theorem vB {H':Hp}{Q:Unit->Shared->Prop} (hu:A.units + 1 < cLine) (I:Inv X pins σ H s) (g:rT H a y v H') (ry:RelV y u) (rv:RelV v r) (h:∀ s',Inv X pins σ H' s'->Q () s') :
  wpAny (model X.prog X.w) A (setItem (.ref a) u r) Q E s:=by
 rcases g with ⟨kvs,k,e,ey,l,eH⟩ | ⟨kvs,k,b,e,ey,eb,l,eH⟩
 ·subst ey eH
  obtain ⟨z,hd,vs,rel,dd⟩:=qG I.hok e
  have hz:vs.length<=sizeLine:=by rw [← rel.length];exact z
  have hl:(putK kvs k v).length<=sizeLine:=by have:=eV kvs k v;omega
  refine wpAny_setItem_pairs (hsz:=hz) (kz ry) dd fun h' dd' hs=>h _ ?_
  have he:∃ q,h'.get? a=some q:=let ⟨q,_,_,hq,_⟩:=dd';⟨q,hq⟩
  exact kZ I (by rw [e];exact True.intro) hs he (xy hl hd (rel.put k rv) dd')
 ·subst ey eH
  cases (show u=Value.ref b from ry)
  obtain ⟨z,hd,xs,rel,dd⟩:=Bi I.hok e
  have hz:xs.length<=sizeLine:=by rw [← Paired.length rel];exact z
  have hl:(putK kvs k v).length<=sizeLine:=by have:=eV kvs k v;omega
  refine wpAny_setItem_heap (hsz:=hz) (tupleKind_room_in1 hu) (jc I.hok eb) dd fun h' dd' hs=>h _ ?_
  obtain ⟨q,es,ep,hq,h2,h3,h4,_,h5⟩:=dd'
  refine kZ I (by rw [e];exact True.intro) hs ⟨q,hq⟩ ⟨hl,hd,_,(rel.put k eb rv).keeps fun c ys ec=>?_,q,es,ep,hq,h2,h3,h4,h5⟩
  rw [aj (aC ec e (fun z=>nomatch z))]
  exact ec
end

section
variable {X:Cx}{pins:List (Addr × Obj)}{σ:St}{H:Hp}{s:Shared}{a:Addr}{kvs:List (Key × V)}{k:Key}{u:Value}{A:Around}{E:Value->Shared->Prop}
theorem Df {Q:Value->Shared->Prop} (I:Inv X pins σ H s) (e:Rd H a (.dK kvs)) (h:∀ t s',Inv X pins σ H s'->Q (.int kvs.length t) s'):wpAny (model X.prog X.w) A (call (.builtin "len") [.ref a]) Q E s:=by
 obtain ⟨z,hd,vs,rel,dd⟩:=jo I.hok e
 refine call_len_dict hd dd (by rw [← rel.length];rw [sizeLine_eq] at z;omega) ?_
 rw [← rel.length]
 exact h _ _ (I.tok _)
end


def zK (i:Expr):Prop:=∀ ov iv,subscripted i false ov iv=operate [ov,iv] (getItem ov iv)
theorem uU {prog:Program}{w:World}{A:Around}{E:Value->Shared->Prop}{s:Shared}{env:Env}{value slice:Expr}{pos:Pos}{T id:String}{Q:Value->Shared->Prop}
  (hl:typeLookup (.type T) "__getitem__"=pure (some (.builtin id))) (hs:zK slice)
  (h:wpAny (model prog w) A (eval value env) (fun o s₁=>wpAny (model prog w) A (eval slice env) (fun i s₂=>s₂.TypeIs o T/\wpAny (model prog w) A (getItem o i) Q E s₂) E s₁) E s) :
  wpAny (model prog w) A (eval (.Subscript value slice pos) env) Q E s:=by
 refine Subscript_ (wpAny_mono h (fun o s₁ h₁=>wpAny_mono h₁ (fun i s₂ h₂=>?_) fun _ _ x=>x) fun _ _ x=>x)
 obtain ⟨hT,h₂⟩:=h₂
 unfold subscriptTail
 refine wpAny_bind ?_
 rw [getitemInPython_of_ne hT.not_modules]
 refine wpAny_bind (wpAny_specialOf hT hl ?_)
 have fin:wpAny (model prog w) A (subscripted slice false o i) (fun r s₃=>wpAny (model prog w) A (letTemporaryGo value o r >>= fun _=>pure r) Q E s₃) E s₂:=by
  rw [hs o i]
  exact wpAny_operating (wpAny_mono h₂ (fun r s₃ h₃=>wpAny_bind (wpAny_letTemporaryGo (wpAny_pure h₃))) fun _ _ x=>x)
 first
  | exact wpAny_pure (wpAny_bind fin)
  | exact wpAny_bind (wpAny_pure (wpAny_bind fin))
  | exact wpAny_bind fin

theorem qF {X:Cx}{pins:List (Addr × Obj)}{σ:St}{H:Hp}{s:Shared}{a:Addr}{y:V}{o:Option V} (I:Inv X pins σ H s) (g:gc H a y o):s.TypeIs (.ref a) "dict":=by
 rcases g with ⟨kvs,k,e,_,_⟩ | ⟨kvs,k,b,e,_,_,_⟩
 ·obtain ⟨_,_,vs,_,dd⟩:=jo I.hok e
  exact dd.typeIs
 ·obtain ⟨_,_,xs,_,dd⟩:=lI I.hok e
  exact dd.typeIs
def zu (td ty:TE):TE:=fun σ H Q=>td σ H fun x H1=>ty σ H1 fun y H2=>∃ a v,x=.ref a/\gc H2 a y (some v)/\Q v H2
def zh (td ty tv:TE):TS:=fun D σ H=>tv σ H fun v H1=>td σ H1 fun x H2=>ty σ H2 fun y H3=>∃ a H4,x=.ref a/\rT H3 a y v H4/\D.nx σ H4
section
variable {X:Cx}{o i e value:Expr}{pos pos' tpos:Pos}{td ty tv:TE}
theorem Ax (hu:X.A.units + 1 < cLine) (ho:PE X o td) (hi:PE X i ty) (hs:zK i):PE X (.Subscript o i pos) (zu td ty):=by
 intro pins s σ H Q I h
 refine uU PySem.F.slot_dict_getitem.lookup hs (thn (ho pins s σ H _ I h) fun u s1 ⟨x,H1,I1,rx,q1⟩=>thn (hi pins s1 σ H1 _ I1 q1) fun iv s2 ⟨y,H2,I2,ry,a,v,ex,g,q2⟩=>?_)
 subst ex
 obtain rfl:u=Value.ref a:=rx
 exact ⟨qF I2 g,vA hu I2 g ry fun w' s3 I3 rw'=>⟨v,H2,I3,rw',q2⟩⟩
theorem A8 (hu:X.A.units + 1 < cLine) (ho:PE X o td) (hi:PE X i ty) (hv:PE X value tv) (hs:swapsWith value (some (.Subscript o i pos')) pos.line X.env=pure false) :
  PS X (.Assign [.Subscript o i pos'] value pos) (zh td ty tv):=by
 intro pins s σ H D I h
 refine wpAny_Assign_Subscript (thn (hv pins s σ H _ I h) fun r s1 ⟨v,H1,I1,rv,q1⟩=>thn (ho pins s1 σ H1 _ I1 q1) fun u s2 ⟨x,H2,I2,rx,q2⟩=>thn (hi pins s2 σ H2 _ I2 q2) fun iv s3 ⟨y,H3,I3,ry,a,H4,ex,g,q3⟩=>?_) hs
 subst ex
 obtain rfl:u=Value.ref a:=rx
 exact vB hu I3 g ry rv fun s4 I4=>⟨σ,H4,I4,q3⟩
end


theorem xx {P:Program}{w:World}{H:Hp} (h:Heap) (hb:sysModules < h.objs.size):aS P w H (h.push { cls:=.type "dict",data:=.dict #[] }) h.objs.size (.dK []) :=
 ⟨Nat.zero_le _,beq_eq_false_iff_ne.mpr (Ne.symm (Nat.ne_of_lt hb)),[],.nil,Heap.DictOf.new h⟩
theorem xA {P:Program}{w:World}{H:Hp} (h:Heap) (hb:sysModules < h.objs.size):aS P w H (h.push { cls:=.type "dict",data:=.dict #[] }) h.objs.size (.dT []) :=
 ⟨Nat.zero_le _,beq_eq_false_iff_ne.mpr (Ne.symm (Nat.ne_of_lt hb)),[],.nil,_,#[],0,Heap.get?_push_size _ rfl,⟨rfl,rfl,rfl⟩,rfl,rfl,List.nodup_nil⟩
def CK:TE:=fun _ H Q=>∀ p,H p=none->Q (.ref p) (upd H p (.dK []))
def CL:TE:=fun _ H Q=>∀ p,H p=none->Q (.ref p) (upd H p (.dT []))
section
variable {X:Cx}{pos:Pos}
theorem yG:PE X (.Dict [] [] pos) CK:=fun pins s σ H Q I h =>
 wpAny_Dict_empty ⟨.ref s.heap.objs.size,_,I.laid (a:=s.heap.objs.size) (o:=.dK []) (t':=s.toks) (fun _ _ q=>Heap.get?_push_of_some _ q) (Nat.le_refl _) (xx s.heap I.big),rfl,h _ (I.hok.fresh (Nat.le_refl _))⟩
theorem yH:PE X (.Dict [] [] pos) CL:=fun pins s σ H Q I h =>
 wpAny_Dict_empty ⟨.ref s.heap.objs.size,_,I.laid (a:=s.heap.objs.size) (o:=.dT []) (t':=s.toks) (fun _ _ q=>Heap.get?_push_of_some _ q) (Nat.le_refl _) (xA s.heap I.big),rfl,h _ (I.hok.fresh (Nat.le_refl _))⟩
end

structure M1 (X:Cx) (o:Expr) (m:Str) (apos:Pos) (e:Expr) (cpos:Pos):Prop where
 base:attributeBase o m X.env (eval o X.env)=eval o X.env
 few:((backTo cpos (starEach [e] X.env)).all (fun x=>!x.1) && (backToKw cpos (keywordEach [] X.env)).all (fun x=>x.1.isSome)
  && decide (([e]:List Expr).length + ([]:List Keyword).length + (if ([]:List Keyword).isEmpty then 0 else 1) < 30))=true
 line:(apos.endLine == cpos.line)=true
 trees:backTo cpos (starEach [e] X.env)=[(false,eval e X.env)]
structure M2 (X:Cx) (o:Expr) (m:Str) (apos:Pos) (e f:Expr) (cpos:Pos):Prop where
 base:attributeBase o m X.env (eval o X.env)=eval o X.env
 few:((backTo cpos (starEach [e,f] X.env)).all (fun x=>!x.1) && (backToKw cpos (keywordEach [] X.env)).all (fun x=>x.1.isSome)
  && decide (([e,f]:List Expr).length + ([]:List Keyword).length + (if ([]:List Keyword).isEmpty then 0 else 1) < 30))=true
 line:(apos.endLine == cpos.line)=true
 trees:backTo cpos (starEach [e,f] X.env)=[(false,eval e X.env),(false,eval f X.env)]

def IsD (H:Hp) (a:Addr):Prop:=(∃ kvs,Rd H a (.dK kvs)) ∨ ∃ kvs,Rd H a (.dT kvs)
theorem BW {X:Cx}{pins:List (Addr × Obj)}{σ:St}{H:Hp}{s:Shared}{a:Addr} (I:Inv X pins σ H s) (d:IsD H a) :
  s.TypeIs (.ref a) "dict"/\(∀ b,Value.ref a=.ref b->∃ ob,s.heap.get? b=some ob/\ob.dict=none)/\(a == sysModules)=false:=by
 rcases d with ⟨kvs,e⟩ | ⟨kvs,e⟩
 ·obtain ⟨_,hd,vs,_,dd⟩:=jo I.hok e
  refine ⟨dd.typeIs,fun b q=>?_,hd⟩
  cases q
  obtain ⟨ob,_,_,h1,h2,_⟩:=dd
  exact ⟨ob,h1,h2.2.1⟩
 ·obtain ⟨_,hd,xs,_,dd⟩:=lI I.hok e
  refine ⟨dd.typeIs,fun b q=>?_,hd⟩
  cases q
  obtain ⟨ob,_,_,h1,h2,_⟩:=dd
  exact ⟨ob,h1,h2.2.1⟩

section
variable {X:Cx}{pins:List (Addr × Obj)}{σ:St}{H:Hp}{s:Shared}{a:Addr}{y d:V}{u r:Value}{o:Option V}{A:Around}{E:Value->Shared->Prop}
theorem BQ {Q:Value->Shared->Prop} (hu:A.units + 1 < cLine) (I:Inv X pins σ H s) (g:gc H a y o) (ry:RelV y u) (h:∀ w' s',Inv X pins σ H s'->RelV (o.getD .non) w'->Q w' s') :
  wpAny (model X.prog X.w) A (call (.builtin "dict.get") [.ref a,u]) Q E s:=by
 rcases g with ⟨kvs,k,e,ey,l⟩ | ⟨kvs,k,b,e,ey,eb,l⟩
 ·subst ey
  obtain ⟨z,hd,vs,rel,dd⟩:=jo I.hok e
  refine call_meetsIn PySem.F.slot_dict_get dd.typeIs PySem.F.entry_dict_get (PySem.F.args_dict_get_2 _ _) (meets_dict_get (aI X.prog X.w) a (kz ry) hd) ⟨_,dd.mapOf,h _ _ (I.tok _) ?_⟩
  rw [l]
  exact (rel.val k).getD rfl
 ·subst ey
  cases (show u=Value.ref b from ry)
  obtain ⟨z,hd,xs,rel,dd⟩:=lI I.hok e
  refine call_meetsIn PySem.F.slot_dict_get dd.typeIs PySem.F.entry_dict_get (PySem.F.args_dict_get_2 _ _) (meetsH_dict_get (tupleKind (aI X.prog X.w)) a b hd) ⟨tupleKind_room_in1 hu,k,xs,jc I.hok eb,dd,h _ _ (I.tok _) ?_⟩
  rw [l]
  exact (rel.val k).getD rfl
end

def tE (td ty:TE):TE:=fun σ H Q=>td σ H fun x H1=>∃ a,x=.ref a/\IsD H1 a/\ty σ H1 fun y H2=>∃ o,gc H2 a y o/\Q (o.getD .non) H2
section
variable {X:Cx}{o e f:Expr}{apos cpos:Pos}{td ty tx:TE}
theorem yE (hu:X.A.units + 1 < cLine) (ho:PE X o td) (he:PE X e ty) (m:M1 X o "get" apos e cpos):PE X (.Call (.Attribute o "get" apos) [e] [] cpos) (tE td ty):=by
 intro pins s σ H Q I h
 refine wpAny_Call_method m.base m.few m.line PySem.F.plainAttrs_dict PySem.F.slot_dict_get PySem.F.type_dict_get (thn (ho pins s σ H _ I h) fun u s1 ⟨x,H1,I1,rx,a,ex,d,q1⟩=>?_)
 subst ex
 obtain rfl:u=Value.ref a:=rx
 obtain ⟨t1,t2,_⟩:=BW I1 d
 refine ⟨t1,t2,?_⟩
 rw [m.trees]
 refine Calls.callWith_builtin rfl (Calls.evalArgs_plain (Calls.spliced_cons (thn (he pins s1 σ H1 _ I1 q1) fun iv s2 ⟨y,H2,I2,ry,ov,g,q2⟩=>Calls.spliced_nil ?_)))
 exact BQ hu I2 g ry fun w' s3 I3 rw'=>⟨_,H2,I3,rw',q2⟩
end

section
variable {X:Cx}{pins:List (Addr × Obj)}{σ:St}{H:Hp}{s:Shared}{a:Addr}{kvs:List (Key × V)}{A:Around}{E:Value->Shared->Prop}
end


section
variable {X:Cx}{pins:List (Addr × Obj)}{σ:St}{H:Hp}{s:Shared}{a:Addr}{y:V}{u:Value}{A:Around}{E:Value->Shared->Prop}
end
end L2


namespace Att
open PySem PySem.W PySem.Calls PyProof.Rows

theorem kP {P:Params}{h:Heap}:∀ (ns:List Int) (vs:List Value),WellAll P h vs (ns.map WData.int)->IntsAre vs ns:=by
 intro ns
 induction ns with
 | nil =>
  intro vs w
  rw [List.map_nil] at w
  cases w
  exact .nil
 | cons n ns ih =>
  intro vs w
  rw [List.map_cons] at w
  cases w with
  | cons a b =>
   cases a
   exact .cons _ _ (ih _ b)

theorem wz {l:OpenLaw}{n:Nat} (hn:l.most=some n) {P:Params}{h:Heap}{args:List WData}{vals:List Value}
  (hpre:l.row.toRowW.claim.pre args=true) (hwl:WellAll P h vals args) :
  ∃ a vs ns,vals=[Value.ref a]/\args=[WData.list (ns.map WData.int)]/\h.get? a=some { cls:=.type "list",data:=.seq vs.toArray }/\IntsAre vs ns/\ns.length<=n:=by
 have hsh:WShape.hasAll [] args [.list .int]=true:=(pre_splitW hpre).1
 have hc:l.pre.holds [] { args:=args }=true:=(pre_splitW hpre).2
 obtain ⟨d,r,rfl,h1,h2⟩:=hasAllW_cons hsh
 obtain rfl:=hasAllW_nil h2
 obtain ⟨xs,rfl,h3⟩:=hasW_list h1
 obtain ⟨ns,rfl⟩:=items_int h3
 have hlen:ns.length<=n:=by
  unfold OpenLaw.pre at hc
  have h4:(WTm.not (.lt (.lit (.int (n:Int))) (.len (.arg 0)))).holds [] { args:=[.list (ns.map .int)] }=true:=by
   have h4:=(holds_andW hc).1
   rw [hn] at h4
   exact h4
  have h5:=condW_of h4 (w_not (w_lt w_lit (w_len_list (w_arg rfl))))
  rw [List.length_map] at h5
  refine Nat.le_of_not_lt fun q=>?_
  have q':(n:Int) < ((ns.length:Nat):Int):=by omega
  first
   | (rw [decide_eq_true q'] at h5;exact absurd h5 (by decide))
   | (simp at h5;omega)
 cases hwl with
 | cons w1 w2 =>
  cases w2
  cases w1 with
  | list ho hall=>exact ⟨_,_,ns,rfl,rfl,ho,kP ns _ hall,hlen⟩

theorem wo (l:OpenLaw) (args:List WData):l.row.toRowW.claim.post args (.bool true) args=true :=
 postW_of (r:=l.row.toRowW) (X:=(true == true))
  (show WShape.has [] (.bool true) .bool=true by first | rfl | decide | simp [WShape.has,WShape.arms,WShape.armsAll])
  (show (WTm.eq .res (.lit (.bool true))).value [] { args:=args,res:=some (.bool true),after:=args }=some (.bool (true == true)) from w_eq_bool (w_res rfl) w_lit) rfl

theorem qo {l:OpenLaw}{n:Nat}{q:Program}{loose:List Str}{XP:(Str->Option Value)->Heap->Prop}{YP:World->Heap->Prop}{d:DefRec}
  (hn:l.most=some n) (hdf:d.params.defaults=[])
  (call:∀ (w:World) (s₀ s₁:Shared) (mg mb:Str->Option Value) (fa:Addr) (o:Obj) (pm cd doc:Value) (a:Addr) (vs:List Value) (ns:List Int),
   Ground q loose [] XP w s₀ mg mb s₁.heap->YP w s₁.heap →
   s₁.heap.get? fa=some o->o.data=.func (docDef d.name d.params d.body d.scope pm cd doc)->s₁.heap.CodeRec cd d.name->mg d.name=some (.ref fa) →
   s₁.heap.get? a=some { cls:=.type "list",data:=.seq vs.toArray }->IntsAre vs ns->ns.length<=n->s₁.gens=#[] →
   codeAny (model l.prog w) callerA (.call (.ref fa) ⟨[.ref a],[]⟩) (fun r s'=>r=.ok (.ret (.bool true))/\OldK s₁.heap s'.heap/\s'.os=s₁.os/\AllBare s'.gens) s₁) :
  WalkO q loose XP YP l.row.toRowW d [] (fun f vs=>PySem.call f vs):=by
 intro w s₀ s₁ mg mb G Y fa o pm cd doc dV kV ho hd hcd hD hmg hg args vals as hpre hlay hrd hwl hlo
 obtain rfl:dV=.none:=Dflts.none hD hdf
 obtain rfl:kV=.none:=Dflts.noKw hD
 obtain ⟨a,vs,ns,rfl,rfl,hobj,hints,hlen⟩:=wz hn hpre hwl
 refine enter_call (codeAny_mono (call w s₀ s₁ mg mb fa o pm cd doc a vs ns G Y ho (fd_plain hd) hcd hmg hobj hints hlen hg) fun r s' hq=>?_)
 obtain ⟨rfl,h2,h3,h4⟩:=hq
 exact ⟨.inl ⟨.bool true,.bool true,[],rfl,fun _=>rfl,.bool true,wo l _,fun _=>⟨List.Pairwise.nil,fun _ hm=>(nomatch hm)⟩⟩,h2,h3,h4⟩

section
variable {prog:Program}{w:World}{A:Around}{E:Value->Shared->Prop}{s:Shared}{K:Frag}

def ledger (h:Heap) (L d:Addr):List (Addr × Obj):=(List.range h.objs.size).filterMap fun a=>if a=L ∨ a=d then none else (h.get? a).map fun o=>(a,o)
end
end Att

namespace L2
open PySem PySem.Spec PyProof.Rows

theorem oK:∀ {vs:List Value}{ns:List Int},IntsAre vs ns->Vals (ns.map V.int) vs
 | _,_,.nil=>.nil
 | _,_,.cons n t h=>.cons ⟨t,rfl⟩ (oK h)

end L2

namespace L2
open PySem PySem.Spec PyProof.Rows

end L2

namespace L2
open PySem PySem.Spec PyProof.Rows

def inClass (s:Stmt) (j:Nat):Stmt:=match s with
 | .ClassDef _ _ _ body _ _ _ _ _ _ _=>body.getD j (.Pass ⟨0,0,0,0⟩)
 | _=>.Pass ⟨0,0,0,0⟩
def ay (s:Stmt):Arguments:=match s with
 | .FunctionDef _ a _ _ _ _ _ _ _ _=>a
 | _=>{ posonlyargs:=[],args:=[],vararg:=none,kwonlyargs:=[],kw_defaults:=[],kwarg:=none,defaults:=[] }
def aw (s:Stmt):List Stmt:=match s with
 | .FunctionDef _ _ b _ _ _ _ _ _ _=>b
 | _=>[]
def af (s:Stmt):Scope:=match s with
 | .FunctionDef _ _ _ _ _ _ sc _ _ _=>sc
 | _=>{ kind:=.function,names:=[],isGenerator:=false,isCoroutine:=false }

abbrev CX0:CXT:=fun _ _ _ _ _ _=>False
abbrev E0:St->XK:=fun _ _ _ _=>False
structure Fun (K:PySem.W.Frag) (x qual:Str) (st:Stmt) (f:Addr) (fd:FuncData):Prop where
 ex:∃ (oc:Value) (od:Option Addr) (kV doc pm:Value) (an:Option Addr) (cdv ct:Value) (osl:Array (Option Value)),
  fd=PySem.W.fnOf x qual (ay st) (aw st) (af st) .none kV doc pm an cdv ct/\K.lookup f=some ⟨oc,od,.func fd,osl⟩/\PySem.W.codeIn K cdv qual=true
 kp:PySem.W.keepIn K (.ref f)=true
section
variable {P:Program}{w:World}{K:PySem.W.Frag}{mg:Str->Option Value}{base:Heap}
theorem Fun.ok {x qual:Str}{st:Stmt}{f:Addr}{fd:FuncData}{N ps:List Str}{k:Nat}{sp:Sp} (F:Fun K x qual st f fd) (S:aA N ps (af st)) (len:∀ vs H Q E,sp vs H Q E->vs.length=ps.length)
  (hbody:∀ (cdv:Value) (A:Around) (outer:List Env) (s:Shared) (H:Hp) (vs:List V) (Q:VK) (E:XK),bA k (A.deeper (envOfC qual (af st) s.heap.objs.size f cdv))->sp vs H Q E →
   ∃ t,PSs (iS CX0 P w K mg base N qual (af st) f cdv A outer s H E).nox (aw st) t/\t { nx:=fun _ H'=>Q .non H',rt:=Q } (start N vs) H):aX P w K mg base CX0 (k + 1) f fd ps sp:=by
 obtain ⟨oc,od,kV,doc,pm,an,cdv,ct,osl,rfl,lk,hcd⟩:=F.ex
 refine qL lk hcd S len fun A outer s H vs Q E hr hsp=>?_
 obtain ⟨t,h,q⟩:=hbody cdv A outer s H vs Q E hr hsp
 exact ⟨t,h.nox,q⟩
theorem Fun.binds {x qual:Str}{st:Stmt}{f:Addr}{fd:FuncData}{ps:List Str} (F:Fun K x qual st f fd)
  (h:∀ (kV doc pm:Value) (an:Option Addr) (cdv ct:Value) (us:List Value),us.length=ps.length->bindArgs (PySem.W.fnOf x qual (ay st) (aw st) (af st) .none kV doc pm an cdv ct) ⟨us,[]⟩=pure (ps.zip us)):Binds K fd ps []:=by
 obtain ⟨oc,od,kV,doc,pm,an,cdv,ct,osl,rfl,lk,hcd⟩:=F.ex
 exact .all (h kV doc pm an cdv ct)
theorem aQ {x qual:Str}{st:Stmt}{f:Addr}{oc:Value}{od an:Option Addr}{osl:Array (Option Value)}{kV doc pm cdv ct:Value} (l:K.lookup f=some ⟨oc,od,.func (PySem.W.fnOf x qual (ay st) (aw st) (af st) .none kV doc pm an cdv ct),osl⟩)
  (c:PySem.W.codeIn K cdv qual=true) (k:PySem.W.keepIn K (.ref f)=true):Fun K x qual st f (PySem.W.fnOf x qual (ay st) (aw st) (af st) .none kV doc pm an cdv ct):=⟨⟨oc,od,kV,doc,pm,an,cdv,ct,osl,rfl,l,c⟩,k⟩
end
theorem aZ {A:Around}{k:Nat} (hr:bA k A):A.units + 1 < cLine:=Nat.lt_of_le_of_lt (Nat.add_le_add_left (by decide:1<=64) _) hr.units
section
variable {X:Cx}
theorem pv (i:Nat) {x:Str}{pos:Pos} (hN:X.N[i]?=some x:=by rfl) (hv:Vis X.env.scope x:=by first | exact Or.inl rfl | exact Or.inr (Or.inl rfl) | exact Or.inr (Or.inr rfl)) (hd:(x == ("__debug__":Str))=false:=by decide)
  (hcd:(x == ("__classdict__":Str))=false:=by decide):PE X (.Name x pos) (wB i):=pJ hN hv hd hcd
end

def ak (H H':Hp):Prop:=∀ b o,H b=some o->H' b=some o
theorem ak.refl (H:Hp):ak H H:=fun _ _ h=>h
theorem ak.trans {H H1 H2:Hp} (a:ak H H1) (b:ak H1 H2):ak H H2:=fun c o h=>b c o (a c o h)
theorem ak.free {H H':Hp} (e:ak H H') {l:Addr} (h:H' l=Option.none):H l=Option.none:=by
 cases q:H l with
 | none=>rfl
 | some o =>
  rw [e l o q] at h
  cases h
theorem ak.seq {K:PySem.W.Frag}{H H':Hp}{a:Addr}{xs:List V} (e:ak H H') (h:SqL K H a xs):SqL K H' a xs:=by
 rcases h with (h | ⟨o,h⟩) | h
 ·exact .inl (.inl (e _ _ h))
 ·exact .inl (.inr ⟨o,e _ _ h⟩)
 ·exact .inr h

end L2

namespace L2
open PySem PySem.Spec PyProof.Rows
section
variable {κ:Type} [DecidableEq κ]
theorem gK:∀ {l:List κ}{k:κ},l.Nodup->¬ k∈l->(l++[k]).Nodup
 | [],k,_,_=>by simp
 | a::r,k,h,hk=>by
  obtain ⟨h1,h2⟩:=List.nodup_cons.mp h
  show (a::(r++[k])).Nodup
  refine List.nodup_cons.mpr ⟨fun m=>?_,gK h2 fun m=>hk (List.mem_cons.mpr (Or.inr m))⟩
  rcases List.mem_append.mp m with q | q
  ·exact h1 q
  ·exact hk (List.mem_cons.mpr (Or.inl (List.mem_singleton.mp q).symm))
end
end L2
namespace L2
open PySem PySem.Spec PyProof.Rows
def gH (o:Option Value) (H:Hp):Prop:=o=none ∨ ∃ ea φ,o=some (Value.ref ea)/\H ea=some (HO.ext φ)/\∀ h:Heap,φ h->∃ ob vs,h.get? ea=some ob/\ob.data=.fields vs/\vs[2]?=some Value.none
structure eT (k:Nat) (A:Around):Prop where
 dp:A.depth + 3 * k + 5 < recursionLimit
 un:A.units + 16 * k + 200 < cLine
theorem eT.mono {j k:Nat}{A:Around} (r:eT k A) (h:j<=k):eT j A:=⟨by have:=r.dp;omega,by have:=r.un;omega⟩
theorem eT.deeper {k:Nat}{A:Around} (r:eT (k + 1) A) (env:Env):eT k (A.deeper env):=⟨by have:=r.dp;show A.depth + 1 + 3 * k + 5 < _;omega,by have:=r.un;show A.units + 3 + 16 * k + 200 < _;omega⟩
theorem eT.depth {k:Nat}{A:Around} (r:eT k A):A.depth < recursionLimit:=by have:=r.dp;omega
theorem eT.aO {k:Nat}{A:Around} (r:eT k A):A.units < cLine:=by have:=r.un;omega
theorem bA.n {k:Nat}{A:Around} (r:bA k A):eT k A:=⟨r.dp,r.un⟩
structure AW (P:Program) (w:World) (K:PySem.W.Frag) (mg:Str->Option Value) (base:Heap) (CX:CXT) (k:Nat) (f:Addr) (fd:FuncData) (ps:List Str) (sp:Sp):Prop where
 len:∀ vs H Q E,sp vs H Q E->vs.length=ps.length
 run:∀ (A:Around) (outer:List Env) (s:Shared) (H:Hp) (args:Args) (us:List Value) (vs:List V) (Q:VK) (E:XK),eT k A->gH A.handled H->jO P w K mg base A outer s H->BindsTo s fd args (ps.zip us)->Vals vs us->sp vs H Q E →
  codeAny (model P w) A (.call (.ref f) args) (CR CX outer P w H s Q E) s
section
variable {X:Cx}{CX:CXT}{k:Nat}{f C:Addr}{fd:FuncData}{ps:List Str}{sp:Sp}{dvs:List V}{ds:List Value}{E:St->XK}{x m:Str}{p pos apos:Pos}{e o:Expr}{es:List Expr}{ta:TE}{t:TA}
end
end L2
set_option Elab.async false
set_option linter.all false
set_option maxRecDepth 100000
set_option maxHeartbeats 4000000
set_option exponentiation.threshold 2000
namespace Mk
def cop (m n:Int):Bool:=decide (Int.gcd n m=1)
def dif (ws:List Int):List Int:=(ws.zip (ws.drop 1)).map fun p=>p.2 - p.1
def safe (m:Int) (ws:List Int):Bool:=(ws++dif ws).all (cop m)
theorem xT (a b:Int):Int.gcd b (a % b)=Int.gcd a b:=by
 rw [Int.emod_def,Int.gcd_sub_mul_left_right,Int.gcd_comm]
theorem rD {m:Int}{ws:List Int}:safe m ws=true ↔ (∀ w∈ws,cop m w=true)/\∀ (j:Nat) a b,ws[j]?=some a->ws[j + 1]?=some b->cop m (b - a)=true:=by
 unfold safe
 rw [List.all_append,Bool.and_eq_true,List.all_eq_true,List.all_eq_true]
 refine and_congr Iff.rfl ⟨fun h j a b ha hb=>?_,fun h x hx=>?_⟩
 ·refine h (b - a) (List.mem_map.mpr ⟨(a,b),?_,rfl⟩)
  refine List.mem_of_getElem? (i:=j) ?_
  rw [List.getElem?_zip_eq_some]
  exact ⟨ha,by rw [List.getElem?_drop,Nat.add_comm];exact hb⟩
 ·unfold dif at hx
  obtain ⟨⟨a,b⟩,hp,rfl⟩:=List.mem_map.mp hx
  obtain ⟨j,hj⟩:=List.getElem?_of_mem hp
  rw [List.getElem?_zip_eq_some] at hj
  exact h j a b hj.1 (by have:=hj.2;rw [List.getElem?_drop,Nat.add_comm] at this;exact this)
def big:Int:=314159265358979323846264338327950288419716939937510582097494
def ofN (n:Nat):List Int:=(List.range n).map fun (k:Nat)=>(k:Int)
theorem jy (n:Nat):(ofN n).length=n:=by simp [ofN]
theorem iM {n:Nat}{x:Int}:x∈ofN n ↔ 0<=x/\x < n:=by
 unfold ofN
 rw [List.mem_map]
 constructor
 ·rintro ⟨k,hk,rfl⟩
  have:=List.mem_range.mp hk
  omega
 ·rintro ⟨h1,h2⟩
  exact ⟨x.toNat,List.mem_range.mpr (by omega),by omega⟩
def qu (m:Int) (found:List Int):List Int:=(ofN m.toNat).filter fun w=>cop m w && (found.isEmpty || cop m (w - found.getLastD 0))
def cT (m:Int) (found:List Int):List Int:=if qu m found=[] then ofN m.toNat else qu m found
def iV (m:Int):Nat->Int->List Int->List Int
 | 0,_,found=>found
 | n + 1,c,found=>iV m n (c / 7) (found++[(cT m found).getD (c % ((cT m found).length:Int)).toNat 0])
def wts (c m:Int) (n:Nat):List Int:=iV m n c []
theorem rq {m:Int}{found:List Int}{x:Int} (h:x∈cT m found):0<=x/\x < m:=by
 unfold cT at h
 split at h
 ·have:=iM.mp h;omega
 ·have:=iM.mp (List.mem_filter.mp h).1;omega
theorem rz {m:Int} (hm:0 < m) (found:List Int):0 < (cT m found).length:=by
 unfold cT
 split
 ·rw [jy];omega
 ·rename_i h
  exact List.length_pos_iff.mpr h
theorem uK {m:Int} (hm:0 < m) (found:List Int) (c:Int):0<=c % ((cT m found).length:Int)/\c % ((cT m found).length:Int) < ((cT m found).length:Int):=by
 have:=rz hm found
 exact ⟨Int.emod_nonneg _ (by omega),Int.emod_lt_of_pos _ (by omega)⟩
theorem rp {m:Int} (hm:0 < m) (found:List Int) (c:Int):(cT m found).getD (c % ((cT m found).length:Int)).toNat 0∈cT m found:=by
 obtain ⟨h1,h2⟩:=uK hm found c
 have h3:(c % ((cT m found).length:Int)).toNat < (cT m found).length:=by omega
 rw [List.getD_eq_getElem?_getD,List.getElem?_eq_getElem h3]
 exact List.getElem_mem h3
theorem oO (m:Int):∀ (n:Nat) (c:Int) (found:List Int),(iV m n c found).length=found.length + n
 | 0,_,_=>rfl
 | n + 1,c,found=>by
  unfold iV
  rw [oO m n,List.length_append,List.length_singleton];omega
theorem AU (c m:Int) (n:Nat):(wts c m n).length=n:=by unfold wts;rw [oO];simp
theorem oP {m:Int} (hm:0 < m):∀ (n:Nat) (c:Int) (found:List Int),(∀ x∈found,0<=x/\x < m)->∀ x∈iV m n c found,0<=x/\x < m
 | 0,_,_,h=>h
 | n + 1,c,found,h=>by
  unfold iV
  refine oP hm n _ _ fun x hx=>?_
  rcases List.mem_append.mp hx with hx | hx
  ·exact h x hx
  ·rw [List.mem_singleton] at hx;subst hx;exact rq (rp hm found c)
theorem AV {m:Int} (hm:0 < m) (c:Int) (n:Nat):∀ x∈wts c m n,0<=x/\x < m:=oP hm n c [] (fun _ h=>by cases h)
def Dg (m:Int):Nat->Int->List Int
 | 0,_=>[]
 | n + 1,c=>c % m::Dg m n (c / 31)
def w1 (n m:Int):List Int:=wts (n / 100) m (3 + n % 6).toNat
def w2 (n m:Int):List Int:=if n / 6 % 4=1 then (w1 n m).set (n / 24 % ((w1 n m).length:Int)).toNat (n / 200 % m) else w1 n m
def w3 (n m:Int):List Int:=if n / 6 % 4=2 then Dg m (w2 n m).length (n / 100) else w2 n m
def w4 (n m:Int):List Int:=if n / 6 % 4=3/\n / 24 % 2=1 then List.replicate (w3 n m).length (n / 48 % m) else w3 n m
def CZ (k:Nat):Int:=if k % 2=0 then 1 else 2
def alt (n:Nat):List Int:=(List.range n).map CZ
theorem v8:∀ m:Nat,m < 27->3<=m->cop (m:Int) 0=false/\cop (m:Int) 1=true/\cop (m:Int) (-1)=true/\cop (m:Int) 2=decide (m % 2=1):=by decide +kernel
def fits (m:Int) (ws:List Int):List Int:=(ofN m.toNat).filter fun w=>safe m (ws.drop (ws.length - 1)++[w])
end Mk

namespace Mk
def dot:List Int->List Int->Int
 | a::r,b::t=>a * b + dot r t
 | _,_=>0
def good (m:Int) (ws:List Int) (r:Int) (ps:List Int):Bool:=decide ((dot ws ps - r) % m=0)
end Mk

namespace Mk
end Mk

namespace Mk
theorem wx {m x:Int}{l:List Int} (h:safe m l=true) (hx:cop m x=true) (hl:l=[] ∨ cop m (x - l.getLastD 0)=true):safe m (l++[x])=true:=by
 rw [rD] at h ⊢
 refine ⟨fun w hw=>?_,fun j a b ha hb=>?_⟩
 ·rcases List.mem_append.mp hw with hw | hw
  ·exact h.1 w hw
  ·rw [List.mem_singleton.mp hw];exact hx
 ·by_cases h1:j + 1 < l.length
  ·rw [List.getElem?_append_left (by omega)] at ha
   rw [List.getElem?_append_left h1] at hb
   exact h.2 j a b ha hb
  ·have hj:=(List.getElem?_eq_some_iff.mp hb).1
   rw [List.length_append,List.length_singleton] at hj
   have e:j + 1=l.length:=by omega
   rw [List.getElem?_append_left (by omega)] at ha
   rw [List.getElem?_append_right (by omega),e,Nat.sub_self] at hb
   have hne:l≠[]:=fun e2=>by rw [e2] at e;simp at e
   have e3:l.getLastD 0=a:=by
    rw [List.getLastD_eq_getLast?,List.getLast?_eq_getElem?,show l.length - 1=j by omega,ha];rfl
   have e4:x=b:=by simpa using hb
   subst e4
   rw [← e3]
   exact hl.resolve_left hne
theorem yz:∀ m:Nat,m < 27->3<=m->m % 2=1->∀ w:Nat,w < m->cop (m:Int) (w:Int)=true->(cop (m:Int) (((2 * w) % m:Nat):Int) && cop (m:Int) ((((2 * w) % m:Nat):Int) - (w:Int)))=true:=by decide +kernel
theorem xq {m:Int} (h3:3<=m) (h26:m<=26) (ho:m % 2=1) {l:List Int} (hb:∀ x∈l,0<=x/\x < m) (hc:∀ x∈l,cop m x=true):qu m l≠[]:=by
 obtain ⟨M,rfl⟩:=Int.eq_ofNat_of_zero_le (show 0<=m by omega)
 intro e
 unfold qu at e
 rw [List.filter_eq_nil_iff] at e
 by_cases hl:l=[]
 ·subst hl
  exact e 1 (iM.mpr ⟨by decide,by omega⟩) (by rw [(v8 M (by omega) (by omega)).2.1];rfl)
 ·have hm:l.getLastD 0∈l:=by
   rw [List.getLastD_eq_getLast?,List.getLast?_eq_some_getLast hl]
   exact List.getLast_mem hl
  have h1:=hb _ hm
  have h2:=hc _ hm
  generalize l.getLastD 0=w at e h1 h2
  obtain ⟨W,rfl⟩:=Int.eq_ofNat_of_zero_le h1.1
  have h4:=yz M (by omega) (by omega) (by omega) W (by omega) h2
  rw [Bool.and_eq_true] at h4
  refine e (((2 * W) % M:Nat):Int) (iM.mpr ⟨by omega,?_⟩) ?_
  ·have:=Nat.mod_lt (2 * W) (show 0 < M by omega)
   omega
  ·rw [h4.1,h4.2,Bool.or_true];rfl
theorem nj {m:Int} (h3:3<=m) (h26:m<=26) (ho:m % 2=1):∀ (n:Nat) (c:Int) (l:List Int),(∀ x∈l,0<=x/\x < m)->safe m l=true->safe m (iV m n c l)=true
 | 0,_,_,_,h=>h
 | n + 1,c,l,hb,h=>by
  unfold iV
  have hp:=rp (show 0 < m by omega) l c
  generalize (cT m l).getD (c % ((cT m l).length:Int)).toNat 0=x at hp
  have hx:=rq hp
  have hc:=xq h3 h26 ho hb (rD.mp h).1
  unfold cT at hp
  rw [if_neg hc] at hp
  unfold qu at hp
  have hq:=(List.mem_filter.mp hp).2
  rw [Bool.and_eq_true,Bool.or_eq_true] at hq
  refine nj h3 h26 ho n _ _ (fun y hy=>?_) (wx h hq.1 ?_)
  ·rcases List.mem_append.mp hy with hy | hy
   ·exact hb y hy
   ·rw [List.mem_singleton.mp hy];exact hx
  ·rcases hq.2 with e | e
   ·exact .inl (List.isEmpty_iff.mp e)
   ·exact .inr e
theorem zH {m:Int} (h3:3<=m) (h26:m<=26) (ho:m % 2=1) (c:Int) (n:Nat):safe m (wts c m n)=true:=nj h3 h26 ho n c [] (fun _ h=>by cases h) rfl
section
variable {m r k:Int}{ws:List Int} (h0:0 < m) (h26:m<=26) (hm:∀ x∈ws,0<=x/\x < m) (hs:safe m ws=true) (hl:1<=ws.length)
include h0 h26 hm hs hl
omit h26 hm hs hl in
end
end Mk

namespace L2
open PySem PySem.Spec PyProof.Rows
def clo (cells:List (Str × Addr)):List (Str × NameKind)->List (Str × Addr)->Option (List (Str × Addr))
 | [],acc=>some acc
 | (n,k)::r,acc=>if k == .free then (match cells.lookup n with | some c=>clo cells r ((n,c)::acc) | none=>none) else clo cells r acc
theorem lE {env:Env}:∀ (names:List (Str × NameKind)) (acc cl:List (Str × Addr)),clo env.cells names acc=some cl →
  (forIn names acc fun (x:Str × NameKind) (cs:List (Str × Addr))=>(if x.2 == .free then do let c ← cellOf env x.1;pure (ForInStep.yield ((x.1,c)::cs)) else pure (ForInStep.yield cs):Sem (ForInStep (List (Str × Addr)))))=pure cl
 | [],acc,cl,h=>by
  have e:acc=cl:=Option.some.inj h
  subst e;rfl
 | (n,k)::r,acc,cl,h=>by
  rw [List.forIn_cons]
  unfold clo at h
  by_cases hk:(k == NameKind.free)=true
  ·rw [if_pos hk] at h
   cases hc:env.cells.lookup n with
   | none=>rw [hc] at h;cases h
   | some c =>
    rw [hc] at h
    have ih:=lE (env:=env) r ((n,c)::acc) cl h
    have e1:cellOf env n=pure c:=by unfold cellOf;rw [hc]
    simp only [hk,if_true,e1,pure_bind]
    exact ih
  ·rw [if_neg hk] at h
   have ih:=lE (env:=env) r acc cl h
   simp only [hk,if_false,pure_bind,Bool.false_eq_true]
   exact ih
theorem dH {scope:Scope}{env:Env}{cl:List (Str × Addr)} (h:clo env.cells scope.names []=some cl):closureFor scope env=pure cl:=by
 have e:=lE (env:=env) scope.names [] cl h
 unfold closureFor
 simp only [bind_pure]
 first
  | exact e
  | (simp only [bind_pure_comp,map_pure] at e ⊢;exact e)
  | (rw [show (fun (x:Str × NameKind) (r:List (Str × Addr))=>_)=_ from rfl];exact e)
theorem iK {cells:List (Str × Addr)}:∀ (names:List (Str × NameKind)) (acc cl:List (Str × Addr)),clo cells names acc=some cl →
  (∀ x c,acc.lookup x=some c->cells.lookup x=some c)->∀ x c,cl.lookup x=some c->cells.lookup x=some c
 | [],acc,cl,h,ha=>by
  have e:acc=cl:=Option.some.inj h
  subst e;exact ha
 | (n,k)::r,acc,cl,h,ha=>by
  unfold clo at h
  by_cases hk:(k == NameKind.free)=true
  ·rw [if_pos hk] at h
   cases hc:cells.lookup n with
   | none=>rw [hc] at h;cases h
   | some c =>
    rw [hc] at h
    refine iK r ((n,c)::acc) cl h fun x c' e=>?_
    rw [List.lookup_cons] at e
    by_cases hx:(x == n)=true
    ·rw [hx] at e
     have e':c=c':=Option.some.inj e
     subst e'
     have:x=n:=eq_of_beq hx
     subst this;exact hc
    ·rw [Bool.not_eq_true] at hx
     rw [hx] at e
     exact ha x c' e
  ·rw [if_neg hk] at h
   exact iK r acc cl h ha
theorem lD {cells:List (Str × Addr)}:∀ (names:List (Str × NameKind)) (acc cl:List (Str × Addr)),clo cells names acc=some cl->∀ x,(∃ c,acc.lookup x=some c)->∃ c,cl.lookup x=some c
 | [],acc,cl,h,x,hx=>by
  have e:acc=cl:=Option.some.inj h
  subst e;exact hx
 | (n,k)::r,acc,cl,h,x,hx=>by
  unfold clo at h
  by_cases hk:(k == NameKind.free)=true
  ·rw [if_pos hk] at h
   cases hc:cells.lookup n with
   | none=>rw [hc] at h;cases h
   | some c =>
    rw [hc] at h
    refine lD r ((n,c)::acc) cl h x ?_
    rw [List.lookup_cons]
    by_cases hxn:(x == n)=true
    ·rw [hxn];exact ⟨c,rfl⟩
    ·rw [Bool.not_eq_true] at hxn
     rw [hxn];exact hx
  ·rw [if_neg hk] at h
   exact lD r acc cl h x hx
theorem iJ {cells:List (Str × Addr)}:∀ (names:List (Str × NameKind)) (acc cl:List (Str × Addr)),clo cells names acc=some cl->∀ x,(x,NameKind.free)∈names->∃ c,cl.lookup x=some c
 | [],_,_,_,x,hx=>by cases hx
 | (n,k)::r,acc,cl,h,x,hx=>by
  unfold clo at h
  by_cases hk:(k == NameKind.free)=true
  ·rw [if_pos hk] at h
   cases hc:cells.lookup n with
   | none=>rw [hc] at h;cases h
   | some c =>
    rw [hc] at h
    rcases List.mem_cons.mp hx with e | hx
    ·have e1:x=n:=congrArg Prod.fst e
     subst e1
     exact lD r ((x,c)::acc) cl h x ⟨c,by rw [List.lookup_cons,beq_self_eq_true]⟩
    ·exact iJ r _ cl h x hx
  ·rw [if_neg hk] at h
   rcases List.mem_cons.mp hx with e | hx
   ·cases e
    exact absurd (by rfl) hk
   ·exact iJ r acc cl h x hx
theorem ft {env:Env}:∀ {names:List (Str × NameKind)}{x:Str}{k':NameKind},
  (names.map fun (n,k)=>if (k == NameKind.free && env.scope.kind == .function && env.kindOf n == some .cell) then (n,NameKind.cell) else (n,k)).lookup x=some k'->(x,k')∈names ∨ (k'=.cell/\(x,NameKind.free)∈names)
 | [],_,_,h=>by cases h
 | (n,k)::r,x,k',h=>by
  have ih:=@ft env r x k'
  by_cases hc:(k == NameKind.free && env.scope.kind == .function && env.kindOf n == some .cell)=true
  ·have h2:(((n,NameKind.cell)::(r.map fun (n,k)=>if (k == NameKind.free && env.scope.kind == .function && env.kindOf n == some .cell) then (n,NameKind.cell) else (n,k))).lookup x)=some k':=by
    rw [← h,List.map_cons];simp only [hc,if_true]
   rw [List.lookup_cons] at h2
   by_cases hx:(x == n)=true
   ·rw [hx] at h2
    have e:NameKind.cell=k':=Option.some.inj h2
    have e2:x=n:=eq_of_beq hx
    have e3:k=.free:=by
     simp only [Bool.and_eq_true] at hc
     exact eq_of_beq hc.1.1
    subst e e2 e3
    exact .inr ⟨rfl,List.mem_cons_self⟩
   ·rw [Bool.not_eq_true] at hx
    rw [hx] at h2
    rcases ih h2 with q | ⟨e,q⟩
    ·exact .inl (List.mem_cons_of_mem _ q)
    ·exact .inr ⟨e,List.mem_cons_of_mem _ q⟩
  ·have h2:(((n,k)::(r.map fun (n,k)=>if (k == NameKind.free && env.scope.kind == .function && env.kindOf n == some .cell) then (n,NameKind.cell) else (n,k))).lookup x)=some k':=by
    rw [← h,List.map_cons];simp only [hc,if_false,Bool.false_eq_true]
   rw [List.lookup_cons] at h2
   by_cases hx:(x == n)=true
   ·rw [hx] at h2
    have e:k=k':=Option.some.inj h2
    have e2:x=n:=eq_of_beq hx
    subst e e2
    exact .inl List.mem_cons_self
   ·rw [Bool.not_eq_true] at hx
    rw [hx] at h2
    rcases ih h2 with q | ⟨e,q⟩
    ·exact .inl (List.mem_cons_of_mem _ q)
    ·exact .inr ⟨e,List.mem_cons_of_mem _ q⟩
abbrev Cx.blk (X:Cx) (N':List Str) (scope:Scope) (cl:List (Str × Addr)) (C:Addr) (s₀:Shared) (H₀:Hp) (ex:List Addr):Cx :=
 { X with N:=N',s₀:=s₀,H₀:=H₀,env:=compEnvC scope cl C X.env,outer:=X.stack,stack:=X.stack,ex:=ex,fn:=fun _=>false,pn:=[],xe:=fun _ _=>False }
inductive jP (X:Cx):List Str->List Nat->Prop
 | nil:jP X [] []
 | cons {x:Str}{j:Nat}{xs:List Str}{js:List Nat}:X.N[j]?=some x->(X.env.kindOf x=some .cell ∨ X.env.kindOf x=some .free)->jP X xs js->jP X (x::xs) (j::js)
theorem jP.get {X:Cx}:∀ {xs:List Str}{js:List Nat}{i:Nat}{x:Str},jP X xs js->xs[i]?=some x->∃ j,js[i]?=some j/\X.N[j]?=some x/\(X.env.kindOf x=some .cell ∨ X.env.kindOf x=some .free)
 | _,_,_,_,.nil,e=>by simp at e
 | _,_,0,_,.cons a b _,e=>by simp at e;subst e;exact ⟨_,rfl,a,b⟩
 | _,_,i + 1,x,.cons _ _ t,e=>by
  obtain ⟨j,h1,h2⟩:=jP.get (i:=i) (x:=x) t (by simpa using e)
  exact ⟨j,by simpa using h1,h2⟩
theorem jP.len {X:Cx}:∀ {xs:List Str}{js:List Nat},jP X xs js->xs.length=js.length
 | _,_,.nil=>rfl
 | _,_,.cons _ _ t=>by rw [List.length_cons,List.length_cons,t.len]
def ef (k:Nat) (js:List Nat) (σ:St):St:=List.replicate k none++js.map fun j=>(σ[j]?).join
def PIf (X:Cx) (ifs:List Expr) (t:TT):Prop :=
 ∀ (pins:List (Addr × Obj)) (s:Shared) (σ:St) (H:Hp) (Q:Bool->Hp->Prop),Inv X pins σ H s->t σ H Q →
  wpAny (model X.prog X.w) X.A (forIn ifs true fun c r=>if r=true then do let ok ← isTrue c X.env (eval c X.env);pure (ForInStep.yield ok) else pure (ForInStep.yield r)) (TP X pins σ Q) X.xe s
def wC:TT:=fun _ H Q=>Q true H
theorem eS {X:Cx}:PIf X [] wC:=fun _ _ _ H _ I h=>wpAny_tests_nil ⟨H,I,h⟩
theorem pK {X:Cx}{c:Expr}{t:TT} (h:PT X c t):PIf X [c] t:=fun pins s σ H Q I q=>wpAny_tests_one (h pins s σ H Q I q)
section
variable {prog:Program}{w:World}{A:Around}{R:Result->Shared->Prop}{s:Shared}
theorem ko {elt target iter:Expr}{ifs:List Expr}{scope:Scope}{pos:Pos}{it acc:Value}{env:Env} (I:Nat->Shared->Prop)
  (turn:∀ n s,I n s->wpAny (model prog w) A (pyNext it) (fun r s₁=>match r with
   | none=>R (.ok .next) s₁
   | some v=>wpAny (model prog w) A (letOwnedTupleGo target it v) (fun _ s₀=>wpAny (model prog w) A (assign target env v) (fun _ s₂ =>
     wpAny (model prog w) A (forIn ifs true fun c r=>if r=true then do let ok ← isTrue c env (eval c env);pure (ForInStep.yield ok) else pure (ForInStep.yield r)) (fun ok s₃ =>
      if ok=true then wpAny (model prog w) A (eval elt env) (fun x s₄ =>
       wpAny (model prog w) A (call (.builtin "list.append") [acc,x]) (fun _ s₅=>∃ m,m < n/\I m s₅) (fun _ _=>False) s₄) (fun _ _=>False) s₃
      else ∃ m,m < n/\I m s₃) (fun _ _=>False) s₂) (fun _ _=>False) s₀) (fun _ _=>False) s₁) (fun _ _=>False) s)
  (n:Nat) (h:I n s) :
  codeAny (model prog w) A (.compLoop (.ListComp elt [⟨target,iter,ifs,0⟩] scope pos) 0 it acc env) R s:=by
 refine codeAny_loop rfl I (fun n s hI=>?_) n h
 show wpAny _ A ((compTurn (.ListComp elt [⟨target,iter,ifs,0⟩] scope pos) 0 it acc env).onRaise (fun x=>do noteFrame x env;theTreesLotGoes x)) _ _ s
 refine wpAny_noted ?_
 rw [compTurn_list]
 refine wpAny_bind (wpAny_standAt (wpAny_bind (wpAny_mono (turn n s hI) (fun r s₁ h₁=>?_) fun _ _ h'=>h'.elim)))
 cases r with
 | none=>exact wpAny_pure h₁
 | some v =>
  refine wpAny_bind (wpAny_mono h₁ (fun _ s₀ h₀=>?_) fun _ _ h'=>h'.elim)
  refine wpAny_bind (wpAny_mono h₀ (fun _ s₂ h₂=>wpAny_bind (wpAny_mono h₂ (fun ok s₃ h₃=>?_) fun _ _ h'=>h'.elim)) fun _ _ h'=>h'.elim)
  cases ok with
  | false=>exact wpAny_pure ⟨rfl,h₃⟩
  | true =>
   exact wpAny_bind (wpAny_bind (wpAny_mono h₃ (fun x s₄ h₄=>wpAny_bind (wpAny_mono h₄ (fun _ s₅ h₅=>wpAny_pure (wpAny_pure ⟨rfl,h₅⟩)) fun _ _ h'=>h'.elim)) fun _ _ h'=>h'.elim))
end
def dm (g:TG) (tc:TT) (te:TE) (σ':St) (J:It) (H1:Hp) (Q:VK):Prop :=
 ∀ D,H1 D=none->∃ W:Nat->Nat->List V->St->Hp->Prop,(∃ m,W 0 m [] σ' (upd H1 D (.lst [])))/\∀ i m ys σ1 H,W i m ys σ1 H->H D=some (.lst ys)/\ys.length < sizeLine ∧
  ((J.stop i H/\Q (.ref D) H) ∨ (J.go i H/\∀ x H',J.yld i H x H'->g x σ1 H' fun σ2 H2=>tc σ2 H2 fun b H3 =>
   if b=true then te σ2 H3 fun v H4=>H4 D=some (.lst ys)/\∃ m',m' < m/\W (i + 1) m' (ys++[v]) σ2 (upd H4 D (.lst (ys++[v]))) else ∃ m',m' < m/\W (i + 1) m' ys σ2 H3))
structure n4 (X:Cx) (scope:Scope) (cl:List (Str × Addr)):Prop where
 clo:L2.clo X.env.cells scope.names []=some cl
 cell:∀ y∈scope.names,y.2≠.cell
 kind:scope.kind=.function
 names:∀ y∈scope.names,y.2=.local->scope.names.lookup y.1=some .local
section
variable {X:Cx}{pins:List (Addr × Obj)}{σ:St}{H1:Hp}{s₂:Shared}{E:Value->Shared->Prop}
theorem Inv.Bg {scope:Scope}{cl:List (Str × Addr)}{N':List Str}{C:Addr}{fp:List Addr} (I:Inv X pins σ H1 s₂) (B:n4 X scope cl) (hC:s₂.heap.objs.size<=C) (hf:∀ b∈fp,gG X pins H1 b)
  (ho:∀ b∈fp,∃ o,s₂.heap.get? b=some o):(X.blk N' scope cl C s₂ H1 fp).Ok:=by
 have sub:=iK scope.names [] cl B.clo (fun x c e=>by cases e)
 refine ⟨I.ok.mod,B.kind,I.ok.glob,I.ok.blt,hC,fun x y c h1 h2=>I.ok.inj x y c (sub x c h1) (sub y c h2),fun x hx=>?_,fun x c h=>?_,I.ok.hd,I.ok.frames,.inl rfl,fun b hb=>⟨?_,fun x c e=>?_⟩,I.bs,
  Nat.le_trans I.ok.bsz I.sz,fun b o e hb=>?_,fun b hb hs=>?_,I.stack,I.lu⟩
 ·have hx':(compEnvC scope cl C X.env).kindOf x=some .cell ∨ (compEnvC scope cl C X.env).kindOf x=some .free:=hx
  have key:∀ k',(compEnvC scope cl C X.env).kindOf x=some k'->(k'=.cell ∨ k'=.free)->∃ c,cl.lookup x=some c:=fun k' e hk=>by
   have e':(scope.names.map fun (n,k)=>if (k == NameKind.free && X.env.scope.kind == .function && X.env.kindOf n == some .cell) then (n,NameKind.cell) else (n,k)).lookup x=some k':=e
   rcases ft e' with q | ⟨_,q⟩
   ·rcases hk with rfl | rfl
    ·exact absurd rfl (B.cell _ q)
    ·exact iJ scope.names [] cl B.clo x q
   ·exact iJ scope.names [] cl B.clo x q
  rcases hx' with hx' | hx'
  ·exact key _ hx' (.inl rfl)
  ·exact key _ hx' (.inr rfl)
 ·exact absurd h Bool.false_ne_true
 ·obtain ⟨o,e⟩:=ho b hb
  exact Nat.ne_of_lt (Nat.lt_of_lt_of_le (Heap.lt_size e) hC)
 ·exact (hf b hb).2.2.2.2.1 x c (sub x c e)
 ·rcases (hf b hb).2.2.2.1 with z | z
  ·exact I.ok.noex b o e z
  ·exact absurd (Nat.lt_of_lt_of_le (Heap.lt_size e) (Nat.le_trans I.ok.bsz z)) (Nat.lt_irrefl _)
 ·rcases List.mem_cons.mp (I.mZ b hs) with z | z
  ·exact (hf b hb).2.1 z
  ·exact (hf b hb).2.2.1 z
theorem ug {elt target iter:Expr}{ifs:List Expr}{scope:Scope}{pos:Pos}{cl:List (Str × Addr)}{own frn:List Str}{js:List Nat}{g:TG}{tc:TT}{te:TE}{Q:VK}{it:Addr}{fp:List Addr}{tn:Nat->Heap->Prop}{J:It}
  {RR:Value->Addr->Result->Shared->Prop} (hc:X.calm=true) (B:n4 X scope cl) (hfr:jP X frn js) (hloc:∀ x∈frn,scope.names.lookup x≠some .local)
  (hg:∀ C s₀ H₀ ex,PG (X.blk (own++frn) scope cl C s₀ H₀ ex) target g) (hi:∀ C s₀ H₀ ex,PIf (X.blk (own++frn) scope cl C s₀ H₀ ex) ifs tc) (he:∀ C s₀ H₀ ex,PE (X.blk (own++frn) scope cl C s₀ H₀ ex) elt te)
  (I:Inv X pins σ H1 s₂) (T:Turn X.prog X.w X.K target J fp it tn) (st0:tn 0 s₂.heap) (hf:∀ b∈fp,gG X pins H1 b) (hq:dm g tc te (ef own.length js σ) J H1 Q)
  (fin:∀ D C s' H' m,s₂.heap.objs.size<=C->Inv X pins σ H' s'->s'.heap.Ns C m->gG X pins H' C->Q (.ref D) H'->RR (.ref D) C (.ok .next) s') :
  wpAny (model X.prog X.w) X.A (newList []) (fun acc s₃=>wpAny (model X.prog X.w) X.A (newFunctionEnv scope X.env.globals cl [] X.env.qual none .none (some X.env)) (fun cenv s₄ =>
   codeAny (model X.prog X.w) X.A (.compStart (.ListComp elt [⟨target,iter,ifs,0⟩] scope pos) 0 (.ref it) acc { cenv with scope:=relabel scope X.env }) (RR acc cenv.locals) s₄) E s₃) E s₂:=by
 have sub:=iK scope.names [] cl B.clo (fun x c e=>by cases e)
 refine wpAny_newObj_type (wpAny_newFunctionEnv B.cell (by intro y hy;simp at hy) (fun h₁ hns₁ hsb₁=>?_) B.kind)
 dsimp only at hns₁ hsb₁ ⊢
 generalize hH2:s₂.heap.push { cls:=.type "list",dict:=none,data:=.seq ([]:List Value).toArray }=H2 at hns₁ hsb₁ ⊢
 have hC:H2.objs.size=s₂.heap.objs.size + 1:=by rw [← hH2,Heap.size_push]
 have hDC:s₂.heap.objs.size≠H2.objs.size:=by rw [hC];exact Nat.ne_of_lt (Nat.lt_succ_self _)
 have hCle:s₂.heap.objs.size<=H2.objs.size:=by rw [hC];exact Nat.le_succ _
 have below:∀ b,b < s₂.heap.objs.size->b≠H2.objs.size/\b≠s₂.heap.objs.size:=fun b hb=>⟨by rw [hC];exact Nat.ne_of_lt (Nat.lt_succ_of_lt hb),Nat.ne_of_lt hb⟩
 have old:∀ b o,s₂.heap.get? b=some o->h₁.get? b=some o:=fun b o e=>hsb₁.extBut b o (below b (Heap.lt_size e)).1 (Heap.get?_push_of_some _ (hH2 ▸ Heap.get?_push_of_some _ e))
 have hacc:h₁.get? s₂.heap.objs.size=some { cls:=.type "list",dict:=none,data:=.seq ([]:List Value).toArray }:=hsb₁.extBut _ _ hDC (Heap.get?_push_of_some _ (hH2 ▸ Heap.get?_push_size _ rfl))
 have hfo:∀ b∈fp,∃ o,s₂.heap.get? b=some o/\∀ v,o.data≠.cell v:=T.obj 0 _ st0
 have D0:H1 s₂.heap.objs.size=none:=I.hok.fresh (Nat.le_refl _)
 have C0:H1 H2.objs.size=none:=I.hok.fresh hCle
 obtain ⟨W,⟨m0,w0⟩,turn⟩:=hq _ D0
 have okX:(X.blk (own++frn) scope cl H2.objs.size s₂ H1 fp).Ok:=I.Bg (N':=own++frn) B hCle hf fun b hb=>let ⟨o,e,_⟩:=hfo b hb;⟨o,e⟩
 have I0:Inv (X.blk (own++frn) scope cl H2.objs.size s₂ H1 fp) [] (ef own.length js σ) (upd H1 s₂.heap.objs.size (.lst [])) { s₂ with heap:=h₁,toks:=s₂.toks + ([]:List (Str × Value)).length }:=by
  obtain ⟨m,hn,hl⟩:=id I.loc
  refine ⟨okX,rfl,I.bare,Un.laid old (Nat.le_refl _) D0,⟨_,hns₁,fun i x v e1 e2 e3=>?_⟩,fun x c e=>?_,?_,fun x c e=>?_,fun p hp=>?_,?_,?_⟩
  ·have e1:(own++frn)[i]?=some x:=e1
   unfold ef at e2
   by_cases hik:i < own.length
   ·rw [List.getElem?_append_left (by simpa using hik),List.getElem?_replicate,if_pos hik] at e2
    cases e2
   ·rw [List.getElem?_append_right (by simpa using hik),List.length_replicate,List.getElem?_map] at e2
    rw [List.getElem?_append_right (by omega)] at e1
    obtain ⟨j,hj,hNj,hk⟩:=hfr.get e1
    rw [hj] at e2
    have e2':(σ[j]?).join=some v:=Option.some.inj e2
    have e2'':σ[j]?=some (some v):=by
     cases q:σ[j]? with
     | none=>rw [q] at e2';cases e2'
     | some o=>rw [q] at e2';cases o with
      | none=>cases e2'
      | some y=>have:y=v:=Option.some.inj e2';rw [this]
    obtain ⟨u,r,lk⟩:=hl j x v hNj e2'' (hk.elim (fun z=>.inr (.inl z)) fun z=>.inr (.inr z))
    refine ⟨u,r,?_⟩
    rcases lk with ⟨k1,_⟩ | ⟨_,c,hcl,hcell⟩
    ·rcases hk with z | z <;> (rw [k1] at z;cases z)
    ·have hx3:(compEnvC scope cl H2.objs.size X.env).kindOf x=some .local ∨ (compEnvC scope cl H2.objs.size X.env).kindOf x=some .cell ∨ (compEnvC scope cl H2.objs.size X.env).kindOf x=some .free:=e3
     rcases hx3 with z | z
     ·exfalso
      have z':(scope.names.map fun (n,k)=>if (k == NameKind.free && X.env.scope.kind == .function && X.env.kindOf n == some .cell) then (n,NameKind.cell) else (n,k)).lookup x=some .local:=z
      rcases ft z' with q | ⟨q,_⟩
      ·exact hloc x (List.mem_of_getElem? e1) (B.names _ q rfl)
      ·cases q
     ·obtain ⟨c',hc'⟩:=okX.has x z
      have q:=sub x c' hc'
      rw [hcl] at q
      have q':c=c':=Option.some.inj q
      subst q'
      refine .inr ⟨z,c,hc',?_⟩
      obtain ⟨o,ho,hd⟩:=hcell
      exact ⟨o,old _ _ ho,hd⟩
  ·obtain ⟨v,o,ho,hd⟩:=I.cell x c (sub x c e)
   exact ⟨v,o,old _ _ ho,hd⟩
  ·show upd H1 _ _ H2.objs.size=none
   rw [aj (Ne.symm hDC)];exact C0
  ·obtain ⟨v,o,ho,hd⟩:=I.cell x c (sub x c e)
   rw [aj (below c (Heap.lt_size ho)).2];exact I.freeC x c (sub x c e)
  ·cases hp
  ·exact I.hok.laid old (Nat.le_refl _) ⟨Nat.zero_le _,[],_,.nil,hacc⟩
  ·unfold ef
   show _=(own++frn).length
   rw [List.length_append,List.length_append,List.length_replicate,List.length_map,hfr.len]
 -- the iterator's objects in the block
 have fpx:∀ {H:Hp},(∀ b∈fp,H b=none)->∀ b∈fp,gG (X.blk (own++frn) scope cl H2.objs.size s₂ H1 fp) [] H b:=fun {H} hn b hb=>by
  obtain ⟨f0,f1,f2,f3,f4,f5⟩:=hf b hb
  obtain ⟨o,e,_⟩:=hfo b hb
  refine ⟨hn b hb,(below b (Heap.lt_size e)).1,fun z=>?_,.inl hb,fun x c e=>f4 x c (sub x c e),fun p hp=>by cases hp⟩
  rcases List.mem_cons.mp (I.mZ b z) with z | z
  ·exact f1 z
  ·exact f2 z
 have st1:tn 0 h₁:=T.keep _ _ _ st0 fun b _ o e=>old b o e
 have fr0:∀ b∈fp,upd H1 s₂.heap.objs.size (.lst []) b=none:=fun b hb=>by
  obtain ⟨o,e,_⟩:=hfo b hb
  rw [aj (below b (Heap.lt_size e)).2];exact (hf b hb).1
 have loop:codeAny (model X.prog X.w) X.A (.compLoop (.ListComp elt [⟨target,iter,ifs,0⟩] scope pos) 0 (.ref it) (.ref s₂.heap.objs.size) (compEnvC scope cl H2.objs.size X.env))
   (RR (.ref s₂.heap.objs.size) H2.objs.size) { s₂ with heap:=h₁,toks:=s₂.toks + ([]:List (Str × Value)).length }:=by
  refine ko (fun n s'=>∃ i ys σ1 H,Inv (X.blk (own++frn) scope cl H2.objs.size s₂ H1 fp) [] σ1 H s'/\tn i s'.heap/\(∀ b∈fp,H b=none)/\W i n ys σ1 H) ?_ m0 ⟨0,[],_,_,I0,st1,fr0,w0⟩
  rintro n s3 ⟨i,ys,σ3,H3,I3,st3,fr3,w3⟩
  obtain ⟨hD3,hsz,alt⟩:=turn i n ys σ3 H3 w3
  rcases alt with ⟨stop,qn⟩ | ⟨go,step⟩
  ·refine thn (T.done (X.blk (own++frn) scope cl H2.objs.size s₂ H1 fp) rfl rfl rfl hc i [] s3 σ3 H3 _ I3 (fpx fr3) st3 stop) fun r s4 ⟨hr,I4⟩=>?_
   subst hr
   obtain ⟨m,hn,_⟩:=id I4.loc
   have hch:∀ b∈fp,(b∈X.ex ∨ X.s₀.heap.objs.size<=b)/\b≠X.env.locals/\(∀ x c,X.env.cells.lookup x=some c->c≠b)/\∀ p∈X.pn++pins,p.1≠b:=fun b hb=>by
    obtain ⟨f0,f1,f2,f3,f4,f5⟩:=hf b hb
    exact ⟨f3,f1,f4,f5⟩
   have IX:Inv X pins σ H3 s4:=I.qt I4.os I4.base I4.hok I4.bare hch
   exact fin _ _ s4 H3 m hCle IX hn (I.mx hCle I4.free) qn
  ·refine thn (T.item (X.blk (own++frn) scope cl H2.objs.size s₂ H1 fp) rfl rfl rfl hc i [] s3 σ3 H3 _ I3 (fpx fr3) st3 go) fun r s4 ⟨u,hr,h4⟩=>?_
   subst hr
   refine thn h4 fun _ s5 ⟨x,H5,I5,r5,y5,st5,fr5⟩=>?_
   have I5':=I5.pinned (fpx fr5) (T.obj _ _ st5)
   refine thn (hg _ _ _ _ _ s5 σ3 H5 x u _ I5' r5 (step x H5 y5)) fun _ s6 ⟨σ6,H6,I6,q6⟩=>?_
   refine thn (hi _ _ _ _ _ s6 σ6 H6 _ I6 q6) fun b s7 ⟨H7,I7,q7⟩=>?_
   have again:∀ {ys':List V}{H8:Hp}{s8:Shared}{m':Nat},Inv (X.blk (own++frn) scope cl H2.objs.size s₂ H1 fp) ([]++jh fp s5.heap) σ6 H8 s8->m' < n->W (i + 1) m' ys' σ6 H8 →
     ∃ m,m < n/\∃ i ys σ1 H,Inv (X.blk (own++frn) scope cl H2.objs.size s₂ H1 fp) [] σ1 H s8/\tn i s8.heap/\(∀ b∈fp,H b=none)/\W i m ys σ1 H:=fun {ys' H8 s8 m'} I8 hm w8=>by
    refine ⟨m',hm,i + 1,ys',σ6,H8,I8.eZ,T.keep _ _ _ st5 fun b hb o e=>(I8.pin (b,o) (List.mem_append_right _ (List.mem_append_right _ (cW hb e)))).1,fun b hb=>?_,w8⟩
    obtain ⟨o,e,d⟩:=T.obj _ _ st5 b hb
    exact (I8.pin (b,o) (List.mem_append_right _ (List.mem_append_right _ (cW hb e)))).2.1
   cases b with
   | false =>
    rw [if_neg Bool.false_ne_true] at q7 ⊢
    obtain ⟨m',hm,w7⟩:=q7
    exact again I7 hm w7
   | true =>
    rw [if_pos rfl] at q7 ⊢
    refine thn (he _ _ _ _ _ s7 σ6 H7 _ I7 q7) fun v s8 ⟨y,H8,I8,r8,hD8,m',hm,w8⟩=>?_
    refine thn (fB (X:=X.blk (own++frn) scope cl H2.objs.size s₂ H1 fp) _ s8 σ6 H8 (.ref s₂.heap.objs.size) [y] _ [v] (fun _ H9=>W (i + 1) m' (ys++[y]) σ6 H9) I8 rfl (.cons r8 .nil) ⟨_,ys,y,rfl,rfl,hD8,hsz,w8⟩) fun _ s9 ⟨_,H9,I9,_,w9⟩=>?_
    exact again I9 hm w9
 exact codeAny_compStart_list loop (T.self X.A 0 _ _ _ st1 loop)
end
def tLC (k:Nat) (js:List Nat) (wi:TI) (g:TG) (tc:TT) (te:TE):TE:=fun σ H Q=>wi σ H fun J H1=>dm g tc te (ef k js σ) J H1 Q
section
variable {X:Cx}
theorem kI {elt target iter:Expr}{ifs:List Expr}{scope:Scope}{pos:Pos}{cl:List (Str × Addr)}{frn:List Str}{js:List Nat}{wi:TI}{g:TG}{tc:TT}{te:TE} (own:List Str) (hc:X.calm=true) (B:n4 X scope cl) (hfr:jP X frn js)
  (hloc:∀ x∈frn,scope.names.lookup x≠some .local) (hi:PI X target iter wi)
  (hg:∀ C s₀ H₀ ex,PG (X.blk (own++frn) scope cl C s₀ H₀ ex) target g) (hif:∀ C s₀ H₀ ex,PIf (X.blk (own++frn) scope cl C s₀ H₀ ex) ifs tc) (he:∀ C s₀ H₀ ex,PE (X.blk (own++frn) scope cl C s₀ H₀ ex) elt te)
  (hs:∀ x,foldedSetIterable iter X.env x=pure x:=by intro _;rfl):PE X (.ListComp elt [⟨target,iter,ifs,0⟩] scope pos) (tLC own.length js wi g tc te):=by
 intro pins s σ H Q I h
 rw [eval_ListComp]
 refine wpAny_comprehension_free (use:=none) rfl hs (dH B.clo) B.kind B.names (thn (hi pins s σ H _ I h) fun v s1 h1=>thn h1 fun itv s2 h2=>?_)
 obtain ⟨it,fp,tn,J,H2,e,I2,T,st2,f2,hq⟩:=h2
 subst e
 refine ug (RR:=fun acc C=>compPost (model X.prog X.w) X.A X.xe none (EP X pins σ Q) acc C) hc B hfr hloc hg hif he I2 T st2 f2 hq ?_
 intro D C s' H' m hC I' hn fC q
 exact ⟨m,hn,fun h' sb=>⟨.ref D,H',I'.turned (t':=s'.toks) (fun b o hb e=>(sb.2 b hb).trans e) fC.1 fC.2.1 fC.2.2.2.1 fC.2.2.2.2.1 fC.2.2.2.2.2,rfl,q⟩⟩
theorem jE {elt target iter:Expr}{ifs:List Expr}{scope:Scope}{pos py spos:Pos}{y:Str}{i:Nat}{cl:List (Str × Addr)}{frn:List Str}{js:List Nat}{wi:TI}{g:TG}{tc:TT}{te:TE} (own:List Str) (hN:X.N.Nodup) (hiy:X.N[i]?=some y)
  (hy:Loc X.env.scope y) (hc:X.calm=true) (B:n4 X scope cl) (hfr:jP X frn js)
  (hloc:∀ x∈frn,scope.names.lookup x≠some .local) (hi:PI X target iter wi)
  (hg:∀ C s₀ H₀ ex,PG (X.blk (own++frn) scope cl C s₀ H₀ ex) target g) (hif:∀ C s₀ H₀ ex,PIf (X.blk (own++frn) scope cl C s₀ H₀ ex) ifs tc) (he:∀ C s₀ H₀ ex,PE (X.blk (own++frn) scope cl C s₀ H₀ ex) elt te)
  (hsw:swapsWith (.ListComp elt [⟨target,iter,ifs,0⟩] scope pos) (some (.Name y py)) spos.line X.env=pure true:=by rfl)
  (hs:∀ x,foldedSetIterable iter X.env x=pure x:=by intro _;rfl)
  (hf:X.fn y=true ∨ X.env.scope.names.lookup y=some .local:=by first | exact .inl rfl | exact .inr rfl | assumption) :
  PS X (.Assign [.Name y py] (.ListComp elt [⟨target,iter,ifs,0⟩] scope pos) spos) (wA (tLC own.length js wi g tc te) (eh i)):=by
 intro pins s σ H D I h
 rw [exec_Assign_Name_used _ _ _ _ hsw]
 refine wpAny_bind (wpAny_standAt (wpAny_bind ?_))
 show wpAny _ X.A (do let _ ← comprehension (.ListComp elt [⟨target,iter,ifs,0⟩] scope pos) scope X.env _ (newList []) false (eval iter X.env) (some (assign (.Name y py) X.env))) _ _ s
 refine wpAny_bind (wpAny_mono (wpAny_comprehension_free (use:=some (assign (.Name y py) X.env)) (Q:=fun _ s'=>SP X pins D .next s') rfl hs (dH B.clo) B.kind B.names
  (thn (hi pins s σ H _ I h) fun v s1 h1=>thn h1 fun itv s2 h2=>?_)) (fun _ s' hq=>wpAny_pure (wpAny_pure hq)) fun _ _ e=>e)
 obtain ⟨it,fp,tn,J,H2,e,I2,T,st2,f2,hq⟩:=h2
 subst e
 refine ug (Q:=fun x H1=>D.nx (σ.set i (some x)) H1) (RR:=fun acc C=>compPost (model X.prog X.w) X.A X.xe (some (assign (.Name y py) X.env)) (fun _ s'=>SP X pins D .next s') acc C) hc B hfr hloc hg hif he I2 T st2 f2 hq ?_
 intro L C s' H' m hC I' hn fC q
 show wpAny _ X.A (assign (.Name y py) X.env (.ref L)) _ _ _
 refine wpAny_assign_Name (oG (v:=.ref L) I' hN hiy hy rfl (fun s'' I'' ⟨a,sb,ha⟩=>?_) hf)
 have hCa:C≠a:=by
  rcases ha with z | z
  ·rw [z];exact fC.2.1
  ·exact fun e=>fC.2.2.2.2.1 y a z e.symm
 exact ⟨m,hn.sameBut sb hCa,fun h' sb'=>⟨_,H',I''.turned (t':=s''.toks) (fun b o hb e=>(sb'.2 b hb).trans e) fC.1 fC.2.1 fC.2.2.2.1 fC.2.2.2.2.1 fC.2.2.2.2.2,q⟩⟩
end
def It.Seq (J:It) (H1:Hp) (xs:List V):Prop :=
 ∀ H,ak H1 H->(∀ i x,xs[i]?=some x->J.go i H/\∀ y H',J.yld i H y H'->H'=H/\y=x)/\∀ i,xs.length<=i->J.stop i H
theorem iB {K:PySem.W.Frag}{a:Addr}{xs:List V}{H1:Hp} (h:SqL K H1 a xs):(Itl K a).Seq H1 xs:=fun H s =>
 ⟨fun i x e=>⟨⟨xs,x,s.seq h,e⟩,fun y H' ⟨e1,e2⟩=>⟨e1,Option.some.inj ((e2 xs (s.seq h)).symm.trans e)⟩⟩,fun i hi=>⟨xs,s.seq h,hi⟩⟩
theorem oE {H1:Hp}{n:Nat}{lo:Int}:(Itr lo n).Seq H1 ((List.range n).map fun (k:Nat)=>V.int (lo + (k:Int))):=fun H s=>by
 refine ⟨fun i x e=>?_,fun i hi=>?_⟩
 ·have hi:i < n:=by
   have:=(List.getElem?_eq_some_iff.mp e).1
   simpa using this
  rw [List.getElem?_map,List.getElem?_range hi] at e
  have e':V.int (lo + (i:Int))=x:=Option.some.inj e
  exact ⟨hi,fun y H' ⟨e1,e2⟩=>⟨e1,by rw [e2,e']⟩⟩
 ·show n<=i
  simpa using hi
theorem ak.dr {H H':Hp}{a:Addr}{o:HO} (h:ak H H') (hn:H a=none):ak H (upd H' a o):=fun b u e=>by
 rw [aj (aP e hn)];exact h b u e
theorem sC {J:It}{H1:Hp}{xs:List V}{js:List Nat}{σ:St}{tc:TT}{te:TE}{Q:VK} (hJ:J.Seq H1 xs) (hl:xs.length < sizeLine) (p:V->Bool) (f:V->V)
  (hc:∀ x∈xs,∀ H,ak H1 H->∀ R:Bool->Hp->Prop,(∀ H',ak H H'->R (p x) H')->tc (some x::js.map fun j=>(σ[j]?).join) H R)
  (he:∀ x∈xs,p x=true->∀ H,ak H1 H->∀ R:VK,(∀ H',ak H H'->R (f x) H')->te (some x::js.map fun j=>(σ[j]?).join) H R)
  (q:∀ D H,H1 D=none->ak H1 H->H D=some (.lst ((xs.filter p).map f))->Q (.ref D) H):dm (eh 0) tc te (ef 1 js σ) J H1 Q:=by
 intro D hD
 refine ⟨fun i m ys σ1 H=>m=xs.length - i/\i<=xs.length/\(∃ o,σ1=o::js.map fun j=>(σ[j]?).join)/\ys=((xs.take i).filter p).map f/\ak H1 H/\H D=some (.lst ys),
  ⟨xs.length,by simp,Nat.zero_le _,⟨none,rfl⟩,by simp,(ak.refl H1).dr hD,aq⟩,?_⟩
 rintro i m ys σ1 H ⟨rfl,hi,⟨o,rfl⟩,rfl,sH,hL⟩
 have hlen:(((xs.take i).filter p).map f).length < sizeLine:=by
  rw [List.length_map]
  have h1:=List.length_filter_le p (xs.take i)
  have h2:(xs.take i).length<=xs.length:=by rw [List.length_take];omega
  omega
 refine ⟨hL,hlen,?_⟩
 by_cases hlt:i < xs.length
 ·have e:xs[i]?=some xs[i]:=by simp [hlt]
  obtain ⟨go,yl⟩:=(hJ H sH).1 i xs[i] e
  refine .inr ⟨go,fun x H' y=>?_⟩
  obtain ⟨e1,e2⟩:=yl x H' y
  subst e1 e2
  have hm:xs[i]∈xs:=List.getElem_mem hlt
  have htk:xs.take (i + 1)=xs.take i++[xs[i]]:=by rw [List.take_add_one,e];rfl
  show tc (some xs[i]::js.map fun j=>(σ[j]?).join) H' _
  refine hc xs[i] hm H' sH _ fun H3 s3=>?_
  cases hp:p xs[i] with
  | false =>
   rw [if_neg Bool.false_ne_true]
   refine ⟨xs.length - (i + 1),by omega,rfl,hlt,⟨_,rfl⟩,?_,sH.trans s3,s3 _ _ hL⟩
   rw [htk,List.filter_append];simp [hp]
  | true =>
   rw [if_pos rfl]
   refine he xs[i] hm hp H3 (sH.trans s3) _ fun H4 s4=>?_
   refine ⟨s4 _ _ (s3 _ _ hL),xs.length - (i + 1),by omega,rfl,hlt,⟨_,rfl⟩,?_,((sH.trans s3).trans s4).dr hD,aq⟩
   rw [htk,List.filter_append];simp [hp]
 ·have e:i=xs.length:=by omega
  subst e
  refine .inl ⟨(hJ H sH).2 _ (Nat.le_refl _),q D H hD sH ?_⟩
  rw [List.take_length] at hL;exact hL
theorem Cj {J:It}{H1:Hp}{xs:List V}{js:List Nat}{σ:St}{te:TE}{Q:VK} (hJ:J.Seq H1 xs) (hl:xs.length < sizeLine) (f:V->V)
  (he:∀ x∈xs,∀ H,ak H1 H->∀ R:VK,(∀ H',ak H H'->R (f x) H')->te (some x::js.map fun j=>(σ[j]?).join) H R)
  (q:∀ D H,H1 D=none->ak H1 H->H D=some (.lst (xs.map f))->Q (.ref D) H):dm (eh 0) wC te (ef 1 js σ) J H1 Q :=
 sC hJ hl (fun _=>true) f (fun x _ H _ R hR=>hR H (ak.refl H)) (fun x hx _ H s R hR=>he x hx H s R hR) fun D H h1 h2 h3=>q D H h1 h2 (by rw [List.filter_eq_self.mpr (fun _ _=>rfl)] at h3;exact h3)
end L2

namespace L2
open PySem PySem.Spec PyProof.Rows
section
variable {X:Cx}
def BJ (i j:Int):Prop:=i.natAbs < 2 ^ 1000/\j.natAbs < 2 ^ 1000
theorem Ao:OpR X (binaryOp .Mult) (rI BJ fun i j=>.int (i * j)):=opI fun _ _ _ _ _ _ _ hc q =>
 mul_int q (IntMulOk.of_bits (Nat.le_trans (intBits_le_iff.mpr hc.1) (by decide)) (Nat.le_trans (intBits_le_iff.mpr hc.2) (by decide)))
def CU (_ j:Int):Prop:=0 < j/\j < 2 ^ 1000
theorem y7:OpR X (binaryOp .FloorDiv) (rI CU fun i j=>.int (i / j)):=opI fun i j _ _ _ _ _ hc q=>by
 have h1:(0:Int) < j:=hc.1
 have h2:j < 2 ^ 1000:=hc.2
 have h3:j.natAbs < 2 ^ 1000:=by
  have e:((j.natAbs:Nat):Int)=j:=Int.natAbs_of_nonneg (by omega)
  have e2:((2 ^ 1000:Nat):Int)=(2:Int) ^ 1000:=by rw [Int.natCast_pow];rfl
  omega
 refine floordiv_int (by omega) (by rw [Int.fdiv_eq_ediv_of_nonneg i (by omega)];exact q) (.inl (PyProof.noPylong_of_log2 ?_))
 have h4:j.natAbs≠0:=by omega
 exact Nat.lt_of_lt_of_le ((Nat.log2_lt h4).mpr h3) (by decide)
theorem y8:OpR X (compareOp .Is) (fun x y H Q=>∃ a b,x=.bl a/\y=.bl b/\Q (.bl (a == b)) H):=by
 intro pins s σ H x y v u Q I rx ry h
 obtain ⟨a,b,rfl,rfl,q⟩:=h
 cases rx;cases ry
 exact is_bool (aT I q rfl)
theorem ri:OpR X (compareOp .IsNot) (fun x y H Q=>∃ a b,x=.bl a/\y=.bl b/\Q (.bl (a != b)) H):=by
 intro pins s σ H x y v u Q I rx ry h
 obtain ⟨a,b,rfl,rfl,q⟩:=h
 cases rx;cases ry
 exact isnot_bool (aT I q rfl)
def Ei (K:PySem.W.Frag):List V->Hp->VK->Prop:=fun xs H Q=>∃ x t c b,xs=[x,.ty c]/\iW K H x t/\PySem.W.kitOne K t (.type c)=some b/\Q (.bl b) H
theorem xp:bw X (.builtin "isinstance") (Ei X.K):=by
 intro pins s σ H xs us Q I r h
 obtain ⟨x,t,c,b,rfl,ty,e,q⟩:=h
 obtain ⟨u,w',rfl,ru,rw'⟩:=vals2 r
 obtain rfl:w'=Value.type c:=rw'
 exact isinst_ok I ru ty e fun tk=>⟨.bl b,H,I.tok tk,rfl,q⟩
def jr:List V->List V->Bool
 | [],[]=>true
 | x::xs,y::ys=>eqV x y && jr xs ys
 | _,_=>false
theorem lK:∀ {xs ys:List V},xs.length≠ys.length->jr xs ys=false
 | [],[],h=>absurd rfl h
 | [],_::_,_=>rfl
 | _::_,[],_=>rfl
 | x::xs,y::ys,h=>by
  have h':xs.length≠ys.length:=fun e=>h (by rw [List.length_cons,List.length_cons,e])
  show (eqV x y && jr xs ys)=false
  rw [lK h',Bool.and_false]
theorem jb:∀ {xs ys:List V},xs.length=ys.length->(List.range xs.length).all (fun j=>eqV (xs.getD j .non) (ys.getD j .non))=jr xs ys
 | [],[],_=>rfl
 | [],_::_,h=>by cases h
 | _::_,[],h=>by cases h
 | x::xs,y::ys,h=>by
  have h':xs.length=ys.length:=by simpa using h
  rw [List.length_cons,List.range_succ_eq_map,List.all_cons,List.all_map]
  show (eqV x y && (List.range xs.length).all (fun j=>eqV (xs.getD j .non) (ys.getD j .non)))=(eqV x y && jr xs ys)
  rw [jb h']
theorem vH (xs:List Int):(xs.map V.int).all cg=true:=by
 rw [List.all_eq_true];intro v hv
 obtain ⟨i,_,rfl⟩:=List.mem_map.mp hv
 rfl
def Dt (K:PySem.W.Frag) (neg:Bool):R2:=fun x y H Q=>∃ a b xs ys,x=.ref a/\y=.ref b/\SqL K H a xs/\SqL K H b ys/\xs.all cg=true/\ys.all cg=true/\Q (.bl (if neg then !jr xs ys else jr xs ys)) H
theorem lJ {A:Around}{s:Shared}{xs ys:List V}{us vs:List Value} (r1:Vals xs us) (r2:Vals ys vs) (f1:xs.all cg=true) (f2:ys.all cg=true) (j:Nat) (h1:j < us.toArray.size) (h2:j < vs.toArray.size) :
  SeqAt.EqAt A s us.toArray[j] vs.toArray[j] (eqV (xs.getD j .non) (ys.getD j .non)):=by
 have l1:=r1.length
 have l2:=r2.length
 rw [List.size_toArray] at h1 h2
 have e1:xs[j]?=some (xs[j]'(by omega)):=by simp [show j < xs.length by omega]
 have e2:ys[j]?=some (ys[j]'(by omega)):=by simp [show j < ys.length by omega]
 obtain ⟨u,hu,ru⟩:=r1.get e1
 obtain ⟨v,hv,rv⟩:=r2.get e2
 have hu':us.toArray[j]=u:=by
  have:=List.getElem?_eq_some_iff.mp hu
  simpa using this.2
 have hv':vs.toArray[j]=v:=by
  have:=List.getElem?_eq_some_iff.mp hv
  simpa using this.2
 rw [hu',hv',List.getD_eq_getElem?_getD,List.getD_eq_getElem?_getD,e1,e2]
 exact ja ru rv (List.all_eq_true.mp f1 _ (List.getElem_mem _)) (List.all_eq_true.mp f2 _ (List.getElem_mem _))
theorem Cr (hu:X.A.units < cLine):OpR X (compareOp .Eq) (Dt X.K false):=by
 intro pins s σ H x y v u Q I rx ry h
 obtain ⟨a,b,xs,ys,rfl,rfl,ha,hb,f1,f2,q⟩:=h
 cases rx;cases ry
 obtain ⟨us,r1,p1,_⟩:=I.list ha
 obtain ⟨vs,r2,p2,_⟩:=I.list hb
 have l1:=r1.length
 have l2:=r2.length
 by_cases hl:xs.length=ys.length
 ·refine SeqAt.eq_listAt p1.isList p2.isList (by simp only [List.size_toArray];omega) hu (fun j h1 h2=>lJ r1 r2 f1 f2 j h1 h2) ⟨.bl _,H,I,rfl,?_⟩
  rw [List.size_toArray,← l1,jb hl];exact q
 ·refine SeqAt.eq_list_lengthsAt p1.isList p2.isList (by simp only [List.size_toArray,bne_iff_ne,ne_eq];omega) hu ⟨.bl _,H,I,rfl,?_⟩
  have e:=lK hl
  rw [if_neg Bool.false_ne_true,e] at q;exact q
theorem Cy (hu:X.A.units < cLine):OpR X (compareOp .NotEq) (Dt X.K true):=by
 intro pins s σ H x y v u Q I rx ry h
 obtain ⟨a,b,xs,ys,rfl,rfl,ha,hb,f1,f2,q⟩:=h
 cases rx;cases ry
 obtain ⟨us,r1,p1,_⟩:=I.list ha
 obtain ⟨vs,r2,p2,_⟩:=I.list hb
 have l1:=r1.length
 have l2:=r2.length
 by_cases hl:xs.length=ys.length
 ·refine SeqAt.RcNeAt.lists p1.isList p2.isList (by simp only [List.size_toArray];omega) hu (fun j h1 h2=>lJ r1 r2 f1 f2 j h1 h2) _ _ _ _ ⟨.bl _,H,I,rfl,?_⟩
  rw [List.size_toArray,← l1,jb hl];exact q
 ·refine SeqAt.RcNeAt.lists_lengths p1.isList p2.isList (by simp only [List.size_toArray,bne_iff_ne,ne_eq];omega) hu _ _ _ _ ⟨.bl _,H,I,rfl,?_⟩
  have e:=lK hl
  rw [if_pos rfl,e] at q;exact q
theorem Vals.bools:∀ {bs:List Bool}{us:List Value},Vals (bs.map V.bl) us->us=bs.map Value.bool
 | [],_,.nil=>rfl
 | b::bs,_::_,.cons r t=>by
  cases (show _=Value.bool b from r)
  rw [List.map_cons,Vals.bools t]
theorem all_range (bs:List Bool):(List.range bs.length).all (fun i=>bs.getD i false)=bs.all id:=by
 induction bs with
 | nil=>rfl
 | cons b r ih =>
  rw [List.length_cons,List.range_succ_eq_map,List.all_cons,List.all_map,List.all_cons]
  show (b && (List.range r.length).all (fun i=>r.getD i false))=_
  rw [ih];rfl
theorem rO (bs:List Bool) (A:Around) (P:Program) (w:World):TruthOf P w A (fun i v=>(bs.map Value.bool).toArray[i]?=some v) (fun i=>bs.getD i false):=fun i v s Q E hP hQ=>by
 have e:(bs[i]?).map Value.bool=some v:=by simpa using hP
 cases q:bs[i]? with
 | none=>rw [q] at e;cases e
 | some b =>
  rw [q] at e
  have e':Value.bool b=v:=Option.some.inj e
  subst e'
  have hb:bs.getD i false=b:=by rw [List.getD_eq_getElem?_getD,q];rfl
  have hQ':Q (bs.getD i false) s:=hQ
  rw [hb] at hQ'
  exact wpAny_truthy_bool hQ'
def Ds (K:PySem.W.Frag):List V->Hp->VK->Prop:=fun vs H Q=>∃ (a:Addr) (bs:List Bool),vs=[.ref a]/\SqL K H a (bs.map V.bl)/\Q (.bl (bs.all id)) H
theorem vj (hc:X.calm=true):bw X (.builtin "all") (Ds X.K):=by
 intro pins s σ H xs us Q I r h
 obtain ⟨a,bs,rfl,hq,q⟩:=h
 obtain ⟨u,rfl,ru⟩:=vals1 r
 cases ru
 obtain ⟨its,rv,p,hz⟩:=I.list hq
 obtain rfl:=rv.bools
 have ha:a < s.heap.objs.size:=by obtain ⟨o,e,_⟩:=p.isList;exact Heap.lt_size e
 refine call_all_walk (wpAny_pyIter_list p.isList ⟨s.heap.objs.size,_,_,_,_,_,fun i=>bs.getD i false,rfl,Walks.list (A:=X.A.in1) (I.ok.hd hc) _ a (Nat.ne_of_lt ha) _,⟨⟨_,Heap.get?_push_size _ rfl,rfl,rfl⟩,p.isList.push _⟩,rO bs _ _ _,fun h' tk hk=>?_⟩)
 refine ⟨.bl (bs.all id),H,I.kept fun b o e=>hk b o (fun z=>?_) (Heap.get?_push_of_some _ e),?_,q⟩
 ·have z':b=s.heap.objs.size:=by simpa using z
  exact absurd (Heap.lt_size e) (by rw [z'];exact Nat.lt_irrefl _)
 ·show Value.bool _=Value.bool _
  rw [← all_range bs];simp
def Dy:List V->Hp->VK->Prop:=fun vs H Q=>∃ j:Int,vs=[.int j]/\∀ p,H p=none->Q (.ref p) (upd H p (.rng 0 j))
theorem vw:bw X (.type "range") Dy:=by
 intro pins s σ H xs us Q I r h
 obtain ⟨j,rfl,q⟩:=h
 obtain ⟨u,rfl,t,rfl⟩:=vals1 r
 refine call_range_1 ?_
 exact ⟨.ref s.heap.objs.size,_,I.laid (fun b ob e=>Heap.get?_push_of_some _ e) (Nat.le_refl _) (show aS X.prog X.w _ _ _ (.rng 0 j) from ⟨_,_,_,Heap.get?_push_size _ rfl⟩),rfl,q _ (I.hok.fresh (Nat.le_refl _))⟩
def pO (lo:Int) (n:Nat):List V:=(List.range n).map fun (k:Nat)=>V.int (lo + (k:Int))
theorem tM {lo:Int}{n:Nat}{acc:Array Value} (h:ItemsOf (fun (i:Nat) v=>∃ t,v=Value.int (lo + (i:Int) * 1) t) acc n):Vals (pO lo n) acc.toList:=by
 obtain ⟨hs,hi⟩:=h
 have key:∀ (xs:List Value) (m:Nat),(∀ j v,xs[j]?=some v->∃ t,v=Value.int (lo + ((m + j:Nat):Int)) t)->Vals ((List.range' m xs.length).map fun (k:Nat)=>V.int (lo + (k:Int))) xs:=by
  intro xs
  induction xs with
  | nil=>intro m _;exact .nil
  | cons x r ih =>
   intro m hx
   rw [List.length_cons,List.range'_succ,List.map_cons]
   refine .cons ?_ (ih (m + 1) fun j v e=>?_)
   ·obtain ⟨t,e⟩:=hx 0 x rfl
    exact ⟨t,by simpa using e⟩
   ·obtain ⟨t,e'⟩:=hx (j + 1) v (by simpa using e)
    exact ⟨t,by rw [e'];congr 2;omega⟩
 have:=key acc.toList 0 fun j v e=>by
  obtain ⟨t,e'⟩:=hi j v (by simpa using e)
  exact ⟨t,by rw [e',Int.mul_one,Nat.zero_add]⟩
 rw [Array.length_toList,hs,← List.range_eq_range'] at this
 exact this
def yV:List V->Hp->VK->Prop:=fun vs H Q=>∃ a lo hi,vs=[.ref a]/\H a=some (.rng lo hi)/\(-(2 ^ 62)<=lo/\lo < 2 ^ 62/\-(2 ^ 62)<=hi/\hi < 2 ^ 62)/\(hi - lo).toNat<=2 ^ 20/\∀ p,H p=none->Q (.ref p) (upd H p (.lst (pO lo (hi - lo).toNat)))
theorem oU (hc:X.calm=true):bw X (.type "list") yV:=by
 intro pins s σ H xs us Q I r h
 obtain ⟨a,lo,hi,rfl,ha,⟨h1,h2,h3,h4⟩,hn,q⟩:=h
 obtain ⟨u,rfl,ru⟩:=vals1 r
 cases ru
 obtain ⟨t,u,v,e⟩:=(show aS X.prog X.w H s.heap a (.rng lo hi) from I.hok a _ ha)
 refine call_list_range (n:=(hi - lo).toNat) (I.ok.hd hc) e (small_one h1 h2 h3 h4) (by rw [rangeSize_one];split <;> omega) (by omega) fun h' tk acc c hk hS hacc=>?_
 have hv:=tM hacc
 have hlen:(pO lo (hi - lo).toNat).length<=sizeLine:=by
  unfold pO
  rw [List.length_map,List.length_range]
  exact Nat.le_trans hn (by decide)
 exact ⟨.ref s.heap.objs.size,_,I.laid hk (Nat.le_refl _) (show aS X.prog X.w _ _ _ (.lst (pO lo (hi - lo).toNat)) from ⟨hlen,acc.toList,c,hv,by simpa using hS⟩),rfl,q _ (I.hok.fresh (Nat.le_refl _))⟩
theorem Inv.va {pins:List (Addr × Obj)}{σ:St}{H:Hp}{s:Shared}{h':Heap}{t':Nat}{ch:List Addr} (I:Inv X pins σ H s) (hf:∀ b∈ch,gG X pins H b) (k:∀ b o,b ∉ ch->s.heap.get? b=some o->h'.get? b=some o) :
  Inv X pins σ H { s with heap:=h',toks:=t' }:=by
 have nch:∀ b u,H b=some u->b ∉ ch:=fun b u e z=>by rw [(hf b z).1] at e;cases e
 refine I.step (g':=s.gens) (d':=s.drawn) (ch:=ch) (fun b hb=>?_) (fun b o _ _ hc e _=>k b o hc e) (fun b o _ _ hc e _=>⟨o.slots,k b o hc e⟩) (fun _ _ _ _ n=>n) (fun b o hc e=>⟨o,k b o hc e⟩) (fun _ _ e=>e) (fun _ _ _ e=>e)
  (fun b ps e=>⟨#[],by rw [e];simp⟩) (fun m hm=>?_) (fun b u e=>?_) I.bare
 ·obtain ⟨_,f1,_,f3,f4,f5⟩:=hf b hb
  exact ⟨f3,f1,f4,f5⟩
 ·obtain ⟨o,es,ep,ho,r⟩:=hm
  exact ⟨o,es,ep,k _ o (fun z=>(hf _ z).2.1 rfl) ho,r⟩
 ·refine (I.hok b u e).ji (fun c v hc q=>k c v ?_ q) (fun _ q=>q) fun _ _ q=>q
  rcases hc with z | z
  ·rw [z];exact nch b u e
  ·exact nch c _ z
theorem Inv.vb {pins:List (Addr × Obj)}{σ:St}{H:Hp}{s:Shared}{h':Heap}{t':Nat}{ch:List Addr}{T:Addr}{o':HO} (I:Inv X pins σ H s) (hf:∀ b∈ch,gG X pins H b)
  (k:∀ b o,b ∉ ch->s.heap.get? b=some o->h'.get? b=some o) (hk2:∀ b o,s.heap.get? b=some o->∃ o',h'.get? b=some o') (hT:s.heap.objs.size<=T) (new:aS X.prog X.w (upd H T o') h' T o') :
  Inv X pins σ (upd H T o') { s with heap:=h',toks:=t' }:=by
 have nch:∀ b u,H b=some u->b ∉ ch:=fun b u e z=>by rw [(hf b z).1] at e;cases e
 have hTn:H T=none:=I.hok.fresh hT
 have neT:∀ b o,s.heap.get? b=some o->b≠T:=fun b o e=>Nat.ne_of_lt (Nat.lt_of_lt_of_le (Heap.lt_size e) hT)
 refine I.step (g':=s.gens) (d':=s.drawn) (ch:=ch) (fun b hb=>?_) (fun b o _ _ hc e _=>k b o hc e) (fun b o _ _ hc e _=>⟨o.slots,k b o hc e⟩) (fun b o _ e n=>by rw [aj (neT b o e)];exact n) (fun b o hc e=>⟨o,k b o hc e⟩)
  (fun b xs e=>by rw [aj (aP e hTn)];exact e) (fun b u xs e=>by rw [aj (aP e hTn)];exact e) (fun b ps e=>⟨#[],by rw [aj (aP e hTn),e];simp⟩) (fun m hm=>?_) (fun b u e=>?_) I.bare
 ·obtain ⟨_,f1,_,f3,f4,f5⟩:=hf b hb
  exact ⟨f3,f1,f4,f5⟩
 ·obtain ⟨o,es,ep,ho,r⟩:=hm
  exact ⟨o,es,ep,k _ o (fun z=>(hf _ z).2.1 rfl) ho,r⟩
 ·by_cases hb:b=T
  ·subst hb;rw [aq] at e;cases e;exact new
  ·rw [aj hb] at e
   refine (I.hok b u e).ji (fun c v hc q=>k c v ?_ q) (fun c q=>by rw [aj (aP q hTn)];exact q) fun c xs q=>by rw [aj (aP q hTn)];exact q
   rcases hc with z | z
   ·rw [z];exact nch b u e
   ·exact nch c _ z
end
def Itz (K:PySem.W.Frag) (a b:Addr):It :=
 ⟨fun i H=>∃ xs ys x y,SqL K H a xs/\SqL K H b ys/\xs[i]?=some x/\ys[i]?=some y,
  fun i H v H'=>∃ x y p,(∀ xs,SqL K H a xs->xs[i]?=some x)/\(∀ ys,SqL K H b ys->ys[i]?=some y)/\v=.ref p/\H p=none/\H'=upd H p (.tup [x,y]),
  fun i H=>∃ xs ys,SqL K H a xs/\SqL K H b ys/\(xs.length<=i ∨ ys.length<=i)⟩
theorem vc {h:Heap}{a b z TI TO i1 i2:Addr}{i:Nat} (st:IsZip h z TI TO .none/\IsPair h TI (.ref i1) (.ref i2)/\(∃ x y,IsPair h TO x y)/\h.IsListIter i1 a i/\h.IsListIter i2 b i):∀ c∈[z,TI,TO,i1,i2],∃ o,h.get? c=some o/\∀ v,o.data≠.cell v:=fun c hc=>by
 obtain ⟨hz,hTI,⟨x,y,hTO⟩,⟨o1,e1,c1,d1⟩,⟨o2,e2,c2,d2⟩⟩:=st
 simp only [List.mem_cons,List.not_mem_nil,or_false] at hc
 rcases hc with rfl | rfl | rfl | rfl | rfl
 ·exact ⟨_,hz,fun v q=>by have q':Data.fields _=Data.cell v:=q;cases q'⟩
 ·exact ⟨_,hTI,fun v q=>by have q':Data.seq _ _=Data.cell v:=q;cases q'⟩
 ·exact ⟨_,hTO,fun v q=>by have q':Data.seq _ _=Data.cell v:=q;cases q'⟩
 ·exact ⟨o1,e1,fun v q=>by rw [d1] at q;cases q⟩
 ·exact ⟨o2,e2,fun v q=>by rw [d2] at q;cases q⟩
theorem zC {P:Program}{w:World}{K:PySem.W.Frag}{elts:List Expr}{k:Nat}{pos:Pos} (a b z TI TO i1 i2:Addr) (D:ZipApart z TI TO i1 i2 a b):Turn P w K (.Tuple elts k pos) (Itz K a b) [z,TI,TO,i1,i2] z
  (fun i h=>IsZip h z TI TO .none/\IsPair h TI (.ref i1) (.ref i2)/\(∃ x y,IsPair h TO x y)/\h.IsListIter i1 a i/\h.IsListIter i2 b i) where
 mem:=by simp
 obj:=fun i h st=>vc st
 keep:=fun i h h' st k=>by
  obtain ⟨hz,hTI,⟨x,y,hTO⟩,h1,h2⟩:=st
  exact ⟨k z (by simp) _ hz,k TI (by simp) _ hTI,⟨x,y,k TO (by simp) _ hTO⟩,h1.at fun o e=>k i1 (by simp) o e,h2.at fun o e=>k i2 (by simp) o e⟩
 item:=by
  intro X hP hw hK hc i pins s σ H E I hf st hg
  subst hP hw hK
  obtain ⟨xs,ys,x,y,hx,hy,ex,ey⟩:=hg
  obtain ⟨us,r1,p1,_⟩:=I.list hx
  obtain ⟨vs,r2,p2,_⟩:=I.list hy
  obtain ⟨u,hu,ru⟩:=r1.get ex
  obtain ⟨v,hv,rv⟩:=r2.get ey
  obtain ⟨hz,hTI,⟨ta,tb,hTO⟩,h1,h2⟩:=id st
  refine wpAny_pyNext_zip_item D hz hTI hTO h1 h2 p1.isList p2.isList (x:=u) (y:=v) (by simpa using hu) (by simpa using hv) fun h' a1 a2 a3 a4 a5 a6 a7=>?_
  refine ⟨_,rfl,wpAny_letOwnedTupleGo_zip (s:={ s with heap:=h' }) a1 fun h'' b1 b2=>?_⟩
  have b2':Heap.SameBut z h' h'':=b2
  have ne:∀ c∈[z,TI,TO,i1,i2],c < s.heap.objs.size:=fun c hc=>by
   obtain ⟨o,e,_⟩:=vc st c hc
   exact Heap.lt_size e
  have kk:∀ c o,c ∉ [z,TI,TO,i1,i2]->s.heap.get? c=some o->h''.get? c=some o:=fun c o hc e=>by
   simp only [List.mem_cons,List.not_mem_nil,or_false,not_or] at hc
   exact (b2'.2 c hc.1).trans (a7 c o hc.1 hc.2.2.1 hc.2.2.2.1 hc.2.2.2.2 e)
  have hT:h''.get? s.heap.objs.size=some { cls:=.type "tuple",data:=.seq #[u,v] }:=(b2'.2 _ (Nat.ne_of_gt (ne z (by simp)))).trans a5
  have I1:Inv X pins σ (upd H s.heap.objs.size (.tup [x,y])) { s with heap:=h'' }:=by
   refine I.vb (t':=s.toks) (ch:=[z,TI,TO,i1,i2]) hf kk (fun c o e=>?_) (Nat.le_refl _) (show aS X.prog X.w _ h'' _ (.tup [x,y]) from ⟨by show 2<=sizeLine;decide,[u,v],.cons ru (.cons rv .nil),⟨_,hT,rfl,_,rfl⟩⟩)
   by_cases hc:c∈[z,TI,TO,i1,i2]
   ·simp only [List.mem_cons,List.not_mem_nil,or_false] at hc
    rcases hc with rfl | rfl | rfl | rfl | rfl
    ·exact ⟨_,b1⟩
    ·exact ⟨_,(b2'.2 _ D.TIz).trans (a7 _ _ D.TIz D.TITO D.TIi1 D.TIi2 hTI)⟩
    ·exact ⟨_,(b2'.2 _ D.TOz).trans a2⟩
    ·obtain ⟨o1,e1,_⟩:=a3;exact ⟨_,(b2'.2 _ D.i1z).trans e1⟩
    ·obtain ⟨o2,e2,_⟩:=a4;exact ⟨_,(b2'.2 _ D.i2z).trans e2⟩
   ·exact ⟨_,kk c o hc e⟩
  refine ⟨.ref s.heap.objs.size,_,I1,rfl,⟨x,y,_,fun zs hz=>by rw [I.m8 hz hx];exact ex,fun zs hz=>by rw [I.m8 hz hy];exact ey,rfl,I.hok.fresh (Nat.le_refl _),rfl⟩,⟨b1,(b2'.2 _ D.TIz).trans (a7 _ _ D.TIz D.TITO D.TIi1 D.TIi2 hTI),⟨u,v,(b2'.2 _ D.TOz).trans a2⟩,a3.at fun o e=>(b2'.2 _ D.i1z).trans e,a4.at fun o e=>(b2'.2 _ D.i2z).trans e⟩,fun c hc=>?_⟩
  rw [aj (Nat.ne_of_lt (ne c hc))];exact (hf c hc).1
 done:=by
  intro X hP hw hK hc i pins s σ H E I hf st hg
  subst hP hw hK
  obtain ⟨xs,ys,hx,hy,hl⟩:=hg
  obtain ⟨us,r1,p1,_⟩:=I.list hx
  obtain ⟨vs,r2,p2,_⟩:=I.list hy
  obtain ⟨hz,hTI,⟨ta,tb,hTO⟩,h1,h2⟩:=id st
  have l1:=r1.length
  have l2:=r2.length
  refine wpAny_pyNext_zip_end (I.ok.hd hc) D hz hTI hTO h1 h2 p1.isList p2.isList ?_ fun h' kk=>⟨rfl,I.va (t':=s.toks) (ch:=[z,TI,TO,i1,i2]) hf fun c o hc e=>?_⟩
  ·rcases hl with hl | hl
   ·exact .inl (by simp;omega)
   ·exact .inr (by simp;omega)
  ·simp only [List.mem_cons,List.not_mem_nil,or_false,not_or] at hc
   exact kk c o hc.1 hc.2.2.1 hc.2.2.2.1 hc.2.2.2.2 e
 self:=fun _ _ _ _ _ st h=>wpAny_pyIter_zip st.1 h
section
variable {X:Cx}
def Aa (K:PySem.W.Frag) (ta:TA):TI:=fun σ H R=>ta σ H fun vs H1=>∃ a b,vs=[.ref a,.ref b]/\(∃ xs,SqL K H1 a xs)/\(∃ ys,SqL K H1 b ys)/\R (Itz K a b) H1
theorem boot_zip:bootBuiltins "zip"=some (.type "zip"):=by kernel_rfl
theorem CC {elts:List Expr}{k:Nat}{tpos:Pos}{a b:Expr}{ta:TA}{p pos:Pos} (hg:Gl X "zip") (hm:X.mg "zip"=none) (ha:PA X [a,b] ta) (hs:starEach [a,b] X.env=[(false,eval a X.env),(false,eval b X.env)]:=by rfl)
  (hs2:starEach [b] X.env=[(false,eval b X.env)]:=by rfl):PI X (.Tuple elts k tpos) (.Call (.Name "zip" p) [a,b] [] pos) (Aa X.K ta):=by
 intro pins s σ H R I h
 refine Call_ (jW I hg hm boot_zip (PyProof.Rows.callWith_type1 (thn (ha pos pins s σ H _ I h) fun us s1 ⟨vs,H1,I1,r1,q1⟩=>?_) (by rw [hs,hs2]) (by rw [hs2];rfl)))
 obtain ⟨l1,l2,e,⟨xs,hx⟩,⟨ys,hy⟩,q⟩:=q1
 subst e
 cases r1 with
 | cons r rr =>
  cases rr with
  | cons r' rr =>
   cases rr
   cases r
   cases r'
   obtain ⟨us,_,p1,_⟩:=I1.list hx
   obtain ⟨vs,_,p2,_⟩:=I1.list hy
   have a1:l1 < s1.heap.objs.size:=by obtain ⟨o,e,_⟩:=p1.isList;exact Heap.lt_size e
   have a2:l2 < s1.heap.objs.size:=by obtain ⟨o,e,_⟩:=p2.isList;exact Heap.lt_size e
   refine call_zip_2 p1.isList p2.isList fun h' hz hTI hTO hi1 hi2 hsz hk=>wpAny_pyIter_zip (s:={ s1 with heap:=h' }) hz ?_
   have I2:Inv X pins σ H1 { s1 with heap:=h' }:=I1.kept (t':=s1.toks) hk
   refine ⟨_,[s1.heap.objs.size + 4,s1.heap.objs.size + 2,s1.heap.objs.size + 3,s1.heap.objs.size,s1.heap.objs.size + 1],_,_,H1,rfl,I2,zC l1 l2 _ _ _ _ _ (zipApart_new a1 a2),⟨hz,hTI,⟨_,_,hTO⟩,hi1,hi2⟩,fun c hc=>?_,q⟩
   have hle:s1.heap.objs.size<=c:=by
    simp only [List.mem_cons,List.not_mem_nil,or_false] at hc
    rcases hc with rfl | rfl | rfl | rfl | rfl <;> omega
   exact I1.mx hle (I1.hok.fresh hle)
end
theorem Ck {K:PySem.W.Frag}{a b:Addr}{H1:Hp}{xs ys:List V}{js:List Nat}{σ:St}{te:TE}{Q:VK} (hx:SqL K H1 a xs) (hy:SqL K H1 b ys) (hl:xs.length < sizeLine) (f:V->V->V)
  (he:∀ x y,(x,y)∈xs.zip ys->∀ H,ak H1 H->∀ R:VK,(∀ H',ak H H'->R (f x y) H')->te (some x::some y::js.map fun j=>(σ[j]?).join) H R)
  (q:∀ D H,H1 D=none->ak H1 H->H D=some (.lst ((xs.zip ys).map fun p=>f p.1 p.2))->Q (.ref D) H):dm (zX K 2 (oh (eh 0) (oh (eh 1) zW))) wC te (ef 2 js σ) (Itz K a b) H1 Q:=by
 intro D hD
 refine ⟨fun i m zs σ1 H=>m=(xs.zip ys).length - i/\i<=(xs.zip ys).length/\(∃ o1 o2,σ1=o1::o2::js.map fun j=>(σ[j]?).join)/\zs=((xs.zip ys).take i).map (fun p=>f p.1 p.2)/\ak H1 H/\H D=some (.lst zs),
  ⟨(xs.zip ys).length,by simp,Nat.zero_le _,⟨none,none,rfl⟩,by simp,(ak.refl H1).dr hD,aq⟩,?_⟩
 rintro i m zs σ1 H ⟨rfl,hi,⟨o1,o2,rfl⟩,rfl,sH,hL⟩
 have hzl:(xs.zip ys).length=min xs.length ys.length:=List.length_zip
 have hlen:(((xs.zip ys).take i).map fun p=>f p.1 p.2).length < sizeLine:=by
  rw [List.length_map,List.length_take];omega
 refine ⟨hL,hlen,?_⟩
 by_cases hlt:i < (xs.zip ys).length
 ·have h1:i < xs.length:=by omega
  have h2:i < ys.length:=by omega
  refine .inr ⟨⟨xs,ys,xs[i],ys[i],sH.seq hx,sH.seq hy,by simp [h1],by simp [h2]⟩,fun v H' hyl=>?_⟩
  obtain ⟨x,y,p,hx',hy',rfl,hp,rfl⟩:=hyl
  have ex:=hx' xs (sH.seq hx)
  have ey:=hy' ys (sH.seq hy)
  have ez:(xs.zip ys)[i]?=some (x,y):=zip_get ex ey
  have hm:(x,y)∈xs.zip ys:=List.mem_of_getElem? ez
  have htk:(xs.zip ys).take (i + 1)=(xs.zip ys).take i++[(x,y)]:=by rw [List.take_add_one,ez];rfl
  have hpD:D≠p:=aP hL hp
  refine ⟨p,[x,y],rfl,SqT.of aq,rfl,x,[y],rfl,y,[],rfl,rfl,?_⟩
  show te (some x::some y::js.map fun j=>(σ[j]?).join) _ _
  have s1:ak H1 (upd H p (.tup [x,y])):=sH.dr (sH.free hp)
  refine he x y hm _ s1 _ fun H4 s4=>?_
  refine ⟨s4 _ _ (by rw [aj hpD];exact hL),(xs.zip ys).length - (i + 1),by omega,rfl,hlt,⟨_,_,rfl⟩,?_,(s1.trans s4).dr hD,aq⟩
  rw [htk,List.map_append];rfl
 ·have e:i=(xs.zip ys).length:=by omega
  subst e
  refine .inl ⟨⟨xs,ys,sH.seq hx,sH.seq hy,by omega⟩,q D H hD sH ?_⟩
  rw [List.take_length] at hL;exact hL
end L2

namespace L2
open PySem PySem.Spec PyProof.Rows
section
variable {X:Cx}
def nw (H:Hp) (o:HO) (Q:VK):Prop:=∀ p H',H p=none->ak H H'->H' p=some o->Q (.ref p) H'
theorem cH {H:Hp}{a:Addr}{o:HO} (hn:H a=none):ak H (upd H a o):=fun b u e=>by rw [aj (aP e hn)];exact e
theorem nw.go {H:Hp}{o:HO}{Q:VK} (h:nw H o Q) (p:Addr) (hp:H p=none):Q (.ref p) (upd H p o):=h p _ hp (cH hp) aq
def uM:R2:=fun x y H Q=>match x,y with
 | .int i,.int j=>Q (.int (i + j)) H
 | .str a,.str b=>a.length + b.length<=sizeLine/\Q (.str (a++b)) H
 | .ref l,.ref b=>∃ xs zs,H l=some (.lst xs)/\H b=some (.lst zs)/\xs.length + zs.length<=sizeLine/\nw H (.lst (xs++zs)) Q
 | _,_=>False
theorem aN:OpR X (binaryOp .Add) uM:=by
 intro pins s σ H x y v u Q I rx ry h
 cases x with
 | int i=>cases y with
  | int j=>exact Cp pins s σ H _ _ v u Q I rx ry ⟨_,_,rfl,rfl,h⟩
  | _=>exact False.elim h
 | str a=>cases y with
  | str b=>exact sO pins s σ H _ _ v u Q I rx ry ⟨_,_,rfl,rfl,h.1,h.2⟩
  | _=>exact False.elim h
 | ref l=>cases y with
  | ref b =>
   obtain ⟨xs,zs,h1,h2,h3,h4⟩:=h
   exact Cq pins s σ H _ _ v u Q I rx ry ⟨_,_,xs,zs,rfl,rfl,h1,h2,h3,h4.go⟩
  | _=>exact False.elim h
 | _=>exact False.elim h
def By:R2:=fun x y H Q=>match x,y with
 | .int i,.int j=>Q (.int (i - j)) H
 | _,_=>False
theorem j6:OpR X (binaryOp .Sub) By:=by
 intro pins s σ H x y v u Q I rx ry h
 cases x with
 | int i=>cases y with
  | int j=>exact C4 pins s σ H _ _ v u Q I rx ry ⟨_,_,rfl,rfl,h⟩
  | _=>exact False.elim h
 | _=>exact False.elim h
def Bt:R2:=fun x y H Q=>match x,y with
 | .int i,.int j=>BJ i j/\Q (.int (i * j)) H
 | .ref l,.int k=>∃ xs,H l=some (.lst xs)/\-(2 ^ 63)<=k/\k < 2 ^ 63/\xs.length * k.toNat<=sizeLine/\nw H (.lst (List.replicate k.toNat xs).flatten) Q
 | _,_=>False
theorem lh:OpR X (binaryOp .Mult) Bt:=by
 intro pins s σ H x y v u Q I rx ry h
 cases x with
 | int i=>cases y with
  | int j=>exact Ao pins s σ H _ _ v u Q I rx ry ⟨_,_,rfl,rfl,h.1,h.2⟩
  | _=>exact False.elim h
 | ref l=>cases y with
  | int k =>
   obtain ⟨xs,h1,h2,h3,h4,h5⟩:=h
   exact C3 pins s σ H _ _ v u Q I rx ry ⟨_,_,xs,rfl,rfl,h1,h2,h3,h4,h5.go⟩
  | _=>exact False.elim h
 | _=>exact False.elim h
def yS:R2:=fun x y H Q=>match x,y with
 | .int i,.int j=>(0 < j/\j < 2 ^ 1000)/\Q (.int (i / j)) H
 | _,_=>False
theorem cG:OpR X (binaryOp .FloorDiv) yS:=by
 intro pins s σ H x y v u Q I rx ry h
 cases x with
 | int i=>cases y with
  | int j=>exact y7 pins s σ H _ _ v u Q I rx ry ⟨_,_,rfl,rfl,h.1,h.2⟩
  | _=>exact False.elim h
 | _=>exact False.elim h
def Bs:R2:=fun x y H Q=>match x,y with
 | .int i,.int j=>0 < j/\Q (.int (i % j)) H
 | _,_=>False
theorem bG:OpR X (binaryOp .Mod) Bs:=by
 intro pins s σ H x y v u Q I rx ry h
 cases x with
 | int i=>cases y with
  | int j=>exact Cw pins s σ H _ _ v u Q I rx ry ⟨_,_,rfl,rfl,h.1,h.2⟩
  | _=>exact False.elim h
 | _=>exact False.elim h
def Bw:R2:=fun x y H Q=>match x,y with
 | .int i,.int j=>(0<=j/\j<=1000000/\i.natAbs < 2 ^ 64)/\Q (.int (i ^ j.toNat)) H
 | _,_=>False
theorem lj:OpR X (binaryOp .Pow) Bw:=by
 intro pins s σ H x y v u Q I rx ry h
 cases x with
 | int i=>cases y with
  | int j=>exact C2 pins s σ H _ _ v u Q I rx ry ⟨_,_,rfl,rfl,h.1,h.2⟩
  | _=>exact False.elim h
 | _=>exact False.elim h
def rA (f:Int->Int->Bool):R2:=fun x y H Q=>match x,y with
 | .int i,.int j=>Q (.bl (f i j)) H
 | _,_=>False
theorem pC {op:CmpOp}{f:Int->Int->Bool} (h0:OpR X (compareOp op) (rI0 fun i j=>.bl (f i j))):OpR X (compareOp op) (rA f):=by
 intro pins s σ H x y v u Q I rx ry h
 cases x with
 | int i=>cases y with
  | int j=>exact h0 pins s σ H _ _ v u Q I rx ry ⟨_,_,rfl,rfl,h⟩
  | _=>exact False.elim h
 | _=>exact False.elim h
abbrev En:R2:=rA fun i j=>decide (i < j)
abbrev Em:R2:=rA fun i j=>decide (i<=j)
abbrev Eh:R2:=rA fun i j=>decide (j<=i)
theorem kb:OpR X (compareOp .Lt) En:=pC Dn
theorem fG:OpR X (compareOp .LtE) Em:=pC Dm
theorem Ct:OpR X (compareOp .GtE) Eh:=pC Dl
def yR (K:PySem.W.Frag):R2:=fun x y H Q=>match x,y with
 | .int i,.int j=>Q (.bl (decide (i=j))) H
 | .bl i,.bl j=>Q (.bl (decide (i=j))) H
 | .str i,.str j=>Q (.bl (decide (i=j))) H
 | .ref a,.ref b=>∃ xs ys,SqL K H a xs/\SqL K H b ys/\xs.all cg=true/\ys.all cg=true/\Q (.bl (jr xs ys)) H
 | _,_=>False
def yW (K:PySem.W.Frag):R2:=fun x y H Q=>match x,y with
 | .int i,.int j=>Q (.bl (!decide (i=j))) H
 | .bl i,.bl j=>Q (.bl (!decide (i=j))) H
 | .str i,.str j=>Q (.bl (!decide (i=j))) H
 | .ref a,.ref b=>∃ xs ys,SqL K H a xs/\SqL K H b ys/\xs.all cg=true/\ys.all cg=true/\Q (.bl (!jr xs ys)) H
 | _,_=>False
theorem qD (i j:Int):decide (V.int i=V.int j)=decide (i=j):=by
 by_cases e:i=j
 ·subst e;simp
 ·rw [decide_eq_false e];exact decide_eq_false fun h=>e (V.int.inj h)
theorem uo (i j:Bool):decide (V.bl i=V.bl j)=decide (i=j):=by
 by_cases e:i=j
 ·subst e;simp
 ·rw [decide_eq_false e];exact decide_eq_false fun h=>e (V.bl.inj h)
theorem qE (i j:Str):decide (V.str i=V.str j)=decide (i=j):=by
 by_cases e:i=j
 ·subst e;simp
 ·rw [decide_eq_false e];exact decide_eq_false fun h=>e (V.str.inj h)
theorem Cs (hu:X.A.units < cLine):OpR X (compareOp .Eq) (yR X.K):=by
 intro pins s σ H x y v u Q I rx ry h
 cases x with
 | int i=>cases y with
  | int j=>exact y4 pins s σ H _ _ v u Q I rx ry ⟨rfl,by rw [qD];exact h⟩
  | _=>exact False.elim h
 | bl i=>cases y with
  | bl j=>exact y4 pins s σ H _ _ v u Q I rx ry ⟨rfl,by rw [uo];exact h⟩
  | _=>exact False.elim h
 | str i=>cases y with
  | str j=>exact y4 pins s σ H _ _ v u Q I rx ry ⟨rfl,by rw [qE];exact h⟩
  | _=>exact False.elim h
 | ref a=>cases y with
  | ref b =>
   obtain ⟨xs,ys,h1,h2,h3,h4,h5⟩:=h
   exact Cr hu pins s σ H _ _ v u Q I rx ry ⟨_,_,xs,ys,rfl,rfl,h1,h2,h3,h4,h5⟩
  | _=>exact False.elim h
 | _=>exact False.elim h
theorem Cz (hu:X.A.units < cLine):OpR X (compareOp .NotEq) (yW X.K):=by
 intro pins s σ H x y v u Q I rx ry h
 cases x with
 | int i=>cases y with
  | int j=>exact y9 pins s σ H _ _ v u Q I rx ry ⟨rfl,by rw [qD];exact h⟩
  | _=>exact False.elim h
 | bl i=>cases y with
  | bl j=>exact y9 pins s σ H _ _ v u Q I rx ry ⟨rfl,by rw [uo];exact h⟩
  | _=>exact False.elim h
 | str i=>cases y with
  | str j=>exact y9 pins s σ H _ _ v u Q I rx ry ⟨rfl,by rw [qE];exact h⟩
  | _=>exact False.elim h
 | ref a=>cases y with
  | ref b =>
   obtain ⟨xs,ys,h1,h2,h3,h4,h5⟩:=h
   exact Cy hu pins s σ H _ _ v u Q I rx ry ⟨_,_,xs,ys,rfl,rfl,h1,h2,h3,h4,h5⟩
  | _=>exact False.elim h
 | _=>exact False.elim h
def isV:V->V->Option Bool
 | .non,.non=>some true
 | .bl _,.non=>some false
 | .int _,.non=>some false
 | .str _,.non=>some false
 | .ref _,.non=>some false
 | .bl a,.bl b=>some (a == b)
 | _,_=>none
def wt (neg:Bool):R2:=fun x y H Q=>match isV x y with
 | some b=>Q (.bl (b != neg)) H
 | none=>False
theorem sQ:OpR X (compareOp .Is) (wt false):=by
 intro pins s σ H x y v u Q I rx ry h
 cases x <;> cases y <;> first
  | exact False.elim h
  | exact Cv pins s σ H _ _ v u Q I rx ry ⟨rfl,h⟩
  | exact y8 pins s σ H _ _ v u Q I rx ry ⟨_,_,rfl,rfl,by simpa [wt,isV] using h⟩
theorem iN:OpR X (compareOp .IsNot) (wt true):=by
 intro pins s σ H x y v u Q I rx ry h
 cases x <;> cases y <;> first
  | exact False.elim h
  | exact Ap pins s σ H _ _ v u Q I rx ry ⟨rfl,h⟩
  | exact ri pins s σ H _ _ v u Q I rx ry ⟨_,_,rfl,rfl,by simpa [wt,isV,bne] using h⟩
def Sq (K:PySem.W.Frag) (H:Hp) (a:Addr) (xs:List V):Prop:=SqL K H a xs ∨ SqT K H a xs
theorem Sq.l {K:PySem.W.Frag}{H:Hp}{a:Addr}{xs:List V} (h:H a=some (.lst xs)):Sq K H a xs:=.inl (.of h)
theorem Sq.t {K:PySem.W.Frag}{H:Hp}{a:Addr}{xs:List V} (h:H a=some (.tup xs)):Sq K H a xs:=.inr (.of h)
def AD (K:PySem.W.Frag):R2:=fun x y H Q=>match x,y with
 | .ref p,.int i=>∃ xs v,Sq K H p xs/\atI xs i=some v/\Q v H
 | .str z,.int i=>z.length<=sizeLine/\∃ c,atI z.cps.toList i=some c/\Q (.str ⟨#[c]⟩) H
 | _,_=>False
theorem DY:IxR X (AD X.K):=by
 intro value slice pins s σ H x y v u Q I rx ry h hs
 cases x with
 | ref p=>cases y with
  | int i =>
   obtain ⟨xs,w',h1 | h1,h2,h3⟩:=h
   ·exact Ac value slice pins s σ H _ _ v u Q I rx ry ⟨_,xs,_,w',rfl,rfl,h1,h2,h3⟩ hs
   ·exact BY value slice pins s σ H _ _ v u Q I rx ry ⟨_,xs,_,w',rfl,rfl,h1,h2,h3⟩ hs
  | _=>exact False.elim h
 | str z=>cases y with
  | int i =>
   obtain ⟨h1,c,h2,h3⟩:=h
   exact BX value slice pins s σ H _ _ v u Q I rx ry ⟨z,i,c,rfl,rfl,h1,h2,h3⟩ hs
  | _=>exact False.elim h
 | _=>exact False.elim h
def uP (K:PySem.W.Frag):List V->Hp->VK->Prop:=fun vs H Q=>match vs with
 | [.str z]=>z.length<=sizeLine/\Q (.int z.length) H
 | [.ref p]=>∃ xs,Sq K H p xs/\Q (.int xs.length) H
 | _=>False
theorem vo:bw X (.builtin "len") (uP X.K):=by
 intro pins s σ H xs us Q I r h
 match xs,h with
 | [.str z],h=>exact oT pins s σ H _ us Q I r ⟨z,rfl,h.1,h.2⟩
 | [.ref p],h =>
  obtain ⟨ys,h1,h2⟩:=h
  exact oS pins s σ H _ us Q I r ⟨p,ys,rfl,h1,h2⟩
def Bo:List V->Hp->VK->Prop:=fun vs H Q=>match vs with
 | [.int i]=>Q (.int (i.natAbs:Int)) H
 | _=>False
theorem jQ:bw X (.builtin "abs") Bo:=by
 intro pins s σ H xs us Q I r h
 match xs,h with
 | [.int i],h =>
  refine xo pins s σ H _ us Q I r ⟨i,rfl,?_⟩
  have e:(if i < 0 then -i else i)=((i.natAbs:Nat):Int):=by split <;> omega
  rw [e];exact h
def Br:List V->Hp->VK->Prop:=fun vs H Q=>match vs with
 | [.int i,.int j]=>Q (.int (min i j)) H
 | _=>False
def Bq:List V->Hp->VK->Prop:=fun vs H Q=>match vs with
 | [.int i,.int j]=>Q (.int (max i j)) H
 | _=>False
theorem vv (hc:X.calm=true):bw X (.builtin "min") Br:=by
 intro pins s σ H xs us Q I r h
 match xs,h with
 | [.int i,.int j],h =>
  refine vt hc pins s σ H _ us Q I r ⟨i,j,rfl,?_⟩
  have e:(if j < i then j else i)=min i j:=by
   rw [Int.min_def];split <;> split <;> omega
  rw [e];exact h
theorem vq (hc:X.calm=true):bw X (.builtin "max") Bq:=by
 intro pins s σ H xs us Q I r h
 match xs,h with
 | [.int i,.int j],h =>
  refine vp hc pins s σ H _ us Q I r ⟨i,j,rfl,?_⟩
  have e:(if j > i then j else i)=max i j:=by
   rw [Int.max_def];split <;> split <;> omega
  rw [e];exact h
def sX (K:PySem.W.Frag):List V->Hp->VK->Prop:=fun vs H Q=>match vs with
 | [.ref a]=>∃ ys,(Sq K H a ys ∨ ∃ lo hi,H a=some (.rng lo hi)/\(-(2 ^ 62)<=lo/\lo < 2 ^ 62/\-(2 ^ 62)<=hi/\hi < 2 ^ 62)/\(hi - lo).toNat<=2 ^ 20/\ys=pO lo (hi - lo).toNat)/\nw H (.lst ys) Q
 | _=>False
theorem sf (hc:X.calm=true):bw X (.type "list") (sX X.K):=by
 intro pins s σ H xs us Q I r h
 match xs,h with
 | [.ref a],h =>
  obtain ⟨ys,h1 | ⟨lo,hi,h1,h2,h3,rfl⟩,h4⟩:=h
  ·exact oV pins s σ H _ us Q I r ⟨a,ys,rfl,h1,h4.go⟩
  ·exact oU hc pins s σ H _ us Q I r ⟨a,lo,hi,rfl,h1,h2,h3,h4.go⟩
def Bx:List V->Hp->VK->Prop:=fun vs H Q=>match vs with
 | [.int j]=>nw H (.rng 0 j) Q
 | _=>False
theorem vx:bw X (.type "range") Bx:=by
 intro pins s σ H xs us Q I r h
 match xs,h with
 | [.int j],h=>exact vw pins s σ H _ us Q I r ⟨j,rfl,nw.go h⟩
theorem bt_isinstance:bootBuiltins "isinstance"=some (.builtin "isinstance"):=by kernel_rfl
theorem rZ:bootBuiltins "abs"=some (.builtin "abs"):=by kernel_rfl
theorem di:bootBuiltins "len"=some (.builtin "len"):=by kernel_rfl
theorem lA:bootBuiltins "all"=some (.builtin "all"):=by kernel_rfl
theorem BO:bootBuiltins "min"=some (.builtin "min"):=by kernel_rfl
theorem BN:bootBuiltins "max"=some (.builtin "max"):=by kernel_rfl
theorem nM:bootBuiltins "sorted"=some (.builtin "sorted"):=by kernel_rfl
theorem xl:bootBuiltins "range"=some (.type "range"):=by kernel_rfl
theorem kX:bootBuiltins "list"=some (.type "list"):=by kernel_rfl
theorem xm:bootBuiltins "tuple"=some (.type "tuple"):=by kernel_rfl
theorem xk:bootBuiltins "int"=some (.type "int"):=by kernel_rfl
theorem lB:bootBuiltins "str"=some (.type "str"):=by kernel_rfl
theorem uh:bootBuiltins "bool"=some (.type "bool"):=by kernel_rfl
theorem BP:bootBuiltins "set"=some (.type "set"):=by kernel_rfl
theorem Dq {x:Str}{T:String}{pos:Pos} (hg:Gl X x) (hm:X.mg x=none) (hv:bootBuiltins x=some (.type T)) (hn:x≠"__name__":=by decide) (hd:(x == ("__debug__":Str))=false:=by decide):PE X (.Name x pos) (tC (.ty T)) :=
 Au hg hm hv rfl hn hd
structure Fnc (P:Program) (w:World) (K:PySem.W.Frag) (mg:Str->Option Value) (base:Heap) (CX:CXT) (k:Nat) (x:Str) (ps:List Str) (sp:Sp):Prop where
 ex:∃ (f:Addr) (fd:FuncData),aX P w K mg base CX k f fd ps sp/\mg x=some (.ref f)/\PySem.W.keepIn K (.ref f)=true/\Binds K fd ps []
theorem yC {CX:CXT}{E:St->XK}{k:Nat}{x:Str}{ps:List Str}{sp:Sp}{e:Expr}{es:List Expr}{t:TA}{p pos:Pos} (C:Fnc X.prog X.w X.K X.mg X.base CX k x ps sp) (hx:Passes CX X E) (hr:bA k X.A) (hg:Gl X x) (ha:PA X (e::es) t)
  (hd:(x == ("__debug__":Str))=false:=by decide)
  (he:starEach (e::es) X.env=(false,eval e X.env)::starEach es X.env:=by rfl) (hpl:(backTo pos (starEach es X.env)).any (·.1)=false:=by rfl):PE X (.Call (.Name x p) (e::es) [] pos) (uV sp [] E t):=by
 obtain ⟨f,fd,F,hm,hk,hb⟩:=C.ex
 exact Aw F hr hg hm hk hb .nil hx ha hd he hpl
end
def gr (g:TG) (tb:TS) (D:Ends) (J:It) (σ:St) (H:Hp):Prop:=∃ W:Nat->Nat->St->Hp->Prop,(∃ m,W 0 m σ H)/\∀ i m σ H,W i m σ H →
 (J.stop i H/\D.nx σ H) ∨ (J.go i H/\∃ N:St->Hp->Prop,(∀ σ' H',N σ' H'->∃ m',m' < m/\W (i + 1) m' σ' H')/\∀ x H',J.yld i H x H'->g x σ H' fun σ2 H2=>tb { D with nx:=N,ct:=N,bk:=D.nx } σ2 H2)
theorem zV {lo:Int}{n:Nat}{g:TG}{tb:TS}{D:Ends}{σ:St}{H:Hp} (Pv:Nat->St->Hp->Prop) (h0:Pv 0 σ H)
  (hs:∀ i σ H,i < n->Pv i σ H->g (.int (lo + i)) σ H fun σ2 H2=>tb { D with nx:=Pv (i + 1),ct:=Pv (i + 1),bk:=D.nx } σ2 H2) (hd:∀ σ H,Pv n σ H->D.nx σ H):gr g tb D (Itr lo n) σ H:=vI Pv h0 hs hd
theorem uA {K:PySem.W.Frag}{a:Addr}{xs:List V}{g:TG}{tb:TS}{D:Ends}{σ:St}{H:Hp} (Pv:Nat->St->Hp->Prop) (h0:Pv 0 σ H) (hl:∀ i σ H,i<=xs.length->Pv i σ H->SqL K H a xs)
  (hs:∀ i x σ H,xs[i]?=some x->Pv i σ H->g x σ H fun σ2 H2=>tb { D with nx:=Pv (i + 1),ct:=Pv (i + 1),bk:=D.nx } σ2 H2) (hd:∀ σ H,Pv xs.length σ H->D.nx σ H):gr g tb D (Itl K a) σ H:=xO Pv h0 hl hs hd
def BB (t:TA):TE:=fun σ H Q=>t σ H fun xs H1=>xs.length<=sizeLine/\nw H1 (.lst xs) Q
def BG (t:TA):TE:=fun σ H Q=>t σ H fun xs H1=>xs.length<=sizeLine/\nw H1 (.tup xs) Q
def zw:TE:=fun _ H Q=>nw H (.dK []) Q
theorem bc {X:Cx}{es:List Expr}{t:TA}{pos:Pos} (h:PA X es t):PE X (.List es pos) (BB t):=by
 intro pins s σ H Q I hq
 refine wpAny_List_spliced (thn (h pos pins s σ H _ I hq) fun us s1 ⟨xs,H1,I1,r,z,q⟩=>⟨by rw [← r.length];exact z,?_⟩)
 have hf:H1 s1.heap.objs.size=none:=I1.hok.fresh (Nat.le_refl _)
 refine ⟨.ref s1.heap.objs.size,upd H1 s1.heap.objs.size (.lst xs),I1.laid (t':=s1.toks) (fun b u e=>Heap.get?_push_of_some _ e) (Nat.le_refl _) ?_,rfl,nw.go q _ hf⟩
 exact ⟨z,us,0,r,Heap.get?_push_size _ rfl⟩
theorem bB {X:Cx}{es:List Expr}{t:TA}{pos:Pos}{x1} (h:PA X es t):PE X (.Tuple es x1 pos) (BG t):=by
 intro pins s σ H Q I hq
 refine wpAny_Tuple_spliced (thn (h pos pins s σ H _ I hq) fun us s1 ⟨xs,H1,I1,r,z,q⟩=>⟨by rw [← r.length];exact z,?_⟩)
 have hf:H1 s1.heap.objs.size=none:=I1.hok.fresh (Nat.le_refl _)
 refine ⟨.ref s1.heap.objs.size,upd H1 s1.heap.objs.size (.tup xs),I1.laid (t':=s1.toks) (fun b u e=>Heap.get?_push_of_some _ e) (Nat.le_refl _) ?_,rfl,nw.go q _ hf⟩
 exact ⟨z,us,r,⟨_,Heap.get?_push_size _ rfl,rfl,_,rfl⟩⟩
theorem gz {X:Cx}{pos:Pos}:PE X (.Dict [] [] pos) zw:=fun pins s σ H Q I h=>yG pins s σ H Q I (nw.go h)
section
variable {σ:St}{H:Hp}{Q:VK}{D:Ends}
theorem dG {t u:TS}:zy t u D σ H=t { D with nx:=u D } σ H:=propext Iff.rfl
theorem wN {te:TE}{g:TG}:wA te g D σ H=te σ H fun x H1=>g x σ H1 D.nx:=propext Iff.rfl
theorem gu {i:Nat}{v:V}{R:St->Hp->Prop}:eh i v σ H R=R (σ.set i (some v)) H:=propext Iff.rfl
theorem xh {i:Nat}:wB i σ H Q=∃ v,σ[i]?=some (some v)/\Q v H:=propext Iff.rfl
theorem Dd {v:V}:tC v σ H Q=Q v H:=propext Iff.rfl
theorem Bc {r:R2}{ta tb:TE}:tOp r ta tb σ H Q=ta σ H fun x H1=>tb σ H1 fun y H2=>r x y H2 Q:=propext Iff.rfl
theorem Bf {r:V->Hp->VK->Prop}{ta:TE}:tUn r ta σ H Q=ta σ H fun x H1=>r x H1 Q:=propext Iff.rfl
theorem AZ {r:List V->Hp->VK->Prop}{t:TA}:tCB r t σ H Q=t σ H fun vs H1=>r vs H1 Q:=propext Iff.rfl
theorem tP {ta:TE}{tr:TA}{R:List V->Hp->Prop}:zt ta tr σ H R=ta σ H fun x H1=>tr σ H1 fun xs H2=>R (x::xs) H2:=propext Iff.rfl
theorem wW {R:List V->Hp->Prop}:AO σ H R=R [] H:=propext Iff.rfl
theorem tO {sp:Sp}{E:St->XK}{t:TA}:uV sp [] E t σ H Q=t σ H fun vs H1=>sp vs H1 Q (E σ):=by
 show (t σ H fun vs H1=>sp (vs++[]) H1 Q (E σ))=_
 simp only [List.append_nil]
theorem xb {te:TE}:DC te D σ H=te σ H D.rt:=propext Iff.rfl
theorem Ba {c:TT}{t u:TS}:D6 c t u D σ H=c σ H fun b H1=>if b=true then t D σ H1 else u D σ H1:=propext Iff.rfl
theorem ua:BD D σ H=D.nx σ H:=propext Iff.rfl
theorem tT {te:TE}:B9 te D σ H=te σ H fun _ H1=>D.nx σ H1:=propext Iff.rfl
theorem uf {t:TE}{R:Bool->Hp->Prop}:zz t σ H R=t σ H fun x H'=>∃ k,x=.bl k/\R k H':=propext Iff.rfl
theorem Dc {t:TE}{R:Bool->Hp->Prop}:tB t σ H R=t σ H fun x H'=>∃ k,x=.bl k/\R k H':=propext Iff.rfl
theorem wX {t:TT}{R:Bool->Hp->Prop}:D8 t σ H R=t σ H fun c H1=>R (!c) H1:=propext Iff.rfl
theorem wM {t u:TT}{R:Bool->Hp->Prop}:D5 t u σ H R=t σ H fun c H1=>if c=true then u σ H1 R else R false H1:=propext Iff.rfl
theorem Bd {t u:TT}{R:Bool->Hp->Prop}:tOr t u σ H R=t σ H fun c H1=>if c=true then R true H1 else u σ H1 R:=propext Iff.rfl
theorem tN {ta tb:TE}:B4 ta tb σ H Q=ta σ H fun x H1=>∃ c,x=.bl c/\if c=true then tb σ H1 Q else Q (.bl false) H1:=propext Iff.rfl
theorem wY {ta tb:TE}:DA ta tb σ H Q=ta σ H fun x H1=>∃ c,x=.bl c/\if c=true then Q (.bl true) H1 else tb σ H1 Q:=propext Iff.rfl
theorem uc {ta:TE}:BE ta σ H Q=ta σ H fun x H1=>∃ c,x=.bl c/\Q (.bl (!c)) H1:=propext Iff.rfl
theorem wU {t:TT}{ta tb:TE}:tIf t ta tb σ H Q=t σ H fun c H1=>if c=true then ta σ H1 Q else tb σ H1 Q:=propext Iff.rfl
theorem wV {t:TA}:BB t σ H Q=t σ H fun xs H1=>xs.length<=sizeLine/\nw H1 (.lst xs) Q:=propext Iff.rfl
theorem xc {t:TA}:BG t σ H Q=t σ H fun xs H1=>xs.length<=sizeLine/\nw H1 (.tup xs) Q:=propext Iff.rfl
theorem tR:zw σ H Q=nw H (.dK []) Q:=propext Iff.rfl
theorem Bb {k:Nat}{js:List Nat}{wi:TI}{g:TG}{tc:TT}{te:TE}:tLC k js wi g tc te σ H Q=wi σ H fun J H1=>dm g tc te (ef k js σ) J H1 Q:=propext Iff.rfl
theorem Be {r:V->Option Int->Option Int->Hp->VK->Prop}{te:TE}{tl th:TO}:tSl r te tl th σ H Q=te σ H fun x H1=>tl σ H1 fun l H2=>th σ H2 fun u H3=>r x l u H3 Q:=propext Iff.rfl
theorem nC {R:Option Int->Hp->Prop}:uZ σ H R=R none H:=propext Iff.rfl
theorem ud {t:TE}{R:Option Int->Hp->Prop}:BF t σ H R=t σ H fun x H1=>∃ i,x=.int i/\R (some i) H1:=propext Iff.rfl
theorem qj {ta:TA}{R:It->Hp->Prop}:yc ta σ H R=ta σ H fun vs H1=>∃ j:Int,vs=[.int j]/\-(2 ^ 62)<=j/\j < 2 ^ 62/\R (Itr 0 j.toNat) H1:=propext Iff.rfl
theorem tW {K:PySem.W.Frag}{ta:TA}{R:It->Hp->Prop}:Aa K ta σ H R=ta σ H fun vs H1=>∃ a b,vs=[.ref a,.ref b]/\(∃ xs,SqL K H1 a xs)/\(∃ ys,SqL K H1 b ys)/\R (Itz K a b) H1:=propext Iff.rfl
theorem wR {wi:TI}{g:TG}{tb:TS}:CM wi g tb D σ H=wi σ H fun J H1=>gr g tb D J σ H1:=propext Iff.rfl
theorem wZ {i j:Nat}{ta:TA}:DB i j ta D σ H=ta σ H fun vs H1=>∃ v w,vs=[v,w]/\D.nx ((σ.set i (some v)).set j (some w)) H1:=propext Iff.rfl
theorem AY {K:PySem.W.Frag}{T:String}{r:V->List V->Hp->VK->Prop}{to:TE}{t:TA}:tBM K T r to t σ H Q=to σ H fun x H1=>tyV K T x H1/\t σ H1 fun xs H2=>r x xs H2 Q:=propext Iff.rfl
theorem wO {K:PySem.W.Frag}{T:String}{r:V->List V->Hp->VK->Prop}{to:TE}:CJ K T r to σ H Q=to σ H fun x H1=>tyV K T x H1/\r x [] H1 Q:=propext Iff.rfl
theorem qe {r r':R2}{ta tb tc:TE}:tD r r' ta tb tc σ H Q=ta σ H fun x H1=>tb σ H1 fun y H2=>r x y H2 fun z H3=>∃ k,z=.bl k/\if k=true then tc σ H3 fun v H4=>r' y v H4 Q else Q (.bl false) H3:=propext Iff.rfl
theorem xH {b:Bool}{P:Bool->Prop}:(∃ k,V.bl b=V.bl k/\P k)=P b:=propext ⟨fun ⟨k,e,h⟩=>by cases e;exact h,fun h=>⟨b,rfl,h⟩⟩
theorem si {b:Int}{P:Int->Prop}:(∃ k,V.int b=V.int k/\P k)=P b:=propext ⟨fun ⟨k,e,h⟩=>by cases e;exact h,fun h=>⟨b,rfl,h⟩⟩
theorem sj {b:Addr}{P:Addr->Prop}:(∃ k,V.ref b=V.ref k/\P k)=P b:=propext ⟨fun ⟨k,e,h⟩=>by cases e;exact h,fun h=>⟨b,rfl,h⟩⟩
theorem u5 {b:Int}{P:Int->Prop}:(∃ k,[V.int b]=[V.int k]/\P k)=P b:=propext ⟨fun ⟨k,e,h⟩=>by cases e;exact h,fun h=>⟨b,rfl,h⟩⟩
theorem u6 {b c:Int}{P:Int->Int->Prop}:(∃ k l,[V.int b,V.int c]=[V.int k,V.int l]/\P k l)=P b c:=propext ⟨fun ⟨k,l,e,h⟩=>by cases e;exact h,fun h=>⟨b,c,rfl,h⟩⟩
theorem u7 {b c:Addr}{P:Addr->Addr->Prop}:(∃ k l,[V.ref b,V.ref c]=[V.ref k,V.ref l]/\P k l)=P b c:=propext ⟨fun ⟨k,l,e,h⟩=>by cases e;exact h,fun h=>⟨b,c,rfl,h⟩⟩
theorem xI {b c:V}{P:V->V->Prop}:(∃ k l,[b,c]=[k,l]/\P k l)=P b c:=propext ⟨fun ⟨k,l,e,h⟩=>by cases e;exact h,fun h=>⟨b,c,rfl,h⟩⟩
theorem u9 {v:V}{P:V->Prop}:(∃ k,some (some v)=some (some k)/\P k)=P v:=propext ⟨fun ⟨k,e,h⟩=>by cases e;exact h,fun h=>⟨v,rfl,h⟩⟩
theorem rL {N:List Str}{vs:List V}:start N vs=vs.map some++List.replicate (N.length - vs.length) none:=rfl
end
inductive Tg where
 | non | bl | int | str | lst | tup | dct
 deriving DecidableEq
def Tg.name:Tg->String
 | .non=>"NoneType" | .bl=>"bool" | .int=>"int" | .str=>"str" | .lst=>"list" | .tup=>"tuple" | .dct=>"dict"
def Tg.sub:Tg->Tg->Bool
 | .non,.non=>true | .bl,.bl=>true | .int,.int=>true | .str,.str=>true | .lst,.lst=>true | .tup,.tup=>true | .dct,.dct=>true
 | .bl,.int=>true
 | _,_=>false
def hZ:Option HO->Option Tg
 | some (.lst _)=>some .lst | some (.frz _ (.lst _))=>some .lst | some (.tup _)=>some .tup | some (.dK _)=>some .dct | some (.dT _)=>some .dct
 | _=>none
def eO (H:Hp):V->Option Tg
 | .non=>some .non | .bl _=>some .bl | .int _=>some .int | .str _=>some .str | .ref a=>hZ (H a)
 | _=>none
theorem yj (K:PySem.W.Frag):∀ t c:Tg,c≠.non->PySem.W.kitOne K (.type t.name) (.type c.name)=some (t.sub c):=by
 intro t c h
 cases t <;> cases c <;> first
  | exact absurd rfl h
  | rfl
  | kernel_rfl
  | decide +kernel
theorem CN {K:PySem.W.Frag}{H:Hp}{x:V}{t:Tg} (h:eO H x=some t):iW K H x (.type t.name):=by
 cases x with
 | non=>cases h;exact .non
 | bl b=>cases h;exact .bl b
 | int i=>cases h;exact .int i
 | str z=>cases h;exact .str z
 | ref a =>
  have h':hZ (H a)=some t:=h
  cases e:H a with
  | none=>rw [e] at h';cases h'
  | some o =>
   rw [e] at h'
   cases o with
   | lst xs=>cases h';exact .lst e
   | tup xs=>cases h';exact .tup e
   | dK kvs=>cases h';exact .dK e
   | dT kvs=>cases h';exact .dT e
   | frz ob u=>cases u with
    | lst xs=>cases h';exact .frz e
    | _=>cases h'
   | _=>cases h'
 | _=>cases h
def Bp (c:Tg):List V->Hp->VK->Prop:=fun vs H Q=>match vs with
 | [x,.ty n]=>n=c.name/\∃ t,eO H x=some t/\Q (.bl (t.sub c)) H
 | _=>False
theorem cm {X:Cx} (c:Tg) (hc:c≠.non:=by decide):bw X (.builtin "isinstance") (Bp c):=by
 intro pins s σ H xs us Q I r h
 match xs,h with
 | [x,.ty n],h =>
  obtain ⟨rfl,t,ht,q⟩:=h
  exact xp pins s σ H _ us Q I r ⟨x,_,_,_,rfl,CN ht,yj X.K t c hc,q⟩
theorem pY {c:TT}{tb:TS}{D:Ends}{σ:St}{H:Hp} (Pv:St->Hp->Prop) (μ:St->Hp->Nat) (h0:Pv σ H)
  (hs:∀ σ H,Pv σ H->c σ H fun b H1=>if b=true then ∃ N:St->Hp->Prop,(∀ σ' H',N σ' H'->Pv σ' H'/\μ σ' H' < μ σ H)/\tb { D with nx:=N,ct:=N,bk:=D.nx } σ H1 else D.nx σ H1):zA c tb D σ H :=
 ⟨fun m σ H=>m=μ σ H/\Pv σ H,⟨_,rfl,h0⟩,fun m σ H ⟨e,p⟩=>by
  subst e
  have q:=hs σ H p
  have e:(fun (b:Bool) (H1:Hp)=>if b=true then ∃ N:St->Hp->Prop,(∀ σ' H',N σ' H'->Pv σ' H'/\μ σ' H' < μ σ H)/\tb { D with nx:=N,ct:=N,bk:=D.nx } σ H1 else D.nx σ H1) =
    fun (b:Bool) (H1:Hp)=>if b=true then ∃ N:St->Hp->Prop,(∀ σ' H',N σ' H'->∃ m',m' < μ σ H/\m'=μ σ' H'/\Pv σ' H')/\tb { D with nx:=N,ct:=N,bk:=D.nx } σ H1 else D.nx σ H1:=by
   funext b H1
   cases b with
   | false=>rfl
   | true =>
    simp only [if_true]
    refine propext ⟨fun ⟨N,h1,h2⟩=>⟨N,fun σ' H' n=>⟨_,(h1 σ' H' n).2,rfl,(h1 σ' H' n).1⟩,h2⟩,fun ⟨N,h1,h2⟩=>⟨N,fun σ' H' n=>?_,h2⟩⟩
    obtain ⟨m',h3,h4,h5⟩:=h1 σ' H' n
    exact ⟨h5,by rw [← h4];exact h3⟩
  rw [e] at q
  exact q⟩
theorem jR (xs:List V) (k:Nat):kO xs (some (k:Int)) none=xs.drop k:=by
 unfold kO
 rw [HT.pP,HT.zj]
 rw [List.take_of_length_le (by rw [List.length_drop];omega)]
 by_cases h:k<=xs.length
 ·rw [Nat.min_eq_left h]
 ·rw [Nat.min_eq_right (by omega),List.drop_of_length_le (Nat.le_refl _),List.drop_of_length_le (by omega)]
theorem oC (n:Nat):pO 0 n=(Mk.ofN n).map V.int:=by
 unfold pO Mk.ofN
 rw [List.map_map]
 refine List.map_congr_left fun k _=>?_
 show V.int (0 + (k:Int))=V.int (k:Int)
 rw [Int.zero_add]
theorem pT {H1:Hp} (n:Nat):(Itr 0 n).Seq H1 ((Mk.ofN n).map V.int):=by
 rw [← oC];exact oE
def pI (f:Int->Bool):V->Bool
 | .int i=>f i
 | _=>false
theorem vG (f:Int->Bool) (xs:List Int):(xs.map V.int).filter (pI f)=(xs.filter f).map V.int:=by
 rw [List.filter_map];rfl
theorem yq {x:V}{xs:List Int} (h:x∈xs.map V.int):∃ i,x=.int i/\i∈xs:=by
 obtain ⟨i,hi,rfl⟩:=List.mem_map.mp h
 exact ⟨i,rfl,hi⟩
theorem ao {n:Nat} (h:n<=100000):n < sizeLine:=Nat.lt_of_le_of_lt h (by decide)
section
variable {X:Cx}{K:PySem.W.Frag}
theorem cS (hK:X.K=K) (hu:X.A.units < cLine):OpR X (compareOp .Eq) (yR K):=hK ▸ Cs hu
theorem gO (hK:X.K=K) (hu:X.A.units < cLine):OpR X (compareOp .NotEq) (yW K):=hK ▸ Cz hu
theorem cV (hK:X.K=K):IxR X (AD K):=hK ▸ DY
theorem bE (hK:X.K=K):bw X (.builtin "len") (uP K):=hK ▸ vo
theorem gv (hK:X.K=K) (hc:X.calm=true):bw X (.builtin "all") (Ds K):=hK ▸ vj hc
theorem iZ (hK:X.K=K) (hc:X.calm=true):bw X (.type "list") (sX K):=hK ▸ sf hc
theorem A3 {elts:List Expr}{k:Nat}{tpos:Pos}{a b:Expr}{ta:TA}{p pos:Pos} (hK:X.K=K) (hg:Gl X "zip") (hm:X.mg "zip"=none) (ha:PA X [a,b] ta) (hs:starEach [a,b] X.env=[(false,eval a X.env),(false,eval b X.env)]:=by rfl)
  (hs2:starEach [b] X.env=[(false,eval b X.env)]:=by rfl):PI X (.Tuple elts k tpos) (.Call (.Name "zip" p) [a,b] [] pos) (Aa K ta):=hK ▸ CC hg hm ha hs hs2
theorem lq {es:List Expr}{k:Nat}{t:TGs}{n:Nat}{pos:Pos} (hK:X.K=K) (hc:X.calm=true) (h:PGs X es t)
  (hn:(assignEach es X.env).length=n:=by rfl) (hst:(assignEach es X.env).findIdx? (·.1)=none:=by rfl):PG X (.Tuple es k pos) (zX K n t):=hK ▸ yM hc h hn hst
theorem C7 {o e:Expr}{es:List Expr}{to:TE}{t:TA}{name:Str}{apos cpos:Pos}{T id:String}{r:V->List V->Hp->VK->Prop} (hK:X.K=K) (pa:PlainAttrs T) (slot:Slot T name id) (hty:typeOf (.builtin id)=pure (.type "method_descriptor"))
  (hm:MtR X id r) (ho:PE X o to) (ha:PA X (e::es) t)
  (hbase:attributeBase o name X.env (eval o X.env)=eval o X.env:=by rfl)
  (hfew:((backTo cpos (starEach (e::es) X.env)).all (fun x=>!x.1) && (backToKw cpos (keywordEach [] X.env)).all (fun x=>x.1.isSome)
   && decide ((e::es).length + ([]:List Keyword).length + (if ([]:List Keyword).isEmpty then 0 else 1) < 30))=true:=by rfl)
  (hline:(apos.endLine == cpos.line)=true:=by rfl) (hs:starEach (e::es) X.env=(false,eval e X.env)::starEach es X.env:=by rfl) (hplain:(backTo cpos (starEach es X.env)).any (·.1)=false:=by rfl) :
  PE X (.Call (.Attribute o name apos) (e::es) [] cpos) (tBM K T r to t):=hK ▸ Dp pa slot hty hm ho ha hbase hfew hline hs hplain
end
end L2

namespace L2
open PySem PySem.Spec PyProof.Rows
def noStar:Expr->Bool
 | .Starred _ _=>false
 | _=>true
def bY (es:List Expr):Bool:=es.all noStar
theorem aB {e:Expr}{es:List Expr}{env:Env} (h:noStar e=true):starEach (e::es) env=(false,eval e env)::starEach es env:=by
 cases e <;> first
  | rfl
  | cases h
theorem aE {e:Expr}{es:List Expr} (h:bY (e::es)=true):noStar e=true/\bY es=true:=by
 unfold bY at h ⊢
 rw [List.all_cons,Bool.and_eq_true] at h
 exact h
theorem bL {pos:Pos}{env:Env}:∀ {es:List Expr},bY es=true->(backTo pos (starEach es env)).any (·.1)=false
 | [],_=>rfl
 | e::es,h=>by
  obtain ⟨h1,h2⟩:=aE h
  rw [aB h1]
  show (false || (backTo pos (starEach es env)).any (·.1))=false
  rw [bL h2];rfl
theorem iY {pos:Pos}{env:Env}:∀ {es:List Expr},bY es=true->(backTo pos (starEach es env)).all (fun x=>!x.1)=true
 | [],_=>rfl
 | e::es,h=>by
  obtain ⟨h1,h2⟩:=aE h
  rw [aB h1]
  show (true && (backTo pos (starEach es env)).all (fun x=>!x.1))=true
  rw [iY h2];rfl
section
variable {X:Cx}{K:PySem.W.Frag}
theorem pvL (i:Nat) {x:Str}{pos:Pos} (hN:X.N[i]?=some x:=by kernel_rfl) (hv:X.env.scope.names.lookup x=some .local:=by kernel_rfl) (hd:(x == ("__debug__":Str))=false:=by kernel_rfl)
  (hcd:(x == ("__classdict__":Str))=false:=by kernel_rfl):PE X (.Name x pos) (wB i):=pJ hN (.inl hv) hd hcd
theorem pvC (i:Nat) {x:Str}{pos:Pos} (hN:X.N[i]?=some x:=by kernel_rfl) (hv:X.env.scope.names.lookup x=some .cell:=by kernel_rfl) (hd:(x == ("__debug__":Str))=false:=by kernel_rfl)
  (hcd:(x == ("__classdict__":Str))=false:=by kernel_rfl):PE X (.Name x pos) (wB i):=pJ hN (.inr (.inl hv)) hd hcd
theorem ag {e:Expr}{es:List Expr}{te:TE}{t:TA} (ha:PE X e te) (hr:PA X es t) (hs:noStar e=true:=by kernel_rfl):PA X (e::es) (zt te t):=As ha hr (aB hs)
theorem aH {CX:CXT}{E:St->XK}{k:Nat}{x:Str}{ps:List Str}{sp:Sp}{e:Expr}{es:List Expr}{t:TA}{p pos:Pos} (C:Fnc X.prog X.w X.K X.mg X.base CX k x ps sp) (hx:Passes CX X E) (hr:bA k X.A) (ha:PA X (e::es) t)
  (hg:X.env.kindOf x=some .globalImplicit:=by kernel_rfl) (hd:(x == ("__debug__":Str))=false:=by kernel_rfl) (hs:bY (e::es)=true:=by kernel_rfl):PE X (.Call (.Name x p) (e::es) [] pos) (uV sp [] E t) :=
 yC C hx hr hg ha hd (aB (aE hs).1) (bL (aE hs).2)
theorem av {x:Str}{p pos:Pos}{e:Expr}{es:List Expr}{t:TA}{id:String}{r:List V->Hp->VK->Prop} (hc:bw X (.builtin id) r) (hm:X.mg x=none) (hv:bootBuiltins x=some (.builtin id)) (ha:PA X (e::es) t)
  (hg:X.env.kindOf x=some .globalImplicit:=by kernel_rfl) (hn:x≠"__name__":=by decide +kernel) (hd:(x == ("__debug__":Str))=false:=by kernel_rfl) (hs:bY (e::es)=true:=by kernel_rfl):PE X (.Call (.Name x p) (e::es) [] pos) (tCB r t) :=
 yB hc hg hm hv ha hn hd (aB (aE hs).1) (bL (aE hs).2)
theorem fH {x:Str}{p pos:Pos}{e:Expr}{es:List Expr}{t:TA}{T:String}{r:List V->Hp->VK->Prop} (hc:bw X (.type T) r) (hm:X.mg x=none) (hv:bootBuiltins x=some (.type T)) (ha:PA X (e::es) t)
  (hg:X.env.kindOf x=some .globalImplicit:=by kernel_rfl) (hn:x≠"__name__":=by decide +kernel) (hd:(x == ("__debug__":Str))=false:=by kernel_rfl) (hs:bY (e::es)=true:=by kernel_rfl):PE X (.Call (.Name x p) (e::es) [] pos) (tCB r t) :=
 wd hc hg hm hv ha hn hd (aB (aE hs).1) (bL (aE hs).2)
theorem fj {x:Str}{T:String}{pos:Pos} (hm:X.mg x=none) (hv:bootBuiltins x=some (.type T)) (hg:X.env.kindOf x=some .globalImplicit:=by kernel_rfl) (hn:x≠"__name__":=by decide +kernel) (hd:(x == ("__debug__":Str))=false:=by kernel_rfl) :
  PE X (.Name x pos) (tC (.ty T)):=Dq hg hm hv hn hd
theorem az {i:Nat}{x:Str}{e:Expr}{te:TE}{pos pos':Pos} (hN:X.N.Nodup) (he:PE X e te) (hi:X.N[i]?=some x:=by kernel_rfl) (hx:X.env.scope.names.lookup x=some .local:=by kernel_rfl)
  (hs:swapsWith e (some (.Name x pos')) pos.line X.env=pure false:=by kernel_rfl):PS X (.Assign [.Name x pos'] e pos) (wA te (eh i)):=yP hN hi (.inl hx) he hs (.inr hx)
theorem jD {i:Nat}{x:Str}{e:Expr}{te:TE}{pos pos':Pos} (hN:X.N.Nodup) (he:PE X e te) (hi:X.N[i]?=some x:=by kernel_rfl) (hx:X.env.scope.names.lookup x=some .cell:=by kernel_rfl) (hf:X.fn x=true:=by kernel_rfl)
  (hs:swapsWith e (some (.Name x pos')) pos.line X.env=pure false:=by kernel_rfl):PS X (.Assign [.Name x pos'] e pos) (wA te (eh i)):=yP hN hi (.inr hx) he hs (.inl hf)
theorem ax {i:Nat}{x:Str}{pos:Pos} (hN:X.N.Nodup) (hi:X.N[i]?=some x:=by kernel_rfl) (hx:X.env.scope.names.lookup x=some .local:=by kernel_rfl):PG X (.Name x pos) (eh i):=uJ hN hi (.inl hx) (.inr hx)
theorem i4 {i:Nat}{x:Str}{pos:Pos} (hN:X.N.Nodup) (hi:X.N[i]?=some x:=by kernel_rfl) (hx:X.env.scope.names.lookup x=some .cell:=by kernel_rfl) (hf:X.fn x=true:=by kernel_rfl):PG X (.Name x pos) (eh i):=uJ hN hi (.inr hx) (.inl hf)
theorem gQ {tg a:Expr}{ta:TA}{p pos:Pos} (hm:X.mg "range"=none) (ha:PA X [a] ta) (hg:X.env.kindOf "range"=some .globalImplicit:=by kernel_rfl) (hs:noStar a=true:=by kernel_rfl):PI X tg (.Call (.Name "range" p) [a] [] pos) (yc ta) :=
 wj hg hm ha (aB hs)
theorem A2 {elts:List Expr}{k:Nat}{tpos:Pos}{a b:Expr}{ta:TA}{p pos:Pos} (hK:X.K=K) (hm:X.mg "zip"=none) (ha:PA X [a,b] ta) (hg:X.env.kindOf "zip"=some .globalImplicit:=by kernel_rfl) (hs:noStar a=true:=by kernel_rfl) (hs2:noStar b=true:=by kernel_rfl) :
  PI X (.Tuple elts k tpos) (.Call (.Name "zip" p) [a,b] [] pos) (Aa K ta):=A3 hK hg hm ha (by rw [aB hs,aB hs2];rfl) (aB hs2)
theorem gh {o e:Expr}{es:List Expr}{to:TE}{t:TA}{name:Str}{apos cpos:Pos}{T id:String}{r:V->List V->Hp->VK->Prop} (hK:X.K=K) (pa:PlainAttrs T) (slot:Slot T name id) (hty:typeOf (.builtin id)=pure (.type "method_descriptor"))
  (hm:MtR X id r) (ho:PE X o to) (ha:PA X (e::es) t)
  (hbase:attributeBase o name X.env (eval o X.env)=eval o X.env:=by kernel_rfl) (hs:bY (e::es)=true:=by kernel_rfl) (hlen:decide ((e::es).length < 30)=true:=by kernel_rfl)
  (hline:(apos.endLine == cpos.line)=true:=by kernel_rfl):PE X (.Call (.Attribute o name apos) (e::es) [] cpos) (tBM K T r to t):=by
 refine C7 hK pa slot hty hm ho ha hbase ?_ hline (aB (aE hs).1) (bL (aE hs).2)
 rw [iY hs]
 show (true && true && decide ((e::es).length + 0 + 0 < 30))=true
 rw [Bool.true_and,Bool.true_and];exact hlen
end
end L2

namespace L2
open PySem PySem.Spec PyProof.Rows
def tx (l:List Nat):Str:=⟨l.toArray⟩
theorem kj (l:List Nat):(tx l).cps.toList=l:=by unfold tx;simp
theorem dw (l:List Nat):(tx l).length=l.length:=by show l.toArray.size=_;simp
theorem oI (x:Str):tx x.cps.toList=x:=by unfold tx;simp
theorem kh (a b:List Nat):tx a++tx b=tx (a++b):=by
 show Str.mk (a.toArray++b.toArray)=Str.mk (a++b).toArray
 simp
theorem tJ {a b:List Nat} (h:tx a=tx b):a=b:=by have:=congrArg (fun x:Str=>x.cps.toList) h;simpa [tx] using this
theorem eQ (x:Str):x.length=x.cps.toList.length:=by show x.cps.size=_;simp
def Itx (z:Str):It:=⟨fun i _=>i < z.cps.size,fun i H v H'=>H'=H/\∃ c,z.cps[i]?=some c/\v=.str ⟨#[c]⟩,fun i _=>z.cps.size<=i⟩
theorem rQ {P:Program}{w:World}{K:PySem.W.Frag}{tg:Expr} (n:String) (hn:n="str_ascii_iterator" ∨ n="str_iterator") (z:Str) (t:Tok) (it:Addr):Turn P w K tg (Itx z) [it] it (fun i h=>h.IsStrIter it n z t i) where
 mem:=by simp
 obj:=fun i h st b hb=>by
  have e:b=it:=by simpa using hb
  subst e
  obtain ⟨o,e,c,d⟩:=st
  exact ⟨o,e,fun v z=>by rw [d] at z;cases z⟩
 keep:=fun i h h' st k=>by
  obtain ⟨o,e,c,d⟩:=st
  exact ⟨o,k it (by simp) o e,c,d⟩
 item:=by
  intro X hP hw hK hc i pins s σ H E I hf st hg
  subst hP hw hK
  have hg':i < z.cps.size:=hg
  have hx:z.cps[i]?=some z.cps[i]:=Array.getElem?_eq_getElem hg'
  obtain ⟨f0,f1,f2,f3,f4,f5⟩:=hf it (by simp)
  have go:∀ h',h'.IsStrIter it n z t (i + 1)->Heap.SameBut it s.heap h'->∃ u,some (Value.str ⟨#[z.cps[i]]⟩ s.toks)=some u ∧
    wpAny (model X.prog X.w) X.A (letOwnedTupleGo tg (.ref it) u) (fun _ s2=>∃ x H',Inv X pins σ H' s2/\RelV x u/\(Itx z).yld i H x H'/\s2.heap.IsStrIter it n z t (i + 1)/\∀ b∈[it],H' b=none) E { s with heap:=h',toks:=s.toks + 1 }:=fun h' st' sb=>by
   have I1:Inv X pins σ H { s with heap:=h',toks:=s.toks + 1 }:=I.turned (t':=s.toks + 1) (fun b o hb e=>(sb.2 b hb).trans e) f0 f1 f3 f4 f5
   obtain ⟨o,e,c,d⟩:=id st'
   exact ⟨_,rfl,oi (s:={ s with heap:=h',toks:=s.toks + 1 }) e c d (by rcases hn with rfl | rfl <;> decide) ⟨.str ⟨#[z.cps[i]]⟩,H,I1,⟨_,rfl⟩,⟨rfl,_,hx,rfl⟩,st',fun b hb=>(hf b hb).1⟩⟩
  rcases hn with rfl | rfl
  ·exact wpAny_pyNext_ascii_item st hx go
  ·exact wpAny_pyNext_wide_item st hx go
 done:=by
  intro X hP hw hK hc i pins s σ H E I hf st hg
  subst hP hw hK
  have hx:z.cps[i]?=none:=Array.getElem?_eq_none hg
  obtain ⟨f0,f1,f2,f3,f4,f5⟩:=hf it (by simp)
  have go:∀ h',Heap.ExtBut it s.heap h'->(none:Option Value)=none/\Inv X pins σ H { s with heap:=h' }:=fun h' eb =>
   ⟨rfl,I.turned (t':=s.toks) (fun b o hb e=>eb b o hb e) f0 f1 f3 f4 f5⟩
  rcases hn with rfl | rfl
  ·exact wpAny_pyNext_ascii_end (I.ok.hd hc) st hx go
  ·exact wpAny_pyNext_wide_end (I.ok.hd hc) st hx go
 self:=fun _ _ _ _ _ st h=>by
  rcases hn with rfl | rfl
  ·exact wpAny_pyIter_striter_ascii st h
  ·exact wpAny_pyIter_striter_wide st h
def uD (K:PySem.W.Frag) (x:V) (H:Hp) (R:It->Hp->Prop):Prop:=match x with
 | .ref a=>((∃ xs,SqL K H a xs)/\R (Itl K a) H) ∨ ((∃ xs,SqT K H a xs)/\R (Itt K a) H)
 | .str z=>R (Itx z) H
 | _=>False
def yd (K:PySem.W.Frag) (te:TE):TI:=fun σ H R=>te σ H fun x H1=>uD K x H1 R
theorem CB {X:Cx}{tg l:Expr}{tl:TE} (hl:PE X l tl):PI X tg l (yd X.K tl):=by
 intro pins s σ H R I h
 refine thn (hl pins s σ H _ I h) fun v s1 ⟨x,H1,I1,r1,q1⟩=>?_
 cases x with
 | ref a =>
  cases r1
  rcases q1 with ⟨⟨xs,hq⟩,q⟩ | ⟨⟨xs,hq⟩,q⟩
  ·obtain ⟨its,rv,p,hz⟩:=I1.list hq
   refine wpAny_pyIter_list p.isList ?_
   refine ⟨s1.heap.objs.size,[s1.heap.objs.size],_,_,H1,rfl,I1.kept (t':=s1.toks) fun b o e=>Heap.get?_push_of_some _ e,wF a _,⟨_,Heap.get?_push_size _ rfl,rfl,rfl⟩,fun b hb=>?_,q⟩
   have e:b=s1.heap.objs.size:=by simpa using hb
   subst e
   exact I1.mx (Nat.le_refl _) (I1.hok.fresh (Nat.le_refl _))
  ·obtain ⟨its,rv,p,hz⟩:=I1.tuple hq
   refine wpAny_pyIter_tuple (show s1.heap.IsTuple a its.toArray from p) ?_
   refine ⟨s1.heap.objs.size,[s1.heap.objs.size],_,_,H1,rfl,I1.kept (t':=s1.toks) fun b o e=>Heap.get?_push_of_some _ e,tI a _,⟨_,Heap.get?_push_size _ rfl,rfl,rfl⟩,fun b hb=>?_,q⟩
   have e:b=s1.heap.objs.size:=by simpa using hb
   subst e
   exact I1.mx (Nat.le_refl _) (I1.hok.fresh (Nat.le_refl _))
 | str z =>
  obtain ⟨t,rfl⟩:=r1
  cases ha:z.cps.all (· < 128) with
  | true =>
   refine wpAny_pyIter_ascii ha ?_
   refine ⟨s1.heap.objs.size,[s1.heap.objs.size],_,_,H1,rfl,I1.kept (t':=s1.toks) fun b o e=>Heap.get?_push_of_some _ e,rQ "str_ascii_iterator" (.inl rfl) z t _,⟨_,Heap.get?_push_size _ rfl,rfl,rfl⟩,fun b hb=>?_,q1⟩
   have e:b=s1.heap.objs.size:=by simpa using hb
   subst e
   exact I1.mx (Nat.le_refl _) (I1.hok.fresh (Nat.le_refl _))
  | false =>
   refine wpAny_pyIter_wide ha ?_
   refine ⟨s1.heap.objs.size,[s1.heap.objs.size],_,_,H1,rfl,I1.kept (t':=s1.toks) fun b o e=>Heap.get?_push_of_some _ e,rQ "str_iterator" (.inr rfl) z t _,⟨_,Heap.get?_push_size _ rfl,rfl,rfl⟩,fun b hb=>?_,q1⟩
   have e:b=s1.heap.objs.size:=by simpa using hb
   subst e
   exact I1.mx (Nat.le_refl _) (I1.hok.fresh (Nat.le_refl _))
 | _=>exact False.elim q1
theorem cU {X:Cx}{K:PySem.W.Frag}{tg l:Expr}{tl:TE} (hK:X.K=K) (hl:PE X l tl):PI X tg l (yd K tl):=hK ▸ CB hl
theorem tV {σ:St}{H:Hp}{K:PySem.W.Frag}{tl:TE}{R:It->Hp->Prop}:yd K tl σ H R=tl σ H fun x H1=>uD K x H1 R:=propext Iff.rfl
def sgs (z:Str):List V:=z.cps.toList.map fun c=>V.str ⟨#[c]⟩
theorem AH {H1:Hp} (z:Str):(Itx z).Seq H1 (sgs z):=fun H s=>by
 refine ⟨fun i x e=>?_,fun i hi=>?_⟩
 ·unfold sgs at e
  rw [List.getElem?_map,Array.getElem?_toList] at e
  cases hc:z.cps[i]? with
  | none=>rw [hc] at e;cases e
  | some c =>
   rw [hc] at e
   have e':V.str ⟨#[c]⟩=x:=Option.some.inj e
   have hi:i < z.cps.size:=by
    rcases Nat.lt_or_ge i z.cps.size with h | h
    ·exact h
    ·rw [Array.getElem?_eq_none h] at hc;cases hc
   exact ⟨hi,fun y H' ⟨e1,d,e2,e3⟩=>⟨e1,by rw [hc] at e2;cases e2;rw [e3,e']⟩⟩
 ·show z.cps.size<=i
  unfold sgs at hi
  simpa using hi
def wq (K:PySem.W.Frag) (neg:Bool):R2:=fun x y H Q=>match y with
 | .str j=>match x with
  | .str i=>Q (.bl (neg != !(Builtin.Str.occurrences j i 0 j.length 1).isEmpty)) H
  | _=>False
 | .ref p=>(∃ xs,Sq K H p xs/\cg x=true/\xs.all cg=true/\Q (.bl (neg != inV x xs)) H) ∨ ∃ o:Option V,gc H p x o/\Q (.bl (neg != o.isSome)) H
 | _=>False
theorem Cu {X:Cx} (hu:X.A.units + 1 < cLine):OpR X (compareOp .In) (wq X.K false):=by
 intro pins s σ H x y v u Q I rx ry h
 cases y with
 | str j=>cases x with
  | str i =>
   refine vY pins s σ H _ _ v u Q I rx ry ⟨i,j,rfl,rfl,?_⟩
   have h':Q (.bl (false != !(Builtin.Str.occurrences j i 0 j.length 1).isEmpty)) H:=h
   rwa [Bool.false_bne] at h'
  | _=>exact False.elim h
 | ref p =>
  rcases h with ⟨xs,hs,fx,fxs,q⟩ | ⟨o,hg,q⟩
  ·rw [Bool.false_bne] at q
   exact vX pins s σ H _ _ v u Q I rx ry ⟨p,xs,rfl,hs,fx,fxs,q⟩
  ·rw [Bool.false_bne] at q
   cases ry
   exact DX hu I hg rx fun s' I'=>⟨.bl _,H,I',rfl,q⟩
 | _=>exact False.elim h
theorem wc {X:Cx} (hu:X.A.units + 1 < cLine):OpR X (compareOp .NotIn) (wq X.K true):=by
 intro pins s σ H x y v u Q I rx ry h
 cases y with
 | str j=>cases x with
  | str i =>
   refine pG pins s σ H _ _ v u Q I rx ry ⟨i,j,rfl,rfl,?_⟩
   have h':Q (.bl (true != !(Builtin.Str.occurrences j i 0 j.length 1).isEmpty)) H:=h
   rwa [Bool.true_bne] at h'
  | _=>exact False.elim h
 | ref p =>
  rcases h with ⟨xs,hs,fx,fxs,q⟩ | ⟨o,hg,q⟩
  ·rw [Bool.true_bne] at q
   exact pF pins s σ H _ _ v u Q I rx ry ⟨p,xs,rfl,hs,fx,fxs,q⟩
  ·rw [Bool.true_bne] at q
   cases ry
   exact zQ hu I hg rx fun s' I'=>⟨.bl _,H,I',rfl,q⟩
 | _=>exact False.elim h
theorem ka {X:Cx}{K:PySem.W.Frag} (hK:X.K=K) (hu:X.A.units + 1 < cLine):OpR X (compareOp .In) (wq K false):=hK ▸ Cu hu
theorem vZ {X:Cx}{K:PySem.W.Frag} (hK:X.K=K) (hu:X.A.units + 1 < cLine):OpR X (compareOp .NotIn) (wq K true):=hK ▸ wc hu
theorem ye (x:Str) (c:Nat):(!(Builtin.Str.occurrences x ⟨#[c]⟩ 0 x.length 1).isEmpty)=decide (c∈x.cps.toList):=StrLaws.found_one x c
theorem AN {ys:List Str}:∀ {us:List Value},Vals (ys.map V.str) us->StrsAre us ys:=by
 induction ys with
 | nil=>intro us r;cases r;exact .nil
 | cons y r ih =>
  intro us h
  cases h with
  | cons h1 h2 =>
   obtain ⟨t,rfl⟩:=h1
   exact .cons _ _ (ih h2)
def sW (K:PySem.W.Frag):V->List V->Hp->VK->Prop:=fun x vs H Q=>match x,vs with
 | .str z,[.ref p]=>∃ ys:List Str,SqL K H p (ys.map V.str)/\(ys.map (·.length)).sum + ys.length * z.length<=16777216/\Q (.str (Txt.join z ys)) H
 | _,_=>False
theorem yx {X:Cx}:MtM X "str.join" (sW X.K):=by
 intro pins s σ H x vs v us Q I rx rv h
 match x,vs,h with
 | .str z,[.ref p],h =>
  obtain ⟨ys,hs,hl,q⟩:=h
  obtain ⟨t,rfl⟩:=rx
  obtain ⟨u,rfl,ru⟩:=rv.one
  cases ru
  obtain ⟨its,rv2,pl,hz⟩:=I.list hs
  exact join_list pl.isList (by simpa using AN rv2) hl fun t' k=>⟨.str _,H,I.tok _,⟨_,rfl⟩,q⟩
theorem yw {X:Cx}{K:PySem.W.Frag} (hK:X.K=K):MtM X "str.join" (sW K):=hK ▸ yx
theorem my (ls:List (List Nat)):Txt.join (tx []) (ls.map tx)=tx ls.flatten:=by
 have go:∀ (r:List (List Nat)) (acc:List Nat),(r.map tx).foldl (fun acc p=>acc++(tx []).cps++p.cps) acc.toArray=(acc++r.flatten).toArray:=by
  intro r
  induction r with
  | nil=>intro acc;simp
  | cons a r ih =>
   intro acc
   rw [List.map_cons,List.foldl_cons]
   have e:acc.toArray++(tx []).cps++(tx a).cps=(acc++a).toArray:=by simp [tx]
   rw [e,ih]
   simp
 unfold Txt.join Builtin.Str.glued
 cases ls with
 | nil=>rfl
 | cons a r =>
  have:=go r a
  show Str.mk ((r.map tx).foldl (fun acc p=>acc++(tx []).cps++p.cps) a.toArray)=tx (a::r).flatten
  rw [this]
  rfl
theorem sv (l:List Nat):Txt.join (tx []) (l.map fun c=>tx [c])=tx l:=by
 have:=my (l.map fun c=>[c])
 rw [List.map_map] at this
 rw [show (l.map fun c=>tx [c])=l.map (tx ∘ fun c=>[c]) from rfl,this]
 congr 1
 induction l with
 | nil=>rfl
 | cons a r ih=>rw [List.map_cons,List.flatten_cons,ih (by
   have:=my (r.map fun c=>[c])
   rw [List.map_map] at this;exact this)];rfl
section
variable {α β:Type}
noncomputable def pull {γ:Type} (e:α->V) (f:α->γ) (d:γ) (v:V):γ:=open Classical in if h:∃ a,e a=v then f (Classical.choose h) else d
theorem fT {γ:Type}{e:α->V} (inj:∀ a b,e a=e b->a=b) (f:α->γ) (d:γ) (a:α):pull e f d (e a)=f a:=by
 unfold pull
 have h:∃ b,e b=e a:=⟨a,rfl⟩
 rw [dif_pos h,inj _ _ (Classical.choose_spec h)]
theorem iL:∀ a b:Int,V.int a=V.int b->a=b:=fun _ _ h=>by cases h;rfl
theorem yf:∀ a b:Nat,V.str ⟨#[a]⟩=V.str ⟨#[b]⟩->a=b:=fun _ _ h=>by cases h;rfl
theorem Ci {J:It}{H1:Hp}{xs:List α}{js:List Nat}{σ:St}{tc:TT}{te:TE}{Q:VK} (e:α->V) (inj:∀ a b,e a=e b->a=b) (hJ:J.Seq H1 (xs.map e)) (hl:xs.length < sizeLine) (p:α->Bool) (f:α->V)
  (hc:∀ x∈xs,∀ H,ak H1 H->∀ R:Bool->Hp->Prop,(∀ H',ak H H'->R (p x) H')->tc (some (e x)::js.map fun j=>(σ[j]?).join) H R)
  (he:∀ x∈xs,p x=true->∀ H,ak H1 H->∀ R:VK,(∀ H',ak H H'->R (f x) H')->te (some (e x)::js.map fun j=>(σ[j]?).join) H R)
  (q:∀ D H,H1 D=none->ak H1 H->H D=some (.lst ((xs.filter p).map f))->Q (.ref D) H):dm (eh 0) tc te (ef 1 js σ) J H1 Q:=by
 refine sC hJ (by rw [List.length_map];exact hl) (pull e p false) (pull e f .non) ?_ ?_ ?_
 ·intro v hv H s R hR
  obtain ⟨x,hx,rfl⟩:=List.mem_map.mp hv
  rw [fT inj] at hR
  exact hc x hx H s R hR
 ·intro v hv hp H s R hR
  obtain ⟨x,hx,rfl⟩:=List.mem_map.mp hv
  rw [fT inj] at hR hp
  exact he x hx hp H s R hR
 ·intro D H h1 h2 h3
  refine q D H h1 h2 ?_
  rw [h3,List.filter_map,List.map_map]
  congr 2
  have e1:pull e f .non ∘ e=f:=funext fun a=>fT inj f .non a
  have e2:pull e p false ∘ e=p:=funext fun a=>fT inj p false a
  rw [e1,e2]
theorem vS {J:It}{H1:Hp}{xs:List α}{js:List Nat}{σ:St}{te:TE}{Q:VK} (e:α->V) (inj:∀ a b,e a=e b->a=b) (hJ:J.Seq H1 (xs.map e)) (hl:xs.length < sizeLine) (f:α->V)
  (he:∀ x∈xs,∀ H,ak H1 H->∀ R:VK,(∀ H',ak H H'->R (f x) H')->te (some (e x)::js.map fun j=>(σ[j]?).join) H R)
  (q:∀ D H,H1 D=none->ak H1 H->H D=some (.lst (xs.map f))->Q (.ref D) H):dm (eh 0) wC te (ef 1 js σ) J H1 Q :=
 Ci e inj hJ hl (fun _=>true) f (fun x _ H _ R hR=>hR H (ak.refl H)) (fun x hx _ H s R hR=>he x hx H s R hR) fun D H h1 h2 h3=>q D H h1 h2 (by rw [List.filter_eq_self.mpr (fun _ _=>rfl)] at h3;exact h3)
theorem Ea {K:PySem.W.Frag}{a b:Addr}{H1:Hp}{xs:List α}{ys:List β}{js:List Nat}{σ:St}{te:TE}{Q:VK} (e:α->V) (e':β->V) (inj:∀ a b,e a=e b->a=b) (inj':∀ a b,e' a=e' b->a=b)
  (hx:SqL K H1 a (xs.map e)) (hy:SqL K H1 b (ys.map e')) (hl:xs.length < sizeLine) (f:α->β->V)
  (he:∀ x y,(x,y)∈xs.zip ys->∀ H,ak H1 H->∀ R:VK,(∀ H',ak H H'->R (f x y) H')->te (some (e x)::some (e' y)::js.map fun j=>(σ[j]?).join) H R)
  (q:∀ D H,H1 D=none->ak H1 H->H D=some (.lst ((xs.zip ys).map fun p=>f p.1 p.2))->Q (.ref D) H):dm (zX K 2 (oh (eh 0) (oh (eh 1) zW))) wC te (ef 2 js σ) (Itz K a b) H1 Q:=by
 refine Ck hx hy (by rw [List.length_map];exact hl) (fun v u=>pull e (fun x=>pull e' (f x) .non u) .non v) ?_ ?_
 ·intro v u hvu H s R hR
  rw [List.zip_map,List.mem_map] at hvu
  obtain ⟨⟨x,y⟩,hxy,e2⟩:=hvu
  cases e2
  have e3:pull e (fun x=>pull e' (f x) .non (e' y)) .non (e x)=f x y:=by rw [fT inj,fT inj']
  exact he x y hxy H s R (fun H' s'=>by have:=hR H' s';rwa [e3] at this)
 ·intro D H h1 h2 h3
  refine q D H h1 h2 ?_
  rw [h3,List.zip_map,List.map_map]
  congr 2
  refine List.map_congr_left fun ⟨x,y⟩ _=>?_
  show pull e (fun x=>pull e' (f x) .non (e' y)) .non (e x)=f x y
  rw [fT inj,fT inj']
end
theorem zm {H1:Hp} (z:Str):(Itx z).Seq H1 (z.cps.toList.map fun c=>V.str ⟨#[c]⟩):=AH z
theorem lx {H:Hp}{x:V}{t:Tg} (ht:eO H x=some t) (hs:∀ z,x≠.str z):t≠.str:=fun e=>by
 subst e
 cases x with
 | str z=>exact hs z rfl
 | ref a =>
  have h':hZ (H a)=some .str:=ht
  cases e:H a with
  | none=>rw [e] at h';cases h'
  | some o=>rw [e] at h';cases o with
   | frz ob u=>cases u <;> cases h'
   | _=>cases h'
 | _=>cases ht
theorem kY {t u:TS}{D:Ends}{σ:St}{H:Hp} (R:St->Hp->Prop) (h2:∀ σ' H',R σ' H'->u D σ' H') (h1:∀ U:St->Hp->Prop,(∀ σ' H',R σ' H'->U σ' H')->t { D with nx:=U } σ H):zy t u D σ H:=h1 _ h2
theorem fg {α:Type}{l:List α}{i:Int}{v:α} (h0:0<=i) (h1:l[i.toNat]?=some v):atI l i=some v:=by
 have:=bX h1
 rwa [Int.toNat_of_nonneg h0] at this
theorem n6:(Str.ofString "abcdefghijklmnopqrstuvwxyz").cps.toList=List.range' 97 26:=by decide +kernel
theorem xB:Str.ofString ""=tx []:=by decide +kernel
theorem Ca {K:PySem.W.Frag}{H:Hp}{D:Addr}{l:List Nat} (h:H D=some (.lst (l.map fun c=>V.str (tx [c])))):SqL K H D ((l.map fun c=>tx [c]).map V.str):=.of (by rw [h,List.map_map];rfl)
theorem BZ {l:List Nat} (hl:l.length<=100000):((l.map fun c=>tx [c]).map (·.length)).sum + (l.map fun c=>tx [c]).length * (Str.ofString "").length<=16777216:=by
 have e2:(Str.ofString "").length=0:=by decide +kernel
 rw [e2,Nat.mul_zero,Nat.add_zero,List.map_map]
 have e:∀ l:List Nat,(l.map ((fun x:Str=>x.length) ∘ fun x=>tx [x])).sum=l.length:=by
  intro l
  induction l with
  | nil=>rfl
  | cons a r ih=>rw [List.map_cons,List.sum_cons,ih,List.length_cons];show (tx [a]).length + _=_;rw [dw];simp;omega
 rw [e]
 omega
theorem Ae (l:List Nat):Txt.join (Str.ofString "") (l.map fun c=>tx [c])=tx l:=by rw [xB,sv]
end L2

namespace L2
open PySem PySem.Spec PyProof.Rows
def DK (h h':Heap):Prop:=∀ b o,h.get? b=some o->∃ o',h'.get? b=some o'/\o'.cls=o.cls/\o'.dict=o.dict/\(∀ vs,o.data=.fields vs->∃ vs',o'.data=.fields vs'/\vs'[2]?=vs[2]?)
theorem DK.refl (h:Heap):DK h h:=fun b o e=>⟨o,e,rfl,rfl,fun vs q=>⟨vs,q,rfl⟩⟩
theorem DK.trans {h1 h2 h3:Heap} (x:DK h1 h2) (y:DK h2 h3):DK h1 h3:=fun b o e=>by
 obtain ⟨o1,e1,c1,d1,f1⟩:=x b o e
 obtain ⟨o2,e2,c2,d2,f2⟩:=y b o1 e1
 exact ⟨o2,e2,c2.trans c1,d2.trans d1,fun vs q=>by obtain ⟨v1,q1,g1⟩:=f1 vs q;obtain ⟨v2,q2,g2⟩:=f2 v1 q1;exact ⟨v2,q2,g2.trans g1⟩⟩
theorem DK.push (h:Heap) (o:Obj):DK h (h.push o):=fun b u e=>⟨u,Heap.get?_push_of_some _ e,rfl,rfl,fun vs q=>⟨vs,q,rfl⟩⟩
structure KD {α:Type} (m:Sem α):Prop where
 out:∀ (M:Model) (Γ:PySem.Ctx) (P:α->Pos->Shared->Prop) (Ee:Value->Pos->Shared->Prop) (p:Pos) (s:Shared),Sem.wp M Γ m P Ee p s →
  Sem.wp M Γ m (fun a p' s'=>P a p' s'/\DK s.heap s'.heap) (fun e p' s'=>Ee e p' s'/\DK s.heap s'.heap) p s
namespace KD
variable {α β:Type}
theorem pure (a:α):KD (Pure.pure a:Sem α):=⟨fun _ _ _ _ _ s h=>⟨h,DK.refl _⟩⟩
theorem unsupported (w:String):KD (PySem.unsupported w:Sem α):=⟨fun _ _ _ _ _ _ h=>h⟩
theorem bind {m:Sem α}{f:α->Sem β} (hm:KD m) (hf:∀ a,KD (f a)):KD (m >>= f):=⟨fun M Γ P Ee p s h=>by
 rw [Sem.wp_bind'] at h ⊢
 refine Sem.wp_mono M Γ m (fun a p' s' h'=>?_) (fun _ _ _ x=>x) p s (hm.out M Γ _ _ p s h)
 refine Sem.wp_mono M Γ (f a) (fun b p2 s2 h2=>⟨h2.1,h'.2.trans h2.2⟩) (fun e p2 s2 h2=>⟨h2.1,h'.2.trans h2.2⟩) p' s' ((hf a).out M Γ P Ee p' s' h'.1)⟩
theorem ite {c:Prop} [Decidable c] {t u:Sem α} (ht:KD t) (hu:KD u):KD (if c then t else u):=by split <;> assumption
theorem load (a:Addr):KD (PySem.load a):=⟨fun _ _ _ _ _ s h=>by obtain ⟨o,e,q⟩:=h;exact ⟨o,e,q,DK.refl _⟩⟩
theorem stack:KD PySem.stack:=⟨fun M Γ P Ee p s h=>by
 unfold PySem.stack at h ⊢
 rw [Sem.wp_stack] at h ⊢
 exact ⟨h,DK.refl _⟩⟩
theorem alloc (o:Obj):KD (PySem.alloc o):=⟨fun _ _ _ _ _ s h=>⟨h,DK.push _ _⟩⟩
theorem field (v:Value) (i:Nat):KD (PySem.field v i):=⟨fun _ Γ P Ee p s h=>by
 rw [wp_field_iff] at h ⊢
 obtain ⟨a,o,vs,x,e1,e2,e3,e4,q⟩:=h
 exact ⟨a,o,vs,x,e1,e2,e3,e4,q,DK.refl _⟩⟩
theorem update {a:Addr}{f:Obj->Obj} (hf:∀ o,(f o).cls=o.cls/\(f o).dict=o.dict/\(f o).isFreed=o.isFreed/\∀ vs,o.data=.fields vs->∃ vs',(f o).data=.fields vs'/\vs'[2]?=vs[2]?):KD (PySem.update a f):=⟨fun _ _ _ _ _ s h=>by
 refine ⟨h.1,h.2,fun b o e=>?_⟩
 by_cases hb:b=a
 ·subst hb
  obtain ⟨h1,h2,h3,h4⟩:=hf o
  have hfr:o.isFreed=false:=(Heap.get?_some_iff.mp e).2
  exact ⟨f o,Heap.get?_update_self _ e (by rw [h3];exact hfr),h1,h2,h4⟩
 ·exact ⟨o,(Heap.get?_update_other _ _ (Ne.symm hb)).trans e,rfl,rfl,fun vs q=>⟨vs,q,rfl⟩⟩⟩
theorem setField (v:Value) (i:Nat) (x:Value) (hi:i≠2):KD (PySem.setField v i x):=⟨fun _ Γ P Ee p s h=>by
 rw [wp_setField_iff] at h ⊢
 obtain ⟨a,o,vs,e1,e2,e3,e4,q⟩:=h
 refine ⟨a,o,vs,e1,e2,e3,e4,q,fun b u e=>?_⟩
 by_cases hb:b=a
 ·subst hb
  rw [e2] at e
  cases e
  have hd:=Obj.data_mapFields e3 (·.setIfInBounds i x)
  exact ⟨_,Heap.get?_update_self _ e2 (Obj.isFreed_of_fields hd),Obj.cls_mapFields ..,by cases o with | mk c d dt sl=>cases dt <;> first | rfl,fun vs' q=>⟨_,hd,by rw [e3] at q;cases q;exact Array.getElem?_setIfInBounds_ne hi⟩⟩
 ·exact ⟨u,(Heap.get?_update_other _ _ (Ne.symm hb)).trans e,rfl,rfl,fun vs q=>⟨vs,q,rfl⟩⟩⟩
theorem slots {a:Addr}{g:Obj->Array (Option Value)}:KD (PySem.update a fun o=>{ o with slots:=g o }):=update fun o=>⟨rfl,rfl,by cases o with | mk c d dt sl=>cases dt <;> rfl,fun vs q=>⟨vs,q,rfl⟩⟩
end KD
theorem vN (env:Env) (outer:List Env):KD (behindIsImport env outer):=by
 unfold behindIsImport
 repeat' with_reducible first | exact KD.pure _ | exact KD.field _ _ | apply KD.ite | apply KD.bind | intro _
theorem vO:KD underTheClaimsCaller:=by
 unfold underTheClaimsCaller
 repeat' with_reducible first | exact KD.pure _ | exact KD.stack | exact KD.unsupported _ | exact KD.field _ _ | apply KD.ite | apply KD.bind | intro _ | split
theorem Af (env:Env) (i:Bool) (l:List Env):KD (keptBack env i l):=by
 have:=vO
 cases l <;> unfold keptBack <;> repeat' with_reducible first | assumption | exact KD.pure _ | apply KD.ite | apply KD.bind | intro _
theorem qO:∀ l:List Env,KD (readyFrames l)
 | []=>KD.pure _
 | env::outer=>by
  have ih:=qO outer
  have h1:=vN env outer
  have h2:=fun i=>Af env i outer
  unfold readyFrames
  split
  ·refine KD.bind (KD.load _) fun o=>KD.ite (KD.pure _) (KD.bind h1 fun b=>KD.bind (h2 b) fun v=>KD.bind KD.slots fun _=>ih)
  ·exact KD.unsupported _
theorem mz (l:List Env):KD (frameObject l):=by
 cases l with
 | nil=>exact KD.pure _
 | cons a r=>unfold frameObject;exact KD.bind (qO _) fun _=>KD.pure _
theorem sx (env:Env):KD (PySem.frameOf env):=by
 unfold PySem.frameOf frameEnvs
 refine KD.bind (KD.bind KD.stack fun _=>KD.pure _) fun l=>KD.bind (mz _) fun o=>?_
 cases o with
 | none=>exact KD.unsupported _
 | some v=>exact KD.pure _
theorem yh (f:Addr) (b:Bool):KD (entryPlaceOf f b):=by
 unfold entryPlaceOf
 repeat' with_reducible first | exact KD.pure _ | exact KD.stack | exact KD.unsupported _ | apply KD.ite | apply KD.bind | intro _ | split
theorem yg (a b c d e:Value) (l:List Value):KD (EntryCells.newEntry a b c d e l):=by
 unfold EntryCells.newEntry newFields newObj newObjAsIs
 repeat' first | exact KD.pure _ | exact KD.alloc _ | exact KD.unsupported _ | apply KD.ite | apply KD.bind | intro _ | split
theorem uE (e:Value) (env:Env):KD (noteFrame e env):=by
 unfold noteFrame
 have h1:=sx env
 have h2:=yh
 have h3:=yg
 split
 ·repeat' with_reducible first | exact KD.pure _ | exact KD.field _ _ | exact KD.setField _ _ _ (by decide) | exact h1 | exact h2 _ _ | exact h3 _ _ _ _ _ _ | apply KD.ite | apply KD.bind | intro _
 ·exact KD.unsupported _
theorem jU (e:Value) (o:Option Addr):KD (setFlight e o):=by
 unfold setFlight
 repeat' with_reducible first | exact KD.pure _ | exact KD.field _ _ | exact KD.setField _ _ _ (by decide) | apply KD.ite | apply KD.bind | intro _
theorem m4 (env:Env) (e:Value):KD (leaving env e):=by
 unfold leaving
 exact KD.bind (uE _ _) fun _=>jU _ _
theorem KD.any {α:Type}{M:Model}{A:Around}{t:Sem α}{Q:α->Shared->Prop}{E:Value->Shared->Prop}{s:Shared} (k:KD t) (h:wpAny M A t Q E s) :
  wpAny M A t (fun a s'=>Q a s'/\DK s.heap s'.heap) (fun e s'=>E e s'/\DK s.heap s'.heap) s:=fun Γ p hΓ=>k.out M Γ _ _ p s (h Γ p hΓ)
theorem sL {P:Program}{w:World}{H:Hp}{h:Heap}{a:Addr}{o:HO} (x:aS P w H h a o):∃ u,h.get? a=some u:=by
 cases o with
 | lst xs=>obtain ⟨_,_,_,_,e⟩:=x;exact ⟨_,e⟩
 | tup xs=>obtain ⟨_,_,_,ob,e,_⟩:=x;exact ⟨_,e⟩
 | dK kvs=>obtain ⟨_,_,_,_,ob,_,_,e,_⟩:=x;exact ⟨_,e⟩
 | dT kvs=>obtain ⟨_,_,_,_,ob,_,_,e,_⟩:=x;exact ⟨_,e⟩
 | set S n=>obtain ⟨ob,_,_,_,e,_⟩:=x;exact ⟨_,e⟩
 | ins C dx fs=>obtain ⟨_,_,_,e,_⟩:=x;exact ⟨_,e⟩
 | own y=>exact x
 | xd fs=>obtain ⟨_,⟨od,_,_,e,_⟩,_⟩:=x;exact ⟨_,e⟩
 | rng lo hi=>obtain ⟨_,_,_,e⟩:=x;exact ⟨_,e⟩
 | frz ob u=>exact ⟨_,x.1⟩
 | tbl ps=>obtain ⟨_,e,_⟩:=x;exact ⟨_,e⟩
 | met f y=>exact ⟨_,x⟩
 | ext φ=>exact x.2.1
def XD (o:Obj) (d:Option Addr):Prop:=o.dict=d/\∃ vs,o.data=.fields vs/\vs[2]?=some .none
theorem XD.dk {o o':Obj}{d:Option Addr} (x:XD o d) (h:o'.dict=o.dict) (f:∀ vs,o.data=.fields vs->∃ vs',o'.data=.fields vs'/\vs'[2]?=vs[2]?):XD o' d:=by
 obtain ⟨x1,vs,x2,x3⟩:=x
 obtain ⟨vs',y1,y2⟩:=f vs x2
 exact ⟨h.trans x1,vs',y1,y2.trans x3⟩
def CX1 (P:Program) (w:World):CXT:=fun outer H s E e s'=>∃ (ea C t:Addr) (B:Heap) (H':Hp) (d:Option Addr),e=.ref ea/\s'.os=s.os/\AllBare s'.gens/\Un (frs outer) [] H H' s.heap s'.heap/\HOk P w H' s'.heap ∧
 Heap.FlyingW B outer ea (.ref C) (.ref t) s'.heap/\(∃ oe,s'.heap.get? ea=some oe/\XD oe d)/\(∀ dx,d=some dx->∃ fs,H' dx=some (.xd fs)) ∧
 (∀ b o,s'.heap.get? b=some o->b ∉ frs outer->(H' b≠none ∨ ∃ u,s.heap.get? b=some u)->B.get? b=some o)/\E (.ref C) d H'
section
variable {X:Cx}{pins:List (Addr × Obj)}{σ:St}{H:Hp}{s:Shared}
theorem qC {B h':Heap} (I:Inv X pins σ H s) (hst:X.stack=X.env::X.outer) (hf:X.env.frame=some X.env.locals) (hex:X.ex=[]) (hB:B.StaysIn h') (hsm:s.heap.UpToSlots h')
  (hk:∀ b o,s.heap.get? b=some o->b ∉ frs X.stack->(H b≠none ∨ ∃ u,X.s₀.heap.get? b=some u)->B.get? b=some o) :
  Un (frs X.outer) [] X.H₀ H X.s₀.heap h'/\HOk X.prog X.w H h'/\∀ b o,h'.get? b=some o->b ∉ frs X.outer->(H b≠none ∨ ∃ u,X.s₀.heap.get? b=some u)->B.get? b=some o:=by
 have hfs:frs X.stack=X.env.locals::frs X.outer:=by rw [hst];unfold frs;rw [List.filterMap_cons,hf]
 have old:∀ b u,X.s₀.heap.get? b=some u->b≠X.env.locals:=fun b u e z=>absurd (Nat.lt_of_lt_of_le (Heap.lt_size e) (by rw [z];exact I.ok.above)) (Nat.lt_irrefl _)
 have nstk:∀ b,b≠X.env.locals->b ∉ frs X.outer->b ∉ frs X.stack:=fun b h1 h2 z=>by rw [hfs] at z;rcases List.mem_cons.mp z with z | z;exact h1 z;exact h2 z
 have trk:∀ b,H b≠none->b ∉ frs X.stack:=fun b h1 z=>h1 (I.lu b z)
 have nx:∀ b:Addr,b ∉ X.ex:=fun b=>by rw [hex];simp
 have fr:∀ b,b∈frs X.outer->∃ o,s.heap.get? b=some o/\∀ vs,o.data≠.fields vs:=fun b hb=>(I.stack.mem (show b∈frs X.stack by rw [hfs];exact List.mem_cons_of_mem _ hb)).2
 have tkeep:∀ b o,H b≠none->s.heap.get? b=some o->h'.get? b=some o:=fun b o h1 e=>hB b o (hk b o e (trk b h1) (.inl h1))
 have okeep:∀ b o u,X.s₀.heap.get? b=some u->b ∉ frs X.outer->s.heap.get? b=some o->h'.get? b=some o:=fun b o u e0 h2 e=>hB b o (hk b o e (nstk b (old b u e0) h2) (.inr ⟨u,e0⟩))
 refine ⟨⟨fun b o e n hb _=>?_,fun b o e n hb _=>?_,fun b o e n _=>I.base.free b o e n (nx b),fun b o e _=>?_,I.base.tups,I.base.frzs,I.base.tbls⟩,fun a o e=>?_,fun b o e hb hc=>?_⟩
 ·exact okeep b o o e hb (I.base.keep b o e n hb (nx b))
 ·obtain ⟨sl,e1⟩:=I.base.slot b o e n hb (nx b)
  obtain ⟨o1,e2,hd⟩:=fr b hb
  rw [e1] at e2
  cases e2
  obtain ⟨sl',e3⟩:=hsm b _ e1 hd
  exact ⟨sl',e3⟩
 ·obtain ⟨o1,e1⟩:=I.base.there b o e (nx b)
  by_cases hb:b∈frs X.outer
  ·obtain ⟨o2,e2,hd⟩:=fr b hb
   obtain ⟨sl',e3⟩:=hsm b _ e2 hd
   exact ⟨_,e3⟩
  ·exact ⟨o1,okeep b o1 o e hb e1⟩
 ·refine (I.hok a o e).ji (fun c v hc q=>tkeep c v ?_ q) (fun _ q=>q) fun _ _ q=>q
  rcases hc with z | z
  ·rw [z,e];simp
  ·rw [z];simp
 ·rcases hc with h1 | ⟨u,e0⟩
  ·cases q:H b with
   | none=>exact absurd q h1
   | some ob =>
    obtain ⟨o1,e1⟩:=sL (I.hok b ob q)
    have:=tkeep b o1 h1 e1
    rw [e] at this
    cases this
    exact hk b o e1 (trk b h1) (.inl h1)
  ·obtain ⟨o1,e1⟩:=I.base.there b u e0 (nx b)
   have:=okeep b o1 u e0 hb e1
   rw [e] at this
   cases this
   exact hk b o e1 (nstk b (old b u e0) hb) (.inr ⟨u,e0⟩)
def wJ (X:Cx) (E:St->XK):Prop:=∀ (pins:List (Addr × Obj)) (σ:St) (H:Hp) (s:Shared) (h1:Heap) (e C:Addr) (vs:List Value),Inv X pins σ H s->Heap.MadeExcOf s.heap h1 e (.ref C) vs->E σ (.ref C) none H->X.xe (.ref e) { s with heap:=h1 }
end
section
variable {P:Program}{w:World}{K:PySem.W.Frag}{mg:Str->Option Value}{base:Heap}{N:List Str}{qual:Str}{scope:Scope}{f:Addr}{cd:Value}{A:Around}{outer:List Env}{s:Shared}{H:Hp}{E:XK}
theorem au:Passes (CX1 P w) (iS (CX1 P w) P w K mg base N qual scope f cd A outer s H E) (fun _=>E):=by
 intro pins σ H1 s1 e s' I h
 obtain ⟨ea,C,t,B,H',d,rfl,os,bare,un,hok,fl,⟨oe,hoe,hdo⟩,hdx,hkb,hE⟩:=h
 have I':=I.qt (ch:=[]) os un hok bare (fun b z=>absurd z (by simp))
 show wpAny _ _ _ _ _ _
 refine wpAny_mono (KD.any (E:=fun _ _=>False) (m4 _ _) (wpAny_leaves_onW (Q:=fun _ s''=>∃ h',s''={ s' with heap:=h' }/\Heap.FlyingW B outer ea (.ref C) (.ref t) h'/\s'.heap.UpToSlots h') I.ok.frames rfl fl fun h' x1 x2=>⟨h',rfl,x1,x2⟩)) ?_ (fun _ _ z=>False.elim z.1)
 rintro _ s'' ⟨⟨h',rfl,x1,x2⟩,dk⟩
 obtain ⟨u1,u2,u3⟩:=qC (B:=B) (h':=h') I' rfl rfl rfl x1.1 x2 (fun b o e1 e2 e3=>hkb b o e1 e2 (e3.elim .inl fun ⟨u,e0⟩=>.inr (I.base.there b u e0 (by show b ∉ ([]:List Addr);simp))))
 obtain ⟨oe',hoe',_,hd',hg'⟩:=dk ea oe hoe
 exact ⟨ea,C,t,B,H',d,rfl,I'.os,I'.bare,u1,u2,x1,⟨oe',hoe',hdo.dk hd' hg'⟩,hdx,u3,hE⟩
theorem bP:wJ (iS (CX1 P w) P w K mg base N qual scope f cd A outer s H E) (fun _=>E):=by
 intro pins σ H1 s1 h1 e C vs I hx hE
 show wpAny _ _ _ _ _ _
 have hin:∀ env∈(envOfC qual scope s.heap.objs.size f cd::outer),∀ b,env.frame=some b->b∈frs (envOfC qual scope s.heap.objs.size f cd::outer):=fun env he b hb=>List.mem_filterMap.mpr ⟨env,he,hb⟩
 have st:(PySem.W.hideAll s1.heap (frs (envOfC qual scope s.heap.objs.size f cd::outer))).StaysIn s1.heap:=fun b o q=>PySem.W.of_hideAll _ q
 have ff:s1.heap.FunFrames (PySem.W.hideAll s1.heap (frs (envOfC qual scope s.heap.objs.size f cd::outer))) (envOfC qual scope s.heap.objs.size f cd::outer):=PySem.W.funFrames_hide I.stack hin
 obtain ⟨tt,het,_,_⟩:=hx.there
 refine wpAny_mono (KD.any (E:=fun _ _=>False) (m4 _ _) (wpAny_leaves_madeW (s:={ s1 with heap:=h1 }) (Q:=fun _ s''=>∃ h' t,s''={ s1 with heap:=h' }/\Heap.FlyingW (PySem.W.hideAll s1.heap (frs (envOfC qual scope s.heap.objs.size f cd::outer))) outer e (.ref C) (.ref t) h'/\h1.UpToSlots h') I.ok.frames rfl st ff hx fun h' t x1 _ _ x4=>⟨h',t,rfl,x1,x4⟩)) ?_ (fun _ _ z=>False.elim z.1)
 rintro _ s'' ⟨⟨h',t,rfl,x1,x4⟩,dk⟩
 obtain ⟨u1,u2,u3⟩:=qC (h':=h') I rfl rfl rfl x1.1 ((Heap.UpToSlots.of_keeps hx.keeps).trans x4) (fun b o e1 e2 _=>PySem.W.hideAll_get _ e1 e2)
 obtain ⟨oe',hoe',_,hd',hg'⟩:=dk e _ het
 exact ⟨e,C,t,_,H1,none,rfl,I.os,I.bare,u1,u2,x1,⟨oe',hoe',XD.dk ⟨rfl,_,rfl,rfl⟩ hd' hg'⟩,(fun dx z=>by cases z),u3,hE⟩
end
theorem jg {P:Program}{w:World}{X:Cx}:Passes (CX1 P w) X E0:=fun _ _ _ _ _ _ _ h=>by
 obtain ⟨_,_,_,_,_,_,_,_,_,_,_,_,_,_,_,z⟩:=h
 exact z.elim
theorem nN {P:Program}{w:World}{outer:List Env}{H:Hp}{s:Shared}{e:Value}{s':Shared} (h:CX1 P w outer H s (fun _ _ _=>False) e s'):False:=by
 obtain ⟨_,_,_,_,_,_,_,_,_,_,_,_,_,_,_,z⟩:=h
 exact z
section
variable {P:Program}{w:World}{K:PySem.W.Frag}{mg:Str->Option Value}{base:Heap}
theorem Fun.okX {x qual:Str}{st:Stmt}{f:Addr}{fd:FuncData}{N ps:List Str}{k:Nat}{sp:Sp} (F:Fun K x qual st f fd) (S:aA N ps (af st)) (len:∀ vs H Q E,sp vs H Q E->vs.length=ps.length)
  (hbody:∀ (cdv:Value) (A:Around) (outer:List Env) (s:Shared) (H:Hp) (vs:List V) (Q:VK) (E:XK),bA k (A.deeper (envOfC qual (af st) s.heap.objs.size f cdv))->sp vs H Q E →
   ∃ t,PSs (iS (CX1 P w) P w K mg base N qual (af st) f cdv A outer s H E) (aw st) t/\t { nx:=fun _ H'=>Q .non H',rt:=Q } (start N vs) H):aX P w K mg base (CX1 P w) (k + 1) f fd ps sp:=by
 obtain ⟨oc,od,kV,doc,pm,an,cdv,ct,osl,rfl,lk,hcd⟩:=F.ex
 exact qL lk hcd S len fun A outer s H vs Q E hr hsp=>hbody cdv A outer s H vs Q E hr hsp
theorem AW.ok {CX:CXT}{k:Nat}{f:Addr}{fd:FuncData}{ps:List Str}{sp:Sp} (F:AW P w K mg base CX k f fd ps sp):aX P w K mg base CX k f fd ps sp :=
 ⟨F.len,fun A outer s H args us vs Q E hr=>F.run A outer s H args us vs Q E hr.n (.inl hr.hd)⟩
end
theorem vF {K:PySem.W.Frag}{h:Heap}{C:Addr}{bmB:List Value}{newId:String} (XK:K.In h) (q:PySem.W.excIn K C bmB newId=true) :
  ∃ bm N nm qn bs hd sn sub ab col dd k0 k1 k2 k3 k5 mN,h.get? C=some (excClassObj nm qn C N bs bm hd sn sub ab col dd k0 k1 k2 k3 k5 newId)/\h.Ns N mN/\mN "__init__"=none/\OwnTail h bmB bm:=by
 unfold PySem.W.excIn at q
 split at q
 next dd cd sl ho =>
  split at q
  next C' bm k0 k1 k2 k3 n k5 hm hs =>
   simp only [Bool.and_eq_true,beq_iff_eq,Bool.not_eq_true'] at q
   obtain ⟨⟨⟨⟨⟨e1,e2⟩,e3⟩,e4⟩,e5⟩,e6⟩:=q
   subst e1 e2
   cases cd with
   | mk nm bs mro ns qn hd sn sub ab col del =>
    simp only at hm e3 e5 e6
    subst hm e3
    have z:sl=#[k0,k1,k2,k3,some (.builtin n),k5]:=by
     cases sl with
     | mk l=>simp only at hs;rw [hs]
    subst z
    exact ⟨bm,ns,nm,qn,bs,hd,sn,sub,ab,col,dd,k0,k1,k2,k3,k5,_,XK _ _ ho,.of_isNs (PySem.W.isNs_of_in XK e5),PySem.W.nsMap_none_of_in XK e5 e6,PySem.W.tail_of_in XK e4⟩
  next=>cases q
 next=>cases q
def zk (C:Addr) (E:St->XK) (t:TA):TS:=fun _ σ H=>t σ H fun vs H1=>vs.length<=sizeLine/\E σ (.ref C) none H1
theorem ql {C:Addr}{E:St->XK}{t:TA}{D:Ends}{σ:St}{H:Hp}:zk C E t D σ H=t σ H fun vs H1=>vs.length<=sizeLine/\E σ (.ref C) none H1:=propext Iff.rfl
section
variable {X:Cx}
theorem cp {x:Str}{C:Addr}{E:St->XK}{B newId initId:String}{bmB:List Value}{e₀:Expr}{rest:List Expr}{t:TA}{np cpos pos:Pos} (FB:ExcBaseFacts B newId initId bmB) (hq:PySem.W.excIn X.K C bmB newId=true) (hm:X.mg x=some (.ref C))
  (hrx:wJ X E) (hc:X.calm=true) (ha:PA X (e₀::rest) t) (hg:X.env.kindOf x=some .globalImplicit:=by kernel_rfl) (hd:(x == ("__debug__":Str))=false:=by kernel_rfl) (hs:bY (e₀::rest)=true:=by kernel_rfl) :
  PS X (.Raise (some (.Call (.Name x np) (e₀::rest) [] cpos)) none pos) (zk C E t):=by
 intro pins s σ H D I h
 obtain ⟨bm,N,nm,qn,bs,hdct,sn,sub,ab,col,dd,k0,k1,k2,k3,k5,mN,g1,g2,g3,g4⟩:=vF I.ok.mod.kin hq
 have he:=aB (es:=rest) (env:=X.env) (aE hs).1
 refine wpAny_Raise_call_subT (C:=C) (nm:=nm) (q:=qn) (N:=N) (bs:=bs) (bm:=bm) (hdct:=hdct) (sn:=sn) (sub:=sub) (ab:=ab) (col:=col) (dd:=dd) (k0:=k0) (k1:=k1) (k2:=k2) (k3:=k3) (k5:=k5)
  FB (mN:=mN) (g4.hasType FB.hasBase) (I.ok.hd hc) (bL hs) g3 (ju I hg hm ⟨rfl,?_⟩ hd)
 have ha':=ha cpos pins s σ H _ I h
 rw [he] at ha' ⊢
 refine Calls.evalArgs_plain (wpAny_mono ha' (fun vs s2 h2=>?_) fun _ _ y=>y)
 obtain ⟨xs,H2,I2,r,z,q⟩:=h2
 exact ⟨rfl,by rw [← r.length];exact z,I2.bk _ _ g1,g2.keeps I2.bk,g4.keeps I2.bk,fun h' e hx=>hrx pins σ H2 s2 h' e C vs I2 hx q⟩
end
end L2

namespace L2
open PySem PySem.Spec PyProof.Rows
def mq (a:Addr) (c:Value) (d:Option Addr):HO:=.ext fun h=>∃ o,h.get? a=some o/\o.cls=c/\XD o d
theorem zU {P:Program}{w:World}{H:Hp}{h:Heap}{a:Addr}{c:Value}{d:Option Addr}{o:Obj} (e:h.get? a=some o) (h1:o.cls=c) (h2:XD o d):aS P w H h a (mq a c d) :=
 ⟨⟨o,e,h1,h2⟩,⟨o,e⟩,fun _ _ ⟨o,e,q⟩ k=>⟨o,k o e,q⟩⟩
theorem AS {l:List Env}{H1 H':Hp}{h1 h' h5 B:Heap} (u:Un (frs l) [] H1 H' h1 h') (hk:∀ b o,h'.get? b=some o->b ∉ frs l->(H' b≠none ∨ ∃ u,h1.get? b=some u)->B.get? b=some o) (hB:B.StaysIn h5) (hsm:h'.UpToSlots h5)
  (hfr:∀ b∈frs l,∃ o,h'.get? b=some o/\∀ vs,o.data≠.fields vs):Un (frs l) [] H1 H' h1 h5 where
 keep:=fun b o e n hb hx=>hB b o (hk b o (u.keep b o e n hb hx) hb (.inr ⟨o,e⟩))
 slot:=fun b o e n hb hx=>by
  obtain ⟨sl,e1⟩:=u.slot b o e n hb hx
  obtain ⟨o1,e2,hd⟩:=hfr b hb
  rw [e1] at e2
  cases e2
  obtain ⟨sl',e3⟩:=hsm b _ e1 hd
  exact ⟨sl',e3⟩
 free:=u.free
 there:=fun b o e hx=>by
  obtain ⟨o1,e1⟩:=u.there b o e hx
  by_cases hb:b∈frs l
  ·obtain ⟨o2,e2,hd⟩:=hfr b hb
   obtain ⟨sl,e3⟩:=hsm b _ e2 hd
   exact ⟨_,e3⟩
  ·exact ⟨o1,hB b o1 (hk b o1 e1 hb (.inr ⟨o,e⟩))⟩
 tups:=u.tups
 frzs:=u.frzs
 tbls:=u.tbls
theorem xY {P:Program}{w:World}{l:List Env}{H':Hp}{h1 h' h5 B:Heap} (hok:HOk P w H' h') (hk:∀ b o,h'.get? b=some o->b ∉ frs l->(H' b≠none ∨ ∃ u,h1.get? b=some u)->B.get? b=some o) (hB:B.StaysIn h5)
  (hf:∀ b∈frs l,H' b=none):HOk P w H' h5:=fun a o e=>by
 refine (hok a o e).ji (fun c v hc q=>hB c v (hk c v q ?_ (.inl ?_))) (fun _ q=>q) fun _ _ q=>q
 ·intro z
  have:=hf c z
  rcases hc with rfl | hc
  ·rw [e] at this;cases this
  ·rw [hc] at this;cases this
 ·rcases hc with rfl | hc
  ·rw [e];simp
  ·rw [hc];simp
section
variable {X:Cx}{pins:List (Addr × Obj)}{σ:St}{H:Hp}{s:Shared}
theorem Inv.DR {a:Addr}{o:HO} (I:Inv X pins σ H s) (hn:H a=none) (h0:X.s₀.heap.get? a=none) (hL:a≠X.env.locals) (hc:∀ x c,X.env.cells.lookup x=some c->c≠a) (hp:∀ p∈X.pn++pins,p.1≠a)
  (ho:aS X.prog X.w (upd H a o) s.heap a o):Inv X pins σ (upd H a o) s where
 ok:=I.ok
 os:=I.os
 bare:=I.bare
 base:=by
  have ne:∀ b u,X.s₀.heap.get? b=some u->b≠a:=fun b u e z=>by rw [z,h0] at e;cases e
  refine ⟨I.base.keep,I.base.slot,fun b u e n hx=>by rw [aj (ne b u e)];exact I.base.free b u e n hx,I.base.there,fun b xs q=>?_,fun b ob u q=>?_,fun b ps q=>?_⟩
  ·have:=I.base.tups b xs q
   rw [aj (fun z=>by rw [z,hn] at this;cases this)];exact this
  ·have:=I.base.frzs b ob u q
   rw [aj (fun z=>by rw [z,hn] at this;cases this)];exact this
  ·obtain ⟨m,e⟩:=I.base.tbls b ps q
   exact ⟨m,by rw [aj (fun z=>by rw [z,hn] at e;cases e)];exact e⟩
 loc:=I.loc
 cell:=I.cell
 free:=by rw [aj (Ne.symm hL)];exact I.free
 freeC:=fun x c e=>by rw [aj (hc x c e)];exact I.freeC x c e
 pin:=fun p h=>by
  obtain ⟨h1,h2,h3⟩:=I.pin p h
  exact ⟨h1,by rw [aj (hp p h)];exact h2,h3⟩
 hok:=fun b u e=>by
  by_cases hb:b=a
  ·subst hb
   rw [aq] at e
   cases e
   exact ho
  ·rw [aj hb] at e
   refine (I.hok b u e).ji (fun _ _ _ q=>q) (fun c q=>?_) fun c xs q=>?_
   ·rw [aj (fun z=>by rw [z,hn] at q;cases q)];exact q
   ·rw [aj (fun z=>by rw [z,hn] at q;cases q)];exact q
 len:=I.len
theorem iQ {A:Around}{E:Value->Shared->Prop}{i:Nat}{n:Str}{pos:Pos}{Q:Unit->Shared->Prop} (I:Inv X pins σ H s) (hN:X.N.Nodup) (hi:X.N[i]?=some n) (hn:X.env.scope.names.lookup n=some .local)
  (h:∀ s',Inv X pins (σ.set i none) H s'->Q () s'):wpAny (model X.prog X.w) A (do bindName X.env n .none;unbindBehindTheSuite X.env n pos) Q E s:=by
 have hiσ:i < σ.length:=by rw [I.len];exact (List.getElem?_eq_some_iff.mp hi).1
 refine wpAny_bind (wpAny_bindName (gD (v:=.non) I hN hi (.inl hn) rfl (fun s1 I1=>?_) (.inr hn)))
 obtain ⟨m,hm,hl⟩:=id I1.loc
 obtain ⟨u,_,hu⟩:=hl i n .non hi (by rw [List.getElem?_set_self hiσ]) (.inl hn)
 have hv:∃ v,m n=some v:=by
  rcases hu with ⟨_,e⟩ | ⟨k,_⟩
  ·exact ⟨_,e⟩
  ·have k':X.env.scope.names.lookup n=some .cell ∨ X.env.scope.names.lookup n=some .free:=k
   rw [hn] at k';rcases k' with z | z <;> cases z
 obtain ⟨v,hv⟩:=hv
 have hcls:(X.env.scope.kind == .class || (X.env.scope.kind == .module && X.env.locals != X.env.globals))=false:=by rw [I.ok.kind];rfl
 unfold unbindBehindTheSuite
 refine wpAny_onRaise (wpAny_unbindName_local hn hm hv hcls fun h' w' hn' hs=>h _ ?_)
 have older:∀ b o,X.s₀.heap.get? b=some o->b≠X.env.locals:=fun b o e=>Nat.ne_of_lt (Nat.lt_of_lt_of_le (Heap.lt_size e) I.ok.above)
 refine ⟨I1.ok,I1.os,I1.bare,⟨fun b o e k hb hx=>(hs.2 b (older b o e)).trans (I1.base.keep b o e k hb hx),fun b o e k hb hx=>?_,I1.base.free,fun b o e hx=>?_,I1.base.tups,I1.base.frzs,I1.base.tbls⟩,
  ⟨_,hn',fun j y v' e1 e2 e3=>?_⟩,fun y c e=>?_,I1.free,I1.freeC,fun p hp=>?_,fun b ob e=>?_,by rw [List.length_set];exact I.len⟩
 ·obtain ⟨sl,e1⟩:=I1.base.slot b o e k hb hx
  exact ⟨sl,(hs.2 b (older b o e)).trans e1⟩
 ·obtain ⟨o',e1⟩:=I1.base.there b o e hx
  exact ⟨o',(hs.2 b (older b o e)).trans e1⟩
 ·by_cases hj:j=i
  ·subst hj
   rw [List.getElem?_set_self hiσ] at e2
   cases e2
  ·rw [List.getElem?_set_ne (Ne.symm hj)] at e2
   obtain ⟨u',r',q⟩:=hl j y v' e1 (by rw [List.getElem?_set_ne (Ne.symm hj)];exact e2) e3
   refine ⟨u',r',?_⟩
   rcases q with ⟨k,e⟩ | ⟨k,c,e,z⟩
   ·refine .inl ⟨k,?_⟩
    have:y≠n:=fun e=>hj (mE hN e1 (e ▸ hi))
    simp [this,e]
   ·exact .inr ⟨k,c,e,z.sameBut hs (I1.cne y c e)⟩
 ·obtain ⟨w2,z⟩:=I1.cell y c e
  exact ⟨w2,z.sameBut hs (I1.cne y c e)⟩
 ·obtain ⟨e,k,ne,nf,d⟩:=I1.pin p hp
  exact ⟨(hs.2 p.1 ne).trans e,k,ne,nf,d⟩
 ·refine (I1.hok b ob e).ji (fun c w2 hc q=>(hs.2 c ?_).trans q) (fun _ q=>q) fun _ _ q=>q
  rintro rfl
  have:=I1.free
  rcases hc with rfl | hc
  ·rw [this] at e;cases e
  ·rw [this] at hc;cases hc
def Ends.un (D:Ends) (i:Nat):Ends:=⟨fun σ H=>D.nx (σ.set i none) H,D.rt,fun σ H=>D.bk (σ.set i none) H,fun σ H=>D.ct (σ.set i none) H⟩
theorem Inv.Ef {xe:Value->Shared->Prop} (I:Inv X pins σ H s):Inv { X with pn:=X.pn++pins,xe:=xe } [] σ H s :=
 ⟨⟨I.ok.mod,I.ok.kind,I.ok.glob,I.ok.blt,I.ok.above,I.ok.inj,I.ok.has,I.ok.cab,I.ok.hd,I.ok.frames,I.ok.stk,I.ok.exf,I.ok.bs,I.ok.bsz,I.ok.noex,I.ok.exfs,I.ok.ik,I.ok.frf⟩,I.os,I.bare,I.base,I.loc,I.cell,I.free,I.freeC,
  fun p h=>I.pin p (by simpa using h),I.hok,I.len⟩
theorem Inv.mQ {xe:Value->Shared->Prop}{pins':List (Addr × Obj)} (I:Inv { X with pn:=X.pn++pins,xe:=xe } pins' σ H s):Inv X pins σ H s :=
 ⟨⟨I.ok.mod,I.ok.kind,I.ok.glob,I.ok.blt,I.ok.above,I.ok.inj,I.ok.has,I.ok.cab,I.ok.hd,I.ok.frames,I.ok.stk,I.ok.exf,I.ok.bs,I.ok.bsz,I.ok.noex,I.ok.exfs,I.ok.ik,I.ok.frf⟩,I.os,I.bare,I.base,I.loc,I.cell,I.free,I.freeC,
  fun p h=>I.pin p (List.mem_append_left _ h),I.hok,I.len⟩
theorem Inv.yp {e:Option Value} (I:Inv X pins σ H s):Inv { X with A:=X.A.mark e,calm:=false,xe:=fun _ _=>False } pins σ H s :=
 ⟨⟨I.ok.mod,I.ok.kind,I.ok.glob,I.ok.blt,I.ok.above,I.ok.inj,I.ok.has,I.ok.cab,(fun z=>by cases z),I.ok.frames,I.ok.stk,I.ok.exf,I.ok.bs,I.ok.bsz,I.ok.noex,I.ok.exfs,I.ok.ik,I.ok.frf⟩,I.os,I.bare,I.base,I.loc,I.cell,I.free,I.freeC,
  I.pin,I.hok,I.len⟩
theorem Inv.markFrom {e:Option Value}{xe:Value->Shared->Prop} (ok:X.Ok) (I:Inv { X with A:=X.A.mark e,calm:=false,xe:=xe } pins σ H s):Inv X pins σ H s :=
 ⟨ok,I.os,I.bare,I.base,I.loc,I.cell,I.free,I.freeC,I.pin,I.hok,I.len⟩
end
end L2

namespace L2
open PySem PySem.Spec PyProof.Rows
theorem zY:builtinKind "BaseException.__getattribute__"=some Manifest.AttrKind.slot:=by decide +kernel
theorem xS:splitId "BaseException.__getattribute__"=some ("BaseException","__getattribute__"):=by decide +kernel
theorem xR {M:Model}{A:Around}{E:Value->Shared->Prop}{s:Shared}{x:Addr}{nm:Value}{Q:Unit->Shared->Prop} (l:PySem.W.Looks M s.heap (isInstance (.ref x) (.type "BaseException")) true) (q:Q () s) :
  wpAny M A (checkBuiltinCall "BaseException.__getattribute__" { pos:=[.ref x,nm] }) Q E s :=
 PySem.W.check_slot (i:="BaseException.__getattribute__") (self:=.ref x) (rest:=[nm]) (kw:=[]) zY xS l (F.args_bexc_ga _ _) q
theorem Ah {prog:Program}{w:World}{A:Around}{E:Value->Shared->Prop}{s:Shared}{K:PySem.W.Frag}{x D:Addr}{ox:Obj}{odo:Option Obj}{name:Str}{g a:Value}{Q:Option Value->Shared->Prop}
  (X:K.In s.heap) (I:PySem.W.InstAt s.heap x ox D odo)
  (hga:PySem.W.findIn K (.ref D) "__getattribute__"=some (some (.builtin "BaseException.__getattribute__")))
  (hgn:PySem.W.findIn K (.ref D) "__getattr__"=some none)
  (hsub:PySem.W.subIn K (.ref D) (.type "BaseException")=some true)
  (hf:PySem.W.findObj K D odo name=some (.bind g a))
  (h:∀ A',wpAny (model prog w) A' (call g [a,.ref x,.ref D]) (fun v s'=>wpAny (model prog w) A (handedOut v) (fun v s''=>Q (some v) s'') (fun _ _=>False) s') (fun _ _=>False) { s with toks:=s.toks + 1 }) :
  wpAny (model prog w) A (getAttr? (.ref x) name) Q E s:=by
 obtain ⟨hh,gg,dd,tt,os⟩:=s
 have L0:∀ {M},PySem.W.Looks M hh (typeOf (.ref x)) (.ref D):=I.type
 have L1:∀ {M},PySem.W.Looks M hh (typeLookup (.ref D) "__getattribute__") _:=PySem.W.looks_findIn X hga
 have L2:∀ {M},PySem.W.Looks M hh (typeLookup (.ref D) "__getattr__") _:=PySem.W.looks_findIn X hgn
 have L3:∀ {M},PySem.W.Looks M hh (isSubtype (.ref D) (.type "BaseException")) _:=PySem.W.looks_subIn X hsub
 have L4:∀ {M},PySem.W.Looks M hh (Builtin.ObjectAttr.find (.ref x) (.ref D) name) _:=PySem.W.looks_find X I hf
 have L5:∀ {M},PySem.W.Looks M hh (isInstance (.ref x) (.type "BaseException")) true:=by
  intro M;unfold isInstance;exact PySem.W.Looks.andThen (f:=fun t=>isSubtype t (.type "BaseException")) L0 L3
 have f3:=F.excAttr_ValueError.ga.bind (Value.ref x)
 unfold getAttr?
 refine wpAny_bind (wpAny_mkText ?_)
 unfold getAttrBy?
 refine wpAny_bind (wpAny_attempt ?_)
 unfold getAttrBy
 refine wpAny_holding (wpAny_bind (L0.at (wpAny_bind (L1.at ?_))))
 refine wpAny_ite_false rfl ?_
 unfold getAttrByItsOwn
 refine wpAny_bind ?_
 unfold hookBefore
 refine wpAny_ite_true rfl (L2.at ?_)
 refine wpAny_bind (wpAny_attempt (wpAny_holding ?_))
 unfold callGetattribute
 refine wpAny_ite_false rfl ?_
 unfold boundAndCalled
 refine wpAny_bind (wpAny_of_eq f3 ?_)
 refine wpAny_call (codeAny_call_builtin F.excAttr_ValueError.ga.plain F.entry_bexc_ga ?_)
 refine xR L5 ?_
 show wpAny _ _ (Builtin.«object.__getattribute__» { pos:=[Value.ref x,Value.str name _] }) _ _ _
 unfold Builtin.«object.__getattribute__»
 refine wpAny_bind ?_
 unfold slotArgs
 refine wpAny_ite_false rfl (wpAny_ite_false rfl (wpAny_pure ?_))
 refine wpAny_bind (wpAny_pure ?_)
 refine wpAny_bind (L0.at (wpAny_bind (L4.at ?_)))
 show wpAny _ _ (Builtin.ObjectAttr.bindTo g a (.ref x) (.ref D)) _ _ _
 unfold Builtin.ObjectAttr.bindTo
 refine wpAny_bind (wpAny_holding (wpAny_mono (h _) (fun v s' z=>?_) (fun _ _ z=>z.elim)))
 refine wpAny_pure ?_
 refine wpAny_mono z (fun v s' z=>wpAny_pure z) (fun _ _ z=>z.elim)
structure wI (K:PySem.W.Frag) (C:Addr):Prop where
 ga:PySem.W.findIn K (.ref C) "__getattribute__"=some (some (.builtin "BaseException.__getattribute__"))
 gn:PySem.W.findIn K (.ref C) "__getattr__"=some none
 sb:PySem.W.subIn K (.ref C) (.type "BaseException")=some true
 cl:(PySem.W.clsIn K C).isSome=true
 ha:PySem.W.findIn K (.ref C) "__class__"=some (some (.builtin "object.__class__"))
 hn:PySem.W.specialIn K (.builtin "object.__class__") "__get__"=some (some (.builtin "getset_descriptor.__get__"))
 htk:PySem.W.takesIn K (.builtin "object.__class__")=some true
 hm:PySem.W.mroIn K C (.type "object")=some true
theorem qK {K:PySem.W.Frag}{C:Addr}{od:Option Obj}{name:Str}{a g:Value} (hc:(PySem.W.clsIn K C).isSome=true) (ha:PySem.W.findIn K (.ref C) name=some (some a)) (hg:PySem.W.specialIn K a "__get__"=some (some g)) (ht:PySem.W.takesIn K a=some true) :
  PySem.W.findObj K C od name=some (.bind g a):=by
 obtain ⟨cd,e⟩:=Option.isSome_iff_exists.mp hc
 unfold PySem.W.findObj
 rw [e,Option.bind_some,ha,Option.bind_some]
 show (PySem.W.specialIn K a "__get__").bind _=_
 rw [hg,Option.bind_some]
 show (PySem.W.takesIn K a).bind _=_
 rw [ht,Option.bind_some]
def ExcAt (x C:Addr) (h:Heap):Prop:=∃ ox od,PySem.W.InstAt h x ox C od
theorem m5 {K:PySem.W.Frag}{x C:Addr} (e:wI K C):PySem.W.KitX K (.ref x) (.ref C) (ExcAt x C) where
 ty:=fun _ _ _ ⟨_,_,I⟩=>I.type
 it:=fun _ h XK _=>by
  obtain ⟨cd,hc⟩:=Option.isSome_iff_exists.mp e.cl
  unfold PySem.W.clsIn at hc
  split at hc
  next c' d' cd' sl' ho =>
   intro A' Q' E' s' k q
   unfold isType loadHead
   exact wpAny_bind (wpAny_loadPart (k _ _ (XK _ _ ho)) (wpAny_pure q))
  next=>cases hc
 ne:=fun h tp dd its n sl XK htp=>by
  obtain ⟨cd,hc⟩:=Option.isSome_iff_exists.mp e.cl
  refine Bool.eq_false_iff.mpr fun q=>?_
  have z:C=tp:=Value.ref.inj (beq_iff_eq.mp q)
  subst z
  unfold PySem.W.clsIn at hc
  split at hc
  next c' d' cd' sl' ho =>
   have z:=(XK _ _ ho).symm.trans htp
   cases z
  next=>cases hc
 ca:=fun {prog w A E Q s} XK I k=>by
  obtain ⟨ox,od,I⟩:=I
  have hf:=qK (od:=od) e.cl e.ha e.hn e.htk
  exact Ah XK I e.ga e.gn e.sb hf fun A'=>wpAny_call (PySem.W.class_get (s:={ s with toks:=s.toks + 1 }) (ox:=ox) (od:=od) XK I e.hm (PySem.W.handed_on rfl k))
def TyX (K:PySem.W.Frag) (H:Hp) (x:V) (t:Value):Prop:=iW K H x t ∨ ∃ a C,x=.ref a/\t=.ref C/\H a=some (mq a (.ref C) none)/\wI K C
theorem mm {P:Program}{w:World}{H:Hp}{h:Heap}{a C:Addr} (x:HOk P w H h) (e:H a=some (mq a (.ref C) none)):ExcAt a C h:=by
 obtain ⟨⟨o,e1,e2,e3,vs,e4,_⟩,_⟩:=(show aS P w H h a (mq a (.ref C) none) from x a _ e)
 refine ⟨o,none,e1,e2,?_,?_⟩
 ·unfold PySem.W.notCls;rw [e4]
 ·rw [e3];trivial
def uO (K:PySem.W.Frag):List V->Hp->VK->Prop:=fun vs H Q=>match vs with
 | [x,.ty n]=>∃ t b,TyX K H x t/\PySem.W.kitOne K t (.type n)=some b/\Q (.bl b) H
 | [x,.ref c]=>∃ t b,TyX K H x t/\(PySem.W.kitOne K t (.ref c)=some b ∨ ∃ (a C:Addr) (cs:List Addr),x=.ref a/\t=.ref C/\H a=some (mq a (.ref C) none)/\wI K C/\H c=some (.tup (cs.map V.ref))/\PySem.W.kitAny K t (cs.map Value.ref)=some b)/\Q (.bl b) H
 | _=>False
theorem oM:∀ {cs:List Addr}{us:List Value},Vals (cs.map V.ref) us->us=cs.map Value.ref
 | [],_,.nil=>rfl
 | c::r,_,.cons h t=>by
  have e:_=Value.ref c:=h
  rw [e,oM t];rfl
theorem vk {X:Cx}:bw X (.builtin "isinstance") (uO X.K):=by
 intro pins s σ H xs us Q I r h
 match xs,h with
 | [x,.ty n],h =>
  obtain ⟨t,b,ht,hk,q⟩:=h
  obtain ⟨u,v,rfl,r1,r2⟩:=vals2 r
  cases (show v=Value.type n from r2)
  rcases ht with ht | ⟨a,C,rfl,rfl,hH,hC⟩
  ·exact isinst_ok I r1 ht hk fun tk=>⟨.bl b,H,I.tok _,rfl,q⟩
  ·cases (show u=Value.ref a from r1)
   exact PySem.W.kia_one (m5 hC) I.kIn (mm I.hok hH) hk (fun z=>by cases z) fun tk=>⟨.bl b,H,I.tok _,rfl,q⟩
 | [x,.ref c],h =>
  obtain ⟨t,b,ht,hk,q⟩:=h
  obtain ⟨u,v,rfl,r1,r2⟩:=vals2 r
  cases (show v=Value.ref c from r2)
  rcases hk with hk | ⟨a,C,cs,rfl,rfl,hH,hC,hc,hk⟩
  ·rcases ht with ht | ⟨a,C,rfl,rfl,hH,hC⟩
   ·exact isinst_ok I r1 ht hk fun tk=>⟨.bl b,H,I.tok _,rfl,q⟩
   ·cases (show u=Value.ref a from r1)
    exact PySem.W.kia_one (m5 hC) I.kIn (mm I.hok hH) hk (fun z=>by cases z) fun tk=>⟨.bl b,H,I.tok _,rfl,q⟩
  ·cases (show u=Value.ref a from r1)
   obtain ⟨_,its,rv,⟨ob,e1,e2,n,e3⟩⟩:=(show aS X.prog X.w H s.heap c (.tup (cs.map V.ref)) from I.hok c _ hc)
   have ei:=oM rv
   subst ei
   obtain ⟨oc,dd,od,sl⟩:=ob
   cases e2
   cases e3
   exact PySem.W.kia_tup (m5 hC) I.kIn (mm I.hok hH) e1 hk (fun z=>by cases z) fun tk=>⟨.bl b,H,I.tok _,rfl,q⟩
theorem eB {X:Cx}{K:PySem.W.Frag} (hK:X.K=K):bw X (.builtin "isinstance") (uO K):=hK ▸ vk
def xJ (K:PySem.W.Frag) (C:Addr):Bool :=
 PySem.W.findIn K (.ref C) "__getattribute__" == some (some (.builtin "BaseException.__getattribute__")) && PySem.W.findIn K (.ref C) "__getattr__" == some none && PySem.W.subIn K (.ref C) (.type "BaseException") == some true && (PySem.W.clsIn K C).isSome && PySem.W.findIn K (.ref C) "__class__" == some (some (.builtin "object.__class__")) &&
 PySem.W.specialIn K (.builtin "object.__class__") "__get__" == some (some (.builtin "getset_descriptor.__get__")) && PySem.W.takesIn K (.builtin "object.__class__") == some true && PySem.W.mroIn K C (.type "object") == some true
theorem xK {K:PySem.W.Frag}{C:Addr} (h:xJ K C=true):wI K C:=by
 unfold xJ at h
 simp only [Bool.and_eq_true,beq_iff_eq] at h
 obtain ⟨⟨⟨⟨⟨⟨⟨h1,h1'⟩,h1''⟩,h2⟩,h3⟩,h4⟩,h5⟩,h6⟩:=h
 exact ⟨h1,h1',h1'',h2,h3,h4,h5,h6⟩
def oX (K:PySem.W.Frag) (b:Addr) (cs:List Addr):Bool :=
 cs.all fun c=>xJ K c && PySem.W.exmOne K (.ref c) (.ref b) == some true && PySem.W.kitOne K (.ref c) (.type "ValueError") == some true && PySem.W.kitOne K (.ref c) (.ref b) == some true &&
  cs.all fun d=>PySem.W.kitOne K (.ref c) (.ref d) == some (c == d)
structure Err (K:PySem.W.Frag) (b:Addr) (cs:List Addr) (c:Addr):Prop where
 ex:wI K c
 em:PySem.W.exmOne K (.ref c) (.ref b)=some true
 ve:PySem.W.kitOne K (.ref c) (.type "ValueError")=some true
 ba:PySem.W.kitOne K (.ref c) (.ref b)=some true
 kd:∀ d∈cs,PySem.W.kitOne K (.ref c) (.ref d)=some (c == d)
theorem xG {K:PySem.W.Frag}{b:Addr}{cs:List Addr} (h:oX K b cs=true) {c:Addr} (hc:c∈cs):Err K b cs c:=by
 unfold oX at h
 have h:=List.all_eq_true.mp h c hc
 simp only [Bool.and_eq_true,beq_iff_eq] at h
 obtain ⟨⟨⟨⟨h1,h2⟩,h3⟩,h4⟩,h5⟩:=h
 exact ⟨xK h1,h2,h3,h4,fun d hd=>by have:=List.all_eq_true.mp h5 d hd;simpa using this⟩
theorem Err.any {K:PySem.W.Frag}{b:Addr}{cs:List Addr}{c:Addr} (E:Err K b cs c):∀ {ds:List Addr},(∀ d∈ds,d∈cs)->PySem.W.kitAny K (.ref c) (ds.map Value.ref)=some (ds.contains c)
 | [],_=>rfl
 | d::r,h=>by
  show (match PySem.W.kitOne K (.ref c) (.ref d) with | some true=>some true | some false=>PySem.W.kitAny K (.ref c) (r.map Value.ref) | none=>none)=_
  rw [E.kd d (h d List.mem_cons_self),Err.any E (fun x hx=>h x (List.mem_cons_of_mem _ hx)),List.contains_cons]
  cases (c == d) <;> rfl
theorem eY {X:Cx}{x:Str}{v:V}{pos:Pos} (h:∃ u,X.mg x=some u/\RelV v u) (hg:X.env.kindOf x=some .globalImplicit:=by kernel_rfl) (hd:(x == ("__debug__":Str))=false:=by kernel_rfl):PE X (.Name x pos) (tC v):=by
 obtain ⟨u,h1,h2⟩:=h
 exact uH hg h1 h2 hd
theorem i3 {X:Cx}{x:Str}{c:Addr}{pos:Pos} (h:X.mg x=some (.ref c)) (hg:X.env.kindOf x=some .globalImplicit:=by kernel_rfl) (hd:(x == ("__debug__":Str))=false:=by kernel_rfl):PE X (.Name x pos) (tC (.ref c)):=uH hg h rfl hd
theorem sr {ea:Addr}{c:Value}{d:Option Addr}{H:Hp} (h:H ea=some (mq ea c d)):gH (some (.ref ea)) H :=
 .inr ⟨ea,_,rfl,h,fun _ ⟨o,e,_,_,vs,q1,q2⟩=>⟨o,vs,e,q1,q2⟩⟩
theorem gH.same {o:Option Value}{H H':Hp} (h:gH o H) (s:ak H H'):gH o H':=by
 rcases h with h | ⟨ea,φ,e1,e2,e3⟩
 ·exact .inl h
 ·exact .inr ⟨ea,φ,e1,s _ _ e2,e3⟩
end L2

namespace L2
open PySem PySem.Spec PyProof.Rows
def up (t:TE):TE:=fun σ H R=>∃ R',t σ H R'/\∀ x H,R' x H->R x H
def upA (t:TA):TA:=fun σ H R=>∃ R',t σ H R'/\∀ x H,R' x H->R x H
theorem PE.up {X:Cx}{e:Expr}{t:TE} (h:PE X e t):PE X e (up t):=fun pins s σ H Q I ⟨R',h1,h2⟩=>thn (h pins s σ H R' I h1) fun _ _ ⟨v,H',I',r,q⟩=>⟨v,H',I',r,h2 v H' q⟩
theorem PA.up {X:Cx}{es:List Expr}{t:TA} (h:PA X es t):PA X es (upA t):=fun pos pins s σ H Q I ⟨R',h1,h2⟩=>thn (h pos pins s σ H R' I h1) fun _ _ ⟨v,H',I',r,q⟩=>⟨v,H',I',r,h2 v H' q⟩
def uN (K:PySem.W.Frag) (f:Str) (x:V) (H:Hp) (Q:VK):Prop:=match x with
 | .ref a=>∃ C dx fs v,H a=some (.ins C dx fs)/\Cls K C/\cR K C f/\fs.lookup f=some v/\Q v H
 | _=>False
def BA (K:PySem.W.Frag) (ta:TE) (f:Str):TE:=fun σ H Q=>ta σ H fun x H1=>uN K f x H1 Q
theorem wQ {K:PySem.W.Frag}{ta:TE}{f:Str}{σ:St}{H:Hp}{Q:VK}:BA K ta f σ H Q=ta σ H fun x H1=>uN K f x H1 Q:=propext Iff.rfl
def uQ (K:PySem.W.Frag) (f:Str) (y x:V) (H:Hp) (Q:Hp->Prop):Prop:=match x with
 | .ref a=>∃ C dx fs,H a=some (.ins C dx fs)/\Cls K C/\cR K C f/\fs.length < 1000/\Q (upd H a (.ins C dx (dj f y fs)))
 | _=>False
def B0 (K:PySem.W.Frag) (ta tv:TE) (f:Str):TS:=fun D σ H=>tv σ H fun y H1=>ta σ H1 fun x H2=>uQ K f y x H2 fun H3=>D.nx σ H3
theorem ue {K:PySem.W.Frag}{ta tv:TE}{f:Str}{D:Ends}{σ:St}{H:Hp}:B0 K ta tv f D σ H=tv σ H fun y H1=>ta σ H1 fun x H2=>uQ K f y x H2 fun H3=>D.nx σ H3:=propext Iff.rfl
section
variable {X:Cx}{K:PySem.W.Frag}
theorem aY {e:Expr}{ta:TE}{f:Str}{pos:Pos} (hK:X.K=K) (he:PE X e ta) (hb:attributeBase e f X.env (eval e X.env)=eval e X.env:=by kernel_rfl):PE X (.Attribute e f pos) (BA K ta f):=by
 subst hK
 intro pins s σ H Q I h
 refine C8 (ta:=up ta) he.up hb pins s σ H Q I ⟨_,h,fun x H1 hx=>?_⟩
 cases x with
 | ref a=>obtain ⟨C,dx,fs,v,h1,h2,h3,h4,h5⟩:=hx;exact ⟨a,C,dx,fs,v,rfl,h1,h2,h3,h4,h5⟩
 | _=>exact False.elim hx
theorem dN {o value:Expr}{ta tv:TE}{f:Str}{pos pos':Pos} (hK:X.K=K) (ha:PE X o ta) (hv:PE X value tv) (hs:swapsWith value (some (.Attribute o f pos')) pos.line X.env=pure false:=by kernel_rfl) :
  PS X (.Assign [.Attribute o f pos'] value pos) (B0 K ta tv f):=by
 subst hK
 intro pins s σ H D I h
 refine CF (ta:=up ta) (tv:=up tv) ha.up hv.up hs pins s σ H D I ⟨_,h,fun y H1 hy=>⟨_,hy,fun x H2 hx=>?_⟩⟩
 cases x with
 | ref a=>obtain ⟨C,dx,fs,h1,h2,h3,h4,h5⟩:=hx;exact ⟨a,C,dx,fs,rfl,h1,h2,h3,h4,h5⟩
 | _=>exact False.elim hx
end
structure Mtd (P:Program) (w:World) (K:PySem.W.Frag) (mg:Str->Option Value) (base:Heap) (CX:CXT) (C:Addr) (m:Str) (k:Nat) (ps:List Str) (sp:Sp):Prop where
 ex:∃ (f:Addr) (fd:FuncData),aX P w K mg base CX k f fd ps sp/\Meth K C m f/\Binds K fd ps []
 cl:Cls K C
def i8 (C:Addr) (m:Str) (x:V) (H:Hp) (Q:Hp->Prop):Prop:=match x with
 | .ref a=>∃ dx fs,H a=some (.ins C dx fs)/\fs.lookup m=none/\Q H
 | _=>False
def pV (C:Addr) (m:Str) (sp:Sp) (E:St->XK) (ta:TE) (t:TA):TE:=fun σ H Q=>ta σ H fun x H1=>i8 C m x H1 fun H1=>t σ H1 fun vs H2=>sp (x::vs) H2 Q (E σ)
theorem tZ {C:Addr}{m:Str}{sp:Sp}{E:St->XK}{ta:TE}{t:TA}{σ:St}{H:Hp}{Q:VK}:pV C m sp E ta t σ H Q=ta σ H fun x H1=>i8 C m x H1 fun H1=>t σ H1 fun vs H2=>sp (x::vs) H2 Q (E σ):=propext Iff.rfl
section
variable {X:Cx}{CX:CXT}{E:St->XK}
theorem cn {pl:Sem Bool}{C:Addr}{m:Str}{k:Nat}{ps:List Str}{sp:Sp}{o e:Expr}{es:List Expr}{ta:TE}{t:TA}{apos pos:Pos} (M:Mtd X.prog X.w X.K X.mg X.base CX C m k ps sp) (hx:Passes CX X E) (hr:bA k X.A) (he:PE X o ta) (ha:PA X (e::es) t)
  (hs:bY (e::es)=true:=by kernel_rfl)
  (ht:eval (.Call (.Attribute o m apos) (e::es) [] pos) X.env=(do
   let ov ← eval o X.env
   standAt apos.atName
   let (f,first) ← holding [ov] (getMethod ov m pl)
   callWith pos f first (backTo pos (starEach (e::es) X.env)) (backToKw pos (keywordEach [] X.env))):=by rfl) :
  PE X (.Call (.Attribute o m apos) (e::es) [] pos) (pV C m sp E ta t):=by
 obtain ⟨f,fd,F,hm,hb⟩:=M.ex
 intro pins s σ H Q I h
 refine uI (ta:=up ta) (t:=t) he.up M.cl hm F hr hb .nil hx ha (aB (aE hs).1) (bL (aE hs).2) ht pins s σ H Q I ⟨_,h,fun x H1 q=>?_⟩
 cases x with
 | ref a =>
  obtain ⟨dx,fs,h1,h2,h3⟩:=q
  refine ⟨a,dx,fs,rfl,h1,h2,?_⟩
  simp only [List.append_nil]
  exact h3
 | _=>exact False.elim q
theorem dy {pl:Sem Bool}{C:Addr}{m:Str}{k:Nat}{ps:List Str}{sp:Sp}{o:Expr}{ta:TE}{apos pos:Pos} (M:Mtd X.prog X.w X.K X.mg X.base CX C m k ps sp) (hx:Passes CX X E) (hr:bA k X.A) (he:PE X o ta)
  (ht:eval (.Call (.Attribute o m apos) [] [] pos) X.env=(do
   let ov ← eval o X.env
   standAt apos.atName
   let (f,first) ← holding [ov] (getMethod ov m pl)
   callWith pos f first (backTo pos (starEach [] X.env)) (backToKw pos (keywordEach [] X.env))):=by rfl) :
  PE X (.Call (.Attribute o m apos) [] [] pos) (pV C m sp E ta AO):=by
 obtain ⟨f,fd,F,hm,hb⟩:=M.ex
 intro pins s σ H Q I h
 refine yI (ta:=up ta) he.up M.cl hm F hr hb .nil hx ht pins s σ H Q I ⟨_,h,fun x H1 q=>?_⟩
 cases x with
 | ref a =>
  obtain ⟨dx,fs,h1,h2,h3⟩:=q
  exact ⟨a,dx,fs,rfl,h1,h2,h3⟩
 | _=>exact False.elim q
end
structure Mak (P:Program) (w:World) (K:PySem.W.Frag) (mg:Str->Option Value) (base:Heap) (CX:CXT) (C:Addr) (x:Str) (k:Nat) (ps:List Str) (sp:Sp):Prop where
 ex:∃ (f:Addr) (fd:FuncData),aX P w K mg base CX k f fd ps sp/\Mk K C f/\Binds K fd ps []
 mg:mg x=some (.ref C)
def zx (C:Addr) (sp:Sp) (E:St->XK) (t:TA):TE:=fun σ H Q=>t σ H fun vs H1=>∀ x dx H2,H1 x=none->H1 dx=none->dx≠x->ak H1 H2->H2 x=some (.ins C dx [])->H2 dx=some (.own x)->sp (.ref x::vs) H2 (fun v H3=>v=.non/\Q (.ref x) H3) (E σ)
theorem tY {C:Addr}{sp:Sp}{E:St->XK}{t:TA}{σ:St}{H:Hp}{Q:VK}:zx C sp E t σ H Q=t σ H fun vs H1=>∀ x dx H2,H1 x=none->H1 dx=none->dx≠x->ak H1 H2->H2 x=some (.ins C dx [])->H2 dx=some (.own x)->sp (.ref x::vs) H2 (fun v H3=>v=.non/\Q (.ref x) H3) (E σ):=propext Iff.rfl
section
variable {X:Cx}{CX:CXT}{E:St->XK}
theorem j9 {C:Addr}{x:Str}{k:Nat}{ps:List Str}{sp:Sp}{e:Expr}{es:List Expr}{t:TA}{p pos:Pos} (M:Mak X.prog X.w X.K X.mg X.base CX C x k ps sp) (hx:Passes CX X E) (hr:bA (k + 1) X.A) (ha:PA X (e::es) t)
  (hg:X.env.kindOf x=some .globalImplicit:=by kernel_rfl) (hd:(x == ("__debug__":Str))=false:=by kernel_rfl) (hs:bY (e::es)=true:=by kernel_rfl) :
  PE X (.Call (.Name x p) (e::es) [] pos) (zx C sp E t):=by
 obtain ⟨f,fd,F,hm,hb⟩:=M.ex
 intro pins s σ H Q I h
 refine Ay (t:=upA t) hm F hr hg M.mg hb .nil hx ha.up hd (aB (aE hs).1) (bL (aE hs).2) pins s σ H Q I ⟨_,h,fun vs H1 q x dx h1 h2 h3=>?_⟩
 simp only [List.append_nil]
 refine q x dx _ h1 h2 h3 ((cH h2).dr h1) aq ?_
 rw [aj h3,aq]
end
end L2

namespace L2
open PySem PySem.Spec PyProof.Rows
theorem om {h g:Heap}{l c:Addr}{xs:Array Value} (x:h.IsList l xs) (s:Heap.SameBut c h g) (ne:l≠c):g.IsList l xs:=by
 obtain ⟨o,h1,h2⟩:=x
 exact ⟨o,(s.2 l ne).trans h1,h2⟩
section
variable {prog:Program}{w:World}{A:Around}{E:Value->Shared->Prop}
theorem qH {c l:Addr}{xs:Array Value} (ne:l≠c):∀ (k j:Nat) (s:Shared) (R:List Value->Shared->Prop),s.heap.IsListIter c l j->s.heap.IsList l xs->j + k<=xs.size →
  (∀ g,g.IsListIter c l (j + k)->Heap.SameBut c s.heap g->R ((xs.toList.drop j).take k) { s with heap:=g })->wpAny (model prog w) A (draw (.ref c) k) R E s
 | 0,j,s,R,i0,_,_,q=>wpAny_pure (by simpa using q s.heap i0 (Heap.SameBut.refl ..))
 | k + 1,j,s,R,i0,l0,hb,q=>by
  have lt:j < xs.size:=by omega
  show wpAny _ _ (pyNext (.ref c) >>= _) R E s
  refine wpAny_bind (wpAny_pyNext_list_item i0 l0 (x:=xs[j]) (by simp [lt]) fun g1 i1 s1=>?_)
  refine wpAny_bind (wpAny_holding (qH ne k (j + 1) _ _ i1 (om l0 s1 ne) (by omega) fun g2 i2 s2=>wpAny_pure ?_))
  have z:=q g2 (by rw [show j + (k + 1)=j + 1 + k by omega];exact i2) (s1.trans s2)
  rw [show xs.toList.drop j=xs[j]::xs.toList.drop (j + 1) by simp [List.drop_eq_getElem_cons,lt],List.take_succ_cons] at z
  exact z
theorem tK {s:Shared}{l:Addr}{xs:Array Value}{ts:List (Bool × (Value->Sem Unit))}{R:Unit->Shared->Prop} (hh:A.handled=none) (l0:s.heap.IsList l xs) (hn:ts.length=xs.size) (hs:ts.findIdx? (·.1)=none)
  (q:∀ g,Heap.ExtBut s.heap.objs.size s.heap g->wpAny (model prog w) A (assignInOrder (ts.map (·.2)) xs.toList) R E { s with heap:=g }):wpAny (model prog w) A (unpack (.ref l) ts) R E s:=by
 have ne:l≠s.heap.objs.size:=by obtain ⟨o,ho,_⟩:=l0;exact Nat.ne_of_lt (Heap.lt_size ho)
 unfold unpack
 rw [hn,hs]
 refine wpAny_bind (wpAny_holding ?_)
 unfold unpackItems
 refine wpAny_bind ?_
 unfold notIterableAtAll
 refine wpAny_bind (wpAny_specialOf l0.typeIs F.slot_list_iter.lookup ?_)
 refine wpAny_pure ?_
 simp only [Bool.false_eq_true,if_false]
 refine wpAny_bind (wpAny_holding (wpAny_pyIter_list l0 ?_))
 refine wpAny_bind (wpAny_holding (qH ne xs.size 0 _ _ ⟨_,Heap.get?_push_size _ rfl,rfl,rfl⟩ (l0.push _) (by omega) fun g1 i1 s1=>?_))
 rw [show List.take xs.size (List.drop 0 xs.toList)=xs.toList by rw [List.drop_zero];exact List.take_of_length_le (by simp)]
 rw [if_neg (by simp)]
 refine wpAny_bind (wpAny_holding (wpAny_pyNext_list_end hh i1 (om (l0.push _) s1 ne) (by simp) fun g2 e2=>?_))
 simp only [Option.isSome_none,Bool.false_eq_true,if_false]
 exact wpAny_pure (q g2 fun b o hb e=>e2 b o hb (s1.extBut b o hb (Heap.get?_push_of_some _ e)))
end
def BU (K:PySem.W.Frag) (n:Nat) (t:TGs):TG:=fun v σ H Q=>match v with
 | .ref a=>∃ xs,Sq K H a xs/\xs.length=n/\t xs σ H Q
 | _=>False
theorem CA {X:Cx}{es:List Expr}{k:Nat}{t:TGs}{n:Nat}{pos:Pos} (hc:X.calm=true) (h:PGs X es t)
  (hn:(assignEach es X.env).length=n:=by rfl) (hst:(assignEach es X.env).findIdx? (·.1)=none:=by rfl):PG X (.Tuple es k pos) (BU X.K n t):=by
 intro pins s σ H v u Q I r hw
 cases v with
 | ref a =>
  obtain ⟨xs,hq | hq,hl,hw⟩:=hw
  ·cases r
   obtain ⟨its,rv,p,hz⟩:=I.list hq
   rw [assign_Tuple]
   refine wpAny_bind (wpAny_standAt (tK (I.ok.hd hc) p.isList (by simp [hn,← hl,rv.length]) hst fun g hx=>?_))
   have I1:Inv X pins σ H { s with heap:=g }:=I.kept (t':=s.toks) fun b o e=>hx b o (Nat.ne_of_lt (Heap.lt_size e)) e
   exact h pins _ σ H xs _ Q I1 (by simpa using rv) hw
  ·exact yM (pos:=pos) (k:=k) hc h hn hst pins s σ H _ u Q I r ⟨a,xs,rfl,hq,hl,hw⟩
 | _=>exact False.elim hw
theorem iO {X:Cx}{K:PySem.W.Frag}{es:List Expr}{k:Nat}{t:TGs}{n:Nat}{pos:Pos} (hK:X.K=K) (hc:X.calm=true) (h:PGs X es t)
  (hn:(assignEach es X.env).length=n:=by rfl) (hst:(assignEach es X.env).findIdx? (·.1)=none:=by rfl):PG X (.Tuple es k pos) (BU K n t):=hK ▸ CA hc h hn hst
theorem xf {K:PySem.W.Frag}{n:Nat}{t:TGs}{a:Addr}{σ:St}{H:Hp}{Q:St->Hp->Prop}:BU K n t (.ref a) σ H Q=∃ xs,Sq K H a xs/\xs.length=n/\t xs σ H Q:=propext Iff.rfl
theorem qi {t:TG}{u:TGs}{v:V}{r:List V}{σ:St}{H:Hp}{Q:St->Hp->Prop}:oh t u (v::r) σ H Q=t v σ H fun σ' H'=>u r σ' H' Q:=propext ⟨fun ⟨_,_,e,h⟩=>by cases e;exact h,fun h=>⟨v,r,rfl,h⟩⟩
theorem tU {σ:St}{H:Hp}{Q:St->Hp->Prop}:zW [] σ H Q=Q σ H:=propext ⟨fun h=>h.2,fun h=>⟨rfl,h⟩⟩
def oW (l:List Nat) (lo hi:Option Int):List Nat:=(l.drop (HT.sIx l.length 0 lo)).take (HT.sIx l.length l.length hi - HT.sIx l.length 0 lo)
theorem qA (l:List Nat) (lo hi:Option Int):(oW l lo hi).length<=l.length:=by
 unfold oW
 rw [List.length_take,List.length_drop]
 omega
theorem sS {α:Type} (l:List α) (a k:Nat):((List.range k).map fun j=>a + j).filterMap (l[·]?)=(l.drop a).take k:=by
 induction k with
 | zero=>simp
 | succ k ih =>
  rw [List.range_succ,List.map_append,List.filterMap_append,ih,List.take_succ]
  congr 1
  simp only [List.map_cons,List.map_nil,List.filterMap_cons,List.filterMap_nil,List.getElem?_drop]
  cases l[a + k]? <;> rfl
def dM:Option Int->Tok->Option (Int × Tok)
 | some i,t=>some (i,t)
 | none,_=>none
def uj (n d:Nat):Option Int->Int
 | none=>d
 | some i=>max 0 (min (if i < 0 then i + (n:Int) else i) (n:Int))
theorem rC (n d:Nat) (o:Option Int):uj n d o=((HT.sIx n d o:Nat):Int):=by
 cases o with
 | none=>rfl
 | some v =>
  show max 0 (min (if v < 0 then v + (n:Int) else v) (n:Int))=((if v < 0 then (v + (n:Int)).toNat else min v.toNat n:Nat):Int)
  by_cases h:v < 0
  ·rw [if_pos h,if_pos h];omega
  ·rw [if_neg h,if_neg h];omega
theorem oZ (lo hi:Option Int) (n:Nat):Builtin.Str.strSliceIndices lo hi 1 n=sliceRange (uj n 0 lo) (uj n n hi) 1:=by
 unfold Builtin.Str.strSliceIndices uj
 cases lo <;> cases hi <;> simp
theorem range_one (a b:Nat):sliceRange (a:Int) (b:Int) 1=(List.range (b - a)).map fun j=>a + j:=by
 unfold sliceRange
 have e3:(if (1:Int) > 0 then (if (a:Int) < (b:Int) then ((b:Int) - (a:Int) + 1 - 1) / 1 else 0) else (if (a:Int) > (b:Int) then ((a:Int) - (b:Int) - 1 - 1) / (-1) else 0)).toNat=b - a:=by
  rw [if_pos (by decide)]
  split <;> omega
 show ((List.range (if (1:Int) > 0 then (if (a:Int) < (b:Int) then ((b:Int) - (a:Int) + 1 - 1) / 1 else 0) else (if (a:Int) > (b:Int) then ((a:Int) - (b:Int) - 1 - 1) / (-1) else 0)).toNat).map fun (k:Nat)=>((a:Int) + 1 * (k:Int)).toNat)=_
 rw [e3]
 exact List.map_congr_left fun k _=>by omega
theorem jB (x:Str) (lo hi:Option Int) (t u:Tok):slicePicked x (dM lo t) (dM hi u) none=(List.range (HT.sIx x.length x.length hi - HT.sIx x.length 0 lo)).map fun j=>HT.sIx x.length 0 lo + j:=by
 unfold slicePicked
 have e1:(dM lo t).map (·.1)=lo:=by cases lo <;> rfl
 have e2:(dM hi u).map (·.1)=hi:=by cases hi <;> rfl
 rw [e1,e2]
 show Builtin.Str.strSliceIndices lo hi 1 x.length=_
 rw [oZ,rC,rC,range_one]
theorem sT (x:Str) (lo hi:Option Int) (t u:Tok):(slicePicked x (dM lo t) (dM hi u) none).filterMap (x.cps[·]?)=oW x.cps.toList lo hi:=by
 have e5:(fun i:Nat=>x.cps[i]?)=fun i:Nat=>x.cps.toList[i]?:=by funext i;rw [Array.getElem?_toList]
 rw [jB,e5,sS]
 unfold oW
 rw [← eQ]
theorem AL {X:Cx}:SlR X (fun x lo hi H Q=>∃ z,x=.str z/\z.length<=sizeLine/\Q (.str (tx (oW z.cps.toList lo hi))) H):=by
 intro pins s σ H x v vl vu lo hi sl Q I rx hs pl pu h
 obtain ⟨z,rfl,hz,q⟩:=h
 obtain ⟨t,rfl⟩:=rx
 refine ⟨"str",_,F.slot_str_getitem.lookup,typeIs_str s z t,?_⟩
 have h1:∃ tl,vl=partValue (dM lo tl):=by cases pl with | none=>exact ⟨0,rfl⟩ | int i t=>exact ⟨t,rfl⟩
 have h2:∃ tu,vu=partValue (dM hi tu):=by cases pu with | none=>exact ⟨0,rfl⟩ | int i t=>exact ⟨t,rfl⟩
 obtain ⟨tl,rfl⟩:=h1
 obtain ⟨tu,rfl⟩:=h2
 refine wpAny_getItem_str_slice (l:=dM lo tl) (u:=dM hi tu) (st:=none) hs rfl ?_
 have ec:=sT z lo hi tl tu
 have key:tx (oW z.cps.toList lo hi)=⟨((slicePicked z (dM lo tl) (dM hi tu) none).filterMap (z.cps[·]?)).toArray⟩:=by rw [ec];rfl
 unfold sliceMade
 split
 next hh =>
  have hl:(slicePicked z (dM lo tl) (dM hi tu) none).length=z.length:=by simpa using hh
  rw [jB,List.length_map,List.length_range] at hl
  have b1:=HT.zi z.length 0 (Nat.zero_le _) lo
  have b2:=HT.zi z.length z.length (Nat.le_refl _) hi
  have e:tx (oW z.cps.toList lo hi)=z:=by
   unfold oW
   rw [← eQ,hl]
   by_cases hz0:z.length=0
   ·have:z.cps.toList=[]:=by rw [← List.length_eq_zero_iff,← eQ];exact hz0
    rw [this]
    have:=oI z
    rw [‹z.cps.toList=[]›] at this
    simpa using this
   ·rw [show HT.sIx z.length 0 lo=0 by omega,List.drop_zero,List.take_of_length_le (by rw [← eQ];exact Nat.le_refl _)]
    exact oI z
  rw [e] at q
  exact ⟨.str z,H,I,⟨t,rfl⟩,q⟩
 next =>
  rw [← key]
  refine ⟨?_,.str _,H,I.tok _,⟨_,rfl⟩,q⟩
  rw [dw]
  have:=qA z.cps.toList lo hi
  rw [← eQ] at this
  omega
def CH (K:PySem.W.Frag):V->Option Int->Option Int->Hp->VK->Prop:=fun x lo hi H Q=>match x with
 | .ref a=>∃ xs,SqL K H a xs/\nw H (.lst (kO xs lo hi)) Q
 | .str z=>z.length<=sizeLine/\Q (.str (tx (oW z.cps.toList lo hi))) H
 | _=>False
theorem Es {X:Cx}:SlR X (CH X.K):=by
 intro pins s σ H x v vl vu lo hi sl Q I rx hs pl pu h
 cases x with
 | ref a =>
  obtain ⟨xs,h1,h2⟩:=h
  exact AK pins s σ H _ v vl vu lo hi sl Q I rx hs pl pu ⟨a,xs,rfl,h1,h2.go⟩
 | str z=>exact AL pins s σ H _ v vl vu lo hi sl Q I rx hs pl pu ⟨z,rfl,h.1,h.2⟩
 | _=>exact False.elim h
theorem uT {X:Cx}{K:PySem.W.Frag} (hK:X.K=K):SlR X (CH K):=hK ▸ Es
theorem eT.mark {k:Nat}{A:Around}{e:Option Value} (r:eT k A):eT k (A.mark e):=⟨r.dp,r.un⟩
end L2

namespace L2
open PySem PySem.Spec PyProof.Rows
def fi (x:Key) (l:List Key):Bool:=l.any fun y=>decide (y=x)
theorem mB {x:Key}{l:List Key}:fi x l=true ↔ x∈l:=by
 unfold fi
 rw [List.any_eq_true]
 exact ⟨fun ⟨y,h,e⟩=>of_decide_eq_true e ▸ h,fun h=>⟨x,h,decide_eq_true rfl⟩⟩
theorem vU (x y:Key) (l:List Key):fi x (l++[y])=(fi x l || decide (y=x)):=by
 unfold fi
 rw [List.any_append];simp
def bU (val:Nat->Key):Nat->List Key
 | 0=>[]
 | i + 1=>if fi (val i) (bU val i)=true then bU val i else bU val i++[val i]
theorem mC (val:Nat->Key):∀ i,(bU val i).length<=i
 | 0=>Nat.le_refl _
 | i + 1=>by
  have ih:=mC val i
  unfold bU
  split
  ·omega
  ·rw [List.length_append,List.length_singleton];omega
theorem rH {P:Program}{w:World}{h:Heap}{a:Addr}{S S':Key->Bool}{n n':Nat} (x:h.SetOf (aI P w) a S n) (e:∀ k,S k=S' k) (en:n=n'):h.SetOf (aI P w) a S' n':=by
 have z:S=S':=funext e
 subst z;subst en;exact x
section
variable {prog:Program}{w:World}{A:Around}{R:Result->Shared->Prop}{c:Addr}{fp wr:List Addr}{G:Array GenState->Array GenState->Prop}{n:Nat}{Pv:Nat->Value->Prop}{Sv:Nat->Shared->Prop}
theorem rR (W:WalksS prog w A.in1 c fp wr G n Pv Sv) (a:Addr) (na:a ∉ fp) (val:Nat->Key) (hv:∀ i v,Pv i v->ip (val i) v=true/\v.scannable=true) (hb:n + 1 < scanBound) :
  ∀ (k i:Nat) (s:Shared),n - i=k->i<=n->Sv i s->s.heap.SetOf (aI prog w) a (fun x=>fi x (bU val i)) (bU val i).length →
   (∀ s',Moved (a::wr) G s s'->s'.heap.SetOf (aI prog w) a (fun x=>fi x (bU val n)) (bU val n).length->R (.ok (.ret .none)) s') →
   codeAny (model prog w) A (.builtin "set.update.loop" ⟨[.ref a,.ref c],[]⟩) R s:=by
 have nw':a ∉ wr:=fun z=>na (W.sub _ z)
 have sb:∀ b∈wr,b∈a::wr:=fun b h=>List.mem_cons_of_mem _ h
 have ji:∀ {s s':Shared}{S:Key->Bool}{m:Nat},Moved wr G s s'->s.heap.SetOf (aI prog w) a S m->s'.heap.SetOf (aI prog w) a S m:=fun mv x=>by
  obtain ⟨o,es,ep,t,ho,r⟩:=x
  exact ⟨o,es,ep,t,mv.heap a _ nw' ho,r⟩
 intro k
 induction k with
 | zero =>
  intro i s hk hi st x q
  have e:i=n:=by omega
  subst e
  refine codeAny_builtin PyProof.Rows.F.entry_set_update_loop ?_
  rw [Around.under_plainId PyProof.Rows.F.plain_set_update_loop _]
  show wpAny _ A.in1 (pyNext (.ref c) >>= _) _ _ s
  refine wpAny_bind (W.done s _ _ st fun s' mv=>?_)
  exact wpAny_pure (q s' (mv.mono sb) (ji mv x))
 | succ k ih =>
  intro i s hk hi st x q
  have lt:i < n:=by omega
  refine codeAny_builtin PyProof.Rows.F.entry_set_update_loop ?_
  rw [Around.under_plainId PyProof.Rows.F.plain_set_update_loop _]
  show wpAny _ A.in1 (pyNext (.ref c) >>= _) _ _ s
  refine wpAny_bind (W.item i s _ _ lt st fun v s' pv st' mv=>?_)
  obtain ⟨hk1,hk2⟩:=hv i v pv
  have x':=ji mv x
  show wpAny _ A.in1 (holding [v] (setAdd a v) >>= _) _ _ s'
  refine wpAny_bind (wpAny_holding ?_)
  unfold setAdd
  refine wpAny_holding ?_
  refine wpAny_bind ((aI prog w).pyHash (k:=val i) hk1 ?_)
  have room:(bU val i).length + 1 < scanBound:=by have:=mC val i;omega
  refine wpAny_setAddHashed_of (knd:=aI prog w) (s:={ s' with toks:=s'.toks + 1 }) hk1 hk2 x' room fun g sg xg=>?_
  have x2:g.SetOf (aI prog w) a (fun y=>fi y (bU val (i + 1))) (bU val (i + 1)).length:=by
   refine rH xg (fun y=>?_) ?_
   ·show (fi y (bU val i) || decide (y=val i))=fi y (if fi (val i) (bU val i)=true then bU val i else bU val i++[val i])
    by_cases hc:fi (val i) (bU val i)=true
    ·rw [if_pos hc]
     by_cases e:y=val i
     ·subst e;rw [hc,Bool.true_or]
     ·rw [decide_eq_false e,Bool.or_false]
    ·rw [if_neg hc,vU]
     congr 1
     by_cases e:y=val i
     ·rw [decide_eq_true e,decide_eq_true e.symm]
     ·rw [decide_eq_false e,decide_eq_false (Ne.symm e)]
   ·show (if fi (val i) (bU val i)=true then (bU val i).length else (bU val i).length + 1)=(if fi (val i) (bU val i)=true then bU val i else bU val i++[val i]).length
    by_cases hc:fi (val i) (bU val i)=true
    ·rw [if_pos hc,if_pos hc]
    ·rw [if_neg hc,if_neg hc,List.length_append];rfl
  refine wpAny_pure ⟨plainId_quiet PyProof.Rows.F.plain_set_update_loop _,ih (i + 1) _ (by omega) lt (W.frame _ s' _ _ st' (Nat.le_succ _) fun b hb o e=>?_) x2 fun s'' mv2 x3=>?_⟩
  ·rw [sg.2 b (fun z:b=a=>na (by rw [← z];exact hb))];exact e
  ·refine q s'' (Moved.trans W.gtrans ((mv.mono sb).then_heap (Nat.le_succ _) fun b o hb e=>?_) mv2) x3
   rw [sg.2 b (fun z:b=a=>hb (by rw [z];exact List.mem_cons_self))];exact e
end
def gq (z:Str) (i:Nat):Key:=Sum.inr ⟨#[z.cps.toList.getD i 0]⟩
theorem sub_str_set:isSubtype (.type "str") (.type "set")=pure false:=by rw [isSubtype_type];kernel_rfl
theorem ng:isSubtype (.type "str") (.type "frozenset")=pure false:=by rw [isSubtype_type];kernel_rfl
set_option maxRecDepth 100000 in
set_option maxHeartbeats 4000000 in
theorem rJ {prog:Program}{w:World}{A:Around}{E:Value->Shared->Prop}{s:Shared}{z:Str}{t:Tok}{Q:Value->Shared->Prop} (hh:A.handled=none) (hb:z.cps.size + 1 < scanBound)
  (q:∀ (g:Heap) (tk:Nat),g.SetOf (aI prog w) s.heap.objs.size (fun x=>fi x (bU (gq z) z.cps.size)) (bU (gq z) z.cps.size).length->(∀ b o,b < s.heap.objs.size->s.heap.get? b=some o->g.get? b=some o) →
   Q (.ref s.heap.objs.size) { s with heap:=g,toks:=tk }):wpAny (model prog w) A (call (.type "set") [.str z t]) Q E s:=by
 obtain ⟨c,tl,hmro⟩:=F.called_set.mro
 have hmade:=F.called_set.made
 have hsub:=F.called_set.sub
 refine wpAny_call (codeAny_of_tree ?_)
 show wpAny _ _ (callAny (.type "set") _) _ _ _
 refine wpAny_pure ⟨Code.quiet_builtin _ (by decide +kernel),codeAny_builtin F.entry_type_call ?_⟩
 rw [Around.under_plain (weight_type_call_type "set" [.str z t] []) rfl]
 have h1:=F.called_set.notType
 have h2:=F.called_set.canCreate
 have hct:=F.typeCall_set_1 (.str z t)
 repeat (any_goals (first | assumption | wp_step))
 refine codeAny_mono (code_set_new_1 (.str z t) (E:=E) (Q₁:=fun ob s1=>∃ led:Bool,ob=.ref s.heap.objs.size/\s1={ s with heap:=s.heap.push { cls:=.type "set",dict:=none,data:=.set #[] 0 (.fresh 0 0 led) } }) fun led=>⟨led,rfl,rfl⟩) fun r s1 hr=>?_
 cases r with
 | error e=>exact hr
 | ok fl =>
  cases fl with
  | ret ob =>
   obtain ⟨led,rfl,rfl⟩:=hr
   generalize hg1:s.heap.push { cls:=.type "set",dict:=none,data:=.set #[] 0 (.fresh 0 0 led) }=g1
   have hS:g1.get? s.heap.objs.size=some { cls:=.type "set",dict:=none,data:=.set #[] 0 (.fresh 0 0 led) }:=by rw [← hg1];exact Heap.get?_push_size _ rfl
   have hsz:g1.objs.size=s.heap.objs.size + 1:=by rw [← hg1,Heap.size_push]
   have hkp:∀ b o,s.heap.get? b=some o->g1.get? b=some o:=fun b o e=>by rw [← hg1];exact Heap.get?_push_of_some _ e
   have hT:Shared.TypeIs { s with heap:=g1 } (.ref s.heap.objs.size) "set":=⟨_,hS,rfl⟩
   have hli:=F.called_set.init.lookup
   have hbi:=F.called_set.init.bind (.ref s.heap.objs.size)
   repeat (any_goals (first | assumption | wp_step))
   refine codeAny_mono (codeAny_call_builtin (R:=wants (fun r s2=>r=.none/\∃ g tk,s2={ s with heap:=g,toks:=tk }/\g.SetOf (aI prog w) s.heap.objs.size (fun x=>fi x (bU (gq z) z.cps.size)) (bU (gq z) z.cps.size).length ∧
     (∀ b o,b < s.heap.objs.size->s.heap.get? b=some o->g.get? b=some o)) E) F.called_set.init.plain F.entry_set_init (check_set_init_1 hT ?_)) fun r2 s2 hr2=>?_
   ·have k1:=sub_str_set
    have k2:=ng
    have k3:(Value.type "str" == Value.type "dict")=false:=by decide
    have hh3:A.in1.in1.in1.handled=none:=by simp [hh]
    have hval:∀ i v,SignAt z i v->ip (gq z i) v=true/\v.scannable=true:=by
     rintro i v ⟨ch,u,e,rfl⟩
     refine ⟨?_,rfl⟩
     have e2:z.cps.toList.getD i 0=ch:=by rw [List.getD_eq_getElem?_getD,Array.getElem?_toList,e];rfl
     unfold gq
     rw [e2]
     exact oq _ _
    have fin:∀ (g2:Heap),(∀ b o,g1.get? b=some o->g2.get? b=some o)->∀ s',Moved (s.heap.objs.size::[g1.objs.size]) (fun a b=>b=a) { s with heap:=g2 } s' →
      s'.heap.SetOf (aI prog w) s.heap.objs.size (fun x=>fi x (bU (gq z) z.cps.size)) (bU (gq z) z.cps.size).length →
      ∃ g tk,s'={ s with heap:=g,toks:=tk }/\g.SetOf (aI prog w) s.heap.objs.size (fun x=>fi x (bU (gq z) z.cps.size)) (bU (gq z) z.cps.size).length/\(∀ b o,b < s.heap.objs.size->s.heap.get? b=some o->g.get? b=some o):=by
     intro g2 k4 s' mv x
     obtain ⟨g,ge,d,tk,os⟩:=s'
     have eg:ge=s.gens:=mv.gens
     have ed:d=s.drawn:=mv.drawn
     have eo:os=s.os:=mv.os
     subst eg;subst ed;subst eo
     refine ⟨g,tk,rfl,x,fun b o hb e=>mv.heap b o ?_ (k4 b o (hkp b o e))⟩
     simp only [List.mem_cons,List.not_mem_nil,or_false,not_or]
     rw [hsz]
     exact ⟨Nat.ne_of_lt hb,Nat.ne_of_lt (Nat.lt_succ_of_lt hb)⟩
    have start:∀ g2:Heap,(∀ b o,g1.get? b=some o->g2.get? b=some o)->g2.SetOf (aI prog w) s.heap.objs.size (fun x=>fi x (bU (gq z) 0)) (bU (gq z) 0).length:=fun g2 k4 =>
     letI:BEq Key:=instBEqOfDecidableEq
     rH ((PyProof.Rows.setObjOf_fresh (knd:=aI prog w) led).setOf (k4 _ _ hS) (by unfold scanBound;omega)) (fun _=>rfl) rfl
    have na:s.heap.objs.size ∉ [g1.objs.size]:=by simp only [List.mem_cons,List.not_mem_nil,or_false];omega
    unfold Builtin.«set.__init__» noKeywords Builtin.Frozenset.updateFrom
    generalize hPI:pyIter=PI
    wp_walk
    subst hPI
    cases ha:z.cps.all (· < 128) with
    | true =>
     refine wpAny_pyIter_ascii ha ?_
     refine wpAny_bind (wpAny_runValue ?_)
     refine rR ((Walks.strAscii hh3 g1.objs.size z t).toS) s.heap.objs.size na (gq z) hval hb (z.cps.size - 0) 0 _ (by omega) (Nat.zero_le _) ⟨_,Heap.get?_push_size _ rfl,rfl,rfl⟩ (start _ fun b o e=>Heap.get?_push_of_some _ e) fun s' mv x=>?_
     obtain ⟨g,tk,e,r1,r2⟩:=fin _ (fun b o e=>Heap.get?_push_of_some _ e) s' mv x
     refine wpAny_pure ?_
     show wpAny _ _ (ret Value.none) _ _ _
     exact wpAny_pure ⟨rfl,g,tk,e,r1,r2⟩
    | false =>
     refine wpAny_pyIter_wide ha ?_
     refine wpAny_bind (wpAny_runValue ?_)
     refine rR ((Walks.strWide hh3 g1.objs.size z t).toS) s.heap.objs.size na (gq z) hval hb (z.cps.size - 0) 0 _ (by omega) (Nat.zero_le _) ⟨_,Heap.get?_push_size _ rfl,rfl,rfl⟩ (start _ fun b o e=>Heap.get?_push_of_some _ e) fun s' mv x=>?_
     obtain ⟨g,tk,e,r1,r2⟩:=fin _ (fun b o e=>Heap.get?_push_of_some _ e) s' mv x
     refine wpAny_pure ?_
     show wpAny _ _ (ret Value.none) _ _ _
     exact wpAny_pure ⟨rfl,g,tk,e,r1,r2⟩
   ·cases r2 with
    | error e=>exact hr2
    | ok fl2 =>
     cases fl2 with
     | ret v =>
      obtain ⟨rfl,g,tk,rfl,x1,x2⟩:=hr2
      repeat (any_goals (first | assumption | wp_step))
      exact q _ _ x1 x2
     | _=>exact hr2.elim
  | _=>exact hr.elim
end L2

namespace L2
open PySem PySem.Spec PyProof.Rows
def tf (P:Program) (w:World) (a:Addr) (l:List Key):HO:=.ext fun h=>h.SetOf (aI P w) a (fun x=>fi x l) l.length
theorem AI {P:Program}{w:World}{H:Hp}{h:Heap}{a:Addr}{l:List Key} (x:h.SetOf (aI P w) a (fun x=>fi x l) l.length):aS P w H h a (tf P w a l):=by
 refine ⟨x,?_,fun h1 h2 y k=>?_⟩
 ·obtain ⟨o,_,_,_,e,_⟩:=x;exact ⟨o,e⟩
 ·obtain ⟨o,es,ep,t,e,r⟩:=y;exact ⟨o,es,ep,t,k o e,r⟩
def yX (P:Program) (w:World):List V->Hp->VK->Prop:=fun vs H Q=>match vs with
 | [.str z]=>z.length<=4000/\∀ p H',H p=none->ak H H'->H' p=some (tf P w p (bU (gq z) z.length))->Q (.ref p) H'
 | _=>False
theorem vz {X:Cx} (hc:X.calm=true):bw X (.type "set") (yX X.prog X.w):=by
 intro pins s σ H xs us Q I r h
 match xs,h with
 | [.str z],h =>
  obtain ⟨u,rfl,t,rfl⟩:=vals1 r
  have hf:H s.heap.objs.size=none:=I.hok.fresh (Nat.le_refl _)
  have hz:z.cps.size<=4000:=h.1
  refine rJ (I.ok.hd hc) (by unfold scanBound;omega) fun g tk x k=>?_
  have kk:∀ b o,s.heap.get? b=some o->g.get? b=some o:=fun b o e=>k b o (Heap.lt_size e) e
  exact ⟨.ref s.heap.objs.size,upd H s.heap.objs.size (tf X.prog X.w s.heap.objs.size (bU (gq z) z.length)),I.laid (t':=tk) kk (Nat.le_refl _) (AI x),rfl,h.2 _ _ hf (cH hf) aq⟩
def yU (P:Program) (w:World):List V->Hp->VK->Prop:=fun vs H Q=>match vs with
 | [.ref p]=>∃ l,H p=some (tf P w p l)/\Q (.int l.length) H
 | _=>False
theorem vn {X:Cx}:bw X (.builtin "len") (yU X.prog X.w):=by
 intro pins s σ H xs us Q I r h
 match xs,h with
 | [.ref p],h =>
  obtain ⟨l,e,q⟩:=h
  obtain ⟨u,rfl,ru⟩:=vals1 r
  cases ru
  obtain ⟨⟨o,es,ep,t,e1,e2,e3,_,_,e4,e5,e6⟩,_⟩:=(show aS X.prog X.w H s.heap p (tf X.prog X.w p l) from I.hok p _ e)
  refine call_len_set e1 e2 e3 e5 (by have:es.size < 4096:=e4;omega) ⟨.int es.size,H,I.tok _,⟨_,rfl⟩,?_⟩
  rw [e6];exact q
theorem vy {X:Cx}{P:Program}{w:World} (hP:X.prog=P) (hw:X.w=w) (hc:X.calm=true):bw X (.type "set") (yX P w):=by subst hP hw;exact vz hc
theorem se {X:Cx}{P:Program}{w:World} (hP:X.prog=P) (hw:X.w=w):bw X (.builtin "len") (yU P w):=by subst hP hw;exact vn
theorem mD (val:Nat->Key):∀ (n:Nat) (x:Key),x∈bU val n ↔ ∃ i,i < n/\val i=x
 | 0,x=>⟨fun h=>(by cases h),fun ⟨i,h,_⟩=>absurd h (Nat.not_lt_zero _)⟩
 | n + 1,x=>by
  have ih:=mD val n
  unfold bU
  by_cases hc:fi (val n) (bU val n)=true
  ·rw [if_pos hc,ih x]
   obtain ⟨j,hj,ej⟩:=(ih (val n)).mp (mB.mp hc)
   constructor
   ·rintro ⟨i,h,e⟩;exact ⟨i,Nat.lt_succ_of_lt h,e⟩
   ·rintro ⟨i,h,e⟩
    rcases Nat.lt_succ_iff_lt_or_eq.mp h with h | h
    ·exact ⟨i,h,e⟩
    ·exact ⟨j,hj,by rw [ej,← h,e]⟩
  ·rw [if_neg hc,List.mem_append,List.mem_singleton,ih x]
   constructor
   ·rintro (⟨i,h,e⟩ | e)
    ·exact ⟨i,Nat.lt_succ_of_lt h,e⟩
    ·exact ⟨n,Nat.lt_succ_self _,e.symm⟩
   ·rintro ⟨i,h,e⟩
    rcases Nat.lt_succ_iff_lt_or_eq.mp h with h | h
    ·exact .inl ⟨i,h,e⟩
    ·exact .inr (by rw [← e,h])
theorem ou (val:Nat->Key):∀ n,(bU val n).length=n ↔ ∀ i j,i < n->j < n->val i=val j->i=j
 | 0=>⟨fun _ i _ h=>absurd h (Nat.not_lt_zero _),fun _=>rfl⟩
 | n + 1=>by
  have ih:=ou val n
  have hl:=mC val n
  unfold bU
  by_cases hc:fi (val n) (bU val n)=true
  ·rw [if_pos hc]
   obtain ⟨j,hj,ej⟩:=(mD val n (val n)).mp (mB.mp hc)
   constructor
   ·intro h;omega
   ·intro h
    have:=h j n (Nat.lt_succ_of_lt hj) (Nat.lt_succ_self _) ej
    omega
  ·rw [if_neg hc,List.length_append,List.length_singleton]
   have nm:∀ i,i < n->val i≠val n:=fun i hi e=>hc (mB.mpr ((mD val n (val n)).mpr ⟨i,hi,e⟩))
   constructor
   ·intro h i j hi hj e
    have h2:=ih.mp (by omega)
    rcases Nat.lt_succ_iff_lt_or_eq.mp hi with hi | hi <;> rcases Nat.lt_succ_iff_lt_or_eq.mp hj with hj | hj
    ·exact h2 i j hi hj e
    ·subst hj;exact absurd e (nm i hi)
    ·subst hi;exact absurd e.symm (nm j hj)
    ·omega
   ·intro h
    have:=ih.mpr fun i j hi hj=>h i j (Nat.lt_succ_of_lt hi) (Nat.lt_succ_of_lt hj)
    omega
theorem oy (z:Str):(bU (gq z) z.length).length=z.length ↔ z.cps.toList.Nodup:=by
 rw [ou,List.nodup_iff_pairwise_ne,List.pairwise_iff_getElem]
 have hl:=eQ z
 constructor
 ·intro h i j hi hj hij e
  have:=h i j (by omega) (by omega) (by unfold gq;rw [List.getD_eq_getElem?_getD,List.getD_eq_getElem?_getD,List.getElem?_eq_getElem hi,List.getElem?_eq_getElem hj,e])
  omega
 ·intro h i j hi hj e
  have hi':i < z.cps.toList.length:=by omega
  have hj':j < z.cps.toList.length:=by omega
  have e2:z.cps.toList[i]=z.cps.toList[j]:=by
   unfold gq at e
   rw [List.getD_eq_getElem?_getD,List.getD_eq_getElem?_getD,List.getElem?_eq_getElem hi',List.getElem?_eq_getElem hj'] at e
   have e4:=congrArg Str.cps (Sum.inr.inj e)
   simpa using e4
  rcases Nat.lt_trichotomy i j with z1 | z1 | z1
  ·exact absurd e2 (h i j hi' hj' z1)
  ·exact z1
  ·exact absurd e2.symm (h j i hj' hi' z1)
theorem nr:bootBuiltins "ValueError"=some (.type "ValueError"):=by kernel_rfl
def ndB:List Addr->Bool
 | []=>true
 | a::r=>!r.contains a && ndB r
theorem Bm:∀ {l:List Addr} (_:ndB l=true) {i j:Nat}{a b:Addr},l[i]?=some a->l[j]?=some b->(a == b)=decide (i=j)
 | [],_,_,_,_,_,h,_=>by simp at h
 | x::l,hn,0,0,a,b,ha,hb=>by
  simp at ha hb
  subst ha hb
  simp
 | x::l,hn,0,j + 1,a,b,ha,hb=>by
  unfold ndB at hn
  rw [Bool.and_eq_true,Bool.not_eq_true'] at hn
  simp at ha hb
  subst ha
  have hm:b∈l:=List.mem_of_getElem? hb
  have:x≠b:=fun e=>by rw [e,List.contains_iff_mem.mpr hm] at hn;cases hn.1
  simp [this]
 | x::l,hn,i + 1,0,a,b,ha,hb=>by
  unfold ndB at hn
  rw [Bool.and_eq_true,Bool.not_eq_true'] at hn
  simp at ha hb
  subst hb
  have hm:a∈l:=List.mem_of_getElem? ha
  have:a≠x:=fun e=>by rw [← e,List.contains_iff_mem.mpr hm] at hn;cases hn.1
  simp [this]
 | x::l,hn,i + 1,j + 1,a,b,ha,hb=>by
  unfold ndB at hn
  rw [Bool.and_eq_true] at hn
  rw [Bm hn.2 (i:=i) (j:=j) (by simpa using ha) (by simpa using hb)]
  exact decide_eq_decide.mpr (by omega)
theorem jM {H H':Hp} (s:ak H H') {x:V}{t:Tg} (h:eO H x=some t):eO H' x=some t:=by
 cases x with
 | ref a =>
  have h':hZ (H a)=some t:=h
  cases e:H a with
  | none=>rw [e] at h';cases h'
  | some o =>
   show hZ (H' a)=some t
   rw [s a o e,← e];exact h'
 | _=>exact h
end L2

namespace L2
open PySem PySem.Spec PyProof.Rows
theorem kW {items:Array Value}{k:Nat}:items[((k:Nat):Int).toNat]?=(items.toList.drop k)[0]?:=by
 rw [List.getElem?_drop,Int.toNat_natCast,Nat.add_zero,Array.getElem?_toList]
theorem uv {items:Array Value}{k:Nat}{v:Value}{r:List Value} (h:items.toList.drop k=v::r):items.toList.drop (k + 1)=r:=by
 rw [← List.drop_drop,h];rfl
def iq:List Int->List Int->Bool
 | [],[]=>true
 | [],_::_=>false
 | _::_,[]=>true
 | a::x,c::y=>if a=c then iq x y else decide (c<=a)
theorem zZ (l b:Addr) (items items2:Array Value) (n n2:Nat) (dd dd2:Option Addr) (sl sl2:Array (Option Value)) {prog:Program}{w:World}{A:Around}{R:Result->Shared->Prop}{s:Shared}
  (hl:s.heap.get? l=some { cls:=.type "list",dict:=dd,data:=.seq items n,slots:=sl }) (hb:s.heap.get? b=some { cls:=.type "list",dict:=dd2,data:=.seq items2 n2,slots:=sl2 }) :
  ∀ (xs:List Value) (k:Nat) (ns ms:List Int),items.toList.drop k=xs->IntsAre xs ns->IntsAre (items2.toList.drop k) ms->k<=items.size->k<=items2.size->R (.ok (.ret (.bool (iq ns ms)))) s →
   codeAny (model prog w) A (Code.builtin "list.__eq__.loop" { pos:=[.ref l,.ref b,rawInt (k:Int),rawInt 5] }) R s:=by
 obtain ⟨hp,g,d,tk,os⟩:=s
 simp only at hl hb
 intro xs
 induction xs with
 | nil =>
  intro k ns ms hx hi hj hk hk2 h
  refine codeAny_builtin MeetsSeq3.entry_eq_loop ?_
  show wpAny _ _ (Builtin.«list.__eq__.loop» { pos:=[.ref l,.ref b,Value.int (k:Int) 0,Value.int 5 0] }) _ _ _
  unfold Builtin.«list.__eq__.loop»
  have e1:items[((k:Nat):Int).toNat]?=none:=by rw [kW,hx];rfl
  have hz:items.size=k:=by have:=congrArg List.length hx;rw [List.length_drop,Array.length_toList,List.length_nil] at this;omega
  have hz2:items2.size - k=ms.length:=by have:=hj.length;rw [List.length_drop,Array.length_toList] at this;exact this
  wp_walk using AutoSeq1.wpAny_loadPart' hl,AutoSeq1.wpAny_loadPart' hb
  rw [e1]
  wp_walk using AutoSeq1.wpAny_loadPart' hl,AutoSeq1.wpAny_loadPart' hb
  cases hi
  have e2:iq [] ms=decide (items.size ≥ items2.size):=by
   cases ms with
   | nil=>exact (decide_eq_true (by simp only [List.length_nil] at hz2;omega)).symm
   | cons c y=>exact (decide_eq_false (by simp only [List.length_cons] at hz2;omega)).symm
  rw [e2] at h
  exact h
 | cons v xs ih =>
  intro k ns ms hx hi hj hk hk2 h
  refine codeAny_builtin MeetsSeq3.entry_eq_loop ?_
  show wpAny _ _ (Builtin.«list.__eq__.loop» { pos:=[.ref l,.ref b,Value.int (k:Int) 0,Value.int 5 0] }) _ _ _
  unfold Builtin.«list.__eq__.loop»
  have e1:items[((k:Nat):Int).toNat]?=some v:=by rw [kW,hx];rfl
  have hz:items.size=k + (xs.length + 1):=by have:=congrArg List.length hx;rw [List.length_drop,Array.length_toList,List.length_cons] at this;omega
  wp_walk using AutoSeq1.wpAny_loadPart' hl,AutoSeq1.wpAny_loadPart' hb
  rw [e1]
  cases hi with
  | cons a t hi' =>
  generalize hy:items2.toList.drop k=ys at hj
  cases hj with
  | nil =>
   have e2:items2[((k:Nat):Int).toNat]?=none:=by rw [kW,hy];rfl
   have hz2:items2.size=k:=by have:=congrArg List.length hy;rw [List.length_drop,Array.length_toList,List.length_nil] at this;omega
   rw [e2]
   wp_walk using AutoSeq1.wpAny_loadPart' hl,AutoSeq1.wpAny_loadPart' hb
   have e3:∀ z,iq (a::z) []=decide (items.size ≥ items2.size):=fun z=>(decide_eq_true (by omega)).symm
   rw [e3] at h
   exact h
  | cons c u hj' =>
   have e2:items2[((k:Nat):Int).toNat]?=some (.int c u):=by rw [kW,hy];rfl
   have hz2:k + 1<=items2.size:=by have:=congrArg List.length hy;rw [List.length_drop,Array.length_toList,List.length_cons] at this;omega
   rw [e2]
   obtain ⟨e,he,hiff⟩:=HT.xE (A.under (Code.builtin "list.__eq__.loop" { pos:=[.ref l,.ref b,rawInt (k:Int),rawInt 5] })) ⟨hp,g,d,tk,os⟩ a t c u
   refine wpAny_bind (he prog w _ _ ?_)
   unfold iq at h
   cases e with
   | true =>
    rw [if_pos (hiff.mp rfl)] at h
    wp_walk
    exact ⟨by with_unfolding_all rfl,ih (k + 1) _ _ (uv hx) hi' (by rw [uv hy];exact hj') (by omega) (by omega) h⟩
   | false =>
    rw [if_neg (fun q=>absurd (hiff.mpr q) Bool.false_ne_true)] at h
    wp_walk using AutoSeq1.wpAny_loadPart' hl,AutoSeq1.wpAny_loadPart' hb
    rw [e1,e2]
    have hri:∀ (A:Around) (E:Value->Shared->Prop) (Q:Value->Shared->Prop),Q (.bool (decide (c<=a))) ⟨hp,g,d,tk,os⟩->wpAny (model prog w) A (richCompare .GtE (.int a t) (.int c u)) Q E ⟨hp,g,d,tk,os⟩:=fun A E Q h=>(PyProof.Rows.ge_int h:wpAny (model prog w) A (compareOp .GtE (.int a t) (.int c u)) Q E _)
    refine wpAny_bind (hri _ _ _ ?_)
    wp_walk
    exact h
theorem xU {l b:Addr}{items items2:Array Value}{ns ms:List Int}{prog:Program}{w:World}{A:Around}{E:Value->Shared->Prop}{s:Shared}{Q:Value->Shared->Prop} (hl:s.heap.IsList l items) (hb:s.heap.IsList b items2) (hi:IntsAre items.toList ns) (hj:IntsAre items2.toList ms)
  (hu:A.units < cLine) (h:Q (.bool (iq ns ms)) s):wpAny (model prog w) A (compareOp .GtE (.ref l) (.ref b)) Q E s:=by
 obtain ⟨⟨c1,dd,d1,sl⟩,ho,g1,n,g2⟩:=id hl
 obtain ⟨⟨c2,dd2,d2,sl2⟩,ho2,g3,n2,g4⟩:=id hb
 simp only at g1 g2 g3 g4
 subst g1 g2 g3 g4
 have m:Meets (Builtin.«list.__ge__» ⟨[.ref l,.ref b],[]⟩) (fun _ R s=>s.heap.get? l=some { cls:=.type "list",dict:=dd,data:=.seq items n,slots:=sl }/\s.heap.get? b=some { cls:=.type "list",dict:=dd2,data:=.seq items2 n2,slots:=sl2 } ∧
    R (.ok (.ret (.bool (iq ns ms)))) s):=by
  intro prog w A R s h
  obtain ⟨hp,g,d,tk,os⟩:=s;obtain ⟨hl,hb,h⟩:=h
  simp only at hl hb
  have f2:=AutoSeq1.sub_list_list
  unfold Builtin.«list.__ge__»
  wp_walk using AutoSeq1.wpAny_loadPart' hl,AutoSeq1.wpAny_loadPart' hb
  exact ⟨by with_unfolding_all rfl,zZ l b items items2 n n2 dd dd2 sl sl2 hl hb _ 0 ns ms rfl hi hj (Nat.zero_le _) (Nat.zero_le _) h⟩
 exact PySem.W.cmp_ofGtE (richCompare_meets_room (op:=.GtE) ⟨_,ho,rfl⟩ ⟨_,ho2,rfl⟩ PySem.F.slot_list_ge PySem.F.entry_list_ge (PySem.F.args_list_ge_2 _ _) m
  ⟨ho,ho2,show Value.bool (iq ns ms)≠Value.notImplemented/\Q (.bool (iq ns ms)) s from ⟨(fun x=>nomatch x),h⟩⟩ hu)
section
variable {X:Cx}{K:PySem.W.Frag}
def Dv (K:PySem.W.Frag):R2:=fun x y H Q=>match x,y with
 | .int i,.int j=>Q (.bl (decide (j<=i))) H
 | .ref a,.ref b=>∃ ns ms,SqL K H a (ns.map V.int)/\SqL K H b (ms.map V.int)/\Q (.bl (iq ns ms)) H
 | _,_=>False
theorem sP (hK:X.K=K) (hu:X.A.units < cLine):OpR X (compareOp .GtE) (Dv K):=by
 subst hK
 intro pins s σ H x y v u Q I rx ry h
 cases x with
 | int i=>cases y with
  | int j=>exact Ct pins s σ H _ _ v u Q I rx ry h
  | _=>exact False.elim h
 | ref a=>cases y with
  | ref b =>
   obtain ⟨ns,ms,ha,hb,q⟩:=h
   cases rx
   cases ry
   obtain ⟨its,r1,p1,_⟩:=I.list ha
   obtain ⟨its2,r2,p2,_⟩:=I.list hb
   exact xU p1.isList p2.isList (intsAre_of r1) (intsAre_of r2) hu ⟨.bl (iq ns ms),H,I,rfl,q⟩
  | _=>exact False.elim h
 | _=>exact False.elim h
end
theorem ar {t u:TS}{D:Ends}{σ:St}{H:Hp} (h:∀ nn:TS,nn=u->t { D with nx:=fun σ' H'=>nn D σ' H' } σ H):zy t u D σ H:=h u rfl
theorem gw {K:PySem.W.Frag}{a:Addr}{xs:List V}{g:TG}{tb:TS}{D:Ends}{σ:St}{H:Hp} (Pv:Nat->St->Hp->Prop) (h0:Pv 0 σ H) (hl:∀ i σ H,i<=xs.length->Pv i σ H->SqL K H a xs)
  (hs:∀ i x σ H,xs[i]?=some x->Pv i σ H->∀ N:St->Hp->Prop,(∀ σ' H',Pv (i + 1) σ' H'->N σ' H')->g x σ H fun σ2 H2=>tb { D with nx:=N,ct:=N,bk:=D.nx } σ2 H2) (hd:∀ σ H,Pv xs.length σ H->D.nx σ H):gr g tb D (Itl K a) σ H :=
 uA Pv h0 hl (fun i x σ H hi hp=>hs i x σ H hi hp _ fun _ _ h=>h) hd
end L2

namespace Mk
end Mk

namespace Mk
def bh (c:Nat):List Nat->List (List Nat)
 | []=>[[]]
 | a::l=>if a=c then []::bh c l else match bh c l with
  | []=>[[a]]
  | w::ws=>(a::w)::ws
def dJ (c:Nat):List (List Nat)->List Nat
 | []=>[]
 | [w]=>w
 | w::v::ws=>w++c::dJ c (v::ws)
theorem hO {c:Nat}:∀ (w l:List Nat),c ∉ w->bh c (w++c::l)=w::bh c l
 | [],l,_=>by simp [bh]
 | a::w,l,h=>by
  have ha:a≠c:=fun e=>h (by rw [e];exact List.mem_cons_self)
  have ih:=hO w l fun hc=>h (List.mem_cons_of_mem _ hc)
  show (if a=c then _ else match bh c (w++c::l) with | []=>[[a]] | w::ws=>(a::w)::ws)=_
  rw [if_neg ha,ih]
theorem oF {c:Nat}:∀ (w:List Nat),c ∉ w->bh c w=[w]
 | [],_=>rfl
 | a::w,h=>by
  have ha:a≠c:=fun e=>h (by rw [e];exact List.mem_cons_self)
  have ih:=oF w fun hc=>h (List.mem_cons_of_mem _ hc)
  show (if a=c then _ else match bh c w with | []=>[[a]] | w::ws=>(a::w)::ws)=_
  rw [if_neg ha,ih]
theorem iF {c:Nat}:∀ (ws:List (List Nat)),ws≠[]->(∀ w∈ws,c ∉ w)->bh c (dJ c ws)=ws
 | [],h,_=>absurd rfl h
 | [w],_,h=>oF w (h w List.mem_cons_self)
 | w::v::ws,_,h=>by
  show bh c (w++c::dJ c (v::ws))=_
  rw [hO w _ (h w List.mem_cons_self),iF (v::ws) (by simp) fun x hx=>h x (List.mem_cons_of_mem _ hx)]
theorem mY {c:Nat}:∀ (l:List Nat),(bh c l).length<=l.length + 1/\∀ w∈bh c l,w.length<=l.length
 | []=>by simp [bh]
 | a::l=>by
  obtain ⟨h1,h2⟩:=mY (c:=c) l
  have e:bh c (a::l)=if a=c then []::bh c l else match bh c l with | []=>[[a]] | w::ws=>(a::w)::ws:=rfl
  by_cases ha:a=c
  ·rw [e,if_pos ha,List.length_cons,List.length_cons]
   refine ⟨by omega,fun w hw=>?_⟩
   rcases List.mem_cons.mp hw with rfl | hw
   ·exact Nat.zero_le _
   ·have:=h2 w hw;omega
  ·rw [e,if_neg ha,List.length_cons]
   cases hs:bh c l with
   | nil=>exact ⟨by simp,fun w hw=>by rw [List.mem_singleton.mp hw];simp⟩
   | cons v vs =>
    rw [hs] at h1 h2
    refine ⟨by simp only [List.length_cons] at h1 ⊢;omega,fun w hw=>?_⟩
    rcases List.mem_cons.mp hw with rfl | hw
    ·have:=h2 v List.mem_cons_self
     rw [List.length_cons];omega
    ·have:=h2 w (List.mem_cons_of_mem _ hw);omega
end Mk
namespace L2
open PySem PySem.Spec PyProof.Rows
theorem nc (c:Nat):∀ (ls:List (List Nat)),(tx [c]).join (ls.map tx)=tx (Mk.dJ c ls)
 | []=>rfl
 | [w]=>by rfl
 | w::v::ws=>by
  have ih:=nc c (v::ws)
  show tx w++tx [c]++(tx [c]).join ((v::ws).map tx)=tx (w++c::Mk.dJ c (v::ws))
  rw [ih,kh,kh,List.append_assoc]
  rfl
theorem CP (ls:List Str):(ls.map fun z=>z.cps.toList).map tx=ls:=by
 rw [List.map_map]
 conv=>rhs;rw [← List.map_id ls]
 exact List.map_congr_left fun z _=>oI z
theorem zp (l:List Nat) (c:Nat):Txt.split (tx l) (tx [c])=(Mk.bh c l).map tx:=by
 have h1:=StrLaws.join_split (tx l) (tx [c])
 have h2:∀ p∈Txt.split (tx l) (tx [c]),c ∉ p.cps.toList:=fun p hp=>StrLaws.split_free (tx l) c p hp
 have h3:=PyProof.Rows.split_pos (tx l) (tx [c])
 generalize Txt.split (tx l) (tx [c])=ps at h1 h2 h3
 rw [← CP ps] at h1 ⊢
 rw [nc] at h1
 rw [← tJ h1,Mk.iF]
 ·intro e
  have:=congrArg List.length e
  simp at this
  rw [this] at h3
  simp at h3
 ·intro w hw
  obtain ⟨p,hp,rfl⟩:=List.mem_map.mp hw
  exact h2 p hp
def yZ:V->List V->Hp->VK->Prop:=fun x vs H Q=>match x,vs with
 | .str z,[.str y]=>z.length<=100000/\∃ c,y=tx [c]/\nw H (.lst ((Mk.bh c z.cps.toList).map fun w=>.str (tx w))) Q
 | _,_=>False
theorem oN:∀ (l:List (Str × Tok)),Vals ((l.map fun p=>p.1).map V.str) (strValues l)
 | []=>.nil
 | p::l=>.cons ⟨p.2,rfl⟩ (oN l)
theorem tm {prog:Program}{w:World}{A:Around}{E:Value->Shared->Prop}{s:Shared}{x y:Str}{t u:Tok}{Q:Value->Shared->Prop} (hy:(y.length == 0)=false) (hsz:x.length + 2<=sizeLine)
  (h:∀ (l:List (Str × Tok)) (k:Nat),l.map (fun p=>p.1)=Txt.split x y->Q (.ref s.heap.objs.size) { s with heap:=s.heap.push { cls:=.type "list",data:=.seq (strValues l).toArray },toks:=k }) :
  wpAny (model prog w) A (call (.builtin "str.split") [.str x t,.str y u]) Q E s:=by
 have ex:Txt.split x y=if (decide (x.length < y.length) || decide (Builtin.Str.strKind x < Builtin.Str.strKind y))=true then [x] else if (Builtin.Str.occurrences x y 0 x.length (x.length + 1)).isEmpty=true then [x] else Builtin.Str.partsBetween x (Builtin.Str.occurrences x y 0 x.length (x.length + 1)) y.length:=rfl
 cases h1:(decide (x.length < y.length) || decide (Builtin.Str.strKind x < Builtin.Str.strKind y)) with
 | true =>
  rw [h1,if_pos rfl] at ex
  refine call_meets F.slot_str_split (typeIs_str s x t) F.entry_str_split (F.args_str_split_2 (Value.str x t) (Value.str y u)) (meets_str_split_cannot_occur x y t u h1) ?_
  exact h [(x,_)] _ ex.symm
 | false =>
  rw [h1,if_neg (by decide)] at ex
  cases hf:(Builtin.Str.occurrences x y 0 x.length (x.length + 1)).isEmpty with
  | true =>
   rw [hf,if_pos rfl] at ex
   refine call_meets F.slot_str_split (typeIs_str s x t) F.entry_str_split (F.args_str_split_2 (Value.str x t) (Value.str y u)) (meets_str_split_not_found x y t u h1 hy hf) ?_
   exact h [(x,_)] _ ex.symm
  | false =>
   rw [hf,if_neg (by decide)] at ex
   have hl:=PyProof.Rows.split_le x y
   rw [ex] at hl
   refine call_meets F.slot_str_split (typeIs_str s x t) F.entry_str_split (F.args_str_split_2 (Value.str x t) (Value.str y u)) (meets_str_split_sep x y t u h1 hy hf (by omega) (by omega)) ?_
   show Q _ _
   rw [strsFrom_eq]
   exact h _ _ ((numbered_texts _ _).trans ex.symm)
theorem yy {X:Cx}:MtM X "str.split" yZ:=by
 intro pins s σ H x vs v us Q I rx rv h
 match x,vs,h with
 | .str z,[.str y],h =>
  obtain ⟨hz,c,rfl,q⟩:=h
  obtain ⟨t,rfl⟩:=rx
  obtain ⟨u,rfl,ru⟩:=rv.one
  obtain ⟨t2,rfl⟩:=ru
  have hb:z.length + 2<=sizeLine:=by rw [sizeLine_eq];omega
  refine tm rfl hb fun l k e=>?_
  have e2:l.map (fun p=>p.1)=(Mk.bh c z.cps.toList).map tx:=by rw [e,← zp,oI]
  have hl:(strValues l).length<=z.length + 2:=by
   have:=PyProof.Rows.split_le z (tx [c])
   rw [← e,List.length_map] at this
   rw [show (strValues l).length=l.length from List.length_map ..]
   exact this
  have r:=oN l
  rw [e2,List.map_map] at r
  refine ⟨.ref s.heap.objs.size,_,I.laid (t':=k) (o:=.lst ((Mk.bh c z.cps.toList).map fun w=>.str (tx w))) (fun b ob q=>Heap.get?_push_of_some _ q) (Nat.le_refl _) ?_,rfl,q.go _ (I.hok.fresh (Nat.le_refl _))⟩
  refine ⟨?_,_,0,r,Heap.get?_push_size _ rfl⟩
  have:=r.length
  rw [show ((Mk.bh c z.cps.toList).map fun w=>V.str (tx w))=(Mk.bh c z.cps.toList).map (V.str ∘ tx) from rfl,this]
  omega
end L2

namespace L2
open PySem PySem.Spec PyProof.Rows
theorem lP {i j}{H:Hp}{Q:VK}:uM (.int i) (.int j) H Q=(Q (.int (i + j)) H):=propext Iff.rfl
theorem lQ {a b}{H:Hp}{Q:VK}:uM (.str a) (.str b) H Q=(a.length + b.length<=sizeLine/\Q (.str (a++b)) H):=propext Iff.rfl
theorem lR {l b}{H:Hp}{Q:VK}:uM (.ref l) (.ref b) H Q=(∃ xs zs,H l=some (.lst xs)/\H b=some (.lst zs)/\xs.length + zs.length<=sizeLine/\nw H (.lst (xs++zs)) Q):=propext Iff.rfl
theorem mj {i j}{H:Hp}{Q:VK}:By (.int i) (.int j) H Q=(Q (.int (i - j)) H):=propext Iff.rfl
theorem md {i j}{H:Hp}{Q:VK}:Bt (.int i) (.int j) H Q=(BJ i j/\Q (.int (i * j)) H):=propext Iff.rfl
theorem kq {i j}{H:Hp}{Q:VK}:yS (.int i) (.int j) H Q=((0 < j/\j < 2 ^ 1000)/\Q (.int (i / j)) H):=propext Iff.rfl
theorem ma {i j}{H:Hp}{Q:VK}:Bs (.int i) (.int j) H Q=(0 < j/\Q (.int (i % j)) H):=propext Iff.rfl
theorem me {i j}{H:Hp}{Q:VK}:Bw (.int i) (.int j) H Q=((0<=j/\j<=1000000/\i.natAbs < 2 ^ 64)/\Q (.int (i ^ j.toNat)) H):=propext Iff.rfl
theorem lT {f:Int->Int->Bool}{i j}{H:Hp}{Q:VK}:rA f (.int i) (.int j) H Q=(Q (.bl (f i j)) H):=propext Iff.rfl
theorem nT {K:PySem.W.Frag}{i j}{H:Hp}{Q:VK}:Dv K (.int i) (.int j) H Q=(Q (.bl (decide (j<=i))) H):=propext Iff.rfl
theorem nQ {K:PySem.W.Frag}{i j}{H:Hp}{Q:VK}:yR K (.int i) (.int j) H Q=(Q (.bl (decide (i=j))) H):=propext Iff.rfl
theorem nR {K:PySem.W.Frag}{i j}{H:Hp}{Q:VK}:yR K (.str i) (.str j) H Q=(Q (.bl (decide (i=j))) H):=propext Iff.rfl
theorem nS {K:PySem.W.Frag}{a b}{H:Hp}{Q:VK}:yR K (.ref a) (.ref b) H Q=(∃ xs ys,SqL K H a xs/\SqL K H b ys/\xs.all cg=true/\ys.all cg=true/\Q (.bl (jr xs ys)) H):=propext Iff.rfl
theorem nX {K:PySem.W.Frag}{i j}{H:Hp}{Q:VK}:yW K (.int i) (.int j) H Q=(Q (.bl (!decide (i=j))) H):=propext Iff.rfl
theorem nY {K:PySem.W.Frag}{i j}{H:Hp}{Q:VK}:yW K (.str i) (.str j) H Q=(Q (.bl (!decide (i=j))) H):=propext Iff.rfl
theorem nZ {K:PySem.W.Frag}{a b}{H:Hp}{Q:VK}:yW K (.ref a) (.ref b) H Q=(∃ xs ys,SqL K H a xs/\SqL K H b ys/\xs.all cg=true/\ys.all cg=true/\Q (.bl (!jr xs ys)) H):=propext Iff.rfl
theorem nV {K:PySem.W.Frag}{p i}{H:Hp}{Q:VK}:AD K (.ref p) (.int i) H Q=(∃ xs v,Sq K H p xs/\atI xs i=some v/\Q v H):=propext Iff.rfl
theorem nW {K:PySem.W.Frag}{z i}{H:Hp}{Q:VK}:AD K (.str z) (.int i) H Q=(z.length<=sizeLine/\∃ c,atI z.cps.toList i=some c/\Q (.str ⟨#[c]⟩) H):=propext Iff.rfl
theorem lW {K:PySem.W.Frag}{z}{H:Hp}{Q:VK}:uP K [.str z] H Q=(z.length<=sizeLine/\Q (.int z.length) H):=propext Iff.rfl
theorem lX {K:PySem.W.Frag}{p}{H:Hp}{Q:VK}:uP K [.ref p] H Q=(∃ xs,Sq K H p xs/\Q (.int xs.length) H):=propext Iff.rfl
theorem lO {i}{H:Hp}{Q:VK}:Bo [.int i] H Q=(Q (.int (i.natAbs:Int)) H):=propext Iff.rfl
theorem lZ {i j}{H:Hp}{Q:VK}:Br [.int i,.int j] H Q=(Q (.int (min i j)) H):=propext Iff.rfl
theorem lY {i j}{H:Hp}{Q:VK}:Bq [.int i,.int j] H Q=(Q (.int (max i j)) H):=propext Iff.rfl
theorem kx {K:PySem.W.Frag}{a}{H:Hp}{Q:VK}:sX K [.ref a] H Q=(∃ ys,(Sq K H a ys ∨ ∃ lo hi,H a=some (.rng lo hi)/\(-(2 ^ 62)<=lo/\lo < 2 ^ 62/\-(2 ^ 62)<=hi/\hi < 2 ^ 62)/\(hi - lo).toNat<=2 ^ 20/\ys=pO lo (hi - lo).toNat)/\nw H (.lst ys) Q):=propext Iff.rfl
theorem mf {j}{H:Hp}{Q:VK}:Bx [.int j] H Q=(nw H (.rng 0 j) Q):=propext Iff.rfl
theorem lU {c:Tg}{x n}{H:Hp}{Q:VK}:Bp c [x,.ty n] H Q=(n=c.name/\∃ t,eO H x=some t/\Q (.bl (t.sub c)) H):=propext Iff.rfl
theorem oa {K:PySem.W.Frag}{a}{lo}{hi}{H:Hp}{Q:VK}:CH K (.ref a) lo hi H Q=(∃ xs,SqL K H a xs/\nw H (.lst (kO xs lo hi)) Q):=propext Iff.rfl
theorem ku {K:PySem.W.Frag}{z p}{H:Hp}{Q:VK}:sW K (.str z) [.ref p] H Q=(∃ ys:List Str,SqL K H p (ys.map V.str)/\(ys.map (·.length)).sum + ys.length * z.length<=16777216/\Q (.str (Txt.join z ys)) H):=propext Iff.rfl
theorem ky {z y}{H:Hp}{Q:VK}:yZ (.str z) [.str y] H Q=(z.length<=100000/\∃ c,y=tx [c]/\nw H (.lst ((Mk.bh c z.cps.toList).map fun w=>.str (tx w))) Q):=propext Iff.rfl
theorem mh {P:Program}{w:World}{z}{H:Hp}{Q:VK}:yX P w [.str z] H Q=(z.length<=4000/\∀ p H',H p=none->ak H H'->H' p=some (tf P w p (bU (gq z) z.length))->Q (.ref p) H'):=propext Iff.rfl
theorem lV {P:Program}{w:World}{p}{H:Hp}{Q:VK}:yU P w [.ref p] H Q=(∃ l,H p=some (tf P w p l)/\Q (.int l.length) H):=propext Iff.rfl
theorem lL {K:PySem.W.Frag}{a:Addr}{H:Hp}{R:It->Hp->Prop}:uD K (.ref a) H R=(((∃ xs,SqL K H a xs)/\R (Itl K a) H) ∨ ((∃ xs,SqT K H a xs)/\R (Itt K a) H)):=propext Iff.rfl
theorem lN {K:PySem.W.Frag}{z:Str}{H:Hp}{R:It->Hp->Prop}:uD K (.str z) H R=R (Itx z) H:=propext Iff.rfl
end L2

namespace L2
open PySem PySem.Spec PyProof.Rows
section
variable {X:Cx}
end
section
variable {X:Cx}{tg:Expr}
end
def Iti (ob:Obj) (a:Addr) (kvs:List (Key × V)):It :=
 ⟨fun i H=>i < kvs.length/\H a=some (.frz ob (.dK kvs)),
  fun i H v H'=>∃ k x p,kvs[i]?=some (k,x)/\v=.ref p/\H p=none/\H'=upd H p (.tup [kV k,x]),
  fun i H=>kvs.length<=i/\H a=some (.frz ob (.dK kvs))⟩
theorem uR {k:Key}{v:Value} (h:ip k v=true):RelV (kV k) v:=by
 rcases bD h with ⟨i,t,rfl,rfl⟩ | ⟨x,t,rfl,rfl⟩
 ·exact ⟨t,rfl⟩
 ·exact ⟨t,rfl⟩
theorem yk {kvs:List (Key × V)}{vs:List (Key × Value)} (r:KV kvs vs):∀ {i:Nat}{p:Key × V},kvs[i]?=some p->∃ q,vs[i]?=some q/\p.1=q.1/\RelV p.2 q.2:=by
 unfold KV at r
 induction r with
 | nil=>intro i p h;simp at h
 | @cons a b as bs h t ih =>
  intro i p hp
  cases i with
  | zero =>
   rw [List.getElem?_cons_zero] at hp
   cases hp
   exact ⟨b,rfl,h⟩
  | succ i=>exact ih (by simpa using hp)
theorem iT:entryFor table "dict_itemiterator.__iter__"=some Builtin.«dict_keyiterator.__iter__»:=entryFor_alias (id':="dict_keyiterator.__iter__") (by kernel_rfl) (by kernel_rfl) (by kernel_rfl) (by kernel_rfl)
theorem ny {prog:Program}{w:World}{A:Around}{E:Value->Shared->Prop}{s:Shared}{it d:Addr}{i n ep:Nat}{ok ov:Value}{Q:Value->Shared->Prop} (st:IsItemIter s.heap it d i n ep ok ov) (h:Q (.ref it) s):wpAny (model prog w) A (pyIter (.ref it)) Q E s:=by
 have hT:s.TypeIs (.ref it) "dict_itemiterator":=⟨_,st,rfl⟩
 refine wpAny_pyIter_slot hT F.slot_dict_itemiterator_iter (wpAny_call_entry F.slot_dict_itemiterator_iter hT iT ?_ (F.args_dict_itemiterator_iter_1 (Value.ref it)))
 exact wpAny_pure ⟨.ref it,rfl,"dict_itemiterator",.builtin "dict_itemiterator.__next__",hT,F.slot_dict_itemiterator_next.lookup,h⟩
theorem qM {P:Program}{w:World}{H:Hp}{h:Heap}{a:Addr}{ob:Obj}{kvs:List (Key × V)}{es:Array DictEntry}{ep:Nat} (x:HOk P w H h) (e:H a=some (.frz ob (.dK kvs))) (hd:ob.data=.dict es ep) :
  ∃ vs,KV kvs vs/\h.DictAt (aI P w) a vs ep:=by
 obtain ⟨h1,_,_,vs,r,o,es',ep',h2,h3,h4,h5⟩:=(show aS P w H h a (.frz ob (.dK kvs)) from x a _ e)
 have:o=ob:=Option.some.inj (h2.symm.trans h1)
 subst this
 rw [hd] at h4
 injection h4 with e1 e2
 subst e1 e2
 exact ⟨vs,r,o,es,h2,h3,hd,h5⟩
theorem tF {P:Program}{w:World}{K:PySem.W.Frag}{elts:List Expr}{k:Nat}{pos:Pos} (ob:Obj) (a it:Addr) (kvs:List (Key × V)) (es:Array DictEntry) (ep:Nat) (hd:ob.data=.dict es ep):Turn P w K (.Tuple elts k pos) (Iti ob a kvs) [it] it
  (fun i h=>∃ ok ov,IsItemIter h it a i kvs.length ep ok ov) where
 mem:=by simp
 obj:=fun i h st b hb=>by
  obtain rfl:b=it:=by simpa using hb
  obtain ⟨ok,ov,st⟩:=st
  exact ⟨_,st,fun v z=>by have z':Data.fields _=Data.cell v:=z;cases z'⟩
 keep:=fun i h h' st k=>by
  obtain ⟨ok,ov,st⟩:=st
  exact ⟨ok,ov,k it (by simp) _ st⟩
 item:=by
  intro X hP hw hK hc i pins s σ H E I hf st hg
  subst hP hw hK
  obtain ⟨hi,hH⟩:=hg
  obtain ⟨ok,ov,st⟩:=id st
  obtain ⟨vs,r,dd⟩:=qM I.hok hH hd
  have hl:kvs.length=vs.length:=Paired.length r
  obtain ⟨⟨k1,x⟩,hk⟩:∃ p,kvs[i]?=some p:=⟨_,List.getElem?_eq_getElem hi⟩
  obtain ⟨⟨k2,u⟩,hu,hke,ru⟩:∃ q:Key × Value,vs[i]?=some q/\k1=q.1/\RelV x q.2:=by
   obtain ⟨q,h1,h2⟩:=yk r hk
   exact ⟨q,h1,h2.1,h2.2⟩
  have hke:k1=k2:=hke
  subst hke
  rw [hl] at st
  refine wpAny_pyNext_items_item st dd hu fun key h' kk0 a1 a3 a4 a5=>?_
  refine ⟨_,rfl,wpAny_letOwnedTupleGo_items (s:={ s with heap:=h' }) a1 fun h'' b1 b2=>?_⟩
  have b2':Heap.SameBut it h' h'':=b2
  have ne:it < s.heap.objs.size:=Heap.lt_size st
  have kk:∀ c o,c ∉ [it]->s.heap.get? c=some o->h''.get? c=some o:=fun c o hc e=>by
   have hc':c≠it:=by simpa using hc
   exact (b2'.2 c hc').trans (a5 c o hc' e)
  have hT:h''.get? s.heap.objs.size=some { cls:=.type "tuple",data:=.seq #[key,u] }:=(b2'.2 _ (Nat.ne_of_gt ne)).trans a3
  have I1:Inv X pins σ (upd H s.heap.objs.size (.tup [kV k1,x])) { s with heap:=h'' }:=by
   refine I.vb (t':=s.toks) (ch:=[it]) hf kk (fun c o ee=>?_) (Nat.le_refl _) (show aS X.prog X.w _ h'' _ (.tup [kV k1,x]) from ⟨by show 2<=sizeLine;decide,[key,u],.cons (uR kk0) (.cons ru .nil),⟨_,hT,rfl,_,rfl⟩⟩)
   by_cases hc:c∈[it]
   ·obtain rfl:c=it:=by simpa using hc
    exact ⟨_,b1⟩
   ·exact ⟨_,kk c o hc ee⟩
  refine ⟨.ref s.heap.objs.size,_,I1,rfl,⟨k1,x,_,hk,rfl,I.hok.fresh (Nat.le_refl _),rfl⟩,⟨_,_,by rw [hl];exact b1⟩,fun c hc=>?_⟩
  obtain rfl:c=it:=by simpa using hc
  rw [aj (Nat.ne_of_lt ne)];exact (hf _ (by simp)).1
 done:=by
  intro X hP hw hK hc i pins s σ H E I hf st hg
  subst hP hw hK
  obtain ⟨hi,hH⟩:=hg
  obtain ⟨ok,ov,st⟩:=id st
  obtain ⟨vs,r,dd⟩:=qM I.hok hH hd
  have hl:kvs.length=vs.length:=Paired.length r
  rw [hl] at st
  refine wpAny_pyNext_items_end (I.ok.hd hc) st dd (List.getElem?_eq_none (by omega)) fun h' kk=>⟨rfl,I.va (t':=s.toks) (ch:=[it]) hf fun c o hc e=>?_⟩
  exact kk c o (by simpa using hc) e
 self:=fun _ _ _ _ _ st h=>by
  obtain ⟨ok,ov,st⟩:=st
  exact ny st h
def ni (p d:Addr):HO:=.ext fun h=>h.IsItemsView p d
theorem zF {P:Program}{w:World}{H:Hp}{h:Heap}{p d:Addr} (x:h.IsItemsView p d):aS P w H h p (ni p d):=by
 refine ⟨x,?_,fun h1 h2 y k=>?_⟩
 ·obtain ⟨o,e,_⟩:=x;exact ⟨o,e⟩
 ·obtain ⟨o,e,r⟩:=y;exact ⟨o,k o e,r⟩
def yT:V->List V->Hp->VK->Prop:=fun x vs H Q=>match x,vs with
 | .ref d,[]=>∃ kvs,H d=some (.dK kvs)/\∀ p H',H p=none->ak H H'->H' p=some (ni p d)->Q (.ref p) H'
 | _,_=>False
theorem nU {d:Addr}{H:Hp}{Q:VK}:yT (.ref d) [] H Q=(∃ kvs,H d=some (.dK kvs)/\∀ p H',H p=none->ak H H'->H' p=some (ni p d)->Q (.ref p) H'):=propext Iff.rfl
theorem yu {X:Cx}:MtM X "dict.items" yT:=by
 intro pins s σ H x vs v us Q I rx rv h
 match x,vs,h with
 | .ref d,[],h =>
  obtain ⟨kvs,hd,q⟩:=h
  cases rx
  obtain rfl:=rv.zero
  obtain ⟨z,hs,xs,rel,dd⟩:=qG I.hok hd
  have hT:s.TypeIs (.ref d) "dict":=by obtain ⟨o,_,_,e,ex,_⟩:=dd;exact ⟨o,e,ex.1⟩
  refine call_meetsIn F.slot_dict_items hT F.entry_dict_items (F.args_dict_items_1 _) (meets_dict_items (aI X.prog X.w) d hs) ⟨⟨xs,dd⟩,?_⟩
  have hn:=I.hok.fresh (Nat.le_refl s.heap.objs.size)
  refine ⟨.ref s.heap.objs.size,_,I.laid (t':=s.toks) (o:=ni s.heap.objs.size d) (fun b ob q=>Heap.get?_push_of_some _ q) (Nat.le_refl _) (zF ⟨_,Heap.get?_push_size _ rfl,rfl,rfl⟩),rfl,q _ _ hn (cH hn) aq⟩
def Bj (te:TE):TI:=fun σ H R=>te σ H fun x H1=>∃ p a kvs,x=.ref p/\H1 p=some (ni p a)/\H1 a=some (.dK kvs)/\∀ ob H2,(∀ b o,b≠a->H1 b=some o->H2 b=some o)->H2 a=some (.frz ob (.dK kvs))->R (Iti ob a kvs) H2
theorem qk {te:TE}{σ:St}{H:Hp}{R:It->Hp->Prop}:Bj te σ H R=te σ H fun x H1=>∃ p a kvs,x=.ref p/\H1 p=some (ni p a)/\H1 a=some (.dK kvs)/\∀ ob H2,(∀ b o,b≠a->H1 b=some o->H2 b=some o)->H2 a=some (.frz ob (.dK kvs))->R (Iti ob a kvs) H2:=propext Iff.rfl
theorem Az {X:Cx}{elts:List Expr}{k:Nat}{tpos:Pos}{l:Expr}{tl:TE} (hl:PE X l tl):PI X (.Tuple elts k tpos) l (Bj tl):=by
 intro pins s σ H R I h
 refine thn (hl pins s σ H _ I h) fun v s1 ⟨x,H1,I1,r1,q1⟩=>?_
 obtain ⟨p,a,kvs,rfl,hp,ha,q⟩:=q1
 cases r1
 have hv:s1.heap.IsItemsView p a:=(show aS X.prog X.w H1 s1.heap p (ni p a) from I1.hok p _ hp).1
 obtain ⟨z,hs,vs,rel,ob,es,ep,e1,e2,e3,e4⟩:=qG I1.hok ha
 have hl':kvs.length=vs.length:=Paired.length rel
 have dd:s1.heap.DictAt (aI X.prog X.w) a vs ep:=⟨ob,es,e1,e2,e3,e4⟩
 refine wpAny_pyIter_items hv dd ?_
 have I2:Inv X pins σ (upd H1 a (.frz ob (.dK kvs))) s1:=I1.write (x:=a) (e:=a) (h':=s1.heap) (t':=s1.toks) (o:=.frz ob (.dK kvs)) (by rw [ha];exact True.intro) (.inl rfl) (fun _ _ _ e=>e) ⟨ob,e1⟩ ⟨e1,z,hs,vs,rel,ob,es,ep,e1,e2,e3,e4⟩
 have I3:Inv X pins σ (upd H1 a (.frz ob (.dK kvs))) { s1 with heap:=s1.heap.push { cls:=.type "dict_itemiterator",data:=.fields #[.none,.bool false,.ref a,.int 0 0,.int (vs.length:Int) 0,.int (ep:Int) 0,.none,.none] } }:=I2.kept (t':=s1.toks) fun b o e=>Heap.get?_push_of_some _ e
 refine ⟨s1.heap.objs.size,[s1.heap.objs.size],_,_,_,rfl,I3,tF ob a s1.heap.objs.size kvs es ep e3,⟨.none,.none,?_⟩,fun b hb=>?_,q ob _ (fun b o hb e=>by rw [aj hb];exact e) aq⟩
 ·rw [hl']
  exact Heap.get?_push_size _ rfl
 ·obtain rfl:b=s1.heap.objs.size:=by simpa using hb
  exact I2.mx (Nat.le_refl _) (I2.hok.fresh (Nat.le_refl _))
theorem xN {ob:Obj}{a:Addr}{kvs:List (Key × V)}{g:TG}{tb:TS}{D:Ends}{σ:St}{H:Hp} (Pv:Nat->St->Hp->Prop) (h0:Pv 0 σ H) (hl:∀ i σ H,i<=kvs.length->Pv i σ H->H a=some (.frz ob (.dK kvs)))
  (hs:∀ i k x σ H,kvs[i]?=some (k,x)->Pv i σ H->∀ N:St->Hp->Prop,(∀ σ' H',Pv (i + 1) σ' H'->N σ' H')->∀ p H',H p=none->ak H H'->H' p=some (.tup [kV k,x])->g (.ref p) σ H' fun σ2 H2=>tb { D with nx:=N,ct:=N,bk:=D.nx } σ2 H2) (hd:∀ σ H,Pv kvs.length σ H->D.nx σ H):gr g tb D (Iti ob a kvs) σ H:=by
 refine ⟨fun i m σ H=>i + m=kvs.length/\Pv i σ H,⟨kvs.length,by omega,h0⟩,fun i m σ H hw=>?_⟩
 obtain ⟨e,hp⟩:=hw
 have hL:=hl i σ H (by omega) hp
 by_cases hm:m=0
 ·subst hm
  have:i=kvs.length:=by omega
  subst this
  exact .inl ⟨⟨Nat.le_refl _,hL⟩,hd σ H hp⟩
 ·refine .inr ⟨⟨by omega,hL⟩,Pv (i + 1),fun σ' H' n=>⟨m - 1,by omega,by omega,n⟩,fun v H' hy=>?_⟩
  obtain ⟨k,x,p,h1,rfl,h2,rfl⟩:=hy
  exact hs i k x σ H h1 hp _ (fun _ _ h=>h) p _ h2 (cH h2) aq
section
variable {X:Cx}
theorem tQ {td ty:TE}{σ:St}{H:Hp}{Q:VK}:zu td ty σ H Q=td σ H fun x H1=>ty σ H1 fun y H2=>∃ a v,x=.ref a/\gc H2 a y (some v)/\Q v H2:=propext Iff.rfl
theorem qf {td ty:TE}{σ:St}{H:Hp}{Q:VK}:tE td ty σ H Q=td σ H fun x H1=>∃ a,x=.ref a/\IsD H1 a/\ty σ H1 fun y H2=>∃ o,gc H2 a y o/\Q (o.getD .non) H2:=propext Iff.rfl
theorem j7 {o i:Expr}{td ty:TE}{pos:Pos} (hu:X.A.units + 1 < cLine) (ho:PE X o td) (hi:PE X i ty) (hs:zK i:=by exact fun _ _=>rfl):PE X (.Subscript o i pos) (zu td ty):=Ax hu ho hi hs
theorem oz {o e:Expr}{td ty:TE}{apos cpos:Pos} (hu:X.A.units + 1 < cLine) (ho:PE X o td) (he:PE X e ty) (hbase:attributeBase o "get" X.env (eval o X.env)=eval o X.env:=by kernel_rfl) (hs:bY [e]=true:=by kernel_rfl)
  (hline:(apos.endLine == cpos.line)=true:=by kernel_rfl) (htr:backTo cpos (starEach [e] X.env)=[(false,eval e X.env)]:=by rfl):PE X (.Call (.Attribute o "get" apos) [e] [] cpos) (tE td ty):=by
 refine yE hu ho he ⟨hbase,?_,hline,htr⟩
 rw [iY hs]
 rfl
theorem Av {K:PySem.W.Frag}{o:Expr}{to:TE}{name:Str}{apos cpos:Pos}{T id:String}{r:V->List V->Hp->VK->Prop} (hK:X.K=K) (pa:PlainAttrs T) (slot:Slot T name id) (hty:typeOf (.builtin id)=pure (.type "method_descriptor"))
  (hm:MtR X id r) (ho:PE X o to) (hbase:attributeBase o name X.env (eval o X.env)=eval o X.env:=by kernel_rfl) (hline:(apos.endLine == cpos.line)=true:=by kernel_rfl):PE X (.Call (.Attribute o name apos) [] [] cpos) (CJ K T r to) :=
 hK ▸ C6 pa slot hty hm ho hbase hline
end
end L2

namespace Mk
end Mk

namespace L2
open PySem PySem.Spec PyProof.Rows
def Bk:V->Bool
 | .ref _=>true
 | x=>cg x
theorem jq:∀ {x:V},cg x=true->eqV x x=true
 | .non,_=>rfl
 | .bl b,_=>by show (b == b)=true;simp
 | .int i,_=>by show (i == i)=true;simp
 | .str z,_=>by show (z == z)=true;simp
theorem vD {A:Around}{s:Shared}{x:V}{u v:Value} (ru:RelV x u) (rv:RelV x v) (h:Bk x=true):SeqAt.EqAt A s u v true:=by
 cases x with
 | ref a=>cases ru;cases rv;exact SeqAt.EqAt.same _
 | non=>have:=ja (A:=A) (s:=s) ru rv rfl rfl;rwa [jq rfl] at this
 | bl b=>have:=ja (A:=A) (s:=s) ru rv rfl rfl;rwa [jq rfl] at this
 | int b=>have:=ja (A:=A) (s:=s) ru rv rfl rfl;rwa [jq rfl] at this
 | str b=>have:=ja (A:=A) (s:=s) ru rv rfl rfl;rwa [jq rfl] at this
 | _=>cases h
theorem bO {xs:List V}{us:List Value} (r:Vals xs us) {j:Nat} (h:j < us.toArray.size):∃ x,xs[j]?=some x/\RelV x us.toArray[j]:=by
 have l:=r.length
 rw [List.size_toArray] at h
 have e1:xs[j]?=some (xs[j]'(by omega)):=List.getElem?_eq_getElem _
 obtain ⟨u,hu,ru⟩:=r.get e1
 refine ⟨_,e1,?_⟩
 have:us.toArray[j]=u:=by
  have:=List.getElem?_eq_some_iff.mp hu
  simpa using this.2
 rw [this];exact ru
section
variable {X:Cx}
end
theorem pe {J:It}{H1:Hp}{xs:List V}{js:List Nat}{σ:St}{tc:TT}{te:TE}{Q:VK} (hc:∀ σ H R,R true H->tc σ H R) (hJ:J.Seq H1 xs) (hl:xs.length < sizeLine) (G:HO->Prop) (hG:∀ ys,¬ G (.lst ys))
  (he:∀ x∈xs,∀ H,ak H1 H->∀ R:VK,(∀ p o H',ak H H'->H' p=some o->G o->R (.ref p) H')->te (some x::js.map fun j=>(σ[j]?).join) H R)
  (q:∀ D vs H,H1 D=none->ak H1 H->H D=some (.lst vs)->vs.length=xs.length->(∀ v∈vs,∃ p o,v=.ref p/\H p=some o/\G o)->Q (.ref D) H):dm (eh 0) tc te (ef 1 js σ) J H1 Q:=by
 intro D hD
 refine ⟨fun i m ys σ1 H=>m=xs.length - i/\i<=xs.length/\(∃ o,σ1=o::js.map fun j=>(σ[j]?).join)/\ys.length=i/\(∀ v∈ys,∃ p o,v=.ref p/\H p=some o/\G o)/\ak H1 H/\H D=some (.lst ys),
  ⟨xs.length,by simp,Nat.zero_le _,⟨none,rfl⟩,rfl,(fun v hv=>nomatch hv),(ak.refl H1).dr hD,aq⟩,?_⟩
 rintro i m ys σ1 H ⟨rfl,hi,⟨o,rfl⟩,hy,hg,sH,hL⟩
 refine ⟨hL,by omega,?_⟩
 by_cases hlt:i < xs.length
 ·have e:xs[i]?=some xs[i]:=List.getElem?_eq_getElem hlt
  obtain ⟨go,yl⟩:=(hJ H sH).1 i xs[i] e
  refine .inr ⟨go,fun x H' y=>?_⟩
  obtain ⟨e1,e2⟩:=yl x H' y
  subst e1 e2
  have hm:xs[i]∈xs:=List.getElem_mem hlt
  show tc (some xs[i]::js.map fun j=>(σ[j]?).join) H' _
  refine hc _ _ _ ?_
  rw [if_pos rfl]
  refine he xs[i] hm H' sH _ fun p o' H4 s4 hp hgo=>?_
  have hL4:=s4 _ _ hL
  have nD:∀ {b:Addr}{u:HO},H4 b=some u->G u->b≠D:=fun hb hu ee=>by
   subst ee;rw [hL4] at hb;cases hb;exact hG _ hu
  refine ⟨hL4,xs.length - (i + 1),by omega,rfl,hlt,⟨_,rfl⟩,by rw [List.length_append,hy];rfl,fun v hv=>?_,((sH.trans s4)).dr hD,aq⟩
  rcases List.mem_append.mp hv with hv | hv
  ·obtain ⟨b,u,rfl,hb,hu⟩:=hg v hv
   have hb4:=s4 _ _ hb
   exact ⟨b,u,rfl,by rw [aj (nD hb4 hu)];exact hb4,hu⟩
  ·rw [List.mem_singleton.mp hv]
   exact ⟨p,o',rfl,by rw [aj (nD hp hgo)];exact hp,hgo⟩
 ·have e:i=xs.length:=by omega
  subst e
  exact .inl ⟨(hJ H sH).2 _ (Nat.le_refl _),q D ys H hD sH hL hy hg⟩
end L2

namespace L2
section
variable {α:Type} [DecidableEq α]
abbrev Nk (α:Type):=α × Bool
structure Ent (α:Type) where
 key:Nk α
 d:Int
 par:Option (Nk α)
 t:Nat
def sU (fs:List (Ent α)) (e:Ent α):List (Ent α):=if fs.any (fun x=>x.key == e.key) then fs.map (fun x=>if x.key == e.key then e else x) else fs++[e]
theorem eX {fs:List (Ent α)}{e x:Ent α}:x∈sU fs e ↔ x=e ∨ (x∈fs/\x.key≠e.key):=by
 unfold sU
 split
 ·rename_i h
  obtain ⟨y,hy,hk⟩:=List.any_eq_true.mp h
  rw [List.mem_map]
  constructor
  ·rintro ⟨z,hz,rfl⟩
   split
   ·exact .inl rfl
   ·rename_i hn
    exact .inr ⟨hz,fun q=>hn (by simp [q])⟩
  ·rintro (rfl | ⟨hx,hn⟩)
   ·exact ⟨y,hy,by rw [if_pos hk]⟩
   ·exact ⟨x,hx,by rw [if_neg (by simpa using hn)]⟩
 ·rename_i h
  have h':∀ y∈fs,y.key≠e.key:=fun y hy q=>h (List.any_eq_true.mpr ⟨y,hy,by simp [q]⟩)
  rw [List.mem_append,List.mem_singleton]
  constructor
  ·rintro (hx | rfl)
   ·exact .inr ⟨hx,h' x hx⟩
   ·exact .inl rfl
  ·rintro (rfl | ⟨hx,_⟩)
   ·exact .inr rfl
   ·exact .inl hx
theorem vQ (fs:List (Ent α)) (e:Ent α):(sU fs e).map Ent.key=fs.map Ent.key ∨ ((sU fs e).map Ent.key=fs.map Ent.key++[e.key]/\e.key ∉ fs.map Ent.key):=by
 unfold sU
 split
 ·left
  rw [List.map_map]
  apply List.map_congr_left
  intro x _
  show (if x.key == e.key then e else x).key=x.key
  split
  ·rename_i h;exact (eq_of_beq h).symm
  ·rfl
 ·rename_i h
  right
  refine ⟨by simp,fun q=>?_⟩
  obtain ⟨y,hy,hk⟩:=List.mem_map.mp q
  exact h (List.any_eq_true.mpr ⟨y,hy,by simp [hk]⟩)
theorem sI {fs:List (Ent α)}{e:Ent α} (h:(fs.map Ent.key).Nodup):((sU fs e).map Ent.key).Nodup:=by
 rcases vQ fs e with q | ⟨q,n⟩
 ·rw [q];exact h
 ·rw [q,List.nodup_append]
  exact ⟨h,by simp,fun a ha b hb=>by rw [List.mem_singleton.mp hb];exact fun z=>n (z ▸ ha)⟩
structure Dij (St:Nk α->List (Nk α × Int)) (C:Nk α->Nk α × Int->Prop) (u0:Nk α) (fs ss:List (Ent α)):Prop where
 nf:(fs.map Ent.key).Nodup
 sub:∀ e∈ss,e∈fs
 ns:(ss.map Ent.key).Nodup
 st:∃ e∈fs,e.key=u0/\e.d=0
 nn:∀ e∈fs,0<=e.d
 cl:∀ e∈ss,∀ p,C e.key p->∃ e'∈fs,e'.key=p.1/\e'.d<=e.d + p.2
 pa:∀ e∈fs,(e.par=none/\e.key=u0/\e.d=0) ∨ ∃ u∈ss,∃ c,e.par=some u.key/\(e.key,c)∈St u.key/\e.d=u.d + c
 od:∀ e∈ss,∀ e'∈fs,e' ∉ ss->e.d<=e'.d
 rk:∀ pre e post,ss=pre++e::post->(e.par=none/\e.key=u0/\e.d=0) ∨ ∃ u∈pre,∃ c,e.par=some u.key/\(e.key,c)∈St u.key/\e.d=u.d + c
theorem Ag {fs:List (Ent α)} (h:(fs.map Ent.key).Nodup) {x y:Ent α} (hx:x∈fs) (hy:y∈fs) (e:x.key=y.key):x=y:=by
 induction fs with
 | nil=>cases hx
 | cons z r ih =>
  rw [List.map_cons,List.nodup_cons] at h
  rcases List.mem_cons.mp hx with rfl | hx
  ·rcases List.mem_cons.mp hy with rfl | hy
   ·rfl
   ·exact absurd (List.mem_map.mpr ⟨y,hy,e.symm⟩) h.1
  ·rcases List.mem_cons.mp hy with q | hy
   ·exact absurd (List.mem_map.mpr ⟨x,hx,by rw [← q];exact e⟩) h.1
   ·exact ih h.2 hx hy
theorem Dij.start (St:Nk α->List (Nk α × Int)) (C:Nk α->Nk α × Int->Prop) (u0:Nk α) (t:Nat):Dij St C u0 [⟨u0,0,none,t⟩] [] where
 nf:=by simp
 sub:=fun e h=>by cases h
 ns:=by simp
 st:=⟨⟨u0,0,none,t⟩,by simp,rfl,rfl⟩
 nn:=fun e h=>by rw [List.mem_singleton.mp h];exact Int.le_refl 0
 cl:=fun e h=>by cases h
 pa:=fun e h=>by rw [List.mem_singleton.mp h];exact .inl ⟨rfl,rfl,rfl⟩
 od:=fun e h=>by cases h
 rk:=fun pre e post h=>by
  have:=congrArg List.length h
  simp at this
theorem Dij.put {St:Nk α->List (Nk α × Int)}{C:Nk α->Nk α × Int->Prop}{u0:Nk α}{fs ss:List (Ent α)} (D:Dij St C u0 fs ss) {e:Ent α} (he:e∈ss) (hm:∀ x∈ss,x.d<=e.d) {q:Nk α × Int} (hq:q∈St e.key) (hc:0<=q.2)
  (hl:∀ x∈fs,x.key=q.1->e.d + q.2 < x.d) (t:Nat):Dij St (fun k p=>C k p ∨ (k=e.key/\p=q)) u0 (sU fs ⟨q.1,e.d + q.2,some e.key,t⟩) ss:=by
 have hns:∀ x∈ss,x.key≠q.1:=fun x hx hk=>by
  have h1:=hl x (D.sub x hx) hk
  have h2:=hm x hx
  omega
 have h0:=D.nn e (D.sub e he)
 refine ⟨sI D.nf,fun x hx=>eX.mpr (.inr ⟨D.sub x hx,hns x hx⟩),D.ns,?_,fun x hx=>?_,fun x hx p hp=>?_,fun x hx=>?_,fun x hx y hy hyn=>?_,D.rk⟩
 ·obtain ⟨x,hx,hk,hd⟩:=D.st
  refine ⟨x,eX.mpr (.inr ⟨hx,fun z=>?_⟩),hk,hd⟩
  have:=hl x hx z
  omega
 ·rcases eX.mp hx with rfl | ⟨h,_⟩
  ·show 0<=e.d + q.2;omega
  ·exact D.nn x h
 ·rcases hp with hp | ⟨h1,rfl⟩
  ·obtain ⟨y,hy,hyk,hyd⟩:=D.cl x hx p hp
   by_cases z:y.key=q.1
   ·refine ⟨_,eX.mpr (.inl rfl),?_,?_⟩
    ·show q.1=p.1;rw [← z,hyk]
    ·show e.d + q.2<=_
     have:=hl y hy z
     omega
   ·exact ⟨y,eX.mpr (.inr ⟨hy,z⟩),hyk,hyd⟩
  ·have:x=e:=Ag D.nf (D.sub x hx) (D.sub e he) h1
   subst this
   exact ⟨_,eX.mpr (.inl rfl),rfl,Int.le_refl _⟩
 ·rcases eX.mp hx with rfl | ⟨h,_⟩
  ·exact .inr ⟨e,he,q.2,rfl,hq,rfl⟩
  ·exact D.pa x h
 ·rcases eX.mp hy with rfl | ⟨h,_⟩
  ·have:=hm x hx
   show x.d<=e.d + q.2;omega
  ·exact D.od x hx y h hyn
theorem Dij.imp {St:Nk α->List (Nk α × Int)}{C C':Nk α->Nk α × Int->Prop}{u0:Nk α}{fs ss:List (Ent α)} (D:Dij St C u0 fs ss) (h:∀ k p,C' k p->C k p):Dij St C' u0 fs ss :=
 ⟨D.nf,D.sub,D.ns,D.st,D.nn,fun x hx p hp=>D.cl x hx p (h _ _ hp),D.pa,D.od,D.rk⟩
inductive Wk (St:Nk α->List (Nk α × Int)) (u:Nk α):Nk α->Int->Prop
 | nil:Wk St u u 0
 | snoc {v x:Nk α}{w c:Int}:Wk St u v w->(x,c)∈St v->Wk St u x (w + c)
theorem Wk.mono {St St':Nk α->List (Nk α × Int)}{u v:Nk α}{w:Int} (h:∀ k p,p∈St k->p∈St' k) (x:Wk St u v w):Wk St' u v w:=by
 induction x with
 | nil=>exact .nil
 | snoc _ m ih=>exact ih.snoc (h _ _ m)
theorem Wk.cons {St:Nk α->List (Nk α × Int)}{u v y:Nk α}{w c:Int} (m:(v,c)∈St u) (x:Wk St v y w):Wk St u y (c + w):=by
 induction x with
 | nil =>
  have:=Wk.snoc (Wk.nil (St:=St) (u:=u)) m
  rw [Int.zero_add] at this
  rw [Int.add_zero];exact this
 | snoc _ m2 ih =>
  have:=ih.snoc m2
  rw [Int.add_assoc] at this;exact this
theorem Wk.symm {St:Nk α->List (Nk α × Int)}{u v:Nk α}{w:Int} (h:∀ k x c,(x,c)∈St k->(k,c)∈St x) (x:Wk St u v w):Wk St v u w:=by
 induction x with
 | nil=>exact .nil
 | snoc _ m ih=>rw [Int.add_comm];exact Wk.cons (h _ _ _ m) ih
structure DU (St:Nk α->List (Nk α × Int)) (u0:Nk α) (ss:List (Ent α)):Prop where
 ns:(ss.map Ent.key).Nodup
 le:∀ v w,Wk St u0 v w->∃ e∈ss,e.key=v/\e.d<=w
 wk:∀ e∈ss,Wk St u0 e.key e.d
 rk:∀ pre e post,ss=pre++e::post->(e.par=none/\e.key=u0/\e.d=0) ∨ ∃ u∈pre,∃ c,e.par=some u.key/\(e.key,c)∈St u.key/\e.d=u.d + c
theorem zG {St:Nk α->List (Nk α × Int)}{u0:Nk α}:∀ (n:Nat) (ss:List (Ent α)),ss.length=n →
  (∀ pre e post,ss=pre++e::post->(e.par=none/\e.key=u0/\e.d=0) ∨ ∃ u∈pre,∃ c,e.par=some u.key/\(e.key,c)∈St u.key/\e.d=u.d + c)->∀ e∈ss,Wk St u0 e.key e.d
 | 0,ss,hl,_,e,he=>by rw [List.length_eq_zero_iff.mp hl] at he;cases he
 | n + 1,ss,hl,h,e,he=>by
  obtain ⟨pre,post,q⟩:=List.append_of_mem he
  rcases h pre e post q with ⟨_,hk,hd⟩ | ⟨u,hu,c,_,hm,hd⟩
  ·rw [hk,hd];exact .nil
  ·have lp:pre.length<=n:=by
    have:=congrArg List.length q
    simp at this
    omega
   have ih:∀ e∈pre,Wk St u0 e.key e.d:=wk_pre_le pre.length n lp pre rfl fun p1 e1 p2 q1=>h p1 e1 (p2++e::post) (by rw [q,q1];simp)
   rw [hd]
   exact (ih u hu).snoc hm
where
 wk_pre_le (m n:Nat) (hmn:m<=n) (ss:List (Ent α)) (hl:ss.length=m) (h:∀ pre e post,ss=pre++e::post->(e.par=none/\e.key=u0/\e.d=0) ∨ ∃ u∈pre,∃ c,e.par=some u.key/\(e.key,c)∈St u.key/\e.d=u.d + c):∀ e∈ss,Wk St u0 e.key e.d :=
  zG m ss hl h
theorem Dij.done {St:Nk α->List (Nk α × Int)}{u0:Nk α}{fs ss:List (Ent α)} (D:Dij St (fun k p=>p∈St k) u0 fs ss) (h:∀ e∈fs,e∈ss):DU St u0 ss:=by
 refine ⟨D.ns,fun v w x=>?_,fun e he=>zG ss.length ss rfl D.rk e he,D.rk⟩
 induction x with
 | nil =>
  obtain ⟨e,he,hk,hd⟩:=D.st
  exact ⟨e,h e he,hk,by omega⟩
 | @snoc v x w c _ m ih =>
  obtain ⟨e,he,hk,hd⟩:=ih
  obtain ⟨e',he',hk',hd'⟩:=D.cl e he (x,c) (by rw [hk];exact m)
  exact ⟨e',h e' he',hk',by have:(x,c).2=c:=rfl;omega⟩
structure Ln (α:Type) where
 a:α
 b:α
 p:Option Int
 c:Option Int
def Ln.cost (l:Ln α) (f:Bool):Option Int:=if f then l.c else l.p
def Up (x:Option Int) (w:Int):Prop:=∃ a,x=some a/\a<=w
theorem Up.mono {x:Option Int}{w w':Int} (h:Up x w) (l:w<=w'):Up x w':=by obtain ⟨a,e,q⟩:=h;exact ⟨a,e,by omega⟩
section
variable {zs bs:List α}{ls:List (Ln α)}{p g:Int}
end
end
end L2

namespace L2
open PySem PySem.Spec PyProof.Rows
abbrev gE (q:Str):HO:=.tbl #[.str q 0]
section
variable {X:Cx}{pins:List (Addr × Obj)}{σ:St}{H:Hp}{s:Shared}
theorem tab_of {P:Addr}{q:Str} (I:Inv X pins σ H s) (e:H P=some (gE q)):∃ qs:Array Value,s.heap.get? P=some { cls:=.none,data:=.fields qs }/\TriplesOk qs.toList ∧
  ∀ pos c,codeAmong pos qs.toList=some c->∃ c' oc vs t,c=.ref c'/\H c'=some (.frz oc (.own P))/\s.heap.get? c'=some oc/\oc.data=.fields vs/\vs[1]?=some (.str q t):=by
 obtain ⟨qs,h1,h2,h3⟩:=(show aS X.prog X.w H s.heap P (gE q) from I.hok P _ e)
 refine ⟨qs,h1,h2,fun pos c z=>?_⟩
 obtain ⟨c',oc,vs,t,q',a1,a2,a4,a5,a6⟩:=h3 pos c z
 have a7:q=q':=by
  have:=congrArg Array.toList a6
  simp at this
  exact this
 subst a7
 exact ⟨c',oc,vs,t,a1,a2,(I.hok c' _ a2).1,a4,a5⟩
theorem Inv.tabled {P c':Addr}{q:Str}{h':Heap}{ps more:Array Value}{tk:Nat}{oc:Obj}{vs:Array Value}{tq:Tok} (I:Inv X pins σ H s) (e:H P=some (gE q)) (hx:∀ b o,b≠P->s.heap.get? b=some o->h'.get? b=some o) (hc:s.heap.objs.size<=c')
  (h1:h'.get? P=some { cls:=.none,data:=.fields more }) (h2:TriplesOk more.toList) (h3:∀ pos c,codeAmong pos more.toList=some c->codeAmong pos ps.toList=some c ∨ c=.ref c') (h0:s.heap.get? P=some { cls:=.none,data:=.fields ps })
  (c1:h'.get? c'=some oc) (c2:oc.data=.fields vs) (c3:vs[1]?=some (.str q tq)):Inv X pins σ (upd H c' (.frz oc (.own P))) { s with heap:=h',toks:=tk }:=by
 have hn:=I.hok.fresh hc
 have nP:∀ b,H b=none->b≠P:=fun b hb z=>by rw [z,e] at hb;cases hb
 have lt:∀ b o,s.heap.get? b=some o->b≠c':=fun b o z=>Nat.ne_of_lt (Nat.lt_of_lt_of_le (Heap.lt_size z) hc)
 obtain ⟨qs,g1,g2,g3⟩:=tab_of I e
 have eq:qs=ps:=by
  rw [h0] at g1
  have:=Option.some.inj g1
  injection this with _ _ z
  injection z with z
  exact z.symm
 subst eq
 refine I.un ⟨fun b o z n _ _=>hx b o (nP b n) z,fun b o z n _ _=>⟨o.slots,hx b o (nP b n) z⟩,fun b o z n _=>by rw [aj (lt b o z)];exact n,fun b o z _=>?_,fun b xs z=>by rw [aj (aP z hn)];exact z,fun b u xs z=>by rw [aj (aP z hn)];exact z,
  fun b xs z=>⟨#[],by rw [aj (aP z hn),z];simp⟩⟩ fun b u z=>?_
 ·by_cases hb:b=P
  ·rw [hb];exact ⟨_,h1⟩
  ·exact ⟨o,hx b o hb z⟩
 ·by_cases hb:b=c'
  ·subst hb
   rw [aq] at z;cases z
   exact ⟨c1,_,c1⟩
  ·rw [aj hb] at z
   by_cases hp:b=P
   ·subst hp
    rw [e] at z;cases z
    refine ⟨more,h1,h2,fun pos c w=>?_⟩
    rcases h3 pos c w with w | rfl
    ·obtain ⟨c2',oc2,vs2,t2,a1,a2,a3,a4,a5⟩:=g3 pos c w
     exact ⟨c2',oc2,vs2,t2,q,a1,by rw [aj (aP a2 hn)];exact a2,a4,a5,rfl⟩
    ·exact ⟨c',oc,vs,tq,q,rfl,aq,c2,c3,rfl⟩
   ·refine (I.hok b u z).ji (fun c v hc2 w=>hx c v ?_ w) (fun c w=>by rw [aj (aP w hn)];exact w) fun c xs w=>by rw [aj (aP w hn)];exact w
    rcases hc2 with rfl | w2
    ·exact hp
    ·exact aC w2 e (by intro z;cases z)
end
theorem rX {pos p2:Pos}{c:Value}:∀ (l:List Value),TriplesOk l->∀ x,codeAmong pos (l++[rawInt p2.line,rawInt p2.col,c])=some x->codeAmong pos l=some x ∨ x=c:=by
 intro l h
 fun_induction TriplesOk l with
 | case1 =>
  intro x e
  simp only [List.nil_append,codeAmong,rawInt] at e
  split at e
  ·exact .inr (Option.some.inj e).symm
  ·cases e
 | case2 a t b u y rest ih =>
  intro x e
  simp only [List.cons_append,codeAmong] at e ⊢
  split at e
  ·rename_i hc
   rw [if_pos hc];exact .inl e
  ·rename_i hc
   rw [if_neg hc];exact ih h x e
 | case3=>exact h.elim
section
variable {X:Cx}{pins:List (Addr × Obj)}{σ:St}{H:Hp}{s:Shared}{a:Addr}{y v:V}{u:Value}{A:Around}{E:Value->Shared->Prop}
end
section
variable {X:Cx}{pins:List (Addr × Obj)}{σ:St}{H:Hp}{s:Shared}
def kl (H:Hp) (P:Addr) (q:Str) (c':Addr):Prop:=∃ oc vs t,H c'=some (.frz oc (.own P))/\oc.data=.fields vs/\vs[1]?=some (.str q t)
theorem kl.same {H H':Hp}{P c':Addr}{q:Str} (h:kl H P q c') (s:ak H H'):kl H' P q c':=by
 obtain ⟨oc,vs,t,h1,h2⟩:=h
 exact ⟨oc,vs,t,s _ _ h1,h2⟩
end
section
variable {prog:Program}{w:World}{A:Around}{E:Value->Shared->Prop}{s:Shared}{d it:Addr}{D J:Obj}{es:Array DictEntry}{ep i:Nat}
theorem zb {Q:Value->Shared->Prop} (n0:(d == sysModules)=false) (g1:s.heap.get? d=some D) (g2:D.ExactDict) (g3:D.data=.dict es ep)
  (k:Q (.ref s.heap.objs.size) { s with heap:=s.heap.push { cls:=.type "dict_keyiterator",data:=.fields #[.ref d,.int 0 0,.int es.size 0,.int ep 0] } }):wpAny (model prog w) A (pyIter (.ref d)) Q E s:=by
 have ty:s.TypeIs (.ref d) "dict":=⟨D,g1,g2.1⟩
 refine wpAny_pyIter_slot ty F.slot_dict_iter (wpAny_call_entry F.slot_dict_iter ty F.entry_dict_iter ?_ (F.args_dict_iter_1 _))
 unfold Builtin.«dict.__iter__» Builtin.Dict.dictSlotNone
 refine wpAny_bind (wpAny_bind (wpAny_notOrdered_dict ty ?_))
 refine wpAny_pure (show wpAny _ _ (Builtin.Dict.showsAll d >>= _) _ _ s from ?_)
 unfold Builtin.Dict.showsAll
 rw [if_neg (fun z=>by rw [n0] at z;cases z)]
 refine wpAny_bind (wpAny_pure (wpAny_bind (wpAny_dictEntries g1 g3 (wpAny_bind (wpAny_dictEpoch g1 g3 ?_)))))
 refine wpAny_bind (wpAny_newObj_type (wpAny_pure ⟨_,rfl,"dict_keyiterator",_,⟨_,Heap.get?_push_size _ rfl,rfl⟩,F.slot_dict_keyiterator_next.lookup,?_⟩))
 simpa [rawInt] using k
theorem zc {Q:Option Value->Shared->Prop} (j:s.heap.IsKeyIter it d i es.size ep) (g1:s.heap.get? d=some D) (g3:D.data=.dict es ep) (hi:i < es.size)
  (k:∀ h',h'.IsKeyIter it d (i + 1) es.size ep->Heap.SameBut it s.heap h'->Q (some es[i].key) { s with heap:=h' }):wpAny (model prog w) A (pyNext (.ref it)) Q E s:=by
 obtain ⟨J,j1,j2,j3⟩:=id j
 unfold pyNext
 refine wpAny_bind (wpAny_attempt (wpAny_callSpecial?_slot (name:=Str.ofString "__next__") j.typeIs F.slot_dict_keyiterator_next (wpAny_call_entry F.slot_dict_keyiterator_next j.typeIs F.entry_dict_keyiterator_next ?_ (F.args_dict_keyiterator_next_1 _))))
 refine wpAny_bind (wpAny_pure (wpAny_bind (wpAny_bind ?_)))
 first | refine wpAny_bind (wpAny_typeNameOfWhole_keyiter j.typeIs (wpAny_pure (wpAny_bind (wpAny_fieldsOf j1 j3 ?_)))) | refine wpAny_bind (wpAny_typeNameOf_keyiter j.typeIs (wpAny_pure (wpAny_bind (wpAny_fieldsOf j1 j3 ?_))))
 have ow:Builtin.Dict_items.ownsTuple "dict_keyiterator"=false:=by decide
 simp only [ow,Bool.false_eq_true,if_false]
 show wpAny _ _ (if (Value.ref d == Value.none)=true then _ else _) _ _ _
 rw [if_neg (fun z:(Value.ref d == Value.none)=true=>Bool.false_ne_true z)]
 refine wpAny_bind (wpAny_pure (wpAny_bind (wpAny_dictEntries g1 g3 ?_)))
 rw [if_neg (by simp)]
 refine wpAny_bind (wpAny_pure (wpAny_bind (wpAny_dictEpoch g1 g3 ?_)))
 rw [if_neg (by simp)]
 refine wpAny_pure ?_
 simp only [show ¬ ((i:Int) < 0) from by omega,if_false,Int.toNat_natCast,Array.getElem?_eq_getElem hi]
 refine wpAny_bind ?_
 first | refine wpAny_bind (wpAny_typeNameOfWhole_keyiter j.typeIs (wpAny_pure (wpAny_bind (wpAny_isOneOf_keyiter j.typeIs ?_)))) | refine wpAny_bind (wpAny_typeNameOf_keyiter j.typeIs (wpAny_pure (wpAny_bind (wpAny_isOneOf_keyiter j.typeIs ?_))))
 refine show wpAny _ _ (setField (.ref it) 1 (rawInt ((i:Int) + 1)) >>= _) _ _ s from wpAny_bind (wpAny_setField j1 j3 (by simp) ?_)
 have jn:(s.heap.update it (Obj.mapFields (·.setIfInBounds 1 (rawInt ((i:Int) + 1))))).IsKeyIter it d (i + 1) es.size ep :=
  ⟨_,Heap.get?_update_self _ j1 (Obj.isFreed_of_fields (Obj.data_mapFields j3 _)),(Obj.cls_mapFields ..).trans j2,by rw [Obj.data_mapFields j3];simp [rawInt]⟩
 refine wpAny_bind (wpAny_holding (wpAny_bind (wpAny_isOneOf_keyiter (s:={ s with heap:=s.heap.update it (Obj.mapFields (·.setIfInBounds 1 (rawInt ((i:Int) + 1)))) }) jn.typeIs ?_)))
 refine show wpAny _ _ (pure es[i].key) _ _ _ from ?_
 exact wpAny_pure (wpAny_pure ⟨_,rfl,wpAny_pure (k _ jn (Heap.SameBut.update ..))⟩)
theorem AE {Q:Option Value->Shared->Prop} (ha:A.handled=none) (j:s.heap.IsKeyIter it d i es.size ep) (hi:es.size<=i) (g1:s.heap.get? d=some D) (g3:D.data=.dict es ep)
  (k:∀ h',Heap.ExtBut it s.heap h'->Q none { s with heap:=h' }):wpAny (model prog w) A (pyNext (.ref it)) Q E s:=by
 obtain ⟨J,j1,j2,j3⟩:=id j
 unfold pyNext
 refine wpAny_bind (wpAny_attempt (wpAny_callSpecial?_slot (name:=Str.ofString "__next__") j.typeIs F.slot_dict_keyiterator_next (wpAny_call_entry F.slot_dict_keyiterator_next j.typeIs F.entry_dict_keyiterator_next ?_ (F.args_dict_keyiterator_next_1 _))))
 refine wpAny_bind (wpAny_pure (wpAny_bind (wpAny_bind ?_)))
 first | refine wpAny_bind (wpAny_typeNameOfWhole_keyiter j.typeIs (wpAny_pure (wpAny_bind (wpAny_fieldsOf j1 j3 ?_)))) | refine wpAny_bind (wpAny_typeNameOf_keyiter j.typeIs (wpAny_pure (wpAny_bind (wpAny_fieldsOf j1 j3 ?_))))
 have ow:Builtin.Dict_items.ownsTuple "dict_keyiterator"=false:=by decide
 simp only [ow,Bool.false_eq_true,if_false]
 show wpAny _ _ (if (Value.ref d == Value.none)=true then _ else _) _ _ _
 rw [if_neg (fun z:(Value.ref d == Value.none)=true=>Bool.false_ne_true z)]
 refine wpAny_bind (wpAny_pure (wpAny_bind (wpAny_dictEntries g1 g3 ?_)))
 rw [if_neg (by simp)]
 refine wpAny_bind (wpAny_pure (wpAny_bind (wpAny_dictEpoch g1 g3 ?_)))
 rw [if_neg (by simp)]
 refine wpAny_pure ?_
 simp only [show ¬ ((i:Int) < 0) from by omega,if_false,Int.toNat_natCast,Array.getElem?_eq_none hi]
 refine wpAny_bind ?_
 first | refine wpAny_bind (wpAny_typeNameOfWhole_keyiter j.typeIs (wpAny_pure ?_)) | refine wpAny_bind (wpAny_typeNameOf_keyiter j.typeIs (wpAny_pure ?_))
 refine show wpAny _ _ (setField (.ref it) 0 .none >>= _) _ _ s from wpAny_bind (wpAny_setField j1 j3 (by simp) ?_)
 refine show wpAny _ _ (newExc (.type "StopIteration") [] >>= _) _ _ _ from wpAny_bind ?_
 simp only [newExc,newTuple]
 refine wpAny_bind (wpAny_newObj_type (wpAny_bind (m:=firstArgMember _ _) (wpAny_of_eq (a:=Value.none) (by first | rfl | (simp only [firstArgMember];rfl)) ?_)) (by size_fits))
 refine wpAny_newObj_type ?_ (by size_fits)
 simp only [raiseNew]
 refine wpAny_bind (wpAny_handled ?_)
 rw [show A.in1.handled=none from ha]
 refine wpAny_bind (wpAny_pure (wpAny_throw ?_))
 refine wpAny_bind (wpAny_isInstance (T:="StopIteration") (b:=true) ⟨_,Heap.get?_push_size _ rfl,rfl⟩ isSubtype_stop (wpAny_pure ?_))
 exact (k _ (((Heap.SameBut.update ..).extBut.push _).push _))
end
section
variable {X:Cx}{pins:List (Addr × Obj)}{σ:St}{H:Hp}{A:Around}{s0:Shared}{l q I S:Addr}{vs:List Value}{R:Result->Shared->Prop}
end
theorem gc.same {H H':Hp}{a:Addr}{y:V}{o:Option V} (s:ak H H') (g:gc H a y o):gc H' a y o:=by
 rcases g with ⟨kvs,k,e,h⟩ | ⟨kvs,k,b,e,h1,h2,h3⟩
 ·exact .inl ⟨kvs,k,e.elim (fun z=>.inl (s _ _ z)) fun ⟨o,z⟩=>.inr ⟨o,s _ _ z⟩,h⟩
 ·exact .inr ⟨kvs,k,b,e.elim (fun z=>.inl (s _ _ z)) fun ⟨o,z⟩=>.inr ⟨o,s _ _ z⟩,h1,s _ _ h2,h3⟩
section
variable {X:Cx}
end
def fR (a:Addr) (D:Obj):HO:=.ext fun h=>h.get? a=some D
theorem xW {P:Program}{w:World}{H:Hp}{h:Heap}{a:Addr}{D:Obj} (e:h.get? a=some D):aS P w H h a (fR a D):=⟨e,⟨D,e⟩,fun h1 h2 y k=>k D y⟩
theorem mP {α β:Type}{F G:α->β->Prop}:∀ {l₁:List α}{l₂:List β},Paired F l₁ l₂->(∀ x,∀ y∈l₂,F x y->G x y)->Paired G l₁ l₂
 | _,_,.nil,_=>.nil
 | _,_,.cons r t,f=>.cons (f _ _ List.mem_cons_self r) (mP t fun x y hy=>f x y (List.mem_cons_of_mem _ hy))
def uW:TE:=fun _ H Q=>nw H (.dT []) Q
theorem qh {σ:St}{H:Hp}{Q:VK}:uW σ H Q=nw H (.dT []) Q:=propext Iff.rfl
theorem we {X:Cx}{pos:Pos}:PE X (.Dict [] [] pos) uW:=fun pins s σ H Q I h=>yH pins s σ H Q I (nw.go h)
theorem tS {td ty tv:TE}{D:Ends}{σ:St}{H:Hp}:zh td ty tv D σ H=tv σ H fun v H1=>td σ H1 fun x H2=>ty σ H2 fun y H3=>∃ a H4,x=.ref a/\rT H3 a y v H4/\D.nx σ H4:=propext Iff.rfl
theorem fI {X:Cx}{o i value:Expr}{pos pos':Pos}{td ty tv:TE} (hu:X.A.units + 1 < cLine) (ho:PE X o td) (hi:PE X i ty) (hv:PE X value tv) (hs:swapsWith value (some (.Subscript o i pos')) pos.line X.env=pure false:=by kernel_rfl) :
  PS X (.Assign [.Subscript o i pos'] value pos) (zh td ty tv):=A8 hu ho hi hv hs
theorem cZ {α β:Type}{F:α->β->Prop}:∀ {l₁:List α}{l₂:List β},Paired F l₁ l₂->∀ {i:Nat}{x:α},l₁[i]?=some x->∃ y,l₂[i]?=some y/\F x y
 | _,_,.nil,i,x,e=>by simp at e
 | _,_,.cons r t,0,x,e=>by simp at e;subst e;exact ⟨_,rfl,r⟩
 | _,_,.cons r t,i + 1,x,e=>cZ t (by simpa using e)
section
variable {P:Program}{w:World}{K:PySem.W.Frag}{mg:Str->Option Value}{base:Heap}
theorem Fun.okT {x qual:Str}{st:Stmt}{f c:Addr}{fd:FuncData}{N ps:List Str}{k:Nat}{sp:Sp} (F:Fun K x qual st f fd) (hc:fd.code=.ref c) (S:aA N ps (af st)) (len:∀ vs H Q E,sp vs H Q E->vs.length=ps.length)
  (hbody:∀ (A:Around) (outer:List Env) (s:Shared) (H:Hp) (vs:List V) (Q:VK) (E:XK),bA k (A.deeper (envOfC qual (af st) s.heap.objs.size f (.ref c)))->sp vs H Q E →
   ∃ t,PSs (iS (CX1 P w) P w K mg base N qual (af st) f (.ref c) A outer s H E) (aw st) t/\t { nx:=fun _ H'=>Q .non H',rt:=Q } (start N vs) H):aX P w K mg base (CX1 P w) (k + 1) f fd ps sp:=by
 obtain ⟨oc,od,kV,doc,pm,an,cdv,ct,osl,rfl,lk,hcd⟩:=F.ex
 have e:cdv=.ref c:=hc
 subst e
 exact qL lk hcd S len fun A outer s H vs Q E hr hsp=>hbody A outer s H vs Q E hr hsp
end
end L2

namespace L2
open PySem PySem.Spec PyProof.Rows
section
variable {prog:Program}{w:World}{A:Around}{E:Value->Shared->Prop}{s:Shared}
end
section
variable {prog:Program}{w:World}{A:Around}{E:Value->Shared->Prop}{s:Shared}
end
section
variable {α:Type}
theorem De {p:List α->Prop} (h:p []) (us:List α) (e:us.length=0):p us:=by
 cases us with
 | nil=>exact h
 | cons _ _=>cases e
theorem bind1 {p:List α->Prop} (h:∀ a,p [a]) (us:List α) (e:us.length=1):p us:=by
 cases us with
 | nil=>cases e
 | cons a r=>exact De (p:=fun r=>p (a::r)) (h a) r (Nat.succ.inj e)
theorem dZ {p:List α->Prop} (h:∀ a b,p [a,b]) (us:List α) (e:us.length=2):p us:=by
 cases us with
 | nil=>cases e
 | cons a r=>exact bind1 (p:=fun r=>p (a::r)) (h a) r (Nat.succ.inj e)
theorem qr {p:List α->Prop} (h:∀ a b c,p [a,b,c]) (us:List α) (e:us.length=3):p us:=by
 cases us with
 | nil=>cases e
 | cons a r=>exact dZ (p:=fun r=>p (a::r)) (h a) r (Nat.succ.inj e)
theorem nG {p:List α->Prop} (h:∀ a b c d,p [a,b,c,d]) (us:List α) (e:us.length=4):p us:=by
 cases us with
 | nil=>cases e
 | cons a r=>exact qr (p:=fun r=>p (a::r)) (h a) r (Nat.succ.inj e)
end
end L2

namespace L2
open PySem PySem.Spec PyProof.Rows
end L2

namespace L2
open PySem PySem.Spec PyProof.Rows
theorem bA.hu9 {k:Nat}{A:Around} (r:bA k A):A.units + 9 < cLine:=by have:=r.un;omega
theorem eT.hu9 {k:Nat}{A:Around} (r:eT k A):A.units + 9 < cLine:=by have:=r.un;omega
inductive EqR (K:PySem.W.Frag) (H:Hp):Nat->V->V->Bool->Prop
 | same {n:Nat}{x:V} (h:Bk x=true):EqR K H n x x true
 | flat {n:Nat}{x y:V} (h1:cg x=true) (h2:cg y=true):EqR K H n x y (eqV x y)
 | lst {n:Nat}{p q:Addr}{xs ys:List V} (e:Nat->Bool) (hne:p≠q) (h1:SqL K H p xs) (h2:SqL K H q ys) (hl:xs.length=ys.length) (h:∀ (i:Nat) x y,xs[i]?=some x->ys[i]?=some y->EqR K H n x y (e i)):EqR K H (n + 1) (.ref p) (.ref q) ((List.range xs.length).all e)
 | tup {n:Nat}{p q:Addr}{xs ys:List V} (e:Nat->Bool) (hne:p≠q) (h1:SqT K H p xs) (h2:SqT K H q ys) (h:∀ (i:Nat) x y,xs[i]?=some x->ys[i]?=some y->EqR K H n x y (e i)):EqR K H (n + 1) (.ref p) (.ref q) ((List.range (min xs.length ys.length)).all e && xs.length == ys.length)
theorem EqR.at {X:Cx}{pins:List (Addr × Obj)}{s:Shared}{σ:St}{H:Hp} (I:Inv X pins σ H s) {n:Nat}{x y:V}{b:Bool} (h:EqR X.K H n x y b):∀ {A:Around}{u v:Value},A.units + n < cLine->RelV x u->RelV y v->SeqAt.EqAt A s u v b:=by
 induction h with
 | same h=>intro A u v _ ru rv;exact vD ru rv h
 | flat h1 h2=>intro A u v _ ru rv;exact ja ru rv h1 h2
 | @lst n p q xs ys e hne h1 h2 hl _ ih =>
  intro A u v hu ru rv
  cases ru;cases rv
  obtain ⟨us,r1,p1,_⟩:=I.list h1
  obtain ⟨vs,r2,p2,_⟩:=I.list h2
  have l1:=r1.length
  have l2:=r2.length
  have:=SeqAt.RcAt.lists (A:=A) (s:=s) (e:=e) p1.isList p2.isList (by simp only [List.size_toArray];omega) (by omega) fun j j1 j2=>by
   obtain ⟨x,ex,rx⟩:=bO r1 j1
   obtain ⟨y,ey,ry⟩:=bO r2 j2
   exact ih j x y ex ey (show A.units + 1 + n < cLine by omega) rx ry
  rw [List.size_toArray,← l1] at this
  exact SeqAt.EqAt.of_refs hne this
 | @tup n p q xs ys e hne h1 h2 _ ih =>
  intro A u v hu ru rv
  cases ru;cases rv
  obtain ⟨us,r1,p1,_⟩:=I.tuple h1
  obtain ⟨vs,r2,p2,_⟩:=I.tuple h2
  have l1:=r1.length
  have l2:=r2.length
  have:=SeqAt.RcAt.tuples (A:=A) (s:=s) (e:=e) p1 p2 (by omega) fun j j1 j2=>by
   obtain ⟨x,ex,rx⟩:=bO r1 j1
   obtain ⟨y,ey,ry⟩:=bO r2 j2
   exact ih j x y ex ey (show A.units + 1 + n < cLine by omega) rx ry
  rw [List.size_toArray,List.size_toArray,← l1,← l2] at this
  exact SeqAt.EqAt.of_refs hne this
def RcR (K:PySem.W.Frag) (H:Hp) (n:Nat) (x y:V) (b:Bool):Prop:=∃ p q,x=.ref p/\y=.ref q ∧
 ((∃ xs ys,SqL K H p xs/\SqL K H q ys/\((xs.length≠ys.length/\b=false) ∨ (xs.length=ys.length/\∃ e:Nat->Bool,(∀ (i:Nat) x y,xs[i]?=some x->ys[i]?=some y->EqR K H n x y (e i))/\b=(List.range xs.length).all e))) ∨
  ∃ xs ys,SqT K H p xs/\SqT K H q ys/\∃ e:Nat->Bool,(∀ (i:Nat) x y,xs[i]?=some x->ys[i]?=some y->EqR K H n x y (e i))/\b=((List.range (min xs.length ys.length)).all e && xs.length == ys.length))
def Du (K:PySem.W.Frag):R2:=fun x y H Q=>∃ n b,n<=6/\RcR K H n x y b/\Q (.bl b) H
def Dx (K:PySem.W.Frag):R2:=fun x y H Q=>∃ n b,n<=6/\RcR K H n x y b/\Q (.bl (!b)) H
theorem uz {K:PySem.W.Frag}{x y:V}{H:Hp}{Q:VK}:Du K x y H Q=(∃ n b,n<=6/\RcR K H n x y b/\Q (.bl b) H):=propext Iff.rfl
theorem u4 {K:PySem.W.Frag}{x y:V}{H:Hp}{Q:VK}:Dx K x y H Q=(∃ n b,n<=6/\RcR K H n x y b/\Q (.bl (!b)) H):=propext Iff.rfl
section
variable {X:Cx}
theorem y6 {K:PySem.W.Frag} (hK:X.K=K) (hu:X.A.units + 9 < cLine):OpR X (compareOp .Eq) (Du K):=by
 subst hK
 intro pins s σ H x y v u Q I rx ry h
 obtain ⟨n,b,hn,⟨p,q,rfl,rfl,h⟩,k⟩:=h
 cases rx;cases ry
 rcases h with ⟨xs,ys,h1,h2,h⟩ | ⟨xs,ys,h1,h2,e,h,rfl⟩
 ·obtain ⟨us,r1,p1,_⟩:=I.list h1
  obtain ⟨vs,r2,p2,_⟩:=I.list h2
  have l1:=r1.length
  have l2:=r2.length
  rcases h with ⟨hl,rfl⟩ | ⟨hl,e,h,rfl⟩
  ·exact SeqAt.eq_list_lengthsAt p1.isList p2.isList (by simp only [List.size_toArray];simpa using (by omega:us.length≠vs.length)) (by omega) ⟨.bl _,H,I,rfl,k⟩
  ·refine SeqAt.eq_listAt (e:=e) p1.isList p2.isList (by simp only [List.size_toArray];omega) (by omega) (fun j j1 j2=>?_) ⟨.bl _,H,I,rfl,?_⟩
   ·obtain ⟨x,ex,rx⟩:=bO r1 j1
    obtain ⟨y,ey,ry⟩:=bO r2 j2
    exact (h j x y ex ey).at I (show X.A.units + 1 + n < cLine by omega) rx ry
   ·rw [List.size_toArray,← l1];exact k
 ·obtain ⟨us,r1,p1,_⟩:=I.tuple h1
  obtain ⟨vs,r2,p2,_⟩:=I.tuple h2
  have l1:=r1.length
  have l2:=r2.length
  refine SeqAt.eq_tupleAt (e:=e) p1 p2 (by omega) (fun j j1 j2=>?_) ⟨.bl _,H,I,rfl,?_⟩
  ·obtain ⟨x,ex,rx⟩:=bO r1 j1
   obtain ⟨y,ey,ry⟩:=bO r2 j2
   exact (h j x y ex ey).at I (show X.A.units + 1 + n < cLine by omega) rx ry
  ·rw [List.size_toArray,List.size_toArray,← l1,← l2];exact k
theorem pE {K:PySem.W.Frag} (hK:X.K=K) (hu:X.A.units + 9 < cLine):OpR X (compareOp .NotEq) (Dx K):=by
 subst hK
 intro pins s σ H x y v u Q I rx ry h
 obtain ⟨n,b,hn,⟨p,q,rfl,rfl,h⟩,k⟩:=h
 cases rx;cases ry
 rcases h with ⟨xs,ys,h1,h2,h⟩ | ⟨xs,ys,h1,h2,e,h,rfl⟩
 ·obtain ⟨us,r1,p1,_⟩:=I.list h1
  obtain ⟨vs,r2,p2,_⟩:=I.list h2
  have l1:=r1.length
  have l2:=r2.length
  rcases h with ⟨hl,rfl⟩ | ⟨hl,e,h,rfl⟩
  ·exact SeqAt.RcNeAt.lists_lengths p1.isList p2.isList (by simp only [List.size_toArray];simpa using (by omega:us.length≠vs.length)) (by omega) _ _ _ _ ⟨.bl _,H,I,rfl,k⟩
  ·refine SeqAt.RcNeAt.lists (e:=e) p1.isList p2.isList (by simp only [List.size_toArray];omega) (by omega) (fun j j1 j2=>?_) _ _ _ _ ⟨.bl _,H,I,rfl,?_⟩
   ·obtain ⟨x,ex,rx⟩:=bO r1 j1
    obtain ⟨y,ey,ry⟩:=bO r2 j2
    exact (h j x y ex ey).at I (show X.A.units + 1 + n < cLine by omega) rx ry
   ·rw [List.size_toArray,← l1];exact k
 ·obtain ⟨us,r1,p1,_⟩:=I.tuple h1
  obtain ⟨vs,r2,p2,_⟩:=I.tuple h2
  have l1:=r1.length
  have l2:=r2.length
  refine SeqAt.RcNeAt.tuples (e:=e) p1 p2 (by omega) (fun j j1 j2=>?_) _ _ _ _ ⟨.bl _,H,I,rfl,?_⟩
  ·obtain ⟨x,ex,rx⟩:=bO r1 j1
   obtain ⟨y,ey,ry⟩:=bO r2 j2
   exact (h j x y ex ey).at I (show X.A.units + 1 + n < cLine by omega) rx ry
  ·rw [List.size_toArray,List.size_toArray,← l1,← l2];exact k
end
def zd (e:V->Bool):Value->Bool
 | .ref a=>e (.ref a)
 | _=>false
theorem zE {xs:List V}{us:List Value} (r:Vals xs us) (e:V->Bool) (h:∀ v∈xs,∃ a,v=.ref a):us.any (zd e)=xs.any e/\us.countP (zd e)=xs.countP e:=by
 induction r with
 | nil=>exact ⟨rfl,rfl⟩
 | @cons x u xs us r1 r2 ih =>
  obtain ⟨a,rfl⟩:=h x List.mem_cons_self
  cases r1
  have:=ih fun v hv=>h v (List.mem_cons_of_mem _ hv)
  rw [List.any_cons,List.any_cons,List.countP_cons,List.countP_cons,this.1,this.2]
  exact ⟨rfl,rfl⟩
def InR (K:PySem.W.Frag) (H:Hp) (x:V) (p:Addr) (xs:List V) (e:V->Bool):Prop:=∃ n,n<=6/\SqL K H p xs/\(∀ v∈xs,∃ a,v=.ref a)/\∀ v∈xs,EqR K H n v x (e v)
section
variable {X:Cx}
theorem InR.each {pins:List (Addr × Obj)}{s:Shared}{σ:St}{H:Hp} (I:Inv X pins σ H s) (hu:X.A.units + 9 < cLine) {x:V}{p:Addr}{xs:List V}{e:V->Bool} (h:InR X.K H x p xs e) {u:Value} (ru:RelV x u) :
  ∃ its,Vals xs its/\s.heap.IsList p its.toArray/\(∀ y,y∈its.toArray->SeqAt.EqAt X.A.in1 s y u (zd e y))/\its.any (zd e)=xs.any e/\its.countP (zd e)=xs.countP e:=by
 obtain ⟨n,hn,h1,h2,h3⟩:=h
 obtain ⟨its,r,pl,_⟩:=I.list h1
 obtain ⟨a1,a2⟩:=zE r e h2
 refine ⟨its,r,pl.isList,fun y hy=>?_,a1,a2⟩
 obtain ⟨j,hj,rfl⟩:=Array.getElem_of_mem hy
 obtain ⟨v,ev,rv⟩:=bO r hj
 have hv:=List.mem_of_getElem? ev
 obtain ⟨a,rfl⟩:=h2 v hv
 have e1:=(h3 _ hv).at I (A:=X.A.in1) (show X.A.units + 1 + n < cLine by omega) rv ru
 rw [show its.toArray[j]=Value.ref a from rv] at e1 ⊢
 exact e1
end
theorem all_strs (us vs:List Str) (h:us.length=vs.length):((List.range us.length).all fun i=>eqV ((us.map V.str).getD i .non) ((vs.map V.str).getD i .non))=decide (us=vs):=by
 rw [Bool.eq_iff_iff,List.all_eq_true,decide_eq_true_eq]
 constructor
 ·intro k
  apply List.ext_getElem h
  intro i h1 h2
  have:=k i (List.mem_range.mpr h1)
  rw [List.getD_eq_getElem?_getD,List.getD_eq_getElem?_getD,List.getElem?_map,List.getElem?_map,List.getElem?_eq_getElem h1,List.getElem?_eq_getElem h2] at this
  have this':(us[i] == vs[i])=true:=this
  exact eq_of_beq this'
 ·rintro rfl i hi
  have h1:=List.mem_range.mp hi
  rw [List.getD_eq_getElem?_getD,List.getElem?_map,List.getElem?_eq_getElem h1]
  show (us[i] == us[i])=true
  simp
theorem jw (us vs:List Str):(((List.range (min (us.map V.str).length (vs.map V.str).length)).all fun i=>eqV ((us.map V.str).getD i .non) ((vs.map V.str).getD i .non)) && (us.map V.str).length == (vs.map V.str).length)=decide (us=vs):=by
 rw [List.length_map,List.length_map]
 by_cases h:us.length=vs.length
 ·rw [h,Nat.min_self,beq_self_eq_true,Bool.and_true,← h,all_strs us vs h]
 ·rw [show (us.length == vs.length)=false from by simpa using h,Bool.and_false,eq_comm,decide_eq_false_iff_not]
  exact fun e=>h (by rw [e])
theorem oH {K:PySem.W.Frag}{H:Hp}{n:Nat} (us vs:List Str):∀ (i:Nat) x y,(us.map V.str)[i]?=some x->(vs.map V.str)[i]?=some y->EqR K H n x y (eqV ((us.map V.str).getD i .non) ((vs.map V.str).getD i .non)):=fun i x y e1 e2=>by
 rw [List.getD_eq_getElem?_getD,List.getD_eq_getElem?_getD,e1,e2]
 have f:∀ {ws:List Str}{z:V},(ws.map V.str)[i]?=some z->cg z=true:=fun {ws z} e=>by
  obtain ⟨w,_,rfl⟩:=List.mem_map.mp (List.mem_of_getElem? e);rfl
 exact .flat (f e1) (f e2)
theorem AG {K:PySem.W.Frag}{H:Hp}{p q:Addr}{us vs:List Str} (h1:SqT K H p (us.map V.str)) (h2:SqT K H q (vs.map V.str)):RcR K H 0 (.ref p) (.ref q) (decide (us=vs)) :=
 ⟨p,q,rfl,rfl,.inr ⟨_,_,h1,h2,_,oH us vs,(jw us vs).symm⟩⟩
theorem zS {K:PySem.W.Frag}{H:Hp}{p q:Addr}{us vs:List Str} (h1:SqT K H p (us.map V.str)) (h2:SqT K H q (vs.map V.str)) (hs:p=q->us=vs):EqR K H 1 (.ref p) (.ref q) (decide (us=vs)):=by
 by_cases e:p=q
 ·have:=hs e
  subst e this
  rw [decide_eq_true rfl];exact .same rfl
 ·rw [← jw us vs]
  exact .tup _ e h1 h2 (oH us vs)
end L2

namespace L2
open PySem PySem.Spec PyProof.Rows
section
variable {X:Cx}
end
section
variable {prog:Program}{w:World}{A:Around}{E:Value->Shared->Prop}{s:Shared}
end
section
variable {X:Cx}
end
end L2

namespace L2
open PySem PySem.Spec PyProof.Rows
structure rV (K:PySem.W.Frag) (x qual:Str) (st:Stmt) (f:Addr) (fd:FuncData):Prop where
 ex:∃ (oc:Value) (od:Option Addr) (dV kV doc pm:Value) (an:Option Addr) (cdv ct:Value) (osl:Array (Option Value)),
  fd=PySem.W.fnOf x qual (ay st) (aw st) (af st) dV kV doc pm an cdv ct/\K.lookup f=some ⟨oc,od,.func fd,osl⟩/\PySem.W.codeIn K cdv qual=true
 kp:PySem.W.keepIn K (.ref f)=true
section
variable {P:Program}{w:World}{K:PySem.W.Frag}{mg:Str->Option Value}{base:Heap}
theorem uB {x qual:Str}{st:Stmt}{f:Addr}{oc:Value}{od an:Option Addr}{osl:Array (Option Value)}{dV kV doc pm cdv ct:Value} (l:K.lookup f=some ⟨oc,od,.func (PySem.W.fnOf x qual (ay st) (aw st) (af st) dV kV doc pm an cdv ct),osl⟩)
  (c:PySem.W.codeIn K cdv qual=true) (k:PySem.W.keepIn K (.ref f)=true):rV K x qual st f (PySem.W.fnOf x qual (ay st) (aw st) (af st) dV kV doc pm an cdv ct):=⟨⟨oc,od,dV,kV,doc,pm,an,cdv,ct,osl,rfl,l,c⟩,k⟩
theorem rV.okX {x qual:Str}{st:Stmt}{f:Addr}{fd:FuncData}{N ps:List Str}{k:Nat}{sp:Sp} (F:rV K x qual st f fd) (S:aA N ps (af st)) (len:∀ vs H Q E,sp vs H Q E->vs.length=ps.length)
  (hbody:∀ (cdv:Value) (A:Around) (outer:List Env) (s:Shared) (H:Hp) (vs:List V) (Q:VK) (E:XK),bA k (A.deeper (envOfC qual (af st) s.heap.objs.size f cdv))->sp vs H Q E →
   ∃ t,PSs (iS (CX1 P w) P w K mg base N qual (af st) f cdv A outer s H E) (aw st) t/\t { nx:=fun _ H'=>Q .non H',rt:=Q } (start N vs) H):aX P w K mg base (CX1 P w) (k + 1) f fd ps sp:=by
 obtain ⟨oc,od,dV,kV,doc,pm,an,cdv,ct,osl,rfl,lk,hcd⟩:=F.ex
 exact qL lk hcd S len fun A outer s H vs Q E hr hsp=>hbody cdv A outer s H vs Q E hr hsp
theorem rV.okT {x qual:Str}{st:Stmt}{f c:Addr}{fd:FuncData}{N ps:List Str}{k:Nat}{sp:Sp} (F:rV K x qual st f fd) (hc:fd.code=.ref c) (S:aA N ps (af st)) (len:∀ vs H Q E,sp vs H Q E->vs.length=ps.length)
  (hbody:∀ (A:Around) (outer:List Env) (s:Shared) (H:Hp) (vs:List V) (Q:VK) (E:XK),bA k (A.deeper (envOfC qual (af st) s.heap.objs.size f (.ref c)))->sp vs H Q E →
   ∃ t,PSs (iS (CX1 P w) P w K mg base N qual (af st) f (.ref c) A outer s H E) (aw st) t/\t { nx:=fun _ H'=>Q .non H',rt:=Q } (start N vs) H):aX P w K mg base (CX1 P w) (k + 1) f fd ps sp:=by
 obtain ⟨oc,od,dV,kV,doc,pm,an,cdv,ct,osl,rfl,lk,hcd⟩:=F.ex
 have e:cdv=.ref c:=hc
 subst e
 exact qL lk hcd S len fun A outer s H vs Q E hr hsp=>hbody A outer s H vs Q E hr hsp
end
structure zJ (P:Program) (w:World) (K:PySem.W.Frag) (mg:Str->Option Value) (base:Heap) (CX:CXT) (C:Addr) (m:Str) (k:Nat) (ps:List Str) (sp:Sp):Prop where
 ex:∃ (f:Addr) (fd:FuncData),aX P w K mg base CX k f fd ps sp/\Meth K C m f/\Binds K fd ps [.none]
 cl:Cls K C
def spD (sp:Sp):Sp:=fun vs H Q E=>sp (vs++[.non]) H Q E
section
variable {X:Cx}{CX:CXT}{E:St->XK}
theorem yJ {pl:Sem Bool}{C:Addr}{m:Str}{k:Nat}{ps:List Str}{sp:Sp}{o e:Expr}{es:List Expr}{ta:TE}{t:TA}{apos pos:Pos} (M:zJ X.prog X.w X.K X.mg X.base CX C m k ps sp) (hx:Passes CX X E) (hr:bA k X.A) (he:PE X o ta) (ha:PA X (e::es) t)
  (hs:bY (e::es)=true:=by kernel_rfl)
  (ht:eval (.Call (.Attribute o m apos) (e::es) [] pos) X.env=(do
   let ov ← eval o X.env
   standAt apos.atName
   let (f,first) ← holding [ov] (getMethod ov m pl)
   callWith pos f first (backTo pos (starEach (e::es) X.env)) (backToKw pos (keywordEach [] X.env))):=by rfl) :
  PE X (.Call (.Attribute o m apos) (e::es) [] pos) (pV C m (spD sp) E ta t):=by
 obtain ⟨f,fd,F,hm,hb⟩:=M.ex
 intro pins s σ H Q I h
 refine uI (ta:=up ta) (t:=t) he.up M.cl hm F hr hb (.cons (show RelV .non .none from rfl) .nil) hx ha (aB (aE hs).1) (bL (aE hs).2) ht pins s σ H Q I ⟨_,h,fun x H1 q=>?_⟩
 cases x with
 | ref a =>
  obtain ⟨dx,fs,h1,h2,h3⟩:=q
  exact ⟨a,dx,fs,rfl,h1,h2,h3⟩
 | _=>exact False.elim q
end
section
variable {X:Cx}{pins:List (Addr × Obj)}{σ:St}{H:Hp}{s:Shared}
abbrev m6 (q:Str) (params:Arguments) (body:Expr) (scope:Scope) (cl:List (Str × Addr)) (pm cd ctv:Value):Obj :=
 { cls:=.type "function",data:=.func (PySem.W.kla_fn "<lambda>" q params body scope cl pm cd ctv) }
theorem vR {A:Around}{E:Value->Shared->Prop}{Q:Value->Shared->Prop}{P c:Addr}{q:Str}{params:Arguments}{body:Expr}{scope:Scope}{lpos:Pos}{cl:List (Str × Addr)} (I:Inv X pins σ H s) (e:H P=some (gE q))
  (hcd:X.env.code=.ref c) (hC:PySem.W.codeHdIn X.K c P=true) (hq:X.env.qual++"<lambda>"=q) (hd:defaultsOf params X.env=([],[])) (hcl:clo X.env.cells scope.names []=some cl)
  (k:∀ f c' ctv H' s',Inv X pins σ H' s'->ak H H'->H f=none->H' f=some (.frz (m6 q params body scope cl ((X.mg "__name__").getD .none) (.ref c') ctv) (.own P))->kl H' P q c'->Q (.ref f) s') :
  wpAny (model X.prog X.w) A (eval (.Lambda params body scope lpos) X.env) Q E s:=by
 refine PySem.W.kla_eval hd ?_
 rw [hq]
 have C:=PySem.W.codeHd_of_K I.kIn hC
 obtain ⟨qs,g1,g2,g3⟩:=tab_of I e
 have hg:=I.mod.glob.keeps I.bk
 obtain ⟨bm,ob,b1,b2,b3,b4,b5,b6⟩:=I.mod.bmn
 have hgP:mainGlobals≠P:=fun z=>by
  obtain ⟨o,es,ep,w1,w2,_⟩:=I.mod.glob
  have:=(I.bs _ _ w1).2
  rw [z,e] at this;cases this
 have hbP:bm≠P:=fun z=>by
  have:=(I.bs _ _ b3).2
  rw [z,e] at this;cases this
 have hbG:bm≠mainGlobals:=fun z=>by
  obtain ⟨o,es,ep,w1,w2,_⟩:=I.mod.glob
  rw [z,w1] at b3;cases b3;rw [w2] at b6;cases b6
 have hb:s.heap.BuiltinsAt X.mg P:=⟨bm,ob,b1,b2,hbG,hbP,I.bk _ _ b3,b4,b5,b6⟩
 have hcl':=dH hcl
 cases hf:codeAmong lpos qs.toList with
 | none =>
  refine PySem.W.kla_makeFunction (mg:=X.mg) hcl' I.ok.glob hg hcd C g1 g2 hf hgP hb fun c' ctv h' tk hx hge hlt hrec htb=>?_
  obtain ⟨c2,oc,vs,t,z1,z2,z3,z4⟩:=id hrec
  cases z1
  have I1:Inv X pins σ (upd H c' (.frz oc (.own P))) { s with heap:=h',toks:=tk }:=I.tabled (ps:=qs) e (fun b o hb z=>hx b o hb z) hge htb (by simpa using TriplesOk_snoc _ _ _ _ g2) (fun pos x z=>rX qs.toList g2 x (by simpa using z)) g1 z2 z3 z4
  have hn:=I.hok.fresh hge
  have kp:∀ b o,h'.get? b=some o->(h'.push (PySem.W.kla_obj "<lambda>" q params body scope cl ((X.mg "__name__").getD .none) c' ctv)).get? b=some o:=fun b o z=>Heap.get?_push_of_some _ z
  have hf1:=I1.hok.fresh (Nat.le_refl h'.objs.size)
  have hfH:H h'.objs.size=none:=I.hok.fresh (Nat.le_of_lt (Nat.lt_of_le_of_lt hge hlt))
  refine k h'.objs.size c' ctv _ _ (I1.laid (a:=h'.objs.size) (o:=.frz (m6 q params body scope cl ((X.mg "__name__").getD .none) (.ref c') ctv) (.own P)) (t':=tk) kp (Nat.le_refl _) ⟨Heap.get?_push_size _ rfl,_,Heap.get?_push_size _ rfl⟩) ((cH hn).trans (cH hf1)) hfH aq ?_
  exact kl.same ⟨oc,vs,t,aq,z3,z4⟩ (cH hf1)
 | some cv =>
  obtain ⟨c',oc,vs,t,a1,a2,a3,a4,a5⟩:=g3 lpos cv hf
  subst a1
  refine PySem.W.kla_makeFunctionHit (mg:=X.mg) hcl' I.ok.glob hg hcd C g1 g2 hf hb fun ctv h' tk hx hsz=>?_
  have kp:∀ b o,s.heap.get? b=some o->(h'.push { cls:=.type "function",data:=.func (PySem.W.kla_fn "<lambda>" q params body scope cl ((X.mg "__name__").getD .none) (.ref c') ctv) }).get? b=some o:=fun b o z=>Heap.get?_push_of_some _ (hx b o z)
  have hf1:=I.hok.fresh hsz
  refine k h'.objs.size c' ctv _ _ (I.laid (a:=h'.objs.size) (o:=.frz (m6 q params body scope cl ((X.mg "__name__").getD .none) (.ref c') ctv) (.own P)) (t':=tk) kp hsz ⟨Heap.get?_push_size _ rfl,_,Heap.get?_push_size _ rfl⟩) (cH hf1) hf1 aq ?_
  exact kl.same ⟨oc,vs,t,a2,a4,a5⟩ (cH hf1)
def BI (q:Str) (Pt:Addr) (H:Hp) (f:Addr):Prop:=∃ (pm ctv:Value) (c':Addr) (params:Arguments) (scope:Scope) (x:Str) (j:Nat) (p:Pos),
 H f=some (.frz (m6 q params (.Constant (.bool false) j p) scope [] pm (.ref c') ctv) (.own Pt))/\kl H Pt q c' ∧
 (∀ u:Value,bindArgs (PySem.W.kla_fn "<lambda>" q params (.Constant (.bool false) j p) scope [] pm (.ref c') ctv) ⟨[u],[]⟩=pure [(x,u)]) ∧
 scope.isCoroutine=false/\scope.isGenerator=false/\scope.kind=.function/\(∀ y∈scope.names,y.2≠.cell)/\scope.names.lookup x=some .local
theorem BI.same {q:Str}{Pt f:Addr}{H H':Hp} (h:BI q Pt H f) (s:ak H H'):BI q Pt H' f:=by
 obtain ⟨pm,ctv,c',params,scope,x,j,p,h1,h2,h3⟩:=h
 exact ⟨pm,ctv,c',params,scope,x,j,p,s _ _ h1,h2.same s,h3⟩
end
section
variable {X:Cx}
end
def Dw:List V->Hp->VK->Prop:=fun vs H Q=>match vs with
 | [.ref a]=>∃ kvs,Rd H a (.dK kvs)/\Q (.int kvs.length) H
 | _=>False
theorem vm {X:Cx}:bw X (.builtin "len") Dw:=by
 intro pins s σ H xs us Q I r h
 match xs,h with
 | [.ref a],h =>
  obtain ⟨kvs,ha,q⟩:=h
  obtain ⟨u,rfl,r2⟩:=vals1 r
  cases r2
  exact Df I ha fun t s' I'=>⟨.int kvs.length,H,I',⟨t,rfl⟩,q⟩
def yY:List V->Hp->VK->Prop:=fun vs H Q=>match vs with
 | [.ref a]=>∃ kvs:List (Int × V),Rd H a (.dK (kvs.map fun q=>(.inl q.1,q.2)))/\kvs.length < 64/\∀ ns:List Int,ns.Perm (kvs.map (·.1))->ns.Pairwise (·<=·)->nw H (.lst (ns.map V.int)) Q
 | _=>False
theorem vE {a:Addr}{H:Hp}{Q:VK}:yY [.ref a] H Q=(∃ kvs:List (Int × V),Rd H a (.dK (kvs.map fun q=>(.inl q.1,q.2)))/\kvs.length < 64/\∀ ns:List Int,ns.Perm (kvs.map (·.1))->ns.Pairwise (·<=·)->nw H (.lst (ns.map V.int)) Q):=propext Iff.rfl
theorem qN:∀ {vs:List Value}{ns:List Int},vs.length=ns.length->(∀ (i:Nat) v,vs[i]?=some v->∃ n t,ns[i]?=some n/\v=.int n t)->IntsAre vs ns
 | [],[],_,_=>.nil
 | v::vs,n::ns,hl,h=>by
  obtain ⟨m,t,e,rfl⟩:=h 0 v rfl
  cases e
  exact .cons _ t (qN (by simpa using hl) fun i v e=>h (i + 1) v (by simpa using e))
theorem jN:∀ {ns:List Int}{us:List Value},IntsAre us ns->Vals (ns.map V.int) us
 | _,_,.nil=>.nil
 | _,_,.cons z t h=>.cons ⟨t,rfl⟩ (jN h)
section
variable {prog:Program}{w:World}{A:Around}{E:Value->Shared->Prop}{s:Shared}
theorem zo {T:String}{r d:Addr}{n:Nat}{Pv:Nat->Value->Prop}{OK:Heap->Prop}{ns:List Int}{Q:Value->Shared->Prop} (K:PySem.W.KdlSrc prog w T r d n Pv OK) (hh:A.handled=none) (hok:OK s.heap) (hn:n < 64) (hl:ns.length=n)
  (hv:∀ (i:Nat) v,i < n->Pv i v->∃ m t,ns[i]?=some m/\v=.int m t)
  (k:∀ (h1 h':Heap) (tk:Nat) (out:Array Value) (ms:List Int) (c:Nat),(∀ b o,s.heap.get? b=some o->h1.get? b=some o)->(∀ b o,h1.get? b=some o->h'.get? b=some o)->h'.get? h1.objs.size=some (seqObj "list" out c)->IntsAre out.toList ms->ms.Perm ns->ms.Pairwise (·<=·)->Q (.ref h1.objs.size) { s with heap:=h',toks:=tk }) :
  wpAny (model prog w) A (call (.builtin "sorted") [.ref r]) Q E s:=by
 refine Calls.call_function_entry kind_sorted plain_sorted entry_sorted (args_sorted1 _) ?_
 unfold Builtin.«sorted»
 have hz:n<=sizeLine:=Nat.le_of_lt (Nat.lt_of_lt_of_le hn (by rw [sizeLine_eq];omega))
 refine wpAny_bind (m:=checkCount "sorted" 1 1 _) (wpAny_pure (wpAny_bind (PySem.W.kdu_collect (A:=A.in1) K hh hok hz fun h1 tk acc k1 hacc=>?_)))
 have la:acc.toList.length=n:=by rw [Array.length_toList];exact hacc.1
 have hI:IntsAre acc.toList ns:=qN (by rw [la,hl]) fun i v e=>hv i v (by rw [← la];exact (List.getElem?_eq_some_iff.mp e).1) (hacc.2 i v (by rw [← Array.getElem?_toList];exact e))
 generalize acc.toList=vs at hI la
 refine wpAny_bind (wpAny_newList ?_ (by rw [la];exact hz))
 have gL:(h1.push (seqObj "list" vs.toArray 0)).get? h1.objs.size=some (seqObj "list" vs.toArray 0):=Heap.get?_push_size _ rfl
 refine wpAny_bind (wpAny_holding (wpAny_call_entry slot_list_sort ⟨_,gL,rfl⟩ entry_list_sort (list_sort_tree gL hI (by omega) fun out ms b1 b2 b3=>⟨_,rfl,wpAny_pure ⟨_,rfl,?_⟩⟩) (args_list_sort _)))
 obtain ⟨e1,g1⟩:∃ e1,((h1.push (seqObj "list" vs.toArray 0)).update h1.objs.size (Obj.mapSeq fun _=>#[])).get? h1.objs.size=some (seqObj "list" #[] e1):=⟨_,get?_update_seq gL fun _=>#[]⟩
 have g2:((((h1.push (seqObj "list" vs.toArray 0)).update h1.objs.size (Obj.mapSeq fun _=>#[])).push (seqObj "tuple" vs.toArray 0)).push (seqObj "list" #[] 0)).get? h1.objs.size=some (seqObj "list" #[] e1):=Heap.get?_push_of_some _ (Heap.get?_push_of_some _ g1)
 refine show Q (.ref h1.objs.size) { s with heap:=sortedHeap (h1.push (seqObj "list" vs.toArray 0)) h1.objs.size vs out,toks:=tk } from ?_
 obtain ⟨c3,g3⟩:∃ c3,(sortedHeap (h1.push (seqObj "list" vs.toArray 0)) h1.objs.size vs out).get? h1.objs.size=some (seqObj "list" out c3):=⟨_,get?_update_seq g2 fun _=>out⟩
 refine k h1 _ tk out ms c3 k1 (fun b o z=>?_) g3 b1 b2 b3
 have hb:h1.objs.size≠b:=Nat.ne_of_gt (Heap.lt_size z)
 exact (Heap.get?_update_other _ _ hb).trans (Heap.get?_push_of_some _ (Heap.get?_push_of_some _ ((Heap.get?_update_other _ _ hb).trans (Heap.get?_push_of_some _ z))))
end
theorem lC {X:Cx} (hc:X.calm=true):bw X (.builtin "sorted") yY:=by
 intro pins s σ H xs us Q I r h
 match xs,h with
 | [.ref a],h =>
  obtain ⟨kvs,ha,h64,k⟩:=h
  obtain ⟨u,rfl,r2⟩:=vals1 r
  cases r2
  obtain ⟨z,hd,vs,rel,dd⟩:=jo I.hok ha
  obtain ⟨ep,hat⟩:=dd.dictAt
  have lv:(kvs.map fun q=>((.inl q.1,q.2):Key × V)).length=vs.length:=Paired.length rel
  rw [List.length_map] at lv
  refine zo (ns:=kvs.map (·.1)) (PySem.W.kdl_dict (knd:=aI X.prog X.w) (kvs:=vs) (ep:=ep) hd) (I.ok.hd hc) hat (by omega) (by rw [List.length_map];omega) (fun i v hi hP=>?_) fun h1 h' tk out ms c k1 k2 hg hS hp hs=>?_
  ·obtain ⟨kk,x,e,hk⟩:=hP
   have e1:kvs[i]?=some (kvs[i]'(by omega)):=List.getElem?_eq_getElem _
   have e2:(kvs.map fun q=>((.inl q.1,q.2):Key × V))[i]?=some (.inl (kvs[i]'(by omega)).1,(kvs[i]'(by omega)).2):=by rw [List.getElem?_map,e1];rfl
   obtain ⟨y,ey,f1,f2⟩:=cZ rel e2
   rw [e] at ey
   cases ey
   have f1':kk=.inl (kvs[i]'(by omega)).1:=f1.symm
   subst f1'
   obtain ⟨t,et⟩:∃ t,v=.int (kvs[i]'(by omega)).1 t:=by
    have hk':ip (Sum.inl (kvs[i]'(by omega)).1) v=true:=hk
    rcases bD hk' with ⟨n,t,e3,e4⟩ | ⟨y,t,e3,e4⟩
    ·rw [Sum.inl.inj e3];exact ⟨t,e4⟩
    ·cases e3
   exact ⟨_,t,by rw [List.getElem?_map,e1];rfl,et⟩
  ·have I1:Inv X pins σ H { s with heap:=h1,toks:=tk }:=I.kept (t':=tk) k1
   have hn:=I1.hok.fresh (Nat.le_refl h1.objs.size)
   have lw:=hp.length_eq
   rw [List.length_map] at lw
   exact ⟨.ref h1.objs.size,upd H h1.objs.size (.lst (ms.map V.int)),I1.laid (t':=tk) (o:=.lst (ms.map V.int)) k2 (Nat.le_refl _) ⟨by rw [List.length_map,lw];exact Nat.le_of_lt (Nat.lt_of_lt_of_le h64 (by rw [sizeLine_eq];omega)),out.toList,c,jN hS,by rw [Array.toArray_toList];exact hg⟩,rfl,k ms hp hs _ _ hn (cH hn) aq⟩
end L2

namespace L2
open PySem PySem.Spec PyProof.Rows
theorem uF {α β:Type} (f:α->β):∀ (l:List α) (j:Nat),(l.map f).eraseIdx j=(l.eraseIdx j).map f
 | [],_=>rfl
 | _::_,0=>rfl
 | x::r,j + 1=>by
  show f x::(r.map f).eraseIdx j=f x::(r.eraseIdx j).map f
  rw [uF f r j]
def iw {κ:Type} [DecidableEq κ] (kvs:List (κ × V)) (k:κ):List (κ × V):=kvs.filter fun q=>decide (q.1≠k)
theorem rj {κ:Type} [DecidableEq κ] (kvs:List (κ × V)) (k:κ):(iw kvs k).length<=kvs.length:=List.length_filter_le _ _
theorem KV.out {kvs:List (Key × V)}{xs:List (Key × Value)} (r:KV kvs xs) (k:Key):KV (iw kvs k) (without xs k):=by
 induction r with
 | nil=>exact .nil
 | @cons a b l₁ l₂ f t ih =>
  obtain ⟨e,rv⟩:=f
  unfold iw without at *
  by_cases h:a.1=k
  ·rw [List.filter_cons_of_neg (by simp [h]),List.filter_cons_of_neg (by simp [← e,h])];exact ih
  ·rw [List.filter_cons_of_pos (by simp [h]),List.filter_cons_of_pos (by simp [← e,h])];exact .cons ⟨e,rv⟩ ih
def Bu:V->List V->Hp->VK->Prop:=fun x vs H Q=>match x,vs with
 | .ref d,[y]=>∃ kvs k v,H d=some (.dK kvs)/\y=kV k/\bS kvs k=some v/\Q v (upd H d (.dK (iw kvs k)))
 | _,_=>False
theorem qI {d:Addr}{y:V}{H:Hp}{Q:VK}:Bu (.ref d) [y] H Q=(∃ kvs k v,H d=some (.dK kvs)/\y=kV k/\bS kvs k=some v/\Q v (upd H d (.dK (iw kvs k)))):=propext Iff.rfl
theorem ph {X:Cx}:MtM X "dict.pop" Bu:=by
 intro pins s σ H x vs v us Q I rx rv h
 match x,vs,h with
 | .ref d,[y],h =>
  obtain ⟨kvs,k,v',hd,rfl,hv,q⟩:=h
  cases rx
  obtain ⟨u1,rfl,ry⟩:=rv.one
  obtain ⟨z,hs,xs,rel,dd⟩:=qG I.hok hd
  have hxl:xs.length<=sizeLine:=by rw [← rel.length];exact z
  have hT:s.TypeIs (.ref d) "dict":=by obtain ⟨o,_,_,e,ex,_⟩:=dd;exact ⟨o,e,ex.1⟩
  obtain ⟨w2,hw2,rw2⟩:=gd.some_of (v:=v') (o:=valueAt xs k) (by rw [← hv];exact rel.val k)
  have hpart:(keyPart u1).isSome=true:=by
   cases k with
   | inl i=>obtain ⟨t,rfl⟩:=ry;rfl
   | inr i=>obtain ⟨t,rfl⟩:=ry;rfl
  refine call_meetsIn F.slot_dict_pop hT F.entry_dict_pop (F.args_dict_pop_2 _ _) (meets_dict_pop_there (aI X.prog X.w) d (kz ry) [] (.inl rfl) hpart) ⟨xs,w2,dd,hxl,hw2,fun h' dd' hsb=>?_⟩
  have he:∃ q,h'.get? d=some q:=let ⟨q,_,_,hq,_⟩:=dd';⟨q,hq⟩
  exact ⟨v',_,kZ I (by rw [hd];exact True.intro) hsb he (xy (Nat.le_trans (rj _ _) z) hs (rel.out k) dd'),rw2,q⟩
section
variable {prog:Program}{w:World}{K:Type} [DecidableEq K] {knd:HeapKind prog w K}{A:Around}{E:Value->Shared->Prop}{s:Shared}{d a:Addr}{xs:List (K × Addr × Value)}{k:K}
def pH (xs:List (K × Addr × Value)) (k:K):List (K × Addr × Value):=xs.filter fun q=>decide (q.1≠k)
theorem nO:∀ {xs:List (K × Addr × Value)}{j:Nat}{x:K × Addr × Value},(xs.map (·.1)).Nodup->xs[j]?=some x->xs.eraseIdx j=pH xs x.1
 | y::r,0,x,hn,h=>by
  have e:y=x:=by simpa using h
  subst e
  obtain ⟨h1,h2⟩:=List.nodup_cons.mp hn
  show r=pH (y::r) y.1
  unfold pH
  rw [List.filter_cons_of_neg (by simp)]
  refine (List.filter_eq_self.mpr fun q hq=>?_).symm
  exact decide_eq_true fun e=>h1 (by show y.1∈_;rw [← e];exact List.mem_map_of_mem hq)
 | y::r,j + 1,x,hn,h=>by
  obtain ⟨h1,h2⟩:=List.nodup_cons.mp hn
  have hx:r[j]?=some x:=by simpa using h
  show y::r.eraseIdx j=pH (y::r) x.1
  unfold pH
  have hne:y.1≠x.1:=fun e=>h1 (by show y.1∈_;rw [e];exact List.mem_map_of_mem (List.mem_of_getElem? hx))
  rw [List.filter_cons_of_pos (by rw [decide_eq_true hne]),nO h2 hx];rfl
theorem yO {Q:Option DictEntry->Shared->Prop}{p:Addr × Value} (hu:knd.room A) (hkey:knd.is s.heap k a) (hm:s.heap.DictOfH knd d xs) (hsz:xs.length<=sizeLine) (hp:atKey xs k=some p)
  (h:∀ e:DictEntry,e.val=p.2->∀ h',h'.DictOfH knd d (pH xs k)->Heap.SameBut d s.heap h'->Q (some e) { s with heap:=h',toks:=s.toks + knd.draws k }):wpAny (model prog w) A (Builtin.Dict.takeOut d (.ref a)) Q E s:=by
 obtain ⟨o,es,ep,g1,g2,g3,g4,g5,g6⟩:=hm
 unfold Builtin.Dict.takeOut
 try with_reducible refine wpAny_holding ?_
 refine wpAny_bind (knd.pyHash hu hkey (wpAny_bind (wpAny_dictFind_heap (s:={ s with toks:=s.toks + knd.draws k }) hu hkey g1 g3 g4 g5 g6 (fun hno=>?_) fun j p' hj=>?_)))
 ·rw [atKey_none_of_get hno] at hp;cases hp
 ·have e1:=atKey_of_get g6 hj
  rw [hp] at e1
  cases e1
  have ez:=size_of_entries g4
  refine wpAny_bind (wpAny_dictEntries (s:={ s with toks:=s.toks + knd.draws k }) g1 g3 ?_)
  rw [entry_at g4 j,hj]
  refine wpAny_bind (wpAny_updateDictKeys (hz:=by omega) (s:={ s with toks:=s.toks + knd.draws k }) g1 g3 (wpAny_pure (h _ rfl _ ⟨_,_,ep + 1,Heap.get?_update_self _ g1 (Obj.isFreed_of_dict (Obj.data_mapDictKeys g3 _)),g2.mapDictKeys _,Obj.data_mapDictKeys g3 _,?_,?_,?_⟩ (Heap.SameBut.update ..))))
  ·rw [← nO g6 hj,← uF,← g4]
   obtain ⟨l⟩:=es
   simp
  ·intro x hx
   exact knd.keeps (g5 x ((List.mem_filter.mp hx).1)) g1 g3 (Heap.SameBut.update ..)
  ·exact List.Nodup.sublist (List.Sublist.map _ List.filter_sublist) g6
theorem sG:MeetsIn prog w (Builtin.«dict.pop» ⟨[.ref d,.ref a],[]⟩) (fun A R s=>knd.room A.in1/\∃ k xs p,knd.is s.heap k a/\s.heap.DictOfH knd d xs/\xs.length<=sizeLine/\atKey xs k=some p ∧
  (∀ h',h'.DictOfH knd d (pH xs k)->Heap.SameBut d s.heap h'->R (.ok (.ret p.2)) { s with heap:=h',toks:=s.toks + knd.draws k })) :=
 .of_wp fun A R s ⟨hu,k,xs,p,hkey,hm,hz,hp,h⟩=>by
  unfold Builtin.«dict.pop» Builtin.Dict.keyAndDefault
  refine wpAny_bind (wpAny_bind (wpAny_notOrdered_dict hm.typeIs ?_))
  refine show wpAny _ _ (pure (d,Value.ref a,none)) _ _ s from wpAny_pure ?_
  have hm':=hm
  obtain ⟨o,es,ep,g1,g2,g3,g4,g5,g6⟩:=hm'
  refine wpAny_bind (wpAny_dictEntries g1 g3 ?_)
  refine wpAny_bind (wpAny_pure ?_)
  have ne:es.isEmpty=false:=by
   cases hx:xs with
   | nil=>rw [hx] at hp;cases hp
   | cons x r =>
    have:=size_of_entries g4
    rw [hx,List.length_cons] at this
    simp [Array.isEmpty,this]
  rw [ne]
  refine wpAny_bind (yO hu hkey hm hz hp fun e ev h' m' s'=>?_)
  refine wpAny_bind (wpAny_letGo (wpAny_pure ⟨e.val,rfl,by rw [ev];exact h h' m' s'⟩))
end
theorem KT.out {H:Hp}{kvs:List (List Key × V)}{xs:List (List Key × Addr × Value)} (r:KT H kvs xs) (k:List Key):KT H (iw kvs k) (pH xs k):=by
 unfold KT at *
 induction r with
 | nil=>exact .nil
 | @cons a b l₁ l₂ f t ih =>
  have e:a.1=b.1:=f.1
  unfold iw pH at *
  by_cases h:a.1=k
  ·rw [List.filter_cons_of_neg (by simp [h]),List.filter_cons_of_neg (by simp [← e,h])];exact ih
  ·rw [List.filter_cons_of_pos (by simp [h]),List.filter_cons_of_pos (by simp [← e,h])];exact .cons f ih
def Bv:V->List V->Hp->VK->Prop:=fun x vs H Q=>match x,vs with
 | .ref d,[.ref b]=>∃ kvs k v,H d=some (.dT kvs)/\H b=some (.tup (k.map kV))/\bS kvs k=some v/\Q v (upd H d (.dT (iw kvs k)))
 | _,_=>False
theorem qJ {d b:Addr}{H:Hp}{Q:VK}:Bv (.ref d) [.ref b] H Q=(∃ kvs k v,H d=some (.dT kvs)/\H b=some (.tup (k.map kV))/\bS kvs k=some v/\Q v (upd H d (.dT (iw kvs k)))):=propext Iff.rfl
theorem Al {X:Cx} (hu:X.A.units + 1 < cLine):MtM X "dict.pop" Bv:=by
 intro pins s σ H x vs v us Q I rx rv h
 match x,vs,h with
 | .ref d,[.ref b],h =>
  obtain ⟨kvs,k,v',hd,hb,hv,q⟩:=h
  cases rx
  obtain ⟨u1,rfl,ry⟩:=rv.one
  cases ry
  obtain ⟨z,hs,xs,rel,dd⟩:=Bi I.hok hd
  have hxl:xs.length<=sizeLine:=by rw [← Paired.length rel];exact z
  obtain ⟨w2,hw2,rw2⟩:=gd.some_of (v:=v') (o:=(atKey xs k).map (·.2)) (by rw [← hv];exact rel.val k)
  obtain ⟨p,hp,hp2⟩:=Option.map_eq_some_iff.mp hw2
  refine call_meetsIn F.slot_dict_pop dd.typeIs F.entry_dict_pop (F.args_dict_pop_2 _ _) (sG (knd:=tupleKind (aI X.prog X.w))) ⟨tupleKind_room_in1 hu,k,xs,p,jc I.hok hb,dd,hxl,hp,fun h' dd' hsb=>?_⟩
  obtain ⟨q',es,ep,e1,e2,e3,e4,_,e5⟩:=dd'
  refine ⟨v',upd H d (.dT (iw kvs k)),kZ I (by rw [hd];exact True.intro) hsb ⟨q',e1⟩ ⟨Nat.le_trans (rj _ _) z,hs,_,(rel.out k).keeps fun c ys ec=>?_,q',es,ep,e1,e2,e3,e4,e5⟩,by rw [hp2];exact rw2,q⟩
  rw [aj (aC ec hd (fun z=>nomatch z))]
  exact ec
end L2

namespace L2
open PySem PySem.Spec PyProof.Rows
section
variable {prog:Program}{w:World}{A:Around}{E:Value->Shared->Prop}{s:Shared}
end
section
variable {prog:Program}{w:World}{A:Around}{E:Value->Shared->Prop}{s:Shared}
end
section
variable {X:Cx}
end
end L2

namespace L2
open PySem PySem.Spec PyProof.Rows
def UnX (H H':Hp) (h h':Heap):Prop:=∃ fs,Un fs [] H H' h h'
theorem Un.BH {fs fs':List Addr}{H H':Hp}{h h':Heap} (u:Un fs [] H H' h h') (hs:∀ b∈fs,b∈fs'):Un fs' [] H H' h h' where
 keep:=fun b o e n hb he=>u.keep b o e n (fun z=>hb (hs b z)) he
 slot:=fun b o e n _ he=>u.any e n he
 free:=u.free
 there:=u.there
 tups:=u.tups
 frzs:=u.frzs
 tbls:=u.tbls
theorem UnX.trans {H H1 H2:Hp}{h h1 h2:Heap} (a:UnX H H1 h h1) (b:UnX H1 H2 h1 h2):UnX H H2 h h2:=by
 obtain ⟨f,a⟩:=a
 obtain ⟨g,b⟩:=b
 exact ⟨f++g,(a.BH fun x hx=>List.mem_append_left _ hx).trans (b.BH fun x hx=>List.mem_append_right _ hx)⟩
def fm (H:Hp) (f:Addr):Prop:=∃ (q:Str) (params:Arguments) (body:Expr) (scope:Scope) (cl:List (Str × Addr)) (pm cd ctv:Value) (u:HO),H f=some (.frz (m6 q params body scope cl pm cd ctv) u)
theorem fm.same {H H':Hp}{f:Addr} (h:fm H f) (s:ak H H'):fm H' f:=by
 obtain ⟨q,a,b,c,d,e,g,i,u,h⟩:=h
 exact ⟨q,a,b,c,d,e,g,i,u,s _ _ h⟩
theorem fm.fn {X:Cx}{pins:List (Addr × Obj)}{σ:St}{H:Hp}{s:Shared}{f:Addr} (I:Inv X pins σ H s) (h:fm H f):PySem.W.FnAt f s.heap:=by
 obtain ⟨q,a,b,c,d,e,g,i,u,h⟩:=h
 exact ⟨_,_,_,_,(I.hok f _ h).1⟩
abbrev XF:XK:=fun _ _ _=>False
section
variable {P:Program}{w:World}{K:PySem.W.Frag}{mg:Str->Option Value}{base:Heap}
def gI (P:Program) (w:World) (K:PySem.W.Frag) (mg:Str->Option Value) (base:Heap) (k n:Nat) (f:Addr) (sp:Sp) (s₀:Shared) (H₀:Hp):Prop :=
 ∀ (A:Around) (outer:List Env) (s:Shared) (H:Hp) (us:List Value) (vs:List V) (Q:VK),bA k A->jO P w K mg base A outer s H->UnX H₀ H s₀.heap s.heap->Vals vs us->vs.length=n->sp vs H Q XF →
  codeAny (model P w) A (.call (.ref f) ⟨us,[]⟩) (CR (CX1 P w) outer P w H s Q XF) s
theorem gI.later {k n:Nat}{f:Addr}{sp:Sp}{s₀ s₁:Shared}{H₀ H₁:Hp} (S:gI P w K mg base k n f sp s₀ H₀) (u:UnX H₀ H₁ s₀.heap s₁.heap):gI P w K mg base k n f sp s₁ H₁ :=
 fun A outer s H us vs Q hr e0 u2=>S A outer s H us vs Q hr e0 (u.trans u2)
structure pZ (P:Program) (w:World) (K:PySem.W.Frag) (mg:Str->Option Value) (base:Heap) (CX:CXT) (k:Nat) (f:Addr) (fd:FuncData) (ps:List Str) (sp:Shared->Sp):Prop where
 len:∀ s vs H Q E,sp s vs H Q E->vs.length=ps.length
 run:∀ (A:Around) (outer:List Env) (s:Shared) (H:Hp) (args:Args) (us:List Value) (vs:List V) (Q:VK) (E:XK),bA k A->jO P w K mg base A outer s H->BindsTo s fd args (ps.zip us)->Vals vs us->sp s vs H Q E →
  codeAny (model P w) A (.call (.ref f) args) (CR CX outer P w H s Q E) s
end
theorem BR {CX:CXT}{P:Program}{w:World}{K:PySem.W.Frag}{mg:Str->Option Value}{base:Heap}{k:Nat}{f:Addr}{name qual:Str}{params:Arguments}{body:List Stmt}{scope:Scope}{dV kV doc pm cdv ct oc:Value}{an od:Option Addr}
  {osl:Array (Option Value)}{N ps:List Str}{sp:Shared->Sp} (lk:K.lookup f=some ⟨oc,od,.func (PySem.W.fnOf name qual params body scope dV kV doc pm an cdv ct),osl⟩) (hcd:PySem.W.codeIn K cdv qual=true) (S:aA N ps scope)
  (len:∀ s vs H Q E,sp s vs H Q E->vs.length=ps.length)
  (hbody:∀ (A:Around) (outer:List Env) (s:Shared) (H:Hp) (vs:List V) (Q:VK) (E:XK),bA k (A.deeper (envOfC qual scope s.heap.objs.size f cdv))->sp s vs H Q E →
   ∃ t,PSs (iS CX P w K mg base N qual scope f cdv A outer s H E) body t/\t { nx:=fun _ H'=>Q .non H',rt:=Q } (start N vs) H) :
  pZ P w K mg base CX (k + 1) f (PySem.W.fnOf name qual params body scope dV kV doc pm an cdv ct) ps sp:=by
 refine ⟨len,fun A outer s H args us vs Q E hr e0 hb r hsp=>?_⟩
 have hl:=len _ _ _ _ _ hsp
 have KX:K.In s.heap:=e0.mod.kin.keeps fun b o e=>(e0.bs b o e).1
 have lim:s.heap.NoLimit:=e0.mod.nolimit.keeps fun b o e=>(e0.bs b o e).1
 have hkind:∀ y∈ps.zip us,scope.names.lookup y.1=some .local ∨ (scope.names.lookup y.1=some .cell/\((cellsFrom (s.heap.objs.size + 1) scope.names []).lookup y.1).isSome=true):=fun ⟨n,v⟩ hy=>by
  rcases S.par n (List.of_mem_zip hy).1 with q | q
  ·exact .inl q
  ·exact .inr ⟨q,PySem.W.cellsFrom_some _ _ _ (.inl q)⟩
 refine codeAny_call_function hr.depth (KX _ _ lk) rfl S.co S.gen rfl (PySem.W.codeRec_of KX hcd) (hb _ _ _ _ ?_)
 refine wpAny_newFunctionEnv_cells S.kind hkind fun env he s1 x=>?_
 subst he
 refine ⟨lim.keeps x.toInCall.keep,codeAny_func ?_⟩
 obtain ⟨t,ht,hq⟩:=hbody A outer s H vs Q E (hr.deeper _) hsp
 have I:Inv (iS CX P w K mg base N qual scope f cdv A outer s H E) [] (start N vs) H s1:=oj S hr.hd e0 hl r x
 refine wpAny_mono (ht [] s1 (start N vs) H _ I hq) (fun fl s' hs=>?_) fun e s' hs=>hs
 have fin:∀ {σ':St}{H':Hp}{v:V}{u:Value},Inv (iS CX P w K mg base N qual scope f cdv A outer s H E) [] σ' H' s'->RelV v u->Q v H'->CE outer P w H s Q u s' :=
  fun {σ' H' v u} J rv q=>⟨v,H',J.os,J.bare,J.base,J.hok,rv,q⟩
 cases fl with
 | ret u =>
  obtain ⟨v,σ',H',J,rv,q⟩:=hs
  exact fin J rv q
 | next =>
  obtain ⟨σ',H',J,q⟩:=hs
  exact fin (v:=V.non) (u:=Value.none) J rfl q
 | brk =>
  obtain ⟨_,_,_,q⟩:=hs
  exact False.elim q
 | cont =>
  obtain ⟨_,_,_,q⟩:=hs
  exact False.elim q
def uk (P:Program) (w:World) (K:PySem.W.Frag) (mg:Str->Option Value) (base:Heap) (N:List Str) (q:Str) (scope:Scope) (f:Addr) (cd:Value) (cl:List (Str × Addr)) (A:Around) (outer:List Env) (s:Shared) (H:Hp):Cx where
 prog:=P
 w:=w
 K:=K
 mg:=mg
 base:=base
 A:=A.deeper (PySem.W.envX q scope s.heap.objs.size f cd cl)
 N:=N
 s₀:=s
 H₀:=H
 env:=PySem.W.envX q scope s.heap.objs.size f cd cl
 outer:=outer
 stack:=PySem.W.envX q scope s.heap.objs.size f cd cl::outer
 ex:=[]
 calm:=true
 fn:=fun _=>false
 pn:=[]
 xe:=fun _ _=>False
theorem ot {x:Str}{u:Value}:∀ {l:List (Str × Value)},(l.map (·.1)).Nodup->(x,u)∈l->l.lookup x=some u
 | [],_,h=>by cases h
 | (y,v)::l,hn,h=>by
  rw [List.lookup_cons]
  rcases List.mem_cons.mp h with e | e
  ·cases e
   simp
  ·have hne:x≠y:=fun z=>(List.nodup_cons.mp hn).1 (by rw [← z];exact List.mem_map.mpr ⟨_,e,rfl⟩)
   rw [show (x == y)=false by simpa using hne]
   exact ot (List.nodup_cons.mp hn).2 e
theorem IsCell.on {H H':Hp}{h h':Heap}{c:Addr}{v:Option Value} (u:UnX H H' h h') (n:H c=none) (e:h.IsCell c v):h'.IsCell c v:=by
 obtain ⟨fs,u⟩:=u
 obtain ⟨o,e1,e2⟩:=e
 obtain ⟨sl,z⟩:=u.any e1 n (by simp)
 exact ⟨_,z,e2⟩
def zI (X:Cx) (scope:Scope) (fr:List Str) (js:List Nat):Prop:=Paired (fun (x:Str) (j:Nat)=>X.N[j]?=some x/\Vis X.env.scope x/\scope.names.lookup x=some .free/\(x,NameKind.free)∈scope.names/\X.env.kindOf x=some .cell) fr js
abbrev qw (js:List Nat) (σ:St):St:=js.map fun j=>σ[j]?.join
theorem ui {X:Cx}{scope:Scope}:∀ {fr:List Str}{js:List Nat},zI X scope fr js->∀ {i:Nat}{x:Str},fr[i]?=some x->∃ j,js[i]?=some j/\X.N[j]?=some x/\Vis X.env.scope x/\scope.names.lookup x=some .free/\(x,NameKind.free)∈scope.names/\X.env.kindOf x=some .cell
 | _,_,.nil,i,x,e=>by simp at e
 | _,_,.cons h r,0,x,e=>by simp at e;subst e;exact ⟨_,rfl,h⟩
 | _,_,.cons h r,i + 1,x,e=>ui r (by simpa using e)
theorem qx {X:Cx}{scope:Scope}:∀ {fr:List Str}{js:List Nat},zI X scope fr js->fr.length=js.length
 | _,_,.nil=>rfl
 | _,_,.cons h r=>congrArg (· + 1) (qx r)
theorem ym {X:Cx}{pins:List (Addr × Obj)}{σ:St}{H:Hp}{s:Shared}{ps fr:List Str}{js:List Nat}{q:Str}{params:Arguments}{body:Expr}{scope:Scope}{cl:List (Str × Addr)}{pm ctv:Value}{c' Pt f:Addr}{te:TE}{k:Nat}
  (I:Inv X pins σ H s) (hf:H f=some (.frz (m6 q params body scope cl pm (.ref c') ctv) (.own Pt))) (hc:kl H Pt q c') (hcl:clo X.env.cells scope.names []=some cl)
  (hbind:∀ us:List Value,us.length=ps.length->bindArgs (PySem.W.kla_fn "<lambda>" q params body scope cl pm (.ref c') ctv) ⟨us,[]⟩=pure (ps.zip us))
  (hco:scope.isCoroutine=false) (hgen:scope.isGenerator=false) (hk:scope.kind=.function) (hcell:∀ y∈scope.names,y.2≠.cell) (hps:∀ x∈ps,scope.names.lookup x=some .local) (hnd:ps.Nodup) (hcap:zI X scope fr js)
  (hbody:∀ (A:Around) (outer:List Env) (s:Shared) (H:Hp),bA k (A.deeper (PySem.W.envX q scope s.heap.objs.size f (.ref c') cl))->PE (uk X.prog X.w X.K X.mg X.base (ps++fr) q scope f (.ref c') cl A outer s H) body te) :
  gI X.prog X.w X.K X.mg X.base (k + 1) ps.length f (fun vs H Q _=>te (vs.map some++qw js σ) H Q) s H:=by
 intro A outer s' H' us vs Q hr e0 u r hl hq
 have hf':H' f=some (.frz (m6 q params body scope cl pm (.ref c') ctv) (.own Pt)):=by obtain ⟨fs,u⟩:=u;exact u.frzs _ _ _ hf
 have lus:us.length=ps.length:=by rw [← r.length];exact hl
 have hrec:s'.heap.CodeRec (.ref c') q:=by
  obtain ⟨oc,vs',t,h1,h2,h3⟩:=hc
  obtain ⟨fs,u⟩:=u
  exact ⟨c',oc,vs',t,rfl,(e0.hok c' _ (u.frzs _ _ _ h1)).1,h2,h3⟩
 have sub:=iK scope.names [] cl hcl (fun x c e=>by cases e)
 have cells:∀ x c,cl.lookup x=some c->(∀ v,s.heap.IsCell c v->s'.heap.IsCell c v)/\H' c=none:=fun x c e=>by
  have n:=I.freeC x c (sub x c e)
  obtain ⟨v,o,o1,o2⟩:=I.cell x c (sub x c e)
  refine ⟨fun v hv=>IsCell.on u n hv,?_⟩
  obtain ⟨fs,u⟩:=u
  exact u.free c o o1 n (by simp)
 refine PySem.W.kla_callFunE hr.depth (e0.hok f _ hf').1 rfl hco hgen rfl hrec ?_
 rw [hbind us lus]
 refine wpAny_pure (wpAny_newFunctionEnv hcell (fun y hy=>?_) (fun h₁ hns hsb=>⟨?_,?_⟩) hk)
 ·exact hps _ (List.of_mem_zip hy).1
 ·exact (e0.mod.nolimit.keeps fun b o e=>(e0.bs b o e).1).fresh _ hsb
 show codeAny _ _ (.expr _ (PySem.W.envX q scope s'.heap.objs.size f (.ref c') cl)) _ _
 have k1:∀ b o,s'.heap.get? b=some o->h₁.get? b=some o:=fun b o z=>hsb.extBut b o (Nat.ne_of_lt (Heap.lt_size z)) (Heap.get?_push_of_some _ z)
 have noA:∀ b:Addr,b ∉ (uk X.prog X.w X.K X.mg X.base (ps++fr) q scope f (.ref c') cl A outer s' H').ex:=fun b z=>absurd (show b∈([]:List Addr) from z) (by simp)
 have cl1:∀ c v,s'.heap.IsCell c v->h₁.IsCell c v:=fun c v ⟨o,z1,z2⟩=>⟨o,k1 _ _ z1,z2⟩
 have J:Inv (uk X.prog X.w X.K X.mg X.base (ps++fr) q scope f (.ref c') cl A outer s' H') [] (vs.map some++qw js σ) H' { heap:=h₁,gens:=s'.gens,drawn:=s'.drawn,toks:=s'.toks + (ps.zip us).length,os:=s'.os }:=by
  refine ⟨⟨e0.mod,hk,rfl,rfl,Nat.le_refl _,fun y z c h1 h2=>I.ok.inj y z c (sub y c h1) (sub z c h2),fun y hy=>?_,fun y c z h=>?_,fun _=>hr.hd,Around.frames_deeper e0.frames,.inr ⟨rfl,rfl⟩,fun b z=>absurd z (noA b),e0.bs,e0.bsz,fun b _ _=>noA b,fun b z=>absurd z (noA b),e0.ik,e0.frf⟩,
   rfl,e0.bare,Un.kept k1,⟨_,hns,fun i y v h1 h2 h3=>?_⟩,fun y c h=>?_,e0.hok.fresh (Nat.le_refl _),fun y c h=>(cells y c h).2,fun p hp=>absurd (show p∈([]:List (Addr × Obj)) from hp) (by simp),e0.hok.kept k1,?_⟩
  ·have hy:scope.names.lookup y=some .cell ∨ scope.names.lookup y=some .free:=hy
   rcases hy with hy | hy
   ·exact absurd rfl (hcell _ (PySem.mem_of_lookup hy))
   ·exact iJ scope.names [] cl hcl y (PySem.mem_of_lookup hy)
  ·cases z
  ·have h1':(ps++fr)[i]?=some y:=h1
   by_cases hi:i < ps.length
   ·rw [List.getElem?_append_left hi] at h1'
    rw [List.getElem?_append_left (by rw [List.length_map];omega),List.getElem?_map] at h2
    cases ev:vs[i]? with
    | none=>rw [ev] at h2;cases h2
    | some a =>
     rw [ev] at h2
     cases h2
     obtain ⟨u',hu',rv⟩:=r.get ev
     refine ⟨u',rv,.inl ⟨hps y (List.mem_of_getElem? h1'),?_⟩⟩
     have hz:(ps.zip us)[i]?=some (y,u'):=by rw [List.getElem?_zip_eq_some];exact ⟨h1',hu'⟩
     refine ot ?_ (List.mem_reverse.mpr (List.mem_of_getElem? hz))
     rw [List.map_reverse]
     refine List.pairwise_reverse.mpr ?_
     rw [show (fun x:Str × Value=>x.1)=Prod.fst from rfl,List.map_fst_zip (by omega)]
     exact hnd.imp fun h=>h.symm
   ·rw [List.getElem?_append_right (by omega)] at h1'
    rw [List.getElem?_append_right (by rw [List.length_map];omega),List.length_map,hl] at h2
    obtain ⟨j,hj,hN,hv,hfree,hmem,hkd⟩:=ui hcap h1'
    unfold qw at h2
    rw [List.getElem?_map,hj] at h2
    have h2':σ[j]?=some (some v):=by
     have h2:some (σ[j]?.join)=some (some v):=h2
     cases es:σ[j]? with
     | none=>rw [es] at h2;cases h2
     | some o=>rw [es] at h2;cases o with
      | none=>cases h2
      | some v'=>cases h2;rfl
    obtain ⟨m,_,hlk⟩:=I.loc
    obtain ⟨u',rv,lk⟩:=hlk j y v hN h2' hv
    refine ⟨u',rv,.inr ⟨.inr hfree,?_⟩⟩
    obtain ⟨c,hcy⟩:=iJ scope.names [] cl hcl y hmem
    refine ⟨c,hcy,?_⟩
    rcases lk with ⟨z,_⟩ | ⟨_,c2,z1,z2⟩
    ·rw [hkd] at z;cases z
    ·rw [sub y c hcy] at z1
     cases z1
     exact cl1 _ _ ((cells y c hcy).1 _ z2)
  ·obtain ⟨v,hv⟩:=I.cell y c (sub y c h)
   exact ⟨v,cl1 _ _ ((cells y c h).1 _ hv)⟩
  ·show _=(ps++fr).length
   rw [List.length_append,List.length_map,List.length_append,hl,List.length_map,qx hcap]
 refine PySem.W.kla_codeExpr (wpAny_mono (hbody A outer s' H' (hr.deeper _) [] _ _ _ Q J hq) (fun u2 s2 h2=>?_) fun _ _ z=>z.elim)
 obtain ⟨v,H2,J2,rv,q2⟩:=h2
 exact ⟨v,H2,J2.os,J2.bare,J2.base,J2.hok,rv,q2⟩
def zr (f:Addr) (n:Nat) (sp:Sp) (tv:TE) (t:TA):TE:=fun σ H Q=>tv σ H fun x H1=>x=.ref f/\fm H1 f/\t σ H1 fun vs H2=>fm H2 f/\vs.length=n/\sp vs H2 Q XF
theorem qd {f:Addr}{n:Nat}{sp:Sp}{tv:TE}{t:TA}{σ:St}{H:Hp}{Q:VK}:zr f n sp tv t σ H Q=tv σ H fun x H1=>x=.ref f/\fm H1 f/\t σ H1 fun vs H2=>fm H2 f/\vs.length=n/\sp vs H2 Q XF:=propext Iff.rfl
section
variable {X:Cx}
theorem pvF (i:Nat) {x:Str}{pos:Pos} (hN:X.N[i]?=some x:=by kernel_rfl) (hv:X.env.scope.names.lookup x=some .free:=by kernel_rfl) (hd:(x == ("__debug__":Str))=false:=by kernel_rfl)
  (hcd:(x == ("__classdict__":Str))=false:=by kernel_rfl):PE X (.Name x pos) (wB i):=pJ hN (.inr (.inr hv)) hd hcd
theorem zg {pins:List (Addr × Obj)}{σ:St}{H:Hp}{s:Shared}{k n:Nat}{f:Addr}{sp:Sp}{Q:VK}{us:List Value}{vs:List V} (S:gI X.prog X.w X.K X.mg X.base k n f sp X.s₀ X.H₀) (hex:X.ex=[]) (hr:bA k X.A) (I:Inv X pins σ H s) (r:Vals vs us) (hl:vs.length=n) (h:sp vs H Q XF) :
  wpAny (model X.prog X.w) X.A (call (.ref f) us) (EP X pins σ Q) X.xe s:=by
 have u:=I.base
 rw [hex] at u
 refine wpAny_call (codeAny_mono (S X.A X.stack s H us vs Q hr I.xD ⟨_,u⟩ r hl h) fun r s' hq=>?_)
 cases r with
 | error e=>exact (nN hq).elim
 | ok fl =>
  cases fl with
  | ret u=>exact I.after hq
  | next=>exact False.elim hq
  | brk=>exact False.elim hq
  | cont=>exact False.elim hq
theorem kH {k n:Nat}{f:Addr}{sp:Sp}{x:Str}{e:Expr}{es:List Expr}{tv:TE}{t:TA}{p pos:Pos} (S:gI X.prog X.w X.K X.mg X.base k n f sp X.s₀ X.H₀) (hex:X.ex=[]) (hr:bA k X.A) (hv:PE X (.Name x p) tv) (ha:PA X (e::es) t) (hs:bY (e::es)=true:=by kernel_rfl) :
  PE X (.Call (.Name x p) (e::es) [] pos) (zr f n sp tv t):=by
 intro pins s σ H Q I h
 refine wpAny_Call_Name_kw (thn (hv pins s σ H _ I h) fun u s1 ⟨v,H1,I1,r,ev,B1,q1⟩=>?_)
 subst ev
 cases r
 refine PySem.W.callWith_F (B1.fn I1) (thn (ha pos pins s1 σ H1 _ I1 q1) fun us s2 ⟨vs,H2,I2,r2,B2,l2,q2⟩=>⟨B2.fn I2,?_⟩) (aB (aE hs).1) (bL (aE hs).2)
 exact zg S hex hr I2 r2 l2 q2
end
def AM (P:Program) (w:World) (K:PySem.W.Frag) (mg:Str->Option Value) (base:Heap) (k n:Nat) (spA:Sp->Sp):Shared->Sp:=fun s vs H Q E=>∃ (f:Addr) (spf:Sp),vs.getLast?=some (.ref f)/\fm H f/\gI P w K mg base k n f spf s H/\spA spf vs H Q E
section
variable {X:Cx}
end
def iG (ts:List (Addr × Str)):Hp:=fun b=>(ts.lookup b).map gE
theorem pW:∀ {ts:List (Addr × Str)},(ts.map (·.1)).Nodup->∀ p∈ts,iG ts p.1=some (gE p.2)
 | [],_,p,h=>by cases h
 | t::r,hn,p,h=>by
  unfold iG
  rw [List.lookup_cons]
  rcases List.mem_cons.mp h with e | e
  ·subst e;simp
  ·have hne:p.1≠t.1:=fun z=>(List.nodup_cons.mp hn).1 (List.mem_map.mpr ⟨_,e,z⟩)
   rw [show (p.1 == t.1)=false by simpa using hne]
   exact pW (List.nodup_cons.mp hn).2 p e
theorem yr {b:Addr}{q:Str}:∀ {ts:List (Addr × Str)},ts.lookup b=some q->(b,q)∈ts
 | [],h=>by cases h
 | (c,r)::ts,h=>by
  rw [List.lookup_cons] at h
  by_cases e:b=c
  ·subst e
   simp at h
   subst h
   exact List.mem_cons_self
  ·rw [show (b == c)=false by simpa using e] at h
   exact List.mem_cons_of_mem _ (yr h)
theorem jL {ts:List (Addr × Str)}{b:Addr}{o:HO} (h:iG ts b=some o):∃ p∈ts,p.1=b/\o=gE p.2:=by
 unfold iG at h
 obtain ⟨q,e,rfl⟩:=Option.map_eq_some_iff.mp h
 exact ⟨(b,q),yr e,rfl,rfl⟩
theorem sA {P:Program}{w:World}{K:PySem.W.Frag}{mg mb:Str->Option Value}{CX:CXT}{k:Nat}{fa a:Addr}{ts:List (Addr × Str)}{fd:FuncData}{x:Str}{sp:Sp}{s₁:Shared}{vs:List Value}{ns:List Int}
  (KX:K.In s₁.heap) (hns:s₁.heap.Ns mainGlobals mg) (hb:s₁.heap.Ns builtinsNs mb) (hbb:∀ x:Str,x≠"__name__"->mb x=bootBuiltins x) (hlim:s₁.heap.NoLimit)
  (hbm:∃ bm ob,mg "__builtins__"=some (.ref bm)/\bm≠builtinsNs/\s₁.heap.get? bm=some ob/\ob.cls=.type "module"/\ob.dict=some builtinsNs/\ob.data=.plain) (hg:s₁.gens=#[])
  (ha:s₁.heap.get? a=some { cls:=.type "list",data:=.seq vs.toArray }) (hi:IntsAre vs ns) (hl:ns.length<=sizeLine) (hr:bA k callerA) (hnd:(ts.map (·.1)).Nodup) (hC:∀ p∈ts,∃ c,PySem.W.codeHdIn K c p.1=true) (hPt:∀ p∈ts,s₁.heap.get? p.1=some { cls:=.none,data:=.fields #[] }) (hKP:∀ p∈ts,K.lookup p.1=none)
  (F:∀ base:Heap,K.In base->base.Ns mainGlobals mg->aX P w K mg base CX k fa fd [x] sp) (hbind:∀ (s:Shared) (u:Value),BindsTo s fd ⟨[u],[]⟩ [(x,u)])
  (hsp:∀ H:Hp,SqL K H a (ns.map V.int)->(∀ p∈ts,H p.1=some (gE p.2))->sp [.ref a] H (fun v _=>v=.bl true) fun _ _ _=>False)
  (hCX:∀ H e s',CX [] H s₁ (fun _ _ _=>False) e s'->False) :
  codeAny (model P w) callerA (.call (.ref fa) ⟨[.ref a],[]⟩) (fun r s'=>r=.ok (.ret (.bool true))/\OldK s₁.heap s'.heap/\s'.os=s₁.os/\AllBare s'.gens) s₁:=by
 have rv:=oK hi
 have lenV:=hi.length
 have nPa:∀ p∈ts,p.1≠a:=fun p hp z=>by have:=hPt p hp;rw [z,ha] at this;cases this
 have core:∀ H:Hp,SqL K H a (ns.map V.int)->HOk P w H s₁.heap->(∀ p∈ts,H p.1=some (gE p.2))->(∀ b,H b≠none->(∃ p∈ts,b=p.1) ∨ (b=a/\∃ o xs,H b=some (.frz o (.lst xs))))->(H a≠none->K.lookup a=none) →
   codeAny (model P w) callerA (.call (.ref fa) ⟨[.ref a],[]⟩) (fun r s'=>r=.ok (.ret (.bool true))/\OldK s₁.heap s'.heap/\s'.os=s₁.os/\AllBare s'.gens) s₁:=by
  intro H hS hok hT hA hK
  have base_of:∀ {b:Addr}{o:Obj},s₁.heap.get? b=some o->H b=none->(oY s₁.heap H).get? b=some o:=fun e n=>xX e n
  have noO:∀ {b:Addr}{o:Obj},s₁.heap.get? b=some o->(∀ xs n,o.data≠.seq xs n)->(∀ xs,o.data≠.fields xs)->H b=none:=fun {b o} e d1 d2=>by
   cases qb:H b with
   | none=>rfl
   | some u =>
    rcases hA b (by rw [qb];simp) with ⟨p,hp,z⟩ | ⟨z,_⟩
    ·subst z
     rw [hPt p hp] at e;cases e
     exact absurd rfl (d2 _)
    ·subst z
     rw [ha] at e;cases e
     exact absurd rfl (d1 _ _)
  have nsK:∀ {b:Addr}{m:Str->Option Value},s₁.heap.Ns b m->(oY s₁.heap H).Ns b m:=fun {b m} ⟨o,es,ep,e,d,r⟩=>⟨o,es,ep,base_of e (noO e (fun _ _ z=>by rw [d] at z;cases z) fun _ z=>by rw [d] at z;cases z),d,r⟩
  have hKb:K.In (oY s₁.heap H):=fun b o e=>base_of (KX b o e) (by
   cases qb:H b with
   | none=>rfl
   | some u =>
    rcases hA b (by rw [qb];simp) with ⟨p,hp,z⟩ | ⟨z,_⟩
    ·subst z
     rw [hKP p hp] at e;cases e
    ·subst z
     rw [hK (by rw [qb];simp)] at e;cases e)
  have hM:Mod K mg (oY s₁.heap H):=⟨hKb,nsK hns,⟨mb,nsK hb,hbb⟩,let ⟨mc,h1,h2⟩:=hlim;⟨mc,nsK h1,h2⟩,let ⟨bm,ob,b1,b2,b3,b4,b5,b6⟩:=hbm;⟨bm,ob,b1,b2,base_of b3 (noO b3 (fun _ _ z=>by rw [b6] at z;cases z) fun _ z=>by rw [b6] at z;cases z),b4,b5,b6⟩⟩
  have e0:jO P w K mg (oY s₁.heap H) callerA [] s₁ H:=⟨rfl,hM,fun b o e=>An e,Nat.le_of_eq (vL _ _),trivial,fun b hb=>absurd (show b∈([]:List Addr) from hb) (by simp),hok,.of_eq hg⟩
  refine codeAny_mono ((F _ hKb (nsK hns)).run callerA [] s₁ H ⟨[.ref a],[]⟩ [.ref a] [.ref a] _ _ hr e0 (hbind s₁ (.ref a)) (.cons rfl .nil) (hsp H hS hT)) fun r s' h=>?_
  cases r with
  | error e=>exact (hCX H e s' h).elim
  | ok fl =>
   cases fl with
   | next=>exact False.elim h
   | brk=>exact False.elim h
   | cont=>exact False.elim h
   | ret u =>
    obtain ⟨v,H',os,bare,un,hok',r',qv⟩:=h
    have qv':v=.bl true:=qv
    subst qv'
    obtain rfl:u=Value.bool true:=r'
    refine ⟨rfl,⟨fun b o e=>?_,fun b o e=>un.there b o e (by simp)⟩,os,bare⟩
    cases qb:H b with
    | none=>exact .inl (un.keep b o e qb (by intro z;exact absurd (show b∈([]:List Addr) from z) (by simp)) (by simp))
    | some u =>
     rcases hA b (by rw [qb];simp) with ⟨p,hp,z⟩ | ⟨z,ob,xs,z1⟩
     ·subst z
      obtain ⟨c,hc⟩:=hC p hp
      have hCd:=PySem.W.codeHd_of_K KX hc
      rw [hPt p hp] at e;cases e
      obtain ⟨more,z2⟩:=un.tbls p.1 _ (hT p hp)
      obtain ⟨qs,z3,_⟩:=(show aS P w H' s'.heap p.1 _ from hok' p.1 _ z2)
      exact .inr (.inl ⟨(hCd.tab (hPt p hp)).isCodeTable,rfl,#[],qs,rfl,by simpa using z3⟩)
     ·have z2:=un.frzs b ob _ z1
      obtain ⟨e1,_⟩:=hok b _ z1
      obtain ⟨e2,_⟩:=hok' b _ z2
      rw [e] at e1;cases e1
      exact .inl e2
 have okT:∀ (H:Hp),∀ p∈ts,aS P w H s₁.heap p.1 (gE p.2):=fun H p hp=>⟨#[],hPt p hp,trivial,fun pos c z=>by simp [codeAmong] at z⟩
 have noa:iG ts a=none:=by
  cases q:iG ts a with
  | none=>rfl
  | some o =>
   obtain ⟨p,hp,z,_⟩:=jL q
   exact absurd z (nPa p hp)
 cases hk:K.lookup a with
 | some o =>
  have e:=KX a o hk
  rw [ha] at e
  cases e
  refine core (iG ts) (.inr ⟨_,vs.toArray,_,hk,rfl,rfl,rfl,by rw [List.size_toArray,lenV];exact hl,by simpa using rv⟩) (fun b u z=>?_) (pW hnd) (fun b z=>?_) fun z=>absurd noa z
  ·obtain ⟨p,hp,rfl,rfl⟩:=jL z
   exact okT _ p hp
  ·cases q:iG ts b with
   | none=>exact absurd q z
   | some o =>
    obtain ⟨p,hp,e,_⟩:=jL q
    exact .inl ⟨p,hp,e.symm⟩
 | none =>
  have hT:∀ p∈ts,upd (iG ts) a (.frz { cls:=.type "list",data:=.seq vs.toArray } (.lst (ns.map V.int))) p.1=some (gE p.2):=fun p hp=>(aj (nPa p hp)).trans (pW hnd p hp)
  refine core (upd (iG ts) a (.frz { cls:=.type "list",data:=.seq vs.toArray } (.lst (ns.map V.int)))) (.inl (.inr ⟨{ cls:=.type "list",data:=.seq vs.toArray },aq⟩)) (fun b u z=>?_) hT (fun b z=>?_) fun _=>hk
  ·by_cases hb2:b=a
   ·subst hb2
    rw [aq] at z
    cases z
    exact ⟨ha,by rw [List.length_map];exact hl,vs,_,rv,ha⟩
   ·rw [aj hb2] at z
    obtain ⟨p,hp,rfl,rfl⟩:=jL z
    exact okT _ p hp
  ·by_cases hb2:b=a
   ·exact .inr ⟨hb2,_,_,by rw [hb2];exact aq⟩
   ·rw [aj hb2] at z
    cases q:iG ts b with
    | none=>exact absurd q z
    | some o =>
     obtain ⟨p,hp,e,_⟩:=jL q
     exact .inl ⟨p,hp,e.symm⟩
theorem wG {l:PySem.W.OpenLaw}{n k:Nat}{qq:Program}{loose:List Str}{XP:(Str->Option Value)->Heap->Prop}{YP:World->Heap->Prop}{d:DefRec}{K:Params->PySem.W.Frag}{CX:World->CXT}{sp:World->Sp}{x:Str} (ts:List (Addr × Str))
  (hn:l.most=some n) (hn2:n<=sizeLine) (hdf:d.params.defaults=[]) (hr:bA k callerA) (hnd:(ts.map (·.1)).Nodup)
  (hY:∀ (w:World) (h:Heap),YP w h->(K w.params).In h/\∀ p∈ts,h.get? p.1=some { cls:=.none,data:=.fields #[] })
  (F:∀ (w:World) (mg:Str->Option Value) (fa:Addr) (h:Heap),(K w.params).In h->h.Ns mainGlobals mg->mg d.name=some (.ref fa) →
   (∀ p∈ts,∃ c,PySem.W.codeHdIn (K w.params) c p.1=true)/\∃ fd:FuncData,(∀ (s:Shared) (u:Value),BindsTo s fd ⟨[u],[]⟩ [(x,u)]) ∧
    ∀ base:Heap,(K w.params).In base->base.Ns mainGlobals mg->aX l.prog w (K w.params) mg base (CX w) k fa fd [x] (sp w))
  (hKP:∀ w:World,∀ p∈ts,(K w.params).lookup p.1=none)
  (hsp:∀ (w:World) (H:Hp) (a:Addr) (ns:List Int),ns.length<=n->SqL (K w.params) H a (ns.map V.int)->(∀ p∈ts,H p.1=some (gE p.2))->sp w [.ref a] H (fun v _=>v=.bl true) fun _ _ _=>False)
  (hCX:∀ (w:World) (H:Hp) (s:Shared) (e:Value) (s':Shared),CX w [] H s (fun _ _ _=>False) e s'->False) :
  PySem.W.WalkO qq loose XP YP l.row.toRowW d [] (fun f vs=>PySem.call f vs):=by
 refine Att.qo hn hdf fun w s₀ s₁ mg mb fa o pm cd doc a vs ns G Y ho hd hcd hmg hobj hints hlen hg=>?_
 obtain ⟨KX,hPt⟩:=hY w _ Y
 obtain ⟨hC,fd,hb,hF⟩:=F w mg fa _ KX G.T.g hmg
 exact sA KX G.T.g G.T.b G.T.builtins G.T.nolimit G.T.bmain hg hobj hints (Nat.le_trans hlen hn2) hr hnd hC hPt (hKP w) hF hb (fun H hS hT=>hsp w H a ns hlen hS hT) fun H e s'=>hCX w H s₁ e s'
end L2

namespace L2
open PySem PySem.Spec PyProof.Rows
theorem nv:entryFor table "proto.unchain"=some Builtin.«proto.unchain»:=entryFor_of_fast (by kernel_rfl)
section
variable {prog:Program}{w:World}{A:Around}{E:Value->Shared->Prop}{s:Shared}
theorem pX {e:Value}{ea:Addr}{ob:Obj}{vs:Array Value}{Q:Value->Shared->Prop} (h1:s.heap.get? ea=some ob) (h2:ob.data=.fields vs) (h3:vs[2]?=some .none) (h:Q .none s) :
  wpAny (model prog w) A (runValue (.builtin "proto.unchain" ⟨[e,.ref ea,.ref ea,.bool false],[]⟩)) Q E s:=by
 refine wpAny_runValue (codeAny_builtin nv ?_)
 show wpAny _ _ (field (.ref ea) 2 >>= _) _ _ s
 refine wpAny_bind (wpAny_field h1 h2 h3 ?_)
 exact wpAny_pure h
theorem rB {α:Type}{e ea:Addr}{o ob:Obj}{us vs:Array Value}{Q:α->Shared->Prop} (hh:A.handled=some (.ref ea)) (hne:ea≠e) (h1:s.heap.get? ea=some ob) (h2:ob.data=.fields vs) (h3:vs[2]?=some .none)
  (o1:s.heap.get? e=some o) (o2:o.data=.fields us) (o3:2 < us.size) (h:E (.ref e) { s with heap:=s.heap.update e (Obj.mapFields (·.setIfInBounds 2 (.ref ea))) }) :
  wpAny (model prog w) A (raiseNew (.ref e):Sem α) Q E s:=by
 unfold raiseNew
 refine wpAny_bind (wpAny_handled ?_)
 rw [hh]
 dsimp only
 rw [if_pos (by simp only [bne_iff_ne,ne_eq,Value.ref.injEq];exact hne)]
 refine wpAny_bind (wpAny_holding (pX h1 h2 h3 (wpAny_bind ?_)))
 refine wpAny_mono (wpAny_setField (E:=E) o1 o2 o3 (Q:=fun _ s'=>E (.ref e) s') h) (fun _ s' q=>wpAny_throw q) (fun _ _ q=>q)
theorem kS {it ea:Addr}{ob:Obj}{vs:Array Value}{x left step:Int}{Q:Option Value->Shared->Prop} (hh:A.handled=some (.ref ea)) (h1:s.heap.get? ea=some ob) (h2:ob.data=.fields vs) (h3:vs[2]?=some .none)
  (hit:IsRangeIter s.heap it x left step) (hleft:left<=0) (hQ:∀ h',Heap.ExtBut it s.heap h'->Q none { s with heap:=h' }):wpAny (model prog w) A (pyNext (.ref it)) Q E s:=by
 have hT:s.TypeIs (.ref it) "range_iterator":=⟨_,hit,rfl⟩
 unfold pyNext
 refine wpAny_bind (wpAny_attempt (wpAny_callSpecial?_slot (name:=Str.ofString "__next__") hT F.slot_range_iterator_next
  (wpAny_call_entry F.slot_range_iterator_next hT F.entry_range_iterator_next ?_ (F.args_range_iterator_next_1 _))))
 show wpAny _ _ (field (.ref it) 0 >>= _) _ _ s
 refine wpAny_bind (wpAny_field hit rfl (x:=rawInt x) rfl ?_)
 show wpAny _ _ (field (.ref it) 1 >>= _) _ _ s
 refine wpAny_bind (wpAny_field hit rfl (x:=rawInt left) rfl ?_)
 show wpAny _ _ (field (.ref it) 2 >>= _) _ _ s
 refine wpAny_bind (wpAny_field hit rfl (x:=rawInt step) rfl ?_)
 show wpAny _ _ (if left<=0 then _ else _) _ _ s
 rw [if_pos hleft]
 refine wpAny_bind (wpAny_rule ?_)
 refine wpAny_bind ?_
 show wpAny _ _ (newExc (.type "StopIteration") [] >>= _) _ _ _
 refine wpAny_bind ?_
 simp only [newExc,newTuple]
 refine wpAny_bind (wpAny_newObj_type ?_ (by size_fits))
 refine wpAny_bind (m:=firstArgMember _ _) (wpAny_of_eq (a:=Value.none) (by first | rfl | (simp only [firstArgMember];rfl)) ?_)
 refine wpAny_newObj_type ?_ (by size_fits)
 have lt:=Heap.lt_size h1
 refine rB (A:=A.in1) hh ?_ (Heap.get?_push_of_some _ (Heap.get?_push_of_some _ h1)) h2 h3 (Heap.get?_push_size _ rfl) rfl (Nat.lt_of_lt_of_le (show 2 < 6 by decide) (by rw [Array.size_append];exact Nat.le_add_right _ _)) ?_
 ·rw [Heap.size_push];exact Nat.ne_of_lt (Nat.lt_succ_of_lt lt)
 refine wpAny_bind (wpAny_isInstance (T:="StopIteration") (b:=true) ⟨_,Heap.get?_update_self _ (Heap.get?_push_size _ rfl) rfl,rfl⟩ isSubtype_stop ?_)
 refine wpAny_pure (hQ _ fun b o hb e=>?_)
 have:=Heap.lt_size e
 refine (Heap.get?_update_other _ _ ?_).trans (Heap.get?_push_of_some _ (Heap.get?_push_of_some _ e))
 rw [Heap.size_push];exact Nat.ne_of_gt (Nat.lt_succ_of_lt this)
end
structure wK (hd:Option Value) (P:Program) (w:World) (K:PySem.W.Frag) (tg:Expr) (J:It) (fp:List Addr) (it:Addr) (tn:Nat->Heap->Prop):Prop where
 mem:it∈fp
 obj:∀ i h,tn i h->∀ b∈fp,∃ o,h.get? b=some o/\∀ v,o.data≠.cell v
 keep:∀ i h h',tn i h->(∀ b∈fp,∀ o,h.get? b=some o->h'.get? b=some o)->tn i h'
 item:∀ (X:Cx),X.prog=P->X.w=w->X.K=K->X.A.handled=hd->∀ (i:Nat) (pins:List (Addr × Obj)) (s:Shared) (σ:St) (H:Hp) (E:Value->Shared->Prop),Inv X pins σ H s->(∀ b∈fp,gG X pins H b)->tn i s.heap->J.go i H →
  wpAny (model P w) X.A (pyNext (.ref it)) (fun r s1=>∃ u,r=some u ∧
   wpAny (model P w) X.A (letOwnedTupleGo tg (.ref it) u) (fun _ s2=>∃ x H',Inv X pins σ H' s2/\RelV x u/\J.yld i H x H'/\tn (i + 1) s2.heap/\∀ b∈fp,H' b=none) E s1) E s
 done:∀ (X:Cx),X.prog=P->X.w=w->X.K=K->X.A.handled=hd->∀ (i:Nat) (pins:List (Addr × Obj)) (s:Shared) (σ:St) (H:Hp) (E:Value->Shared->Prop),Inv X pins σ H s->(∀ b∈fp,gG X pins H b)->tn i s.heap->J.stop i H →
  wpAny (model P w) X.A (pyNext (.ref it)) (fun r s1=>r=none/\Inv X pins σ H s1) E s
 self:∀ (A:Around) (i:Nat) (s:Shared) (Q:Value->Shared->Prop) (E:Value->Shared->Prop),tn i s.heap->Q (.ref it) s->wpAny (model P w) A (pyIter (.ref it)) Q E s
def CY (X:Cx) (pins:List (Addr × Obj)) (σ:St) (tg:Expr) (R:It->Hp->Prop) (itv:Value) (s2:Shared):Prop :=
 ∃ (it:Addr) (fp:List Addr) (tn:Nat->Heap->Prop) (J:It) (H':Hp),itv=.ref it/\Inv X pins σ H' s2/\wK X.A.handled X.prog X.w X.K tg J fp it tn/\tn 0 s2.heap/\(∀ b∈fp,gG X pins H' b)/\R J H'
def PIH (X:Cx) (tg iter:Expr) (wi:TI):Prop :=
 ∀ (pins:List (Addr × Obj)) (s:Shared) (σ:St) (H:Hp) (R:It->Hp->Prop),Inv X pins σ H s->wi σ H R →
  wpAny (model X.prog X.w) X.A (eval iter X.env) (fun v s1=>wpAny (model X.prog X.w) X.A (pyIter v) (CY X pins σ tg R) X.xe s1) X.xe s

def vd (hd:Option Value) (lo:Int) (n:Nat):It:=⟨fun i _=>i < n,fun i H x H'=>H'=H/\x=.int (lo + i),fun i H=>n<=i/\gH hd H⟩
theorem rP {hd:Option Value}{P:Program}{w:World}{K:PySem.W.Frag}{tg:Expr} (it:Addr) (lo:Int) (n:Nat):wK hd P w K tg (vd hd lo n) [it] it (fun i h=>IsRangeIter h it (lo + (i:Nat) * 1) ((n:Int) - (i:Nat)) 1) where
 mem:=(fN (P:=P) (w:=w) (K:=K) (tg:=tg) it lo n).mem
 obj:=(fN (P:=P) (w:=w) (K:=K) (tg:=tg) it lo n).obj
 keep:=(fN (P:=P) (w:=w) (K:=K) (tg:=tg) it lo n).keep
 self:=(fN (P:=P) (w:=w) (K:=K) (tg:=tg) it lo n).self
 item:=by
  intro X hP hw hK hc i pins s σ H E I hf st hg
  subst hP hw hK
  obtain ⟨f0,f1,f2,f3,f4,f5⟩:=hf it (by simp)
  refine wpAny_pyNext_range_item st (by have:i < n:=hg;omega) fun h' st' sb=>?_
  have I1:Inv X pins σ H { s with heap:=h',toks:=s.toks + 1 }:=I.turned (fun b o hb e=>(sb.2 b hb).trans e) f0 f1 f3 f4 f5
  have e1:lo + ((i + 1:Nat):Int) * 1=lo + ((i:Nat):Int) * 1 + 1:=by omega
  have e2:(n:Int) - ((i + 1:Nat):Int)=(n:Int) - ((i:Nat):Int) - 1:=by omega
  have st2:IsRangeIter h' it (lo + ((i + 1:Nat):Int) * 1) ((n:Int) - ((i + 1:Nat):Int)) 1:=by rw [e1,e2];exact st'
  refine ⟨_,rfl,oi (s:={ s with heap:=h',toks:=s.toks + 1 }) (n:="range_iterator") st' rfl rfl (by decide) ⟨.int (lo + i),H,I1,⟨s.toks,?_⟩,⟨rfl,rfl⟩,st2,fun b hb=>(hf b hb).1⟩⟩
  rw [Int.mul_one]
 done:=by
  intro X hP hw hK hc i pins s σ H E I hf st hg
  subst hP hw hK
  obtain ⟨f0,f1,f2,f3,f4,f5⟩:=hf it (by simp)
  obtain ⟨hn,hin⟩:=hg
  rcases hin with hin | ⟨ea,φ,e1,e2,e3⟩
  ·exact wpAny_pyNext_range_end (hc.trans hin) st (by omega) fun h' eb=>⟨rfl,I.turned (t':=s.toks) (fun b o hb e=>eb b o hb e) f0 f1 f3 f4 f5⟩
  ·obtain ⟨p,_,_⟩:=(show aS X.prog X.w H s.heap ea (.ext φ) from I.hok ea _ e2)
   obtain ⟨ob,vs,q1,q2,q3⟩:=e3 _ p
   exact kS (hc.trans e1) q1 q2 q3 st (by omega) fun h' eb=>⟨rfl,I.turned (t':=s.toks) (fun b o hb e=>eb b o hb e) f0 f1 f3 f4 f5⟩
def su (hd:Option Value) (ta:TA):TI:=fun σ H R=>ta σ H fun vs H1=>∃ j:Int,vs=[.int j]/\-(2 ^ 62)<=j/\j < 2 ^ 62/\R (vd hd 0 j.toNat) H1
theorem n9 {hd:Option Value}{σ:St}{H:Hp}{ta:TA}{R:It->Hp->Prop}:su hd ta σ H R=ta σ H fun vs H1=>∃ j:Int,vs=[.int j]/\-(2 ^ 62)<=j/\j < 2 ^ 62/\R (vd hd 0 j.toNat) H1:=propext Iff.rfl
section
variable {X:Cx}{tg:Expr}
theorem wu {pins:List (Addr × Obj)}{σ:St}{H:Hp}{s:Shared}{R:It->Hp->Prop}{E:Value->Shared->Prop}{lo hi:Int}{t u v:Tok}{tk:Nat} (I:Inv X pins σ H s) (h1:-(2 ^ 62)<=lo) (h2:lo < 2 ^ 62) (h3:-(2 ^ 62)<=hi) (h4:hi < 2 ^ 62)
  (q:R (vd X.A.handled lo (hi - lo).toNat) H):wpAny (model X.prog X.w) X.A (pyIter (.ref s.heap.objs.size)) (CY X pins σ tg R) E { s with heap:=s.heap.push { cls:=.type "range",data:=.fields #[.int lo t,.int hi u,.int 1 v] },toks:=tk }:=by
 refine wpAny_pyIter_range (IsRange.new ..) (small_one h1 h2 h3 h4) ?_
 have I1:Inv X pins σ H { s with heap:=s.heap.push { cls:=.type "range",data:=.fields #[.int lo t,.int hi u,.int 1 v] },toks:=tk }:=I.kept fun b o e=>Heap.get?_push_of_some _ e
 refine ⟨(s.heap.push { cls:=.type "range",data:=.fields #[.int lo t,.int hi u,.int 1 v] }).objs.size,[(s.heap.push { cls:=.type "range",data:=.fields #[.int lo t,.int hi u,.int 1 v] }).objs.size],_,_,H,rfl,
  I1.kept (t':=tk) fun b o e=>Heap.get?_push_of_some _ e,rP _ lo (hi - lo).toNat,?_,fun b hb=>?_,q⟩
 ·have e1:lo + ((0:Nat):Int) * 1=lo:=by simp
  have e2:(((hi - lo).toNat:Nat):Int) - ((0:Nat):Int)=Builtin.Range.rangeSize lo hi 1:=by rw [rangeSize_one];split <;> omega
  show IsRangeIter _ _ (lo + ((0:Nat):Int) * 1) ((((hi - lo).toNat:Nat):Int) - ((0:Nat):Int)) 1
  rw [e1,e2]
  exact Heap.get?_push_size _ rfl
 ·have e:b=(s.heap.push { cls:=.type "range",data:=.fields #[.int lo t,.int hi u,.int 1 v] }).objs.size:=by simpa using hb
  subst e
  exact I1.mx (Nat.le_refl _) (I1.hok.fresh (Nat.le_refl _))
theorem sR {a:Expr}{ta:TA}{p pos:Pos} (hg:Gl X "range") (hm:X.mg "range"=none) (ha:PA X [a] ta) (hs:starEach [a] X.env=[(false,eval a X.env)]:=by rfl):PIH X tg (.Call (.Name "range" p) [a] [] pos) (su X.A.handled ta):=by
 intro pins s σ H R I h
 refine Call_ (jW I hg hm boot_range (PyProof.Rows.callWith_type1 (thn (ha pos pins s σ H _ I h) fun us s1 ⟨vs,H1,I1,r1,q1⟩=>?_) hs rfl))
 obtain ⟨j,e,q1,q2,q⟩:=q1
 subst e
 cases r1 with
 | cons r rr =>
  cases rr
  obtain ⟨t,rfl⟩:=r
  exact call_range_1 (wu I1 (by omega) (by omega) q1 q2 (by simpa using q))
theorem kJ {a:Expr}{ta:TA}{p pos:Pos} (hm:X.mg "range"=none) (ha:PA X [a] ta) (hg:X.env.kindOf "range"=some .globalImplicit:=by kernel_rfl) (hs:noStar a=true:=by kernel_rfl):PIH X tg (.Call (.Name "range" p) [a] [] pos) (su X.A.handled ta) :=
 sR hg hm ha (aB hs)
end
theorem sZ {hd:Option Value}{H1:Hp}{n:Nat}{lo:Int} (hin:gH hd H1):(vd hd lo n).Seq H1 ((List.range n).map fun (k:Nat)=>V.int (lo + (k:Int))):=fun H s=>by
 obtain ⟨h1,h2⟩:=oE (lo:=lo) (n:=n) H s
 exact ⟨fun i x e=>h1 i x e,fun i hi=>⟨h2 i hi,hin.same s⟩⟩
section
variable {X:Cx}{pins:List (Addr × Obj)}{σ:St}{H1:Hp}{s₂:Shared}{E:Value->Shared->Prop}
theorem xj {elt target iter:Expr}{ifs:List Expr}{scope:Scope}{pos:Pos}{cl:List (Str × Addr)}{own frn:List Str}{js:List Nat}{g:TG}{tc:TT}{te:TE}{Q:VK}{it:Addr}{fp:List Addr}{tn:Nat->Heap->Prop}{J:It}
  {RR:Value->Addr->Result->Shared->Prop} (B:n4 X scope cl) (hfr:jP X frn js) (hloc:∀ x∈frn,scope.names.lookup x≠some .local)
  (hg:∀ C s₀ H₀ ex,PG (X.blk (own++frn) scope cl C s₀ H₀ ex) target g) (hi:∀ C s₀ H₀ ex,PIf (X.blk (own++frn) scope cl C s₀ H₀ ex) ifs tc) (he:∀ C s₀ H₀ ex,PE (X.blk (own++frn) scope cl C s₀ H₀ ex) elt te)
  (I:Inv X pins σ H1 s₂) (T:wK X.A.handled X.prog X.w X.K target J fp it tn) (st0:tn 0 s₂.heap) (hf:∀ b∈fp,gG X pins H1 b) (hq:dm g tc te (ef own.length js σ) J H1 Q)
  (fin:∀ D C s' H' m,s₂.heap.objs.size<=C->Inv X pins σ H' s'->s'.heap.Ns C m->gG X pins H' C->Q (.ref D) H'->RR (.ref D) C (.ok .next) s') :
  wpAny (model X.prog X.w) X.A (newList []) (fun acc s₃=>wpAny (model X.prog X.w) X.A (newFunctionEnv scope X.env.globals cl [] X.env.qual none .none (some X.env)) (fun cenv s₄ =>
   codeAny (model X.prog X.w) X.A (.compStart (.ListComp elt [⟨target,iter,ifs,0⟩] scope pos) 0 (.ref it) acc { cenv with scope:=relabel scope X.env }) (RR acc cenv.locals) s₄) E s₃) E s₂:=by
 have sub:=iK scope.names [] cl B.clo (fun x c e=>by cases e)
 refine wpAny_newObj_type (wpAny_newFunctionEnv B.cell (by intro y hy;simp at hy) (fun h₁ hns₁ hsb₁=>?_) B.kind)
 dsimp only at hns₁ hsb₁ ⊢
 generalize hH2:s₂.heap.push { cls:=.type "list",dict:=none,data:=.seq ([]:List Value).toArray }=H2 at hns₁ hsb₁ ⊢
 have hC:H2.objs.size=s₂.heap.objs.size + 1:=by rw [← hH2,Heap.size_push]
 have hDC:s₂.heap.objs.size≠H2.objs.size:=by rw [hC];exact Nat.ne_of_lt (Nat.lt_succ_self _)
 have hCle:s₂.heap.objs.size<=H2.objs.size:=by rw [hC];exact Nat.le_succ _
 have below:∀ b,b < s₂.heap.objs.size->b≠H2.objs.size/\b≠s₂.heap.objs.size:=fun b hb=>⟨by rw [hC];exact Nat.ne_of_lt (Nat.lt_succ_of_lt hb),Nat.ne_of_lt hb⟩
 have old:∀ b o,s₂.heap.get? b=some o->h₁.get? b=some o:=fun b o e=>hsb₁.extBut b o (below b (Heap.lt_size e)).1 (Heap.get?_push_of_some _ (hH2 ▸ Heap.get?_push_of_some _ e))
 have hacc:h₁.get? s₂.heap.objs.size=some { cls:=.type "list",dict:=none,data:=.seq ([]:List Value).toArray }:=hsb₁.extBut _ _ hDC (Heap.get?_push_of_some _ (hH2 ▸ Heap.get?_push_size _ rfl))
 have hfo:∀ b∈fp,∃ o,s₂.heap.get? b=some o/\∀ v,o.data≠.cell v:=T.obj 0 _ st0
 have D0:H1 s₂.heap.objs.size=none:=I.hok.fresh (Nat.le_refl _)
 have C0:H1 H2.objs.size=none:=I.hok.fresh hCle
 obtain ⟨W,⟨m0,w0⟩,turn⟩:=hq _ D0
 have okX:(X.blk (own++frn) scope cl H2.objs.size s₂ H1 fp).Ok:=I.Bg (N':=own++frn) B hCle hf fun b hb=>let ⟨o,e,_⟩:=hfo b hb;⟨o,e⟩
 have I0:Inv (X.blk (own++frn) scope cl H2.objs.size s₂ H1 fp) [] (ef own.length js σ) (upd H1 s₂.heap.objs.size (.lst [])) { s₂ with heap:=h₁,toks:=s₂.toks + ([]:List (Str × Value)).length }:=by
  obtain ⟨m,hn,hl⟩:=id I.loc
  refine ⟨okX,rfl,I.bare,Un.laid old (Nat.le_refl _) D0,⟨_,hns₁,fun i x v e1 e2 e3=>?_⟩,fun x c e=>?_,?_,fun x c e=>?_,fun p hp=>?_,?_,?_⟩
  ·have e1:(own++frn)[i]?=some x:=e1
   unfold ef at e2
   by_cases hik:i < own.length
   ·rw [List.getElem?_append_left (by simpa using hik),List.getElem?_replicate,if_pos hik] at e2
    cases e2
   ·rw [List.getElem?_append_right (by simpa using hik),List.length_replicate,List.getElem?_map] at e2
    rw [List.getElem?_append_right (by omega)] at e1
    obtain ⟨j,hj,hNj,hk⟩:=hfr.get e1
    rw [hj] at e2
    have e2':(σ[j]?).join=some v:=Option.some.inj e2
    have e2'':σ[j]?=some (some v):=by
     cases q:σ[j]? with
     | none=>rw [q] at e2';cases e2'
     | some o=>rw [q] at e2';cases o with
      | none=>cases e2'
      | some y=>have:y=v:=Option.some.inj e2';rw [this]
    obtain ⟨u,r,lk⟩:=hl j x v hNj e2'' (hk.elim (fun z=>.inr (.inl z)) fun z=>.inr (.inr z))
    refine ⟨u,r,?_⟩
    rcases lk with ⟨k1,_⟩ | ⟨_,c,hcl,hcell⟩
    ·rcases hk with z | z <;> (rw [k1] at z;cases z)
    ·have hx3:(compEnvC scope cl H2.objs.size X.env).kindOf x=some .local ∨ (compEnvC scope cl H2.objs.size X.env).kindOf x=some .cell ∨ (compEnvC scope cl H2.objs.size X.env).kindOf x=some .free:=e3
     rcases hx3 with z | z
     ·exfalso
      have z':(scope.names.map fun (n,k)=>if (k == NameKind.free && X.env.scope.kind == .function && X.env.kindOf n == some .cell) then (n,NameKind.cell) else (n,k)).lookup x=some .local:=z
      rcases ft z' with q | ⟨q,_⟩
      ·exact hloc x (List.mem_of_getElem? e1) (B.names _ q rfl)
      ·cases q
     ·obtain ⟨c',hc'⟩:=okX.has x z
      have q:=sub x c' hc'
      rw [hcl] at q
      have q':c=c':=Option.some.inj q
      subst q'
      refine .inr ⟨z,c,hc',?_⟩
      obtain ⟨o,ho,hd⟩:=hcell
      exact ⟨o,old _ _ ho,hd⟩
  ·obtain ⟨v,o,ho,hd⟩:=I.cell x c (sub x c e)
   exact ⟨v,o,old _ _ ho,hd⟩
  ·show upd H1 _ _ H2.objs.size=none
   rw [aj (Ne.symm hDC)];exact C0
  ·obtain ⟨v,o,ho,hd⟩:=I.cell x c (sub x c e)
   rw [aj (below c (Heap.lt_size ho)).2];exact I.freeC x c (sub x c e)
  ·cases hp
  ·exact I.hok.laid old (Nat.le_refl _) ⟨Nat.zero_le _,[],_,.nil,hacc⟩
  ·unfold ef
   show _=(own++frn).length
   rw [List.length_append,List.length_append,List.length_replicate,List.length_map,hfr.len]
 -- the iterator's objects in the block
 have fpx:∀ {H:Hp},(∀ b∈fp,H b=none)->∀ b∈fp,gG (X.blk (own++frn) scope cl H2.objs.size s₂ H1 fp) [] H b:=fun {H} hn b hb=>by
  obtain ⟨f0,f1,f2,f3,f4,f5⟩:=hf b hb
  obtain ⟨o,e,_⟩:=hfo b hb
  refine ⟨hn b hb,(below b (Heap.lt_size e)).1,fun z=>?_,.inl hb,fun x c e=>f4 x c (sub x c e),fun p hp=>by cases hp⟩
  rcases List.mem_cons.mp (I.mZ b z) with z | z
  ·exact f1 z
  ·exact f2 z
 have st1:tn 0 h₁:=T.keep _ _ _ st0 fun b _ o e=>old b o e
 have fr0:∀ b∈fp,upd H1 s₂.heap.objs.size (.lst []) b=none:=fun b hb=>by
  obtain ⟨o,e,_⟩:=hfo b hb
  rw [aj (below b (Heap.lt_size e)).2];exact (hf b hb).1
 have loop:codeAny (model X.prog X.w) X.A (.compLoop (.ListComp elt [⟨target,iter,ifs,0⟩] scope pos) 0 (.ref it) (.ref s₂.heap.objs.size) (compEnvC scope cl H2.objs.size X.env))
   (RR (.ref s₂.heap.objs.size) H2.objs.size) { s₂ with heap:=h₁,toks:=s₂.toks + ([]:List (Str × Value)).length }:=by
  refine ko (fun n s'=>∃ i ys σ1 H,Inv (X.blk (own++frn) scope cl H2.objs.size s₂ H1 fp) [] σ1 H s'/\tn i s'.heap/\(∀ b∈fp,H b=none)/\W i n ys σ1 H) ?_ m0 ⟨0,[],_,_,I0,st1,fr0,w0⟩
  rintro n s3 ⟨i,ys,σ3,H3,I3,st3,fr3,w3⟩
  obtain ⟨hD3,hsz,alt⟩:=turn i n ys σ3 H3 w3
  rcases alt with ⟨stop,qn⟩ | ⟨go,step⟩
  ·refine thn (T.done (X.blk (own++frn) scope cl H2.objs.size s₂ H1 fp) rfl rfl rfl rfl i [] s3 σ3 H3 _ I3 (fpx fr3) st3 stop) fun r s4 ⟨hr,I4⟩=>?_
   subst hr
   obtain ⟨m,hn,_⟩:=id I4.loc
   have hch:∀ b∈fp,(b∈X.ex ∨ X.s₀.heap.objs.size<=b)/\b≠X.env.locals/\(∀ x c,X.env.cells.lookup x=some c->c≠b)/\∀ p∈X.pn++pins,p.1≠b:=fun b hb=>by
    obtain ⟨f0,f1,f2,f3,f4,f5⟩:=hf b hb
    exact ⟨f3,f1,f4,f5⟩
   have IX:Inv X pins σ H3 s4:=I.qt I4.os I4.base I4.hok I4.bare hch
   exact fin _ _ s4 H3 m hCle IX hn (I.mx hCle I4.free) qn
  ·refine thn (T.item (X.blk (own++frn) scope cl H2.objs.size s₂ H1 fp) rfl rfl rfl rfl i [] s3 σ3 H3 _ I3 (fpx fr3) st3 go) fun r s4 ⟨u,hr,h4⟩=>?_
   subst hr
   refine thn h4 fun _ s5 ⟨x,H5,I5,r5,y5,st5,fr5⟩=>?_
   have I5':=I5.pinned (fpx fr5) (T.obj _ _ st5)
   refine thn (hg _ _ _ _ _ s5 σ3 H5 x u _ I5' r5 (step x H5 y5)) fun _ s6 ⟨σ6,H6,I6,q6⟩=>?_
   refine thn (hi _ _ _ _ _ s6 σ6 H6 _ I6 q6) fun b s7 ⟨H7,I7,q7⟩=>?_
   have again:∀ {ys':List V}{H8:Hp}{s8:Shared}{m':Nat},Inv (X.blk (own++frn) scope cl H2.objs.size s₂ H1 fp) ([]++jh fp s5.heap) σ6 H8 s8->m' < n->W (i + 1) m' ys' σ6 H8 →
     ∃ m,m < n/\∃ i ys σ1 H,Inv (X.blk (own++frn) scope cl H2.objs.size s₂ H1 fp) [] σ1 H s8/\tn i s8.heap/\(∀ b∈fp,H b=none)/\W i m ys σ1 H:=fun {ys' H8 s8 m'} I8 hm w8=>by
    refine ⟨m',hm,i + 1,ys',σ6,H8,I8.eZ,T.keep _ _ _ st5 fun b hb o e=>(I8.pin (b,o) (List.mem_append_right _ (List.mem_append_right _ (cW hb e)))).1,fun b hb=>?_,w8⟩
    obtain ⟨o,e,d⟩:=T.obj _ _ st5 b hb
    exact (I8.pin (b,o) (List.mem_append_right _ (List.mem_append_right _ (cW hb e)))).2.1
   cases b with
   | false =>
    rw [if_neg Bool.false_ne_true] at q7 ⊢
    obtain ⟨m',hm,w7⟩:=q7
    exact again I7 hm w7
   | true =>
    rw [if_pos rfl] at q7 ⊢
    refine thn (he _ _ _ _ _ s7 σ6 H7 _ I7 q7) fun v s8 ⟨y,H8,I8,r8,hD8,m',hm,w8⟩=>?_
    refine thn (fB (X:=X.blk (own++frn) scope cl H2.objs.size s₂ H1 fp) _ s8 σ6 H8 (.ref s₂.heap.objs.size) [y] _ [v] (fun _ H9=>W (i + 1) m' (ys++[y]) σ6 H9) I8 rfl (.cons r8 .nil) ⟨_,ys,y,rfl,rfl,hD8,hsz,w8⟩) fun _ s9 ⟨_,H9,I9,_,w9⟩=>?_
    exact again I9 hm w9
 exact codeAny_compStart_list loop (T.self X.A 0 _ _ _ st1 loop)
theorem C9 {elt target iter:Expr}{ifs:List Expr}{scope:Scope}{pos:Pos}{cl:List (Str × Addr)}{frn:List Str}{js:List Nat}{wi:TI}{g:TG}{tc:TT}{te:TE} (own:List Str) (B:n4 X scope cl) (hfr:jP X frn js)
  (hloc:∀ x∈frn,scope.names.lookup x≠some .local) (hi:PIH X target iter wi)
  (hg:∀ C s₀ H₀ ex,PG (X.blk (own++frn) scope cl C s₀ H₀ ex) target g) (hif:∀ C s₀ H₀ ex,PIf (X.blk (own++frn) scope cl C s₀ H₀ ex) ifs tc) (he:∀ C s₀ H₀ ex,PE (X.blk (own++frn) scope cl C s₀ H₀ ex) elt te)
  (hs:∀ x,foldedSetIterable iter X.env x=pure x:=by intro _;rfl):PE X (.ListComp elt [⟨target,iter,ifs,0⟩] scope pos) (tLC own.length js wi g tc te):=by
 intro pins s σ H Q I h
 rw [eval_ListComp]
 refine wpAny_comprehension_free (use:=none) rfl hs (dH B.clo) B.kind B.names (thn (hi pins s σ H _ I h) fun v s1 h1=>thn h1 fun itv s2 h2=>?_)
 obtain ⟨it,fp,tn,J,H2,e,I2,T,st2,f2,hq⟩:=h2
 subst e
 refine xj (RR:=fun acc C=>compPost (model X.prog X.w) X.A X.xe none (EP X pins σ Q) acc C) B hfr hloc hg hif he I2 T st2 f2 hq ?_
 intro D C s' H' m hC I' hn fC q
 exact ⟨m,hn,fun h' sb=>⟨.ref D,H',I'.turned (t':=s'.toks) (fun b o hb e=>(sb.2 b hb).trans e) fC.1 fC.2.1 fC.2.2.2.1 fC.2.2.2.2.1 fC.2.2.2.2.2,rfl,q⟩⟩
end
def uS (K:PySem.W.Frag) (tb:(St->XK)->TS) (CE:Addr) (i:Nat) (th:Addr->TS):TS:=fun D σ H =>
 tb (fun σ' c d H'=>PySem.W.exmOne K c (.ref CE)=some true/\∀ ea H2,H' ea=none->ak H' H2->H2 ea=some (mq ea c d)->th ea (D.un i) (σ'.set i (some (.ref ea))) H2) D σ H
section
variable {X:Cx}{pins:List (Addr × Obj)}{σ:St}{H:Hp}{s:Shared}
theorem AA {body:List Stmt}{b₀:Stmt}{suite:List Stmt}{x n:Str}{i:Nat}{CE:Addr}{np hpos pos:Pos}{tb:(St->XK)->TS}{th:Addr->TS} (hst:X.stack=X.env::X.outer) (hf:X.env.frame=some X.env.locals) (hex:X.ex=[]) (hN:X.N.Nodup) (hm:X.mg x=some (.ref CE))
  (hb:∀ (pn:List (Addr × Obj)) (xe:Value->Shared->Prop) (E:St->XK),PassesOwn (model X.prog X.w) X.A X.env xe->Passes (CX1 X.prog X.w) { X with pn:=pn,xe:=xe } E->PSs { X with pn:=pn,xe:=xe } body (tb E))
  (hh:∀ ea:Addr,PSs { X with A:=X.A.mark (some (.ref ea)),calm:=false,xe:=fun _ _=>False } (b₀::suite) (th ea))
  (hi:X.N[i]?=some n:=by kernel_rfl) (hn:X.env.scope.names.lookup n=some .local:=by kernel_rfl) (hg:X.env.kindOf x=some .globalImplicit:=by kernel_rfl) (hd:(x == ("__debug__":Str))=false:=by kernel_rfl) :
  PS X (.Try body [.ExceptHandler (some (.Name x np)) (some n) (b₀::suite) hpos] [] [] pos) (uS X.K tb CE i th):=by
 intro pins s σ H D I h
 refine wpAny_Try_except ?_
 refine wpAny_mono (hb (X.pn++pins) _ _ PassesOwn.looking ?_ [] s σ H D I.Ef h) ?_ (fun e s1 he=>he)
 ·intro pins' σ' H1 s1 e s' I' hcx
  obtain ⟨ea,C,t,B,H',d,rfl,os,bare,un,hok,fl,⟨oe,hoe,hdo⟩,hdx,hkb,htrue,hE⟩:=hcx
  have IX:Inv X pins σ' H1 s1:=I'.mQ
  have I2:Inv X pins σ' H' s':=IX.qt (ch:=[]) os un hok bare (fun b z=>absurd z (by simp))
  have hfr:∀ b∈frs X.stack,∃ o,s'.heap.get? b=some o/\∀ vs,o.data≠.fields vs:=fun b hb=>(I2.stack.mem hb).2
  have hff:∀ b∈frs X.stack,H' b=none:=I2.lu
  obtain ⟨oe0,vs0,hoe0,_,hdat0,_⟩:=fl.first
  have nfr:ea ∉ frs X.stack:=fun z=>by
   obtain ⟨o,e1,e2⟩:=hfr ea z
   rw [hoe0] at e1;cases e1;exact e2 _ hdat0
  have hea:H' ea=none:=by
   cases q:H' ea with
   | none=>rfl
   | some o=>have:=hkb ea oe hoe nfr (.inl (by rw [q];simp));rw [fl.2.1] at this;cases this
  have new1:s1.heap.get? ea=none:=by
   cases q:s1.heap.get? ea with
   | none=>rfl
   | some o=>have:=hkb ea oe hoe nfr (.inr ⟨o,q⟩);rw [fl.2.1] at this;cases this
  have new0:X.s₀.heap.get? ea=none:=by
   cases q:X.s₀.heap.get? ea with
   | none=>rfl
   | some o =>
    obtain ⟨o2,e2⟩:=IX.base.there ea o q (by rw [hex];simp)
    rw [new1] at e2;cases e2
  have mk:∀ h6,Heap.FlyingW B X.stack ea (.ref C) (.ref t) h6->s'.heap.UpToSlots h6->(∃ o6,h6.get? ea=some o6/\XD o6 d)->Inv X pins σ' (upd H' ea (mq ea (.ref C) d)) { s' with heap:=h6 }:=by
   intro h6 f6 sm6 ⟨o6,e6,d6⟩
   have J:Inv X pins σ' H' { s' with heap:=h6 }:=IX.qt (s':={ s' with heap:=h6 }) (ch:=[]) os (AS un hkb f6.1 sm6 hfr) (xY hok hkb f6.1 hff) bare (fun b z=>absurd z (by simp))
   obtain ⟨o7,v7,e7,c7,t7,_⟩:=f6.first
   rw [e6] at e7
   cases e7
   refine J.DR hea new0 (fun z=>?_) (fun y c e z=>?_) (fun p hp z=>?_) (zU e6 c7 d6)
   ·obtain ⟨m,⟨ob,_,_,e9,_⟩,_⟩:=IX.loc
    rw [← z,new1] at e9;cases e9
   ·obtain ⟨w9,o9,e9,_⟩:=IX.cell y c e
    rw [z,new1] at e9;cases e9
   ·have e9:=(IX.pin p hp).1
    rw [z,new1] at e9;cases e9
  refine wpAny_mono (KD.any (E:=fun _ _=>False) (uE _ _) (wpAny_looks_onW (Q:=fun _ s''=>∃ h4,s''={ s' with heap:=h4 }/\Heap.HeldW B X.stack ea (.ref C) (.ref t) X.env.locals h4/\s'.heap.UpToSlots h4) (by rw [← hst];exact I.ok.frames) hf (by rw [← hst];exact fl) fun h4 x1 x2=>⟨h4,rfl,by rw [hst];exact x1,x2⟩)) ?_ (fun _ _ z=>False.elim z.1)
  rintro _ _ ⟨⟨h4,rfl,l4,sm4⟩,dk4⟩
  refine wpAny_mono (KD.any (E:=fun _ _=>False) (jU _ _) (wpAny_landsW (s:={ s' with heap:=h4 }) (Q:=fun _ s''=>∃ h5,s''={ s' with heap:=h5 }/\Heap.FlyingW B X.stack ea (.ref C) (.ref t) h5/\h4.UpToSlots h5) l4 fun h5 x1 x2=>⟨h5,rfl,x1,x2⟩)) ?_ (fun _ _ z=>False.elim z.1)
  rintro _ _ ⟨⟨h5,rfl,f5,sm5⟩,dk5⟩
  obtain ⟨o5,e5,_,d5,g5⟩:=(dk4.trans dk5) ea oe hoe
  have I5:=mk h5 f5 (sm4.trans sm5) ⟨o5,e5,hdo.dk d5 g5⟩
  obtain ⟨o5',v5,e5',c5,t5,_⟩:=f5.first
  rw [e5] at e5'
  cases e5'
  refine wpAny_handleBy_cons (codeAny_handlers_test ?_) (by intro q;cases q)
  refine ju (X:={ X with A:=X.A.mark (some (.ref ea)),calm:=false,xe:=fun _ _=>False }) I5.yp hg hm ?_ hd
  have LT:PySem.W.Looks (model X.prog X.w) h5 (typeOf (.ref ea)) (.ref C):=c5 ▸ (PySem.W.Looks.ld e5).andThen .now
  refine PySem.W.exm_one I5.kIn LT htrue _ _ _ _ (fun _ _ e=>e) ?_
  refine codeAny_handlers_suite_as ?_
  refine wpAny_mono (KD.any (E:=fun _ _=>False) (jU _ _) (lands_againW (s:={ s' with heap:=h5 }) (Q:=fun _ s''=>∃ h6,s''={ s' with heap:=h6 }/\Heap.FlyingW B X.stack ea (.ref C) (.ref t) h6/\h5.UpToSlots h6) f5 fun h6 x1 x2=>⟨h6,rfl,x1,x2⟩)) ?_ (fun _ _ z=>False.elim z.1)
  rintro _ _ ⟨⟨h6,rfl,f6,sm6⟩,dk6⟩
  obtain ⟨o6,e6,_,d6,g6⟩:=dk6 ea o5 e5
  have I6:=mk h6 f6 ((sm4.trans sm5).trans sm6) ⟨o6,e6,(hdo.dk d5 g5).dk d6 g6⟩
  refine gD (X:={ X with A:=X.A.mark (some (.ref ea)),calm:=false,xe:=fun _ _=>False }) (v:=.ref ea) I6.yp hN hi (.inl hn) rfl (fun s7 I7=>?_) (.inr hn)
  refine wpAny_mono (hh ea pins s7 _ _ (D.un i) I7 (hE ea _ hea (cH hea) aq)) (fun f s8 hsp=>?_) (fun _ _ z=>False.elim z)
  cases f with
  | next =>
   obtain ⟨σ9,H9,I9,q9⟩:=hsp
   exact iQ (Inv.markFrom I.ok I9) hN hi hn fun s9 J=>⟨_,H9,J,q9⟩
  | brk =>
   obtain ⟨σ9,H9,I9,q9⟩:=hsp
   exact iQ (Inv.markFrom I.ok I9) hN hi hn fun s9 J=>⟨_,H9,J,q9⟩
  | cont =>
   obtain ⟨σ9,H9,I9,q9⟩:=hsp
   exact iQ (Inv.markFrom I.ok I9) hN hi hn fun s9 J=>⟨_,H9,J,q9⟩
  | ret u =>
   obtain ⟨v9,σ9,H9,I9,r9,q9⟩:=hsp
   exact iQ (Inv.markFrom I.ok I9) hN hi hn fun s9 J=>⟨v9,_,H9,J,r9,q9⟩
 ·intro f s1 hsp
  cases f with
  | next =>
   obtain ⟨σ9,H9,I9,q9⟩:=hsp
   exact wpAny_execs_nil ⟨σ9,H9,I9.mQ,q9⟩
  | brk =>
   obtain ⟨σ9,H9,I9,q9⟩:=hsp
   exact ⟨σ9,H9,I9.mQ,q9⟩
  | cont =>
   obtain ⟨σ9,H9,I9,q9⟩:=hsp
   exact ⟨σ9,H9,I9.mQ,q9⟩
  | ret u =>
   obtain ⟨v9,σ9,H9,I9,r9,q9⟩:=hsp
   exact ⟨v9,σ9,H9,I9.mQ,r9,q9⟩
end
theorem oQ {K:PySem.W.Frag}{tb:(St->XK)->TS}{CE:Addr}{i:Nat}{th:Addr->TS}{D:Ends}{σ:St}{H:Hp}:uS K tb CE i th D σ H =
 tb (fun σ' c d H'=>PySem.W.exmOne K c (.ref CE)=some true/\∀ ea H2,H' ea=none->ak H' H2->H2 ea=some (mq ea c d)->th ea (D.un i) (σ'.set i (some (.ref ea))) H2) D σ H:=propext Iff.rfl
theorem AQ {K:PySem.W.Frag}{tb:(St->XK)->TS}{CE:Addr}{i:Nat}{th:Addr->TS}{D:Ends}{σ:St}{H:Hp} (h:∀ th',th'=th->uS K tb CE i th' D σ H):uS K tb CE i th D σ H:=h th rfl
section
variable {X:Cx}{tg:Expr}
theorem A9 {iter:Expr}{body:List Stmt}{wi:TI}{g:TG}{tb:TS}{pos:Pos} (hp:PassesOwn (model X.prog X.w) X.A X.env X.xe) (hi:PIH X tg iter wi) (hg:PG X tg g) (hb:PSs X body tb)
  (hs:∀ x,foldedSetIterable iter X.env x=pure x:=by intro _;rfl):PS X (.For tg iter body [] pos) (CM wi g tb):=by
 intro pins s σ H D I h
 refine wpAny_For (thn (hi pins s σ H _ I h) fun v s1 h1=>thn h1 fun itv s2 h2=>?_) hs
 obtain ⟨it,fp,tn,J,H2,e,I2,T,st2,f2,W,⟨m0,w0⟩,turn⟩:=h2
 subst e
 -- what stays true of the iterator's objects through the loop
 have stat:∀ {H':Hp},(∀ b∈fp,H' b=none)->∀ b∈fp,gG X pins H' b:=fun hn b hb=>⟨hn b hb,(f2 b hb).2⟩
 refine codeAny_forLoop_any (fun n s'=>∃ i σ' H',Inv X pins σ' H' s'/\tn i s'.heap/\(∀ b∈fp,H' b=none)/\W i n σ' H') ?_ m0 ⟨0,σ,H2,I2,st2,fun b hb=>(f2 b hb).1,w0⟩
 rintro n s3 ⟨i,σ3,H3,I3,st3,fr3,w3⟩
 rcases turn i n σ3 H3 w3 with ⟨stop,qn⟩ | ⟨go,N,hN,step⟩
 ·refine wpAny_passesOwn hp (thn (T.done X rfl rfl rfl rfl i pins s3 σ3 H3 X.xe I3 (stat fr3) st3 stop) fun r s4 ⟨hr,I4⟩=>?_)
  subst hr
  exact wpAny_execs_nil ⟨σ3,H3,I4,qn⟩
 ·refine wpAny_passesOwn hp (thn (T.item X rfl rfl rfl rfl i pins s3 σ3 H3 X.xe I3 (stat fr3) st3 go) fun r s4 ⟨u,hr,h4⟩=>?_)
  subst hr
  refine wpAny_passesOwn hp (thn h4 fun _ s5 ⟨x,H5,I5,r5,y5,st5,fr5⟩=>?_)
  have I5':=I5.pinned (stat fr5) (T.obj _ _ st5)
  refine wpAny_passesOwn hp (thn (hg _ s5 σ3 H5 x u _ I5' r5 (step x H5 y5)) fun _ s6 ⟨σ6,H6,I6,q6⟩=>?_)
  refine wpAny_passesOwn hp (thn (hb _ s6 σ6 H6 _ I6 q6) fun f s7 q7=>?_)
  have again:∀ {σ7:St}{H7:Hp},Inv X (pins++jh fp s5.heap) σ7 H7 s7->N σ7 H7->∃ m,m < n/\∃ i σ' H',Inv X pins σ' H' s7/\tn i s7.heap/\(∀ b∈fp,H' b=none)/\W i m σ' H':=fun {σ7 H7} I7 n7=>by
   obtain ⟨m',hm,w7⟩:=hN σ7 H7 n7
   refine ⟨m',hm,i + 1,σ7,H7,I7.eZ,T.keep _ _ _ st5 fun b hb o e=>(I7.pin (b,o) (List.mem_append_right _ (List.mem_append_right _ (cW hb e)))).1,fun b hb=>?_,w7⟩
   obtain ⟨o,e,d⟩:=T.obj _ _ st5 b hb
   exact (I7.pin (b,o) (List.mem_append_right _ (List.mem_append_right _ (cW hb e)))).2.1
  cases f with
  | next=>obtain ⟨σ7,H7,I7,n7⟩:=q7;exact again I7 n7
  | cont=>obtain ⟨σ7,H7,I7,n7⟩:=q7;exact again I7 n7
  | brk=>obtain ⟨σ7,H7,I7,q7⟩:=q7;exact ⟨σ7,H7,I7.eZ,q7⟩
  | ret v=>obtain ⟨x7,σ7,H7,I7,r7,q7⟩:=q7;exact ⟨x7,σ7,H7,I7.eZ,r7,q7⟩
end
theorem xP {hd:Option Value}{lo:Int}{n:Nat}{g:TG}{tb:TS}{D:Ends}{σ:St}{H:Hp} (Pv:Nat->St->Hp->Prop) (h0:Pv 0 σ H) (hin:∀ σ H,Pv n σ H->gH hd H)
  (hs:∀ i σ H,i < n->Pv i σ H->∀ N:St->Hp->Prop,(∀ σ' H',Pv (i + 1) σ' H'->N σ' H')->g (.int (lo + i)) σ H fun σ2 H2=>tb { D with nx:=N,ct:=N,bk:=D.nx } σ2 H2) (he:∀ σ H,Pv n σ H->D.nx σ H):gr g tb D (vd hd lo n) σ H:=by
 refine ⟨fun i m σ H=>m=n - i/\i<=n/\Pv i σ H,⟨n,by simp,Nat.zero_le _,h0⟩,?_⟩
 rintro i m σ H ⟨rfl,hi,p⟩
 by_cases hlt:i < n
 ·refine .inr ⟨hlt,Pv (i + 1),fun σ' H' p'=>⟨n - (i + 1),by omega,rfl,hlt,p'⟩,fun x H' y=>?_⟩
  obtain ⟨e,y⟩:=y
  subst e y
  exact hs i σ _ hlt p _ fun _ _ h=>h
 ·have e:i=n:=by omega
  subst e
  exact .inl ⟨⟨Nat.le_refl _,hin _ _ p⟩,he _ _ p⟩
end L2

namespace L2
open PySem PySem.Spec PyProof.Rows
theorem gc.kr {H:Hp}{a:Addr}{kvs:List (Key × V)}{k:Key} (e:Rd H a (.dK kvs)):gc H a (kV k) (bS kvs k):=.inl ⟨kvs,k,e,rfl,rfl⟩
end L2

namespace L2
open PySem PySem.Spec PyProof.Rows
section
variable {K:PySem.W.Frag}{x m q:Str}{st:Stmt}{f C:Addr}{oc:Value}{od an:Option Addr}{osl:Array (Option Value)}{kV doc pm cdv ct:Value}
end
section
variable {P:Program}{w:World}{K:PySem.W.Frag}{h base:Heap}{mg:Str->Option Value}{k:Nat}{x m q:Str}{st:Stmt}{C:Addr}{ps:List Str}{sp:Sp}
end
end L2

namespace L2
open PySem PySem.Spec PyProof.Rows
structure lz (P:Program) (w:World) (K:PySem.W.Frag) (mg:Str->Option Value) (base:Heap) (CX:CXT) (C:Addr) (m:Str) (d n:Nat) (ps:List Str) (spA:Sp->Sp):Prop where
 ex:∃ (f:Addr) (fd:FuncData),(∀ k,pZ P w K mg base CX (k + d) f fd ps (AM P w K mg base k n spA))/\Meth K C m f/\Binds K fd ps []
 cl:Cls K C
theorem Fun.okH {P:Program}{w:World}{K:PySem.W.Frag}{mg:Str->Option Value}{base:Heap}{x qual:Str}{st:Stmt}{f:Addr}{fd:FuncData}{N ps:List Str}{j k n:Nat}{spA:Sp->Sp} (F:Fun K x qual st f fd) (S:aA N ps (af st)) (len:∀ spf vs H Q E,spA spf vs H Q E->vs.length=ps.length)
  (hbody:∀ (cdv:Value) (A:Around) (outer:List Env) (s:Shared) (H:Hp) (vs:List V) (Q:VK) (E:XK),bA j (A.deeper (envOfC qual (af st) s.heap.objs.size f cdv))->∀ (lf:Addr) (spf:Sp),vs.getLast?=some (.ref lf)->fm H lf->gI P w K mg base k n lf spf s H->spA spf vs H Q E →
   ∃ t,PSs (iS (CX1 P w) P w K mg base N qual (af st) f cdv A outer s H E) (aw st) t/\t { nx:=fun _ H'=>Q .non H',rt:=Q } (start N vs) H):pZ P w K mg base (CX1 P w) (j + 1) f fd ps (AM P w K mg base k n spA):=by
 obtain ⟨oc,od,kV,doc,pm,an,cdv,ct,osl,rfl,lk,hcd⟩:=F.ex
 exact BR lk hcd S (fun s vs H Q E ⟨_,_,_,_,_,h⟩=>len _ _ _ _ _ h) fun A outer s H vs Q E hr ⟨lf,spf,h1,h2,h3,h4⟩=>hbody cdv A outer s H vs Q E hr lf spf h1 h2 h3 h4
def uX (C:Addr) (m:Str) (spA:Sp->Sp) (q:Str) (Pt:Addr) (js:List Nat) (te:TE) (E:St->XK) (ta t1 t2:TE):TE:=fun σ H Q=>ta σ H fun x H0=>i8 C m x H0 fun H0=>t1 σ H0 fun y H1=>t2 σ H1 fun z H2=>H2 Pt=some (gE q)/\∀ f H',H2 f=none->ak H2 H'->fm H' f->spA (fun vs H Q _=>te (vs.map some++qw js σ) H Q) [x,y,z,.ref f] H' Q (E σ)
theorem nA {C:Addr}{m:Str}{spA:Sp->Sp}{q:Str}{Pt:Addr}{js:List Nat}{te:TE}{E:St->XK}{ta t1 t2:TE}{σ:St}{H:Hp}{Q:VK}:uX C m spA q Pt js te E ta t1 t2 σ H Q=ta σ H fun x H0=>i8 C m x H0 fun H0=>t1 σ H0 fun y H1=>t2 σ H1 fun z H2=>H2 Pt=some (gE q)/\∀ f H',H2 f=none->ak H2 H'->fm H' f->spA (fun vs H Q _=>te (vs.map some++qw js σ) H Q) [x,y,z,.ref f] H' Q (E σ):=propext Iff.rfl
def uY (C:Addr) (m:Str) (spA:Sp->Sp) (lf:Addr) (spf:Sp) (E:St->XK) (ta tv:TE):TE:=fun σ H Q=>ta σ H fun x H0=>i8 C m x H0 fun H0=>tv σ H0 fun y H1=>y=.ref lf/\fm H1 lf/\spA spf [x,.ref lf] H1 Q (E σ)
theorem nB {C:Addr}{m:Str}{spA:Sp->Sp}{lf:Addr}{spf:Sp}{E:St->XK}{ta tv:TE}{σ:St}{H:Hp}{Q:VK}:uY C m spA lf spf E ta tv σ H Q=ta σ H fun x H0=>i8 C m x H0 fun H0=>tv σ H0 fun y H1=>y=.ref lf/\fm H1 lf/\spA spf [x,.ref lf] H1 Q (E σ):=propext Iff.rfl
section
variable {X:Cx}
theorem oA {pl:Sem Bool}{E:St->XK}{k d n:Nat}{C:Addr}{m q:Str}{gps ps fr:List Str}{js:List Nat}{spA:Sp->Sp}{o e1 e2:Expr}{ta t1 t2 te:TE}{apos pos lpos:Pos}{params:Arguments}{body:Expr}{scope:Scope}{cl:List (Str × Addr)}{c Pt:Addr}
  (M:lz X.prog X.w X.K X.mg X.base (CX1 X.prog X.w) C m d n gps spA) (hn:ps.length=n) (hg4:gps.length=4) (hx:Passes (CX1 X.prog X.w) X E) (hr:bA (k + 1 + d) X.A) (he:PE X o ta) (h1:PE X e1 t1) (h2:PE X e2 t2)
  (hcd:X.env.code=.ref c) (hC:PySem.W.codeHdIn X.K c Pt=true) (hq:X.env.qual++"<lambda>"=q) (hcl:clo X.env.cells scope.names []=some cl) (hcap:zI X scope fr js)
  (hbind:∀ (pm ctv:Value) (c':Addr) (us:List Value),us.length=ps.length->bindArgs (PySem.W.kla_fn "<lambda>" q params body scope cl pm (.ref c') ctv) ⟨us,[]⟩=pure (ps.zip us))
  (hbody:∀ (f c':Addr) (A:Around) (outer:List Env) (s:Shared) (H:Hp),bA k (A.deeper (PySem.W.envX q scope s.heap.objs.size f (.ref c') cl))->PE (uk X.prog X.w X.K X.mg X.base (ps++fr) q scope f (.ref c') cl A outer s H) body te)
  (hps:∀ y∈ps,scope.names.lookup y=some .local) (hnd:ps.Nodup)
  (hd:defaultsOf params X.env=([],[]):=by rfl)
  (hco:scope.isCoroutine=false:=by rfl) (hgen:scope.isGenerator=false:=by rfl) (hk:scope.kind=.function:=by rfl) (hcell:∀ y∈scope.names,y.2≠.cell:=by decide +kernel)
  (hs:bY [e1,e2,.Lambda params body scope lpos]=true:=by kernel_rfl)
  (ht:eval (.Call (.Attribute o m apos) [e1,e2,.Lambda params body scope lpos] [] pos) X.env=(do
   let ov ← eval o X.env
   standAt apos.atName
   let (f,first) ← holding [ov] (getMethod ov m pl)
   callWith pos f first (backTo pos (starEach [e1,e2,.Lambda params body scope lpos] X.env)) (backToKw pos (keywordEach [] X.env))):=by rfl) :
  PE X (.Call (.Attribute o m apos) [e1,e2,.Lambda params body scope lpos] [] pos) (uX C m spA q Pt js te E ta t1 t2):=by
 obtain ⟨g,fd,F,hm,hb⟩:=M.ex
 have s1:=aE hs
 have s2:=aE s1.2
 have s3:=aE s2.2
 intro pins s σ H Q I h
 refine PySem.W.methodCall_KW (pl:=pl) (thn (he pins s σ H _ I h) fun u s0 ⟨x,H0,I0,rx,q0⟩=>?_) ht
 cases x <;> try exact q0.elim
 next a =>
 obtain ⟨dx,fs,ea,l,q1⟩:=q0
 obtain rfl:u=Value.ref a:=rx
 refine gJ I0 ea M.cl hm l ?_
 refine PySem.W.callWith_K (first:=[.ref a]) (h₀:=X.base) I.ok.mod.kin hm.kp ?_ (aB s1.1) (bL s1.2)
 rw [aB s1.1,aB s2.1,aB s3.1]
 refine Calls.spliced_cons (thn (h1 pins s0 σ H0 _ I0 q1) fun u1 sa ⟨x1,Ha,Ia,ra,qa⟩=>?_)
 refine Calls.spliced_cons (thn (h2 pins sa σ Ha _ Ia qa) fun u2 sb ⟨x2,Hb,Ib,rb,hP,qb⟩=>?_)
 refine Calls.spliced_cons (vR Ib hP hcd hC hq hd hcl fun f c' ctv H' s' I' sm hn' hf hc=>?_)
 refine Calls.spliced_nil ⟨I'.kIn,?_⟩
 have la:fm H' f:=⟨_,_,_,_,_,_,_,_,_,hf⟩
 have st:=ym (k:=k) I' hf hc hcl (hbind _ _ _) hco hgen hk hcell hps hnd hcap (fun A outer s H hr=>hbody f c' A outer s H hr)
 rw [hn] at st
 have r:Vals [.ref a,x1,x2,.ref f] [.ref a,u1,u2,.ref f]:=.cons rfl (.cons ra (.cons rb (.cons rfl .nil)))
 refine wpAny_call (codeAny_mono ((F (k + 1)).run X.A X.stack s' H' ⟨[.ref a,u1,u2,.ref f],[]⟩ [.ref a,u1,u2,.ref f] [.ref a,x1,x2,.ref f] Q (E σ) hr I'.xD (by have:=hb s' [.ref a,u1,u2,.ref f] I'.kIn (by rw [hg4];rfl);simpa using this) r ⟨f,_,rfl,la,st,qb f H' hn' sm la⟩) fun r s'' hq=>?_)
 cases r with
 | error e=>exact hx pins σ H' s' e s'' I' hq
 | ok fl =>
  cases fl with
  | ret u=>exact I'.after hq
  | next=>exact False.elim hq
  | brk=>exact False.elim hq
  | cont=>exact False.elim hq
theorem wg {pl:Sem Bool}{E:St->XK}{k d n:Nat}{C lf:Addr}{m:Str}{gps:List Str}{spA:Sp->Sp}{spf:Sp}{o ev:Expr}{ta tv:TE}{apos pos:Pos}
  (M:lz X.prog X.w X.K X.mg X.base (CX1 X.prog X.w) C m d n gps spA) (S:gI X.prog X.w X.K X.mg X.base k n lf spf X.s₀ X.H₀) (hex:X.ex=[]) (hg2:gps.length=2) (hx:Passes (CX1 X.prog X.w) X E) (hr:bA (k + d) X.A) (he:PE X o ta) (hv:PE X ev tv)
  (hs:bY [ev]=true:=by kernel_rfl)
  (ht:eval (.Call (.Attribute o m apos) [ev] [] pos) X.env=(do
   let ov ← eval o X.env
   standAt apos.atName
   let (f,first) ← holding [ov] (getMethod ov m pl)
   callWith pos f first (backTo pos (starEach [ev] X.env)) (backToKw pos (keywordEach [] X.env))):=by rfl) :
  PE X (.Call (.Attribute o m apos) [ev] [] pos) (uY C m spA lf spf E ta tv):=by
 obtain ⟨g,fd,F,hm,hb⟩:=M.ex
 have s1:=aE hs
 intro pins s σ H Q I h
 refine PySem.W.methodCall_KW (pl:=pl) (thn (he pins s σ H _ I h) fun u s0 ⟨x,H0,I0,rx,q0⟩=>?_) ht
 cases x <;> try exact q0.elim
 next a =>
 obtain ⟨dx,fs,ea,l,q1⟩:=q0
 obtain rfl:u=Value.ref a:=rx
 refine gJ I0 ea M.cl hm l ?_
 refine PySem.W.callWith_K (first:=[.ref a]) (h₀:=X.base) I.ok.mod.kin hm.kp ?_ (aB s1.1) (bL s1.2)
 rw [aB s1.1]
 refine Calls.spliced_cons (thn (hv pins s0 σ H0 _ I0 q1) fun u1 s' ⟨x1,H',I',ra,e1,la,qa⟩=>?_)
 refine Calls.spliced_nil ⟨I'.kIn,?_⟩
 subst e1
 obtain rfl:u1=Value.ref lf:=ra
 have ub:=I'.base
 rw [hex] at ub
 have st:=S.later (s₁:=s') ⟨_,ub⟩
 have r:Vals [.ref a,.ref lf] [.ref a,.ref lf]:=.cons rfl (.cons rfl .nil)
 refine wpAny_call (codeAny_mono ((F k).run X.A X.stack s' H' ⟨[.ref a,.ref lf],[]⟩ [.ref a,.ref lf] [.ref a,.ref lf] Q (E σ) hr I'.xD (by have:=hb s' [.ref a,.ref lf] I'.kIn (by rw [hg2];rfl);simpa using this) r ⟨lf,_,rfl,la,st,qa⟩) fun r s'' hq=>?_)
 cases r with
 | error e=>exact hx pins σ H' s' e s'' I' hq
 | ok fl =>
  cases fl with
  | ret u=>exact I'.after hq
  | next=>exact False.elim hq
  | brk=>exact False.elim hq
  | cont=>exact False.elim hq
end
end L2

namespace L2
open PySem PySem.Spec PyProof.Rows
def kN (P:Program) (w:World) (a:Addr) (kvs:List (Key × V)) (D:Obj):Prop :=
 kvs.length<=sizeLine/\(a == sysModules)=false/\∃ vs,KV kvs vs/\∃ es ep,D.ExactDict/\D.data=.dict es ep/\KeysOf (aI P w) es/\Pairs (aI P w) es.toList vs/\(vs.map (·.1)).Nodup
theorem kN.ok {P:Program}{w:World}{a:Addr}{kvs:List (Key × V)}{D:Obj}{H:Hp}{h:Heap} (r:kN P w a kvs D) (g:h.get? a=some D):aS P w H h a (.dK kvs):=by
 obtain ⟨z,hs,vs,rel,es,ep,e2,e3,e4,e5,e6⟩:=r
 exact ⟨z,hs,vs,rel,D,es,ep,g,e2,e3,e4,e5,e6⟩
theorem kN.dict {P:Program}{w:World}{a:Addr}{kvs:List (Key × V)}{D:Obj}{h:Heap} (r:kN P w a kvs D) (g:h.get? a=some D):∃ vs,KV kvs vs/\h.DictOf (aI P w) a vs:=by
 obtain ⟨z,hs,vs,rel,es,ep,e2,e3,e4,e5,e6⟩:=r
 exact ⟨vs,rel,D,es,ep,g,e2,e3,e4,e5,e6⟩
def Ith (a:Addr) (D:Obj) (kvs:List (Key × V)):It :=
 ⟨fun i H=>i < kvs.length/\H a=some (fR a D),fun i H v H'=>(∃ k x,kvs[i]?=some (k,x)/\v=kV k)/\H'=H,fun i H=>kvs.length<=i/\H a=some (fR a D)⟩
theorem w5 {D:Obj}{a:Addr}{kvs:List (Key × V)}{H1:Hp} (h:H1 a=some (fR a D)):(Ith a D kvs).Seq H1 (kvs.map fun kv=>kV kv.1):=fun H s =>
 ⟨fun i x e=>by
  rw [List.getElem?_map] at e
  obtain ⟨⟨k,v⟩,hk,e2⟩:=Option.map_eq_some_iff.mp e
  have e2':kV k=x:=e2
  refine ⟨⟨(List.getElem?_eq_some_iff.mp hk).1,s _ _ h⟩,fun y H' z=>?_⟩
  obtain ⟨⟨k',v',h1,h2⟩,h3⟩:=z
  rw [hk] at h1
  cases h1
  exact ⟨h3,h2.trans e2'⟩,fun i hi=>⟨by rw [List.length_map] at hi;exact hi,s _ _ h⟩⟩
theorem jt {X:Cx}{pins:List (Addr × Obj)}{σ:St}{H:Hp}{s:Shared}{a:Addr}{D:Obj} (I:Inv X pins σ H s) (h:H a=some (fR a D)):s.heap.get? a=some D:=(show aS X.prog X.w H s.heap a (fR a D) from I.hok a _ h).1
theorem tH {P:Program}{w:World}{K:PySem.W.Frag}{tg:Expr} (D:Obj) (a it:Addr) (kvs:List (Key × V)) (es:Array DictEntry) (ep:Nat) (kr:kN P w a kvs D) (hd:D.data=.dict es ep) (hz:es.size=kvs.length) :
  Turn P w K tg (Ith a D kvs) [it] it (fun i h=>h.IsKeyIter it a i es.size ep) where
 mem:=by simp
 obj:=fun i h st b hb=>by
  obtain rfl:b=it:=by simpa using hb
  obtain ⟨o,e1,e2,e3⟩:=st
  exact ⟨o,e1,fun v z=>by rw [e3] at z;cases z⟩
 keep:=fun i h h' st k=>by
  obtain ⟨o,e1,e2,e3⟩:=st
  exact ⟨o,k it (by simp) o e1,e2,e3⟩
 item:=by
  intro X hP hw hK hc i pins s σ H E I hf st hg
  subst hP hw hK
  obtain ⟨hi,hH⟩:=hg
  have g1:=jt I hH
  obtain ⟨z,hs,vs,r,es',ep',f2,f3,f4,f5,f6⟩:=id kr
  rw [hd] at f3
  injection f3 with e1 e2
  subst e1
  obtain ⟨⟨k1,x⟩,hk⟩:∃ p,kvs[i]?=some p:=⟨_,List.getElem?_eq_getElem hi⟩
  obtain ⟨⟨k2,u⟩,hu,hke,ru⟩:∃ q:Key × Value,vs[i]?=some q/\k1=q.1/\RelV x q.2:=by
   obtain ⟨q,h1,h2⟩:=yk r hk
   exact ⟨q,h1,h2.1,h2.2⟩
  have hke:k1=k2:=hke
  subst hke
  have hi':i < es.size:=by omega
  have ek:ip k1 (es[i]'hi').key=true:=(f5.get? (e:=es[i]'hi') (by simp [hi']) hu).1
  refine zc (es:=es) st g1 hd hi' fun h' st' sb=>⟨_,rfl,?_⟩
  obtain ⟨o',q1,q2,q3⟩:=id st'
  refine oi (s:={ s with heap:=h' }) q1 q2 q3 (by decide) ?_
  exact ⟨kV k1,H,I.va (t':=s.toks) (ch:=[it]) hf (fun c o hc e=>(sb.2 c (by simpa using hc)).trans e),uR ek,⟨⟨k1,x,hk,rfl⟩,rfl⟩,st',fun b hb=>(hf b hb).1⟩
 done:=by
  intro X hP hw hK hc i pins s σ H E I hf st hg
  subst hP hw hK
  obtain ⟨hi,hH⟩:=hg
  have g1:=jt I hH
  refine AE (I.ok.hd hc) st (by omega) g1 hd fun h' kk=>⟨rfl,I.va (t':=s.toks) (ch:=[it]) hf fun c o hc e=>?_⟩
  exact kk c o (by simpa using hc) e
 self:=fun _ _ _ _ _ st h=>wpAny_pyIter_keyiter st h
def xZ (P:Program) (w:World) (te:TE):TI:=fun σ H R=>te σ H fun x H1=>∃ a kvs,x=.ref a/\H1 a=some (.dK kvs) ∧
 ∀ D H2,kN P w a kvs D->(∀ b o,b≠a->H1 b=some o->H2 b=some o)->H2 a=some (fR a D)->R (Ith a D kvs) H2
theorem n8 {P:Program}{w:World}{te:TE}{σ:St}{H:Hp}{R:It->Hp->Prop}:xZ P w te σ H R=te σ H fun x H1=>∃ a kvs,x=.ref a/\H1 a=some (.dK kvs) ∧
 ∀ D H2,kN P w a kvs D->(∀ b o,b≠a->H1 b=some o->H2 b=some o)->H2 a=some (fR a D)->R (Ith a D kvs) H2:=propext Iff.rfl
theorem yN {X:Cx}{P:Program}{w:World}{tg l:Expr}{tl:TE} (hP:X.prog=P) (hw:X.w=w) (hl:PE X l tl):PI X tg l (xZ P w tl):=by
 subst hP hw
 intro pins s σ H R I h
 refine thn (hl pins s σ H _ I h) fun v s1 ⟨x,H1,I1,r1,q1⟩=>?_
 obtain ⟨a,kvs,rfl,ha,q⟩:=q1
 cases r1
 obtain ⟨z,hs,vs,rel,ob,es,ep,e1,e2,e3,e4,e5,e6⟩:=qG I1.hok ha
 have kr:kN X.prog X.w a kvs ob:=⟨z,hs,vs,rel,es,ep,e2,e3,e4,e5,e6⟩
 have I2:Inv X pins σ (upd H1 a (fR a ob)) s1:=I1.write (x:=a) (e:=a) (h':=s1.heap) (t':=s1.toks) (o:=fR a ob) (by rw [ha];exact True.intro) (.inl rfl) (fun _ _ _ e=>e) ⟨ob,e1⟩ (xW e1)
 have hz:es.size=kvs.length:=by
  have h1:kvs.length=vs.length:=Paired.length rel
  have h2:=e5.length
  simp at h2
  omega
 refine zb hs e1 e2 e3 ?_
 refine ⟨s1.heap.objs.size,[s1.heap.objs.size],_,_,_,rfl,I2.kept (t':=s1.toks) (fun b o e=>Heap.get?_push_of_some _ e),tH ob a _ kvs es ep kr e3 hz,⟨_,Heap.get?_push_size _ rfl,rfl,rfl⟩,fun b hb=>?_,q ob _ kr (fun b o hb e=>by rw [aj hb];exact e) aq⟩
 obtain rfl:b=s1.heap.objs.size:=by simpa using hb
 exact I2.mx (Nat.le_refl _) (I2.hok.fresh (Nat.le_refl _))
def zv (P:Program) (w:World) (td ty:TE):TE:=fun σ H Q=>td σ H fun x H1=>ty σ H1 fun y H2=>∃ a D kvs k v,x=.ref a/\H2 a=some (fR a D)/\kN P w a kvs D/\y=kV k/\bS kvs k=some v/\Q v H2
theorem qg {P:Program}{w:World}{td ty:TE}{σ:St}{H:Hp}{Q:VK}:zv P w td ty σ H Q=td σ H fun x H1=>ty σ H1 fun y H2=>∃ a D kvs k v,x=.ref a/\H2 a=some (fR a D)/\kN P w a kvs D/\y=kV k/\bS kvs k=some v/\Q v H2:=propext Iff.rfl
theorem yF {X:Cx}{P:Program}{w:World}{o i:Expr}{td ty:TE}{pos:Pos} (hP:X.prog=P) (hw:X.w=w) (ho:PE X o td) (hi:PE X i ty) (hs:zK i:=by exact fun _ _=>rfl):PE X (.Subscript o i pos) (zv P w td ty):=by
 subst hP hw
 intro pins s σ H Q I h
 refine uU PySem.F.slot_dict_getitem.lookup hs (thn (ho pins s σ H _ I h) fun u s1 ⟨x,H1,I1,rx,q1⟩=>thn (hi pins s1 σ H1 _ I1 q1) fun iv s2 ⟨y,H2,I2,ry,a,D,kvs,k,v,ex,hH,kr,ey,l,q2⟩=>?_)
 subst ex ey
 obtain rfl:u=Value.ref a:=rx
 obtain ⟨vs,rel,dd⟩:=kr.dict (jt I2 hH)
 obtain ⟨w',hw,rw'⟩:=gd.some_of (v:=v) (o:=valueAt vs k) (by rw [← l];exact rel.val k)
 exact ⟨dd.typeIs,wpAny_getItem_of (kz ry) dd.mapOf hw ⟨v,H2,I2.tok _,rw',q2⟩⟩
def zB (P:Program) (w:World) (E:Ends):St->Hp->Prop:=fun σ' H3=>∃ a D kvs,H3 a=some (fR a D)/\kN P w a kvs D/\∀ H4,(∀ b u,b≠a->H3 b=some u->H4 b=some u)->H4 a=some (.dK kvs)->E.nx σ' H4
def zl (P:Program) (w:World) (t:TS):TS:=fun E σ H=>t { E with nx:=zB P w E } σ H
theorem qm {P:Program}{w:World}{t:TS}{E:Ends}{σ:St}{H:Hp}:zl P w t E σ H=t { E with nx:=zB P w E } σ H:=propext Iff.rfl
theorem vf {P:Program}{w:World}{E:Ends}{σ':St}{H3:Hp}:zB P w E σ' H3=(∃ a D kvs,H3 a=some (fR a D)/\kN P w a kvs D/\∀ H4,(∀ b u,b≠a->H3 b=some u->H4 b=some u)->H4 a=some (.dK kvs)->E.nx σ' H4):=propext Iff.rfl
theorem yQ {X:Cx}{P:Program}{w:World}{st:Stmt}{t:TS} (hP:X.prog=P) (hw:X.w=w) (h:PS X st t):PS X st (zl P w t):=by
 subst hP hw
 intro pins s σ H D I q
 refine thn (h pins s σ H _ I q) fun f s1 z=>?_
 cases f with
 | next =>
  obtain ⟨σ1,H1,I1,a,o,kvs,e1,kr,k⟩:=z
  have g1:=jt I1 e1
  refine ⟨σ1,upd H1 a (.dK kvs),?_,k _ (fun b u hb e=>by rw [aj hb];exact e) aq⟩
  exact I1.write (x:=a) (e:=a) (h':=s1.heap) (t':=s1.toks) (o:=.dK kvs) (by rw [e1];exact True.intro) (.inl rfl) (fun _ _ _ e=>e) ⟨o,g1⟩ (kr.ok g1)
 | ret u=>exact z
 | brk=>exact z
 | cont=>exact z
end L2

namespace Kb
open PySem L2
seal L2.PE L2.PA L2.PS L2.PSs L2.PT L2.PW L2.PG L2.PGs L2.PI L2.PO L2.DT L2.PIf
def top (i:Nat):Stmt:=PySem.Challenge.pw_cablehouse_k35_editions_by_days.main.body.getD i (.Pass ⟨0,0,0,0⟩)
abbrev eI:Stmt:=top 10
abbrev bQ:Stmt:=top 11
abbrev eD:Stmt:=top 12
abbrev cN:Stmt:=top 15
abbrev eE:Stmt:=top 16
abbrev cM:Stmt:=top 17
abbrev d4:Stmt:=inClass (top 23) 0
abbrev d7:Stmt:=inClass (top 23) 4
abbrev cL:Stmt:=top 26
abbrev d8:Stmt:=top 27
abbrev eG:Stmt:=top 32
abbrev d3:Stmt:=inClass (top 33) 0
abbrev dz:Stmt:=inClass (top 33) 1
abbrev bM:Stmt:=inClass (top 33) 2
abbrev cI:Stmt:=inClass (top 33) 3
abbrev bH:Stmt:=inClass (top 33) 4
abbrev cK:Stmt:=inClass (top 33) 5
abbrev cJ:Stmt:=inClass (top 33) 7
abbrev cq:Stmt:=inClass (top 33) 8
abbrev gB:Stmt:=top 37
abbrev bW:Stmt:=inClass (top 38) 0
abbrev aR:Stmt:=inClass (top 38) 1
abbrev bI:Stmt:=inClass (top 38) 2
abbrev bV:Stmt:=inClass (top 38) 3
abbrev br:Stmt:=inClass (top 38) 4
abbrev aU:Stmt:=inClass (top 38) 5
abbrev bj:Stmt:=inClass (top 38) 6
abbrev aV:Stmt:=inClass (top 38) 7
abbrev cO:Stmt:=top 40
abbrev dC:Stmt:=top 41
abbrev dB:Stmt:=top 42
abbrev d9:Stmt:=top 43
abbrev cQ:Stmt:=top 44
abbrev bR:Stmt:=top 45
abbrev eL:Stmt:=top 46
abbrev eM:Stmt:=top 47
abbrev eJ:Stmt:=top 48
abbrev fE:Stmt:=top 49
abbrev eK:Stmt:=top 50
abbrev cP:Stmt:=top 51
abbrev dA:Stmt:=top 52
abbrev fD:Stmt:=top 53
abbrev jG:Stmt:=top 54
structure Bl (mg:Str->Option Value):Prop where
 isinstance:mg "isinstance"=none
 bool:mg "bool"=none
 int:mg "int"=none
 abs:mg "abs"=none
 all:mg "all"=none
 zip:mg "zip"=none
 len:mg "len"=none
 set:mg "set"=none
 str:mg "str"=none
 list:mg "list"=none
 tuple:mg "tuple"=none
 sorted:mg "sorted"=none
 range:mg "range"=none
 min:mg "min"=none
 ValueError:mg "ValueError"=none
 max:mg "max"=none
structure Ads where
 Code:Addr
 Book:Addr
 Editions:Addr
 CableError:Addr
 NoCode:Addr
 NoNumber:Addr
 NoWord:Addr
 NoEntry:Addr
 Twice:Addr
 TooMany:Addr
 NoDay:Addr
 cd:Addr
 tb:Addr
 cd1:Addr
 tb1:Addr
 none:Unit:=()
def Ads.zT (Ad:Ads):List Addr:=[Ad.NoCode,Ad.NoNumber,Ad.NoWord,Ad.NoEntry,Ad.Twice,Ad.TooMany,Ad.NoDay]
structure AdF (K:PySem.W.Frag) (mg:Str->Option Value) (Ad:Ads):Prop where
 g_Code:mg "Code"=some (.ref Ad.Code)
 g_Book:mg "Book"=some (.ref Ad.Book)
 g_Editions:mg "Editions"=some (.ref Ad.Editions)
 g_CableError:mg "CableError"=some (.ref Ad.CableError)
 g_NoCode:mg "NoCode"=some (.ref Ad.NoCode)
 g_NoNumber:mg "NoNumber"=some (.ref Ad.NoNumber)
 g_NoWord:mg "NoWord"=some (.ref Ad.NoWord)
 g_NoEntry:mg "NoEntry"=some (.ref Ad.NoEntry)
 g_Twice:mg "Twice"=some (.ref Ad.Twice)
 g_TooMany:mg "TooMany"=some (.ref Ad.TooMany)
 g_NoDay:mg "NoDay"=some (.ref Ad.NoDay)
 c_Code:Cls K Ad.Code
 n_Code_letters:cR K Ad.Code "letters"
 n_Code_factors:cR K Ad.Code "factors"
 n_Code_remainder:cR K Ad.Code "remainder"
 c_Book:Cls K Ad.Book
 n_Book_basis:cR K Ad.Book "basis"
 n_Book_by_number:cR K Ad.Book "by_number"
 n_Book_by_entry:cR K Ad.Book "by_entry"
 c_Editions:Cls K Ad.Editions
 n_Editions_current:cR K Ad.Editions "current"
 n_Editions_changes:cR K Ad.Editions "changes"
 n_Editions_struck:cR K Ad.Editions "struck"
 n_Editions_latest:cR K Ad.Editions "latest"
 q_NoCode:PySem.W.excIn K Ad.NoCode [.type "ValueError",.type "Exception",.type "BaseException",.type "object"] "ValueError.__new__"=true
 q_NoNumber:PySem.W.excIn K Ad.NoNumber [.type "ValueError",.type "Exception",.type "BaseException",.type "object"] "ValueError.__new__"=true
 q_NoWord:PySem.W.excIn K Ad.NoWord [.type "ValueError",.type "Exception",.type "BaseException",.type "object"] "ValueError.__new__"=true
 q_NoEntry:PySem.W.excIn K Ad.NoEntry [.type "ValueError",.type "Exception",.type "BaseException",.type "object"] "ValueError.__new__"=true
 q_Twice:PySem.W.excIn K Ad.Twice [.type "ValueError",.type "Exception",.type "BaseException",.type "object"] "ValueError.__new__"=true
 q_TooMany:PySem.W.excIn K Ad.TooMany [.type "ValueError",.type "Exception",.type "BaseException",.type "object"] "ValueError.__new__"=true
 q_NoDay:PySem.W.excIn K Ad.NoDay [.type "ValueError",.type "Exception",.type "BaseException",.type "object"] "ValueError.__new__"=true
 t_tab:PySem.W.codeHdIn K Ad.cd Ad.tb=true
 t_tab1:PySem.W.codeHdIn K Ad.cd1 Ad.tb1=true
 err:oX K Ad.CableError Ad.zT=true
 nd:ndB Ad.zT=true
 v_SMALL_LETTERS:∃ u,mg "SMALL_LETTERS"=some u/\RelV (.str "abcdefghijklmnopqrstuvwxyz") u
 v_LONGEST_WORD:∃ u,mg "LONGEST_WORD"=some u/\RelV (.int 20) u
 v_MOST_ENTRIES:∃ u,mg "MOST_ENTRIES"=some u/\RelV (.int 300) u
 v_MOST_PHRASE_WORDS:∃ u,mg "MOST_PHRASE_WORDS"=some u/\RelV (.int 6) u
 v_MOST_PART_LETTERS:∃ u,mg "MOST_PART_LETTERS"=some u/\RelV (.int 6) u
 v_LATEST_DAY:∃ u,mg "LATEST_DAY"=some u/\RelV (.int 1000000000) u
 v_DAYS_BARRED:∃ u,mg "DAYS_BARRED"=some u/\RelV (.int 31) u
section
variable {P:Program}{w:World}{K:PySem.W.Frag}{mg:Str->Option Value}{base:Heap}{Ad:Ads}
local macro_rules | `(tactic| and_intros) => `(tactic| try simp only [wQ, uN, ue, uQ, tZ, i8, tY, ql, xf, qi, tU, uO, Ends.un, dj, wN, gu, xh, Dd, Bc, Bf, AZ, tP, wW, tO, xb, Ba, ua, tT, uf, Dc, wX, wM, Bd, tN, wY, uc, wU, wV, xc, tR, nw, Bb, Be, nC, ud, tV, qj, tW, wR, wZ, AY, wO, qe, xH, si, sj, u5, u6, u7, xI, u9, qk, tQ, qf, nU, qh, tS, wt, isV, eO, hZ, Tg.sub, Tg.name, rU, wq, Option.join_some, Int.toNat_natCast, List.getElem?_cons_zero, List.getElem?_cons_succ, List.set_cons_zero, List.set_cons_succ, rL, List.map_cons, List.map_nil, List.cons_append, List.nil_append, List.length_cons, List.length_nil, List.replicate_succ, List.replicate_zero, Nat.reduceAdd, Nat.reduceSub, Nat.zero_add, bne_self_eq_false, Bool.true_bne, Bool.false_bne, Bool.not_true, Bool.not_false, if_true, if_false, Bool.false_eq_true, Bool.true_eq_false, reduceIte, lP, lQ, lR, mj, md, kq, ma, me, lT, nT, nQ, nR, nS, nX, nY, nZ, nV, nW, lW, lX, lO, lZ, lY, kx, mf, lU, oa, ku, ky, mh, lV, lL, lN, uz, u4, nA, nB, qd, n8, qg, qm, oQ, n9, qI, qJ])
local macro_rules | `(tactic| ac_nf) => `(tactic| try simp only [dG, wQ, uN, ue, uQ, tZ, i8, tY, ql, xf, qi, tU, uO, Ends.un, dj, wN, gu, xh, Dd, Bc, Bf, AZ, tP, wW, tO, xb, Ba, ua, tT, uf, Dc, wX, wM, Bd, tN, wY, uc, wU, wV, xc, tR, nw, Bb, Be, nC, ud, tV, qj, tW, wR, wZ, AY, wO, qe, xH, si, sj, u5, u6, u7, xI, u9, qk, tQ, qf, nU, qh, tS, wt, isV, eO, hZ, Tg.sub, Tg.name, rU, wq, Option.join_some, Int.toNat_natCast, List.getElem?_cons_zero, List.getElem?_cons_succ, List.set_cons_zero, List.set_cons_succ, rL, List.map_cons, List.map_nil, List.cons_append, List.nil_append, List.length_cons, List.length_nil, List.replicate_succ, List.replicate_zero, Nat.reduceAdd, Nat.reduceSub, Nat.zero_add, bne_self_eq_false, Bool.true_bne, Bool.false_bne, Bool.not_true, Bool.not_false, if_true, if_false, Bool.false_eq_true, Bool.true_eq_false, reduceIte, lP, lQ, lR, mj, md, kq, ma, me, lT, nT, nQ, nR, nS, nX, nY, nZ, nV, nW, lW, lX, lO, lZ, lY, kx, mf, lU, oa, ku, ky, mh, lV, lL, lN, uz, u4, nA, nB, qd, n8, qg, qm, oQ, n9, qI, qJ])
local macro_rules | `(tactic| bv_omega) => `(tactic| try simp only [xH, si, sj, Bool.not_false, Bool.not_true, if_true, if_false, Bool.false_eq_true, Bool.true_eq_false, true_and, and_true])
structure ia (al:List Nat) (ws:List Int) (r:Int):Prop where
 a3:3<=al.length
 a26:al.length<=26
 nd:al.Nodup
 abc:∀ c∈al,97<=c/\c < 123
 w3:3<=ws.length
 w8:ws.length<=8
 wm:∀ x∈ws,0<=x/\x < (al.length:Int)
 safe:Mk.safe al.length ws=true
 rm:0<=r/\r < (al.length:Int)
def lF (al:List Nat) (q:Addr) (r:Int):List (Str × V):=[("letters",.str (tx al)),("factors",.ref q),("remainder",.int r)]
theorem nu (al:List Nat) (q:Addr) (r:Int):(lF al q r).lookup ("letters":Str)=some (V.str (tx al)):=rfl
theorem nt (al:List Nat) (q:Addr) (r:Int):(lF al q r).lookup ("factors":Str)=some (V.ref q):=rfl
theorem lG {m:Str} (h1:m≠("letters":Str)) (h2:m≠("factors":Str)) (h3:m≠("remainder":Str)) (al:List Nat) (q:Addr) (r:Int):(lF al q r).lookup m=none:=by
 unfold lF
 rw [List.lookup_cons,List.lookup_cons,List.lookup_cons,beq_false_of_ne h1,beq_false_of_ne h2,beq_false_of_ne h3]
 rfl
def gb (Ad:Ads) (H:Hp) (a:Addr) (al:List Nat) (ws:List Int) (r:Int):Prop:=∃ dx q,H a=some (.ins Ad.Code dx (lF al q r))/\H q=some (.lst (ws.map V.int))
theorem gb.same {Ad:Ads}{H H':Hp}{a:Addr}{al:List Nat}{ws:List Int}{r:Int} (h:gb Ad H a al ws r) (s:ak H H'):gb Ad H' a al ws r:=by
 obtain ⟨dx,q,h1,h2⟩:=h
 exact ⟨dx,q,s _ _ h1,s _ _ h2⟩
def Parts (H:Hp) (p:Addr) (q:Addr) (al:List Nat) (ws:List Int) (r:Int):Prop:=H p=some (.lst [.str (tx al),.ref q,.int r])/\H q=some (.lst (ws.map V.int))
def lH (H:Hp) (xa xw xr:V) (al:List Nat) (p:Addr) (ws:List Int) (r:Int):Prop:=xa=.str (tx al)/\xw=.ref p/\H p=some (.lst (ws.map V.int))/\xr=.int r/\ia al ws r
def zP (H:Hp) (xa xw xr:V):Prop:=∀ al p ws r,¬ lH H xa xw xr al p ws r


theorem kD {α β:Type}{F:α->β->Prop}:∀ {a:List α}{b:List β}{c:List α}{d:List β},Paired F a b->Paired F c d->Paired F (a++c) (b++d)
 | _,_,_,_,.nil,h=>h
 | _,_,_,_,.cons r t,h=>.cons r (kD t h)
theorem kF {α β:Type}{F G:α->β->Prop} (f:∀ x y,F x y->G x y):∀ {a:List α}{b:List β},Paired F a b->Paired G a b
 | _,_,.nil=>.nil
 | _,_,.cons r t=>.cons (f _ _ r) (kF f t)
theorem vi {α:Type}{l:List α}{v:α} (h:l.getLast?=some v):atI l (-1)=some v:=by
 have hne:l≠[]:=fun e=>by subst e;cases h
 have hl:=List.length_pos_iff.mpr hne
 unfold atI ixN
 rw [if_neg (by decide),if_pos (by omega)]
 show l[_]?=some v
 rw [List.getLast?_eq_getElem?] at h
 rw [← h]
 congr 1
 omega
theorem qR {β γ:Type}{f:β->γ}{xs:List β}{i:Nat}{v:γ} (h:(xs.map f)[i]?=some v):∃ x,xs[i]?=some x/\f x=v:=by
 rw [List.getElem?_map] at h
 exact Option.map_eq_some_iff.mp h
def dh (n:Nat) (l:List Nat):Bool:=decide (1<=l.length) && decide (l.length<=n) && l.all fun c=>decide (97<=c/\c < 123)
def eP (n:Nat):V->Bool
 | .str z=>dh n z.cps.toList
 | _=>false
def iX (n:Nat) (l:List Nat):Bool:=decide ((Mk.bh 32 l).length<=n) && (Mk.bh 32 l).all (dh 20)
def fP (n:Nat):V->Bool
 | .str z=>iX n z.cps.toList
 | _=>false
def fh:List V->Bool
 | [.str z]=>decide (z=("end":Str))
 | [.str z,y]=>if z=("phrase":Str) then fP 6 y else if z=("part":Str) then eP 6 y else false
 | _=>false
def jT (H:Hp):V->Bool
 | .ref p=>match H p with
  | some (.tup xs)=>fh xs
  | _=>false
 | _=>false
theorem vg {n:Nat}{l:List Nat} (h1:1<=l.length) (h2:l.length<=n) (h3:∀ c∈l,97<=c/\c < 123):dh n l=true:=by
 unfold dh
 rw [decide_eq_true h1,decide_eq_true h2,Bool.true_and,Bool.true_and,List.all_eq_true]
 exact fun c hc=>decide_eq_true (h3 c hc)
theorem vh {n:Nat}{ws:List (List Nat)} (h1:1<=ws.length) (h2:ws.length<=n) (h3:∀ w∈ws,1<=w.length/\w.length<=20/\∀ c∈w,97<=c/\c < 123):iX n (Mk.dJ 32 ws)=true:=by
 unfold iX
 rw [Mk.iF ws (fun e=>by rw [e] at h1;simp at h1) fun w hw hc=>by have:=(h3 w hw).2.2 32 hc;omega,decide_eq_true h2,Bool.true_and,List.all_eq_true]
 exact fun w hw=>vg (h3 w hw).1 (h3 w hw).2.1 (h3 w hw).2.2
def sy:Str:="Book.put.<locals>.<lambda>"
structure Ben where
 num:Int
 key:List Key
 adr:Addr
def km (ca dn de:Addr):List (Str × V):=[("basis",.ref ca),("by_number",.ref dn),("by_entry",.ref de)]
theorem ic (p q r:Addr):(km p q r).lookup ("basis":Str)=some (V.ref p):=rfl
theorem eA (p q r:Addr):(km p q r).lookup ("by_number":Str)=some (V.ref q):=rfl
theorem iI (p q r:Addr):(km p q r).lookup ("by_entry":Str)=some (V.ref r):=rfl
theorem cb {m:Str} (h1:m≠("basis":Str)) (h2:m≠("by_number":Str)) (h3:m≠("by_entry":Str)) (p q r:Addr):(km p q r).lookup m=none:=by
 unfold km
 rw [List.lookup_cons,List.lookup_cons,List.lookup_cons,beq_false_of_ne h1,beq_false_of_ne h2,beq_false_of_ne h3]
 rfl
def cE (es:List Ben):List (Key × V):=(es.map fun e=>(e.num,V.ref e.adr)).map fun q=>(.inl q.1,q.2)
def hV (es:List Ben):List (List Key × V):=es.map fun e=>(e.key,V.int e.num)
structure bT (Ad:Ads) (H:Hp) (b ca dn de:Addr) (es:List Ben):Prop where
 bk:∃ dx,H b=some (.ins Ad.Book dx (km ca dn de))
 hn:H dn=some (.dK (cE es))
 he:H de=some (.dT (hV es))
 en:∀ e∈es,H e.adr=some (.tup (e.key.map kV))
 nn:(es.map (·.num)).Nodup
 nk:(es.map (·.key)).Nodup
theorem bT.same {Ad:Ads}{H H':Hp}{b ca dn de:Addr}{es:List Ben} (h:bT Ad H b ca dn de es) (s:ak H H'):bT Ad H' b ca dn de es:=by
 obtain ⟨⟨dx,h1⟩,h2,h3,h4,h5,h6⟩:=h
 exact ⟨⟨dx,s _ _ h1⟩,s _ _ h2,s _ _ h3,fun e he=>s _ _ (h4 e he),h5,h6⟩
theorem ly {α κ:Type} [DecidableEq κ] {f:α->κ}{g:α->V}:∀ {es:List α}{e:α},(es.map f).Nodup->e∈es->bS (es.map fun x=>(f x,g x)) (f e)=some (g e)
 | x::r,e,hn,he=>by
  obtain ⟨h1,h2⟩:=List.nodup_cons.mp hn
  unfold bS
  rw [List.map_cons,List.find?_cons]
  by_cases h:f x=f e
  ·rw [decide_eq_true h]
   rcases List.mem_cons.mp he with rfl | he
   ·rfl
   ·exact absurd (List.mem_map_of_mem (f:=f) he) (by rw [← h];exact h1)
  ·rw [decide_eq_false h]
   rcases List.mem_cons.mp he with rfl | he
   ·exact absurd rfl h
   ·exact ly h2 he
theorem tL {α κ:Type} [DecidableEq κ] {f:α->κ}{g:α->V}{k:κ}:∀ {es:List α},k ∉ es.map f->bS (es.map fun x=>(f x,g x)) k=none
 | [],_=>rfl
 | x::r,h=>by
  rw [List.map_cons,List.mem_cons,not_or] at h
  unfold bS
  rw [List.map_cons,List.find?_cons,decide_eq_false (show ¬ f x=k from fun e=>h.1 e.symm)]
  exact tL h.2
theorem gM (es:List Ben):cE es=es.map fun e=>(.inl e.num,V.ref e.adr):=by unfold cE;rw [List.map_map];rfl
theorem BV {es:List Ben} (h:(es.map (·.num)).Nodup):(es.map fun e=>(.inl e.num:Key)).Nodup:=by
 have e:(es.map fun e=>(.inl e.num:Key))=(es.map (·.num)).map Sum.inl:=by rw [List.map_map];rfl
 rw [e]
 exact List.Pairwise.map _ (fun a b (h:a≠b) z=>h (Sum.inl.inj z)) h
theorem gN {es:List Ben}{e:Ben} (hn:(es.map (·.num)).Nodup) (he:e∈es):bS (cE es) (.inl e.num)=some (.ref e.adr):=by
 rw [gM];exact ly (f:=fun e:Ben=>(.inl e.num:Key)) (BV hn) he
theorem pj {es:List Ben}{k:Int} (h:k ∉ es.map (·.num)):bS (cE es) (.inl k)=none:=by
 rw [gM]
 refine tL (f:=fun e:Ben=>(.inl e.num:Key)) fun m=>h ?_
 obtain ⟨e,he,ee⟩:=List.mem_map.mp m
 exact List.mem_map.mpr ⟨e,he,Sum.inl.inj ee⟩
theorem sJ {es:List Ben}{k:Int} (hn:(es.map (·.num)).Nodup):(bS (cE es) (.inl k)).isSome=decide (k∈es.map (·.num)):=by
 by_cases h:k∈es.map (·.num)
 ·obtain ⟨e,he,rfl⟩:=List.mem_map.mp h
  rw [gN hn he,decide_eq_true h];rfl
 ·rw [pj h,decide_eq_false h];rfl
theorem ux {es:List Ben}{e:Ben} (hn:(es.map (·.key)).Nodup) (he:e∈es):bS (hV es) e.key=some (.int e.num):=ly (f:=fun e:Ben=>e.key) hn he
theorem sh {es:List Ben}{k:List Key} (h:k ∉ es.map (·.key)):bS (hV es) k=none:=tL (f:=fun e:Ben=>e.key) h
theorem lr {κ:Type} [DecidableEq κ] {kvs:List (κ × V)}{k:κ}{v:V} (h:bS kvs k=none):putK kvs k v=kvs++[(k,v)]:=by
 unfold putK
 rw [iH,h]
 rfl
theorem jX (es:List Ben) (e:Ben):cE (es++[e])=cE es++[(.inl e.num,.ref e.adr)]:=by unfold cE;simp
theorem vC (es:List Ben) (e:Ben):hV (es++[e])=hV es++[(e.key,.int e.num)]:=by unfold hV;simp
theorem jx (es:List Ben):(cE es).length=es.length:=by unfold cE;simp
structure fF (key:List Key):Prop where
 is:fh (key.map kV)=true
 few:key.length<=2
 short:∀ z,V.str z∈key.map kV->z.length<=10000
def ck (al:List Nat) (ws:List Int):Int:=(al.length:Int) ^ (ws.length - 1)
theorem uw {H:Hp}{t:Addr}{key:List Key} (ht:H t=some (.tup (key.map kV))) (ok:fF key):jT H (.ref t)=true:=by
 show (match H t with | some (.tup xs)=>fh xs | _=>false)=true
 rw [ht];exact ok.is
theorem xn {es:List Ben}{ns:List Int} (hp:ns.Perm ((es.map fun e=>(e.num,V.ref e.adr)).map (·.1))) (hs:ns.Pairwise (·<=·)) (hn:(es.map (·.num)).Nodup):∃ ms:List Ben,ms.Perm es/\ms.map (·.num)=ns/\(ms.map (·.num)).Pairwise (· < ·):=by
 rw [List.map_map] at hp
 have p1:(es.mergeSort fun a b=>decide (a.num<=b.num)).Perm es:=List.mergeSort_perm _ _
 have p2:=List.pairwise_mergeSort (le:=fun a b:Ben=>decide (a.num<=b.num)) (fun a b c h1 h2=>by simp only [decide_eq_true_eq] at *;omega) (fun a b=>by simp only [Bool.or_eq_true,decide_eq_true_eq];omega) es
 generalize es.mergeSort (fun a b=>decide (a.num<=b.num))=ms at p1 p2
 have p3:(ms.map (·.num)).Pairwise (·<=·):=List.pairwise_map.mpr (List.Pairwise.imp (fun h=>by simpa using h) p2)
 have e:ms.map (·.num)=ns:=PySem.W.ksm_same ((p1.map _).trans hp.symm) p3 hs
 refine ⟨ms,p1,e,?_⟩
 have nd:(ms.map (·.num)).Nodup:=(p1.map _).nodup_iff.mpr hn
 exact List.Pairwise.imp (fun {a b} (h:a<=b/\a≠b)=>by omega) (p3.and nd)
def AX (H:Hp) (vs:List V) (tss:List (List V)):Prop:=Paired (fun v ts=>∃ p,v=V.ref p/\H p=some (.tup ts)) vs tss
theorem iy {α β γ:Type}{F:α->γ->Prop}{f:β->γ}:∀ {l₁:List α}{l₂:List β},Paired F l₁ (l₂.map f)->Paired (fun a b=>F a (f b)) l₁ l₂
 | [],[],_=>.nil
 | _::_,_::_,.cons r t=>.cons r (iy t)
theorem pe {J:It}{H1:Hp}{xs:List V}{js:List Nat}{σ:St}{te:TE}{Q:VK} (hJ:J.Seq H1 xs) (hl:xs.length < sizeLine) (tss:List (List V)) (hn:tss.length=xs.length)
  (he:∀ (i:Nat) x ts,xs[i]?=some x->tss[i]?=some ts->∀ H,ak H1 H->∀ R:VK,(∀ p H',H p=none->ak H H'->H' p=some (.tup ts)->R (.ref p) H')->te (some x::js.map fun j=>(σ[j]?).join) H R)
  (q:∀ D vs H,H1 D=none->ak H1 H->H D=some (.lst vs)->AX H vs tss->Q (.ref D) H):dm (eh 0) wC te (ef 1 js σ) J H1 Q:=by
 intro D hD
 refine ⟨fun i m ys σ1 H=>m=xs.length - i/\i<=xs.length/\(∃ o,σ1=o::js.map fun j=>(σ[j]?).join)/\ys.length=i/\AX H ys (tss.take i)/\ak H1 H/\H D=some (.lst ys),
  ⟨xs.length,by simp,Nat.zero_le _,⟨none,rfl⟩,rfl,.nil,(ak.refl H1).dr hD,aq⟩,?_⟩
 rintro i m ys σ1 H ⟨rfl,hi,⟨o,rfl⟩,hy,hg,sH,hL⟩
 refine ⟨hL,by omega,?_⟩
 by_cases hlt:i < xs.length
 ·have e:xs[i]?=some xs[i]:=List.getElem?_eq_getElem hlt
  have e2:tss[i]?=some (tss[i]'(by omega)):=List.getElem?_eq_getElem _
  obtain ⟨go,yl⟩:=(hJ H sH).1 i xs[i] e
  refine .inr ⟨go,fun x H' y=>?_⟩
  obtain ⟨q1,q2⟩:=yl x H' y
  subst q1 q2
  show te (some xs[i]::js.map fun j=>(σ[j]?).join) H' _
  refine he i _ _ e e2 H' sH _ fun p H4 w4 s4 hp=>?_
  have hL4:=s4 _ _ hL
  have pD:p≠D:=(aP hL w4).symm
  refine ⟨hL4,xs.length - (i + 1),by omega,rfl,hlt,⟨_,rfl⟩,by rw [List.length_append,hy];rfl,?_,(sH.trans s4).dr hD,aq⟩
  rw [List.take_add_one,e2]
  refine kD (kF (fun v ts ⟨b,eb,hb⟩=>⟨b,eb,?_⟩) hg) (.cons ⟨p,rfl,by rw [aj pD];exact hp⟩ .nil)
  have h4:=s4 _ _ hb
  rw [aj (aC h4 hL4 (by intro z;cases z))];exact h4
 ·have e:i=xs.length:=by omega
  subst e
  rw [List.take_of_length_le (by omega)] at hg
  exact .inl ⟨(hJ H sH).2 _ (Nat.le_refl _),q D ys H hD sH hL hg⟩
theorem Cc (H:Hp) (z:Key):∃ t,eO H (kV z)=some t:=by
 cases z with
 | inl i=>exact ⟨.int,rfl⟩
 | inr s=>exact ⟨.str,rfl⟩
def wH (H:Hp) (p:Addr):Prop:=∃ (ks:List Key),H p=some (.tup (ks.map kV))/\fh (ks.map kV)=true/\1<=ks.length/\ks.length<=2/\∀ z∈ks,∃ l:List Nat,z=.inr (tx l)/\l.length<=1000
theorem wH.same {H H':Hp}{p:Addr} (s:ak H H') (h:wH H p):wH H' p:=by
 obtain ⟨ks,e1,e2⟩:=h
 exact ⟨ks,s _ _ e1,e2⟩
theorem jS {α:Type}{f:Ben->α}{es:List Ben}{x e:Ben} (hn:(es.map f).Nodup) (hx:x∈es) (he:e∈es) (h:f x=f e):x=e:=by
 obtain ⟨i,hi,rfl⟩:=List.getElem_of_mem hx
 obtain ⟨j,hj,rfl⟩:=List.getElem_of_mem he
 have:=List.pairwise_iff_getElem.mp hn
 rcases Nat.lt_trichotomy i j with l | l | l
 ·exact absurd (by rw [List.getElem_map,List.getElem_map];exact h) (this i j (by rw [List.length_map];exact hi) (by rw [List.length_map];exact hj) l)
 ·subst l;rfl
 ·exact absurd (by rw [List.getElem_map,List.getElem_map];exact h.symm) (this j i (by rw [List.length_map];exact hj) (by rw [List.length_map];exact hi) l)
def yt (c:Int):Int:=(c % 10 ^ 60 * 314159265358979323846264338327950288419716939937510582097494 + 27182818284590452353602874713527) % (10 ^ 60 + 7)
theorem pf (c:Int):0<=yt c:=Int.emod_nonneg _ (by decide)
theorem wL:∀ i:Nat,i < 26->(Str.ofString "abcdefghijklmnopqrstuvwxyz").cps.toList[i]?=some (97 + i):=by decide +kernel
structure BK (H:Hp) (D:Addr) (es:List Ben):Prop where
 d:Rd H D (.dK (cE es))
 en:∀ e∈es,H e.adr=some (.tup (e.key.map kV))
 nn:(es.map (·.num)).Nodup
theorem BK.same {H H':Hp}{D:Addr}{es:List Ben} (h:BK H D es) (s:ak H H'):BK H' D es:=⟨h.d.imp (s _ _) fun ⟨o,e⟩=>⟨o,s _ _ e⟩,fun e he=>s _ _ (h.en e he),h.nn⟩
def qQ:Str:="Editions.put.<locals>.<lambda>"
def Bar (spf:Sp) (bar:Int->Bool) (H:Hp):Prop:=∀ (n:Int) (H':Hp) (Q:VK),ak H H'->(∀ H'',ak H' H''->Q (.bl (bar n)) H'')->spf [.int n] H' Q XF
theorem Bar.same {spf:Sp}{bar:Int->Bool}{H H':Hp} (b:Bar spf bar H) (s:ak H H'):Bar spf bar H':=fun n G Q t k=>b n G Q (s.trans t) k
structure ib (ns:List Int) (bar:Int->Bool) (n:Int):Prop where
 pos:0<=n
 out:n ∉ ns
 fr:bar n=false
 all:∀ m,0<=m->m < n->m∈ns ∨ bar m=true
def edF (b cl sd:Addr) (day:Int):List (Str × V):=[("current",.ref b),("changes",.ref cl),("struck",.ref sd),("latest",.int day)]
def iD:Sp:=fun vs H Q _=>∃ x t,vs=[x]/\eO H x=some t/\Q (.bl (decide (t=Tg.int))) H
theorem rG:aA ["thing"] ["thing"] (af eI):=⟨rfl,rfl,rfl,by decide +kernel,rfl,by decide +kernel,by decide +kernel⟩
theorem qX {f:Addr}{fd:FuncData} (F:Fun K "is_whole" "is_whole" eI f fd) (T:Bl mg) (AF:AdF K mg Ad) :aX P w K mg base (CX1 P w) 1 f fd ["thing"] iD:=by
 refine F.okX (k:=0) rG (fun vs H Q E h=>?_) (fun cdv A outer s H vs Q E hr h=>?_)
 ·obtain ⟨x,t,rfl,_⟩:=h
  rfl
 ·obtain ⟨x,t,rfl,ht,k⟩:=h
  have hu:=hr.aO
  have hu1:=aZ hr
  refine ⟨_,ah (aG (iz (av (cm .int) T.isinstance bt_isinstance (ag (pvL 0) (ag (fj T.int xk) (ae)))) (gP (yK (av (cm .bl) T.isinstance bt_isinstance (ag (pvL 0) (ag (fj T.bool uh) (ae)))))))),?_⟩
  ac_nf
  refine ⟨trivial,t,ht,?_⟩
  cases t <;> (simp only [Tg.sub,if_true,if_false,Bool.false_eq_true,reduceCtorEq];first | exact k | exact ⟨trivial,_,ht,k⟩)
def dS:Sp:=fun vs H Q _=>∃ a b:Int,vs=[.int a,.int b]/\Q (.int ((Int.gcd a b:Nat):Int)) H
theorem bJ:aA ["one","other","left","right","over"] ["one","other"] (af bQ):=⟨rfl,rfl,rfl,by decide +kernel,rfl,by decide +kernel,by decide +kernel⟩
theorem jz {f:Addr}{fd:FuncData} (F:Fun K "common_divisor" "common_divisor" bQ f fd) (T:Bl mg) (AF:AdF K mg Ad) :aX P w K mg base (CX1 P w) 1 f fd ["one","other"] dS:=by
 refine F.okX (k:=0) bJ (fun vs H Q E h=>?_) (fun cdv A outer s H vs Q E hr h=>?_)
 ·obtain ⟨a,b,rfl,_⟩:=h
  rfl
 ·obtain ⟨a,b,rfl,k⟩:=h
  have hu:=hr.aO
  have hu1:=aZ hr
  refine ⟨_,aa (az (i:=2) bJ.nd (av jQ T.abs rZ (ag (pvL 0) (ae)))) (aa (az (i:=3) bJ.nd (av jQ T.abs rZ (ag (pvL 1) (ae)))) (aa (mR PassesOwn.leaving (aK (gO (K:=K) rfl hu) (pvL 3) (ai) (aL _)) (aa (az (i:=4) bJ.nd (aD bG (pvL 2) (pvL 3))) (aa (az (i:=2) bJ.nd (pvL 3)) (ah (az (i:=3) bJ.nd (pvL 4)))))) (ah (aG (pvL 2))))),?_⟩
  ac_nf
  refine pY (fun σ H'=>H'=H/\∃ (l r:Nat) (o:Option V),σ=[some (.int a),some (.int b),some (.int l),some (.int r),o]/\Nat.gcd l r=Int.gcd a b)
   (fun σ _=>match σ with | [_,_,_,some (.int r),_]=>r.toNat | _=>0) ⟨rfl,a.natAbs,b.natAbs,none,rfl,rfl⟩ ?_
  rintro σ H' ⟨rfl,l,r,o,rfl,hg⟩
  ac_nf
  by_cases hr0:r=0
  ·subst hr0
   rw [Nat.gcd_zero_right] at hg
   subst hg
   exact k
  ·have e:(!decide ((r:Int)=0))=true:=by simp [hr0]
   rw [if_pos e]
   refine ⟨_,fun _ _ h=>h,by omega,⟨rfl,r,l % r,some (.int ((l % r:Nat):Int)),?_,?_⟩,?_⟩
   ·rw [Int.natCast_emod]
   ·rw [← hg,Nat.gcd_comm l r,Nat.gcd_rec r l,Nat.gcd_comm]
   ·show ((l:Int) % (r:Int)).toNat < ((r:Int)).toNat
    have h1:(l:Int) % (r:Int) < r:=Int.emod_lt_of_pos _ (by omega)
    have h2:0<=(l:Int) % (r:Int):=Int.emod_nonneg _ (by omega)
    omega
def dI (z:List Nat):Bool:=decide (3<=z.length) && decide (z.length<=26) && decide z.Nodup && z.all fun c=>decide (97<=c/\c < 123)
def eU:V->Bool
 | .str z=>dI z.cps.toList
 | _=>false
def fL:Sp:=fun vs H Q _=>∃ (x:V) (t:Tg),vs=[x]/\eO H x=some t/\(∀ z,x=.str z->z.length<=4000)/\∀ H',ak H H'->Q (.bl (eU x)) H'
theorem mW:aA ["thing"] ["thing"] (af cN):=⟨rfl,rfl,rfl,by decide +kernel,rfl,by decide +kernel,by decide +kernel⟩
theorem mK {f:Addr}{fd:FuncData} (F:Fun K "is_alphabet" "is_alphabet" cN f fd) (T:Bl mg) (AF:AdF K mg Ad) :aX P w K mg base (CX1 P w) 1 f fd ["thing"] fL:=by
 refine F.okX (k:=0) mW (fun vs H Q E h=>?_) (fun cdv A outer s H vs Q E hr h=>?_)
 ·obtain ⟨x,t,rfl,_⟩:=h
  rfl
 ·obtain ⟨x,t,rfl,ht,hz,k⟩:=h
  have hu:=hr.aO
  have hu1:=aZ hr
  refine ⟨_,aa (aW ((i5 (cc (bN (av (cm .str) T.isinstance bt_isinstance (ag (pvL 0) (ag (fj T.str lB) (ae)))))) (gj (cc (jF fG fG (ai) (av (bE (K:=K) rfl) T.len di (ag (pvL 0) (ae))) (ai))))).pt) (ah (aG (fS))) (aJ)) (ah (aG (iz (cj (cS (K:=K) rfl hu) (av (se (P:=P) (w:=w) rfl rfl) T.len di (ag (fH (vy (P:=P) (w:=w) rfl rfl rfl) T.set BP (ag (pvL 0) (ae))) (ae))) (av (bE (K:=K) rfl) T.len di (ag (pvL 0) (ae))) (aL _)) (gP (av (gv (K:=K) rfl rfl) T.all lA (ag (kI ["sign"] rfl ⟨rfl,by decide +kernel,rfl,by decide +kernel⟩ (.nil) (by decide +kernel) (cU (K:=K) rfl (pvL 0)) (fun _ _ _ _=>ax (i:=0) (show (["sign"]:List Str).Nodup from by decide +kernel)) (fun _ _ _ _=>eS) (fun _ _ _ _=>cj (ka (K:=K) rfl hu1) (pvL 0) (eY AF.v_SMALL_LETTERS) (by kernel_rfl))) (ae))))))),?_⟩
  by_cases hs:∃ z,x=.str z
  ·obtain ⟨z,rfl⟩:=hs
   cases ht
   have hl:=hz z rfl
   have hc:=eQ z
   have ek:eU (.str z)=dI z.cps.toList:=rfl
   ac_nf
   refine ⟨trivial,Tg.str,rfl,?_⟩
   ac_nf
   refine ⟨Nat.le_of_lt (ao (by omega)),?_⟩
   by_cases h3:3<=z.length/\z.length<=26
   ·have d1:decide ((3:Int)<=(z.length:Int))=true:=decide_eq_true (by omega)
    have d2:decide ((z.length:Int)<=26)=true:=decide_eq_true (by omega)
    rw [d1]
    bv_omega
    rw [d2]
    bv_omega
    refine ⟨by omega,fun p H1 hp s1 h1=>?_⟩
    refine ⟨_,h1,Nat.le_of_lt (ao (by omega)),?_⟩
    by_cases hn:z.cps.toList.Nodup
    ·have e1:=(oy z).mpr hn
     rw [e1,decide_eq_true rfl]
     bv_omega
     refine vS (fun c:Nat=>V.str ⟨#[c]⟩) yf (zm z) (ao (by omega)) (fun c=>.bl (decide (97<=c/\c < 123))) ?_ ?_
     ·intro c hc H2 s2 R hR
      ac_nf
      rw [ye,n6]
      have e2:decide (c∈List.range' 97 26)=decide (97<=c/\c < 123):=decide_eq_decide.mpr (by rw [List.mem_range'_1])
      rw [e2]
      exact hR H2 (ak.refl _)
     ·intro D H2 hD s2 h2
      refine ⟨D,z.cps.toList.map fun c=>decide (97<=c/\c < 123),rfl,.of (by rw [h2,List.map_map];rfl),?_⟩
      have e:(z.cps.toList.map fun c=>decide (97<=c/\c < 123)).all id=eU (.str z):=by
       rw [ek]
       unfold dI
       rw [decide_eq_true (show 3<=z.cps.toList.length by omega),decide_eq_true (show z.cps.toList.length<=26 by omega),decide_eq_true hn,List.all_map];rfl
      rw [e]
      exact k H2 (s1.trans s2)
    ·have e1:decide (((bU (gq z) z.length).length:Int)=(z.length:Int))=false:=decide_eq_false fun e=>hn ((oy z).mp (by omega))
     rw [e1]
     bv_omega
     have e:eU (.str z)=false:=by rw [ek];unfold dI;rw [decide_eq_false hn];simp
     rw [e] at k
     exact k H1 s1
   ·have e:eU (.str z)=false:=by
     rw [ek]
     unfold dI
     by_cases h4:3<=z.length
     ·rw [decide_eq_false (show ¬ z.cps.toList.length<=26 by omega)];simp
     ·rw [decide_eq_false (show ¬ 3<=z.cps.toList.length by omega)];simp
    rw [e] at k
    by_cases h4:3<=z.length
    ·have d1:decide ((3:Int)<=(z.length:Int))=true:=decide_eq_true (by omega)
     have d2:decide ((z.length:Int)<=26)=false:=decide_eq_false (by omega)
     rw [d1]
     bv_omega
     rw [d2]
     bv_omega
     exact k H (ak.refl _)
    ·have d1:decide ((3:Int)<=(z.length:Int))=false:=decide_eq_false (by omega)
     rw [d1]
     bv_omega
     exact k H (ak.refl _)
  ·have hv:eU x=false:=by
    cases x with
    | str z=>exact absurd ⟨z,rfl⟩ hs
    | _=>rfl
   have hne:=lx ht fun z e=>hs ⟨z,e⟩
   rw [hv] at k
   ac_nf
   refine ⟨trivial,t,ht,?_⟩
   cases t <;> first
    | exact absurd rfl hne
    | exact k H (ak.refl _)
def fz (Ad:Ads):Sp:=fun vs H Q _=>∃ (a:Addr) (al:List Nat) (ws:List Int) (r:Int),vs=[.ref a]/\gb Ad H a al ws r/\al.length<=26/\1<=ws.length/\ws.length<=8/\∀ H',ak H H'->Q (.int ((al.length:Int) ^ (ws.length - 1))) H'
theorem fu:aA ["self","product","weight"] ["self"] (af d7):=⟨rfl,rfl,rfl,by decide +kernel,rfl,by decide +kernel,by decide +kernel⟩
theorem pz {f:Addr}{fd:FuncData} (F:Fun K "many" "Code.many" d7 f fd) (T:Bl mg) (AF:AdF K mg Ad) :aX P w K mg base (CX1 P w) 1 f fd ["self"] (fz Ad):=by
 refine F.okX (k:=0) fu (fun vs H Q E h=>?_) (fun cdv A outer s H vs Q E hr h=>?_)
 ·obtain ⟨a,al,ws,r,rfl,_⟩:=h
  rfl
 ·obtain ⟨a,al,ws,r,rfl,⟨dx,q,h1,h2⟩,h26,hw1,hw8,k⟩:=h
  have hu:=hr.aO
  have hu1:=aZ hr
  refine ⟨_,aa (az (i:=1) fu.nd (ai)) (aa (gR PassesOwn.leaving rfl (cU (K:=K) rfl (jA (uT (K:=K) rfl) (aY (K:=K) rfl (pvL 0)) (jC (ai)) (pL))) (ax (i:=2) fu.nd) (ah (az (i:=1) fu.nd (aD lh (pvL 1) (av (bE (K:=K) rfl) T.len di (ag (aY (K:=K) rfl (pvL 0)) (ae))))))) (ah (aG (pvL 1)))),?_⟩
  and_intros
  rw [dG]
  and_intros
  rw [dG]
  and_intros
  refine ⟨_,dx,_,_,h1,AF.c_Code,AF.n_Code_factors,nt al q r,?_⟩
  and_intros
  refine ⟨_,.of h2,fun p H1 hp s1 h3=>.inl ⟨⟨_,.of h3⟩,?_⟩⟩
  rw [show (1:Int)=((1:Nat):Int) from rfl,jR,← List.map_drop] at h3
  refine uA (xs:=(ws.drop 1).map V.int) (fun i σ H'=>H'=H1/\∃ o,σ=[some (.ref a),some (.int ((al.length:Int) ^ i)),o]) ?_ ?_ ?_ ?_
  ·exact ⟨rfl,none,by simp⟩
  ·rintro i σ H' _ ⟨rfl,_⟩
   exact .of h3
  ·rintro i x σ H' hx ⟨rfl,o,rfl⟩
   have hi:i < ws.length - 1:=by
    have:=(List.getElem?_eq_some_iff.mp hx).1
    rw [List.length_map,List.length_drop] at this
    exact this
   ac_nf
   refine ⟨_,dx,_,_,s1 _ _ h1,AF.c_Code,AF.n_Code_letters,nu al q r,?_⟩
   ac_nf
   rw [dw]
   refine ⟨Nat.le_of_lt (ao (by omega)),⟨?_,Nat.lt_of_lt_of_le (show ((al.length:Int)).natAbs < 1000 by omega) (by decide)⟩,trivial,some x,?_⟩
   ·have e:(((al.length:Int)) ^ i).natAbs=al.length ^ i:=by rw [Int.natAbs_pow];rfl
    rw [e]
    refine Nat.lt_of_le_of_lt (Nat.pow_le_pow_left h26 i) (Nat.lt_of_le_of_lt (Nat.pow_le_pow_right (by decide) (show i<=8 by omega)) (by decide))
   ·rw [← Int.pow_succ]
  ·rintro σ H' ⟨rfl,o,rfl⟩
   rw [List.length_map,List.length_drop]
   ac_nf
   exact k _ s1
def dR:Sp:=fun vs H Q _=>∃ (x:V) (t:Tg) (n:Nat),vs=[x,.int n]/\eO H x=some t/\(∀ z,x=.str z->z.length<=100000)/\n<=1000/\∀ H',ak H H'->Q (.bl (eP n x)) H'
theorem mU:aA ["thing","most"] ["thing","most"] (af cL):=⟨rfl,rfl,rfl,by decide +kernel,rfl,by decide +kernel,by decide +kernel⟩
theorem mI {f:Addr}{fd:FuncData} (F:Fun K "are_letters" "are_letters" cL f fd) (T:Bl mg) (AF:AdF K mg Ad) :aX P w K mg base (CX1 P w) 1 f fd ["thing","most"] dR:=by
 refine F.okX (k:=0) mU (fun vs H Q E h=>?_) (fun cdv A outer s H vs Q E hr h=>?_)
 ·obtain ⟨x,t,n,rfl,_⟩:=h
  rfl
 ·obtain ⟨x,t,n,rfl,ht,hz,hn,k⟩:=h
  have hu:=hr.aO
  have hu1:=aZ hr
  refine ⟨_,aa (aW ((i5 (cc (bN (av (cm .str) T.isinstance bt_isinstance (ag (pvL 0) (ag (fj T.str lB) (ae)))))) (gj (cc (jF fG fG (ai) (av (bE (K:=K) rfl) T.len di (ag (pvL 0) (ae))) (pvL 1))))).pt) (ah (aG (fS))) (aJ)) (ah (aG (av (gv (K:=K) rfl rfl) T.all lA (ag (kI ["sign"] rfl ⟨rfl,by decide +kernel,rfl,by decide +kernel⟩ (.nil) (by decide +kernel) (cU (K:=K) rfl (pvL 0)) (fun _ _ _ _=>ax (i:=0) (show (["sign"]:List Str).Nodup from by decide +kernel)) (fun _ _ _ _=>eS) (fun _ _ _ _=>cj (ka (K:=K) rfl hu1) (pvL 0) (eY AF.v_SMALL_LETTERS) (by kernel_rfl))) (ae))))),?_⟩
  by_cases hs:∃ z,x=.str z
  ·obtain ⟨z,rfl⟩:=hs
   cases ht
   have hl:=hz z rfl
   have hc:=eQ z
   have ek:eP n (.str z)=dh n z.cps.toList:=rfl
   ac_nf
   refine ⟨trivial,Tg.str,rfl,?_⟩
   ac_nf
   refine ⟨Nat.le_of_lt (ao (by omega)),?_⟩
   by_cases h1:1<=z.length
   ·rw [decide_eq_true (show (1:Int)<=(z.length:Int) by omega)]
    bv_omega
    by_cases h2:z.length<=n
    ·rw [decide_eq_true (show (z.length:Int)<=(n:Int) by omega)]
     bv_omega
     refine vS (fun c:Nat=>V.str ⟨#[c]⟩) yf (zm z) (ao (by omega)) (fun c=>.bl (decide (97<=c/\c < 123))) ?_ ?_
     ·intro c hc H2 s2 R hR
      ac_nf
      rw [ye,n6]
      have e2:decide (c∈List.range' 97 26)=decide (97<=c/\c < 123):=decide_eq_decide.mpr (by rw [List.mem_range'_1])
      rw [e2]
      exact hR H2 (ak.refl _)
     ·intro D H2 hD s2 h2'
      refine ⟨D,z.cps.toList.map fun c=>decide (97<=c/\c < 123),rfl,.of (by rw [h2',List.map_map];rfl),?_⟩
      have e:(z.cps.toList.map fun c=>decide (97<=c/\c < 123)).all id=eP n (.str z):=by
       rw [ek]
       unfold dh
       rw [decide_eq_true (show 1<=z.cps.toList.length by omega),decide_eq_true (show z.cps.toList.length<=n by omega),List.all_map];rfl
      rw [e]
      exact k H2 s2
    ·have e:eP n (.str z)=false:=by rw [ek];unfold dh;rw [decide_eq_false (show ¬ z.cps.toList.length<=n by omega)];simp
     rw [e] at k
     rw [decide_eq_false (show ¬ (z.length:Int)<=(n:Int) by omega)]
     bv_omega
     exact k H (ak.refl _)
   ·have e:eP n (.str z)=false:=by rw [ek];unfold dh;rw [decide_eq_false (show ¬ 1<=z.cps.toList.length by omega)];simp
    rw [e] at k
    rw [decide_eq_false (show ¬ (1:Int)<=(z.length:Int) by omega)]
    bv_omega
    exact k H (ak.refl _)
  ·have hv:eP n x=false:=by
    cases x with
    | str z=>exact absurd ⟨z,rfl⟩ hs
    | _=>rfl
   have hne:=lx ht fun z e=>hs ⟨z,e⟩
   rw [hv] at k
   ac_nf
   refine ⟨trivial,t,ht,?_⟩
   cases t <;> first
    | exact absurd rfl hne
    | exact k H (ak.refl _)
def fw (Ad:Ads):Sp:=fun vs H Q _=>∃ (b dx ca:Addr),vs=[.ref b,.ref ca]/\H b=some (.ins Ad.Book dx [])/\∀ dn de H',H dn=none->H de=none->dn≠de->dn≠b->de≠b->(∀ c u,c≠b->H c=some u->H' c=some u)->H' b=some (.ins Ad.Book dx (km ca dn de))->H' dn=some (.dK [])->H' de=some (.dT [])->Q .non H'
theorem pR:aA ["self","code"] ["self","code"] (af d3):=⟨rfl,rfl,rfl,by decide +kernel,rfl,by decide +kernel,by decide +kernel⟩
theorem pq {f:Addr}{fd:FuncData} (F:Fun K "__init__" "Book.__init__" d3 f fd) (T:Bl mg) (AF:AdF K mg Ad) :aX P w K mg base (CX1 P w) 1 f fd ["self","code"] (fw Ad):=by
 refine F.okX (k:=0) pR (fun vs H Q E h=>?_) (fun cdv A outer s H vs Q E hr h=>?_)
 ·obtain ⟨b,dx,ca,rfl,_⟩:=h
  rfl
 ·obtain ⟨b,dx,ca,rfl,hb,k⟩:=h
  have hu:=hr.aO
  have hu1:=aZ hr
  refine ⟨_,aa (dN (K:=K) rfl (pvL 0) (pvL 1)) (aa (dN (K:=K) rfl (pvL 0) (gz)) (ah (dN (K:=K) rfl (pvL 0) (we)))),?_⟩
  ac_nf
  refine ⟨_,_,_,hb,AF.c_Book,AF.n_Book_basis,by decide,fun p G1 z1 t1 g1=>?_⟩
  have np1:p≠b:=fun e=>by rw [e,aq] at z1;cases z1
  have hb1:=t1 b _ aq
  refine ⟨_,_,_,hb1,AF.c_Book,AF.n_Book_by_number,Nat.lt_of_le_of_lt (Nat.le_refl 1) (by decide),fun p2 G2 z2 t2 g2=>?_⟩
  have np2:p2≠b:=fun e=>by rw [e,aq] at z2;cases z2
  have hb2:=t2 b _ aq
  have k1:∀ c u,c≠b->H c=some u->G1 c=some u:=fun c u hc h=>t1 c u (by rw [aj hc];exact h)
  have k2:∀ c u,c≠b->G1 c=some u->G2 c=some u:=fun c u hc h=>t2 c u (by rw [aj hc];exact h)
  have ne:p≠p2:=fun e=>by rw [← e,aj np1,g1] at z2;cases z2
  refine ⟨_,_,_,hb2,AF.c_Book,AF.n_Book_by_entry,Nat.lt_of_le_of_lt (Nat.le_refl 2) (by decide),k p p2 _ ?_ ?_ ne np1 np2 (fun c u hc h=>by rw [aj hc];exact k2 c u hc (k1 c u hc h)) (by rw [aq];rfl) (by rw [aj np1];exact k2 _ _ np1 g1) (by rw [aj np2];exact g2)⟩
  ·cases e:H p with
   | none=>rfl
   | some o=>rw [aj np1,e] at z1;cases z1
  ·cases e:H p2 with
   | none=>rfl
   | some o=>rw [aj np2,k1 p2 o np2 e] at z2;cases z2
inductive fv (Ad:Ads) (vs:List V) (H:Hp) (Q:VK) (E:XK):Prop
 | mk (b ca dn de:Addr) (es:List Ben) (q0:vs=[.ref b]) (q1:bT Ad H b ca dn de es) (q2:Q (.ref ca) H):fv Ad vs H Q E
theorem pQ:aA ["self"] ["self"] (af dz):=⟨rfl,rfl,rfl,by decide +kernel,rfl,by decide +kernel,by decide +kernel⟩
theorem pk {f:Addr}{fd:FuncData} (F:Fun K "code" "Book.code" dz f fd) (T:Bl mg) (AF:AdF K mg Ad) :aX P w K mg base (CX1 P w) 1 f fd ["self"] (fv Ad):=by
 refine F.okX (k:=0) pQ (fun vs H Q E h=>?_) (fun cdv A outer s H vs Q E hr h=>?_)
 ·obtain ⟨b,ca,dn,de,es,rfl,_⟩:=h
  rfl
 ·obtain ⟨b,ca,dn,de,es,rfl,B,k⟩:=h
  obtain ⟨dx,h1⟩:=B.bk
  have hu:=hr.aO
  have hu1:=aZ hr
  refine ⟨_,ah (aG (aY (K:=K) rfl (pvL 0))),?_⟩
  ac_nf
  exact ⟨_,dx,_,_,h1,AF.c_Book,AF.n_Book_basis,ic ca dn de,k⟩
inductive dq (Ad:Ads) (vs:List V) (H:Hp) (Q:VK) (E:XK):Prop
 | mk (b ca dn de:Addr) (es:List Ben) (q0:vs=[.ref b]) (q1:bT Ad H b ca dn de es) (q2:es.length < 64) (q3:∀ D ws (ms:List Ben) H',H D=none->ak H H'->H' D=some (.lst ws)->ms.Perm es->(ms.map (·.num)).Pairwise (· < ·)->Paired (fun v (m:Ben)=>∃ p,v=V.ref p/\H' p=some (.tup [.int m.num,.ref m.adr])) ws ms->Q (.ref D) H'):dq Ad vs H Q E
theorem kT:aA ["self"] ["self"] (af cq):=⟨rfl,rfl,rfl,by decide +kernel,rfl,by decide +kernel,by decide +kernel⟩
theorem kR {f:Addr}{fd:FuncData} (F:Fun K "entries" "Book.entries" cq f fd) (T:Bl mg) (AF:AdF K mg Ad) :aX P w K mg base (CX1 P w) 1 f fd ["self"] (dq Ad):=by
 refine F.okX (k:=0) kT (fun vs H Q E h=>?_) (fun cdv A outer s H vs Q E hr h=>?_)
 ·obtain ⟨b,ca,dn,de,es,rfl,_⟩:=h
  rfl
 ·obtain ⟨b,ca,dn,de,es,rfl,B,h64,k⟩:=h
  obtain ⟨dx,h1⟩:=B.bk
  have hu:=hr.aO
  have hu1:=aZ hr
  refine ⟨_,ah (aG (kI ["number"] rfl ⟨rfl,by decide +kernel,rfl,by decide +kernel⟩ (.cons (j:=0) rfl (.inl (by kernel_rfl)) (.nil)) (by decide +kernel) (cU (K:=K) rfl (av (lC rfl) T.sorted nM (ag (aY (K:=K) rfl (pvC 0)) (ae)))) (fun _ _ _ _=>ax (i:=0) (show (["number","self"]:List Str).Nodup from by decide +kernel)) (fun _ _ _ _=>eS) (fun _ _ _ _=>bB (ag (pvL 0) (ag (j7 hu1 (aY (K:=K) rfl (pvC 1)) (pvL 0)) (ae)))))),?_⟩
  ac_nf
  refine ⟨_,dx,_,_,h1,AF.c_Book,AF.n_Book_by_number,eA ca dn de,?_⟩
  ac_nf
  refine ⟨es.map fun e:Ben=>(e.num,V.ref e.adr),.inl B.hn,by rw [List.length_map];exact h64,fun ns hp hs p G1 z1 t1 g1=>?_⟩
  ac_nf
  obtain ⟨ms,mp,mn,ml⟩:=xn hp hs B.nn
  have nl:(ns.map V.int).length < sizeLine:=ao (by rw [List.length_map,hp.length_eq,List.length_map,List.length_map];omega)
  refine .inl ⟨⟨_,.of g1⟩,pe (iB (.of g1)) nl (ms.map fun m=>[V.int m.num,V.ref m.adr]) (by rw [List.length_map,List.length_map,← mn,List.length_map]) ?_ ?_⟩
  ·intro i x ts hx hts G2 t2 R hR
   rw [List.getElem?_map] at hx hts
   obtain ⟨m,hm,rfl⟩:=Option.map_eq_some_iff.mp hts
   have:ns[i]?=some m.num:=by rw [← mn,List.getElem?_map,hm];rfl
   rw [this] at hx
   cases hx
   have B2:=B.same (t1.trans t2)
   obtain ⟨dx2,h2⟩:=B2.bk
   ac_nf
   exact ⟨_,dx2,_,_,h2,AF.c_Book,AF.n_Book_by_number,eA ca dn de,_,_,rfl,.inl ⟨_,.inl m.num,.inl B2.hn,rfl,(gN B2.nn (mp.mem_iff.mp (List.mem_of_getElem? hm))).symm⟩,Nat.le_of_lt (ao (by decide)),fun p2 G3 z3 t3 g3=>hR p2 G3 z3 t3 g3⟩
  ·intro D ws G2 hD t2 g2 hT
   refine k D ws ms G2 (t1.free hD) (t1.trans t2) g2 mp ml (iy hT)
inductive bZ (Ad:Ads) (vs:List V) (H:Hp) (Q:VK) (E:XK):Prop
 | mk (ed dx b cl sd:Addr) (l0:Int) (q0:vs=[.ref ed]) (q1:H ed=some (.ins Ad.Editions dx (edF b cl sd l0))) (q2:Q (.int l0) H):bZ Ad vs H Q E
theorem iA:aA ["self"] ["self"] (af br):=⟨rfl,rfl,rfl,by decide +kernel,rfl,by decide +kernel,by decide +kernel⟩
theorem iu {f:Addr}{fd:FuncData} (F:Fun K "last_day" "Editions.last_day" br f fd) (T:Bl mg) (AF:AdF K mg Ad) :aX P w K mg base (CX1 P w) 1 f fd ["self"] (bZ Ad):=by
 refine F.okX (k:=0) iA (fun vs H Q E h=>?_) (fun cdv A outer s H vs Q E hr h=>?_)
 ·obtain ⟨ed,dx,b,cl,sd,l0,rfl,_⟩:=h
  rfl
 ·obtain ⟨ed,dx,b,cl,sd,l0,rfl,h1,k⟩:=h
  have hu:=hr.aO
  have hu1:=aZ hr
  refine ⟨_,ah (aG (aY (K:=K) rfl (pvL 0))),?_⟩
  and_intros
  exact ⟨_,dx,_,_,h1,AF.c_Editions,AF.n_Editions_latest,rfl,k⟩
theorem qP {ks:List Key} (ok:fF ks):∃ us:List Str,ks=us.map Sum.inr/\ks.map kV=us.map V.str:=by
 have h:=ok.is
 cases ks with
 | nil=>cases h
 | cons a r =>
  cases a with
  | inl i=>cases h
  | inr z =>
   cases r with
   | nil=>exact ⟨[z],rfl,rfl⟩
   | cons y r2 =>
    cases r2 with
    | cons _ _=>cases h
    | nil =>
     cases y with
     | inr y=>exact ⟨[z,y],rfl,rfl⟩
     | inl i =>
      exfalso
      have h':(if z=("phrase":Str) then false else if z=("part":Str) then false else false)=true:=h
      split at h'
      ·cases h'
      ·split at h' <;> cases h'
theorem zq {us vs:List Str}:us.map (Sum.inr:Str->Key)=vs.map Sum.inr ↔ us=vs :=
 ⟨fun h=>(List.map_inj_right fun x y e=>Sum.inr.inj e).mp h,fun h=>by rw [h]⟩
theorem pN {K:PySem.W.Frag}{H:Hp}{p q:Addr}{ks ks':List Key} (h1:H p=some (.tup (ks.map kV))) (h2:H q=some (.tup (ks'.map kV))) (o1:fF ks) (o2:fF ks'):RcR K H 0 (.ref p) (.ref q) (decide (ks=ks'))/\EqR K H 1 (.ref p) (.ref q) (decide (ks=ks')):=by
 obtain ⟨us,e1,f1⟩:=qP o1
 obtain ⟨vs,e2,f2⟩:=qP o2
 have hd:decide (ks=ks')=decide (us=vs):=by rw [e1,e2,decide_eq_decide];exact zq
 rw [hd]
 rw [f1] at h1
 rw [f2] at h2
 refine ⟨AG (.of h1) (.of h2),zS (.of h1) (.of h2) fun e=>?_⟩
 subst e
 rw [h1] at h2
 have:us.map V.str=vs.map V.str:=by injection h2 with h2;injection h2
 exact (List.map_inj_right fun x y e=>V.str.inj e).mp this
abbrev Lk:=Int->Option (Int × List Key)
def nq (H:Hp) (kvs:List (Key × V)) (lk:Lk):Prop:=∀ n:Int,(bS kvs (.inl n)=none/\lk n=none) ∨ ∃ (tp ad:Addr) (d:Int) (key:List Key),bS kvs (.inl n)=some (.ref tp)/\H tp=some (.tup [.int d,.ref ad])/\H ad=some (.tup (key.map kV))/\fF key/\lk n=some (d,key)
theorem nq.same {H H':Hp}{kvs:List (Key × V)}{lk:Lk} (h:nq H kvs lk) (s:ak H H'):nq H' kvs lk:=fun n=>(h n).imp id fun ⟨tp,ad,d,key,h1,h2,h3,h4⟩=>⟨tp,ad,d,key,h1,s _ _ h2,s _ _ h3,h4⟩
def fq (lk:Lk) (day:Int) (key:List Key) (n:Int):Bool:=match lk n with
 | none=>false
 | some (d,k)=>!decide (k=key) && decide (day - d < 31)
theorem xi {lk:Lk}{day d n:Int}{key k:List Key} (h:lk n=some (d,k)):fq lk day key n=(!decide (k=key) && decide (day - d < 31)):=by
 unfold fq
 rw [h]
theorem qp {lk:Lk}{day n:Int}{key:List Key} (h:lk n=none):fq lk day key n=false:=by
 unfold fq
 rw [h]
structure Chg where
 day:Int
 num:Int
 ent:Option Addr
def ChP (H:Hp) (v:V) (c:Chg):Prop:=∃ p,v=V.ref p/\H p=some (.tup [.int c.day,.int c.num,c.ent.elim V.non V.ref])
theorem ie {H H':Hp}{cs:List V}{ch:List Chg} (h:Paired (ChP H) cs ch) (s:∀ c xs,H c=some (.tup xs)->H' c=some (.tup xs)):Paired (ChP H') cs ch:=by
 induction h with
 | nil=>exact .nil
 | cons f _ ih=>obtain ⟨p,e,q⟩:=f;exact .cons ⟨p,e,s _ _ q⟩ ih
theorem ix {α β:Type}{F:α->β->Prop}{a c:List α}{b d:List β} (h:Paired F a b) (h':Paired F c d):Paired F (a++c) (b++d):=by
 induction h with
 | nil=>exact h'
 | cons f _ ih=>exact .cons f ih
structure iR (Ad:Ads) (H:Hp) (ed b ca dn de cl sd:Addr) (es:List Ben) (lk:Lk) (day:Int) (m:Nat) (ch:List Chg):Prop where
 eF:∃ dx,H ed=some (.ins Ad.Editions dx (edF b cl sd day))
 bF:bT Ad H b ca dn de es
 cF:∃ cs,H cl=some (.lst cs)/\cs.length<=m/\Paired (ChP H) cs ch
 sF:∃ kvs,H sd=some (.dK kvs)/\nq H kvs lk/\kvs.length<=m
 ne:dn≠sd
theorem iR.same {Ad:Ads}{H H':Hp}{ed b ca dn de cl sd:Addr}{es:List Ben}{lk:Lk}{day:Int}{m:Nat}{ch:List Chg} (h:iR Ad H ed b ca dn de cl sd es lk day m ch) (s:ak H H'):iR Ad H' ed b ca dn de cl sd es lk day m ch:=by
 obtain ⟨⟨dx,h1⟩,h2,⟨cs,h3,h4,h4'⟩,⟨kvs,h5,h6,h7⟩,h8⟩:=h
 exact ⟨⟨dx,s _ _ h1⟩,h2.same s,⟨cs,s _ _ h3,h4,ie h4' fun c xs e=>s _ _ e⟩,⟨kvs,s _ _ h5,h6.same s,h7⟩,h8⟩
theorem nq.past {H H':Hp}{kvs:List (Key × V)}{lk:Lk} (h:nq H kvs lk) (s:∀ c xs,H c=some (.tup xs)->H' c=some (.tup xs)):nq H' kvs lk:=fun n=>(h n).imp id fun ⟨tp,ad,d,key,h1,h2,h3,h4⟩=>⟨tp,ad,d,key,h1,s _ _ h2,s _ _ h3,h4⟩
theorem Dh {Ad:Ads}{H:Hp}{b ca dn de ed dx bx b' cl sd:Addr}{l0:Int} (h:H b=some (.ins Ad.Book bx (km ca dn de))) (h':H ed=some (.ins Ad.Editions dx (edF b' cl sd l0))):b≠ed:=fun e=>by
 rw [e,h'] at h
 injection h with h
 injection h with _ _ h
 have:=congrArg (fun l:List (Str × V)=>(l.head?.map (·.1))) h
 have:some ("current":Str)=some ("basis":Str):=this
 exact absurd this (by decide)
theorem bT.past {Ad:Ads}{H H':Hp}{b ca dn de ed dx b' cl sd:Addr}{es:List Ben}{l0:Int}{cs:List V} (B:bT Ad H b ca dn de es) (hed:H ed=some (.ins Ad.Editions dx (edF b' cl sd l0))) (hcl:H cl=some (.lst cs)) (k:∀ c o,c≠ed->c≠cl->H c=some o->H' c=some o):bT Ad H' b ca dn de es:=by
 obtain ⟨⟨bx,h1⟩,h2,h3,h4,h5,h6⟩:=B
 exact ⟨⟨bx,k _ _ (Dh h1 hed) (aC h1 hcl (by intro z;cases z)) h1⟩,k _ _ (aC h2 hed (by intro z;cases z)) (aC h2 hcl (by intro z;cases z)) h2,k _ _ (aC h3 hed (by intro z;cases z)) (aC h3 hcl (by intro z;cases z)) h3,fun e he=>k _ _ (aC (h4 e he) hed (by intro z;cases z)) (aC (h4 e he) hcl (by intro z;cases z)) (h4 e he),h5,h6⟩
inductive bu (K:PySem.W.Frag) (Ad:Ads) (vs:List V) (H:Hp) (Q:VK) (E:XK):Prop
 | mk (ed dx b cl sd t:Addr) (l0 day n:Int) (kvs:List (Key × V)) (lk:Lk) (key:List Key) (q0:vs=[.ref ed,.int day,.ref t,.int n]) (q1:H ed=some (.ins Ad.Editions dx (edF b cl sd l0))) (q2:H sd=some (.dK kvs)) (q3:nq H kvs lk) (q4:H t=some (.tup (key.map kV))) (q5:fF key) (q6:∀ H',ak H H'->Q (.bl (fq lk day key n)) H'):bu K Ad vs H Q E
theorem eu:aA ["self","day","entry","number","lately"] ["self","day","entry","number"] (af bj):=⟨rfl,rfl,rfl,by decide +kernel,rfl,by decide +kernel,by decide +kernel⟩
theorem hX {f:Addr}{fd:FuncData} (F:Fun K "is_barred" "Editions.is_barred" bj f fd) (T:Bl mg) (AF:AdF K mg Ad) :aX P w K mg base (CX1 P w) 1 f fd ["self","day","entry","number"] (bu K Ad):=by
 refine F.okX (k:=0) eu (fun vs H Q E h=>?_) (fun cdv A outer s H vs Q E hr h=>?_)
 ·obtain ⟨ed,dx,b,cl,sd,t,l0,day,n,kvs,lk,key,rfl,_⟩:=h
  rfl
 ·obtain ⟨ed,dx,b,cl,sd,t,l0,day,n,kvs,lk,key,rfl,h1,h2,S,ht,eo,k⟩:=h
  have hu:=hr.aO
  have hu1:=aZ hr
  have hu9:=hr.hu9
  refine ⟨_,aa (az (i:=4) eu.nd (oz hu1 (aY (K:=K) rfl (pvL 0)) (pvL 3))) (ah (aG (iz (cj iN (pvL 4) (gi) (aL _)) (iz (cj (pE (K:=K) rfl hu9) (bz (cV (K:=K) rfl) (pvL 4) (ai) (fun _ _=>rfl)) (pvL 2) (aL _)) (gP (cj kb (aD j6 (pvL 1) (bz (cV (K:=K) rfl) (pvL 4) (ai) (fun _ _=>rfl))) (eY AF.v_DAYS_BARRED) (aL _))))))),?_⟩
  refine ar fun nn hN=>?_
  and_intros
  refine ⟨_,dx,_,_,h1,AF.c_Editions,AF.n_Editions_struck,rfl,sd,rfl,.inl ⟨_,.inl h2⟩,_,.inl ⟨_,.inl n,.inl h2,rfl,rfl⟩,?_⟩
  rw [hN]
  clear hN nn
  rcases S n with ⟨e1,e2⟩ | ⟨tp,ad,d,key',e1,e2,e3,e4,e5⟩
  ·rw [e1]
   and_intros
   have:=k H (ak.refl _)
   unfold fq at this
   rw [e2] at this
   exact this
  ·rw [e1,show (some (V.ref tp)).getD V.non=V.ref tp from rfl]
   and_intros
   refine ⟨_,_,.inr (.of e2),fg (by decide) rfl,0,_,by decide,(pN e3 ht e4 eo).1,?_⟩
   have kk:=k H (ak.refl _)
   unfold fq at kk
   rw [e5] at kk
   have kk:Q (.bl (!decide (key'=key) && decide (day - d < 31))) H:=kk
   by_cases hk:key'=key
   ·rw [decide_eq_true hk] at kk ⊢
    rw [if_neg (by decide)]
    exact kk
   ·rw [decide_eq_false hk] at kk ⊢
    rw [if_pos (by decide)]
    and_intros
    refine ⟨_,_,.inr (.of e2),fg (by decide) rfl,?_⟩
    and_intros
    exact kk
inductive bp (Ad:Ads) (vs:List V) (H:Hp) (Q:VK) (E:XK):Prop
 | mk (ed dx b cl sd:Addr) (l0 d:Int) (y z:V) (cs:List V) (q0:vs=[.ref ed,.int d,y,z]) (q1:H ed=some (.ins Ad.Editions dx (edF b cl sd l0))) (q2:H cl=some (.lst cs)) (q3:cs.length < 1000) (q4:∀ p H',H p=none->(∀ c o,c≠ed->c≠cl->H c=some o->H' c=some o)->H' ed=some (.ins Ad.Editions dx (edF b cl sd d))->H' p=some (.tup [.int d,y,z])->H' cl=some (.lst (cs++[.ref p]))->Q .non H'):bp Ad vs H Q E
theorem gC:aA ["self","day","number","entry"] ["self","day","number","entry"] (af aV):=⟨rfl,rfl,rfl,by decide +kernel,rfl,by decide +kernel,by decide +kernel⟩
theorem gy {f:Addr}{fd:FuncData} (F:Fun K "note_change" "Editions.note_change" aV f fd) (T:Bl mg) (AF:AdF K mg Ad) :aX P w K mg base (CX1 P w) 1 f fd ["self","day","number","entry"] (bp Ad):=by
 refine F.okX (k:=0) gC (fun vs H Q E h=>?_) (fun cdv A outer s H vs Q E hr h=>?_)
 ·obtain ⟨ed,dx,b,cl,sd,l0,d,y,z,cs,rfl,_⟩:=h
  rfl
 ·obtain ⟨ed,dx,b,cl,sd,l0,d,y,z,cs,rfl,h1,h2,hl,k⟩:=h
  have hu:=hr.aO
  have hu1:=aZ hr
  refine ⟨_,aa (cC (gh (K:=K) rfl PySem.F.plainAttrs_list PySem.F.slot_list_append PySem.F.type_list_append fB (aY (K:=K) rfl (pvL 0)) (ag (bB (ag (pvL 1) (ag (pvL 2) (ag (pvL 3) (ae))))) (ae)))) (ah (dN (K:=K) rfl (pvL 0) (pvL 1))),?_⟩
  refine ar fun nn hN=>?_
  and_intros
  refine ⟨_,dx,_,_,h1,AF.c_Editions,AF.n_Editions_changes,rfl,?_,Nat.le_of_lt (ao (by decide)),fun p G1 hp t1 g1=>?_⟩
  ·exact .inl ⟨rfl,_,.of h2⟩
  refine ⟨cl,cs,_,rfl,rfl,t1 _ _ h2,ao (by omega),?_⟩
  have nec:ed≠cl:=aC h1 h2 (by intro z;cases z)
  have npc:p≠cl:=fun e=>by rw [e,h2] at hp;cases hp
  have npe:p≠ed:=fun e=>by rw [e,h1] at hp;cases hp
  have k2:∀ c o,c≠cl->G1 c=some o->upd G1 cl (.lst (cs++[V.ref p])) c=some o:=fun c o hc e=>by rw [aj hc];exact e
  have g2:upd G1 cl (.lst (cs++[V.ref p])) cl=some (.lst (cs++[V.ref p])):=aq
  generalize upd G1 cl (.lst (cs++[V.ref p]))=G2 at k2 g2
  rw [hN]
  clear hN nn
  and_intros
  refine ⟨_,dx,_,k2 _ _ nec (t1 _ _ h1),AF.c_Editions,AF.n_Editions_latest,by show 4 < 1000;decide,?_⟩
  exact k p _ hp (fun c o e1 e2 e=>by rw [aj e1];exact k2 c o e2 (t1 _ _ e)) aq (by rw [aj npe];exact k2 _ _ npc g1) (by rw [aj nec.symm];exact g2)
def dU (K:PySem.W.Frag):Sp:=fun vs H Q _=>∃ (a:Addr) (ns:List Int) (k:Int),vs=[.ref a,.int k]/\SqL K H a (ns.map V.int)/\0<=k/\Q (.int (ns.getD k.toNat 0)) H
theorem mX:aA ["_law_script","_law_k"] ["_law_script","_law_k"] (af cO):=⟨rfl,rfl,rfl,by decide +kernel,rfl,by decide +kernel,by decide +kernel⟩
theorem mL {f:Addr}{fd:FuncData} (F:Fun K "_law_cell_at" "_law_cell_at" cO f fd) (T:Bl mg) (AF:AdF K mg Ad) :aX P w K mg base (CX1 P w) 1 f fd ["_law_script","_law_k"] (dU K):=by
 refine F.okX (k:=0) mX (fun vs H Q E h=>?_) (fun cdv A outer s H vs Q E hr h=>?_)
 ·obtain ⟨a,ns,k,rfl,_⟩:=h
  rfl
 ·obtain ⟨a,ns,i,rfl,hS,hi,k⟩:=h
  have hu:=hr.aO
  have hu1:=aZ hr
  refine ⟨_,aa (aW (aK kb (pvL 1) (av (bE (K:=K) rfl) T.len di (ag (pvL 0) (ae))) (aL _)) (ah (aG (bz (cV (K:=K) rfl) (pvL 0) (pvL 1) (fun _ _=>rfl)))) (aJ)) (ah (aG (ai))),?_⟩
  ac_nf
  refine ⟨_,.inl hS,?_⟩
  rw [List.length_map]
  by_cases hlt:i < (ns.length:Int)
  ·rw [if_pos (decide_eq_true hlt)]
   refine ⟨_,.int (ns.getD i.toNat 0),.inl hS,?_,k⟩
   have e:(ns.map V.int)[i.toNat]?=some (.int (ns.getD i.toNat 0)):=by
    rw [List.getElem?_map,List.getD_eq_getElem?_getD,List.getElem?_eq_getElem (by omega)];rfl
   have:=bX e
   rwa [Int.toNat_of_nonneg hi] at this
  ·rw [if_neg (by rw [decide_eq_true_eq];exact hlt)]
   have e:ns.getD i.toNat 0=0:=by rw [List.getD_eq_getElem?_getD,List.getElem?_eq_none (by omega)];rfl
   rw [e] at k
   exact k
def gX:Sp:=fun vs H Q _=>∃ x t,vs=[x]/\eO H x=some t/\Q (.bl (decide (t=Tg.int))) H
theorem pS:aA ["_law_found"] ["_law_found"] (af dC):=⟨rfl,rfl,rfl,by decide +kernel,rfl,by decide +kernel,by decide +kernel⟩
theorem pB {f:Addr}{fd:FuncData} (F:Fun K "_law_whole" "_law_whole" dC f fd) (T:Bl mg) (AF:AdF K mg Ad) :aX P w K mg base (CX1 P w) 1 f fd ["_law_found"] gX:=by
 refine F.okX (k:=0) pS (fun vs H Q E h=>?_) (fun cdv A outer s H vs Q E hr h=>?_)
 ·obtain ⟨x,t,rfl,_⟩:=h
  rfl
 ·obtain ⟨x,t,rfl,ht,k⟩:=h
  have hu:=hr.aO
  have hu1:=aZ hr
  refine ⟨_,ah (aG (iz (av (cm .int) T.isinstance bt_isinstance (ag (pvL 0) (ag (fj T.int xk) (ae)))) (gP (yK (av (cm .bl) T.isinstance bt_isinstance (ag (pvL 0) (ag (fj T.bool uh) (ae)))))))),?_⟩
  ac_nf
  refine ⟨trivial,t,ht,?_⟩
  cases t <;> (simp only [Tg.sub,if_true,if_false,Bool.false_eq_true,reduceCtorEq];first | exact k | exact ⟨trivial,_,ht,k⟩)
def dY:Sp:=fun vs H Q _=>∃ c:Int,vs=[.int c]/\Q (.int (yt c)) H
theorem jK:aA ["_law_cell","_law_many_here"] ["_law_cell"] (af dB):=⟨rfl,rfl,rfl,by decide +kernel,rfl,by decide +kernel,by decide +kernel⟩
theorem pA {f:Addr}{fd:FuncData} (F:Fun K "_law_mixed" "_law_mixed" dB f fd) (T:Bl mg) (AF:AdF K mg Ad) :aX P w K mg base (CX1 P w) 1 f fd ["_law_cell"] dY:=by
 refine F.okX (k:=0) jK (fun vs H Q E h=>?_) (fun cdv A outer s H vs Q E hr h=>?_)
 ·obtain ⟨c,rfl,_⟩:=h
  rfl
 ·obtain ⟨c,rfl,k⟩:=h
  have hu:=hr.aO
  have hu1:=aZ hr
  refine ⟨_,aa (az (i:=1) jK.nd (ai)) (ah (aG (aD bG (aD aN (aD lh (aD bG (pvL 0) (aD lj (ai) (ai))) (pvL 1)) (ai)) (aD aN (aD lj (ai) (ai)) (ai))))),?_⟩
  ac_nf
  have h1:0<=c % 10 ^ 60:=Int.emod_nonneg _ (by decide)
  have h2:c % 10 ^ 60 < 10 ^ 60:=Int.emod_lt_of_pos _ (by decide)
  refine ⟨⟨by decide,by decide,by decide⟩,by decide,⟨?_,by decide⟩,⟨by decide,by decide,by decide⟩,by decide,k⟩
  have e:(c % 10 ^ Int.toNat 60)=c % 10 ^ 60:=rfl
  rw [e]
  have h3:(10:Int) ^ 60<=((2 ^ 1000:Nat):Int):=by decide
  omega
def gT:Sp:=fun vs H Q _=>∃ n m:Int,vs=[.int n,.int m]/\0<=m/\Q (.bl (Mk.cop m n)) H
theorem jJ:aA ["_law_number","_law_m"] ["_law_number","_law_m"] (af d9):=⟨rfl,rfl,rfl,by decide +kernel,rfl,by decide +kernel,by decide +kernel⟩
theorem p8 {f:Addr}{fd:FuncData} (F:Fun K "_law_apart" "_law_apart" d9 f fd) (T:Bl mg) (AF:AdF K mg Ad) :aX P w K mg base (CX1 P w) 1 f fd ["_law_number","_law_m"] gT:=by
 refine F.okX (k:=0) jJ (fun vs H Q E h=>?_) (fun cdv A outer s H vs Q E hr h=>?_)
 ·obtain ⟨n,m,rfl,_⟩:=h
  rfl
 ·obtain ⟨n,m,rfl,hm,k⟩:=h
  have hu:=hr.aO
  have hu1:=aZ hr
  refine ⟨_,aa (mR PassesOwn.leaving (aK (gO (K:=K) rfl hu) (pvL 1) (ai) (aL _)) (ah (CG (i:=0) (j:=1) rfl jJ.nd rfl rfl (by decide) rfl rfl (ag (pvL 1) (ag (aD bG (pvL 0) (pvL 1)) (ae))) rfl))) (ah (aG (cj (cS (K:=K) rfl hu) (av jQ T.abs rZ (ag (pvL 0) (ae))) (ai) (aL _)))),?_⟩
  ac_nf
  refine pY (fun σ H'=>H'=H/\∃ (a b:Int),σ=[some (.int a),some (.int b)]/\0<=b/\Int.gcd a b=Int.gcd n m)
   (fun σ _=>match σ with | [_,some (.int b)]=>b.toNat | _=>0) ⟨rfl,n,m,rfl,hm,rfl⟩ ?_
  rintro σ H' ⟨rfl,a,b,rfl,hb,hg⟩
  ac_nf
  by_cases hb0:b=0
  ·subst hb0
   have e:decide ((a.natAbs:Int)=1)=Mk.cop m n:=by
    unfold Mk.cop
    rw [← hg,Int.gcd_zero]
    by_cases h:a.natAbs=1
    ·rw [decide_eq_true h];exact decide_eq_true (by omega)
    ·rw [decide_eq_false h];exact decide_eq_false (by omega)
   rw [← e] at k
   exact k
  ·have e:(!decide (b=0))=true:=by simp [hb0]
   rw [if_pos e]
   refine ⟨_,fun _ _ h=>h,by omega,⟨rfl,b,a % b,rfl,Int.emod_nonneg _ hb0,?_⟩,?_⟩
   ·rw [Mk.xT,hg]
   ·show (a % b).toNat < b.toNat
    have h1:a % b < b:=Int.emod_lt_of_pos _ (by omega)
    have h2:0<=a % b:=Int.emod_nonneg _ hb0
    omega
inductive fZ (vs:List V) (H:Hp) (Q:VK) (E:XK):Prop
 | mk (p q:Addr) (al:List Nat) (ws:List Int) (r:Int) (q0:vs=[.ref p]) (q1:Parts H p q al ws r) (q2:1<=ws.length) (q3:ws.length<=8) (q4:al.length<=26) (q5:∀ H',ak H H'->Q (.int (ck al ws)) H'):fZ vs H Q E
theorem fV:aA ["_law_parts","_law_many_here","_law_weight"] ["_law_parts"] (af eL):=⟨rfl,rfl,rfl,by decide +kernel,rfl,by decide +kernel,by decide +kernel⟩
theorem rg {f:Addr}{fd:FuncData} (F:Fun K "_law_many" "_law_many" eL f fd) (T:Bl mg) (AF:AdF K mg Ad) :aX P w K mg base (CX1 P w) 1 f fd ["_law_parts"] fZ:=by
 refine F.okX (k:=0) fV (fun vs H Q E h=>?_) (fun cdv A outer s H vs Q E hr h=>?_)
 ·obtain ⟨p,q,al,ws,r,rfl,_⟩:=h
  rfl
 ·obtain ⟨p,q,al,ws,r,rfl,⟨h1,h2⟩,w1,w8,a26,k⟩:=h
  have hu:=hr.aO
  have hu1:=aZ hr
  refine ⟨_,aa (az (i:=1) fV.nd (ai)) (aa (gR PassesOwn.leaving rfl (cU (K:=K) rfl (jA (uT (K:=K) rfl) (bz (cV (K:=K) rfl) (pvL 0) (ai) (fun _ _=>rfl)) (jC (ai)) (pL))) (ax (i:=2) fV.nd) (ah (az (i:=1) fV.nd (aD lh (pvL 1) (av (bE (K:=K) rfl) T.len di (ag (bz (cV (K:=K) rfl) (pvL 0) (ai) (fun _ _=>rfl)) (ae))))))) (ah (aG (pvL 1)))),?_⟩
  refine ar fun nn hN=>?_
  and_intros
  rw [hN]
  clear hN nn
  refine ar fun nn hN=>?_
  and_intros
  refine ⟨_,_,.l h1,bX (j:=1) rfl,_,.of h2,fun p1 H1 hp1 s1 g1=>?_⟩
  rw [show (1:Int)=((1:Nat):Int) from rfl,jR,← List.map_drop] at g1
  refine .inl ⟨⟨_,.of g1⟩,gw (xs:=(ws.drop 1).map V.int) (fun i σ G=>(∃ o2,σ=[some (V.ref p),some (V.int ((al.length:Int) ^ i)),o2])/\G=H1) ⟨⟨_,rfl⟩,rfl⟩ ?_ ?_ ?_⟩
  ·rintro i σ G _ ⟨_,rfl⟩
   exact .of g1
  ·rintro i v σ G hi ⟨⟨o2,rfl⟩,rfl⟩ N hNx
   clear hN
   have hil:=(List.getElem?_eq_some_iff.mp hi).1
   rw [List.length_map,List.length_drop] at hil
   and_intros
   refine ⟨_,_,.l (s1 _ _ h1),bX (j:=0) rfl,?_⟩
   and_intros
   rw [dw]
   have hb:((al.length:Int) ^ i).natAbs<=26 ^ 8:=by
    have e1:((al.length:Int)) ^ i=((al.length ^ i:Nat):Int):=by simp
    rw [e1,Int.natAbs_natCast]
    exact Nat.le_trans (Nat.pow_le_pow_left a26 _) (Nat.pow_le_pow_right (by decide) (by omega))
   refine ⟨Nat.le_of_lt (ao (by omega)),⟨Nat.lt_of_le_of_lt hb (by decide),Nat.lt_of_lt_of_le (show ((al.length:Int)).natAbs < 1000 by omega) (by decide)⟩,hNx _ _ ⟨⟨some v,by rw [Int.pow_succ]⟩,rfl⟩⟩
  ·rintro σ G ⟨⟨o2,rfl⟩,rfl⟩
   show nn _ _ _
   rw [hN]
   clear hN nn
   and_intros
   rw [List.length_map,List.length_drop]
   exact k _ s1
def kK (a b:Nat):List (List Key):=[[.inr ("end":Str)],[.inr ("part":Str),.inr (tx [a])],[.inr ("phrase":Str),.inr (tx [a])],[.inr ("part":Str),.inr (tx [b])],[.inr ("phrase":Str),.inr (tx [a,b])],[.inr ("part":Str),.inr (tx [a,b])],
 [.inr ("phrase":Str),.inr (tx [b,32,a])],[.inr ("phrase":Str),.inr (tx [b])],[.inr ("part":Str),.inr (tx [a,b,a,b,a,a])],[.inr ("phrase":Str),.inr (tx [a,32,b])],[.inr ("part":Str),.inr (tx [b,a])],
 [.inr ("phrase":Str),.inr (tx [a,b,32,a])],[.inr ("phrase":Str),.inr (tx [b,a])],[.inr ("phrase":Str),.inr (tx [a,32,a,b,32,b])]]
theorem AR {x y:List Nat}:(tx x=tx y)=(x=y):=propext ⟨fun h=>by have:=congrArg (fun z:Str=>z.cps.toList) h;rwa [kj,kj] at this,fun h=>by rw [h]⟩
theorem A7 {a b:Nat} (hab:a≠b) (a1:97<=a) (b1:97<=b):(kK a b).Nodup:=by
 have hba:b≠a:=hab.symm
 have a32:a≠32:=by omega
 have b32:b≠32:=by omega
 have a32':32≠a:=by omega
 have b32':32≠b:=by omega
 have e1:(("part":Str)=("phrase":Str))=False:=by decide
 have e2:(("phrase":Str)=("part":Str))=False:=by decide
 have e3:(("end":Str)=("phrase":Str))=False:=by decide
 unfold kK
 simp [AR,hab,hba,a32,b32,a32',b32',e1,e2,e3]
theorem Ai {l:List Nat} (h1:1<=l.length) (h2:l.length<=6) (h:∀ c∈l,97<=c/\c < 123):dh 6 l=true:=by
 unfold dh
 rw [decide_eq_true h1,decide_eq_true h2,Bool.true_and,Bool.true_and,List.all_eq_true]
 exact fun c hc=>decide_eq_true (h c hc)
theorem zR:fF [.inr ("end":Str)]:=⟨rfl,by decide,fun z hz=>by
 have:V.str z=V.str ("end":Str):=List.mem_singleton.mp hz
 cases this;decide⟩
theorem ig {l:List Nat} (h1:1<=l.length) (h2:l.length<=6) (h:∀ c∈l,97<=c/\c < 123):fF [.inr ("part":Str),.inr (tx l)]:=⟨by
 show dh 6 (tx l).cps.toList=true
 rw [kj];exact Ai h1 h2 h,Nat.le_refl 2,fun z hz=>by
 have hz':V.str z∈[V.str ("part":Str),V.str (tx l)]:=hz
 rcases List.mem_cons.mp hz' with e | e
 ·cases e;decide
 ·have e2:V.str z=V.str (tx l):=List.mem_singleton.mp e
  cases e2
  rw [dw];omega⟩
theorem fQ {ws:List (List Nat)} (h1:1<=ws.length) (h2:ws.length<=6) (h:∀ w∈ws,1<=w.length/\w.length<=20/\∀ c∈w,97<=c/\c < 123) (h4:(Mk.dJ 32 ws).length<=1000):fF [.inr ("phrase":Str),.inr (tx (Mk.dJ 32 ws))]:=⟨by
 show iX 6 (tx (Mk.dJ 32 ws)).cps.toList=true
 rw [kj];exact vh h1 h2 h,Nat.le_refl 2,fun z hz=>by
 have hz':V.str z∈[V.str ("phrase":Str),V.str (tx (Mk.dJ 32 ws))]:=hz
 rcases List.mem_cons.mp hz' with e | e
 ·cases e;decide
 ·have e2:V.str z=V.str (tx (Mk.dJ 32 ws)):=List.mem_singleton.mp e
  cases e2
  rw [dw];omega⟩
theorem A6 {a b:Nat} (a1:97<=a) (a2:a < 123) (b1:97<=b) (b2:b < 123):∀ key∈kK a b,fF key:=by
 have l1:∀ l:List Nat,(∀ c∈l,c=a ∨ c=b)->∀ c∈l,97<=c/\c < 123:=fun l h c hc=>by rcases h c hc with rfl | rfl <;> exact ⟨by omega,by omega⟩
 have w1:∀ l:List Nat,1<=l.length->l.length<=20->(∀ c∈l,c=a ∨ c=b)->1<=l.length/\l.length<=20/\∀ c∈l,97<=c/\c < 123:=fun l h1 h2 h=>⟨h1,h2,l1 l h⟩
 have wa:=w1 [a] (by simp) (by simp) (by simp)
 have wb:=w1 [b] (by simp) (by simp) (by simp)
 have wab:=w1 [a,b] (by simp) (by simp) (by simp)
 have wba:=w1 [b,a] (by simp) (by simp) (by simp)
 intro key hk
 unfold kK at hk
 simp only [List.mem_cons,List.not_mem_nil,or_false] at hk
 rcases hk with rfl | rfl | rfl | rfl | rfl | rfl | rfl | rfl | rfl | rfl | rfl | rfl | rfl | rfl
 ·exact zR
 ·exact ig (by simp) (by simp) wa.2.2
 ·exact fQ (ws:=[[a]]) (by simp) (by simp) (by simpa using wa) (by simp [Mk.dJ])
 ·exact ig (by simp) (by simp) wb.2.2
 ·exact fQ (ws:=[[a,b]]) (by simp) (by simp) (by simpa using wab) (by simp [Mk.dJ])
 ·exact ig (by simp) (by simp) wab.2.2
 ·exact fQ (ws:=[[b],[a]]) (by simp) (by simp) (fun w hw=>by rcases List.mem_cons.mp hw with rfl | hw;exact wb;rw [List.mem_singleton.mp hw];exact wa) (by simp [Mk.dJ])
 ·exact fQ (ws:=[[b]]) (by simp) (by simp) (by simpa using wb) (by simp [Mk.dJ])
 ·exact ig (by simp) (by simp) (l1 _ (by simp))
 ·exact fQ (ws:=[[a],[b]]) (by simp) (by simp) (fun w hw=>by rcases List.mem_cons.mp hw with rfl | hw;exact wa;rw [List.mem_singleton.mp hw];exact wb) (by simp [Mk.dJ])
 ·exact ig (by simp) (by simp) wba.2.2
 ·exact fQ (ws:=[[a,b],[a]]) (by simp) (by simp) (fun w hw=>by rcases List.mem_cons.mp hw with rfl | hw;exact wab;rw [List.mem_singleton.mp hw];exact wa) (by simp [Mk.dJ])
 ·exact fQ (ws:=[[b,a]]) (by simp) (by simp) (by simpa using wba) (by simp [Mk.dJ])
 ·exact fQ (ws:=[[a],[a,b],[b]]) (by simp) (by simp) (fun w hw=>by rcases List.mem_cons.mp hw with rfl | hw;exact wa;rcases List.mem_cons.mp hw with rfl | hw;exact wab;rw [List.mem_singleton.mp hw];exact wb) (by simp [Mk.dJ])
theorem oB {H H':Hp}{us:List Addr}{ls:List (List Key)} (s:ak H H') (h:Paired (fun (t:Addr) (key:List Key)=>H t=some (.tup (key.map kV))) us ls):Paired (fun (t:Addr) (key:List Key)=>H' t=some (.tup (key.map kV))) us ls:=by
 induction h with
 | nil=>exact .nil
 | cons f _ ih=>exact .cons (s _ _ f) ih
def BL (H:Hp) (D:Addr) (a b:Nat):Prop:=∃ ts:List Addr,H D=some (.lst (ts.map V.ref))/\Paired (fun (t:Addr) (key:List Key)=>H t=some (.tup (key.map kV))) ts (kK a b)
def iE:Sp:=fun vs H Q _=>∃ y:Int,vs=[.int y]/\0<=y/\∀ D a b H',ak H H'->97<=a->a < 123->97<=b->b < 123->a≠b->BL H' D a b->Q (.ref D) H'
theorem cX:aA ["_law_cell","_law_letters","_law_a","_law_b","_law_some"] ["_law_cell"] (af eM):=⟨rfl,rfl,rfl,by decide +kernel,rfl,by decide +kernel,by decide +kernel⟩
theorem rh {f:Addr}{fd:FuncData} (F:Fun K "_law_pool" "_law_pool" eM f fd) (T:Bl mg) (AF:AdF K mg Ad) :aX P w K mg base (CX1 P w) 1 f fd ["_law_cell"] iE:=by
 refine F.okX (k:=0) cX (fun vs H Q E h=>?_) (fun cdv A outer s H vs Q E hr h=>?_)
 ·obtain ⟨y,rfl,_⟩:=h
  rfl
 ·obtain ⟨y,rfl,y0,k⟩:=h
  have hu:=hr.aO
  have hu1:=aZ hr
  refine ⟨_,aa (az (i:=1) cX.nd (aF)) (aa (az (i:=2) cX.nd (bz (cV (K:=K) rfl) (pvL 1) (aD bG (pvL 0) (ai)) (fun _ _=>rfl))) (aa (az (i:=3) cX.nd (bz (cV (K:=K) rfl) (pvL 1) (aD bG (aD aN (aD aN (pvL 0) (ai)) (aD bG (aD cG (pvL 0) (ai)) (ai))) (ai)) (fun _ _=>rfl))) (aa (az (i:=4) cX.nd (bc (ag (bB (ag (aF) (ae))) (ag (bB (ag (aF) (ag (pvL 2) (ae)))) (ag (bB (ag (aF) (ag (pvL 2) (ae)))) (ag (bB (ag (aF) (ag (pvL 3) (ae)))) (ag (bB (ag (aF) (ag (aD aN (pvL 2) (pvL 3)) (ae)))) (ag (bB (ag (aF) (ag (aD aN (pvL 2) (pvL 3)) (ae)))) (ae))))))))) (aa (az (i:=4) cX.nd (aD aN (pvL 4) (bc (ag (bB (ag (aF) (ag (aD aN (aD aN (pvL 3) (aF)) (pvL 2)) (ae)))) (ag (bB (ag (aF) (ag (pvL 3) (ae)))) (ae)))))) (aa (az (i:=4) cX.nd (aD aN (pvL 4) (bc (ag (bB (ag (aF) (ag (aD aN (aD aN (aD aN (aD aN (aD aN (pvL 2) (pvL 3)) (pvL 2)) (pvL 3)) (pvL 2)) (pvL 2)) (ae)))) (ag (bB (ag (aF) (ag (aD aN (aD aN (pvL 2) (aF)) (pvL 3)) (ae)))) (ag (bB (ag (aF) (ag (aD aN (pvL 3) (pvL 2)) (ae)))) (ae))))))) (ah (aG (aD aN (pvL 4) (bc (ag (bB (ag (aF) (ag (aD aN (aD aN (aD aN (pvL 2) (pvL 3)) (aF)) (pvL 2)) (ae)))) (ag (bB (ag (aF) (ag (aD aN (pvL 3) (pvL 2)) (ae)))) (ag (bB (ag (aF) (ag (aD aN (aD aN (aD aN (aD aN (aD aN (pvL 2) (aF)) (pvL 2)) (pvL 3)) (aF)) (pvL 3)) (ae)))) (ae))))))))))))),?_⟩
  have big:∀ {u:Nat},u<=1000->u<=sizeLine:=fun hu=>Nat.le_of_lt (ao (by omega))
  refine ar fun nn hN=>?_
  and_intros
  rw [hN]
  clear hN nn
  refine ar fun nn hN=>?_
  and_intros
  have ya:=Int.emod_nonneg y (show (26:Int)≠0 by decide)
  have yb:=Int.emod_lt_of_pos y (show (0:Int) < 26 by decide)
  refine ⟨by decide,big (by decide),97 + (y % 26).toNat,fg ya (wL _ (by omega)),?_⟩
  rw [hN]
  clear hN nn
  refine ar fun nn hN=>?_
  and_intros
  have y2a:=Int.emod_nonneg (y + 1 + y / 26 % 25) (show (26:Int)≠0 by decide)
  have y2b:=Int.emod_lt_of_pos (y + 1 + y / 26 % 25) (show (0:Int) < 26 by decide)
  refine ⟨⟨by decide,by decide⟩,by decide,by decide,big (by decide),97 + ((y + 1 + y / 26 % 25) % 26).toNat,fg y2a (wL _ (by omega)),?_⟩
  have hab:97 + (y % 26).toNat≠97 + ((y + 1 + y / 26 % 25) % 26).toNat:=by omega
  have a1:97<=97 + (y % 26).toNat/\97 + (y % 26).toNat < 123:=by omega
  have b1:97<=97 + ((y + 1 + y / 26 % 25) % 26).toNat/\97 + ((y + 1 + y / 26 % 25) % 26).toNat < 123:=by omega
  generalize 97 + (y % 26).toNat=a at hab a1
  generalize 97 + ((y + 1 + y / 26 % 25) % 26).toNat=b at hab b1
  clear ya yb y2a y2b
  have e32:Str.ofString " "=tx [32]:=rfl
  rw [show (⟨#[a]⟩:Str)=tx [a] from rfl,show (⟨#[b]⟩:Str)=tx [b] from rfl]
  rw [hN]
  clear hN nn
  refine ar fun nn hN=>?_
  and_intros
  simp only [e32,kh,dw,List.cons_append,List.nil_append,List.length_cons,List.length_nil]
  repeat refine ⟨big (by decide),?_⟩
  intro t0 G0 _ s0 g0
  repeat refine ⟨big (by decide),?_⟩
  intro t1 G1 _ s1 g1
  repeat refine ⟨big (by decide),?_⟩
  intro t2 G2 _ s2 g2
  repeat refine ⟨big (by decide),?_⟩
  intro t3 G3 _ s3 g3
  repeat refine ⟨big (by decide),?_⟩
  intro t4 G4 _ s4 g4
  repeat refine ⟨big (by decide),?_⟩
  intro t5 G5 _ s5 g5
  repeat refine ⟨big (by decide),?_⟩
  intro D0 H0 _ r0 q0
  rw [hN]
  clear hN nn
  refine ar fun nn hN=>?_
  and_intros
  simp only [e32,kh,dw,List.cons_append,List.nil_append,List.length_cons,List.length_nil]
  repeat refine ⟨big (by decide),?_⟩
  intro t6 G6 _ s6 g6
  repeat refine ⟨big (by decide),?_⟩
  intro t7 G7 _ s7 g7
  repeat refine ⟨big (by decide),?_⟩
  intro M1 K1 _ u1 v1
  have q1:=(s6.trans (s7.trans u1)) _ _ q0
  refine ⟨_,_,q1,v1,big (by simp),fun D1 H1 _ r1 w1=>?_⟩
  simp only [List.cons_append,List.nil_append] at w1
  rw [hN]
  clear hN nn
  refine ar fun nn hN=>?_
  and_intros
  simp only [e32,kh,dw,List.cons_append,List.nil_append,List.length_cons,List.length_nil]
  repeat refine ⟨big (by decide),?_⟩
  intro t8 G8 _ s8 g8
  repeat refine ⟨big (by decide),?_⟩
  intro t9 G9 _ s9 g9
  repeat refine ⟨big (by decide),?_⟩
  intro t10 G10 _ s10 g10
  repeat refine ⟨big (by decide),?_⟩
  intro M2 K2 _ u2 v2
  have q2:=(s8.trans (s9.trans (s10.trans u2))) _ _ w1
  refine ⟨_,_,q2,v2,big (by simp),fun D2 H2 _ r2 w2=>?_⟩
  simp only [List.cons_append,List.nil_append] at w2
  rw [hN]
  clear hN nn
  and_intros
  simp only [e32,kh,dw,List.cons_append,List.nil_append,List.length_cons,List.length_nil]
  repeat refine ⟨big (by decide),?_⟩
  intro t11 G11 _ s11 g11
  repeat refine ⟨big (by decide),?_⟩
  intro t12 G12 _ s12 g12
  repeat refine ⟨big (by decide),?_⟩
  intro t13 G13 _ s13 g13
  repeat refine ⟨big (by decide),?_⟩
  intro M3 K3 _ u3 v3
  have q3:=(s11.trans (s12.trans (s13.trans u3))) _ _ w2
  refine ⟨_,_,q3,v3,big (by simp),fun D3 H3 _ r3 w3=>?_⟩
  simp only [List.cons_append,List.nil_append] at w3
  have z13:=u3.trans r3
  have z12:=s13.trans z13
  have z11:=s12.trans z12
  have zH2:=s11.trans z11
  have z10:=u2.trans (r2.trans zH2)
  have z9:=s10.trans z10
  have z8:=s9.trans z9
  have zH1:=s8.trans z8
  have z7:=u1.trans (r1.trans zH1)
  have z6:=s7.trans z7
  have z5:=r0.trans (s6.trans z6)
  have z4:=s5.trans z5
  have z3:=s4.trans z4
  have z2:=s3.trans z3
  have z1:=s2.trans z2
  have z0:=s1.trans z1
  refine k D3 a b H3 (s0.trans z0) a1.1 a1.2 b1.1 b1.2 hab ⟨[t0,t1,t2,t3,t4,t5,t6,t7,t8,t9,t10,t11,t12,t13],w3,?_⟩
  exact .cons (z0 _ _ g0) (.cons (z1 _ _ g1) (.cons (z2 _ _ g2) (.cons (z3 _ _ g3) (.cons (z4 _ _ g4) (.cons (z5 _ _ g5) (.cons (z6 _ _ g6) (.cons (z7 _ _ g7) (.cons (z8 _ _ g8) (.cons (z9 _ _ g9) (.cons (z10 _ _ g10) (.cons (z11 _ _ g11) (.cons (z12 _ _ g12) (.cons (z13 _ _ g13) .nil)))))))))))))
structure Lge where
 day:Int
 str:Bool
 adr:Addr
 num:Int
 key:List Key
def LgP (H:Hp) (v:V) (l:Lge):Prop:=∃ p,v=V.ref p/\H p=some (.tup [.int l.day,.str (if l.str then ("strike":Str) else ("put":Str)),.ref l.adr,.int l.num])
theorem jv {H H':Hp}{ls:List V}{gs:List Lge} (h:Paired (LgP H) ls gs) (s:∀ c xs,H c=some (.tup xs)->H' c=some (.tup xs)):Paired (LgP H') ls gs:=by
 induction h with
 | nil=>exact .nil
 | cons f _ ih=>obtain ⟨p,e,q⟩:=f;exact .cons ⟨p,e,s _ _ q⟩ ih
def cY (l:Lge):Chg:=⟨l.day,l.num,if l.str then none else some l.adr⟩
def df (es:List Ben) (l:Lge):List Ben:=if l.str then es.filter fun x=>decide (x.num≠l.num) else es++[⟨l.num,l.key,l.adr⟩]
def dF (gs:List Lge):List Ben:=gs.foldl df []
inductive fO:List Lge->Prop
 | nil:fO []
 | snoc {gs:List Lge}{l:Lge} (h:fO gs) (hs:l.str=true->l.num∈(dF gs).map (·.num)) (hp:l.str=false->l.num ∉ (dF gs).map (·.num)/\l.key ∉ (dF gs).map (·.key)):fO (gs++[l])
theorem gA (gs:List Lge) (l:Lge):dF (gs++[l])=df (dF gs) l:=by unfold dF;rw [List.foldl_append];rfl
theorem fO.take {gs:List Lge} (h:fO gs):∀ n,fO (gs.take n):=by
 induction h with
 | nil=>intro n;rw [List.take_nil];exact .nil
 | @snoc gs l h hs hp ih =>
  intro n
  by_cases hn:n<=gs.length
  ·rw [List.take_append_of_le_length hn];exact ih n
  ·rw [List.take_of_length_le (by rw [List.length_append];show gs.length + 1<=n;omega)]
   exact .snoc h hs hp
theorem fO.nn {gs:List Lge} (h:fO gs):((dF gs).map (·.num)).Nodup/\((dF gs).map (·.key)).Nodup:=by
 induction h with
 | nil=>exact ⟨.nil,.nil⟩
 | @snoc gs l h hs hp ih =>
  rw [gA]
  unfold df
  cases hl:l.str with
  | true =>
   rw [if_pos rfl]
   exact ⟨List.Nodup.sublist (List.Sublist.map _ List.filter_sublist) ih.1,List.Nodup.sublist (List.Sublist.map _ List.filter_sublist) ih.2⟩
  | false =>
   rw [if_neg (by decide),List.map_append,List.map_append]
   exact ⟨gK ih.1 (hp hl).1,gK ih.2 (hp hl).2⟩
structure StA (H:Hp) (st nw sk lg:Addr) (es:List Ben) (lk:Lk) (l0:Int) (m:Nat) (gs:List Lge):Prop where
 s:H st=some (.lst [.ref nw,.ref sk,.ref lg])
 n:H nw=some (.dK (cE es))
 k:∃ kvs,H sk=some (.dK kvs)/\nq H kvs lk/\kvs.length<=m
 g:∃ ls,H lg=some (.lst ls)/\ls.length<=m/\(ls=[] ∨ ∃ t a b c,ls.getLast?=some (.ref t)/\H t=some (.tup [.int l0,a,b,c]))/\Paired (LgP H) ls gs
 en:∀ e∈es,H e.adr=some (.tup (e.key.map kV))/\fF e.key
 nn:(es.map (·.num)).Nodup
 ne:nw≠sk
 sl:st≠lg
theorem StA.same {H H':Hp}{st nw sk lg:Addr}{es:List Ben}{lk:Lk}{l0:Int}{m:Nat}{gs:List Lge} (h:StA H st nw sk lg es lk l0 m gs) (s:ak H H'):StA H' st nw sk lg es lk l0 m gs:=by
 obtain ⟨h1,h2,⟨kvs,h3,h4,h5⟩,⟨ls,h6,h7,h8,h8'⟩,h9,h10,h11,h12⟩:=h
 exact ⟨s _ _ h1,s _ _ h2,⟨kvs,s _ _ h3,h4.same s,h5⟩,⟨ls,s _ _ h6,h7,h8.imp id fun ⟨t,a,b,c,e,e2⟩=>⟨t,a,b,c,e,s _ _ e2⟩,jv h8' fun c xs e=>s _ _ e⟩,fun e he=>⟨s _ _ (h9 e he).1,(h9 e he).2⟩,h10,h11,h12⟩
def fo (es:List Ben) (lk:Lk) (day:Int) (key:List Key) (n:Int):Bool:=!decide (n∈es.map (·.num)) && !fq lk day key n
inductive fX (K:PySem.W.Frag) (vs:List V) (H:Hp) (Q:VK) (E:XK):Prop
 | mk (st nw sk lg t:Addr) (es:List Ben) (lk:Lk) (l0 n day:Int) (m:Nat) (gs:List Lge) (key:List Key) (q0:vs=[.ref st,.int n,.int day,.ref t]) (q1:StA H st nw sk lg es lk l0 m gs) (q2:H t=some (.tup (key.map kV))) (q3:fF key) (q4:∀ H',ak H H'->Q (.bl (fo es lk day key n)) H'):fX K vs H Q E
theorem fU:aA ["_law_state","_law_number","_law_day","_law_entry","_law_now","_law_struck","_law_log"] ["_law_state","_law_number","_law_day","_law_entry"] (af eJ):=⟨rfl,rfl,rfl,by decide +kernel,rfl,by decide +kernel,by decide +kernel⟩
theorem qY {f:Addr}{fd:FuncData} (F:Fun K "_law_free" "_law_free" eJ f fd) (T:Bl mg) (AF:AdF K mg Ad) :aX P w K mg base (CX1 P w) 1 f fd ["_law_state","_law_number","_law_day","_law_entry"] (fX K):=by
 refine F.okX (k:=0) fU (fun vs H Q E h=>?_) (fun cdv A outer s H vs Q E hr h=>?_)
 ·obtain ⟨st,nw,sk,lg,t,es,lk,l0,n,day,m,gs,key,rfl,_⟩:=h
  rfl
 ·obtain ⟨st,nw,sk,lg,t,es,lk,l0,n,day,m,gs,key,rfl,A0,ht,eo,k⟩:=h
  obtain ⟨kvs,hsk,S,_⟩:=A0.k
  have hu:=hr.aO
  have hu1:=aZ hr
  have hu9:=hr.hu9
  refine ⟨_,aa (kc (pvL 0) (iO (K:=K) (n:=3) rfl rfl (aM (ax (i:=4) fU.nd) (aM (ax (i:=5) fU.nd) (aM (ax (i:=6) fU.nd) (eR)))))) (aa (aW (aK (ka (K:=K) rfl hu1) (pvL 1) (pvL 4) (by kernel_rfl)) (ah (aG (fS))) (aJ)) (ah (aG (yL (cj (vZ (K:=K) rfl hu1) (pvL 1) (pvL 5) (by kernel_rfl)) (yL (cj (y6 (K:=K) rfl hu9) (bz (cV (K:=K) rfl) (j7 hu1 (pvL 5) (pvL 1)) (ai) (fun _ _=>rfl)) (pvL 3) (aL _)) (gP (cj (sP (K:=K) rfl hu) (pvL 2) (aD aN (bz (cV (K:=K) rfl) (j7 hu1 (pvL 5) (pvL 1)) (ai) (fun _ _=>rfl)) (ai)) (aL _)))))))),?_⟩
  refine ar fun nn hN=>?_
  and_intros
  refine ⟨_,.l A0.s,rfl,?_⟩
  and_intros
  rw [hN]
  clear hN nn
  have kk:=k H (ak.refl _)
  refine ar fun nn hN=>?_
  and_intros
  refine .inr ⟨_,.inl ⟨_,.inl n,.inl A0.n,rfl,rfl⟩,?_⟩
  rw [sJ A0.nn]
  unfold fo at kk
  by_cases hm:n∈es.map (·.num)
  ·rw [decide_eq_true hm,if_pos rfl]
   rw [decide_eq_true hm] at kk
   exact kk
  rw [decide_eq_false hm,if_neg (by decide)]
  rw [decide_eq_false hm] at kk
  have kk:Q (.bl (!fq lk day key n)) H:=kk
  rw [hN]
  clear hN nn
  and_intros
  refine .inr ⟨_,.inl ⟨_,.inl n,.inl hsk,rfl,rfl⟩,?_⟩
  rcases S n with ⟨e1,e2⟩ | ⟨tp,ad,d,key',e1,e2,e3,e4,e5⟩
  ·rw [qp e2] at kk
   rw [e1,if_pos (by decide)]
   exact kk
  rw [xi e5] at kk
  have dg:gc H sk (.int n) (some (.ref tp)):=.inl ⟨_,.inl n,.inl hsk,rfl,e1.symm⟩
  rw [e1,if_neg (by simp)]
  refine ⟨sk,.ref tp,rfl,dg,?_⟩
  and_intros
  refine ⟨_,_,.inr (.of e2),fg (by decide) rfl,0,_,by decide,(pN e3 ht e4 eo).1,?_⟩
  by_cases hk:key'=key
  ·rw [decide_eq_true hk] at kk ⊢
   rw [if_pos rfl]
   exact kk
  rw [decide_eq_false hk] at kk ⊢
  rw [if_neg (by decide)]
  refine ⟨sk,.ref tp,rfl,dg,?_⟩
  and_intros
  refine ⟨_,_,.inr (.of e2),fg (by decide) rfl,?_⟩
  and_intros
  have ee:(!(!false && decide (day - d < 31)))=decide (d + 31<=day):=by
   by_cases h:day - d < 31
   ·rw [decide_eq_true h,decide_eq_false (by omega)];rfl
   ·rw [decide_eq_false h,decide_eq_true (by omega)];rfl
  rw [ee] at kk
  exact kk
theorem yA {κ:Type} [DecidableEq κ] {es:List Ben}{f:Ben->κ}{g:Ben->V}{k:κ}:iw (es.map fun e=>(f e,g e)) k=(es.filter fun e=>decide (f e≠k)).map fun e=>(f e,g e):=by
 unfold iw
 rw [List.filter_map];rfl
theorem rl (es:List Ben) (n:Int):iw (cE es) (.inl n)=cE (es.filter fun e=>decide (e.num≠n)):=by
 rw [gM,gM,yA]
 congr 1
 refine List.filter_congr fun e _=>?_
 rw [decide_eq_decide]
 exact ⟨fun h z=>h (by rw [z]),fun h z=>h (Sum.inl.inj z)⟩
inductive fY (K:PySem.W.Frag) (vs:List V) (H:Hp) (Q:VK) (E:XK):Prop
 | mk (st nw sk lg q t:Addr) (es:List Ben) (lk:Lk) (l0 day n:Int) (m:Nat) (gs:List Lge) (key:List Key) (y:V) (str:Bool) (q0:vs=[.ref st,.ref q,.int n]) (q1:StA H st nw sk lg es lk l0 m gs) (q2:m < 900) (q3:es.length < 900) (q4:H q=some (.tup [.str (if str then ("strike":Str) else ("put":Str)),.int day,.ref t,y])) (q5:H t=some (.tup (key.map kV))) (q6:fF key) (q7:((str=true/\∃ e∈es,e.num=n/\e.key=key/\∀ H',(∀ c o,c≠nw->c≠sk->c≠lg->H c=some o->H' c=some o)->StA H' st nw sk lg (es.filter fun x=>decide (x.num≠n)) (fun i=>if i=n then some (day,key) else lk i) day (m + 1) (gs++[⟨day,true,t,n,key⟩])->Q .non H') ∨ (str=false/\n ∉ es.map (·.num)/\∀ H',(∀ c o,c≠nw->c≠sk->c≠lg->H c=some o->H' c=some o)->StA H' st nw sk lg (es++[⟨n,key,t⟩]) lk day (m + 1) (gs++[⟨day,false,t,n,key⟩])->Q .non H'))):fY K vs H Q E
theorem cB:aA ["_law_state","_law_deed","_law_number","_law_now","_law_struck","_law_log","_law_sort","_law_day","_law_entry","_law_told_one"] ["_law_state","_law_deed","_law_number"] (af eK):=⟨rfl,rfl,rfl,by decide +kernel,rfl,by decide +kernel,by decide +kernel⟩
theorem qZ {f:Addr}{fd:FuncData} (F:Fun K "_law_kept" "_law_kept" eK f fd) (T:Bl mg) (AF:AdF K mg Ad) :aX P w K mg base (CX1 P w) 1 f fd ["_law_state","_law_deed","_law_number"] (fY K):=by
 refine F.okX (k:=0) cB (fun vs H Q E h=>?_) (fun cdv A outer s H vs Q E hr h=>?_)
 ·obtain ⟨st,nw,sk,lg,q,t,es,lk,l0,day,n,m,gs,key,y,str,rfl,_⟩:=h
  rfl
 ·obtain ⟨st,nw,sk,lg,q,t,es,lk,l0,day,n,m,gs,key,y,str,rfl,A0,m9,e9,hq,ht,eo,ks⟩:=h
  obtain ⟨kvs,hsk,S,lsk⟩:=A0.k
  obtain ⟨ls,hlg,lls,hlast,hgs⟩:=A0.g
  have hu:=hr.aO
  have hu1:=aZ hr
  refine ⟨_,aa (kc (pvL 0) (iO (K:=K) (n:=3) rfl rfl (aM (ax (i:=3) cB.nd) (aM (ax (i:=4) cB.nd) (aM (ax (i:=5) cB.nd) (eR)))))) (aa (kc (pvL 1) (iO (K:=K) (n:=4) rfl rfl (aM (ax (i:=6) cB.nd) (aM (ax (i:=7) cB.nd) (aM (ax (i:=8) cB.nd) (aM (ax (i:=9) cB.nd) (eR))))))) (aa (aW (aK (cS (K:=K) rfl hu) (pvL 6) (aF) (aL _)) (aa (cC (gh (K:=K) rfl PySem.F.plainAttrs_dict PySem.F.slot_dict_pop PySem.F.type_dict_pop ph (pvL 3) (ag (pvL 2) (ae)))) (ah (fI hu1 (pvL 4) (pvL 2) (bB (ag (pvL 7) (ag (pvL 8) (ae))))))) (ah (fI hu1 (pvL 3) (pvL 2) (pvL 8)))) (ah (cC (gh (K:=K) rfl PySem.F.plainAttrs_list PySem.F.slot_list_append PySem.F.type_list_append fB (pvL 5) (ag (bB (ag (pvL 7) (ag (pvL 6) (ag (pvL 8) (ag (pvL 2) (ae)))))) (ae))))))),?_⟩
  have big:∀ {u:Nat},u<=1000->u<=sizeLine:=fun hu=>Nat.le_of_lt (ao (by omega))
  refine ar fun nn hN=>?_
  and_intros
  refine ⟨_,.l A0.s,rfl,?_⟩
  and_intros
  rw [hN]
  clear hN nn
  refine ar fun nn hN=>?_
  and_intros
  refine ⟨_,.inr (.of hq),rfl,?_⟩
  and_intros
  rw [hN]
  clear hN nn
  have nws:nw≠lg:=aC A0.n hlg (by intro z;cases z)
  have nks:sk≠lg:=aC hsk hlg (by intro z;cases z)
  refine ar fun nn hN=>?_
  rcases ks with ⟨rfl,e,he,en,ek,k⟩ | ⟨rfl,hn,k⟩
  ·and_intros
   rw [if_pos (by decide)]
   refine ar fun n2 hM=>?_
   and_intros
   subst en ek
   refine ⟨.inr (.inr (.inl ⟨rfl,.inl ⟨_,A0.n⟩⟩)),?_⟩
   and_intros
   refine ⟨_,.inl e.num,_,A0.n,rfl,gN A0.nn he,?_⟩
   rw [rl]
   have k1:∀ c o,c≠nw->H c=some o->upd H nw (.dK (cE (es.filter fun x=>decide (x.num≠e.num)))) c=some o:=fun c o hc z=>by rw [aj hc];exact z
   have g1:upd H nw (.dK (cE (es.filter fun x=>decide (x.num≠e.num)))) nw=some (.dK (cE (es.filter fun x=>decide (x.num≠e.num)))):=aq
   generalize upd H nw (.dK (cE (es.filter fun x=>decide (x.num≠e.num))))=G1 at k1 g1
   rw [hM]
   clear hM n2
   and_intros
   have hsk1:=k1 _ _ A0.ne.symm hsk
   have hlg1:=k1 _ _ nws.symm hlg
   have tup1:∀ c xs,H c=some (.tup xs)->G1 c=some (.tup xs):=fun c xs z=>k1 _ _ (aC z A0.n (by intro z;cases z)) z
   refine ⟨big (by decide),fun p G2 hp t2 g2=>⟨sk,_,rfl,.inl ⟨_,.inl e.num,t2 _ _ hsk1,rfl,ao (by omega),rfl⟩,?_⟩⟩
   have k3:∀ c o,c≠sk->G2 c=some o->upd G2 sk (.dK (putK kvs (.inl e.num) (V.ref p))) c=some o:=fun c o hc z=>by rw [aj hc];exact z
   have g3:upd G2 sk (.dK (putK kvs (.inl e.num) (V.ref p))) sk=some (.dK (putK kvs (.inl e.num) (V.ref p))):=aq
   generalize upd G2 sk (.dK (putK kvs (.inl e.num) (V.ref p)))=G3 at k3 g3
   have hlg3:=k3 _ _ nks.symm (t2 _ _ hlg1)
   have tup3:∀ c xs,G2 c=some (.tup xs)->G3 c=some (.tup xs):=fun c xs z=>k3 _ _ (aC z (t2 _ _ hsk1) (by intro z;cases z)) z
   have g31:=k3 _ _ A0.ne (t2 _ _ g1)
   rw [hN]
   clear hN nn
   and_intros
   refine ⟨.inl ⟨rfl,_,.of hlg3⟩,big (by decide),fun p4 G4 hp4 t4 g4=>⟨lg,ls,_,rfl,rfl,t4 _ _ hlg3,ao (by omega),?_⟩⟩
   have k5:∀ c o,c≠lg->G4 c=some o->upd G4 lg (.lst (ls++[V.ref p4])) c=some o:=fun c o hc z=>by rw [aj hc];exact z
   have g5:upd G4 lg (.lst (ls++[V.ref p4])) lg=some (.lst (ls++[V.ref p4])):=aq
   generalize upd G4 lg (.lst (ls++[V.ref p4]))=G5 at k5 g5
   have tup5:∀ c xs,G4 c=some (.tup xs)->G5 c=some (.tup xs):=fun c xs z=>k5 _ _ (aC z (t4 _ _ hlg3) (by intro z;cases z)) z
   have tup:∀ c xs,H c=some (.tup xs)->G5 c=some (.tup xs):=fun c xs z=>tup5 _ _ (t4 _ _ (tup3 _ _ (t2 _ _ (tup1 _ _ z))))
   have hst:G5 st=some (.lst [.ref nw,.ref sk,.ref lg]):=by
    have nsn:st≠nw:=aC A0.s A0.n (by intro z;cases z)
    have nsk:st≠sk:=aC A0.s hsk (by intro z;cases z)
    exact k5 _ _ A0.sl (t4 _ _ (k3 _ _ nsk (t2 _ _ (k1 _ _ nsn A0.s))))
   refine k G5 (fun c o c1 c2 c3 z=>k5 c o c3 (t4 _ _ (k3 c o c2 (t2 _ _ (k1 c o c1 z))))) ⟨hst,k5 _ _ nws (t4 _ _ g31),⟨_,k5 _ _ nks (t4 _ _ g3),fun i=>?_,?_⟩,⟨_,g5,?_,.inr ⟨p4,_,_,_,?_,tup5 _ _ g4⟩,?_⟩,fun x hx=>?_,?_,A0.ne,A0.sl⟩
   ·rw [nh]
    dsimp only
    by_cases hi:i=e.num
    ·rw [if_pos (by rw [hi]),if_pos hi]
     exact .inr ⟨p,t,day,e.key,rfl,tup5 _ _ (t4 _ _ (tup3 _ _ g2)),tup _ _ ht,eo,rfl⟩
    ·rw [if_neg (fun z=>hi (Sum.inl.inj z)),if_neg hi]
     exact S.past tup i
   ·have:=eV kvs (Sum.inl e.num) (V.ref p)
    omega
   ·rw [List.length_append];show ls.length + 1<=_;omega
   ·rw [List.getLast?_append];rfl
   ·exact ix (jv hgs tup) (.cons ⟨p4,rfl,tup5 _ _ g4⟩ .nil)
   ·obtain ⟨hx1,_⟩:=List.mem_filter.mp hx
    exact ⟨tup _ _ (A0.en x hx1).1,(A0.en x hx1).2⟩
   ·exact List.Nodup.sublist (List.Sublist.map _ List.filter_sublist) A0.nn
  ·and_intros
   rw [if_neg (by decide)]
   refine ⟨nw,_,rfl,.inl ⟨_,.inl n,A0.n,rfl,by rw [jx];exact ao (by omega),rfl⟩,?_⟩
   rw [lr (pj hn),show cE es++[((.inl n:Key),V.ref t)]=cE (es++[⟨n,key,t⟩]) from (jX es ⟨n,key,t⟩).symm]
   have k1:∀ c o,c≠nw->H c=some o->upd H nw (.dK (cE (es++[⟨n,key,t⟩]))) c=some o:=fun c o hc z=>by rw [aj hc];exact z
   have g1:upd H nw (.dK (cE (es++[⟨n,key,t⟩]))) nw=some (.dK (cE (es++[⟨n,key,t⟩]))):=aq
   generalize upd H nw (.dK (cE (es++[⟨n,key,t⟩])))=G1 at k1 g1
   have hsk1:=k1 _ _ A0.ne.symm hsk
   have hlg1:=k1 _ _ nws.symm hlg
   have tup1:∀ c xs,H c=some (.tup xs)->G1 c=some (.tup xs):=fun c xs z=>k1 _ _ (aC z A0.n (by intro z;cases z)) z
   rw [hN]
   clear hN nn
   and_intros
   refine ⟨.inl ⟨rfl,_,.of hlg1⟩,big (by decide),fun p4 G4 hp4 t4 g4=>⟨lg,ls,_,rfl,rfl,t4 _ _ hlg1,ao (by omega),?_⟩⟩
   have k5:∀ c o,c≠lg->G4 c=some o->upd G4 lg (.lst (ls++[V.ref p4])) c=some o:=fun c o hc z=>by rw [aj hc];exact z
   have g5:upd G4 lg (.lst (ls++[V.ref p4])) lg=some (.lst (ls++[V.ref p4])):=aq
   generalize upd G4 lg (.lst (ls++[V.ref p4]))=G5 at k5 g5
   have tup5:∀ c xs,G4 c=some (.tup xs)->G5 c=some (.tup xs):=fun c xs z=>k5 _ _ (aC z (t4 _ _ hlg1) (by intro z;cases z)) z
   have tup:∀ c xs,H c=some (.tup xs)->G5 c=some (.tup xs):=fun c xs z=>tup5 _ _ (t4 _ _ (tup1 _ _ z))
   have hst:G5 st=some (.lst [.ref nw,.ref sk,.ref lg]):=k5 _ _ A0.sl (t4 _ _ (k1 _ _ (aC A0.s A0.n (by intro z;cases z)) A0.s))
   refine k G5 (fun c o c1 c2 c3 z=>k5 c o c3 (t4 _ _ (k1 c o c1 z))) ⟨hst,k5 _ _ nws (t4 _ _ g1),⟨_,k5 _ _ nks (t4 _ _ hsk1),S.past tup,by omega⟩,⟨_,g5,?_,.inr ⟨p4,_,_,_,?_,tup5 _ _ g4⟩,?_⟩,fun x hx=>?_,?_,A0.ne,A0.sl⟩
   ·rw [List.length_append];show ls.length + 1<=_;omega
   ·rw [List.getLast?_append];rfl
   ·exact ix (jv hgs tup) (.cons ⟨p4,rfl,tup5 _ _ g4⟩ .nil)
   ·rcases List.mem_append.mp hx with hx | hx
    ·exact ⟨tup _ _ (A0.en x hx).1,(A0.en x hx).2⟩
    ·rw [List.mem_singleton.mp hx]
     exact ⟨tup _ _ ht,eo⟩
   ·rw [List.map_append];exact gK A0.nn hn
theorem fO.last {gs:List Lge}{l:Lge} (h:fO (gs++[l])):(l.str=true->l.num∈(dF gs).map (·.num))/\(l.str=false->l.num ∉ (dF gs).map (·.num)/\l.key ∉ (dF gs).map (·.key)):=by
 generalize hx:gs++[l]=xs at h
 cases h with
 | nil=>simp at hx
 | snoc h hs hp =>
  obtain ⟨e1,e2⟩:=List.append_inj' hx rfl
  cases e2
  subst e1
  exact ⟨hs,hp⟩
inductive dX (K:PySem.W.Frag) (vs:List V) (H:Hp) (Q:VK) (E:XK):Prop
 | mk (st nw sk lg:Addr) (es:List Ben) (lk:Lk) (l0 day:Int) (m j:Nat) (gs:List Lge) (q0:vs=[.ref st,.int day]) (q1:StA H st nw sk lg es lk l0 m gs) (q2:m < 64) (q3:fO gs) (q4:(∀ (i:Nat) l,gs[i]?=some l->(l.day<=day ↔ i < j))) (q5:∀ D ws (ms:List Ben) H',ak H H'->H' D=some (.lst ws)->ms.Perm (dF (gs.take j))->(ms.map (·.num)).Pairwise (· < ·)->Paired (fun v (m:Ben)=>∃ p,v=V.ref p/\H' p=some (.tup [.int m.num,.ref m.adr])) ws ms->Q (.ref D) H'):dX K vs H Q E
theorem cu:aA ["_law_state","_law_day","_law_found","_law_when","_law_sort","_law_entry","_law_number"] ["_law_state","_law_day"] (af cP):=⟨rfl,rfl,rfl,by decide +kernel,rfl,by decide +kernel,by decide +kernel⟩
theorem mM {f:Addr}{fd:FuncData} (F:Fun K "_law_edition" "_law_edition" cP f fd) (T:Bl mg) (AF:AdF K mg Ad) :aX P w K mg base (CX1 P w) 1 f fd ["_law_state","_law_day"] (dX K):=by
 refine F.okX (k:=0) cu (fun vs H Q E h=>?_) (fun cdv A outer s H vs Q E hr h=>?_)
 ·obtain ⟨st,nw,sk,lg,es,lk,l0,day,m,j,gs,rfl,_⟩:=h
  rfl
 ·obtain ⟨st,nw,sk,lg,es,lk,l0,day,m,j,gs,rfl,A0,m64,ok,hj,k⟩:=h
  obtain ⟨ls,hlg,lls,hlast,hgs⟩:=A0.g
  have hu:=hr.aO
  have hu1:=aZ hr
  refine ⟨_,aa (jD (i:=2) cu.nd (gz)) (aa (gR PassesOwn.leaving rfl (cU (K:=K) rfl (bz (cV (K:=K) rfl) (pvL 0) (ai) (fun _ _=>rfl))) (lq (K:=K) (n:=4) rfl rfl (aM (ax (i:=3) cu.nd) (aM (ax (i:=4) cu.nd) (aM (ax (i:=5) cu.nd) (aM (ax (i:=6) cu.nd) (eR)))))) (ah (aW (aK fG (pvL 3) (pvL 1) (aL _)) (ah (aW (aK (cS (K:=K) rfl hu) (pvL 4) (aF) (aL _)) (ah (cC (gh (K:=K) rfl PySem.F.plainAttrs_dict PySem.F.slot_dict_pop PySem.F.type_dict_pop ph (pvC 2) (ag (pvL 6) (ae))))) (ah (fI hu1 (pvC 2) (pvL 6) (pvL 5))))) (aJ)))) (ah (aG (kI ["_law_number"] rfl ⟨rfl,by decide +kernel,rfl,by decide +kernel⟩ (.cons (j:=2) rfl (.inl (by kernel_rfl)) (.nil)) (by decide +kernel) (cU (K:=K) rfl (av (lC rfl) T.sorted nM (ag (pvC 2) (ae)))) (fun _ _ _ _=>ax (i:=0) (show (["_law_number","_law_found"]:List Str).Nodup from by decide +kernel)) (fun _ _ _ _=>eS) (fun _ _ _ _=>bB (ag (pvL 0) (ag (j7 hu1 (pvC 1) (pvL 0)) (ae)))))))),?_⟩
  have big:∀ {u:Nat},u<=1000->u<=sizeLine:=fun hu=>Nat.le_of_lt (ao (by omega))
  have lgs:ls.length=gs.length:=Paired.length hgs
  refine ar fun nn hN=>?_
  and_intros
  intro F G1 hF t1 g1
  rw [hN]
  clear hN nn
  refine ar fun nn hN=>?_
  and_intros
  refine ⟨_,.ref lg,.l (t1 _ _ A0.s),bX (j:=2) rfl,?_⟩
  and_intros
  have nF:∀ {c:Addr}{o:HO},H c=some o->c≠F:=fun e z=>by rw [z,hF] at e;cases e
  have hlen:∀ i,(dF (gs.take i)).length<=i:=fun i=>by
   induction i with
   | zero=>rw [List.take_zero];exact Nat.le_refl _
   | succ i ih =>
    by_cases hi:i < gs.length
    ·rw [List.take_add_one,List.getElem?_eq_getElem hi]
     show (dF (gs.take i++[gs[i]])).length<=_
     rw [gA]
     unfold df
     split
     ·exact Nat.le_trans (List.length_filter_le _ _) (by omega)
     ·rw [List.length_append];show (dF (gs.take i)).length + 1<=_;omega
    ·rw [List.take_of_length_le (by omega)] at ih ⊢;omega
  refine .inl ⟨⟨_,.of (t1 _ _ hlg)⟩,gw (xs:=ls) (fun i σ G=>(∃ o3 o4 o5 o6,σ=[some (V.ref st),some (V.int day),some (V.ref F),o3,o4,o5,o6])/\(∀ c o,c≠F->G1 c=some o->G c=some o)/\G F=some (.dK (cE (dF (gs.take (min i j)))))) ⟨⟨_,_,_,_,rfl⟩,fun _ _ _ e=>e,by rw [Nat.zero_min,List.take_zero];exact g1⟩ (fun i σ G _ ⟨_,kp,_⟩=>.of (kp _ _ (nF hlg) (t1 _ _ hlg))) ?_ ?_⟩
  ·rintro i v σ G hi ⟨⟨o3,o4,o5,o6,rfl⟩,kp,gF⟩ N hNx
   clear hN
   obtain ⟨l,hl,p,rfl,hp⟩:=cZ hgs hi
   have hil:i < gs.length:=(List.getElem?_eq_some_iff.mp hl).1
   have hpG:=kp _ _ (nF hp) (t1 _ _ hp)
   refine ⟨p,_,rfl,.of hpG,rfl,?_⟩
   and_intros
   by_cases hd:l.day<=day
   ·have ij:=(hj i l hl).mp hd
    have et:gs.take (i + 1)=gs.take i++[l]:=by rw [List.take_add_one,hl];rfl
    rw [Nat.min_eq_left (by omega)] at gF
    have ro:=(ok.take (i + 1))
    rw [et] at ro
    have rn:=(ok.take i).nn
    have hl64:=hlen i
    have nx:∀ G' o4,(∀ c o,c≠F->G1 c=some o->G' c=some o)->G' F=some (.dK (cE (df (dF (gs.take i)) l)))->N [some (V.ref st),some (V.int day),some (V.ref F),some (V.int l.day),o4,some (V.ref l.adr),some (V.int l.num)] G':=fun G' o4 kp' gF'=>hNx _ _ ⟨⟨_,_,_,_,rfl⟩,kp',by rw [Nat.min_eq_left (by omega),et,gA];exact gF'⟩
    rw [decide_eq_true hd,if_pos rfl]
    cases hs:l.str with
    | true =>
     rw [if_pos (by decide)]
     obtain ⟨e,he,ee⟩:=List.mem_map.mp (ro.last.1 hs)
     refine ⟨.inr (.inr (.inl ⟨rfl,.inl ⟨_,gF⟩⟩)),_,.inl l.num,_,gF,rfl,by rw [← ee];exact gN rn.1 he,nx _ _ (fun c o hc z=>by rw [aj hc];exact kp c o hc z) ?_⟩
     rw [aq,rl]
     unfold df
     rw [if_pos hs]
    | false =>
     rw [if_neg (by decide)]
     refine ⟨F,_,rfl,.inl ⟨_,.inl l.num,gF,rfl,by rw [jx];exact ao (by omega),rfl⟩,nx _ _ (fun c o hc z=>by rw [aj hc];exact kp c o hc z) ?_⟩
     rw [aq,lr (pj (ro.last.2 hs).1),show cE (dF (gs.take i))++[((.inl l.num:Key),V.ref l.adr)]=cE (dF (gs.take i)++[⟨l.num,l.key,l.adr⟩]) from (jX _ ⟨l.num,l.key,l.adr⟩).symm]
     unfold df
     rw [if_neg (by rw [hs];decide)]
   ·have ij:¬ i < j:=fun z=>hd ((hj i l hl).mpr z)
    rw [decide_eq_false hd,if_neg (by decide)]
    refine hNx _ _ ⟨⟨_,_,_,_,rfl⟩,kp,?_⟩
    rw [Nat.min_eq_right (by omega)] at gF ⊢
    exact gF
  rintro σ G ⟨⟨o3,o4,o5,o6,rfl⟩,kp,gF⟩
  show nn _ _ _
  rw [hN]
  clear hN nn
  and_intros
  have ej:min ls.length j=min gs.length j:=by rw [lgs]
  have er:dF (gs.take (min gs.length j))=dF (gs.take j):=by
   by_cases h:j<=gs.length
   ·rw [Nat.min_eq_right h]
   ·rw [Nat.min_eq_left (by omega),List.take_of_length_le (Nat.le_refl _),List.take_of_length_le (by omega)]
  rw [ej,er] at gF
  have rn:=(ok.take j).nn
  have l64:(dF (gs.take j)).length < 64:=by
   have h1:=hlen (min gs.length j)
   rw [er] at h1
   omega
  have tG:ak H G:=fun c o e=>kp c o (nF e) (t1 _ _ e)
  generalize dF (gs.take j)=rs at gF rn l64 k
  rw [vE]
  refine ⟨rs.map fun e:Ben=>(e.num,V.ref e.adr),.inl gF,by rw [List.length_map];exact l64,fun ns hp hs p G2 z2 t2 g2=>?_⟩
  and_intros
  obtain ⟨ms,mp,mn,ml⟩:=xn hp hs rn.1
  have nl:(ns.map V.int).length < sizeLine:=ao (by rw [List.length_map,hp.length_eq,List.length_map,List.length_map];omega)
  refine .inl ⟨⟨_,.of g2⟩,pe (iB (.of g2)) nl (ms.map fun m=>[V.int m.num,V.ref m.adr]) (by rw [List.length_map,List.length_map,← mn,List.length_map]) ?_ ?_⟩
  ·intro i x ts hx hts G3 t3 R hR
   rw [List.getElem?_map] at hx hts
   obtain ⟨m',hm,rfl⟩:=Option.map_eq_some_iff.mp hts
   have:ns[i]?=some m'.num:=by rw [← mn,List.getElem?_map,hm];rfl
   rw [this] at hx
   cases hx
   and_intros
   exact ⟨F,_,rfl,.inl ⟨_,.inl m'.num,.inl ((t2.trans t3) _ _ gF),rfl,(gN rn.1 (mp.mem_iff.mp (List.mem_of_getElem? hm))).symm⟩,big (by decide),fun p2 G4 z4 t4 g4=>hR p2 G4 z4 t4 g4⟩
  ·intro D ws G3 hD t3 g3 hT
   exact k D ws ms G3 (tG.trans (t2.trans t3)) g3 mp ml (iy hT)
def iC:Sp:=fun vs H Q _=>∃ (p:Addr) (ws:List Int) (m:Int),vs=[.ref p,.int m]/\H p=some (.lst (ws.map V.int))/\ws.length<=1000/\∀ H',ak H H'->Q (.bl (Mk.safe m ws)) H'
theorem kM:aA ["weights","m","differences"] ["weights","m"] (af eD):=⟨rfl,rfl,rfl,by decide +kernel,rfl,by decide +kernel,by decide +kernel⟩
theorem qU {f:Addr}{fd:FuncData} (F:Fun K "are_safe" "are_safe" eD f fd) (T:Bl mg) (AF:AdF K mg Ad) (C_common_divisor:Fnc P w K mg base (CX1 P w) 1 "common_divisor" ["one","other"] dS):aX P w K mg base (CX1 P w) 2 f fd ["weights","m"] iC:=by
 refine F.okX (k:=1) kM (fun vs H Q E h=>?_) (fun cdv A outer s H vs Q E hr h=>?_)
 ·obtain ⟨p,ws,m,rfl,_⟩:=h
  rfl
 ·obtain ⟨p,ws,m,rfl,hp,hl,k⟩:=h
  have hu:=hr.aO
  have hu1:=aZ hr
  refine ⟨_,aa (jE (i:=2) ["ahead","behind"] kM.nd rfl (Or.inl rfl) rfl ⟨rfl,by decide +kernel,rfl,by decide +kernel⟩ (.nil) (by decide +kernel) (A2 (K:=K) rfl T.zip (ag (pvL 0) (ag (jA (uT (K:=K) rfl) (pvL 0) (jC (ai)) (pL)) (ae)))) (fun _ _ _ _=>lq (K:=K) (n:=2) rfl rfl (aM (ax (i:=0) (show (["ahead","behind"]:List Str).Nodup from by decide +kernel)) (aM (ax (i:=1) (show (["ahead","behind"]:List Str).Nodup from by decide +kernel)) (eR)))) (fun _ _ _ _=>eS) (fun _ _ _ _=>aD j6 (pvL 1) (pvL 0))) (ah (aG (av (gv (K:=K) rfl rfl) T.all lA (ag (kI ["number"] rfl ⟨rfl,by decide +kernel,rfl,by decide +kernel⟩ (.cons (j:=1) rfl (.inl (by kernel_rfl)) (.nil)) (by decide +kernel) (cU (K:=K) rfl (aD aN (pvL 0) (pvL 2))) (fun _ _ _ _=>ax (i:=0) (show (["number","m"]:List Str).Nodup from by decide +kernel)) (fun _ _ _ _=>eS) (fun _ _ _ _=>cj (cS (K:=K) rfl hu) (aH C_common_divisor jg (hr.mono (by decide)) (ag (pvL 0) (ag (pvC 1) (ae)))) (ai) (aL _))) (ae))))),?_⟩
  ac_nf
  refine ⟨_,.of hp,fun q H1 hq s1 h1=>?_⟩
  have hp1:H1 p=some (.lst (ws.map V.int)):=s1 _ _ hp
  have ec:kO (ws.map V.int) (some 1) none=(ws.drop 1).map V.int:=by rw [show (1:Int)=((1:Nat):Int) from rfl,jR,List.map_drop]
  rw [ec] at h1
  refine ⟨⟨_,.of hp1⟩,⟨_,.of h1⟩,Ea V.int V.int iL iL (.of hp1) (.of h1) (ao (by omega)) (fun a b=>.int (b - a)) ?_ ?_⟩
  ·intro a b hab H' s' R hR
   ac_nf
   exact hR H' (ak.refl _)
  ·intro D H2 hD s2 h2
   have e2:H2 D=some (.lst ((Mk.dif ws).map V.int)):=by rw [h2];unfold Mk.dif;rw [List.map_map];rfl
   have hp2:H2 p=some (.lst (ws.map V.int)):=s2 _ _ hp1
   have ldif:(Mk.dif ws).length<=1000:=by unfold Mk.dif;rw [List.length_map,List.length_zip];omega
   ac_nf
   refine ⟨_,_,hp2,e2,?_,fun r H3 hr s3 h3=>.inl ⟨⟨_,.of h3⟩,?_⟩⟩
   ·rw [List.length_map,List.length_map];exact Nat.le_of_lt (ao (by omega))
   ·rw [← List.map_append] at h3
    refine vS (xs:=ws++Mk.dif ws) V.int iL (iB (.of h3)) (by rw [List.length_append];exact ao (by omega)) (fun n=>.bl (Mk.cop m n)) ?_ ?_
    ·intro n hn H' s' R hR
     ac_nf
     refine ⟨n,m,rfl,?_⟩
     have e:decide (((Int.gcd n m:Nat):Int)=1)=Mk.cop m n:=by
      unfold Mk.cop
      by_cases h:Int.gcd n m=1
      ·rw [decide_eq_true h];exact decide_eq_true (by omega)
      ·rw [decide_eq_false h];exact decide_eq_false (by omega)
     show R (V.bl (decide (((Int.gcd n m:Nat):Int)=1))) H'
     rw [e]
     exact hR H' (ak.refl _)
    ·intro D' H4 hD' s4 h4
     refine ⟨D',(ws++Mk.dif ws).map (Mk.cop m),rfl,.of (by rw [h4,List.map_map];rfl),?_⟩
     have ea:(((ws++Mk.dif ws).map (Mk.cop m)).all id)=Mk.safe m ws:=by unfold Mk.safe;rw [List.all_map];rfl
     rw [ea]
     exact k H4 (s1.trans (s2.trans (s3.trans s4)))
def bt (b:Int):V->Bool
 | .int i=>decide (0<=i) && decide (i < b)
 | _=>false
def dE:Sp:=fun vs H Q _=>∃ (x:V) (t:Tg) (b:Int),vs=[x,.int b]/\eO H x=some t/\Q (.bl (bt b x)) H
theorem rE:aA ["thing","bound"] ["thing","bound"] (af eE):=⟨rfl,rfl,rfl,by decide +kernel,rfl,by decide +kernel,by decide +kernel⟩
theorem qV {f:Addr}{fd:FuncData} (F:Fun K "is_below" "is_below" eE f fd) (T:Bl mg) (AF:AdF K mg Ad) (C_is_whole:Fnc P w K mg base (CX1 P w) 1 "is_whole" ["thing"] iD):aX P w K mg base (CX1 P w) 2 f fd ["thing","bound"] dE:=by
 refine F.okX (k:=1) rE (fun vs H Q E h=>?_) (fun cdv A outer s H vs Q E hr h=>?_)
 ·obtain ⟨x,t,b,rfl,_⟩:=h
  rfl
 ·obtain ⟨x,t,b,rfl,ht,k⟩:=h
  have hu:=hr.aO
  have hu1:=aZ hr
  refine ⟨_,ah (aG (iz (aH C_is_whole au (hr.mono (by decide)) (ag (pvL 0) (ae))) (gP (yD fG kb (ai) (pvL 0) (pvL 1))))),?_⟩
  by_cases hs:∃ i,x=.int i
  ·obtain ⟨i,rfl⟩:=hs
   cases ht
   ac_nf
   refine ⟨_,Tg.int,rfl,rfl,?_⟩
   ac_nf
   have ek:bt b (.int i)=(decide (0<=i) && decide (i < b)):=rfl
   rw [ek] at k
   rw [if_pos (by simp)]
   cases h0:decide (0<=i) with
   | false=>rw [h0,Bool.false_and] at k;bv_omega;exact k
   | true=>rw [h0,Bool.true_and] at k;bv_omega;exact k
  ·have hv:bt b x=false:=by
    cases x with
    | int i=>exact absurd ⟨i,rfl⟩ hs
    | _=>rfl
   have hne:t≠Tg.int:=fun e=>by
    subst e
    cases x with
    | int i=>exact hs ⟨i,rfl⟩
    | ref a =>
     have h':hZ (H a)=some .int:=ht
     cases e:H a with
     | none=>rw [e] at h';cases h'
     | some o=>rw [e] at h';cases o with
      | frz ob u=>cases u <;> cases h'
      | _=>cases h'
    | _=>cases ht
   rw [hv] at k
   ac_nf
   refine ⟨x,t,rfl,ht,?_⟩
   ac_nf
   rw [decide_eq_false hne]
   bv_omega
   exact k
def gS:Sp:=fun vs H Q _=>∃ (x:V) (t:Tg) (n:Nat),vs=[x,.int n]/\eO H x=some t/\(∀ z,x=.str z->z.length<=10000)/\n<=1000/\∀ H',ak H H'->Q (.bl (fP n x)) H'
theorem jI:aA ["thing","most","words"] ["thing","most"] (af d8):=⟨rfl,rfl,rfl,by decide +kernel,rfl,by decide +kernel,by decide +kernel⟩
theorem p0 {f:Addr}{fd:FuncData} (F:Fun K "are_words" "are_words" d8 f fd) (T:Bl mg) (AF:AdF K mg Ad) (C_are_letters:Fnc P w K mg base (CX1 P w) 1 "are_letters" ["thing","most"] dR):aX P w K mg base (CX1 P w) 2 f fd ["thing","most"] gS:=by
 refine F.okX (k:=1) jI (fun vs H Q E h=>?_) (fun cdv A outer s H vs Q E hr h=>?_)
 ·obtain ⟨x,t,n,rfl,_⟩:=h
  rfl
 ·obtain ⟨x,t,n,rfl,ht,hz,hn,k⟩:=h
  have hu:=hr.aO
  have hu1:=aZ hr
  refine ⟨_,aa (aW (cc (bN (av (cm .str) T.isinstance bt_isinstance (ag (pvL 0) (ag (fj T.str lB) (ae)))))) (ah (aG (fS))) (aJ)) (aa (az (i:=2) jI.nd (gh (K:=K) rfl PySem.F.plainAttrs_str PySem.F.slot_str_split PySem.F.type_str_split yy (pvL 0) (ag (aF) (ae)))) (ah (aG (iz (cj fG (av (bE (K:=K) rfl) T.len di (ag (pvL 2) (ae))) (pvL 1) (aL _)) (gP (av (gv (K:=K) rfl rfl) T.all lA (ag (kI ["word"] rfl ⟨rfl,by decide +kernel,rfl,by decide +kernel⟩ (.nil) (by decide +kernel) (cU (K:=K) rfl (pvL 2)) (fun _ _ _ _=>ax (i:=0) (show (["word"]:List Str).Nodup from by decide +kernel)) (fun _ _ _ _=>eS) (fun _ _ _ _=>aH C_are_letters jg (hr.mono (by decide)) (ag (pvL 0) (ag (eY AF.v_LONGEST_WORD) (ae))))) (ae)))))))),?_⟩
  by_cases hs:∃ z,x=.str z
  ·obtain ⟨z,rfl⟩:=hs
   cases ht
   have hl:=hz z rfl
   have hc:=eQ z
   have ek:fP n (.str z)=iX n z.cps.toList:=rfl
   ac_nf
   refine ⟨trivial,Tg.str,rfl,?_⟩
   ac_nf
   obtain ⟨sl1,sl2⟩:=Mk.mY (c:=32) z.cps.toList
   refine ⟨rfl,by omega,32,rfl,fun p H1 hp s1 h1=>⟨_,.l h1,?_⟩⟩
   rw [List.length_map]
   by_cases h2:(Mk.bh 32 z.cps.toList).length<=n
   ·rw [decide_eq_true (show ((Mk.bh 32 z.cps.toList).length:Int)<=(n:Int) by omega)]
    bv_omega
    refine .inl ⟨⟨_,.of h1⟩,vS (fun w:List Nat=>V.str (tx w)) (fun a b e=>tJ (V.str.inj e)) (iB (.of h1)) (ao (by omega)) (fun w=>.bl (dh 20 w)) ?_ ?_⟩
    ·intro w hw H2 s2 R hR
     have hwl:=sl2 w hw
     ac_nf
     refine ⟨_,Tg.str,20,rfl,rfl,(fun y e=>by cases e;rw [dw];omega),by decide,fun H3 s3=>?_⟩
     have e:eP 20 (.str (tx w))=dh 20 w:=by show dh 20 (tx w).cps.toList=_;rw [kj]
     rw [e]
     exact hR H3 s3
    ·intro D H2 hD s2 h2'
     refine ⟨D,(Mk.bh 32 z.cps.toList).map (dh 20),rfl,.of (by rw [h2',List.map_map];rfl),?_⟩
     have e:((Mk.bh 32 z.cps.toList).map (dh 20)).all id=fP n (.str z):=by
      rw [ek]
      unfold iX
      rw [decide_eq_true h2,List.all_map];rfl
     rw [e]
     exact k H2 (s1.trans s2)
   ·have e:fP n (.str z)=false:=by rw [ek];unfold iX;rw [decide_eq_false h2];rfl
    rw [e] at k
    rw [decide_eq_false (show ¬ ((Mk.bh 32 z.cps.toList).length:Int)<=(n:Int) by omega)]
    bv_omega
    exact k H1 s1
  ·have hv:fP n x=false:=by
    cases x with
    | str z=>exact absurd ⟨z,rfl⟩ hs
    | _=>rfl
   have hne:=lx ht fun z e=>hs ⟨z,e⟩
   rw [hv] at k
   ac_nf
   refine ⟨trivial,t,ht,?_⟩
   cases t <;> first
    | exact absurd rfl hne
    | exact k H (ak.refl _)
inductive cD (Ad:Ads) (spf:Sp) (vs:List V) (H:Hp) (Q:VK) (E:XK):Prop
 | mk (b ca dn de f:Addr) (es:List Ben) (al:List Nat) (ws:List Int) (r n:Int) (bar:Int->Bool) (q0:vs=[.ref b,.ref f]) (q1:bT Ad H b ca dn de es) (q2:gb Ad H ca al ws r) (q3:ia al ws r) (q4:Bar spf bar H) (q5:ib (es.map (·.num)) bar n) (q6:((n < ck al ws/\∀ H',ak H H'->Q (.int n) H') ∨ (ck al ws<=n/\∀ H',ak H H'->E (.ref Ad.TooMany) none H'))):cD Ad spf vs H Q E
theorem dv:aA ["self","is_barred","k"] ["self","is_barred"] (af bH):=⟨rfl,rfl,rfl,by decide +kernel,rfl,by decide +kernel,by decide +kernel⟩
theorem jd {f:Addr}{fd:FuncData}{k:Nat} (F:Fun K "least_free" "Book.least_free" bH f fd) (T:Bl mg) (AF:AdF K mg Ad) (M_Code_many:Mtd P w K mg base (CX1 P w) Ad.Code "many" 1 ["self"] (fz Ad)):pZ P w K mg base (CX1 P w) (k + 2) f fd ["self","is_barred"] (AM P w K mg base k 1 (cD Ad)):=by
 refine F.okH (j:=k + 1) (k:=k) (n:=1) dv (fun spf vs H Q E h=>?_) (fun cdv A outer s H vs Q E hr lf spf hlf lam step h=>?_)
 ·obtain ⟨b,ca,dn,de,f,es,al,ws,r,n,bar,rfl,_⟩:=h
  rfl
 ·obtain ⟨b,ca,dn,de,f,es,al,ws,r,n,bar,rfl,B,C,ok,Fb,Lf,k⟩:=h
  obtain rfl:f=lf:=by cases hlf;rfl
  have hu:=hr.aO
  have hu1:=aZ hr
  refine ⟨_,aa (az (i:=2) dv.nd (ai)) (aa (mR PassesOwn.leaving ((i5 (aK (ka (K:=K) rfl hu1) (pvL 2) (aY (K:=K) rfl (pvL 0)) (by kernel_rfl)) (gj (bN (kH step rfl (hr.mono (by omega)) (pvL 1) (ag (pvL 2) (ae)))))).pt) (ah (az (i:=2) dv.nd (aD aN (pvL 2) (ai))))) (aa (aW (aK (sP (K:=K) rfl hu) (pvL 2) (dy M_Code_many au (hr.mono (by omega)) (aY (K:=K) rfl (pvL 0))) (aL _)) (ah (cp PySem.F.excBase_ValueError AF.q_TooMany AF.g_TooMany bP rfl (ag (aF) (ae)))) (aJ)) (ah (aG (pvL 2))))),?_⟩
  refine ar fun nn hN=>?_
  and_intros
  rw [hN]
  clear hN nn
  refine ar fun nn hN=>?_
  and_intros
  refine pY (fun σ H'=>∃ k:Int,0<=k/\k<=n/\σ=[some (V.ref b),some (V.ref f),some (V.int k)]/\ak H H') (fun σ _=>match σ with | [_,_,some (V.int k)]=>(n - k).toNat | _=>0) ⟨0,by decide,Lf.pos,rfl,ak.refl _⟩ ?_
  rintro σ G ⟨j,j0,jn,rfl,t⟩
  have B1:=B.same t
  obtain ⟨dx,h1⟩:=B1.bk
  and_intros
  refine ⟨_,dx,_,_,h1,AF.c_Book,AF.n_Book_by_number,eA ca dn de,?_⟩
  refine .inr ⟨_,.inl ⟨_,.inl j,.inl B1.hn,rfl,rfl⟩,?_⟩
  rw [sJ B.nn]
  by_cases hm:j∈es.map (·.num)
  ·rw [decide_eq_true hm,if_pos rfl]
   have jl:j≠n:=fun e=>Lf.out (by rw [← e];exact hm)
   refine ⟨fun σ G'=>σ=[some (V.ref b),some (V.ref f),some (V.int (j + 1))]/\G'=G,?_,rfl,rfl⟩
   rintro σ G' ⟨rfl,rfl⟩
   exact ⟨⟨j + 1,by omega,by omega,rfl,t⟩,show (n - (j + 1)).toNat < (n - j).toNat by omega⟩
  ·rw [decide_eq_false hm,if_neg (by decide)]
   refine ⟨trivial,lam.same t,lam.same t,trivial,Fb.same t j G _ (ak.refl _) fun G1 t1=>⟨_,rfl,?_⟩⟩
   by_cases hb:bar j=true
   ·rw [if_pos hb]
    have jl:j≠n:=fun e=>by rw [e,Lf.fr] at hb;cases hb
    refine ⟨fun σ G'=>σ=[some (V.ref b),some (V.ref f),some (V.int (j + 1))]/\G'=G1,?_,rfl,rfl⟩
    rintro σ G' ⟨rfl,rfl⟩
    exact ⟨⟨j + 1,by omega,by omega,rfl,t.trans t1⟩,show (n - (j + 1)).toNat < (n - j).toNat by omega⟩
   rw [if_neg hb]
   have je:j=n:=by
    rcases Int.lt_or_eq_of_le jn with h | h
    ·rcases Lf.all j j0 h with h | h
     ·exact absurd h hm
     ·exact absurd h hb
    ·exact h
   subst je
   rw [hN]
   clear hN nn
   have C1:=C.same (t.trans t1)
   have B2:=B1.same t1
   obtain ⟨dx2,h12⟩:=B2.bk
   obtain ⟨dc,qc,hc1,hc2⟩:=id C1
   refine ar fun nn hN=>?_
   and_intros
   refine ⟨_,dx2,_,_,h12,AF.c_Book,AF.n_Book_basis,ic ca dn de,?_⟩
   refine ⟨dc,_,hc1,lG (by decide) (by decide) (by decide) al qc r,ca,al,ws,r,rfl,C1,ok.a26,by have:=ok.w3;omega,ok.w8,fun G2 t2=>?_⟩
   and_intros
   have em:(al.length:Int) ^ (ws.length - 1)=ck al ws:=rfl
   rw [em]
   rcases k with ⟨hn,k⟩ | ⟨hn,k⟩
   ·rw [decide_eq_false (show ¬ ck al ws<=j by omega)]
    bv_omega
    show nn _ _ _
    rw [hN]
    clear hN nn
    and_intros
    exact k G2 (t.trans (t1.trans t2))
   ·rw [decide_eq_true hn]
    bv_omega
    exact ⟨Nat.le_of_lt (ao (by decide)),k G2 (t.trans (t1.trans t2))⟩
def fM:Sp:=fun vs H Q _=>∃ c m n:Int,vs=[.int c,.int m,.int n]/\0 < m/\m<=1000/\0<=n/\n<=1000/\∀ p H',H p=none->ak H H'->H' p=some (.lst ((Mk.wts c m n.toNat).map V.int))->Q (.ref p) H'
theorem cw:aA ["_law_cell","_law_m","_law_many_here","_law_found","_law_k","_law_some"] ["_law_cell","_law_m","_law_many_here"] (af cQ):=⟨rfl,rfl,rfl,by decide +kernel,rfl,by decide +kernel,by decide +kernel⟩
theorem mO {f:Addr}{fd:FuncData} (F:Fun K "_law_weights" "_law_weights" cQ f fd) (T:Bl mg) (AF:AdF K mg Ad) (C_law_apart:Fnc P w K mg base (CX1 P w) 1 "_law_apart" ["_law_number","_law_m"] gT):aX P w K mg base (CX1 P w) 2 f fd ["_law_cell","_law_m","_law_many_here"] fM:=by
 refine F.okX (k:=1) cw (fun vs H Q E h=>?_) (fun cdv A outer s H vs Q E hr h=>?_)
 ·obtain ⟨c,m,n,rfl,_⟩:=h
  rfl
 ·obtain ⟨c,m,n,rfl,hm,hm2,hn0,hn,k⟩:=h
  have hu:=hr.aO
  have hu1:=aZ hr
  refine ⟨_,aa (jD (i:=3) cw.nd (bc (ae))) (aa (gR PassesOwn.leaving rfl (gQ T.range (ag (pvL 2) (ae))) (i4 (i:=4) cw.nd) (aa (jE (i:=5) ["_law_w"] cw.nd rfl (Or.inl rfl) rfl ⟨rfl,by decide +kernel,rfl,by decide +kernel⟩ (.cons (j:=1) rfl (.inl (by kernel_rfl)) (.cons (j:=4) rfl (.inl (by kernel_rfl)) (.cons (j:=3) rfl (.inl (by kernel_rfl)) (.nil)))) (by decide +kernel) (gQ T.range (ag (pvC 1) (ae))) (fun _ _ _ _=>ax (i:=0) (show (["_law_w","_law_m","_law_k","_law_found"]:List Str).Nodup from by decide +kernel)) (fun _ _ _ _=>pK ((sV (bN (aH C_law_apart jg (hr.mono (by decide)) (ag (pvL 0) (ag (pvC 1) (ae))))) (pM ((i5 (aK (cS (K:=K) rfl hu) (pvC 2) (ai) (aL _)) (gj (bN (aH C_law_apart jg (hr.mono (by decide)) (ag (aD j6 (pvL 0) (bz (cV (K:=K) rfl) (pvC 3) (aD j6 (pvC 2) (ai)) (fun _ _=>rfl))) (ag (pvC 1) (ae))))))).pt))).pt)) (fun _ _ _ _=>pvL 0)) (aa (aW (aK (cS (K:=K) rfl hu) (pvL 5) (bc (ae)) (aL _)) (ah (az (i:=5) cw.nd (fH (iZ (K:=K) rfl rfl) T.list kX (ag (fH vx T.range xl (ag (pvC 1) (ae))) (ae))))) (aJ)) (aa (cC (gh (K:=K) rfl PySem.F.plainAttrs_list PySem.F.slot_list_append PySem.F.type_list_append fB (pvC 3) (ag (bz (cV (K:=K) rfl) (pvL 5) (aD bG (pvL 0) (av (bE (K:=K) rfl) T.len di (ag (pvL 5) (ae)))) (fun _ _=>rfl)) (ae)))) (ah (az (i:=0) cw.nd (aD cG (pvL 0) (ai)))))))) (ah (aG (pvC 3)))),?_⟩
  ac_nf
  refine ⟨by decide,fun p H0 hp s0 h0=>?_⟩
  ac_nf
  refine ⟨by omega,by omega,?_⟩
  refine zV (n:=n.toNat) (fun i σ H'=>∃ (ci:Int) (fnd:List Int) (o1 o2:Option V),σ=[some (.int ci),some (.int m),some (.int n),some (.ref p),o1,o2]/\fnd.length=i/\ak H H'/\H' p=some (.lst (fnd.map V.int))/\Mk.iV m (n.toNat - i) ci fnd=Mk.wts c m n.toNat) ?_ ?_ ?_
  ·exact ⟨c,[],none,none,rfl,rfl,s0,h0,rfl⟩
  ·rintro i σ H' hi ⟨ci,fnd,o1,o2,rfl,hlen,s1,h1,hgo⟩
   ac_nf
   refine ⟨by omega,by omega,?_⟩
   refine sC (xs:=(Mk.ofN m.toNat).map V.int) (pT _) (by rw [List.length_map,Mk.jy];exact ao (by omega)) (pI fun w=>Mk.cop m w && (fnd.isEmpty || Mk.cop m (w - fnd.getLastD 0))) (fun x=>x) ?_ ?_ ?_
   ·intro x hx H2 s2 R hR
    obtain ⟨w,rfl,hw⟩:=yq hx
    have h2:H2 p=some (.lst (fnd.map V.int)):=s2 _ _ h1
    ac_nf
    refine ⟨w,m,rfl,by omega,?_⟩
    ac_nf
    have e0:pI (fun w=>Mk.cop m w && (fnd.isEmpty || Mk.cop m (w - fnd.getLastD 0))) (.int w)=(Mk.cop m w && (fnd.isEmpty || Mk.cop m (w - fnd.getLastD 0))):=rfl
    rw [e0] at hR
    cases hc:Mk.cop m w with
    | false =>
     rw [hc,Bool.false_and] at hR
     exact hR H2 (ak.refl _)
    | true =>
     rw [hc,Bool.true_and] at hR
     bv_omega
     cases hf:fnd with
     | nil =>
      rw [hf] at hlen
      have hi0:i=0:=hlen.symm
      subst hi0
      rw [if_pos (by simp)]
      rw [hf] at hR
      exact hR H2 (ak.refl _)
     | cons a r =>
      have hne:i≠0:=by rw [← hlen,hf];simp
      rw [if_neg (by simp;omega)]
      have hlast:(fnd.map V.int)[i - 1]?=some (.int (fnd.getLastD 0)):=by
       rw [List.getElem?_map,← hlen,← List.getLast?_eq_getElem?,List.getLastD_eq_getLast?,hf,List.getLast?_cons];rfl
      have e2:atI (fnd.map V.int) (0 + (i:Int) - 1)=some (.int (fnd.getLastD 0)):=by
       rw [show 0 + (i:Int) - 1=((i - 1:Nat):Int) by omega];exact bX hlast
      refine ⟨_,_,.l h2,e2,_,m,rfl,by omega,?_⟩
      ac_nf
      have e3:fnd.isEmpty=false:=by rw [hf];rfl
      rw [e3,Bool.false_or] at hR
      exact hR H2 (ak.refl _)
   ·intro x hx _ H2 s2 R hR
    ac_nf
    exact hR H2 (ak.refl _)
   ·intro D H2 hD s2 h2
    have h2':H2 D=some (.lst ((Mk.qu m fnd).map V.int)):=by
     rw [h2,List.map_id',vG];rfl
    have hp2:H2 p=some (.lst (fnd.map V.int)):=s2 _ _ h1
    have hsame:∀ H3,ak H' H3->ak H H3:=fun H3 e b o hb=>by
     by_cases hbp:b=p
     ·subst hbp;rw [hp] at hb;cases hb
     ·exact e b o (s1 b o hb)
    have hpk:=Mk.uK hm fnd ci
    have hpos:=Mk.rz hm fnd
    have hat:atI ((Mk.cT m fnd).map V.int) (ci % ((Mk.cT m fnd).length:Int))=some (.int ((Mk.cT m fnd).getD (ci % ((Mk.cT m fnd).length:Int)).toNat 0)):=by
     have e:((Mk.cT m fnd).map V.int)[(ci % ((Mk.cT m fnd).length:Int)).toNat]?=some (.int ((Mk.cT m fnd).getD (ci % ((Mk.cT m fnd).length:Int)).toNat 0)):=by
      rw [List.getElem?_map,List.getD_eq_getElem?_getD,List.getElem?_eq_getElem (by omega)];rfl
     have:=bX e
     rwa [Int.toNat_of_nonneg hpk.1] at this
    have hgo2:Mk.iV m (n.toNat - (i + 1)) (ci / 7) (fnd++[(Mk.cT m fnd).getD (ci % ((Mk.cT m fnd).length:Int)).toNat 0])=Mk.wts c m n.toNat:=by
     rw [← hgo,show n.toNat - i=(n.toNat - (i + 1)) + 1 by omega];rfl
    ac_nf
    refine ⟨Nat.zero_le _,fun r H3 hr s3 h3=>?_⟩
    refine ⟨_,_,.of (s3 _ _ h2'),.of h3,vH _,rfl,?_⟩
    have s4:ak H' H3:=s2.trans s3
    have hp3:H3 p=some (.lst (fnd.map V.int)):=s3 _ _ hp2
    cases hcand:Mk.qu m fnd with
    | nil =>
     have hpool:Mk.cT m fnd=Mk.ofN m.toNat:=by unfold Mk.cT;rw [if_pos hcand]
     rw [if_pos (show jr (([]:List Int).map V.int) []=true from rfl)]
     intro a H4 ha s5 h4
     refine ⟨_,.inr ⟨0,m,h4,⟨by omega,by omega,by omega,by omega⟩,by omega,rfl⟩,fun l H5 hl s6 h5=>?_⟩
     have hp5:H5 p=some (.lst (fnd.map V.int)):=s6 _ _ (s5 _ _ hp3)
     have hl5:H5 l=some (.lst ((Mk.cT m fnd).map V.int)):=by rw [h5,hpool,Int.sub_zero,oC]
     have s7:ak H' H5:=s4.trans (s5.trans s6)
     ac_nf
     refine ⟨.inl ⟨rfl,_,.of hp5⟩,_,.l hl5,by rw [List.length_map];omega,_,_,.l hl5,by rw [List.length_map];exact hat,p,_,_,rfl,rfl,hp5,by rw [List.length_map];exact ao (by omega),⟨by decide,by decide⟩,_,_,_,_,rfl,?_,(hsame _ s7).dr hp,?_,hgo2⟩
     ·rw [List.length_append,hlen];rfl
     ·rw [aq,List.map_append];rfl
    | cons x y =>
     have hpool:Mk.cT m fnd=Mk.qu m fnd:=by unfold Mk.cT;rw [if_neg (by rw [hcand];simp)]
     rw [if_neg (by simp [jr])]
     have hl3:H3 D=some (.lst ((Mk.cT m fnd).map V.int)):=by rw [hpool];exact s3 _ _ h2'
     refine ⟨.inl ⟨rfl,_,.of hp3⟩,_,.l hl3,by rw [List.length_map];omega,_,_,.l hl3,by rw [List.length_map];exact hat,p,_,_,rfl,rfl,hp3,by rw [List.length_map];exact ao (by omega),⟨by decide,by decide⟩,_,_,_,_,rfl,?_,(hsame _ s4).dr hp,?_,hgo2⟩
     ·rw [List.length_append,hlen];rfl
     ·rw [aq,List.map_append];rfl
  ·rintro σ H' ⟨ci,fnd,o1,o2,rfl,hlen,s1,h1,hgo⟩
   ac_nf
   refine k p H' hp s1 ?_
   rw [h1,← hgo,Nat.sub_self]
   rfl
inductive jk (es:List Ben) (lk:Lk) (M day:Int) (key:List Key) (y:V):Bool->V->Prop
 | no (h:key ∉ es.map (·.key)):jk es lk M day key y true (.str ("NoEntry":Str))
 | out (e:Ben) (he:e∈es) (hk:e.key=key):jk es lk M day key y true (.int e.num)
 | twice (h:key∈es.map (·.key)):jk es lk M day key y false (.str ("Twice":Str))
 | num (n:Int) (h:key ∉ es.map (·.key)) (hy:y=.int n) (h0:0<=n) (h1:n < M) (hf:fo es lk day key n=true):jk es lk M day key y false (.int n)
 | nonum (n:Int) (h:key ∉ es.map (·.key)) (hy:y=.int n) (h0:0<=n) (h1:n < M) (hf:fo es lk day key n=false):jk es lk M day key y false (.str ("NoNumber":Str))
 | least (n:Int) (h:key ∉ es.map (·.key)) (hy:y=.non) (hl:ib (es.map (·.num)) (fq lk day key) n) (h1:n < M):jk es lk M day key y false (.int n)
 | many (h:key ∉ es.map (·.key)) (hy:y=.non) (hl:∀ n,0<=n->n < M->fo es lk day key n=false):jk es lk M day key y false (.str ("TooMany":Str))
def vK (es:List Ben) (key:List Key) (n:Int):Bool:=es.any fun e=>decide (e.num=n) && decide (e.key=key)
theorem uC {es:List Ben}{key:List Key}{e:Ben} (nn:(es.map (·.num)).Nodup) (he:e∈es):vK es key e.num=decide (e.key=key):=by
 unfold vK
 by_cases hk:e.key=key
 ·rw [decide_eq_true hk,List.any_eq_true]
  exact ⟨e,he,by rw [decide_eq_true rfl,decide_eq_true hk];rfl⟩
 ·rw [decide_eq_false hk,List.any_eq_false]
  intro x hx
  by_cases hn:x.num=e.num
  ·rw [jS nn hx he hn,decide_eq_false hk,Bool.and_false];decide
  ·rw [decide_eq_false hn,Bool.false_and];decide
theorem Dj {key:List Key}:∀ {es:List Ben},(es.map (·.key)).Nodup->(key ∉ es.map (·.key)/\es.filter (fun e=>decide (e.key=key))=[]) ∨ ∃ e∈es,e.key=key/\es.filter (fun e=>decide (e.key=key))=[e]
 | [],_=>.inl ⟨by simp,rfl⟩
 | x::es,nk=>by
  rw [List.map_cons,List.nodup_cons] at nk
  by_cases hx:x.key=key
  ·refine .inr ⟨x,List.mem_cons_self,hx,?_⟩
   rw [List.filter_cons_of_pos (by rw [decide_eq_true hx]),List.filter_eq_nil_iff.mpr fun e he z=>nk.1 (by rw [hx,← of_decide_eq_true z];exact List.mem_map_of_mem he)]
  ·rw [List.filter_cons_of_neg (by rw [decide_eq_false hx];decide)]
   rcases Dj nk.2 with ⟨h1,h2⟩ | ⟨e,he,h1,h2⟩
   ·exact .inl ⟨fun z=>by rcases List.mem_cons.mp z with z | z;exact hx z.symm;exact h1 z,h2⟩
   ·exact .inr ⟨e,List.mem_cons_of_mem _ he,h1,h2⟩
theorem CO {es:List Ben}{key:List Key} (nn:(es.map (·.num)).Nodup) (nk:(es.map (·.key)).Nodup):(key ∉ es.map (·.key)/\(es.map (·.num)).filter (vK es key)=[]) ∨ ∃ e∈es,e.key=key/\(es.map (·.num)).filter (vK es key)=[e.num]:=by
 have e1:(es.map (·.num)).filter (vK es key)=(es.filter fun e=>decide (e.key=key)).map (·.num):=by
  rw [List.filter_map]
  congr 1
  exact List.filter_congr fun e he=>uC nn he
 rcases Dj (key:=key) nk with ⟨h1,h2⟩ | ⟨e,he,h1,h2⟩
 ·exact .inl ⟨h1,by rw [e1,h2];rfl⟩
 ·exact .inr ⟨e,he,h1,by rw [e1,h2];rfl⟩
theorem xM {N:Nat}{p:Int->Bool}{n:Int}{r:List Int} (h:(Mk.ofN N).filter p=n::r):p n=true/\0<=n/\n < N/\∀ j,0<=j->j < n->p j=false:=by
 obtain ⟨l1,l2,e,h1,h2,_⟩:=List.filter_eq_cons_iff.mp h
 have at_:∀ i:Nat,i < N->(Mk.ofN N)[i]?=some (i:Int):=fun i hi=>by unfold Mk.ofN;rw [List.getElem?_map,List.getElem?_range hi];rfl
 have ln:l1.length < N:=by have:=congrArg List.length e;rw [Mk.jy,List.length_append,List.length_cons] at this;omega
 have hn:n=(l1.length:Int):=by
  have:=at_ l1.length ln
  rw [e,List.getElem?_append_right (Nat.le_refl _),Nat.sub_self] at this
  exact Option.some.inj this
 refine ⟨h2,by omega,by omega,fun j j0 j1=>?_⟩
 have:=at_ j.toNat (by omega)
 rw [e,List.getElem?_append_left (by omega)] at this
 have hm:=List.mem_of_getElem? this
 rw [show ((j.toNat:Nat):Int)=j by omega] at hm
 have:=h1 j hm
 cases hp:p j with
 | false=>rfl
 | true=>exact absurd hp this
inductive gW (K:PySem.W.Frag) (vs:List V) (H:Hp) (Q:VK) (E:XK):Prop
 | mk (st nw sk lg q t:Addr) (es:List Ben) (lk:Lk) (l0 M day:Int) (m:Nat) (gs:List Lge) (key:List Key) (y:V) (str:Bool) (q0:vs=[.ref st,.int M,.ref q]) (q1:StA H st nw sk lg es lk l0 m gs) (q2:m<=900) (q3:(es.map (·.key)).Nodup) (q4:es.length<=900) (q5:H q=some (.tup [.str (if str then ("strike":Str) else ("put":Str)),.int day,.ref t,y])) (q6:H t=some (.tup (key.map kV))) (q7:fF key) (q8:l0<=day) (q9:(y=.non ∨ ∃ n,y=.int n/\0<=n/\n < M)) (q10:0<=M) (q11:M<=100000) (q12:∀ v H',ak H H'->jk es lk M day key y str v->Q v H'):gW K vs H Q E
theorem cf:aA ["_law_state","_law_many_here","_law_deed","_law_now","_law_struck","_law_log","_law_sort","_law_day","_law_entry","_law_number","_law_there","_law_some"] ["_law_state","_law_many_here","_law_deed"] (af fE):=⟨rfl,rfl,rfl,by decide +kernel,rfl,by decide +kernel,by decide +kernel⟩
theorem sN {f:Addr}{fd:FuncData} (F:Fun K "_law_due" "_law_due" fE f fd) (T:Bl mg) (AF:AdF K mg Ad) (C_law_free:Fnc P w K mg base (CX1 P w) 1 "_law_free" ["_law_state","_law_number","_law_day","_law_entry"] (fX K)):aX P w K mg base (CX1 P w) 2 f fd ["_law_state","_law_many_here","_law_deed"] (gW K):=by
 refine F.okX (k:=1) cf (fun vs H Q E h=>?_) (fun cdv A outer s H vs Q E hr h=>?_)
 ·obtain ⟨st,nw,sk,lg,q,t,es,lk,l0,M,day,m,gs,key,y,str,rfl,_⟩:=h
  rfl
 ·obtain ⟨st,nw,sk,lg,q,t,es,lk,l0,M,day,m,gs,key,y,str,rfl,A0,m9,nk,e9,hq,ht,eo,ld,hy,M0,M1,k⟩:=h
  obtain ⟨kvs,hsk,S,_⟩:=A0.k
  obtain ⟨ls,hlg,lls,hlast,_⟩:=A0.g
  have hu:=hr.aO
  have hu1:=aZ hr
  have hu9:=hr.hu9
  refine ⟨_,aa (kc (pvC 0) (iO (K:=K) (n:=3) rfl rfl (aM (i4 (i:=3) cf.nd) (aM (ax (i:=4) cf.nd) (aM (ax (i:=5) cf.nd) (eR)))))) (aa (kc (pvL 2) (iO (K:=K) (n:=4) rfl rfl (aM (ax (i:=6) cf.nd) (aM (i4 (i:=7) cf.nd) (aM (i4 (i:=8) cf.nd) (aM (ax (i:=9) cf.nd) (eR))))))) (aa (aW ((sV (aK (pE (K:=K) rfl hu9) (pvL 5) (bc (ae)) (aL _)) (pM (aK kb (pvC 7) (bz (cV (K:=K) rfl) (bz (cV (K:=K) rfl) (pvL 5) (Dr CQ (ai)) (fun _ _=>rfl)) (ai) (fun _ _=>rfl)) (aL _)))).pt) (ah (aG (aF))) (aJ)) (aa (yQ (P:=P) (w:=w) rfl rfl (jE (i:=10) ["_law_one"] cf.nd rfl (Or.inl rfl) rfl ⟨rfl,by decide +kernel,rfl,by decide +kernel⟩ (.cons (j:=8) rfl (.inl (by kernel_rfl)) (.cons (j:=3) rfl (.inl (by kernel_rfl)) (.nil))) (by decide +kernel) (yN (P:=P) (w:=w) rfl rfl (pvC 3)) (fun _ _ _ _=>ax (i:=0) (show (["_law_one","_law_entry","_law_now"]:List Str).Nodup from by decide +kernel)) (fun _ _ _ _=>pK (aK (y6 (K:=K) rfl hu9) (yF (P:=P) (w:=w) rfl rfl (pvC 2) (pvL 0)) (pvC 1) (aL _))) (fun _ _ _ _=>pvL 0))) (aa (aW (aK (cS (K:=K) rfl hu) (pvL 6) (aF) (aL _)) (ah (aG (j8 (aK (gO (K:=K) rfl hu) (pvL 10) (bc (ae)) (aL _)) (bz (cV (K:=K) rfl) (pvL 10) (ai) (fun _ _=>rfl)) (aF)))) (aJ)) (aa (aW (aK (gO (K:=K) rfl hu) (pvL 10) (bc (ae)) (aL _)) (ah (aG (aF))) (aJ)) (aa (aW (aK iN (pvL 9) (gi) (aL _)) (ah (aG (j8 ((sV (jF fG kb (ai) (pvL 9) (pvL 1)) (pM (bN (aH C_law_free au (hr.mono (by decide)) (ag (pvC 0) (ag (pvL 9) (ag (pvC 7) (ag (pvC 8) (ae))))))))).pt) (pvL 9) (aF)))) (aJ)) (aa (jE (i:=11) ["_law_one"] cf.nd rfl (Or.inl rfl) rfl ⟨rfl,by decide +kernel,rfl,by decide +kernel⟩ (.cons (j:=0) rfl (.inl (by kernel_rfl)) (.cons (j:=7) rfl (.inl (by kernel_rfl)) (.cons (j:=8) rfl (.inl (by kernel_rfl)) (.nil)))) (by decide +kernel) (gQ T.range (ag (pvL 1) (ae))) (fun _ _ _ _=>ax (i:=0) (show (["_law_one","_law_state","_law_day","_law_entry"]:List Str).Nodup from by decide +kernel)) (fun _ _ _ _=>pK (bN (aH C_law_free jg (hr.mono (by decide)) (ag (pvC 1) (ag (pvL 0) (ag (pvC 2) (ag (pvC 3) (ae)))))))) (fun _ _ _ _=>pvL 0)) (ah (aG (j8 (aK (gO (K:=K) rfl hu) (pvL 11) (bc (ae)) (aL _)) (bz (cV (K:=K) rfl) (pvL 11) (ai) (fun _ _=>rfl)) (aF))))))))))),?_⟩
  refine ar fun nn hN=>?_
  and_intros
  refine ⟨_,.l A0.s,rfl,?_⟩
  and_intros
  rw [hN]
  clear hN nn
  refine ar fun nn hN=>?_
  and_intros
  refine ⟨_,.inr (.of hq),rfl,?_⟩
  and_intros
  rw [hN]
  clear hN nn
  refine ar fun nn hN=>?_
  and_intros
  refine ⟨Nat.zero_le _,fun p1 G1 _ t1 g1=>?_⟩
  have A1:=A0.same t1
  have hlg1:=t1 _ _ hlg
  have nx:nn { nx:=fun x H'=>Q V.non H',rt:=Q } [some (V.ref st),some (V.int M),some (V.ref q),some (V.ref nw),some (V.ref sk),some (V.ref lg),some (V.str (if str=true then Str.ofString "strike" else Str.ofString "put")),some (V.int day),some (V.ref t),some y,none,none] G1:=by
   rw [hN]
   clear hN nn
   refine ar fun nn hN=>?_
   and_intros
   refine ⟨nw,_,rfl,A1.n,fun D G2 kr k2 g2=>?_⟩
   have n2:∀ {c:Addr}{o:HO},(∀ kvs,o≠.dK kvs)->G1 c=some o->G2 c=some o:=fun {c o} ho e=>k2 c o (fun z=>by rw [z,A1.n] at e;cases e;exact ho _ rfl) e
   have ek:(cE es).map (fun kv=>kV kv.1)=(es.map (·.num)).map V.int:=by rw [gM,List.map_map,List.map_map];rfl
   refine Ci (xs:=es.map (·.num)) V.int iL (by rw [← ek];exact w5 g2) (by rw [List.length_map];exact ao (by omega)) (vK es key) V.int ?_ ?_ ?_
   ·intro n hn G3 t3 R hR
    and_intros
    obtain ⟨e,he,rfl⟩:=List.mem_map.mp hn
    obtain ⟨ea,eo'⟩:=A1.en e he
    refine ⟨nw,D,_,.inl e.num,.ref e.adr,rfl,t3 _ _ g2,kr,rfl,gN A0.nn he,0,_,by decide,(pN (t3 _ _ (n2 (fun _ z=>by cases z) ea)) (t3 _ _ (n2 (fun _ z=>by cases z) (t1 _ _ ht))) eo' eo).1,?_⟩
    have:=hR G3 (ak.refl _)
    rw [uC A0.nn he] at this
    exact this
   ·intro n hn _ G3 t3 R hR
    and_intros
    exact hR G3 (ak.refl _)
   intro Th G3 hTh t3 g3
   rw [vf]
   refine ⟨nw,D,_,t3 _ _ g2,kr,fun G4 k4 g4=>?_⟩
   have t14:ak G1 G4:=fun c o e=>by
    by_cases hc:c=nw
    ·rw [hc,A1.n] at e;cases e;rw [hc];exact g4
    ·exact k4 c o hc (t3 _ _ (k2 c o hc e))
   have nTh:Th≠nw:=fun z=>by rw [z,g2] at hTh;cases hTh
   have g4':=k4 _ _ nTh g3
   have A4:=A1.same t14
   have ht4:=t14 _ _ (t1 _ _ ht)
   have kk:∀ v G,ak G4 G->jk es lk M day key y str v->Q v G:=fun v G tG h=>k v G (t1.trans (t14.trans tG)) h
   show nn _ _ _
   rw [hN]
   clear hN nn k2 t3 k4 g3 kr n2 g2 hTh ek
   refine ar fun nn hN=>?_
   and_intros
   have th:=CO (key:=key) A0.nn nk
   cases str with
   | true =>
    rw [if_pos (by decide)]
    refine ⟨Nat.zero_le _,fun p5 G5 _ t5 g5=>?_⟩
    rcases th with ⟨kno,hth⟩ | ⟨e,he,hk,hth⟩
    ·rw [hth] at g4'
     refine ⟨_,_,.of (t5 _ _ g4'),.of g5,rfl,rfl,?_⟩
     rw [if_neg (by decide)]
     exact kk _ G5 t5 (.no kno)
    ·rw [hth] at g4'
     refine ⟨_,_,.of (t5 _ _ g4'),.of g5,rfl,rfl,?_⟩
     rw [if_pos (by rfl)]
     exact ⟨_,_,.l (t5 _ _ g4'),bX (j:=0) rfl,kk _ G5 t5 (.out e he hk)⟩
   | false =>
    rw [if_neg (by decide)]
    show nn _ _ _
    rw [hN]
    clear hN nn
    refine ar fun nn hN=>?_
    and_intros
    refine ⟨Nat.zero_le _,fun p5 G5 _ t5 g5=>?_⟩
    rcases th with ⟨kno,hth⟩ | ⟨e,he,hk,hth⟩
    case inr =>
     rw [hth] at g4'
     refine ⟨_,_,.of (t5 _ _ g4'),.of g5,rfl,rfl,?_⟩
     rw [if_pos (by rfl)]
     exact kk _ G5 t5 (.twice (List.mem_map.mpr ⟨e,he,hk⟩))
    rw [hth] at g4'
    refine ⟨_,_,.of (t5 _ _ g4'),.of g5,rfl,rfl,?_⟩
    rw [if_neg (by decide)]
    show nn _ _ _
    rw [hN]
    clear hN nn
    have A5:=A4.same t5
    have ht5:=t5 _ _ ht4
    refine ar fun nn hN=>?_
    rcases hy with rfl | ⟨n,rfl,n0,n1⟩
    ·and_intros
     show nn _ _ _
     rw [hN]
     clear hN nn
     refine ar fun nn hN=>?_
     and_intros
     refine ⟨by omega,by omega,Ci (xs:=Mk.ofN M.toNat) V.int iL (pT M.toNat) (by rw [Mk.jy];exact ao (by omega)) (fo es lk day key) V.int ?_ ?_ ?_⟩
     ·intro n hn G6 t6 R hR
      and_intros
      refine ⟨st,nw,sk,lg,t,es,lk,l0,n,day,m,gs,key,rfl,A5.same t6,t6 _ _ ht5,eo,fun G7 t7=>⟨_,rfl,hR G7 t7⟩⟩
     ·intro n hn _ G6 t6 R hR
      and_intros
      exact hR G6 (ak.refl _)
     intro Sm G6 hSm t6 g6
     rw [hN]
     clear hN nn
     and_intros
     refine ⟨Nat.zero_le _,fun p7 G7 _ t7 g7=>?_⟩
     cases hf:(Mk.ofN M.toNat).filter (fo es lk day key) with
     | nil =>
      rw [hf] at g6
      refine ⟨_,_,.of (t7 _ _ g6),.of g7,rfl,rfl,?_⟩
      rw [if_neg (by decide)]
      refine kk _ G7 (t5.trans (t6.trans t7)) (.many kno rfl fun n n0 n1=>?_)
      have:=List.filter_eq_nil_iff.mp hf n (Mk.iM.mpr ⟨n0,by omega⟩)
      cases hp:fo es lk day key n with
      | false=>rfl
      | true=>exact absurd hp this
     | cons n r =>
      rw [hf] at g6
      obtain ⟨f1,f2,f3,f4⟩:=xM hf
      have fr:∀ {j:Int},fo es lk day key j=true->j ∉ es.map (·.num)/\fq lk day key j=false:=fun {j} h=>by
       unfold fo at h
       rw [Bool.and_eq_true] at h
       exact ⟨fun z=>by rw [decide_eq_true z] at h;exact absurd h.1 (by decide),by cases hb:fq lk day key j with | false=>rfl | true=>rw [hb] at h;exact absurd h.2 (by decide)⟩
      refine ⟨_,_,.of (t7 _ _ g6),.of g7,?_,rfl,?_⟩
      ·exact List.all_eq_true.mpr fun v hv=>by obtain ⟨w,_,rfl⟩:=List.mem_map.mp hv;rfl
      rw [if_pos (by rfl)]
      refine ⟨_,_,.l (t7 _ _ g6),bX (j:=0) rfl,kk _ G7 (t5.trans (t6.trans t7)) (.least n kno rfl ⟨f2,(fr f1).1,(fr f1).2,fun j j0 j1=>?_⟩ (by omega))⟩
      have:=f4 j j0 j1
      unfold fo at this
      by_cases hj:j∈es.map (·.num)
      ·exact .inl hj
      ·rw [decide_eq_false hj] at this
       refine .inr ?_
       cases hb:fq lk day key j with
       | true=>rfl
       | false=>rw [hb] at this;exact absurd this (by decide)
    ·and_intros
     rw [decide_eq_true n0,if_pos rfl,decide_eq_true n1,if_pos rfl]
     refine ⟨st,nw,sk,lg,t,es,lk,l0,n,day,m,gs,key,rfl,A5,ht5,eo,fun G6 t6=>⟨_,rfl,?_⟩⟩
     cases hf:fo es lk day key n with
     | true =>
      rw [if_pos rfl]
      exact kk _ G6 (t5.trans t6) (.num n kno rfl n0 n1 hf)
     | false =>
      rw [if_neg (by decide)]
      exact kk _ G6 (t5.trans t6) (.nonum n kno rfl n0 n1 hf)
  rcases hlast with rfl | ⟨tl,a,b,c,hl1,hl2⟩
  ·refine ⟨0,true,by decide,⟨lg,p1,rfl,rfl,.inl ⟨_,_,.of hlg1,.of g1,.inr ⟨rfl,fun _=>true,fun i x y h=>by simp at h,rfl⟩⟩⟩,?_⟩
   rw [if_neg (by decide)]
   exact nx
  ·have hne:ls≠[]:=fun e=>by rw [e] at hl1;cases hl1
   refine ⟨0,false,by decide,⟨lg,p1,rfl,rfl,.inl ⟨_,_,.of hlg1,.of g1,.inl ⟨fun e=>hne (List.eq_nil_of_length_eq_zero e),rfl⟩⟩⟩,?_⟩
   rw [if_pos (by decide)]
   refine ⟨_,.ref tl,.l hlg1,vi hl1,?_⟩
   and_intros
   refine ⟨_,_,.inr (.of (t1 _ _ hl2)),fg (by decide) rfl,?_⟩
   and_intros
   rw [decide_eq_false (show ¬ day < l0 by omega),if_neg (by decide)]
   exact nx
structure Ded where
 str:Bool
 day:Int
 t:Addr
 key:List Key
 y:V
def DdP (H:Hp) (v:V) (d:Ded):Prop:=∃ p,v=V.ref p/\H p=some (.tup [.str (if d.str then ("strike":Str) else ("put":Str)),.int d.day,.ref d.t,d.y])
theorem xu {H H':Hp}{ls:List V}{ds:List Ded} (h:Paired (DdP H) ls ds) (s:∀ c xs,H c=some (.tup xs)->H' c=some (.tup xs)):Paired (DdP H') ls ds:=by
 induction h with
 | nil=>exact .nil
 | cons f _ ih=>obtain ⟨p,e,q⟩:=f;exact .cons ⟨p,e,s _ _ q⟩ ih
structure CW (ts:List Addr) (pl:List (List Key)) (M lo hi:Int) (ds:List Ded):Prop where
 cT:∀ d∈ds,∃ i:Nat,ts[i]?=some d.t/\pl[i]?=some d.key
 num:∀ d∈ds,d.y=.non ∨ ∃ n,d.y=.int n/\0<=n/\n < M
 up:(ds.map (·.day)).Pairwise (·<=·)
 lo:∀ d∈ds,lo<=d.day/\d.day<=hi
inductive fA (K:PySem.W.Frag) (vs:List V) (H:Hp) (Q:VK) (E:XK):Prop
 | mk (cl D:Addr) (ns:List Int) (ts:List Addr) (M f0:Int) (x y:Nat) (q0:vs=[.ref cl,.ref D,.int M,.int f0]) (q1:SqL K H cl (ns.map V.int)) (q2:ns.length<=40) (q3:H D=some (.lst (ts.map V.ref))) (q4:Paired (fun (t:Addr) (key:List Key)=>H t=some (.tup (key.map kV))) ts (kK x y)) (q5:1<=M) (q6:M<=100000) (q7:0<=f0) (q8:f0<=1000) (q9:∀ L ls ds H',H L=none->ak H H'->H' L=some (.lst ls)->Paired (DdP H') ls ds->ds.length=ns.length->CW ts (kK x y) M f0 (f0 + 50 * ns.length) ds->Q (.ref L) H'):fA K vs H Q E
theorem bC:aA ["_law_cells","_law_pool_here","_law_many_here","_law_first","_law_found","_law_day","_law_cell","_law_number","_law_entry","_law_sort","_law_told_one"] ["_law_cells","_law_pool_here","_law_many_here","_law_first"] (af dA):=⟨rfl,rfl,rfl,by decide +kernel,rfl,by decide +kernel,by decide +kernel⟩
theorem p9 {f:Addr}{fd:FuncData} (F:Fun K "_law_deeds" "_law_deeds" dA f fd) (T:Bl mg) (AF:AdF K mg Ad) (C_law_mixed:Fnc P w K mg base (CX1 P w) 1 "_law_mixed" ["_law_cell"] dY):aX P w K mg base (CX1 P w) 2 f fd ["_law_cells","_law_pool_here","_law_many_here","_law_first"] (fA K):=by
 refine F.okX (k:=1) bC (fun vs H Q E h=>?_) (fun cdv A outer s H vs Q E hr h=>?_)
 ·obtain ⟨cl,D,ns,ts,M,f0,x,y,rfl,_⟩:=h
  rfl
 ·obtain ⟨cl,D,ns,ts,M,f0,x,y,rfl,hS,n40,hD,hts,M1,M2,f0',f1,k⟩:=h
  have hu:=hr.aO
  have hu1:=aZ hr
  refine ⟨_,aa (az (i:=4) bC.nd (bc (ae))) (aa (az (i:=5) bC.nd (pvL 3)) (aa (gR PassesOwn.leaving rfl (cU (K:=K) rfl (pvL 0)) (ax (i:=6) bC.nd) (aa (az (i:=7) bC.nd (aH C_law_mixed au (hr.mono (by decide)) (ag (pvL 6) (ae)))) (aa (az (i:=5) bC.nd (aD aN (pvL 5) (bz (cV (K:=K) rfl) (bc (ag (ai) (ag (ai) (ag (ai) (ag (ai) (ag (ai) (ag (ai) (ag (ai) (ag (aD bG (aD cG (pvL 7) (ai)) (ai)) (ae)))))))))) (aD bG (pvL 7) (ai)) (fun _ _=>rfl)))) (aa (az (i:=8) bC.nd (bz (cV (K:=K) rfl) (pvL 1) (aD bG (aD cG (pvL 7) (ai)) (av (bE (K:=K) rfl) T.len di (ag (pvL 1) (ae)))) (fun _ _=>rfl))) (aa (az (i:=9) bC.nd (bz (cV (K:=K) rfl) (bc (ag (aF) (ag (aF) (ag (aF) (ae))))) (aD bG (aD cG (pvL 7) (ai)) (ai)) (fun _ _=>rfl))) (aa (az (i:=10) bC.nd (gi)) (aa (aW (aK (cS (K:=K) rfl hu) (aD bG (aD cG (pvL 7) (ai)) (ai)) (ai) (aL _)) (ah (az (i:=10) bC.nd (aD bG (aD cG (pvL 7) (aD lj (ai) (ai))) (av (vv rfl) T.min BO (ag (pvL 2) (ag (ai) (ae))))))) (aJ)) (ah (cC (gh (K:=K) rfl PySem.F.plainAttrs_list PySem.F.slot_list_append PySem.F.type_list_append fB (pvL 4) (ag (bB (ag (pvL 9) (ag (pvL 5) (ag (pvL 8) (ag (pvL 10) (ae)))))) (ae)))))))))))) (ah (aG (pvL 4))))),?_⟩
  have big:∀ {u:Nat},u<=1000->u<=sizeLine:=fun hu=>Nat.le_of_lt (ao (by omega))
  have lt14:ts.length=14:=Paired.length hts
  refine ar fun nn hN=>?_
  and_intros
  refine ⟨Nat.zero_le _,fun L G1 hL t1 g1=>?_⟩
  rw [hN]
  clear hN nn
  refine ar fun nn hN=>?_
  and_intros
  rw [hN]
  clear hN nn
  refine ar fun nn hN=>?_
  and_intros
  have nLc:∀ {c:Addr}{o:HO},H c=some o->c≠L:=fun e z=>by rw [z,hL] at e;cases e
  refine .inl ⟨⟨_,t1.seq hS⟩,gw (xs:=ns.map V.int) (fun i σ G=>∃ (o6 o7 o8 o9 o10:Option V) (day:Int) (ls:List V) (ds:List Ded),σ=[some (V.ref cl),some (V.ref D),some (V.int M),some (V.int f0),some (V.ref L),some (V.int day),o6,o7,o8,o9,o10]/\ak H G/\G L=some (.lst ls)/\Paired (DdP G) ls ds/\ds.length=i/\f0<=day/\day<=f0 + 50 * i/\CW ts (kK x y) M f0 day ds) ?_ ?_ ?_ ?_⟩
  ·exact ⟨_,_,_,_,_,f0,[],[],rfl,t1,g1,.nil,rfl,Int.le_refl _,by omega,⟨(fun d h=>by cases h),(fun d h=>by cases h),.nil,(fun d h=>by cases h)⟩⟩
  ·rintro i σ G _ ⟨o6,o7,o8,o9,o10,day,ls,ds,_,t,_⟩
   exact t.seq hS
  ·rintro i v σ G hi ⟨o6,o7,o8,o9,o10,day,ls,ds,rfl,t,gL,pd,dl,b0,b1,ok⟩ N hNx
   clear hN
   obtain ⟨c1,hci,rfl⟩:=qR hi
   have hil:i < ns.length:=(List.getElem?_eq_some_iff.mp hci).1
   rw [gu]
   refine ar fun n2 hM=>?_
   and_intros
   refine ⟨c1,rfl,?_⟩
   have v0:=pf c1
   generalize yt c1=v at v0
   rw [hM]
   clear hM n2
   refine ar fun n2 hM=>?_
   and_intros
   obtain ⟨st,hst,st0,st1⟩:∃ st:Int,atI [V.int 0,V.int 0,V.int 1,V.int 10,V.int 29,V.int 30,V.int 31,V.int (v / 1000 % 50)] (v % 8)=some (V.int st)/\0<=st/\st<=50:=by
    rcases (show v % 8=0 ∨ v % 8=1 ∨ v % 8=2 ∨ v % 8=3 ∨ v % 8=4 ∨ v % 8=5 ∨ v % 8=6 ∨ v % 8=7 by omega) with e | e | e | e | e | e | e | e <;> rw [e]
    ·exact ⟨0,rfl,by omega,by omega⟩
    ·exact ⟨0,rfl,by omega,by omega⟩
    ·exact ⟨1,rfl,by omega,by omega⟩
    ·exact ⟨10,rfl,by omega,by omega⟩
    ·exact ⟨29,rfl,by omega,by omega⟩
    ·exact ⟨30,rfl,by omega,by omega⟩
    ·exact ⟨31,rfl,by omega,by omega⟩
    ·exact ⟨v / 1000 % 50,rfl,by omega,by omega⟩
   refine ⟨⟨by decide,by decide⟩,by decide,big (by decide),fun p2 G2 _ t2 g2=>⟨by decide,_,_,.l g2,hst,?_⟩⟩
   clear hst g2
   and_intros
   rw [hM]
   clear hM n2
   refine ar fun n2 hM=>?_
   and_intros
   refine ⟨⟨by decide,by decide⟩,_,.l ((t.trans t2) _ _ hD),?_⟩
   and_intros
   rw [List.length_map,lt14]
   obtain ⟨u,hu,ul⟩:∃ u:Nat,v / 8 % 14=(u:Int)/\u < 14:=⟨(v / 8 % 14).toNat,by omega,by omega⟩
   obtain ⟨tt,htt⟩:∃ t,ts[u]?=some t:=⟨_,List.getElem?_eq_getElem (by omega)⟩
   obtain ⟨key,hk,hkt⟩:=cZ hts htt
   refine ⟨by decide,_,.ref tt,.l ((t.trans t2) _ _ hD),by rw [show v / 8 % ((14:Nat):Int)=(u:Int) from hu];exact bX (by rw [List.getElem?_map,htt];rfl),?_⟩
   rw [hM]
   clear hM n2
   refine ar fun n2 hM=>?_
   and_intros
   obtain ⟨str,hstr⟩:∃ str:Bool,atI [V.str (Str.ofString "put"),V.str (Str.ofString "put"),V.str (Str.ofString "strike")] (v / 128 % 3)=some (V.str (if str then ("strike":Str) else ("put":Str))):=by
    rcases (show v / 128 % 3=0 ∨ v / 128 % 3=1 ∨ v / 128 % 3=2 by omega) with e | e | e <;> rw [e]
    ·exact ⟨false,rfl⟩
    ·exact ⟨false,rfl⟩
    ·exact ⟨true,rfl⟩
   refine ⟨big (by decide),fun p3 G3 _ t3 g3=>⟨⟨by decide,by decide⟩,by decide,_,_,.l g3,hstr,?_⟩⟩
   clear hstr g3
   rw [hM]
   clear hM n2
   refine ar fun n2 hM=>?_
   and_intros
   rw [hM]
   clear hM n2
   have tG3:=t.trans (t2.trans t3)
   refine kY (fun σ G'=>∃ yv:V,σ=[some (V.ref cl),some (V.ref D),some (V.int M),some (V.int f0),some (V.ref L),some (V.int (day + st)),some (V.int c1),some (V.int v),some (V.ref tt),some (V.str (if str=true then Str.ofString "strike" else Str.ofString "put")),some yv]/\G'=G3/\(yv=.non ∨ ∃ n,yv=.int n/\0<=n/\n < M)) ?_ ?_
   ·rintro σ G' ⟨yv,rfl,rfl,hyv⟩
    and_intros
    have gL3:=(t2.trans t3) _ _ gL
    refine ⟨.inl ⟨rfl,_,.of gL3⟩,big (by decide),fun p4 G4 hp4 t4 g4=>⟨L,ls,_,rfl,rfl,t4 _ _ gL3,?_,?_⟩⟩
    ·have:=Paired.length pd;exact ao (by omega)
    have k5:∀ c o,c≠L->G4 c=some o->upd G4 L (.lst (ls++[V.ref p4])) c=some o:=fun c o hc z=>by rw [aj hc];exact z
    have g5:upd G4 L (.lst (ls++[V.ref p4])) L=some (.lst (ls++[V.ref p4])):=aq
    generalize upd G4 L (.lst (ls++[V.ref p4]))=G5 at k5 g5
    have tup5:∀ c xs,G4 c=some (.tup xs)->G5 c=some (.tup xs):=fun c xs z=>k5 _ _ (aC z (t4 _ _ gL3) (by intro z;cases z)) z
    have tup:∀ c xs,G c=some (.tup xs)->G5 c=some (.tup xs):=fun c xs z=>tup5 _ _ (t4 _ _ ((t2.trans t3) _ _ z))
    refine hNx _ _ ⟨_,_,_,_,_,day + st,ls++[V.ref p4],ds++[⟨str,day + st,tt,key,yv⟩],rfl,fun c o z=>k5 c o (nLc z) (t4 _ _ (tG3 _ _ z)),g5,ix (xu pd tup) (.cons ⟨p4,rfl,tup5 _ _ g4⟩ .nil),by rw [List.length_append,dl];rfl,by omega,by omega,⟨fun d hd=>?_,fun d hd=>?_,?_,fun d hd=>?_⟩⟩
    ·rcases List.mem_append.mp hd with hd | hd
     ·exact ok.cT d hd
     ·rw [List.mem_singleton.mp hd];exact ⟨u,htt,hk⟩
    ·rcases List.mem_append.mp hd with hd | hd
     ·exact ok.num d hd
     ·rw [List.mem_singleton.mp hd];exact hyv
    ·rw [List.map_append]
     refine List.pairwise_append.mpr ⟨ok.up,List.pairwise_singleton _ _,fun a ha b hb=>?_⟩
     obtain ⟨d,hd,rfl⟩:=List.mem_map.mp ha
     have hb':b=day + st:=List.mem_singleton.mp hb
     have:=(ok.lo d hd).2
     omega
    ·rcases List.mem_append.mp hd with hd | hd
     ·have:=ok.lo d hd;exact ⟨this.1,by omega⟩
     ·rw [List.mem_singleton.mp hd];exact ⟨by show f0<=day + st;omega,Int.le_refl _⟩
   ·intro U hU
    and_intros
    refine ⟨⟨by decide,by decide⟩,by decide,?_⟩
    by_cases h5:v / 512 % 2=1
    ·rw [decide_eq_true h5,if_pos rfl]
     have hm:0 < min M 12/\min M 12<=M:=by omega
     refine ⟨⟨by decide,by decide,by decide⟩,⟨by decide,by decide⟩,hm.1,hU _ _ ⟨_,rfl,rfl,.inr ⟨_,rfl,Int.emod_nonneg _ (by omega),?_⟩⟩⟩
     have:=Int.emod_lt_of_pos (v / 10 ^ Int.toNat 6) hm.1
     omega
    ·rw [decide_eq_false h5,if_neg (by decide)]
     exact hU _ _ ⟨.non,rfl,rfl,.inl rfl⟩
  rintro σ G ⟨o6,o7,o8,o9,o10,day,ls,ds,rfl,t,gL,pd,dl,b0,b1,ok⟩
  show nn _ _ _
  rw [hN]
  clear hN nn
  and_intros
  rw [List.length_map] at dl b1
  exact k L ls ds G hL t gL pd dl ⟨ok.cT,ok.num,ok.up,fun d hd=>⟨(ok.lo d hd).1,Int.le_trans (ok.lo d hd).2 b1⟩⟩
def cA (H:Hp) (m:Int):V->Bool
 | .ref p=>match H p with
  | some (.lst xs)=>decide (3<=xs.length) && decide (xs.length<=8) && xs.all (bt m)
  | _=>false
 | _=>false
def fK:Sp:=fun vs H Q _=>∃ (x:V) (t:Tg) (m:Int),vs=[x,.int m]/\eO H x=some t/\(∀ p o u,x=.ref p->H p≠some (.frz o u))/\(∀ p xs,x=.ref p->H p=some (.lst xs)->xs.length<=1000/\∀ y∈xs,∃ t,eO H y=some t) ∧
 ∀ H',ak H H'->Q (.bl (cA H m x)) H'
theorem mV:aA ["thing","m"] ["thing","m"] (af cM):=⟨rfl,rfl,rfl,by decide +kernel,rfl,by decide +kernel,by decide +kernel⟩
theorem mJ {f:Addr}{fd:FuncData} (F:Fun K "are_weights" "are_weights" cM f fd) (T:Bl mg) (AF:AdF K mg Ad) (C_is_below:Fnc P w K mg base (CX1 P w) 2 "is_below" ["thing","bound"] dE):aX P w K mg base (CX1 P w) 3 f fd ["thing","m"] fK:=by
 refine F.okX (k:=2) mV (fun vs H Q E h=>?_) (fun cdv A outer s H vs Q E hr h=>?_)
 ·obtain ⟨x,t,m,rfl,_⟩:=h
  rfl
 ·obtain ⟨x,t,m,rfl,ht,hfz,hit,k⟩:=h
  have hu:=hr.aO
  have hu1:=aZ hr
  refine ⟨_,aa (aW ((i5 (cc (bN (av (cm .lst) T.isinstance bt_isinstance (ag (pvL 0) (ag (fj T.list kX) (ae)))))) (gj (cc (jF fG fG (ai) (av (bE (K:=K) rfl) T.len di (ag (pvL 0) (ae))) (ai))))).pt) (ah (aG (fS))) (aJ)) (ah (aG (av (gv (K:=K) rfl rfl) T.all lA (ag (kI ["weight"] rfl ⟨rfl,by decide +kernel,rfl,by decide +kernel⟩ (.cons (j:=1) rfl (.inl (by kernel_rfl)) (.nil)) (by decide +kernel) (cU (K:=K) rfl (pvL 0)) (fun _ _ _ _=>ax (i:=0) (show (["weight","m"]:List Str).Nodup from by decide +kernel)) (fun _ _ _ _=>eS) (fun _ _ _ _=>aH C_is_below jg (hr.mono (by decide)) (ag (pvL 0) (ag (pvC 1) (ae))))) (ae))))),?_⟩
  by_cases hs:∃ p xs,x=.ref p/\H p=some (.lst xs)
  ·obtain ⟨p,xs,rfl,hp⟩:=hs
   obtain ⟨hl,hty⟩:=hit p xs rfl hp
   have et:t=Tg.lst:=by
    have:hZ (H p)=some t:=ht
    rw [hp] at this;cases this;rfl
   subst et
   have ek:cA H m (.ref p)=(decide (3<=xs.length) && decide (xs.length<=8) && xs.all (bt m)):=by
    show (match H p with | some (.lst xs)=>_ | _=>false)=_
    rw [hp]
   rw [ek] at k
   ac_nf
   refine ⟨trivial,Tg.lst,ht,?_⟩
   ac_nf
   refine ⟨_,.l hp,?_⟩
   by_cases h3:3<=xs.length
   ·rw [decide_eq_true h3,Bool.true_and] at k
    rw [decide_eq_true (show (3:Int)<=(xs.length:Int) by omega)]
    bv_omega
    by_cases h8:xs.length<=8
    ·rw [decide_eq_true h8,Bool.true_and] at k
     rw [decide_eq_true (show (xs.length:Int)<=8 by omega)]
     bv_omega
     refine .inl ⟨⟨_,.of hp⟩,Cj (xs:=xs) (iB (.of hp)) (ao (by omega)) (fun y=>.bl (bt m y)) ?_ ?_⟩
     ·intro y hy H2 s2 R hR
      obtain ⟨ty,hty⟩:=hty y hy
      have hty2:eO H2 y=some ty:=jM s2 hty
      ac_nf
      refine ⟨y,ty,m,rfl,hty2,?_⟩
      exact hR H2 (ak.refl _)
     ·intro D H2 hD s2 h2
      refine ⟨D,xs.map (bt m),rfl,.of (by rw [h2,List.map_map];rfl),?_⟩
      have e:(xs.map (bt m)).all id=xs.all (bt m):=by rw [List.all_map];rfl
      rw [e]
      exact k H2 s2
    ·rw [decide_eq_false h8,Bool.false_and] at k
     rw [decide_eq_false (show ¬ (xs.length:Int)<=8 by omega)]
     bv_omega
     exact k H (ak.refl _)
   ·rw [decide_eq_false h3,Bool.false_and,Bool.false_and] at k
    rw [decide_eq_false (show ¬ (3:Int)<=(xs.length:Int) by omega)]
    bv_omega
    exact k H (ak.refl _)
  ·have hv:cA H m x=false:=by
    cases x with
    | ref p =>
     show (match H p with | some (.lst xs)=>_ | _=>false)=_
     split
     ·rename_i xs hp;exact absurd ⟨p,xs,rfl,hp⟩ hs
     ·rfl
    | _=>rfl
   have hne:t≠Tg.lst:=fun e=>by
    subst e
    cases x with
    | ref a =>
     have h':hZ (H a)=some .lst:=ht
     cases e:H a with
     | none=>rw [e] at h';cases h'
     | some o=>rw [e] at h';cases o with
      | lst xs=>exact hs ⟨a,xs,rfl,e⟩
      | frz ob u=>exact hfz a ob u rfl e
      | _=>cases h'
    | _=>cases ht
   rw [hv] at k
   ac_nf
   refine ⟨trivial,t,ht,?_⟩
   cases t <;> first
    | exact absurd rfl hne
    | exact k H (ak.refl _)
def fW:Sp:=fun vs H Q _=>∃ (x:V) (t:Tg),vs=[x]/\eO H x=some t/\(∀ p xs,x=.ref p->H p=some (.tup xs)->xs.length<=1000/\∀ y∈xs,(∃ t,eO H y=some t)/\∀ z,y=.str z->z.length<=10000)/\∀ H',ak H H'->Q (.bl (jT H x)) H'
theorem rF:aA ["thing"] ["thing"] (af eG):=⟨rfl,rfl,rfl,by decide +kernel,rfl,by decide +kernel,by decide +kernel⟩
theorem qW {f:Addr}{fd:FuncData} (F:Fun K "is_entry" "is_entry" eG f fd) (T:Bl mg) (AF:AdF K mg Ad) (C_are_letters:Fnc P w K mg base (CX1 P w) 1 "are_letters" ["thing","most"] dR) (C_are_words:Fnc P w K mg base (CX1 P w) 2 "are_words" ["thing","most"] gS):aX P w K mg base (CX1 P w) 3 f fd ["thing"] fW:=by
 refine F.okX (k:=2) rF (fun vs H Q E h=>?_) (fun cdv A outer s H vs Q E hr h=>?_)
 ·obtain ⟨x,t,rfl,_⟩:=h
  rfl
 ·obtain ⟨x,t,rfl,ht,hit,k⟩:=h
  have hu:=hr.aO
  have hu1:=aZ hr
  refine ⟨_,aa (aW ((i5 (cc (bN (av (cm .tup) T.isinstance bt_isinstance (ag (pvL 0) (ag (fj T.tuple xm) (ae)))))) (i5 (aK (cS (K:=K) rfl hu) (av (bE (K:=K) rfl) T.len di (ag (pvL 0) (ae))) (ai) (aL _)) (gj (cc (bN (av (cm .str) T.isinstance bt_isinstance (ag (bz (cV (K:=K) rfl) (pvL 0) (ai) (fun _ _=>rfl)) (ag (fj T.str lB) (ae))))))))).pt) (ah (aG (fS))) (aJ)) (aa (aW (aK (cS (K:=K) rfl hu) (av (bE (K:=K) rfl) T.len di (ag (pvL 0) (ae))) (ai) (aL _)) (ah (aG (cj (cS (K:=K) rfl hu) (bz (cV (K:=K) rfl) (pvL 0) (ai) (fun _ _=>rfl)) (aF) (aL _)))) (aJ)) (aa (aW (aK (gO (K:=K) rfl hu) (av (bE (K:=K) rfl) T.len di (ag (pvL 0) (ae))) (ai) (aL _)) (ah (aG (fS))) (aJ)) (aa (aW (aK (cS (K:=K) rfl hu) (bz (cV (K:=K) rfl) (pvL 0) (ai) (fun _ _=>rfl)) (aF) (aL _)) (ah (aG (aH C_are_words au (hr.mono (by decide)) (ag (bz (cV (K:=K) rfl) (pvL 0) (ai) (fun _ _=>rfl)) (ag (eY AF.v_MOST_PHRASE_WORDS) (ae)))))) (aJ)) (ah (aG (iz (cj (cS (K:=K) rfl hu) (bz (cV (K:=K) rfl) (pvL 0) (ai) (fun _ _=>rfl)) (aF) (aL _)) (gP (aH C_are_letters au (hr.mono (by decide)) (ag (bz (cV (K:=K) rfl) (pvL 0) (ai) (fun _ _=>rfl)) (ag (eY AF.v_MOST_PART_LETTERS) (ae))))))))))),?_⟩
  by_cases hs:∃ p xs,x=.ref p/\H p=some (.tup xs)
  ·obtain ⟨p,xs,rfl,hp⟩:=hs
   obtain ⟨hl,hty⟩:=hit p xs rfl hp
   have et:t=Tg.tup:=by
    have:hZ (H p)=some t:=ht
    rw [hp] at this;cases this;rfl
   subst et
   have ek:jT H (.ref p)=fh xs:=by
    show (match H p with | some (.tup xs)=>fh xs | _=>false)=_
    rw [hp]
   rw [ek] at k
   have hT:Sq K H p xs:=.t hp
   rw [dG]
   and_intros
   refine ⟨trivial,Tg.tup,ht,?_⟩
   and_intros
   refine ⟨_,hT,?_⟩
   match xs,hT,hty,hl,k with
   | [],hT,hty,hl,k =>
    and_intros
    exact k H (ak.refl _)
   | v::r,hT,hty,hl,k =>
    rw [decide_eq_false (show ¬ (((v::r).length:Nat):Int)=0 by rw [List.length_cons];omega)]
    bv_omega
    have a0:atI (v::r) 0=some v:=bX (xs:=v::r) (j:=0) rfl
    refine ⟨_,v,hT,a0,?_⟩
    obtain ⟨⟨tv,htv⟩,hzv⟩:=hty v List.mem_cons_self
    by_cases hvs:∃ z,v=.str z
    ·obtain ⟨z,rfl⟩:=hvs
     refine ⟨Tg.str,rfl,?_⟩
     and_intros
     rw [dG]
     and_intros
     refine ⟨_,hT,?_⟩
     match r,hT,hty,hl,k with
     | [],hT,hty,hl,k =>
      and_intros
      rw [if_pos (by rfl)]
      refine ⟨_,_,hT,bX (xs:=[V.str z]) (j:=0) rfl,k H (ak.refl _)⟩
     | [y],hT,hty,hl,k =>
      rw [decide_eq_false (show ¬ ((([V.str z,y]:List V).length:Nat):Int)=1 by show ¬ (2:Int)=1;decide)]
      bv_omega
      obtain ⟨⟨ty,hty1⟩,hzy⟩:=hty y (List.mem_cons_of_mem _ List.mem_cons_self)
      have a0:atI [V.str z,y] 0=some (.str z):=bX (xs:=[V.str z,y]) (j:=0) rfl
      have a1:atI [V.str z,y] 1=some y:=bX (xs:=[V.str z,y]) (j:=1) rfl
      rw [dG]
      and_intros
      refine ⟨_,hT,?_⟩
      rw [if_neg (show ¬ (!decide ((([V.str z,y].length:Nat):Int)=2))=true by rw [show [V.str z,y].length=2 from rfl];decide)]
      rw [dG]
      and_intros
      refine ⟨_,_,hT,a0,?_⟩
      and_intros
      have ek2:fh [.str z,y]=if z=("phrase":Str) then fP 6 y else if z=("part":Str) then eP 6 y else false:=rfl
      rw [ek2] at k
      by_cases e1:z=("phrase":Str)
      ·rw [if_pos e1] at k
       rw [decide_eq_true e1]
       bv_omega
       refine ⟨_,_,hT,a1,?_⟩
       exact ⟨y,ty,6,rfl,hty1,hzy,by decide,k⟩
      ·rw [if_neg e1] at k
       rw [decide_eq_false e1]
       bv_omega
       and_intros
       refine ⟨_,_,hT,a0,?_⟩
       and_intros
       by_cases e2:z=("part":Str)
       ·rw [if_pos e2] at k
        rw [decide_eq_true e2]
        bv_omega
        refine ⟨_,_,hT,a1,?_⟩
        exact ⟨y,ty,6,rfl,hty1,(fun w e=>by have:=hzy w e;omega),by decide,k⟩
       ·rw [if_neg e2] at k
        rw [decide_eq_false e2]
        bv_omega
        exact k H (ak.refl _)
     | y::y2::r,hT,hty,hl,k =>
      have hlen:(V.str z::y::y2::r).length=r.length + 3:=rfl
      rw [hlen,decide_eq_false (show ¬ (((r.length + 3:Nat)):Int)=1 by omega)]
      bv_omega
      rw [dG]
      and_intros
      refine ⟨_,hT,?_⟩
      rw [hlen,decide_eq_false (show ¬ (((r.length + 3:Nat)):Int)=2 by omega)]
      bv_omega
      exact k H (ak.refl _)
    ·have hv:fh (v::r)=false:=by
      cases v with
      | str z=>exact absurd ⟨z,rfl⟩ hvs
      | _=>cases r with
       | nil=>rfl
       | cons y r=>cases r <;> rfl
     have hne:=lx htv fun z e=>hvs ⟨z,e⟩
     rw [hv] at k
     refine ⟨tv,htv,?_⟩
     cases tv <;> first
      | exact absurd rfl hne
      | exact k H (ak.refl _)
  ·have hv:jT H x=false:=by
    cases x with
    | ref p =>
     show (match H p with | some (.tup xs)=>fh xs | _=>false)=_
     split
     ·rename_i xs hp;exact absurd ⟨p,xs,rfl,hp⟩ hs
     ·rfl
    | _=>rfl
   have hne:t≠Tg.tup:=fun e=>by
    subst e
    cases x with
    | ref a =>
     have h':hZ (H a)=some .tup:=ht
     cases e:H a with
     | none=>rw [e] at h';cases h'
     | some o=>rw [e] at h';cases o with
      | tup xs=>exact hs ⟨a,xs,rfl,e⟩
      | frz ob u=>cases u <;> cases h'
      | _=>cases h'
    | _=>cases ht
   rw [hv] at k
   rw [dG]
   and_intros
   refine ⟨trivial,t,ht,?_⟩
   cases t <;> first
    | exact absurd rfl hne
    | exact k H (ak.refl _)
def iP:Sp:=fun vs H Q _=>∃ (x:V) (t:Tg),vs=[x]/\eO H x=some t/\Q (.bl (bt 1000000001 x)) H
theorem wy:aA ["thing"] ["thing"] (af gB):=⟨rfl,rfl,rfl,by decide +kernel,rfl,by decide +kernel,by decide +kernel⟩
theorem vW {f:Addr}{fd:FuncData} (F:Fun K "is_day" "is_day" gB f fd) (T:Bl mg) (AF:AdF K mg Ad) (C_is_below:Fnc P w K mg base (CX1 P w) 2 "is_below" ["thing","bound"] dE):aX P w K mg base (CX1 P w) 3 f fd ["thing"] iP:=by
 refine F.okX (k:=2) wy (fun vs H Q E h=>?_) (fun cdv A outer s H vs Q E hr h=>?_)
 ·obtain ⟨x,t,rfl,_⟩:=h
  rfl
 ·obtain ⟨x,t,rfl,ht,k⟩:=h
  have hu:=hr.aO
  have hu1:=aZ hr
  refine ⟨_,ah (aG (aH C_is_below au (hr.mono (by decide)) (ag (pvL 0) (ag (aD aN (eY AF.v_LATEST_DAY) (ai)) (ae))))),?_⟩
  and_intros
  exact ⟨x,t,_,rfl,ht,k⟩
def eN (Ad:Ads):Sp:=fun vs H Q _=>∃ (x dx ca:Addr),vs=[.ref x,.ref ca]/\H x=some (.ins Ad.Editions dx [])/\∀ b dn de cl sd H',H b=none->H dn=none->H de=none->H cl=none->H sd=none->dn≠sd->(∀ c o,c≠x->H c=some o->H' c=some o)->H' x=some (.ins Ad.Editions dx (edF b cl sd 0))->bT Ad H' b ca dn de []->H' cl=some (.lst [])->H' sd=some (.dK [])->Q .non H'
theorem kg:aA ["self","code"] ["self","code"] (af bW):=⟨rfl,rfl,rfl,by decide +kernel,rfl,by decide +kernel,by decide +kernel⟩
theorem jZ {f:Addr}{fd:FuncData} (F:Fun K "__init__" "Editions.__init__" bW f fd) (T:Bl mg) (AF:AdF K mg Ad) (K_Book:Mak P w K mg base (CX1 P w) Ad.Book "Book" 1 ["self","code"] (fw Ad)):aX P w K mg base (CX1 P w) 3 f fd ["self","code"] (eN Ad):=by
 refine F.okX (k:=2) kg (fun vs H Q E h=>?_) (fun cdv A outer s H vs Q E hr h=>?_)
 ·obtain ⟨x,dx,ca,rfl,_⟩:=h
  rfl
 ·obtain ⟨x,dx,ca,rfl,hx,k⟩:=h
  have hu:=hr.aO
  have hu1:=aZ hr
  refine ⟨_,aa (dN (K:=K) rfl (pvL 0) (j9 K_Book au (hr.mono (by decide)) (ag (pvL 1) (ae)))) (aa (dN (K:=K) rfl (pvL 0) (bc (ae))) (aa (dN (K:=K) rfl (pvL 0) (gz)) (ah (dN (K:=K) rfl (pvL 0) (ai))))),?_⟩
  refine ar fun nn hN=>?_
  and_intros
  intro b bx G1 hb hbx hbb t1 g1 g1x
  refine ⟨b,bx,ca,rfl,g1,fun dn de G2 hdn hde ne1 ne2 ne3 k2 g2 gn ge=>⟨rfl,?_⟩⟩
  have nxb:x≠b:=fun z=>by rw [← z,hx] at hb;cases hb
  have hx2:=k2 x _ nxb (t1 _ _ hx)
  have hdn0:H dn=none:=t1.free hdn
  have hde0:H de=none:=t1.free hde
  have nxn:x≠dn:=fun z=>by rw [← z,hx] at hdn0;cases hdn0
  have nxe:x≠de:=fun z=>by rw [← z,hx] at hde0;cases hde0
  refine ⟨_,_,_,hx2,AF.c_Editions,AF.n_Editions_current,by decide,?_⟩
  rw [hN]
  clear hN nn
  have h3:upd G2 x (HO.ins Ad.Editions dx (dj (Str.ofString "current") (V.ref b) [])) x=some (.ins Ad.Editions dx [("current",.ref b)]):=aq
  have k3:∀ c o,c≠x->G2 c=some o->upd G2 x (HO.ins Ad.Editions dx (dj (Str.ofString "current") (V.ref b) [])) c=some o:=fun c o hc e=>by rw [aj hc];exact e
  have f3:∀ c,c≠x->upd G2 x (HO.ins Ad.Editions dx (dj (Str.ofString "current") (V.ref b) [])) c=none->G2 c=none:=fun c hc e=>by rw [aj hc] at e;exact e
  generalize upd G2 x (HO.ins Ad.Editions dx (dj (Str.ofString "current") (V.ref b) []))=G3 at h3 k3 f3
  refine ar fun nn hN=>?_
  and_intros
  refine ⟨Nat.zero_le _,fun cl G4 hcl t4 g4=>⟨_,_,_,t4 _ _ h3,AF.c_Editions,AF.n_Editions_changes,by show 1 < 1000;decide,?_⟩⟩
  rw [hN]
  clear hN nn
  have nxc:x≠cl:=fun z=>by rw [← z,h3] at hcl;cases hcl
  have h5:upd G4 x (HO.ins Ad.Editions dx (dj (Str.ofString "changes") (V.ref cl) [("current",.ref b)])) x=some (.ins Ad.Editions dx [("current",.ref b),("changes",.ref cl)]):=aq
  have k5:∀ c o,c≠x->G4 c=some o->upd G4 x (HO.ins Ad.Editions dx (dj (Str.ofString "changes") (V.ref cl) [("current",.ref b)])) c=some o:=fun c o hc e=>by rw [aj hc];exact e
  have f5:∀ c,c≠x->upd G4 x (HO.ins Ad.Editions dx (dj (Str.ofString "changes") (V.ref cl) [("current",.ref b)])) c=none->G4 c=none:=fun c hc e=>by rw [aj hc] at e;exact e
  generalize upd G4 x (HO.ins Ad.Editions dx (dj (Str.ofString "changes") (V.ref cl) [("current",.ref b)]))=G5 at h5 k5 f5
  refine ar fun nn hN=>?_
  and_intros
  refine fun sd G6 hsd t6 g6=>⟨_,_,_,t6 _ _ h5,AF.c_Editions,AF.n_Editions_struck,by show 2 < 1000;decide,?_⟩
  rw [hN]
  clear hN nn
  have nxs:x≠sd:=fun z=>by rw [← z,h5] at hsd;cases hsd
  have h7:upd G6 x (HO.ins Ad.Editions dx (dj (Str.ofString "struck") (V.ref sd) [("current",.ref b),("changes",.ref cl)])) x=some (.ins Ad.Editions dx [("current",.ref b),("changes",.ref cl),("struck",.ref sd)]):=aq
  have k7:∀ c o,c≠x->G6 c=some o->upd G6 x (HO.ins Ad.Editions dx (dj (Str.ofString "struck") (V.ref sd) [("current",.ref b),("changes",.ref cl)])) c=some o:=fun c o hc e=>by rw [aj hc];exact e
  generalize upd G6 x (HO.ins Ad.Editions dx (dj (Str.ofString "struck") (V.ref sd) [("current",.ref b),("changes",.ref cl)]))=G7 at h7 k7
  and_intros
  refine ⟨_,_,_,h7,AF.c_Editions,AF.n_Editions_latest,by show 3 < 1000;decide,?_⟩
  have e24:∀ c o,c≠x->G2 c=some o->G4 c=some o:=fun c o hc e=>t4 _ _ (k3 c o hc e)
  have e46:∀ c o,c≠x->G4 c=some o->G6 c=some o:=fun c o hc e=>t6 _ _ (k5 c o hc e)
  have e02:∀ c o,H c=some o->G2 c=some o:=fun c o e=>k2 c o (fun z=>by rw [z,hb] at e;cases e) (t1 _ _ e)
  have c2:G2 cl=none:=f3 cl nxc.symm hcl
  have s4:G4 sd=none:=f5 sd nxs.symm hsd
  have fin:∀ c o,c≠x->G6 c=some o->upd G7 x (HO.ins Ad.Editions dx (dj (Str.ofString "latest") (V.int 0) [("current",.ref b),("changes",.ref cl),("struck",.ref sd)])) c=some o:=fun c o hc e=>by rw [aj hc];exact k7 c o hc e
  have fin2:∀ c o,c≠x->G2 c=some o->upd G7 x (HO.ins Ad.Editions dx (dj (Str.ofString "latest") (V.int 0) [("current",.ref b),("changes",.ref cl),("struck",.ref sd)])) c=some o:=fun c o hc e=>fin c o hc (e46 c o hc (e24 c o hc e))
  refine k b dn de cl sd _ hb hdn0 hde0 ?_ ?_ ?_ (fun c o hc e=>fin2 c o hc (e02 c o e)) aq ⟨⟨bx,fin2 _ _ nxb.symm g2⟩,fin2 _ _ nxn.symm gn,fin2 _ _ nxe.symm ge,(fun e he=>by cases he),.nil,.nil⟩ (fin _ _ nxc.symm (e46 _ _ nxc.symm g4)) (fin _ _ nxs.symm g6)
  ·cases e:H cl with
   | none=>rfl
   | some o=>rw [e02 cl o e] at c2;cases c2
  ·cases e:H sd with
   | none=>rfl
   | some o=>rw [e24 sd o nxs.symm (e02 sd o e)] at s4;cases s4
  ·intro z
   rw [← z,e24 dn _ nxn.symm gn] at s4
   cases s4
def lets (b st:Int) (m:Nat):List Nat:=(List.range m).map fun k:Nat=>97 + ((b + st * (k:Int)) % 26).toNat
theorem Aj {b st:Int}{m:Nat} (hm:m<=9) (hs:st=1 ∨ st=25 ∨ st=3 ∨ st=7):(lets b st m).Nodup:=by
 unfold lets
 refine List.pairwise_map.mpr (List.Pairwise.imp_of_mem (R:=(· < ·)) (fun {i j} hi hj hij e=>?_) List.pairwise_lt_range)
 have hi':=List.mem_range.mp hi
 have hj':=List.mem_range.mp hj
 rcases hs with rfl | rfl | rfl | rfl <;> omega
theorem yn {b st:Int}{m:Nat}:∀ c∈lets b st m,97<=c/\c < 123:=fun c hc=>by
 unfold lets at hc
 obtain ⟨k,_,rfl⟩:=List.mem_map.mp hc
 have:=Int.emod_nonneg (b + st * (k:Int)) (show (26:Int)≠0 by decide)
 have:=Int.emod_lt_of_pos (b + st * (k:Int)) (show (0:Int) < 26 by decide)
 omega
def dW (K:PySem.W.Frag):Sp:=fun vs H Q _=>∃ (a:Addr) (ns:List Int),vs=[.ref a]/\SqL K H a (ns.map V.int)/\∀ p q al ws r H',ak H H'->Parts H' p q al ws r->ia al ws r->al.length<=9->3<=ws.length->ws.length<=6->Q (.ref p) H'
theorem bK:aA ["_law_script","_law_cell","_law_some","_law_m","_law_step","_law_alphabet"] ["_law_script"] (af bR):=⟨rfl,rfl,rfl,by decide +kernel,rfl,by decide +kernel,by decide +kernel⟩
theorem j4 {f:Addr}{fd:FuncData} (F:Fun K "_law_code_parts" "_law_code_parts" bR f fd) (T:Bl mg) (AF:AdF K mg Ad) (C_law_weights:Fnc P w K mg base (CX1 P w) 2 "_law_weights" ["_law_cell","_law_m","_law_many_here"] fM) (C_law_mixed:Fnc P w K mg base (CX1 P w) 1 "_law_mixed" ["_law_cell"] dY) (C_law_cell_at:Fnc P w K mg base (CX1 P w) 1 "_law_cell_at" ["_law_script","_law_k"] (dU K)):aX P w K mg base (CX1 P w) 3 f fd ["_law_script"] (dW K):=by
 refine F.okX (k:=2) bK (fun vs H Q E h=>?_) (fun cdv A outer s H vs Q E hr h=>?_)
 ·obtain ⟨a,ns,rfl,_⟩:=h
  rfl
 ·obtain ⟨a,ns,rfl,hS,k⟩:=h
  have hu:=hr.aO
  have hu1:=aZ hr
  refine ⟨_,aa (jD (i:=1) bK.nd (aH C_law_mixed au (hr.mono (by decide)) (ag (aH C_law_cell_at au (hr.mono (by decide)) (ag (pvL 0) (ag (ai) (ae)))) (ae)))) (aa (jD (i:=2) bK.nd (aF)) (aa (az (i:=3) bK.nd (bz (cV (K:=K) rfl) (bc (ag (ai) (ag (ai) (ag (ai) (ag (ai) (ae)))))) (aD bG (pvC 1) (ai)) (fun _ _=>rfl))) (aa (jD (i:=4) bK.nd (bz (cV (K:=K) rfl) (bc (ag (ai) (ag (ai) (ag (ai) (ag (ai) (ae)))))) (aD bG (aD cG (pvC 1) (ai)) (ai)) (fun _ _=>rfl))) (aa (az (i:=5) bK.nd (gh (K:=K) rfl PySem.F.plainAttrs_str PySem.F.slot_str_join PySem.F.type_str_join (yw (K:=K) rfl) (aF) (ag (kI ["_law_k"] rfl ⟨rfl,by decide +kernel,rfl,by decide +kernel⟩ (.cons (j:=2) rfl (.inl (by kernel_rfl)) (.cons (j:=1) rfl (.inl (by kernel_rfl)) (.cons (j:=4) rfl (.inl (by kernel_rfl)) (.nil)))) (by decide +kernel) (gQ T.range (ag (pvL 3) (ae))) (fun _ _ _ _=>ax (i:=0) (show (["_law_k","_law_some","_law_cell","_law_step"]:List Str).Nodup from by decide +kernel)) (fun _ _ _ _=>eS) (fun _ _ _ _=>bz (cV (K:=K) rfl) (pvC 1) (aD bG (aD aN (aD cG (pvC 2) (ai)) (aD lh (pvC 3) (pvL 0))) (ai)) (fun _ _=>rfl))) (ae)))) (ah (aG (bc (ag (pvL 5) (ag (aH C_law_weights au (hr.mono (by decide)) (ag (aD cG (pvC 1) (ai)) (ag (pvL 3) (ag (aD aN (ai) (aD bG (aD cG (pvC 1) (ai)) (ai))) (ae))))) (ag (aD bG (aD cG (pvC 1) (ai)) (pvL 3)) (ae))))))))))),?_⟩
  have big:∀ {u:Nat},u<=1000->u<=sizeLine:=fun hu=>Nat.le_of_lt (ao (by omega))
  refine ar fun nn hN=>?_
  and_intros
  refine ⟨a,ns,0,rfl,hS,by decide,?_⟩
  generalize ns.getD (0:Int).toNat 0=c0
  refine ⟨c0,rfl,?_⟩
  have y0:=pf c0
  generalize yt c0=y at y0
  rw [hN]
  clear hN nn
  refine ar fun nn hN=>?_
  and_intros
  rw [hN]
  clear hN nn
  refine ar fun nn hN=>?_
  and_intros
  obtain ⟨m,hm,hb⟩:∃ m:Nat,(m=3 ∨ m=5 ∨ m=7 ∨ m=9)/\atI [V.int 3,V.int 3,V.int 5,V.int 7] (y % 4)=some (V.int m):=by
   have hy:y % 4=0 ∨ y % 4=1 ∨ y % 4=2 ∨ y % 4=3:=by omega
   rcases hy with e | e | e | e <;> rw [e]
   ·exact ⟨3,.inl rfl,rfl⟩
   ·exact ⟨3,.inl rfl,rfl⟩
   ·exact ⟨5,.inr (.inl rfl),rfl⟩
   ·exact ⟨7,.inr (.inr (.inl rfl)),rfl⟩
  refine ⟨big (by decide),fun p1 H1 hp1 s1 h1=>⟨by decide,_,_,.l h1,hb,?_⟩⟩
  rw [hN]
  clear hN nn hb
  refine ar fun nn hN=>?_
  and_intros
  obtain ⟨st,hst,hb⟩:∃ st:Int,(st=1 ∨ st=25 ∨ st=3 ∨ st=7)/\atI [V.int 1,V.int 25,V.int 3,V.int 7] (y / 4 % 4)=some (V.int st):=by
   have hy:y / 4 % 4=0 ∨ y / 4 % 4=1 ∨ y / 4 % 4=2 ∨ y / 4 % 4=3:=by omega
   rcases hy with e | e | e | e <;> rw [e]
   ·exact ⟨1,.inl rfl,rfl⟩
   ·exact ⟨25,.inr (.inl rfl),rfl⟩
   ·exact ⟨3,.inr (.inr (.inl rfl)),rfl⟩
   ·exact ⟨7,.inr (.inr (.inr rfl)),rfl⟩
  refine ⟨big (by decide),fun p2 H2 hp2 s2 h2=>⟨⟨by decide,by decide⟩,by decide,_,_,.l h2,hb,?_⟩⟩
  rw [hN]
  clear hN nn hb
  refine ar fun nn hN=>?_
  and_intros
  have m9:m<=9:=by omega
  have m3:3<=m:=by omega
  refine ⟨by rfl,by omega,by omega,vS V.int iL (pT m) (by rw [Mk.jy];exact ao (by omega)) (fun x=>.str (tx [97 + ((y / 16 + st * x) % 26).toNat])) ?_ ?_⟩
  ·intro x hx G t R hR
   obtain ⟨x0,x1⟩:=Mk.iM.mp hx
   have f0:=Int.emod_nonneg (y / 16 + st * x) (show (26:Int)≠0 by decide)
   have f1:=Int.emod_lt_of_pos (y / 16 + st * x) (show (0:Int) < 26 by decide)
   and_intros
   refine ⟨⟨by decide,by decide⟩,⟨Nat.lt_of_le_of_lt (show st.natAbs<=1000 by omega) (by decide),Nat.lt_of_le_of_lt (show x.natAbs<=1000 by omega) (by decide)⟩,by decide,big (by decide),97 + ((y / 16 + st * x) % 26).toNat,fg f0 (wL _ (by omega)),hR G (ak.refl _)⟩
  intro D H3 hD s3 h3
  have el:H3 D=some (.lst ((lets (y / 16) st m).map fun c=>V.str (tx [c]))):=by
   rw [h3]
   unfold lets Mk.ofN
   rw [List.map_map,List.map_map];rfl
  and_intros
  refine ⟨(lets (y / 16) st m).map fun c=>tx [c],Ca el,BZ (by unfold lets;rw [List.length_map,List.length_range];omega),?_⟩
  rw [Ae]
  rw [hN]
  clear hN nn
  have ll:(lets (y / 16) st m).length=m:=by unfold lets;rw [List.length_map,List.length_range]
  have lnd:=Aj (b:=y / 16) m9 hst
  have labc:=yn (b:=y / 16) (st:=st) (m:=m)
  generalize lets (y / 16) st m=al at ll lnd labc
  and_intros
  have w0:0<=y / 64 % 2/\y / 64 % 2 < 2:=by omega
  refine ⟨⟨by decide,by decide⟩,⟨by decide,by decide⟩,by decide,y / 1000,m,_,rfl,by omega,by omega,by omega,by omega,fun q H4 hq s4 h4=>?_⟩
  refine ⟨⟨by decide,by decide⟩,by omega,big (by decide),fun p H5 hp s5 h5=>?_⟩
  have wl:=Mk.AU (y / 1000) (m:Int) (3 + y / 64 % 2).toNat
  have wm:=Mk.AV (m:=(m:Int)) (by omega) (y / 1000) (3 + y / 64 % 2).toNat
  have wsf:=Mk.zH (m:=(m:Int)) (by omega) (by omega) (by omega) (y / 1000) (3 + y / 64 % 2).toNat
  refine k p q al _ _ H5 (s1.trans (s2.trans (s3.trans (s4.trans s5)))) ⟨h5,s5 _ _ h4⟩ ⟨by omega,by omega,lnd,labc,by omega,by omega,?_,?_,?_⟩ (by omega) (by omega) (by omega)
  ·rw [ll];exact wm
  ·rw [ll];exact wsf
  ·rw [ll]
   exact ⟨Int.emod_nonneg _ (by omega),Int.emod_lt_of_pos _ (by omega)⟩
theorem nE {b:Int}:∀ {xs:List V},xs.all (bt b)=true->∃ ws:List Int,xs=ws.map V.int/\∀ x∈ws,0<=x/\x < b
 | [],_=>⟨[],rfl,fun _ h=>nomatch h⟩
 | y::ys,h=>by
  rw [List.all_cons,Bool.and_eq_true] at h
  obtain ⟨ws,e,hw⟩:=nE h.2
  cases y with
  | int i =>
   have h1:(decide (0<=i) && decide (i < b))=true:=h.1
   rw [Bool.and_eq_true,decide_eq_true_eq,decide_eq_true_eq] at h1
   refine ⟨i::ws,by rw [e];rfl,fun x hx=>?_⟩
   cases hx with
   | head=>exact h1
   | tail _ hx=>exact hw x hx
  | _=>cases h.1
theorem zN {H:Hp}{b:Int}{x:V} (h:cA H b x=true):∃ (p:Addr) (ws:List Int),x=.ref p/\H p=some (.lst (ws.map V.int))/\3<=ws.length/\ws.length<=8/\∀ y∈ws,0<=y/\y < b:=by
 cases x with
 | ref p =>
  have h1:(match H p with | some (.lst xs)=>decide (3<=xs.length) && decide (xs.length<=8) && xs.all (bt b) | _=>false)=true:=h
  split at h1
  ·rename_i xs e
   simp only [Bool.and_eq_true,decide_eq_true_eq] at h1
   obtain ⟨ws,e1,hw⟩:=nE h1.2
   subst e1
   rw [List.length_map] at h1
   exact ⟨p,ws,rfl,e,h1.1.1,h1.1.2,hw⟩
  ·cases h1
 | _=>cases h
inductive dQ (Ad:Ads) (vs:List V) (H:Hp) (Q:VK) (E:XK):Prop
 | mk (a dx:Addr) (xa xw xr:V) (ta tw tr:Tg) (q0:vs=[.ref a,xa,xw,xr]) (q1:H a=some (.ins Ad.Code dx [])) (q2:eO H xa=some ta) (q3:eO H xw=some tw) (q4:eO H xr=some tr) (q5:(∀ z,xa=.str z->z.length<=4000)) (q6:(∀ p o u,xw=.ref p->H p≠some (.frz o u))) (q7:(∀ p xs,xw=.ref p->H p=some (.lst xs)->xs.length<=1000/\∀ y∈xs,∃ t,eO H y=some t)) (q8:(zP H xa xw xr->∀ H',ak H H'->E (.ref Ad.NoCode) none H')) (q9:(∀ al p ws r,lH H xa xw xr al p ws r->∀ q H',H q=none->(∀ b o,b≠a->H b=some o->H' b=some o)->H' a=some (.ins Ad.Code dx (lF al q r))->H' q=some (.lst (ws.map V.int))->Q .non H')):dQ Ad vs H Q E
theorem vM {Ad:Ads}{H:Hp}{ca cd qn:Addr}{al:List Nat}{ws:List Int}{r:Int}{Q:VK}{E:XK} (ha:H ca=some (.ins Ad.Code cd [])) (hq:H qn=some (.lst (ws.map V.int))) (ok:ia al ws r)
  (k:∀ H',(∀ b o,b≠ca->H b=some o->H' b=some o)->gb Ad H' ca al ws r->Q .non H'):dQ Ad [.ref ca,.str (tx al),.ref qn,.int r] H Q E:=by
 have g26:=ok.a26
 have w8:=ok.w8
 refine ⟨ca,cd,.str (tx al),.ref qn,.int r,Tg.str,Tg.lst,Tg.int,rfl,ha,rfl,?_,rfl,?_,?_,?_,?_,?_⟩
 ·show hZ (H qn)=_
  rw [hq];rfl
 ·intro z e
  cases e
  rw [dw];omega
 ·intro p o u e e2
  cases e
  rw [hq] at e2;cases e2
 ·intro p xs e e2
  cases e
  rw [hq] at e2
  cases e2
  refine ⟨by rw [List.length_map];omega,fun y hy=>?_⟩
  obtain ⟨x,_,rfl⟩:=List.mem_map.mp hy
  exact ⟨Tg.int,rfl⟩
 ·intro hb
  exact absurd ⟨rfl,rfl,hq,rfl,ok⟩ (hb al qn ws r)
 ·intro al' p ws' r' hm q H' hq' hs h1 h2
  obtain ⟨e1,e2,e3,e4,_⟩:=hm
  have ea:al=al':=by injection e1 with e1;exact tJ e1
  have er:r=r':=by injection e4
  have ep:qn=p:=by injection e2
  subst ea er ep
  rw [hq] at e3
  have e6:ws.map V.int=ws'.map V.int:=by injection e3 with e3;injection e3
  have ew:ws=ws':=(List.map_inj_right (fun x y h=>by injection h)).mp e6
  subst ew
  exact k H' hs ⟨cd,q,h1,h2⟩
theorem jH:aA ["self","alphabet","weights","rest","m"] ["self","alphabet","weights","rest"] (af d4):=⟨rfl,rfl,rfl,by decide +kernel,rfl,by decide +kernel,by decide +kernel⟩
theorem pw {f:Addr}{fd:FuncData} (F:Fun K "__init__" "Code.__init__" d4 f fd) (T:Bl mg) (AF:AdF K mg Ad) (C_are_safe:Fnc P w K mg base (CX1 P w) 2 "are_safe" ["weights","m"] iC) (C_is_below:Fnc P w K mg base (CX1 P w) 2 "is_below" ["thing","bound"] dE) (C_are_weights:Fnc P w K mg base (CX1 P w) 3 "are_weights" ["thing","m"] fK) (C_is_alphabet:Fnc P w K mg base (CX1 P w) 1 "is_alphabet" ["thing"] fL):aX P w K mg base (CX1 P w) 4 f fd ["self","alphabet","weights","rest"] (dQ Ad):=by
 refine F.okX (k:=3) jH (fun vs H Q E h=>?_) (fun cdv A outer s H vs Q E hr h=>?_)
 ·obtain ⟨a,dx,xa,xw,xr,ta,tw,tr,rfl,_⟩:=h
  rfl
 ·obtain ⟨a,dx,xa,xw,xr,ta,tw,tr,rfl,ha,hta,htw,htr,hza,hfz,hit,kE,kQ⟩:=h
  have hu:=hr.aO
  have hu1:=aZ hr
  refine ⟨_,aa (aW (cc (bN (aH C_is_alphabet au (hr.mono (by decide)) (ag (pvL 1) (ae))))) (ah (cp PySem.F.excBase_ValueError AF.q_NoCode AF.g_NoCode bP rfl (ag (aF) (ae)))) (aJ)) (aa (az (i:=4) jH.nd (av (bE (K:=K) rfl) T.len di (ag (pvL 1) (ae)))) (aa (aW (cc (bN (aH C_are_weights au (hr.mono (by decide)) (ag (pvL 2) (ag (pvL 4) (ae)))))) (ah (cp PySem.F.excBase_ValueError AF.q_NoCode AF.g_NoCode bP rfl (ag (aF) (ae)))) (aJ)) (aa (aW (cc (bN (aH C_is_below au (hr.mono (by decide)) (ag (pvL 3) (ag (pvL 4) (ae)))))) (ah (cp PySem.F.excBase_ValueError AF.q_NoCode AF.g_NoCode bP rfl (ag (aF) (ae)))) (aJ)) (aa (aW (cc (bN (aH C_are_safe au (hr.mono (by decide)) (ag (pvL 2) (ag (pvL 4) (ae)))))) (ah (cp PySem.F.excBase_ValueError AF.q_NoCode AF.g_NoCode bP rfl (ag (aF) (ae)))) (aJ)) (aa (dN (K:=K) rfl (pvL 0) (pvL 1)) (aa (dN (K:=K) rfl (pvL 0) (fH (iZ (K:=K) rfl rfl) T.list kX (ag (pvL 2) (ae)))) (ah (dN (K:=K) rfl (pvL 0) (pvL 3))))))))),?_⟩
  rw [dG]
  and_intros
  refine ⟨xa,ta,rfl,hta,hza,fun H1 s1=>?_⟩
  and_intros
  cases hA:eU xa with
  | false =>
   bv_omega
   refine ⟨by decide,kE (fun al p ws r ⟨e1,_,_,_,e5⟩=>?_) H1 s1⟩
   have:eU xa=true:=by
    rw [e1]
    show dI (tx al).cps.toList=true
    rw [kj]
    unfold dI
    rw [decide_eq_true e5.a3,decide_eq_true e5.a26,decide_eq_true e5.nd,List.all_eq_true.mpr fun c hc=>decide_eq_true (e5.abc c hc)];rfl
   rw [hA] at this;cases this
  | true =>
   bv_omega
   obtain ⟨z,rfl⟩:∃ z,xa=.str z:=by
    cases xa with
    | str z=>exact ⟨z,rfl⟩
    | _=>cases hA
   have hA':dI z.cps.toList=true:=hA
   have hz:=eQ z
   unfold dI at hA'
   simp only [Bool.and_eq_true,decide_eq_true_eq,List.all_eq_true] at hA'
   obtain ⟨⟨⟨g3,g26⟩,gnd⟩,gabc⟩:=hA'
   rw [dG]
   and_intros
   refine ⟨Nat.le_of_lt (ao (by omega)),?_⟩
   and_intros
   rw [dG]
   and_intros
   refine ⟨xw,tw,_,rfl,jM s1 htw,fun p o u e e2=>?_,fun p xs e e2=>?_,fun H2 s2=>?_⟩
   ·subst e
    have:hZ (H p)=some tw:=htw
    cases e3:H p with
    | none=>rw [e3] at this;cases this
    | some ob =>
     have e4:=s1 p ob e3
     rw [e2] at e4
     cases e4
     exact hfz p o u rfl e3
   ·subst e
    have:hZ (H p)=some tw:=htw
    cases e3:H p with
    | none=>rw [e3] at this;cases this
    | some ob =>
     have e4:=s1 p ob e3
     rw [e2] at e4
     cases e4
     obtain ⟨i1,i2⟩:=hit p xs rfl e3
     exact ⟨i1,fun y hy=>by obtain ⟨ty,hty⟩:=i2 y hy;exact ⟨ty,jM s1 hty⟩⟩
   and_intros
   have eW:cA H1 (z.length:Int) xw=cA H (z.length:Int) xw:=by
    cases xw with
    | ref p =>
     have:hZ (H p)=some tw:=htw
     cases e3:H p with
     | none=>rw [e3] at this;cases this
     | some ob =>
      show (match H1 p with | some (.lst xs)=>_ | _=>false)=(match H p with | some (.lst xs)=>_ | _=>false)
      rw [s1 p ob e3,e3]
    | _=>rfl
   rw [eW]
   cases hW:cA H (z.length:Int) xw with
   | false =>
    bv_omega
    refine ⟨by decide,kE (fun al p ws r ⟨e1,e2,e3,_,e5⟩=>?_) H2 (s1.trans s2)⟩
    have hal:z=tx al:=by cases e1;rfl
    have:cA H (z.length:Int) xw=true:=by
     rw [e2,hal,dw]
     show (match H p with | some (.lst xs)=>decide (3<=xs.length) && decide (xs.length<=8) && xs.all (bt (al.length:Int)) | _=>false)=true
     rw [e3]
     simp only [List.length_map]
     rw [decide_eq_true e5.w3,decide_eq_true e5.w8,List.all_map,List.all_eq_true.mpr];rfl
     intro x hx
     have:=e5.wm x hx
     show (decide (0<=x) && decide (x < (al.length:Int)))=true
     rw [decide_eq_true this.1,decide_eq_true this.2];rfl
    rw [hW] at this;cases this
   | true =>
    bv_omega
    rw [dG]
    and_intros
    refine ⟨xr,tr,_,rfl,jM (s1.trans s2) htr,?_⟩
    and_intros
    cases hB:bt (z.length:Int) xr with
    | false =>
     bv_omega
     refine ⟨by decide,kE (fun al p ws r ⟨e1,e2,e3,e4,e5⟩=>?_) H2 (s1.trans s2)⟩
     have hal:z=tx al:=by cases e1;rfl
     have:bt (z.length:Int) xr=true:=by
      rw [e4,hal,dw]
      show (decide (0<=r) && decide (r < (al.length:Int)))=true
      rw [decide_eq_true e5.rm.1,decide_eq_true e5.rm.2];rfl
     rw [hB] at this;cases this
    | true =>
     bv_omega
     obtain ⟨r,rfl⟩:∃ r,xr=.int r:=by
      cases xr with
      | int r=>exact ⟨r,rfl⟩
      | _=>cases hB
     have hB':(decide (0<=r) && decide (r < (z.length:Int)))=true:=hB
     rw [Bool.and_eq_true,decide_eq_true_eq,decide_eq_true_eq] at hB'
     obtain ⟨p,ws,rfl,hp,w3,w8,wm⟩:=zN hW
     have hp2:H2 p=some (.lst (ws.map V.int)):=s2 _ _ (s1 _ _ hp)
     rw [dG]
     and_intros
     refine ⟨p,ws,_,rfl,hp2,by omega,fun H3 s3=>?_⟩
     and_intros
     have s03:ak H H3:=(s1.trans s2).trans s3
     have el:(z.length:Int)=(z.cps.toList.length:Int):=by rw [hz]
     cases hS:Mk.safe (z.length:Int) ws with
     | false =>
      bv_omega
      refine ⟨by decide,kE (fun al p' ws' r' ⟨e1,e2,e3,e4,e5⟩=>?_) H3 s03⟩
      have hal:z=tx al:=by cases e1;rfl
      have hpp:p'=p:=by cases e2;rfl
      subst hpp
      have hww:ws'=ws:=by
       rw [hp] at e3
       have e6:ws.map V.int=ws'.map V.int:=by injection e3 with e3;injection e3
       exact (List.map_inj_right (fun x y h=>by injection h)).mp e6.symm
      subst hww
      have:=e5.safe
      rw [hal,dw] at hS
      rw [hS] at this;cases this
     | true =>
      bv_omega
      have ha3:=s03 _ _ ha
      have hp3:H3 p=some (.lst (ws.map V.int)):=s03 _ _ hp
      have hne:p≠a:=fun e=>by rw [e,ha] at hp;cases hp
      have hM:lH H (.str z) (.ref p) (.int r) z.cps.toList p ws r:=⟨by rw [oI],rfl,hp,rfl,⟨g3,g26,gnd,gabc,w3,w8,by rw [← el];exact wm,by rw [← el];exact hS,by rw [← el];exact hB'⟩⟩
      ac_nf
      refine ⟨_,_,_,ha3,AF.c_Code,AF.n_Code_letters,by decide,ws.map V.int,.inl (.inl (.of (by rw [aj hne];exact hp3))),fun q H4 hq s4 h4=>?_⟩
      have ha4:=s4 a _ aq
      refine ⟨_,_,_,ha4,AF.c_Code,AF.n_Code_factors,Nat.lt_of_le_of_lt (Nat.le_refl 1) (by decide),_,_,_,aq,AF.c_Code,AF.n_Code_remainder,Nat.lt_of_le_of_lt (Nat.le_refl 2) (by decide),?_⟩
      have hqa:q≠a:=fun e=>by rw [e,aq] at hq;cases hq
      rw [aj hqa] at hq
      have hq0:H q=none:=by
       cases e:H q with
       | none=>rfl
       | some o=>rw [s03 q o e] at hq;cases hq
      refine kQ z.cps.toList p ws r hM q _ hq0 (fun b o hb e=>?_) ?_ ?_
      ·rw [aj hb,aj hb]
       exact s4 b o (by rw [aj hb];exact s03 b o e)
      ·rw [aq]
       unfold lF
       rw [oI]
       rfl
      ·rw [aj hqa,aj hqa];exact h4
theorem rY {b k:Int} (h0:0<=k) (h1:k < b):bt b (.int k)=true:=by
 show (decide (0<=k) && decide (k < b))=true
 rw [decide_eq_true h0,decide_eq_true h1];rfl
inductive cx (Ad:Ads) (spf:Sp) (vs:List V) (H:Hp) (Q:VK) (E:XK):Prop
 | mk (b ca dn de f t:Addr) (es:List Ben) (al:List Nat) (ws:List Int) (r n:Int) (key:List Key) (y:V) (bar:Int->Bool) (q0:vs=[.ref b,.ref t,y,.ref f]) (q1:bT Ad H b ca dn de es) (q2:gb Ad H ca al ws r) (q3:ia al ws r) (q4:Bar spf bar H) (q5:H t=some (.tup (key.map kV))) (q6:fF key) (q7:es.length < 300) (q8:((key∈es.map (·.key)/\(∀ H',ak H H'->E (.ref Ad.Twice) none H')) ∨ (key ∉ es.map (·.key)/\y=.int n/\0<=n/\n < ck al ws/\n ∉ es.map (·.num)/\bar n=false/\∀ H',ak H H'->Q (.int n) H') ∨ (key ∉ es.map (·.key)/\y=.int n/\0<=n/\n < ck al ws/\(n∈es.map (·.num) ∨ bar n=true)/\∀ H',ak H H'->E (.ref Ad.NoNumber) none H') ∨ (key ∉ es.map (·.key)/\y=.non/\ib (es.map (·.num)) bar n/\n < ck al ws/\∀ H',ak H H'->Q (.int n) H') ∨ (key ∉ es.map (·.key)/\y=.non/\ib (es.map (·.num)) bar n/\ck al ws<=n/\∀ H',ak H H'->E (.ref Ad.TooMany) none H'))):cx Ad spf vs H Q E
theorem mS:aA ["self","entry","number","is_barred"] ["self","entry","number","is_barred"] (af cI):=⟨rfl,rfl,rfl,by decide +kernel,rfl,by decide +kernel,by decide +kernel⟩
theorem mF {f:Addr}{fd:FuncData}{k:Nat} (F:Fun K "choose" "Book.choose" cI f fd) (T:Bl mg) (AF:AdF K mg Ad) (C_is_below:Fnc P w K mg base (CX1 P w) 2 "is_below" ["thing","bound"] dE) (C_is_entry:Fnc P w K mg base (CX1 P w) 3 "is_entry" ["thing"] fW) (M_Book_least_free:lz P w K mg base (CX1 P w) Ad.Book "least_free" 2 1 ["self","is_barred"] (cD Ad)) (M_Code_many:Mtd P w K mg base (CX1 P w) Ad.Code "many" 1 ["self"] (fz Ad)):pZ P w K mg base (CX1 P w) (k + 4) f fd ["self","entry","number","is_barred"] (AM P w K mg base k 1 (cx Ad)):=by
 refine F.okH (j:=k + 3) (k:=k) (n:=1) mS (fun spf vs H Q E h=>?_) (fun cdv A outer s H vs Q E hr lf spf hlf lam step h=>?_)
 ·obtain ⟨b,ca,dn,de,f,t,es,al,ws,r,n,key,y,bar,rfl,_⟩:=h
  rfl
 ·obtain ⟨b,ca,dn,de,f,t,es,al,ws,r,n,key,y,bar,rfl,B,C,ok,Fb,ht,eo,h300,ks⟩:=h
  obtain rfl:f=lf:=by cases hlf;rfl
  obtain ⟨dx,h1⟩:=B.bk
  have hu:=hr.aO
  have hu1:=aZ hr
  refine ⟨_,aa (aW (cc (bN (aH C_is_entry au (hr.mono (by omega)) (ag (pvL 1) (ae))))) (ah (cp PySem.F.excBase_ValueError AF.q_NoEntry AF.g_NoEntry bP rfl (ag (aF) (ae)))) (aJ)) (aa (aW (aK (ka (K:=K) rfl hu1) (pvL 1) (aY (K:=K) rfl (pvL 0)) (by kernel_rfl)) (ah (cp PySem.F.excBase_ValueError AF.q_Twice AF.g_Twice bP rfl (ag (aF) (ae)))) (aJ)) (aa (aW (aK iN (pvL 2) (gi) (aL _)) (aa (aW (cc (bN (aH C_is_below au (hr.mono (by omega)) (ag (pvL 2) (ag (dy M_Code_many au (hr.mono (by omega)) (aY (K:=K) rfl (pvL 0))) (ae)))))) (ah (cp PySem.F.excBase_ValueError AF.q_NoNumber AF.g_NoNumber bP rfl (ag (aF) (ae)))) (aJ)) (ah (aW ((i5 (aK (ka (K:=K) rfl hu1) (pvL 2) (aY (K:=K) rfl (pvL 0)) (by kernel_rfl)) (gj (bN (kH step rfl (hr.mono (by omega)) (pvL 3) (ag (pvL 2) (ae)))))).pt) (ah (cp PySem.F.excBase_ValueError AF.q_NoNumber AF.g_NoNumber bP rfl (ag (aF) (ae)))) (aJ)))) (aJ)) (aa (aW (aK (sP (K:=K) rfl hu) (av vm T.len di (ag (aY (K:=K) rfl (pvL 0)) (ae))) (eY AF.v_MOST_ENTRIES) (aL _)) (ah (cp PySem.F.excBase_ValueError AF.q_TooMany AF.g_TooMany bP rfl (ag (aF) (ae)))) (aJ)) (ah (aG (j8 (aK sQ (pvL 2) (gi) (aL _)) (wg M_Book_least_free step rfl rfl au (hr.mono (by omega)) (pvL 0) (pvL 3)) (pvL 2))))))),?_⟩
  refine ar fun nn hN=>?_
  and_intros
  refine ⟨_,.tup,rfl,(show hZ (H t)=_ by rw [ht];rfl),(fun p xs ep hp=>?_),fun G1 t1=>?_⟩
  ·cases ep
   rw [ht] at hp
   cases hp
   refine ⟨by rw [List.length_map];have:=eo.few;omega,fun v hv=>?_⟩
   obtain ⟨z,hz,rfl⟩:=List.mem_map.mp hv
   exact ⟨Cc H z,fun s es=>eo.short s (by rw [← es];exact hv)⟩
  rw [uw ht eo]
  and_intros
  rw [hN]
  clear hN nn
  have B1:=B.same t1
  obtain ⟨dx1,h11⟩:=B1.bk
  refine ar fun nn hN=>?_
  and_intros
  refine ⟨_,dx1,_,_,h11,AF.c_Book,AF.n_Book_by_entry,iI ca dn de,?_⟩
  refine .inr ⟨_,.inr ⟨_,key,t,.inl B1.he,rfl,t1 _ _ ht,rfl⟩,?_⟩
  by_cases hk:key∈es.map (·.key)
  ·obtain ⟨e,he,rfl⟩:=List.mem_map.mp hk
   rw [show bS (hV es) e.key=some (V.int e.num) from ly (f:=fun e:Ben=>e.key) B.nk he]
   bv_omega
   rcases ks with ⟨_,k⟩ | ⟨h,_⟩ | ⟨h,_⟩ | ⟨h,_⟩ | ⟨h,_⟩
   ·exact ⟨Nat.le_of_lt (ao (by decide)),k G1 t1⟩
   all_goals exact absurd hk h
  rw [sh hk]
  bv_omega
  show nn _ _ _
  rw [hN]
  clear hN nn
  refine kY (fun σ G=>σ=[some (V.ref b),some (V.ref t),some y,some (V.ref f)]/\ak H G/\((y=.int n/\∀ H',ak H H'->Q (.int n) H') ∨ (y=.non/\ib (es.map (·.num)) bar n/\((n < ck al ws/\∀ H',ak H H'->Q (.int n) H') ∨ (ck al ws<=n/\∀ H',ak H H'->E (.ref Ad.TooMany) none H'))))) ?_ ?_
  ·rintro σ G2 ⟨rfl,t2,hz⟩
   have B2:=B.same t2
   obtain ⟨dx2,h12⟩:=B2.bk
   refine ar fun nn hN=>?_
   and_intros
   refine ⟨_,dx2,_,_,h12,AF.c_Book,AF.n_Book_by_number,eA ca dn de,?_⟩
   and_intros
   refine ⟨_,.inl B2.hn,?_⟩
   and_intros
   rw [jx,decide_eq_false (show ¬ (300:Int)<=(es.length:Int) by omega)]
   bv_omega
   show nn _ _ _
   rw [hN]
   clear hN nn
   rcases hz with ⟨rfl,k⟩ | ⟨rfl,Lf,k⟩
   ·and_intros
    exact k G2 t2
   ·and_intros
    refine ⟨dx2,_,h12,cb (by decide) (by decide) (by decide) ca dn de,trivial,lam.same t2,b,ca,dn,de,f,es,al,ws,r,n,bar,rfl,B2,C.same t2,ok,Fb.same t2,Lf,k.imp (fun ⟨u,k⟩=>⟨u,fun G3 t3=>k G3 (t2.trans t3)⟩) fun ⟨u,k⟩=>⟨u,fun G3 t3=>k G3 (t2.trans t3)⟩⟩
  ·intro U hU
   have em:(al.length:Int) ^ (ws.length - 1)=ck al ws:=rfl
   rcases ks with ⟨h,_⟩ | ks
   ·exact absurd h hk
   by_cases hy:y=.int n
   ·subst hy
    obtain ⟨n0,n1,kk⟩:0<=n/\n < ck al ws/\((n ∉ es.map (·.num)/\bar n=false/\∀ H',ak H H'->Q (.int n) H') ∨ ((n∈es.map (·.num) ∨ bar n=true)/\∀ H',ak H H'->E (.ref Ad.NoNumber) none H')):=by
     rcases ks with ⟨_,_,a,b,c,d,e⟩ | ⟨_,_,a,b,c,d⟩ | ⟨_,e,_⟩ | ⟨_,e,_⟩
     ·exact ⟨a,b,.inl ⟨c,d,e⟩⟩
     ·exact ⟨a,b,.inr ⟨c,d⟩⟩
     ·cases e
     ·cases e
    have C1:=C.same t1
    obtain ⟨dc,qc,hc1,hc2⟩:=id C1
    and_intros
    refine ar fun n2 hM=>?_
    and_intros
    refine ⟨_,dx1,_,_,h11,AF.c_Book,AF.n_Book_basis,ic ca dn de,?_⟩
    refine ⟨dc,_,hc1,lG (by decide) (by decide) (by decide) al qc r,ca,al,ws,r,rfl,C1,ok.a26,by have:=ok.w3;omega,ok.w8,fun G2 t2=>?_⟩
    refine ⟨_,.int,_,rfl,rfl,?_⟩
    rw [rY (b:=(al.length:Int) ^ (ws.length - 1)) n0 n1]
    and_intros
    rw [hM]
    clear hM n2
    have t02:=t1.trans t2
    have B2:=B.same t02
    obtain ⟨dx2,h12⟩:=B2.bk
    and_intros
    refine ⟨_,dx2,_,_,h12,AF.c_Book,AF.n_Book_by_number,eA ca dn de,?_⟩
    refine .inr ⟨_,.inl ⟨_,.inl n,.inl B2.hn,rfl,rfl⟩,?_⟩
    rw [sJ B.nn]
    by_cases hm:n∈es.map (·.num)
    ·rw [decide_eq_true hm,if_pos rfl]
     rcases kk with ⟨a,_⟩ | ⟨_,k⟩
     ·exact absurd hm a
     ·exact ⟨Nat.le_of_lt (ao (by decide)),k G2 t02⟩
    ·rw [decide_eq_false hm,if_neg (by decide)]
     refine ⟨trivial,lam.same t02,lam.same t02,trivial,Fb.same t02 n G2 _ (ak.refl _) fun G3 t3=>⟨_,rfl,?_⟩⟩
     rcases kk with ⟨_,b,k⟩ | ⟨a,k⟩
     ·rw [b,if_neg (by decide)]
      exact hU _ _ ⟨rfl,t02.trans t3,.inl ⟨rfl,k⟩⟩
     ·rw [a.resolve_left hm,if_pos rfl]
      exact ⟨Nat.le_of_lt (ao (by decide)),k G3 (t02.trans t3)⟩
   ·obtain ⟨rfl,Lf,kk⟩:y=.non/\ib (es.map (·.num)) bar n/\((n < ck al ws/\∀ H',ak H H'->Q (.int n) H') ∨ (ck al ws<=n/\∀ H',ak H H'->E (.ref Ad.TooMany) none H')):=by
     rcases ks with ⟨_,e,_⟩ | ⟨_,e,_⟩ | ⟨_,a,b,c,d⟩ | ⟨_,a,b,c,d⟩
     ·exact absurd e hy
     ·exact absurd e hy
     ·exact ⟨a,b,.inl ⟨c,d⟩⟩
     ·exact ⟨a,b,.inr ⟨c,d⟩⟩
    and_intros
    exact hU _ _ ⟨rfl,t1,.inr ⟨rfl,Lf,kk⟩⟩
theorem xC {xs:List V} (h:fh xs=true):∃ key:List Key,xs=key.map kV:=by
 cases xs with
 | nil=>cases h
 | cons a r =>
  cases a with
  | str z =>
   cases r with
   | nil=>exact ⟨[.inr z],rfl⟩
   | cons y r2 =>
    cases r2 with
    | cons _ _=>cases h
    | nil =>
     have h':(if z=("phrase":Str) then fP 6 y else if z=("part":Str) then eP 6 y else false)=true:=h
     cases y with
     | str y=>exact ⟨[.inr z,.inr y],rfl⟩
     | _ =>
      exfalso
      split at h'
      ·cases h'
      ·split at h'
       ·cases h'
       ·cases h'
  | _=>cases h
inductive dO (Ad:Ads) (vs:List V) (H:Hp) (Q:VK) (E:XK):Prop
 | mk (b ca dn de:Addr) (es:List Ben) (x:V) (t:Tg) (q0:vs=[.ref b,x]) (q1:bT Ad H b ca dn de es) (q2:eO H x=some t) (q3:(∀ p xs,x=.ref p->H p=some (.tup xs)->xs.length<=1000/\∀ y∈xs,(∃ t,eO H y=some t)/\∀ z,y=.str z->z.length<=10000)) (q4:(jT H x=false->∀ H',ak H H'->Q .non H')) (q5:(∀ p key,x=.ref p->H p=some (.tup (key.map kV))->fh (key.map kV)=true->(∀ e∈es,e.key=key->∀ H',ak H H'->Q (.int e.num) H')/\(key ∉ es.map (·.key)->∀ H',ak H H'->Q .non H'))):dO Ad vs H Q E
theorem mT:aA ["self","entry"] ["self","entry"] (af cJ):=⟨rfl,rfl,rfl,by decide +kernel,rfl,by decide +kernel,by decide +kernel⟩
theorem mG {f:Addr}{fd:FuncData} (F:Fun K "number" "Book.number" cJ f fd) (T:Bl mg) (AF:AdF K mg Ad) (C_is_entry:Fnc P w K mg base (CX1 P w) 3 "is_entry" ["thing"] fW):aX P w K mg base (CX1 P w) 4 f fd ["self","entry"] (dO Ad):=by
 refine F.okX (k:=3) mT (fun vs H Q E h=>?_) (fun cdv A outer s H vs Q E hr h=>?_)
 ·obtain ⟨b,ca,dn,de,es,x,t,rfl,_⟩:=h
  rfl
 ·obtain ⟨b,ca,dn,de,es,x,t,rfl,B,ht,hx,k1,k2⟩:=h
  have hu:=hr.aO
  have hu1:=aZ hr
  refine ⟨_,aa (aW (cc (bN (aH C_is_entry au (hr.mono (by decide)) (ag (pvL 1) (ae))))) (ah (aG (gi))) (aJ)) (ah (aG (oz hu1 (aY (K:=K) rfl (pvL 0)) (pvL 1)))),?_⟩
  refine ar fun nn hN=>?_
  and_intros
  refine ⟨x,t,rfl,ht,hx,fun H1 s1=>⟨_,rfl,?_⟩⟩
  cases hv:jT H x with
  | false =>
   bv_omega
   exact k1 hv H1 s1
  | true =>
   bv_omega
   show nn _ _ _
   rw [hN]
   clear hN nn
   cases x with
   | ref p =>
    have hv':(match H p with | some (.tup xs)=>fh xs | _=>false)=true:=hv
    cases hp:H p with
    | none=>rw [hp] at hv';cases hv'
    | some o =>
     rw [hp] at hv'
     cases o with
     | tup xs =>
      obtain ⟨key,rfl⟩:=xC hv'
      obtain ⟨q1,q2⟩:=k2 p key rfl hp hv'
      have B1:=B.same s1
      obtain ⟨dx1,h11⟩:=B1.bk
      and_intros
      refine ⟨_,dx1,_,_,h11,AF.c_Book,AF.n_Book_by_entry,iI ca dn de,de,rfl,.inr ⟨_,.inl B1.he⟩,_,gc.t (k:=key) B1.he (s1 _ _ hp),?_⟩
      by_cases hm:key∈es.map (·.key)
      ·obtain ⟨e,he,ee⟩:=List.mem_map.mp hm
       rw [← ee,ux B.nk he]
       exact q1 e he ee H1 s1
      ·rw [sh hm]
       exact q2 hm H1 s1
     | _=>cases hv'
   | _=>cases hv
inductive bb (Ad:Ads) (vs:List V) (H:Hp) (Q:VK) (E:XK):Prop
 | mk (ed dx b cl sd:Addr) (l0 d:Int) (q0:vs=[.ref ed,.int d]) (q1:H ed=some (.ins Ad.Editions dx (edF b cl sd l0))) (q2:0<=d) (q3:d<=1000000000) (q4:((l0<=d/\Q .non H) ∨ (d < l0/\E (.ref Ad.NoDay) none H))):bb Ad vs H Q E
theorem gk:aA ["self","day"] ["self","day"] (af aU):=⟨rfl,rfl,rfl,by decide +kernel,rfl,by decide +kernel,by decide +kernel⟩
theorem gf {f:Addr}{fd:FuncData} (F:Fun K "check_change" "Editions.check_change" aU f fd) (T:Bl mg) (AF:AdF K mg Ad) (C_is_day:Fnc P w K mg base (CX1 P w) 3 "is_day" ["thing"] iP):aX P w K mg base (CX1 P w) 4 f fd ["self","day"] (bb Ad):=by
 refine F.okX (k:=3) gk (fun vs H Q E h=>?_) (fun cdv A outer s H vs Q E hr h=>?_)
 ·obtain ⟨ed,dx,b,cl,sd,l0,d,rfl,_⟩:=h
  rfl
 ·obtain ⟨ed,dx,b,cl,sd,l0,d,rfl,h1,d0,d1,k⟩:=h
  have hu:=hr.aO
  have hu1:=aZ hr
  refine ⟨_,ah (aW ((i5 (cc (bN (aH C_is_day au (hr.mono (by decide)) (ag (pvL 1) (ae))))) (gj (aK kb (pvL 1) (aY (K:=K) rfl (pvL 0)) (aL _)))).pt) (ah (cp PySem.F.excBase_ValueError AF.q_NoDay AF.g_NoDay bP rfl (ag (aF) (ae)))) (aJ)),?_⟩
  and_intros
  refine ⟨_,.int,rfl,rfl,?_⟩
  have e:bt 1000000001 (.int d)=true:=by
   show (decide (0<=d) && decide (d < 1000000001))=true
   rw [decide_eq_true d0,decide_eq_true (show d < 1000000001 by omega)];rfl
  rw [e]
  and_intros
  refine ⟨_,dx,_,_,h1,AF.c_Editions,AF.n_Editions_latest,rfl,?_⟩
  and_intros
  rcases k with ⟨a,k⟩ | ⟨a,k⟩
  ·rw [decide_eq_false (show ¬ d < l0 by omega),if_neg (by decide)]
   exact k
  ·rw [decide_eq_true a,if_pos rfl]
   exact ⟨Nat.le_of_lt (ao (by decide)),k⟩
theorem uG {κ:Type} [DecidableEq κ] {es:List Ben}{f:Ben->κ}{g:Ben->V}{k:κ}:iw (es.map fun e=>(f e,g e)) k=(es.filter fun e=>decide (f e≠k)).map fun e=>(f e,g e):=by
 unfold iw
 rw [List.filter_map];rfl
theorem Ar (es:List Ben) (n:Int):iw (cE es) (.inl n)=cE (es.filter fun e=>decide (e.num≠n)):=by
 rw [gM,gM,uG]
 congr 1
 refine List.filter_congr fun e _=>?_
 rw [decide_eq_decide]
 exact ⟨fun h z=>h (by rw [z]),fun h z=>h (Sum.inl.inj z)⟩
theorem Aq (es:List Ben) (k:List Key):iw (hV es) k=hV (es.filter fun e=>decide (e.key≠k)):=by
 unfold hV
 rw [uG]
theorem Am {es:List Ben}{e:Ben} (h1:(es.map (·.num)).Nodup) (h2:(es.map (·.key)).Nodup) (he:e∈es):es.filter (fun x=>decide (x.num≠e.num))=es.filter fun x=>decide (x.key≠e.key):=by
 refine List.filter_congr fun x hx=>?_
 rw [decide_eq_decide]
 refine not_congr ⟨fun h=>?_,fun h=>?_⟩
 ·rw [jS h1 hx he h]
 ·rw [jS h2 hx he h]
inductive dP (Ad:Ads) (vs:List V) (H:Hp) (Q:VK) (E:XK):Prop
 | mk (b ca dn de p:Addr) (es:List Ben) (key0:List Key) (q0:vs=[.ref b,.ref p]) (q1:bT Ad H b ca dn de es) (q2:H p=some (.tup (key0.map kV))) (q3:fF key0) (q4:(∀ e∈es,e.key=key0->∀ H',(∀ c o,c≠dn->c≠de->H c=some o->H' c=some o)->bT Ad H' b ca dn de (es.filter fun x=>decide (x.num≠e.num))->Q (.int e.num) H')) (q5:(key0 ∉ es.map (·.key)->∀ H',ak H H'->E (.ref Ad.NoEntry) none H')):dP Ad vs H Q E
theorem i9:aA ["self","entry","freed"] ["self","entry"] (af cK):=⟨rfl,rfl,rfl,by decide +kernel,rfl,by decide +kernel,by decide +kernel⟩
theorem mH {f:Addr}{fd:FuncData} (F:Fun K "strike" "Book.strike" cK f fd) (T:Bl mg) (AF:AdF K mg Ad) (M_Book_number:Mtd P w K mg base (CX1 P w) Ad.Book "number" 4 ["self","entry"] (dO Ad)):aX P w K mg base (CX1 P w) 5 f fd ["self","entry"] (dP Ad):=by
 refine F.okX (k:=4) i9 (fun vs H Q E h=>?_) (fun cdv A outer s H vs Q E hr h=>?_)
 ·obtain ⟨b,ca,dn,de,p,es,key0,rfl,_⟩:=h
  rfl
 ·obtain ⟨b,ca,dn,de,p,es,key0,rfl,B,hp,ok,k,kn⟩:=h
  obtain ⟨dx,h1⟩:=B.bk
  have hu:=hr.aO
  have hu1:=aZ hr
  refine ⟨_,aa (az (i:=2) i9.nd (cn M_Book_number au (hr.mono (by decide)) (pvL 0) (ag (pvL 1) (ae)))) (aa (aW (aK sQ (pvL 2) (gi) (aL _)) (ah (cp PySem.F.excBase_ValueError AF.q_NoEntry AF.g_NoEntry bP rfl (ag (aF) (ae)))) (aJ)) (aa (cC (gh (K:=K) rfl PySem.F.plainAttrs_dict PySem.F.slot_dict_pop PySem.F.type_dict_pop (Al hu1) (aY (K:=K) rfl (pvL 0)) (ag (pvL 1) (ae)))) (aa (cC (gh (K:=K) rfl PySem.F.plainAttrs_dict PySem.F.slot_dict_pop PySem.F.type_dict_pop ph (aY (K:=K) rfl (pvL 0)) (ag (pvL 2) (ae)))) (ah (aG (pvL 2)))))),?_⟩
  refine ar fun nn hN=>?_
  and_intros
  refine ⟨dx,_,h1,cb (by decide) (by decide) (by decide) ca dn de,b,ca,dn,de,es,.ref p,.tup,rfl,B,by show hZ (H p)=_;rw [hp];rfl,fun q xs e1 e2=>?_,fun hv=>?_,fun q key e1 e2 e3=>⟨fun e' he' ek H1 s1=>?_,fun hno=>?_⟩⟩
  ·cases e1
   rw [hp] at e2
   cases e2
   refine ⟨by rw [List.length_map];have:=ok.few;omega,fun y hy=>⟨?_,fun z ez=>ok.short z (by rw [← ez];exact hy)⟩⟩
   obtain ⟨x,_,rfl⟩:=List.mem_map.mp hy
   cases x with
   | inl i=>exact ⟨.int,rfl⟩
   | inr i=>exact ⟨.str,rfl⟩
  ·rw [uw hp ok] at hv;cases hv
  ·cases e1
   rw [hp] at e2
   have ekk:key0.map kV=key.map kV:=by injection e2 with e2;injection e2
   have ek2:key0=e'.key:=by rw [pb ekk,ek]
   subst ek2
   have he:=he'
   have B1:=B.same s1
   obtain ⟨dx1,h11⟩:=B1.bk
   rw [hN]
   clear hN nn
   refine ar fun nn hN=>?_
   and_intros
   show nn _ _ _
   rw [hN]
   clear hN nn
   refine ar fun nn hN=>?_
   and_intros
   have dne:dn≠de:=fun e=>by have:=B1.hn;rw [e,B1.he] at this;cases this
   have pne:p≠de:=fun e=>by have:=B1.he;rw [← e,s1 _ _ hp] at this;cases this
   have bne:b≠de:=fun e=>by rw [e,B1.he] at h11;cases h11
   have bnn:b≠dn:=fun e=>by rw [e,B1.hn] at h11;cases h11
   refine ⟨_,dx1,_,_,h11,AF.c_Book,AF.n_Book_by_entry,iI ca dn de,.inr (.inr (.inl ⟨rfl,.inr ⟨_,B1.he⟩⟩)),?_⟩
   and_intros
   refine ⟨_,e'.key,_,B1.he,s1 _ _ hp,ux B.nk he,?_⟩
   rw [hN]
   clear hN nn
   refine ar fun nn hN=>?_
   and_intros
   refine ⟨_,dx1,_,_,by rw [aj bne];exact h11,AF.c_Book,AF.n_Book_by_number,eA ca dn de,.inr (.inr (.inl ⟨rfl,.inl ⟨_,by rw [aj dne];exact B1.hn⟩⟩)),?_⟩
   and_intros
   refine ⟨_,.inl e'.num,_,by rw [aj dne];exact B1.hn,rfl,gN B.nn he,?_⟩
   rw [hN]
   clear hN nn
   and_intros
   rw [Ar,Aq,← Am B.nn B.nk he]
   refine k e' he rfl _ (fun c o c1 c2 ec=>by rw [aj c1,aj c2];exact s1 _ _ ec) ⟨⟨dx1,by rw [aj bnn,aj bne];exact h11⟩,aq,by rw [aj (Ne.symm dne)];exact aq,fun u hu=>?_,List.Nodup.sublist (List.Sublist.map _ List.filter_sublist) B.nn,List.Nodup.sublist (List.Sublist.map _ List.filter_sublist) B.nk⟩
   have hu1:=B1.en u (List.mem_filter.mp hu).1
   have u1:u.adr≠dn:=fun e=>by rw [e,B1.hn] at hu1;cases hu1
   have u2:u.adr≠de:=fun e=>by rw [e,B1.he] at hu1;cases hu1
   rw [aj u1,aj u2]
   exact hu1
  ·cases e1
   rw [hp] at e2
   have ekk:key0.map kV=key.map kV:=by injection e2 with e2;injection e2
   intro H1 s1
   rw [hN]
   clear hN nn
   refine ar fun nn hN=>?_
   and_intros
   exact ⟨Nat.le_of_lt (ao (by decide)),kn (by rw [pb ekk];exact hno) H1 s1⟩
inductive dD (Ad:Ads) (vs:List V) (H:Hp) (Q:VK) (E:XK):Prop
 | mk (b ca dn de t:Addr) (es:List Ben) (al:List Nat) (ws:List Int) (r n:Int) (key:List Key) (y:V) (q0:vs=[.ref b,.ref t,y]) (q1:bT Ad H b ca dn de es) (q2:gb Ad H ca al ws r) (q3:ia al ws r) (q4:H Ad.tb=some (gE sy)) (q5:H t=some (.tup (key.map kV))) (q6:fF key) (q7:key ∉ es.map (·.key)) (q8:es.length < 300) (q9:0<=n) (q10:n < ck al ws) (q11:n ∉ es.map (·.num)) (q12:y=.int n) (q13:∀ H',(∀ c o,c≠dn->c≠de->H c=some o->H' c=some o)->bT Ad H' b ca dn de (es++[⟨n,key,t⟩])->Q (.int n) H'):dD Ad vs H Q E
theorem kL:aA ["self","entry","number","given"] ["self","entry","number"] (af bM):=⟨rfl,rfl,rfl,by decide +kernel,rfl,by decide +kernel,by decide +kernel⟩
theorem kC {f:Addr}{fd:FuncData} (F:rV K "put" "Book.put" bM f fd) (T:Bl mg) (AF:AdF K mg Ad) (CD:fd.code=.ref Ad.cd) (M_Book_choose:lz P w K mg base (CX1 P w) Ad.Book "choose" 4 1 ["self","entry","number","is_barred"] (cx Ad)):aX P w K mg base (CX1 P w) 6 f fd ["self","entry","number"] (dD Ad):=by
 refine F.okT (k:=5) CD kL (fun vs H Q E h=>?_) (fun A outer s H vs Q E hr h=>?_)
 ·obtain ⟨b,ca,dn,de,t,es,al,ws,r,n,key,y,rfl,_⟩:=h
  rfl
 ·obtain ⟨b,ca,dn,de,t,es,al,ws,r,n,key,y,rfl,B,C,ok,Tb,ht,eo,hk,h300,n0,n1,hnn,hy,k⟩:=h
  obtain ⟨dx,h1⟩:=B.bk
  have hu:=hr.aO
  have hu1:=aZ hr
  refine ⟨_,aa (az (i:=3) kL.nd (oA (k:=0) (ps:=["k"]) (fr:=[]) (js:=[]) (q:=sy) M_Book_choose rfl rfl au (hr.mono (by decide)) (pvL 0) (pvL 1) (pvL 2) rfl AF.t_tab (by kernel_rfl) rfl (.nil) (fun _ _ _=>L2.bind1 fun _=>rfl) (fun _ _ _ _ _ _ hr=>fS) (by decide +kernel) (by decide +kernel))) (aa (fI hu1 (aY (K:=K) rfl (pvL 0)) (pvL 3) (pvL 1)) (aa (fI hu1 (aY (K:=K) rfl (pvL 0)) (pvL 1) (pvL 3)) (ah (aG (pvL 3))))),?_⟩
  refine ar fun nn hN=>?_
  and_intros
  refine ⟨dx,_,h1,cb (by decide) (by decide) (by decide) ca dn de,Tb,fun f G1 z1 t1 _=>?_⟩
  subst hy
  refine ⟨b,ca,dn,de,f,t,es,al,ws,r,n,key,.int n,fun _=>false,rfl,B.same t1,C.same t1,ok,fun _ G Q' _ k=>k G (ak.refl _),t1 _ _ ht,eo,h300,.inr (.inl ⟨hk,rfl,n0,n1,hnn,rfl,fun G2 t2=>?_⟩)⟩
  have t02:=t1.trans t2
  have B2:=B.same t02
  obtain ⟨dx2,h12⟩:=B2.bk
  rw [hN]
  clear hN nn
  refine ar fun nn hN=>?_
  and_intros
  refine ⟨_,dx2,_,_,h12,AF.c_Book,AF.n_Book_by_number,eA ca dn de,dn,_,rfl,.inl ⟨_,.inl n,B2.hn,rfl,by rw [jx];exact ao (by omega),rfl⟩,?_⟩
  rw [lr (pj hnn),show cE es++[((.inl n:Key),V.ref t)]=cE (es++[⟨n,key,t⟩]) from (jX es ⟨n,key,t⟩).symm]
  have hnb:dn≠b:=aC B2.hn h12 (by intro z;cases z)
  have heb:de≠b:=aC B2.he h12 (by intro z;cases z)
  have hne:dn≠de:=aC B2.hn B2.he (by intro z;cases z)
  have hdt:∀ {c:Addr}{xs:List V},G2 c=some (.tup xs)->c≠dn/\c≠de:=fun h=>⟨aC h B2.hn (by intro z;cases z),aC h B2.he (by intro z;cases z)⟩
  have k3:∀ c o,c≠dn->G2 c=some o->upd G2 dn (.dK (cE (es++[⟨n,key,t⟩]))) c=some o:=fun c o hc h=>by rw [aj hc];exact h
  have g3:upd G2 dn (.dK (cE (es++[⟨n,key,t⟩]))) dn=some (.dK (cE (es++[⟨n,key,t⟩]))):=aq
  generalize upd G2 dn (.dK (cE (es++[⟨n,key,t⟩])))=G3 at k3 g3
  rw [hN]
  clear hN nn
  have ht2:=t02 _ _ ht
  have hb3:=k3 _ _ hnb.symm h12
  refine ar fun nn hN=>?_
  and_intros
  refine ⟨_,dx2,_,_,hb3,AF.c_Book,AF.n_Book_by_entry,iI ca dn de,de,_,rfl,.inr ⟨_,key,t,k3 _ _ hne.symm B2.he,rfl,k3 _ _ (hdt ht2).1 ht2,by show (hV es).length < _;unfold hV;rw [List.length_map];exact ao (by omega),rfl⟩,?_⟩
  rw [lr (sh hk),show hV es++[(key,V.int n)]=hV (es++[⟨n,key,t⟩]) from (vC es ⟨n,key,t⟩).symm]
  have k4:∀ c o,c≠de->G3 c=some o->upd G3 de (.dT (hV (es++[⟨n,key,t⟩]))) c=some o:=fun c o hc h=>by rw [aj hc];exact h
  have g4:upd G3 de (.dT (hV (es++[⟨n,key,t⟩]))) de=some (.dT (hV (es++[⟨n,key,t⟩]))):=aq
  generalize upd G3 de (.dT (hV (es++[⟨n,key,t⟩])))=G4 at k4 g4
  rw [hN]
  clear hN nn
  and_intros
  refine k G4 (fun c o h1 h2 h=>k4 _ _ h2 (k3 _ _ h1 (t02 _ _ h))) ⟨⟨dx2,k4 _ _ heb.symm hb3⟩,k4 _ _ hne g3,g4,fun e he=>?_,?_,?_⟩
  ·rcases List.mem_append.mp he with he | he
   ·have:=B2.en e he
    exact k4 _ _ (hdt this).2 (k3 _ _ (hdt this).1 this)
   ·rw [List.mem_singleton.mp he]
    exact k4 _ _ (hdt ht2).2 (k3 _ _ (hdt ht2).1 ht2)
  ·rw [List.map_append];exact gK B.nn hnn
  ·rw [List.map_append];exact gK B.nk hk
inductive bg (Ad:Ads) (vs:List V) (H:Hp) (Q:VK) (E:XK):Prop
 | mk (ed b ca dn de cl sd t:Addr) (es:List Ben) (lk:Lk) (l0 day:Int) (m:Nat) (ch:List Chg) (key0:List Key) (q0:vs=[.ref ed,.int day,.ref t]) (q1:iR Ad H ed b ca dn de cl sd es lk l0 m ch) (q2:H t=some (.tup (key0.map kV))) (q3:fF key0) (q4:m < 999) (q5:0<=day) (q6:day<=1000000000) (q7:((day < l0/\E (.ref Ad.NoDay) none H) ∨ (l0<=day/\(∀ e∈es,e.key=key0->∀ H',(∀ c o,c≠ed->c≠dn->c≠de->c≠cl->c≠sd->H c=some o->H' c=some o)->iR Ad H' ed b ca dn de cl sd (es.filter fun x=>decide (x.num≠e.num)) (fun i=>if i=e.num then some (day,e.key) else lk i) day (m + 1) (ch++[⟨day,e.num,none⟩])->Q (.int e.num) H')/\(key0 ∉ es.map (·.key)->∀ H',ak H H'->E (.ref Ad.NoEntry) none H')))):bg Ad vs H Q E
theorem fJ:aA ["self","day","entry","freed"] ["self","day","entry"] (af bI):=⟨rfl,rfl,rfl,by decide +kernel,rfl,by decide +kernel,by decide +kernel⟩
theorem jf {f:Addr}{fd:FuncData} (F:Fun K "strike" "Editions.strike" bI f fd) (T:Bl mg) (AF:AdF K mg Ad) (M_Editions_note_change:Mtd P w K mg base (CX1 P w) Ad.Editions "note_change" 1 ["self","day","number","entry"] (bp Ad)) (M_Book_strike:Mtd P w K mg base (CX1 P w) Ad.Book "strike" 5 ["self","entry"] (dP Ad)) (M_Editions_check_change:Mtd P w K mg base (CX1 P w) Ad.Editions "check_change" 4 ["self","day"] (bb Ad)):aX P w K mg base (CX1 P w) 6 f fd ["self","day","entry"] (bg Ad):=by
 refine F.okX (k:=5) fJ (fun vs H Q E h=>?_) (fun cdv A outer s H vs Q E hr h=>?_)
 ·obtain ⟨ed,b,ca,dn,de,cl,sd,t,es,lk,l0,day,m,ch,key0,rfl,_⟩:=h
  rfl
 ·obtain ⟨ed,b,ca,dn,de,cl,sd,t,es,lk,l0,day,m,ch,key0,rfl,D,ht,eo,m9,d0,d1,ks⟩:=h
  obtain ⟨dx,h1⟩:=D.eF
  obtain ⟨cs,hcl,lcl,hch⟩:=D.cF
  obtain ⟨kvs,hsd,S,lsd⟩:=D.sF
  have B:=D.bF
  obtain ⟨bx,hb⟩:=B.bk
  have hu:=hr.aO
  have hu1:=aZ hr
  refine ⟨_,aa (cC (cn M_Editions_check_change au (hr.mono (by decide)) (pvL 0) (ag (pvL 1) (ae)))) (aa (az (i:=3) fJ.nd (cn M_Book_strike au (hr.mono (by decide)) (aY (K:=K) rfl (pvL 0)) (ag (pvL 2) (ae)))) (aa (fI hu1 (aY (K:=K) rfl (pvL 0)) (pvL 3) (bB (ag (pvL 1) (ag (pvL 2) (ae))))) (aa (cC (cn M_Editions_note_change au (hr.mono (by decide)) (pvL 0) (ag (pvL 1) (ag (pvL 3) (ag (gi) (ae)))))) (ah (aG (pvL 3)))))),?_⟩
  refine ar fun nn hN=>?_
  and_intros
  refine ⟨dx,_,h1,rfl,ed,dx,b,cl,sd,l0,day,rfl,h1,d0,d1,?_⟩
  rcases ks with ⟨a,k⟩ | ⟨ld,k,kn⟩
  ·exact .inr ⟨a,k⟩
  refine .inl ⟨ld,?_⟩
  rw [hN]
  clear hN nn
  refine ar fun nn hN=>?_
  and_intros
  refine ⟨_,dx,_,_,h1,AF.c_Editions,AF.n_Editions_current,rfl,?_⟩
  and_intros
  refine ⟨bx,_,hb,cb (by decide) (by decide) (by decide) ca dn de,b,ca,dn,de,t,es,key0,rfl,B,ht,eo,fun e he ekk G1 k1 B1=>?_,kn⟩
  subst ekk
  rw [hN]
  clear hN nn
  have nen:ed≠dn:=aC h1 B.hn (by intro z;cases z)
  have nee:ed≠de:=aC h1 B.he (by intro z;cases z)
  have ncn:cl≠dn:=aC hcl B.hn (by intro z;cases z)
  have nce:cl≠de:=aC hcl B.he (by intro z;cases z)
  have nse:sd≠de:=aC hsd B.he (by intro z;cases z)
  have h11:=k1 _ _ nen nee h1
  have hcl1:=k1 _ _ ncn nce hcl
  have hsd1:=k1 _ _ D.ne.symm nse hsd
  have ht1:=k1 _ _ (aC ht B.hn (by intro z;cases z)) (aC ht B.he (by intro z;cases z)) ht
  refine ar fun nn hN=>?_
  and_intros
  refine ⟨Nat.le_of_lt (ao (by decide)),fun p G2 hp t2 g2=>?_⟩
  have h12:=t2 _ _ h11
  have hcl2:=t2 _ _ hcl1
  have hsd2:=t2 _ _ hsd1
  have ht2:=t2 _ _ ht1
  refine ⟨_,dx,_,_,h12,AF.c_Editions,AF.n_Editions_struck,rfl,sd,_,rfl,.inl ⟨_,.inl e.num,hsd2,rfl,ao (by omega),rfl⟩,?_⟩
  have k3:∀ c o,c≠sd->G2 c=some o->upd G2 sd (HO.dK (putK kvs (Sum.inl e.num) (V.ref p))) c=some o:=fun c o hc z=>by rw [aj hc];exact z
  have g3:upd G2 sd (HO.dK (putK kvs (Sum.inl e.num) (V.ref p))) sd=some (.dK (putK kvs (Sum.inl e.num) (V.ref p))):=aq
  generalize upd G2 sd (HO.dK (putK kvs (Sum.inl e.num) (V.ref p)))=G3 at k3 g3
  have ns:∀ {c:Addr}{o:HO},G2 c=some o->(∀ kvs,o≠.dK kvs)->c≠sd:=fun {c o} z hz y=>by rw [y,hsd2] at z;cases z;exact hz _ rfl
  have h13:=k3 _ _ (ns h12 fun _ z=>by cases z) h12
  have hcl3:=k3 _ _ (ns hcl2 fun _ z=>by cases z) hcl2
  rw [hN]
  clear hN nn
  refine ar fun nn hN=>?_
  and_intros
  refine ⟨dx,_,h13,rfl,ed,dx,b,cl,sd,l0,day,.int e.num,.non,cs,rfl,h13,hcl3,by omega,fun p' G4 hp' k4 h14 g4 hcl4=>?_⟩
  rw [hN]
  clear hN nn
  and_intros
  have B2:=B1.same t2
  obtain ⟨bx2,hb2⟩:=B2.bk
  have B3:bT Ad G3 b ca dn de (es.filter fun x=>decide (x.num≠e.num)):=⟨⟨bx2,k3 _ _ (ns hb2 fun _ z=>by cases z) hb2⟩,k3 _ _ D.ne B2.hn,k3 _ _ (ns B2.he fun _ z=>by cases z) B2.he,fun x hx=>k3 _ _ (ns (B2.en x hx) fun _ z=>by cases z) (B2.en x hx),B2.nn,B2.nk⟩
  have tup2:∀ c xs,G2 c=some (.tup xs)->G4 c=some (.tup xs):=fun c xs z=>by
   have z3:=k3 _ _ (ns z fun _ z=>by cases z) z
   exact k4 _ _ (aC z3 h13 (by intro z;cases z)) (aC z3 hcl3 (by intro z;cases z)) z3
  refine k e he rfl G4 (fun c o e1 e2 e3 e4 e5 z=>k4 c o e1 e4 (k3 c o e5 (t2 _ _ (k1 c o e2 e3 z)))) ⟨⟨dx,h14⟩,B3.past h13 hcl3 k4,⟨_,hcl4,by rw [List.length_append];show cs.length + 1<=_;omega,ix (ie (ie hch fun c xs z=>k1 _ _ (aC z B.hn (by intro z;cases z)) (aC z B.he (by intro z;cases z)) z) fun c xs z=>tup2 c xs (t2 _ _ z)) (.cons ⟨p',rfl,g4⟩ .nil)⟩,⟨_,k4 _ _ (aC g3 h13 (by intro z;cases z)) (aC g3 hcl3 (by intro z;cases z)) g3,fun i=>?_,?_⟩,D.ne⟩
  ·rw [nh]
   dsimp only
   by_cases hi:i=e.num
   ·rw [if_pos (by rw [hi]),if_pos hi]
    exact .inr ⟨p,t,day,e.key,rfl,tup2 _ _ g2,tup2 _ _ ht2,eo,rfl⟩
   ·rw [if_neg (fun z=>hi (Sum.inl.inj z)),if_neg hi]
    have S1:nq G1 kvs lk:=S.past fun c xs z=>k1 _ _ (aC z B.hn (by intro z;cases z)) (aC z B.he (by intro z;cases z)) z
    exact (S1.same t2).past tup2 i
  ·have:=eV kvs (Sum.inl e.num) (V.ref p)
   omega
inductive bf (Ad:Ads) (vs:List V) (H:Hp) (Q:VK) (E:XK):Prop
 | mk (ed b ca dn de cl sd t:Addr) (es:List Ben) (lk:Lk) (l0 day n:Int) (m:Nat) (ch:List Chg) (al:List Nat) (ws:List Int) (r:Int) (key:List Key) (y:V) (q0:vs=[.ref ed,.int day,.ref t,y]) (q1:iR Ad H ed b ca dn de cl sd es lk l0 m ch) (q2:gb Ad H ca al ws r) (q3:ia al ws r) (q4:H Ad.tb=some (gE sy)) (q5:H Ad.tb1=some (gE qQ)) (q6:H t=some (.tup (key.map kV))) (q7:fF key) (q8:es.length < 300) (q9:m < 999) (q10:0<=day) (q11:day<=1000000000) (q12:((day < l0/\E (.ref Ad.NoDay) none H) ∨ (l0<=day/\((key∈es.map (·.key)/\(∀ H',ak H H'->E (.ref Ad.Twice) none H')) ∨ (key ∉ es.map (·.key)/\y=.int n/\0<=n/\n < ck al ws/\(n∈es.map (·.num) ∨ fq lk day key n=true)/\∀ H',ak H H'->E (.ref Ad.NoNumber) none H') ∨ (key ∉ es.map (·.key)/\y=.non/\ib (es.map (·.num)) (fq lk day key) n/\ck al ws<=n/\∀ H',ak H H'->E (.ref Ad.TooMany) none H') ∨ (key ∉ es.map (·.key)/\((y=.int n/\0<=n/\n ∉ es.map (·.num)/\fq lk day key n=false) ∨ (y=.non/\ib (es.map (·.num)) (fq lk day key) n))/\n < ck al ws/\∀ H',(∀ c o,c≠ed->c≠dn->c≠de->c≠cl->H c=some o->H' c=some o)->iR Ad H' ed b ca dn de cl sd (es++[⟨n,key,t⟩]) lk day (m + 1) (ch++[⟨day,n,some t⟩])->Q (.int n) H'))))):bf Ad vs H Q E
theorem gZ:aA ["self","day","entry","number","given"] ["self","day","entry","number"] (af aR):=⟨rfl,rfl,rfl,by decide +kernel,rfl,by decide +kernel,by decide +kernel⟩
theorem gY {f:Addr}{fd:FuncData} (F:rV K "put" "Editions.put" aR f fd) (T:Bl mg) (AF:AdF K mg Ad) (CD:fd.code=.ref Ad.cd1) (M_Editions_note_change:Mtd P w K mg base (CX1 P w) Ad.Editions "note_change" 1 ["self","day","number","entry"] (bp Ad)) (M_Book_put:Mtd P w K mg base (CX1 P w) Ad.Book "put" 6 ["self","entry","number"] (dD Ad)) (M_Book_choose:lz P w K mg base (CX1 P w) Ad.Book "choose" 4 1 ["self","entry","number","is_barred"] (cx Ad)) (M_Editions_is_barred:Mtd P w K mg base (CX1 P w) Ad.Editions "is_barred" 1 ["self","day","entry","number"] (bu K Ad)) (M_Editions_check_change:Mtd P w K mg base (CX1 P w) Ad.Editions "check_change" 4 ["self","day"] (bb Ad)):aX P w K mg base (CX1 P w) 7 f fd ["self","day","entry","number"] (bf Ad):=by
 refine F.okT (k:=6) CD gZ (fun vs H Q E h=>?_) (fun A outer s H vs Q E hr h=>?_)
 ·obtain ⟨ed,b,ca,dn,de,cl,sd,t,es,lk,l0,day,n,m,ch,al,ws,r,key,y,rfl,_⟩:=h
  rfl
 ·obtain ⟨ed,b,ca,dn,de,cl,sd,t,es,lk,l0,day,n,m,ch,al,ws,r,key,y,rfl,D,C,ok,Tb,Tb1,ht,eo,h300,m9,d0,d1,ks⟩:=h
  obtain ⟨dx,h1⟩:=D.eF
  obtain ⟨cs,hcl,lcl,hch⟩:=D.cF
  obtain ⟨kvs,hsd,S,lsd⟩:=D.sF
  have hu:=hr.aO
  have hu1:=aZ hr
  refine ⟨_,aa (cC (cn M_Editions_check_change au (hr.mono (by decide)) (pvC 0) (ag (pvC 1) (ae)))) (aa (az (i:=4) gZ.nd (oA (k:=1) (ps:=["k"]) (fr:=["day","entry","self"]) (js:=[1,2,0]) (q:=qQ) M_Book_choose rfl rfl au (hr.mono (by decide)) (aY (K:=K) rfl (pvC 0)) (pvC 2) (pvL 3) rfl AF.t_tab1 (by kernel_rfl) rfl (.cons ⟨rfl,.inr (.inl rfl),rfl,by decide +kernel,rfl⟩ (.cons ⟨rfl,.inr (.inl rfl),rfl,by decide +kernel,rfl⟩ (.cons ⟨rfl,.inr (.inl rfl),rfl,by decide +kernel,rfl⟩ (.nil)))) (fun _ _ _=>L2.bind1 fun _=>rfl) (fun _ _ _ _ _ _ hr=>cn M_Editions_is_barred jg (hr.mono (by decide)) (pvF 3) (ag (pvF 1) (ag (pvF 2) (ag (pvL 0) (ae))))) (by decide +kernel) (by decide +kernel))) (aa (cC (cn M_Book_put au (hr.mono (by decide)) (aY (K:=K) rfl (pvC 0)) (ag (pvC 2) (ag (pvL 4) (ae))))) (aa (cC (cn M_Editions_note_change au (hr.mono (by decide)) (pvC 0) (ag (pvC 1) (ag (pvL 4) (ag (pvC 2) (ae)))))) (ah (aG (pvL 4)))))),?_⟩
  refine ar fun nn hN=>?_
  and_intros
  refine ⟨dx,_,h1,rfl,ed,dx,b,cl,sd,l0,day,rfl,h1,d0,d1,?_⟩
  rcases ks with ⟨a,k⟩ | ⟨ld,ks⟩
  ·exact .inr ⟨a,k⟩
  refine .inl ⟨ld,?_⟩
  rw [hN]
  clear hN nn
  obtain ⟨bx,hb⟩:=D.bF.bk
  refine ar fun nn hN=>?_
  and_intros
  refine ⟨_,dx,_,_,h1,AF.c_Editions,AF.n_Editions_current,rfl,?_⟩
  and_intros
  have B:=D.bF
  refine ⟨bx,_,hb,cb (by decide) (by decide) (by decide) ca dn de,Tb1,fun f G1 hf t1 _=>?_⟩
  have D1:=D.same t1
  have hbar:∀ {spf:Sp},(∀ (i:Int) (G:Hp) (Q':VK),bu K Ad [.ref ed,.int day,.ref t,.int i] G Q' XF->(∃ dx fs,G ed=some (HO.ins Ad.Editions dx fs)/\fs.lookup (Str.ofString "is_barred")=none)->spf [.int i] G Q' XF)->Bar spf (fq lk day key) G1:=fun {spf} h i G Q' tG kG=>by
   refine h i G Q' ⟨ed,dx,b,cl,sd,t,l0,day,i,kvs,lk,key,rfl,tG _ _ (t1 _ _ h1),tG _ _ (t1 _ _ hsd),S.same (t1.trans tG),tG _ _ (t1 _ _ ht),eo,fun G' t'=>kG G' t'⟩ ⟨dx,_,tG _ _ (t1 _ _ h1),rfl⟩
  have cho:∀ {spf:Sp}{Q':VK},Bar spf (fq lk day key) G1->(∀ G2,ak G1 G2->n < ck al ws->key ∉ es.map (·.key)->n ∉ es.map (·.num)->0<=n->(∀ H',(∀ c o,c≠ed->c≠dn->c≠de->c≠cl->H c=some o->H' c=some o)->iR Ad H' ed b ca dn de cl sd (es++[⟨n,key,t⟩]) lk day (m + 1) (ch++[⟨day,n,some t⟩])->Q (.int n) H')->Q' (.int n) G2)->cx Ad spf [V.ref b,V.ref t,y,V.ref f] G1 Q' E:=fun {spf Q'} hB hQ=>by
   refine ⟨b,ca,dn,de,f,t,es,al,ws,r,n,key,y,fq lk day key,rfl,B.same t1,C.same t1,ok,hB,t1 _ _ ht,eo,h300,?_⟩
   rcases ks with ⟨a,k⟩ | ⟨a,e,n0,n1,o,k⟩ | ⟨a,e,L,n1,k⟩ | ⟨a,⟨e,n0,o,p⟩ | ⟨e,L⟩,n1,k⟩
   ·exact .inl ⟨a,fun G2 t2=>k G2 (t1.trans t2)⟩
   ·exact .inr (.inr (.inl ⟨a,e,n0,n1,o,fun G2 t2=>k G2 (t1.trans t2)⟩))
   ·exact .inr (.inr (.inr (.inr ⟨a,e,L,n1,fun G2 t2=>k G2 (t1.trans t2)⟩)))
   ·exact .inr (.inl ⟨a,e,n0,n1,o,p,fun G2 t2=>hQ G2 t2 n1 a o n0 k⟩)
   ·exact .inr (.inr (.inr (.inl ⟨a,e,L,n1,fun G2 t2=>hQ G2 t2 n1 a L.out L.pos k⟩)))
  refine cho (hbar fun i G Q' hs hf'=>?_) fun G2 t2 n1 hk hn n0 k=>?_
  ·obtain ⟨dx',fs',e1,e2⟩:=hf'
   exact ⟨_,rfl,dx',fs',e1,e2,_,rfl,_,rfl,_,rfl,hs⟩
  rw [hN]
  clear hN nn cho hbar ks
  have t02:=t1.trans t2
  have h12:=t02 _ _ h1
  have B2:=B.same t02
  obtain ⟨bx2,hb2⟩:=B2.bk
  refine ar fun nn hN=>?_
  and_intros
  refine ⟨_,dx,_,_,h12,AF.c_Editions,AF.n_Editions_current,rfl,?_⟩
  and_intros
  refine ⟨bx2,_,hb2,cb (by decide) (by decide) (by decide) ca dn de,b,ca,dn,de,t,es,al,ws,r,n,key,.int n,rfl,B2,C.same t02,ok,t02 _ _ Tb,t02 _ _ ht,eo,hk,h300,n0,n1,hn,rfl,fun G3 k3 B3=>?_⟩
  rw [hN]
  clear hN nn
  have nen:ed≠dn:=aC h12 B2.hn (by intro z;cases z)
  have nee:ed≠de:=aC h12 B2.he (by intro z;cases z)
  have ncn:cl≠dn:=aC (t02 _ _ hcl) B2.hn (by intro z;cases z)
  have nce:cl≠de:=aC (t02 _ _ hcl) B2.he (by intro z;cases z)
  have nse:sd≠de:=aC (t02 _ _ hsd) B2.he (by intro z;cases z)
  have h13:=k3 _ _ nen nee h12
  have hcl3:=k3 _ _ ncn nce (t02 _ _ hcl)
  have hsd3:=k3 _ _ D.ne.symm nse (t02 _ _ hsd)
  refine ar fun nn hN=>?_
  and_intros
  refine ⟨dx,_,h13,rfl,ed,dx,b,cl,sd,l0,day,.int n,.ref t,cs,rfl,h13,hcl3,by omega,fun p G4 hp k4 h14 g4 hcl4=>?_⟩
  rw [hN]
  clear hN nn
  and_intros
  have tup4:∀ c xs,H c=some (.tup xs)->G4 c=some (.tup xs):=fun c xs e=>by
   have e2:=t02 _ _ e
   have e3:=k3 _ _ (aC e2 B2.hn (by intro z;cases z)) (aC e2 B2.he (by intro z;cases z)) e2
   exact k4 _ _ (aC e3 h13 (by intro z;cases z)) (aC e3 hcl3 (by intro z;cases z)) e3
  refine k G4 (fun c o e1 e2 e3 e4 e=>k4 c o e1 e4 (k3 c o e2 e3 (t02 _ _ e))) ⟨⟨dx,h14⟩,B3.past h13 hcl3 k4,⟨_,hcl4,by rw [List.length_append];show cs.length + 1<=_;omega,?_⟩,⟨kvs,?_,S.past tup4,by omega⟩,D.ne⟩
  ·exact ix (ie hch tup4) (.cons ⟨p,rfl,g4⟩ .nil)
  ·exact k4 _ _ (aC hsd3 h13 (by intro z;cases z)) (aC hsd3 hcl3 (by intro z;cases z)) hsd3
def rM (kvs:List (Key × V)) (c:Chg):List (Key × V):=putK kvs (.inl c.num) (c.ent.elim V.non V.ref)
def iU (ch:List Chg):List (Key × V):=ch.foldl rM []
theorem kf (ch:List Chg) (c:Chg):iU (ch++[c])=rM (iU ch) c:=by unfold iU;rw [List.foldl_append];rfl
theorem ze {gs:List Lge} (h:fO gs) (n:Int):(∀ e∈dF gs,e.num=n->bS (iU (gs.map cY)) (.inl n)=some (.ref e.adr))/\(n ∉ (dF gs).map (·.num)->bS (iU (gs.map cY)) (.inl n)=none ∨ bS (iU (gs.map cY)) (.inl n)=some .non):=by
 induction h with
 | nil=>exact ⟨(fun e he=>by cases he),fun _=>.inl rfl⟩
 | @snoc gs l h hs hp ih =>
  rw [List.map_append,List.map_singleton,kf,gA]
  unfold rM df
  rw [nh,show (cY l).num=l.num from rfl]
  cases hl:l.str with
  | true =>
   have ec:(cY l).ent=none:=by unfold cY;rw [hl];rfl
   rw [if_pos rfl,ec]
   refine ⟨fun e he en=>?_,fun hn=>?_⟩
   ·obtain ⟨h1,h2⟩:=List.mem_filter.mp he
    have hne:e.num≠l.num:=of_decide_eq_true h2
    rw [if_neg (fun z=>hne (en.trans (Sum.inl.inj z)))]
    exact ih.1 e h1 en
   ·by_cases hnl:n=l.num
    ·rw [if_pos (by rw [hnl])];exact .inr rfl
    ·rw [if_neg (fun z=>hnl (Sum.inl.inj z))]
     refine ih.2 fun hm=>hn ?_
     obtain ⟨e,he,ee⟩:=List.mem_map.mp hm
     exact List.mem_map.mpr ⟨e,List.mem_filter.mpr ⟨he,decide_eq_true (by rw [ee];exact hnl)⟩,ee⟩
  | false =>
   have ec:(cY l).ent=some l.adr:=by unfold cY;rw [hl];rfl
   rw [if_neg (by decide),ec]
   refine ⟨fun e he en=>?_,fun hn=>?_⟩
   ·rcases List.mem_append.mp he with he | he
    ·have hne:n≠l.num:=fun z=>(hp hl).1 (List.mem_map.mpr ⟨e,he,en.trans z⟩)
     rw [if_neg (fun z=>hne (Sum.inl.inj z))]
     exact ih.1 e he en
    ·have e1:=List.mem_singleton.mp he
     subst e1
     rw [if_pos (by rw [← en])]
     rfl
   ·rw [List.map_append,List.mem_append] at hn
    have hnl:n≠l.num:=fun z=>hn (.inr (by rw [z];exact List.mem_singleton.mpr rfl))
    rw [if_neg (fun z=>hnl (Sum.inl.inj z))]
    exact ih.2 fun hm=>hn (.inl hm)
theorem yi {kvs:List (Key × V)}{k:Key}{y:V} (h:(kvs.map (·.1)).Nodup):((putK kvs k y).map (·.1)).Nodup/\∀ q∈(putK kvs k y).map (·.1),q=k ∨ q∈kvs.map (·.1):=by
 unfold putK
 by_cases a:(kvs.any fun kv=>decide (kv.1=k))=true
 ·rw [if_pos a,List.map_map,show ((fun x:Key × V=>x.1) ∘ fun kv:Key × V=>if kv.1=k then (kv.1,y) else kv)=fun x:Key × V=>x.1 from funext fun kv=>by show (if kv.1=k then (kv.1,y) else kv).1=kv.1;split <;> rfl]
  exact ⟨h,fun q hq=>.inr hq⟩
 ·rw [if_neg a,List.map_append]
  refine ⟨gK h fun hm=>a ?_,fun q hq=>?_⟩
  ·obtain ⟨kv,h1,h2⟩:=List.mem_map.mp hm
   exact List.any_eq_true.mpr ⟨kv,h1,decide_eq_true h2⟩
  ·rcases List.mem_append.mp hq with hq | hq
   ·exact .inr hq
   ·exact .inl (List.mem_singleton.mp hq)
theorem mw:∀ (ch:List Chg) (kvs:List (Key × V)),(kvs.map (·.1)).Nodup->(∀ q∈kvs.map (·.1),∃ n,q=(Sum.inl n:Key))->((ch.foldl rM kvs).map (·.1)).Nodup/\∀ q∈(ch.foldl rM kvs).map (·.1),∃ n,q=(Sum.inl n:Key)
 | [],_,h1,h2=>⟨h1,h2⟩
 | c::ch,kvs,h1,h2=>by
  obtain ⟨a,b⟩:=yi (k:=.inl c.num) (y:=c.ent.elim V.non V.ref) h1
  exact mw ch _ a fun q hq=>by
   rcases b q hq with e | e
   ·exact ⟨_,e⟩
   ·exact h2 q e
theorem mr:∀ (gs:List Lge) (es:List Ben),∀ e∈gs.foldl df es,e∈es ∨ ∃ l∈gs,e=⟨l.num,l.key,l.adr⟩
 | [],_,_,h=>.inl h
 | l::gs,es,e,h=>by
  rcases mr gs (df es l) e h with h1 | ⟨l',h1,h2⟩
  ·unfold df at h1
   split at h1
   ·exact .inl (List.mem_filter.mp h1).1
   ·rcases List.mem_append.mp h1 with h1 | h1
    ·exact .inl h1
    ·exact .inr ⟨l,List.mem_cons_self,List.mem_singleton.mp h1⟩
  ·exact .inr ⟨l',List.mem_cons_of_mem _ h1,h2⟩
theorem ke {gs:List Lge}{e:Ben} (h:e∈dF gs):∃ l∈gs,e=⟨l.num,l.key,l.adr⟩:=(mr gs [] e h).resolve_left (by intro z;cases z)
theorem CS {kvs:List (Key × V)}{k:Key}{v:V}:bS kvs k=some v->∃ i:Nat,kvs[i]?=some (k,v):=by
 induction kvs with
 | nil=>intro h;cases h
 | cons p kvs ih =>
  intro h
  by_cases e:p.1=k
  ·rw [cz e] at h
   exact ⟨0,by rw [← e,← Option.some.inj h];rfl⟩
  ·rw [cy e] at h
   obtain ⟨i,hi⟩:=ih h
   exact ⟨i + 1,hi⟩
theorem CT {kvs:List (Key × V)}{k:Key}{v:V} (hn:(kvs.map (·.1)).Nodup) (h:(k,v)∈kvs):bS kvs k=some v:=by
 induction kvs with
 | nil=>cases h
 | cons p kvs ih =>
  rw [List.map_cons] at hn
  have hn:=List.nodup_cons.mp hn
  rcases List.mem_cons.mp h with rfl | h
  ·exact cz rfl
  ·have:¬ p.1=k:=fun e=>hn.1 (by rw [e];exact List.mem_map.mpr ⟨(k,v),h,rfl⟩)
   rw [cy this]
   exact ih hn.2 h
theorem Bn {es:List Ben} (h:(es.map (·.num)).Nodup):es.Nodup:=(List.pairwise_map.mp h).imp fun h e=>h (by rw [e])
inductive da (Ad:Ads) (vs:List V) (H:Hp) (Q:VK) (E:XK):Prop
 | mk (ed b ca dn de cl sd:Addr) (es:List Ben) (lk:Lk) (l0 day:Int) (m j:Nat) (al:List Nat) (ws:List Int) (r:Int) (gs:List Lge) (q0:vs=[.ref ed,.int day]) (q1:iR Ad H ed b ca dn de cl sd es lk l0 m (gs.map cY)) (q2:gb Ad H ca al ws r) (q3:ia al ws r) (q4:H Ad.tb=some (gE sy)) (q5:m < 64) (q6:fO gs) (q7:(∀ (i:Nat) l,gs[i]?=some l->(l.day<=day ↔ i < j))) (q8:(∀ l∈gs,H l.adr=some (.tup (l.key.map kV))/\fF l.key/\0<=l.num/\l.num < ck al ws)) (q9:0<=day) (q10:day<=1000000000) (q11:∀ b' dn' de' es' H',ak H H'->bT Ad H' b' ca dn' de' es'->es'.Perm (dF (gs.take j))->Q (.ref b') H'):da Ad vs H Q E
theorem bo:aA ["self","day","standing","changed","number","entry","edition"] ["self","day"] (af bV):=⟨rfl,rfl,rfl,by decide +kernel,rfl,by decide +kernel,by decide +kernel⟩
theorem jY {f:Addr}{fd:FuncData} (F:Fun K "book" "Editions.book" bV f fd) (T:Bl mg) (AF:AdF K mg Ad) (C_is_day:Fnc P w K mg base (CX1 P w) 3 "is_day" ["thing"] iP) (M_Book_put:Mtd P w K mg base (CX1 P w) Ad.Book "put" 6 ["self","entry","number"] (dD Ad)) (M_Book_code:Mtd P w K mg base (CX1 P w) Ad.Book "code" 1 ["self"] (fv Ad)) (K_Book:Mak P w K mg base (CX1 P w) Ad.Book "Book" 1 ["self","code"] (fw Ad)):aX P w K mg base (CX1 P w) 7 f fd ["self","day"] (da Ad):=by
 refine F.okX (k:=6) bo (fun vs H Q E h=>?_) (fun cdv A outer s H vs Q E hr h=>?_)
 ·obtain ⟨ed,b,ca,dn,de,cl,sd,es,lk,l0,day,m,j,al,ws,r,gs,rfl,_⟩:=h
  rfl
 ·obtain ⟨ed,b,ca,dn,de,cl,sd,es,lk,l0,day,m,j,al,ws,r,gs,rfl,D,C,ok,Tb,m64,ro,hj,hg,d0,d1,k⟩:=h
  obtain ⟨dx,h1⟩:=D.eF
  obtain ⟨cs,hcl,lcl,hch⟩:=D.cF
  have hu:=hr.aO
  have hu1:=aZ hr
  refine ⟨_,aa (aW (cc (bN (aH C_is_day au (hr.mono (by decide)) (ag (pvL 1) (ae))))) (ah (cp PySem.F.excBase_ValueError AF.q_NoDay AF.g_NoDay bP rfl (ag (aF) (ae)))) (aJ)) (aa (az (i:=2) bo.nd (gz)) (aa (gR PassesOwn.leaving rfl (cU (K:=K) rfl (aY (K:=K) rfl (pvL 0))) (lq (K:=K) (n:=3) rfl rfl (aM (ax (i:=3) bo.nd) (aM (ax (i:=4) bo.nd) (aM (ax (i:=5) bo.nd) (eR))))) (ah (aW (aK fG (pvL 3) (pvL 1) (aL _)) (ah (fI hu1 (pvL 2) (pvL 4) (pvL 5))) (aJ)))) (aa (az (i:=6) bo.nd (j9 K_Book au (hr.mono (by decide)) (ag (dy M_Book_code au (hr.mono (by decide)) (aY (K:=K) rfl (pvL 0))) (ae)))) (aa (gR PassesOwn.leaving rfl (Az (Av (K:=K) rfl PySem.F.plainAttrs_dict PySem.F.slot_dict_items PySem.F.type_dict_items yu (pvL 2))) (lq (K:=K) (n:=2) rfl rfl (aM (ax (i:=4) bo.nd) (aM (ax (i:=5) bo.nd) (eR)))) (ah (aW (aK iN (pvL 5) (gi) (aL _)) (ah (cC (cn M_Book_put au (hr.mono (by decide)) (pvL 6) (ag (pvL 5) (ag (pvL 4) (ae)))))) (aJ)))) (ah (aG (pvL 6))))))),?_⟩
  refine ar fun nn hN=>?_
  and_intros
  refine ⟨_,.int,rfl,rfl,_,rfl,?_⟩
  have e0:bt 1000000001 (.int day)=true:=by
   show (decide (0<=day) && decide (day < 1000000001))=true
   rw [decide_eq_true d0,decide_eq_true (show day < 1000000001 by omega)];rfl
  rw [e0,if_neg (by decide)]
  show nn _ _ _
  rw [hN]
  clear hN nn
  refine ar fun nn hN=>?_
  and_intros
  intro F G1 hF t1 g1
  rw [hN]
  clear hN nn
  refine ar fun nn hN=>?_
  and_intros
  refine ⟨_,dx,_,_,t1 _ _ h1,AF.c_Editions,AF.n_Editions_changes,rfl,?_⟩
  and_intros
  have nF:∀ {c:Addr}{o:HO},H c=some o->c≠F:=fun e z=>by rw [z,hF] at e;cases e
  have lcs:cs.length=gs.length:=by have:=Paired.length hch;rwa [List.length_map] at this
  have lS:∀ i,(iU ((gs.take i).map cY)).length<=i:=fun i=>by
   induction i with
   | zero=>rw [List.take_zero];exact Nat.le_refl _
   | succ i ih =>
    by_cases hi:i < gs.length
    ·rw [List.take_add_one,List.getElem?_eq_getElem hi]
     show (iU ((gs.take i++[gs[i]]).map cY)).length<=_
     rw [List.map_append,List.map_singleton,kf]
     have:=eV (iU ((gs.take i).map cY)) (.inl (cY gs[i]).num) ((cY gs[i]).ent.elim V.non V.ref)
     show (putK _ _ _).length<=_
     omega
    ·rw [List.take_of_length_le (by omega)] at ih ⊢;omega
  refine .inl ⟨⟨_,.of (t1 _ _ hcl)⟩,gw (xs:=cs) (fun i σ G=>(∃ o3 o4 o5,σ=[some (V.ref ed),some (V.int day),some (V.ref F),o3,o4,o5,none])/\(∀ c o,c≠F->G1 c=some o->G c=some o)/\G F=some (.dK (iU ((gs.take (min i j)).map cY)))) ⟨⟨_,_,_,rfl⟩,fun _ _ _ e=>e,by rw [Nat.zero_min,List.take_zero];exact g1⟩ (fun i σ G _ ⟨_,kp,_⟩=>.of (kp _ _ (nF hcl) (t1 _ _ hcl))) ?_ ?_⟩
  ·rintro i v σ G hi ⟨⟨o3,o4,o5,rfl⟩,kp,gF⟩ N hNx
   clear hN
   obtain ⟨c,hc,p,rfl,hp⟩:=cZ hch hi
   rw [List.getElem?_map] at hc
   obtain ⟨l,hl,rfl⟩:=Option.map_eq_some_iff.mp hc
   have hil:i < gs.length:=(List.getElem?_eq_some_iff.mp hl).1
   have hpG:=kp _ _ (nF hp) (t1 _ _ hp)
   refine ⟨p,_,rfl,.of hpG,rfl,?_⟩
   and_intros
   by_cases hd:l.day<=day
   ·have ij:=(hj i l hl).mp hd
    have et:gs.take (i + 1)=gs.take i++[l]:=by rw [List.take_add_one,hl];rfl
    rw [Nat.min_eq_left (by omega)] at gF
    have l64:=lS i
    rw [show decide ((cY l).day<=day)=true from decide_eq_true hd,if_pos rfl]
    refine ⟨F,_,rfl,.inl ⟨_,.inl l.num,gF,rfl,ao (by omega),rfl⟩,hNx _ _ ⟨⟨_,_,_,rfl⟩,fun c o hc z=>by rw [aj hc];exact kp c o hc z,?_⟩⟩
    rw [Nat.min_eq_left (by omega),et,List.map_append,List.map_singleton,kf]
    exact aq
   ·have ij:¬ i < j:=fun z=>hd ((hj i l hl).mpr z)
    rw [show decide ((cY l).day<=day)=false from decide_eq_false hd,if_neg (by decide)]
    refine hNx _ _ ⟨⟨_,_,_,rfl⟩,kp,?_⟩
    rw [Nat.min_eq_right (by omega)] at gF ⊢
    exact gF
  rintro σ G ⟨⟨o3,o4,o5,rfl⟩,kp,gF⟩
  show nn _ _ _
  rw [hN]
  clear hN nn
  have er:iU ((gs.take (min cs.length j)).map cY)=iU ((gs.take j).map cY):=by
   rw [lcs]
   by_cases h:j<=gs.length
   ·rw [Nat.min_eq_right h]
   ·rw [Nat.min_eq_left (by omega),List.take_of_length_le (Nat.le_refl _),List.take_of_length_le (by omega)]
  have lSj:(iU ((gs.take j).map cY)).length < 64:=by
   have h1:=lS (min cs.length j)
   rw [er] at h1
   omega
  rw [er] at gF
  have tG:ak H G:=fun c o e=>kp c o (nF e) (t1 _ _ e)
  have DG:=D.same tG
  obtain ⟨bx,hb⟩:=DG.bF.bk
  refine ar fun nn hN=>?_
  and_intros
  refine ⟨_,dx,_,_,tG _ _ h1,AF.c_Editions,AF.n_Editions_current,rfl,?_⟩
  and_intros
  refine ⟨bx,_,hb,cb (by decide) (by decide) (by decide) ca dn de,b,ca,dn,de,es,rfl,DG.bF,?_⟩
  intro b' bx' G2 hb2 hbx2 hbb2 t2 g2 g2x
  refine ⟨b',bx',ca,rfl,g2,fun dn' de' G3 hdn hde ne1 ne2 ne3 k3 g3 gn ge=>⟨rfl,?_⟩⟩
  have s3:ak G G3:=fun c o e=>k3 c o (fun z=>by rw [z,hb2] at e;cases e) (t2 _ _ e)
  have B3:bT Ad G3 b' ca dn' de' []:=⟨⟨bx',g3⟩,gn,ge,(fun e he=>by cases he),.nil,.nil⟩
  have fn:G dn'=none:=t2.free hdn
  have fe:G de'=none:=t2.free hde
  have gF3:=s3 _ _ gF
  rw [hN]
  clear hN nn
  refine ar fun nn hN=>?_
  and_intros
  refine ⟨.inr (.inr (.inl ⟨rfl,.inl ⟨_,gF3⟩⟩)),_,gF3,fun p G4 hp t4 g4=>⟨p,F,_,rfl,g4,t4 _ _ gF3,fun ob G5 k5 g5=>?_⟩⟩
  have T5:ak H G5:=fun c o e=>k5 _ _ (nF e) (t4 _ _ (s3 _ _ (tG _ _ e)))
  have nbF:∀ {c:Addr},G c=none->c≠F:=fun e z=>by rw [z,gF] at e;cases e
  have B5:bT Ad G5 b' ca dn' de' []:=⟨⟨bx',k5 _ _ (nbF hb2) (t4 _ _ g3)⟩,k5 _ _ (nbF fn) (t4 _ _ gn),k5 _ _ (nbF fe) (t4 _ _ ge),(fun e he=>by cases he),.nil,.nil⟩
  obtain ⟨kn,ki⟩:=mw ((gs.take j).map cY) [] .nil (by intro q hq;cases hq)
  have kn:((iU ((gs.take j).map cY)).map (·.1)).Nodup:=kn
  have ki:∀ q∈(iU ((gs.take j).map cY)).map (·.1),∃ n,q=(Sum.inl n:Key):=ki
  have rn:=(ro.take j).nn
  have rv:=fun n=>ze (ro.take j) n
  have rf:∀ e∈dF (gs.take j),G5 e.adr=some (.tup (e.key.map kV))/\fF e.key/\0<=e.num/\e.num < ck al ws:=fun e he=>by
   obtain ⟨l,hl,rfl⟩:=ke he
   obtain ⟨a1,a2⟩:=hg l (List.mem_of_mem_take hl)
   exact ⟨T5 _ _ a1,a2⟩
  clear er hch hcl lcl lS lcs hj hg ro gF3 t4 g4 gF kp B3
  have fn5:H dn'=none:=tG.free fn
  have fe5:H de'=none:=tG.free fe
  generalize dF (gs.take j)=rs at rn rv rf k
  generalize iU ((gs.take j).map cY)=kvs at kn ki rv g5 lSj
  refine xN (fun i σ G'=>(∃ o4 o5,σ=[some (V.ref ed),some (V.int day),some (V.ref F),o3,o4,o5,some (V.ref b')])/\(∀ c o,c≠dn'->c≠de'->G5 c=some o->G' c=some o)/\∃ es',bT Ad G' b' ca dn' de' es'/\es'.length<=i/\(∀ e∈es',e∈rs/\∃ u,u < i/\∃ x,kvs[u]?=some (.inl e.num,x))/\∀ u,u < i->∀ n ad,kvs[u]?=some (.inl n,V.ref ad)->n∈es'.map (·.num)) ⟨⟨_,_,rfl⟩,fun _ _ _ _ e=>e,[],B5,Nat.le_refl _,(fun e he=>by cases he),fun u hu=>by omega⟩ (fun i σ G' _ ⟨_,kp',_⟩=>kp' _ _ (fun z=>by rw [← z] at fn;exact nbF fn rfl) (fun z=>by rw [← z] at fe;exact nbF fe rfl) g5) ?_ ?_
  ·rintro i key x σ G' hi ⟨⟨o4,o5,rfl⟩,kp',es',B,le,h1',h2'⟩ N hNx p' G6 hp' t6 g6
   clear hN
   obtain ⟨n,rfl⟩:=ki key (List.mem_map_of_mem (List.mem_of_getElem? hi))
   have hx:=CT kn (List.mem_of_getElem? hi)
   have il:i < kvs.length:=(List.getElem?_eq_some_iff.mp hi).1
   refine ⟨p',_,rfl,.of g6,rfl,?_⟩
   have un:n ∉ es'.map (·.num):=fun hm=>by
    obtain ⟨e,he,ee⟩:=List.mem_map.mp hm
    obtain ⟨_,u,hu,x',hu'⟩:=h1' e he
    have:=(List.getElem?_inj (i:=u) (j:=i) (by rw [List.length_map];omega) kn).mp (by rw [List.getElem?_map,List.getElem?_map,hu',hi,ee];rfl)
    omega
   by_cases hm:n∈rs.map (·.num)
   ·obtain ⟨e,he,rfl⟩:=List.mem_map.mp hm
    have hv:=(rv e.num).1 e he rfl
    rw [hx] at hv
    obtain rfl:=Option.some.inj hv
    obtain ⟨a1,a2,a3,a4⟩:=rf e he
    have B6:=B.same t6
    obtain ⟨bx6,hb6⟩:=B6.bk
    have T6:ak H G6:=fun c o z=>t6 _ _ (kp' c o (fun y=>by rw [y,fn5] at z;cases z) (fun y=>by rw [y,fe5] at z;cases z) (T5 _ _ z))
    have ek:e.key ∉ es'.map (·.key):=fun hk=>by
     obtain ⟨e',he',ee⟩:=List.mem_map.mp hk
     have:=jS rn.2 (h1' e' he').1 he ee
     rw [this] at he'
     exact un (List.mem_map_of_mem he')
    have B5n:=B5.hn
    have B5e:=B5.he
    and_intros
    refine ⟨bx6,_,hb6,cb (by decide) (by decide) (by decide) ca dn' de',b',ca,dn',de',e.adr,es',al,ws,r,e.num,e.key,.int e.num,rfl,B6,C.same T6,ok,T6 _ _ Tb,t6 _ _ (kp' _ _ (aC a1 B5n (by intro z;cases z)) (aC a1 B5e (by intro z;cases z)) a1),a2,ek,by omega,a3,a4,un,rfl,fun G7 k7 B7=>hNx _ _ ⟨⟨_,_,rfl⟩,fun c o c1 c2 z=>k7 c o c1 c2 (t6 _ _ (kp' c o c1 c2 z)),_,B7,by rw [List.length_append];show es'.length + 1<=_;omega,fun e' he'=>?_,fun u hu n' ad' hu'=>?_⟩⟩
    ·rcases List.mem_append.mp he' with he' | he'
     ·obtain ⟨b1,u,b2,b3⟩:=h1' e' he'
      exact ⟨b1,u,by omega,b3⟩
     ·rw [List.mem_singleton.mp he']
      exact ⟨he,i,by omega,_,hi⟩
    ·rw [List.map_append,List.mem_append]
     by_cases hui:u=i
     ·subst hui
      rw [hi] at hu'
      cases hu'
      exact .inr (List.mem_singleton.mpr rfl)
     ·exact .inl (h2' u (by omega) n' ad' hu')
   ·have hv:x=V.non:=by
     rcases (rv n).2 hm with z | z
     ·rw [hx] at z;cases z
     ·rw [hx] at z;exact Option.some.inj z
    subst hv
    and_intros
    refine hNx _ _ ⟨⟨_,_,rfl⟩,fun c o c1 c2 z=>t6 _ _ (kp' c o c1 c2 z),es',B.same t6,by omega,fun e' he'=>?_,fun u hu n' ad' hu'=>?_⟩
    ·obtain ⟨b1,u,b2,b3⟩:=h1' e' he'
     exact ⟨b1,u,by omega,b3⟩
    ·by_cases hui:u=i
     ·subst hui
      rw [hi] at hu'
      cases hu'
     ·exact h2' u (by omega) n' ad' hu'
  rintro σ G' ⟨⟨o4,o5,rfl⟩,kp',es',B,le,h1',h2'⟩
  show nn _ _ _
  rw [hN]
  clear hN nn
  and_intros
  refine k b' dn' de' es' G' (fun c o z=>kp' c o (fun y=>by rw [y,fn5] at z;cases z) (fun y=>by rw [y,fe5] at z;cases z) (T5 _ _ z)) B ((List.perm_ext_iff_of_nodup (Bn B.nn) (Bn rn.1)).mpr fun e=>⟨fun he=>(h1' e he).1,fun he=>?_⟩)
  obtain ⟨u,hu⟩:=CS ((rv e.num).1 e he rfl)
  obtain ⟨e',he',ee⟩:=List.mem_map.mp (h2' u (List.getElem?_eq_some_iff.mp hu).1 _ _ hu)
  rw [← jS rn.1 (h1' e' he').1 he ee]
  exact he'
def qz (Ad:Ads):Nat->Addr
 | 0=>Ad.NoDay
 | 1=>Ad.NoEntry
 | 2=>Ad.Twice
 | 3=>Ad.NoNumber
 | _=>Ad.TooMany
def ixD:Nat->Nat
 | 0=>6
 | 1=>3
 | 2=>4
 | 3=>1
 | _=>5
def nmD:Nat->Str
 | 0=>"NoDay"
 | 1=>"NoEntry"
 | 2=>"Twice"
 | 3=>"NoNumber"
 | _=>"TooMany"
def EdN (Ad:Ads) (Q:VK):XK:=fun C d H1=>∃ j,j < 5/\C=.ref (qz Ad j)/\d=none/\∀ H',ak H1 H'->Q (.str (nmD j)) H'
theorem r6 {Ad:Ads}{vs:List V}{H:Hp}{Q Q':VK}{E E':XK} (h:bf Ad vs H Q E) (hq:∀ x G,Q x G->Q' x G) (hE:∀ c d G,E c d G->E' c d G):bf Ad vs H Q' E':=by
 obtain ⟨ed,b,ca,dn,de,cl,sd,t,es,lk,l0,day,n,m,ch,al,ws,r,key,y,e0,D,C,ok,Tb,Tb1,ht,eo,h300,m9,d0,d1,ks⟩:=h
 refine ⟨ed,b,ca,dn,de,cl,sd,t,es,lk,l0,day,n,m,ch,al,ws,r,key,y,e0,D,C,ok,Tb,Tb1,ht,eo,h300,m9,d0,d1,?_⟩
 rcases ks with ⟨a,k⟩ | ⟨a,⟨u,k⟩ | ⟨u,v,w,x,z,k⟩ | ⟨u,v,w,x,k⟩ | ⟨u,v,w,k⟩⟩
 ·exact .inl ⟨a,hE _ _ _ k⟩
 ·exact .inr ⟨a,.inl ⟨u,fun G t=>hE _ _ _ (k G t)⟩⟩
 ·exact .inr ⟨a,.inr (.inl ⟨u,v,w,x,z,fun G t=>hE _ _ _ (k G t)⟩)⟩
 ·exact .inr ⟨a,.inr (.inr (.inl ⟨u,v,w,x,fun G t=>hE _ _ _ (k G t)⟩))⟩
 ·exact .inr ⟨a,.inr (.inr (.inr ⟨u,v,w,fun G f e=>hq _ _ (k G f e)⟩))⟩
theorem rN {Ad:Ads}{vs:List V}{H:Hp}{Q Q':VK}{E E':XK} (h:bg Ad vs H Q E) (hq:∀ x G,Q x G->Q' x G) (hE:∀ c d G,E c d G->E' c d G):bg Ad vs H Q' E':=by
 obtain ⟨ed,b,ca,dn,de,cl,sd,t,es,lk,l0,day,m,ch,key0,e0,D,ht,eo,m9,d0,d1,ks⟩:=h
 refine ⟨ed,b,ca,dn,de,cl,sd,t,es,lk,l0,day,m,ch,key0,e0,D,ht,eo,m9,d0,d1,?_⟩
 rcases ks with ⟨a,k⟩ | ⟨a,k,kn⟩
 ·exact .inl ⟨a,hE _ _ _ k⟩
 ·exact .inr ⟨a,fun e he ek G f x=>hq _ _ (k e he ek G f x),fun hn G t=>hE _ _ _ (kn hn G t)⟩
inductive gU (K:PySem.W.Frag) (Ad:Ads) (vs:List V) (H:Hp) (Q:VK) (E:XK):Prop
 | mk (ed q t:Addr) (srt:Str) (day:Int) (y:V) (q0:vs=[.ref ed,.ref q]) (q1:H q=some (.tup [.str srt,.int day,.ref t,y])) (q2:(∃ dx fs,H ed=some (.ins Ad.Editions dx fs)/\fs.lookup (Str.ofString "put")=none/\fs.lookup (Str.ofString "strike")=none)) (q3:((srt=("strike":Str)/\bg Ad [.ref ed,.int day,.ref t] H Q (EdN Ad Q)) ∨ (srt=("put":Str)/\(y=.non ∨ ∃ i,y=.int i)/\bf Ad [.ref ed,.int day,.ref t,y] H Q (EdN Ad Q)))):gU K Ad vs H Q E
theorem bq:aA ["_law_editions","_law_deed","_law_sort","_law_day","_law_entry","_law_number","_law_found","e","_law_some","_law_k"] ["_law_editions","_law_deed"] (af fD):=⟨rfl,rfl,rfl,by decide +kernel,rfl,by decide +kernel,by decide +kernel⟩
theorem sM {f:Addr}{fd:FuncData} (F:Fun K "_law_did" "_law_did" fD f fd) (T:Bl mg) (AF:AdF K mg Ad) (M_Editions_strike:Mtd P w K mg base (CX1 P w) Ad.Editions "strike" 6 ["self","day","entry"] (bg Ad)) (M_Editions_put:Mtd P w K mg base (CX1 P w) Ad.Editions "put" 7 ["self","day","entry","number"] (bf Ad)) (D_Editions_put:zJ P w K mg base (CX1 P w) Ad.Editions "put" 7 ["self","day","entry","number"] (bf Ad)):aX P w K mg base (CX1 P w) 8 f fd ["_law_editions","_law_deed"] (gU K Ad):=by
 refine F.okX (k:=7) bq (fun vs H Q E h=>?_) (fun cdv A outer s H vs Q E hr h=>?_)
 ·obtain ⟨ed,q,t,srt,day,y,rfl,_⟩:=h
  rfl
 ·obtain ⟨ed,q,t,srt,day,y,rfl,hq,⟨dx,fs,he,hfp,hfs⟩,k⟩:=h
  have hu:=hr.aO
  have hu1:=aZ hr
  refine ⟨_,aa (kc (pvL 1) (iO (K:=K) (n:=4) rfl rfl (aM (ax (i:=2) bq.nd) (aM (ax (i:=3) bq.nd) (aM (ax (i:=4) bq.nd) (aM (ax (i:=5) bq.nd) (eR))))))) (aa (az (i:=6) bq.nd (aF)) (aa (AA (i:=7) rfl rfl rfl bq.nd AF.g_CableError (fun pn xe E1 po px=>ah (aW (aK (cS (K:=K) rfl hu) (pvL 2) (aF) (aL _)) (ah (az (i:=6) bq.nd (cn M_Editions_strike px (hr.mono (by decide)) (pvL 0) (ag (pvL 3) (ag (pvL 4) (ae)))))) (ah (aW (aK sQ (pvL 5) (gi) (aL _)) (ah (az (i:=6) bq.nd (yJ D_Editions_put px (hr.mono (by decide)) (pvL 0) (ag (pvL 3) (ag (pvL 4) (ae)))))) (ah (az (i:=6) bq.nd (cn M_Editions_put px (hr.mono (by decide)) (pvL 0) (ag (pvL 3) (ag (pvL 4) (ag (pvL 5) (ae))))))))))) (fun _=>aa (az (i:=8) bq.nd (bc (ag (av (eB (K:=K) rfl) T.isinstance bt_isinstance (ag (pvL 7) (ag (i3 AF.g_NoDay) (ae)))) (ag (av (eB (K:=K) rfl) T.isinstance bt_isinstance (ag (pvL 7) (ag (i3 AF.g_NoEntry) (ae)))) (ag (av (eB (K:=K) rfl) T.isinstance bt_isinstance (ag (pvL 7) (ag (i3 AF.g_Twice) (ae)))) (ag (av (eB (K:=K) rfl) T.isinstance bt_isinstance (ag (pvL 7) (ag (i3 AF.g_NoNumber) (ae)))) (ae))))))) (aa (az (i:=8) bq.nd (aD aN (pvL 8) (bc (ag (av (eB (K:=K) rfl) T.isinstance bt_isinstance (ag (pvL 7) (ag (i3 AF.g_TooMany) (ae)))) (ag (av (eB (K:=K) rfl) T.isinstance bt_isinstance (ag (pvL 7) (ag (fj T.ValueError nr) (ae)))) (ae)))))) (ah (A9 PassesOwn.never (kJ T.range (ag (ai) (ae))) (i4 (i:=9) bq.nd) (ah (aW (aK (cS (K:=K) rfl hu) (pvL 8) (C9 ["_law_j"] ⟨rfl,by decide +kernel,rfl,by decide +kernel⟩ (.cons (j:=9) rfl (.inl (by kernel_rfl)) (.nil)) (by decide +kernel) (kJ T.range (ag (ai) (ae))) (fun _ _ _ _=>ax (i:=0) (show (["_law_j","_law_k"]:List Str).Nodup from by decide +kernel)) (fun _ _ _ _=>eS) (fun _ _ _ _=>yL (cj (cS (K:=K) rfl hu) (pvL 0) (pvC 1) (aL _)) (gP (cj (cS (K:=K) rfl hu) (pvL 0) (ai) (aL _))))) (aL _)) (ah (az (i:=6) bq.nd (bz (cV (K:=K) rfl) (bc (ag (aF) (ag (aF) (ag (aF) (ag (aF) (ag (aF) (ae))))))) (pvC 9) (fun _ _=>rfl)))) (aJ)))))))) (ah (aG (pvL 6))))),?_⟩
  have big:∀ {u:Nat},u<=1000->u<=sizeLine:=fun hu=>Nat.le_of_lt (ao (by omega))
  refine ar fun nn hN=>?_
  and_intros
  refine ⟨_,.inr (.of hq),rfl,?_⟩
  and_intros
  rw [hN]
  clear hN nn
  refine ar fun nn hN=>?_
  and_intros
  rw [hN]
  clear hN nn
  refine ar fun nn hN=>?_
  refine AQ fun th hTh=>?_
  rw [oQ]
  and_intros
  have hj:∀ j,j < 5->Ad.zT[ixD j]?=some (qz Ad j):=fun j hj=>by
   rcases (show j=0 ∨ j=1 ∨ j=2 ∨ j=3 ∨ j=4 by omega) with rfl | rfl | rfl | rfl | rfl <;> rfl
  have hand:∀ (j:Nat) (H1 H2:Hp) (ea:Addr),j < 5->(∀ H',ak H1 H'->Q (.str (nmD j)) H')->ak H1 H2->H2 ea=some (mq ea (.ref (qz Ad j)) none)->th ea { nx:=fun σ H=>nn { nx:=fun x H'=>Q V.non H',rt:=Q } (List.set σ 7 none) H,rt:=Q } [some (V.ref ed),some (V.ref q),some (V.str srt),some (V.int day),some (V.ref t),some y,some (V.str (Str.ofString "none")),some (V.ref ea),none,none] H2:=fun j H1 H2 ea j5 kk s2 h2=>by
   rw [hTh]
   clear hTh th k
   have eC:=xG AF.err (c:=qz Ad j) (List.mem_of_getElem? (hj j j5))
   have kd:∀ {i:Nat}{d:Addr},Ad.zT[i]?=some d->PySem.W.kitOne K (.ref (qz Ad j)) (.ref d)=some (decide (ixD j=i)):=fun {i d} hd=>by rw [eC.kd d (List.mem_of_getElem? hd),Bm AF.nd (hj j j5) hd]
   have tX:∀ {H'},ak H2 H'->TyX K H' (.ref ea) (.ref (qz Ad j)):=fun s=>.inr ⟨ea,_,rfl,rfl,s _ _ h2,eC.ex⟩
   have r0:=ak.refl H2
   refine ar fun n2 hM=>?_
   and_intros
   refine ⟨_,_,tX r0,.inl (kd (i:=6) rfl),_,_,tX r0,.inl (kd (i:=3) rfl),_,_,tX r0,.inl (kd (i:=4) rfl),_,_,tX r0,.inl (kd (i:=1) rfl),big (by decide),fun p3 H3 hp3 s3 h3=>?_⟩
   rw [hM]
   clear hM n2
   refine ar fun n2 hM=>?_
   and_intros
   refine ⟨_,_,tX s3,.inl (kd (i:=5) rfl),?_⟩
   and_intros
   refine ⟨_,_,tX s3,eC.ve,big (by decide),fun p4 H4 hp4 s4 h4=>⟨_,_,s4 _ _ h3,h4,big (by simp),fun p5 H5 hp5 s5 h5=>?_⟩⟩
   have h5':H5 p5=some (.lst [V.bl (decide (ixD j=6)),V.bl (decide (ixD j=3)),V.bl (decide (ixD j=4)),V.bl (decide (ixD j=1)),V.bl (decide (ixD j=5)),V.bl true]):=h5
   have s25:=s3.trans (s4.trans s5)
   clear h5 h4 h3
   rw [hM]
   clear hM n2
   and_intros
   have hin:∀ {G:Hp},ak H5 G->gH (some (.ref ea)) G:=fun t=>sr ((s25.trans t) _ _ h2)
   refine ⟨by decide,by decide,xP (fun i σ G=>(∃ o,σ=[some (V.ref ed),some (V.ref q),some (V.str srt),some (V.int day),some (V.ref t),some y,some (V.str (if i<=j then Str.ofString "none" else nmD j)),some (V.ref ea),some (V.ref p5),o])/\ak H5 G) ⟨⟨_,by rw [if_pos (Nat.zero_le _)]⟩,ak.refl _⟩ (fun σ G ⟨_,tG⟩=>hin tG) ?_ ?_⟩
   ·rintro i σ G hi ⟨⟨o,rfl⟩,tG⟩ N hNx
    rw [gu,Int.zero_add]
    and_intros
    refine ⟨by decide,by decide,vS (xs:=List.range 6) (fun k:Nat=>V.int (0 + (k:Int))) (fun x y e=>by have:=V.int.inj e;omega) (sZ (n:=6) (hin tG)) (by rw [List.length_range];exact ao (by decide)) (fun k:Nat=>V.bl (decide (k=i) || decide (k=5))) ?_ ?_⟩
    ·intro u hu' G1 t1 R hR
     and_intros
     have hR1:=hR G1 (ak.refl _)
     by_cases hji:u=i
     ·rw [decide_eq_true (show 0 + (u:Int)=i by omega),if_pos rfl]
      rw [decide_eq_true hji,Bool.true_or] at hR1
      exact hR1
     ·rw [decide_eq_false (show ¬ 0 + (u:Int)=i by omega),if_neg (by decide),show decide (0 + (u:Int)=5)=decide (u=5) from decide_eq_decide.mpr (by omega)]
      rw [decide_eq_false hji,Bool.false_or] at hR1
      exact hR1
    intro D G1 hD t1 g1
    and_intros
    have g5:=(tG.trans t1) _ _ h5'
    have tG1:=tG.trans t1
    have hi5:i < 5:=hi
    have eqv:jr [V.bl (decide (ixD j=6)),V.bl (decide (ixD j=3)),V.bl (decide (ixD j=4)),V.bl (decide (ixD j=1)),V.bl (decide (ixD j=5)),V.bl true] ((List.range 6).map fun k:Nat=>V.bl (decide (k=i) || decide (k=5)))=decide (i=j):=by
     rcases (show i=0 ∨ i=1 ∨ i=2 ∨ i=3 ∨ i=4 by omega) with rfl | rfl | rfl | rfl | rfl <;> rcases (show j=0 ∨ j=1 ∨ j=2 ∨ j=3 ∨ j=4 by omega) with rfl | rfl | rfl | rfl | rfl <;> rfl
    have at5:atI [V.str (Str.ofString "NoDay"),V.str (Str.ofString "NoEntry"),V.str (Str.ofString "Twice"),V.str (Str.ofString "NoNumber"),V.str (Str.ofString "TooMany")] (i:Int)=some (V.str (nmD i)):=by
     rcases (show i=0 ∨ i=1 ∨ i=2 ∨ i=3 ∨ i=4 by omega) with rfl | rfl | rfl | rfl | rfl <;> rfl
    refine ⟨_,_,.of g5,.of g1,rfl,List.all_eq_true.mpr (fun v hv=>by obtain ⟨w,_,rfl⟩:=List.mem_map.mp hv;rfl),?_⟩
    rw [eqv]
    by_cases hij:i=j
    ·subst hij
     rw [if_pos (by rw [decide_eq_true rfl])]
     refine ⟨big (by decide),fun p6 G6 _ t6 g6=>⟨_,_,.l g6,at5,hNx _ _ ⟨⟨_,by rw [if_neg (by omega)]⟩,tG1.trans t6⟩⟩⟩
    ·rw [decide_eq_false hij,if_neg (by decide)]
     refine hNx _ _ ⟨⟨some (V.int i),?_⟩,tG1⟩
     by_cases hle:i<=j
     ·rw [if_pos hle,if_pos (show i + 1<=j by omega)]
     ·rw [if_neg hle,if_neg (show ¬ i + 1<=j by omega)]
   rintro σ G ⟨⟨o,rfl⟩,tG⟩
   show nn _ _ _
   rw [hN]
   and_intros
   rw [if_neg (show ¬ (5:Int).toNat<=j by show ¬ 5<=j;omega)]
   exact kk G (s2.trans (s25.trans tG))
  have fin:∀ (c:Value) (d:Option Addr) (G:Hp),EdN Ad Q c d G->PySem.W.exmOne K c (.ref Ad.CableError)=some true/\∀ (ea:Addr) (H2:Hp),G ea=none->ak G H2->H2 ea=some (mq ea c d)->th ea { nx:=fun σ H=>nn { nx:=fun x H'=>Q V.non H',rt:=Q } (List.set σ 7 none) H,rt:=Q } [some (V.ref ed),some (V.ref q),some (V.str srt),some (V.int day),some (V.ref t),some y,some (V.str (Str.ofString "none")),some (V.ref ea),none,none] H2:=fun c d G ⟨j,j5,e1,e2,kk⟩=>by
   subst e1 e2
   exact ⟨(xG AF.err (c:=qz Ad j) (List.mem_of_getElem? (hj j j5))).em,fun ea H2 _ s2 h2=>hand j G H2 ea j5 kk s2 h2⟩
  rcases k with ⟨rfl,k⟩ | ⟨rfl,hy,k⟩
  ·rw [if_pos (by decide)]
   refine ⟨dx,fs,he,hfs,rN k (fun x G hx=>?_) fun c d G hE=>fin c d G hE⟩
   rw [hN]
   and_intros
   exact hx
  rw [if_neg (by decide)]
  rcases hy with rfl | ⟨i,rfl⟩
  ·and_intros
   refine ⟨dx,fs,he,hfp,r6 k (fun x G hx=>?_) fun c d G hE=>fin c d G hE⟩
   rw [hN]
   and_intros
   exact hx
  ·and_intros
   refine ⟨dx,fs,he,hfp,r6 k (fun x G hx=>?_) fun c d G hE=>fin c d G hE⟩
   rw [hN]
   and_intros
   exact hx
theorem uy {K:PySem.W.Frag}{H:Hp}{D1 D2:Addr}{ws1 ws2:List V}{ms:List Ben} (g1:H D1=some (.lst ws1)) (g2:H D2=some (.lst ws2)) (P1:Paired (fun v (m:Ben)=>∃ p,v=V.ref p/\H p=some (.tup [.int m.num,.ref m.adr])) ws1 ms)
  (P2:Paired (fun v (m:Ben)=>∃ p,v=V.ref p/\H p=some (.tup [.int m.num,.ref m.adr])) ws2 ms):RcR K H 1 (.ref D1) (.ref D2) true:=by
 refine ⟨D1,D2,rfl,rfl,.inl ⟨ws1,ws2,.of g1,.of g2,.inr ⟨(Paired.length P1).trans (Paired.length P2).symm,fun _=>true,fun i x y e1 e2=>?_,(List.all_eq_true.mpr fun _ _=>rfl).symm⟩⟩⟩
 obtain ⟨m1,f1,p1,rfl,h1⟩:=cZ P1 e1
 obtain ⟨m2,f2,p2,rfl,h2⟩:=cZ P2 e2
 rw [f1] at f2
 cases f2
 by_cases e:p1=p2
 ·subst e;exact .same rfl
 ·refine EqR.tup (K:=K) (H:=H) (n:=0) (fun _=>true) e (.of h1) (.of h2) (fun j u v a1 a2=>?_)
  rw [a1] at a2
  cases a2
  match j,a1 with
  | 0,a1=>cases a1;exact .same rfl
  | 1,a1=>cases a1;exact .same rfl
theorem rK {ms ms':List Ben} (h1:(ms.map (·.num)).Pairwise (· < ·)) (h2:(ms'.map (·.num)).Pairwise (· < ·)) (hp:ms.Perm ms'):ms=ms' :=
 List.Perm.eq_of_pairwise (le:=fun a b:Ben=>a.num < b.num) (fun a b _ _ h1 h2=>absurd h2 (by omega)) (List.pairwise_map.mp h1) (List.pairwise_map.mp h2) hp
theorem StA.keep {Ad:Ads}{H H':Hp}{ed b ca dn de cl sd st nw sk lg:Addr}{es es2:List Ben}{lk lk2:Lk}{l0 l2:Int}{m m2:Nat}{gs:List Lge}{ch:List Chg} (h:StA H st nw sk lg es lk l0 m gs) (E:iR Ad H ed b ca dn de cl sd es2 lk2 l2 m2 ch) (ap:∀ c∈[ed,b,dn,de,cl,sd],∀ c'∈[st,nw,sk,lg],c'≠c)
  (k:∀ c o,c≠ed->c≠dn->c≠de->c≠cl->c≠sd->H c=some o->H' c=some o):StA H' st nw sk lg es lk l0 m gs/\∀ c xs,H c=some (.tup xs)->H' c=some (.tup xs):=by
 obtain ⟨dx,he⟩:=E.eF
 obtain ⟨cs,hcl,_⟩:=E.cF
 obtain ⟨kv2,hsd,_⟩:=E.sF
 have tup:∀ c xs,H c=some (.tup xs)->H' c=some (.tup xs):=fun c xs e=>k c _ (aC e he (by intro z;cases z)) (aC e E.bF.hn (by intro z;cases z)) (aC e E.bF.he (by intro z;cases z)) (aC e hcl (by intro z;cases z)) (aC e hsd (by intro z;cases z)) e
 have at_:∀ c∈[st,nw,sk,lg],∀ o,H c=some o->H' c=some o:=fun c hc o e=>k c o (ap ed (by simp) c hc) (ap dn (by simp) c hc) (ap de (by simp) c hc) (ap cl (by simp) c hc) (ap sd (by simp) c hc) e
 obtain ⟨h1,h2,⟨kvs,h3,h4,h5⟩,⟨ls,h6,h7,h8,h8'⟩,h9,h10,h11,h12⟩:=h
 exact ⟨⟨at_ _ (by simp) _ h1,at_ _ (by simp) _ h2,⟨kvs,at_ _ (by simp) _ h3,h4.past tup,h5⟩,⟨ls,at_ _ (by simp) _ h6,h7,h8.imp id fun ⟨t,a,b,c,e,e2⟩=>⟨t,a,b,c,e,tup _ _ e2⟩,jv h8' tup⟩,fun e he=>⟨tup _ _ (h9 e he).1,(h9 e he).2⟩,h10,h11,h12⟩,tup⟩
theorem iR.keep {Ad:Ads}{H H':Hp}{ed b ca dn de cl sd st nw sk lg:Addr}{es es2:List Ben}{lk lk2:Lk}{l0 l2:Int}{m m2:Nat}{gs:List Lge}{ch:List Chg} (E:iR Ad H ed b ca dn de cl sd es lk l0 m ch) (h:StA H st nw sk lg es2 lk2 l2 m2 gs) (ap:∀ c∈[ed,b,dn,de,cl,sd],∀ c'∈[st,nw,sk,lg],c'≠c)
  (k:∀ c o,c≠nw->c≠sk->c≠lg->H c=some o->H' c=some o):iR Ad H' ed b ca dn de cl sd es lk l0 m ch/\∀ c xs,H c=some (.tup xs)->H' c=some (.tup xs):=by
 obtain ⟨kv2,hsk,_⟩:=h.k
 obtain ⟨ls2,hlg,_⟩:=h.g
 have tup:∀ c xs,H c=some (.tup xs)->H' c=some (.tup xs):=fun c xs e=>k c _ (aC e h.n (by intro z;cases z)) (aC e hsk (by intro z;cases z)) (aC e hlg (by intro z;cases z)) e
 have at_:∀ c∈[ed,b,dn,de,cl,sd],∀ o,H c=some o->H' c=some o:=fun c hc o e=>k c o (ap c hc nw (by simp)).symm (ap c hc sk (by simp)).symm (ap c hc lg (by simp)).symm e
 obtain ⟨⟨dx,h1⟩,⟨⟨bx,b1⟩,b2,b3,b4,b5,b6⟩,⟨cs,h3,h4,h4'⟩,⟨kvs,h5,h6,h7⟩,h8⟩:=E
 exact ⟨⟨⟨dx,at_ _ (by simp) _ h1⟩,⟨⟨bx,at_ _ (by simp) _ b1⟩,at_ _ (by simp) _ b2,at_ _ (by simp) _ b3,fun e he=>tup _ _ (b4 e he),b5,b6⟩,⟨cs,at_ _ (by simp) _ h3,h4,ie h4' tup⟩,⟨kvs,at_ _ (by simp) _ h5,h6.past tup,h7⟩,h8⟩,tup⟩
structure KI (Ad:Ads) (G:Hp) (ed b ca dn de cl sd st nw sk lg:Addr) (M:Int) (i:Nat) (es:List Ben) (lk:Lk) (l0:Int) (m:Nat) (gs:List Lge):Prop where
 E:iR Ad G ed b ca dn de cl sd es lk l0 m (gs.map cY)
 S:StA G st nw sk lg es lk l0 m gs
 mi:m<=i
 er:es=dF gs
 ro:fO gs
 up:(gs.map (·.day)).Pairwise (·<=·)
 lo:∀ l∈gs,l.day<=l0
 gp:∀ l∈gs,G l.adr=some (.tup (l.key.map kV))/\fF l.key/\0<=l.num/\l.num < M
 gl:es.length<=i
 lM:∀ n,M<=n->lk n=none
theorem KI.same {Ad:Ads}{G G':Hp}{ed b ca dn de cl sd st nw sk lg:Addr}{M:Int}{i j:Nat}{es:List Ben}{lk:Lk}{l0:Int}{m:Nat}{gs:List Lge} (h:KI Ad G ed b ca dn de cl sd st nw sk lg M i es lk l0 m gs) (t:ak G G') (ij:i<=j):KI Ad G' ed b ca dn de cl sd st nw sk lg M j es lk l0 m gs :=
 ⟨h.E.same t,h.S.same t,Nat.le_trans h.mi ij,h.er,h.ro,h.up,h.lo,fun l hl=>⟨t _ _ (h.gp l hl).1,(h.gp l hl).2⟩,Nat.le_trans h.gl ij,h.lM⟩
theorem KI.step {Ad:Ads}{G G':Hp}{ed b ca dn de cl sd st nw sk lg:Addr}{M:Int}{i:Nat}{es:List Ben}{lk lk':Lk}{l0:Int}{m:Nat}{gs:List Lge} (h:KI Ad G ed b ca dn de cl sd st nw sk lg M i es lk l0 m gs) (g:Lge) (hd:l0<=g.day) (hs:g.str=true->g.num∈es.map (·.num)) (hp:g.str=false->g.num ∉ es.map (·.num)/\g.key ∉ es.map (·.key)) (hn:0<=g.num/\g.num < M)
  (tup:∀ c xs,G c=some (.tup xs)->G' c=some (.tup xs)) (ht:G g.adr=some (.tup (g.key.map kV))) (eo:fF g.key) (E':iR Ad G' ed b ca dn de cl sd (df es g) lk' g.day (m + 1) ((gs++[g]).map cY)) (S':StA G' st nw sk lg (df es g) lk' g.day (m + 1) (gs++[g])) (hl:∀ n,n≠g.num->lk' n=lk n):KI Ad G' ed b ca dn de cl sd st nw sk lg M (i + 1) (df es g) lk' g.day (m + 1) (gs++[g]):=by
 refine ⟨E',S',by have:=h.mi;omega,by rw [gA,← h.er],.snoc h.ro (fun z=>by rw [← h.er];exact hs z) (fun z=>by rw [← h.er];exact hp z),?_,fun l hl'=>?_,fun l hl'=>?_,?_,fun n hn'=>by rw [hl n (by omega)];exact h.lM n hn'⟩
 ·rw [List.map_append]
  refine List.pairwise_append.mpr ⟨h.up,List.pairwise_singleton _ _,fun a ha c hc=>?_⟩
  obtain ⟨l,hl1,rfl⟩:=List.mem_map.mp ha
  rw [List.mem_singleton.mp hc]
  exact Int.le_trans (h.lo l hl1) hd
 ·rcases List.mem_append.mp hl' with hl' | hl'
  ·exact Int.le_trans (h.lo l hl') hd
  ·rw [List.mem_singleton.mp hl'];exact Int.le_refl _
 ·rcases List.mem_append.mp hl' with hl' | hl'
  ·exact ⟨tup _ _ (h.gp l hl').1,(h.gp l hl').2⟩
  ·rw [List.mem_singleton.mp hl'];exact ⟨tup _ _ ht,eo,hn⟩
 ·have:=h.gl
  unfold df
  split
  ·exact Nat.le_trans (List.length_filter_le _ _) (by omega)
  ·rw [List.length_append];show es.length + 1<=_;omega
theorem og:∀ (gs:List Lge) (es:List Ben),(gs.foldl df es).length<=es.length + gs.length
 | [],_=>Nat.le_refl _
 | l::gs,es=>by
  have h:=og gs (df es l)
  have:(df es l).length<=es.length + 1:=by
   unfold df
   split
   ·exact Nat.le_trans (List.length_filter_le _ _) (by omega)
   ·rw [List.length_append];exact Nat.le_refl _
  rw [List.foldl_cons,List.length_cons]
  omega
theorem um (day:Int):∀ {gs:List Lge},(gs.map (·.day)).Pairwise (·<=·)->∃ j:Nat,∀ (i:Nat) l,gs[i]?=some l->(l.day<=day ↔ i < j)
 | [],_=>⟨0,fun i l h=>by simp at h⟩
 | x::gs,h=>by
  rw [List.map_cons,List.pairwise_cons] at h
  by_cases hx:x.day<=day
  ·obtain ⟨j,hj⟩:=um day h.2
   refine ⟨j + 1,fun i l hi=>?_⟩
   cases i with
   | zero=>cases hi;exact ⟨fun _=>by omega,fun _=>hx⟩
   | succ i=>rw [hj i l hi];omega
  ·refine ⟨0,fun i l hi=>⟨fun z=>absurd z ?_,fun z=>by omega⟩⟩
   cases i with
   | zero=>cases hi;exact hx
   | succ i =>
    have:=h.1 l.day (List.mem_map_of_mem (List.mem_of_getElem? hi))
    omega
theorem xt (ns:List Int) (a b:Nat):∃ l:List Int,kO (ns.map V.int) (some (a:Int)) (some (b:Int))=l.map V.int/\l.length<=b - a:=by
 refine ⟨(ns.drop (min a ns.length)).take (min b ns.length - min a ns.length),?_,?_⟩
 ·unfold kO
  rw [HT.pP,HT.pP,List.length_map,List.map_take,List.map_drop]
 ·rw [List.length_take,List.length_drop]
  omega
def FrK (ed dn de cl sd nw sk lg:Addr) (G G':Hp):Prop:=∀ c o,c≠ed->c≠dn->c≠de->c≠cl->c≠sd->c≠nw->c≠sk->c≠lg->G c=some o->G' c=some o
theorem FrK.tup {Ad:Ads}{G G':Hp}{ed b ca dn de cl sd st nw sk lg:Addr}{M:Int}{i:Nat}{es:List Ben}{lk:Lk}{l0:Int}{m:Nat}{gs:List Lge} (f:FrK ed dn de cl sd nw sk lg G G') (I:KI Ad G ed b ca dn de cl sd st nw sk lg M i es lk l0 m gs):∀ c xs,G c=some (.tup xs)->G' c=some (.tup xs):=fun c xs e=>by
 obtain ⟨dx,he⟩:=I.E.eF
 obtain ⟨cs,hcl,_⟩:=I.E.cF
 obtain ⟨kv2,hsd,_⟩:=I.E.sF
 obtain ⟨kv3,hsk,_⟩:=I.S.k
 obtain ⟨ls2,hlg,_⟩:=I.S.g
 exact f c _ (aC e he (by intro z;cases z)) (aC e I.E.bF.hn (by intro z;cases z)) (aC e I.E.bF.he (by intro z;cases z)) (aC e hcl (by intro z;cases z)) (aC e hsd (by intro z;cases z)) (aC e I.S.n (by intro z;cases z)) (aC e hsk (by intro z;cases z)) (aC e hlg (by intro z;cases z)) e
theorem BS {es:List Ben}{lk:Lk}{day n:Int}{key:List Key} (h:fo es lk day key n=true):n ∉ es.map (·.num)/\fq lk day key n=false:=by
 unfold fo at h
 rw [Bool.and_eq_true] at h
 exact ⟨fun z=>by rw [decide_eq_true z] at h;exact absurd h.1 (by decide),by cases hb:fq lk day key n with | false=>rfl | true=>rw [hb] at h;exact absurd h.2 (by decide)⟩
theorem xQ {es:List Ben}{lk:Lk}{day n:Int}{key:List Key} (h:fo es lk day key n=false):n∈es.map (·.num) ∨ fq lk day key n=true:=by
 unfold fo at h
 by_cases hj:n∈es.map (·.num)
 ·exact .inl hj
 ·rw [decide_eq_false hj] at h
  refine .inr ?_
  cases hb:fq lk day key n with
  | true=>rfl
  | false=>rw [hb] at h;exact absurd h (by decide)
structure Did (Ad:Ads) (G1 G:Hp) (ed b ca dn de cl sd:Addr) (M:Int) (es:List Ben) (lk:Lk) (m:Nat) (gs:List Lge) (g:Lge):Prop where
 E:iR Ad G ed b ca dn de cl sd (df es g) (if g.str then (fun i=>if i=g.num then some (g.day,g.key) else lk i) else lk) g.day (m + 1) ((gs++[g]).map cY)
 k:∀ c o,c≠ed->c≠dn->c≠de->c≠cl->c≠sd->G1 c=some o->G c=some o
 hs:g.str=true->∃ e∈es,e.num=g.num/\e.key=g.key
 hp:g.str=false->g.num ∉ es.map (·.num)/\g.key ∉ es.map (·.key)
 hn:0<=g.num/\g.num < M
def tj (K:PySem.W.Frag) (tb tb1:Addr):Sp:=fun vs H Q _=>∃ (a:Addr) (ns:List Int),vs=[.ref a]/\SqL K H a (ns.map V.int)/\ns.length<=63/\H tb=some (gE sy)/\H tb1=some (gE qQ)/\∀ H',Q (.bl true) H'
theorem fk:aA ["_law_script","_law_parts","_law_many_here","_law_pool_here","_law_editions","_law_state","_law_days","_law_deed","_law_due_here","_law_found","_law_day"] ["_law_script"] (af jG):=⟨rfl,rfl,rfl,by decide +kernel,rfl,by decide +kernel,by decide +kernel⟩
theorem Cn {f:Addr}{fd:FuncData} (F:Fun K "law" "law" jG f fd) (T:Bl mg) (AF:AdF K mg Ad) (C_law_edition:Fnc P w K mg base (CX1 P w) 1 "_law_edition" ["_law_state","_law_day"] (dX K)) (C_law_deeds:Fnc P w K mg base (CX1 P w) 2 "_law_deeds" ["_law_cells","_law_pool_here","_law_many_here","_law_first"] (fA K)) (C_law_cell_at:Fnc P w K mg base (CX1 P w) 1 "_law_cell_at" ["_law_script","_law_k"] (dU K)) (C_law_whole:Fnc P w K mg base (CX1 P w) 1 "_law_whole" ["_law_found"] gX) (C_law_kept:Fnc P w K mg base (CX1 P w) 1 "_law_kept" ["_law_state","_law_deed","_law_number"] (fY K)) (C_law_did:Fnc P w K mg base (CX1 P w) 8 "_law_did" ["_law_editions","_law_deed"] (gU K Ad)) (C_law_due:Fnc P w K mg base (CX1 P w) 2 "_law_due" ["_law_state","_law_many_here","_law_deed"] (gW K)) (C_law_pool:Fnc P w K mg base (CX1 P w) 1 "_law_pool" ["_law_cell"] iE) (C_law_mixed:Fnc P w K mg base (CX1 P w) 1 "_law_mixed" ["_law_cell"] dY) (C_law_many:Fnc P w K mg base (CX1 P w) 1 "_law_many" ["_law_parts"] fZ) (C_law_code_parts:Fnc P w K mg base (CX1 P w) 3 "_law_code_parts" ["_law_script"] (dW K)) (M_Book_entries:Mtd P w K mg base (CX1 P w) Ad.Book "entries" 1 ["self"] (dq Ad)) (M_Editions_book:Mtd P w K mg base (CX1 P w) Ad.Editions "book" 7 ["self","day"] (da Ad)) (M_Editions_last_day:Mtd P w K mg base (CX1 P w) Ad.Editions "last_day" 1 ["self"] (bZ Ad)) (K_Editions:Mak P w K mg base (CX1 P w) Ad.Editions "Editions" 3 ["self","code"] (eN Ad)) (K_Code:Mak P w K mg base (CX1 P w) Ad.Code "Code" 4 ["self","alphabet","weights","rest"] (dQ Ad)):aX P w K mg base (CX1 P w) 9 f fd ["_law_script"] (tj K Ad.tb Ad.tb1):=by
 refine F.okX (k:=8) fk (fun vs H Q E h=>?_) (fun cdv A outer s H vs Q E hr h=>?_)
 ·obtain ⟨a,ns,rfl,_⟩:=h
  rfl
 ·obtain ⟨a,ns,rfl,hS,hlen,Tb,Tb1,k⟩:=h
  have hu:=hr.aO
  have hu1:=aZ hr
  have hu9:=hr.hu9
  refine ⟨_,aa (az (i:=1) fk.nd (aH C_law_code_parts au (hr.mono (by decide)) (ag (pvL 0) (ae)))) (aa (az (i:=2) fk.nd (aH C_law_many au (hr.mono (by decide)) (ag (pvL 1) (ae)))) (aa (az (i:=3) fk.nd (aH C_law_pool au (hr.mono (by decide)) (ag (aH C_law_mixed au (hr.mono (by decide)) (ag (aH C_law_cell_at au (hr.mono (by decide)) (ag (pvL 0) (ag (ai) (ae)))) (ae))) (ae)))) (aa (az (i:=4) fk.nd (j9 K_Editions au (hr.mono (by decide)) (ag (j9 K_Code au (hr.mono (by decide)) (ag (bz (cV (K:=K) rfl) (pvL 1) (ai) (fun _ _=>rfl)) (ag (fH (iZ (K:=K) rfl rfl) T.list kX (ag (bz (cV (K:=K) rfl) (pvL 1) (ai) (fun _ _=>rfl)) (ae))) (ag (bz (cV (K:=K) rfl) (pvL 1) (ai) (fun _ _=>rfl)) (ae))))) (ae)))) (aa (az (i:=5) fk.nd (bc (ag (gz) (ag (gz) (ag (bc (ae)) (ae)))))) (aa (az (i:=6) fk.nd (bc (ag (ai) (ag (aD lj (ai) (ai)) (ae))))) (aa (aW ((i5 (aK (gO (K:=K) rfl hu) (dy M_Editions_last_day au (hr.mono (by decide)) (pvL 4)) (ai) (aL _)) (gj (aK (pE (K:=K) rfl hu9) (dy M_Book_entries au (hr.mono (by decide)) (cn M_Editions_book au (hr.mono (by decide)) (pvL 4) (ag (ai) (ae)))) (bc (ae)) (aL _)))).pt) (ah (aG (fS))) (aJ)) (aa (gR PassesOwn.leaving rfl (cU (K:=K) rfl (aH C_law_deeds au (hr.mono (by decide)) (ag (jA (uT (K:=K) rfl) (pvL 0) (jC (ai)) (jC (ai))) (ag (pvL 3) (ag (pvL 2) (ag (aD bG (aH C_law_cell_at au (hr.mono (by decide)) (ag (pvL 0) (ag (ai) (ae)))) (ai)) (ae))))))) (ax (i:=7) fk.nd) (aa (az (i:=8) fk.nd (aH C_law_due au (hr.mono (by decide)) (ag (pvL 5) (ag (pvL 2) (ag (pvL 7) (ae)))))) (aa (az (i:=9) fk.nd (aH C_law_did au (hr.mono (by decide)) (ag (pvL 4) (ag (pvL 7) (ae))))) (aa (aW (aK (gO (K:=K) rfl hu) (pvL 9) (pvL 8) (aL _)) (ah (aG (fS))) (aJ)) (ah (aW (cc (bN (av (cm .str) T.isinstance bt_isinstance (ag (pvL 8) (ag (fj T.str lB) (ae)))))) (aa (aW (cc (bN (aH C_law_whole au (hr.mono (by decide)) (ag (pvL 9) (ae))))) (ah (aG (fS))) (aJ)) (aa (cC (aH C_law_kept au (hr.mono (by decide)) (ag (pvL 5) (ag (pvL 7) (ag (pvL 8) (ae)))))) (aa (az (i:=6) fk.nd (aD aN (pvL 6) (bc (ag (av (vq rfl) T.max BN (ag (ai) (ag (aD j6 (bz (cV (K:=K) rfl) (pvL 7) (ai) (fun _ _=>rfl)) (ai)) (ae)))) (ag (bz (cV (K:=K) rfl) (pvL 7) (ai) (fun _ _=>rfl)) (ag (aD aN (bz (cV (K:=K) rfl) (pvL 7) (ai) (fun _ _=>rfl)) (ai)) (ae))))))) (ah (aW ((i5 (cc (bN (aH C_law_whole au (hr.mono (by decide)) (ag (dy M_Editions_last_day au (hr.mono (by decide)) (pvL 4)) (ae))))) (gj (aK (gO (K:=K) rfl hu) (dy M_Editions_last_day au (hr.mono (by decide)) (pvL 4)) (bz (cV (K:=K) rfl) (pvL 7) (ai) (fun _ _=>rfl)) (aL _)))).pt) (ah (aG (fS))) (aJ)))))) (aJ))))))) (aa (gR PassesOwn.leaving rfl (cU (K:=K) rfl (pvL 6)) (ax (i:=10) fk.nd) (ah (aW (aK (pE (K:=K) rfl hu9) (dy M_Book_entries au (hr.mono (by decide)) (cn M_Editions_book au (hr.mono (by decide)) (pvL 4) (ag (pvL 10) (ae)))) (aH C_law_edition au (hr.mono (by decide)) (ag (pvL 5) (ag (pvL 10) (ae)))) (aL _)) (ah (aG (fS))) (aJ)))) (ah (aG (fS))))))))))),?_⟩
  have big:∀ {u:Nat},u<=1000->u<=sizeLine:=fun hu=>Nat.le_of_lt (ao (by omega))
  refine ar fun nn hN=>?_
  and_intros
  refine ⟨a,ns,rfl,hS,fun p q al ws r H1 s1 hP ok a9 w3 w6=>?_⟩
  rw [hN]
  clear hN nn
  refine ar fun nn hN=>?_
  and_intros
  refine ⟨p,q,al,ws,r,rfl,hP,by omega,by omega,by omega,fun H2 s2=>?_⟩
  rw [hN]
  clear hN nn
  have s02:=s1.trans s2
  refine ar fun nn hN=>?_
  and_intros
  refine ⟨a,ns,1,rfl,s02.seq hS,by decide,?_⟩
  generalize ns.getD (1:Int).toNat 0=c0
  refine ⟨c0,rfl,?_⟩
  have z0:=pf c0
  generalize yt c0=z at z0
  refine ⟨z,rfl,z0,fun D x y H3 s3 x1 x2 y1 y2 hxy hPo=>?_⟩
  obtain ⟨ts,hD,hts⟩:=hPo
  have nd:=A7 hxy x1 y1
  have en:=A6 x1 x2 y1 y2
  rw [hN]
  clear hN nn
  have s03:=s02.trans s3
  have Pt:Parts H3 p q al ws r:=⟨(s2.trans s3) _ _ hP.1,(s2.trans s3) _ _ hP.2⟩
  refine ar fun nn hN=>?_
  and_intros
  refine ⟨_,_,.l Pt.1,bX (j:=0) rfl,_,_,.l Pt.1,bX (j:=1) rfl,?_⟩
  and_intros
  refine ⟨_,.inl (.l Pt.2),fun qn F3 hqn f3 hq3=>⟨_,_,.l (f3 _ _ Pt.1),bX (j:=2) rfl,fun ca cd F4 hca hcd hcc f4 h4a h4d=>?_⟩⟩
  refine vM h4a (f4 _ _ hq3) ok fun H5 s5 C5=>⟨rfl,?_⟩
  have s35:ak H3 H5:=fun b o e=>by
   have hb:b≠ca:=fun e2=>by rw [← e2,f3 _ _ e] at hca;cases hca
   exact s5 b o hb (f4 _ _ (f3 _ _ e))
  have s05:=s03.trans s35
  clear h4a h4d f4 hca hcd hcc hq3 f3 hqn s5
  intro ed edx G1 hed hedx nedx t1 g1 g1x
  refine ⟨ed,edx,ca,rfl,g1,fun b dn de cl sd G2 fb fn fd' fc fs nns k2 h2 B2 hcl hsd=>⟨rfl,?_⟩⟩
  have s52:ak H5 G2:=fun c o e=>k2 c o (fun z=>by rw [z,hed] at e;cases e) (t1 _ _ e)
  have n5:H5 dn=none:=t1.free fn
  have d5:H5 de=none:=t1.free fd'
  have c5:H5 cl=none:=t1.free fc
  have sd5:H5 sd=none:=t1.free fs
  obtain ⟨bx,hb2⟩:=B2.bk
  rw [hN]
  clear hN nn
  refine ar fun nn hN=>?_
  and_intros
  intro nw G3 hnw t3 g3 sk G4 hsk t4 g4
  refine ⟨Nat.zero_le _,fun lg G5 hlg t5 g5=>⟨big (by decide),fun st G6 hst t6 g6=>?_⟩⟩
  rw [hN]
  clear hN nn
  have s26:ak G2 G6:=t3.trans (t4.trans (t5.trans t6))
  have nn2:∀ {c c':Addr}{o:HO},G2 c=some o->G2 c'=none->c'≠c:=fun e e' z=>by rw [z,e] at e';cases e'
  have fnw:G2 nw=none:=hnw
  have fsk:G2 sk=none:=t3.free hsk
  have flg:G2 lg=none:=(t3.trans t4).free hlg
  have fst:G2 st=none:=(t3.trans (t4.trans t5)).free hst
  have ap:∀ c∈[ed,b,dn,de,cl,sd],∀ c'∈[st,nw,sk,lg],c'≠c:=fun c hc c' hc'=>by
   have h1:∃ o,G2 c=some o:=by
    simp only [List.mem_cons,List.not_mem_nil,or_false] at hc
    rcases hc with rfl | rfl | rfl | rfl | rfl | rfl
    ·exact ⟨_,h2⟩
    ·exact ⟨_,hb2⟩
    ·exact ⟨_,B2.hn⟩
    ·exact ⟨_,B2.he⟩
    ·exact ⟨_,hcl⟩
    ·exact ⟨_,hsd⟩
   obtain ⟨o,ho⟩:=h1
   refine nn2 ho ?_
   simp only [List.mem_cons,List.not_mem_nil,or_false] at hc'
   rcases hc' with rfl | rfl | rfl | rfl
   ·exact fst
   ·exact fnw
   ·exact fsk
   ·exact flg
  have h9M:ck al ws<=100000/\1<=ck al ws:=by
   have a3:=ok.a3
   have h:al.length ^ (ws.length - 1)<=9 ^ 5:=Nat.le_trans (Nat.pow_le_pow_left (by omega) _) (Nat.pow_le_pow_right (by decide) (by omega))
   have h':0 < al.length ^ (ws.length - 1):=Nat.pow_pos (by omega)
   have h:al.length ^ (ws.length - 1)<=59049:=h
   show (al.length:Int) ^ (ws.length - 1)<=100000/\1<=(al.length:Int) ^ (ws.length - 1)
   rw [← Int.natCast_pow]
   omega
  have I6:KI Ad G6 ed b ca dn de cl sd st nw sk lg (ck al ws) 0 [] (fun _=>none) 0 0 []:=by
   refine ⟨⟨⟨edx,s26 _ _ h2⟩,B2.same s26,⟨_,s26 _ _ hcl,Nat.le_refl _,.nil⟩,⟨_,s26 _ _ hsd,fun n=>.inl ⟨rfl,rfl⟩,Nat.le_refl _⟩,nns⟩,⟨g6,(t4.trans (t5.trans t6)) _ _ g3,⟨_,(t5.trans t6) _ _ g4,fun n=>.inl ⟨rfl,rfl⟩,Nat.le_refl _⟩,⟨_,t6 _ _ g5,Nat.le_refl _,.inl rfl,.nil⟩,(fun e he=>by cases he),.nil,(fun z=>by rw [← z,g3] at hsk;cases hsk),(fun z=>by rw [z,g5] at hst;cases hst)⟩,Nat.le_refl _,rfl,.nil,.nil,(fun l hl=>by cases hl),(fun l hl=>by cases hl),Nat.le_refl _,fun _ _=>rfl⟩
  have S56:ak H5 G6:=s52.trans s26
  clear t1 g1 g1x k2 fb fn fd' fc fs t3 t4 t5 t6 g3 g4 g5 g6 hnw hsk hlg hst h2 hcl hsd hb2 nn2
  refine ar fun nn hN=>?_
  and_intros
  refine ⟨⟨by decide,by decide,by decide⟩,big (by decide),fun dl G7 hdl t7 g7=>?_⟩
  rw [hN]
  clear hN nn
  have I7:=I6.same t7 (Nat.le_refl _)
  have S57:ak H5 G7:=S56.trans t7
  obtain ⟨dx7,he7⟩:=I7.E.eF
  refine ar fun nn hN=>?_
  and_intros
  refine ⟨dx7,_,he7,rfl,ed,dx7,b,cl,sd,0,rfl,he7,?_⟩
  and_intros
  rw [if_neg (by decide)]
  refine ⟨dx7,_,he7,rfl,ed,b,ca,dn,de,cl,sd,[],_,0,0,0,0,al,ws,r,[],rfl,I7.E,C5.same S57,ok,(s05.trans S57) _ _ Tb,by decide,.nil,(fun i l h=>by simp at h),(fun l hl=>by cases hl),by decide,by decide,fun b' dn' de' es' G8 t8 B8 pm=>?_⟩
  obtain ⟨bx8,hb8⟩:=B8.bk
  have e8:es'=[]:=List.eq_nil_of_length_eq_zero pm.length_eq
  subst e8
  and_intros
  refine ⟨bx8,_,hb8,cb (by decide) (by decide) (by decide) ca dn' de',b',ca,dn',de',[],rfl,B8,by decide,fun D9 ws9 ms9 G9 hD9 t9 g9 mp9 ml9 mP9=>⟨Nat.zero_le _,fun p10 G10 hp10 t10 g10=>?_⟩⟩
  have e9:ms9=[]:=List.eq_nil_of_length_eq_zero mp9.length_eq
  subst e9
  cases mP9
  refine ⟨1,true,by decide,uy (ms:=[]) (t10 _ _ g9) g10 .nil .nil,?_⟩
  rw [if_neg (by decide)]
  show nn _ _ _
  rw [hN]
  clear hN nn
  have t710:ak G7 G10:=t8.trans (t9.trans t10)
  have I10:=I7.same t710 (Nat.le_refl _)
  have S5:ak H5 G10:=S57.trans t710
  have gdl:=t710 _ _ g7
  have ndl:dl≠cl/\dl≠lg:=⟨(fun z=>by obtain ⟨cs,e,_⟩:=I6.E.cF;rw [z,e] at hdl;cases hdl),(fun z=>by obtain ⟨cs,e,_⟩:=I6.S.g;rw [z,e] at hdl;cases hdl)⟩
  clear t8 t9 t10 g9 g10 B8 hb8 I7 I6 S57 S56 he7 hp10 hD9 t7 g7 hdl t710
  refine ar fun nn hN=>?_
  and_intros
  refine ⟨_,(s05.trans S5).seq hS,fun p11 G11 hp11 t11 g11=>?_⟩
  obtain ⟨l1,el1,ll1⟩:=xt ns 2 42
  rw [show kO (ns.map V.int) (some 2) (some 42)=l1.map V.int from el1] at g11
  refine ⟨a,ns,1,rfl,((s05.trans S5).trans t11).seq hS,by decide,?_⟩
  generalize ns.getD (1:Int).toNat 0=c2
  and_intros
  have hts5:=oB ((s35.trans S5).trans t11) hts
  refine ⟨by decide,p11,D,l1,ts,ck al ws,c2 % 40,x,y,rfl,.of g11,by omega,((s35.trans S5).trans t11) _ _ hD,hts5,h9M.2,h9M.1,by omega,by omega,fun L ls ds G12 hL t12 gL pd dsl dok=>?_⟩
  have t1012:ak G10 G12:=t11.trans t12
  have I12:=I10.same t1012 (Nat.le_refl _)
  have S12:ak H5 G12:=S5.trans t1012
  have gdl12:=t1012 _ _ gdl
  have hts12:=oB (s35.trans S12) hts
  have nL:L≠cl/\L≠lg:=⟨(fun z=>by obtain ⟨cs,e,_⟩:=(I10.same t11 (Nat.le_refl _)).E.cF;rw [z,e] at hL;cases hL),(fun z=>by obtain ⟨cs,e,_⟩:=(I10.same t11 (Nat.le_refl _)).S.g;rw [z,e] at hL;cases hL)⟩
  have fnw5:H5 nw=none:=s52.free fnw
  have fsk5:H5 sk=none:=s52.free fsk
  have flg5:H5 lg=none:=s52.free flg
  have fr5:∀ {G:Hp},FrK ed dn de cl sd nw sk lg G12 G->ak H5 G:=fun {G} f c o e=>f c o (fun z=>by rw [z,hed] at e;cases e) (fun z=>by rw [z,n5] at e;cases e) (fun z=>by rw [z,d5] at e;cases e) (fun z=>by rw [z,c5] at e;cases e) (fun z=>by rw [z,sd5] at e;cases e) (fun z=>by rw [z,fnw5] at e;cases e) (fun z=>by rw [z,fsk5] at e;cases e) (fun z=>by rw [z,flg5] at e;cases e) (S12 _ _ e)
  clear t11 g11 t12 hL hp11 gdl hts5 I10 S5 t1012
  have M0:(0:Int)<=c2 % 40/\c2 % 40 < 40:=by omega
  generalize c2 % 40=f0 at dok M0
  generalize hMM:ck al ws=M at *
  refine .inl ⟨⟨_,.of gL⟩,gw (xs:=ls) (fun i σ G=>∃ (o7 o8 o9:Option V) (dl:Addr) (dys:List Int) (es:List Ben) (lk:Lk) (l0:Int) (m:Nat) (gs:List Lge),σ=[some (V.ref a),some (V.ref p),some (V.int M),some (V.ref D),some (V.ref ed),some (V.ref st),some (V.ref dl),o7,o8,o9,none]/\KI Ad G ed b ca dn de cl sd st nw sk lg M i es lk l0 m gs/\FrK ed dn de cl sd nw sk lg G12 G/\G dl=some (.lst (dys.map V.int))/\(dl≠cl/\dl≠lg)/\(∀ d∈dys,0<=d/\d<=1000000000)/\dys.length<=2 + 3 * i/\∀ d∈ds.drop i,l0<=d.day) ?_ ?_ ?_ ?_⟩
  ·exact ⟨_,_,_,dl,[0,1000000000],_,_,_,_,_,rfl,I12,(fun c o _ _ _ _ _ _ _ _ e=>e),gdl12,ndl,(fun d hd=>by simp at hd;omega),Nat.le_refl _,fun d hd=>by have:=(dok.lo d (List.mem_of_mem_drop hd)).1;omega⟩
  ·rintro i σ G _ ⟨o7,o8,o9,dl',dys,es,lk,l0,m,gs,_,_,fr,_⟩
   obtain ⟨dx,he⟩:=I12.E.eF
   obtain ⟨kv2,hsd,_⟩:=I12.E.sF
   obtain ⟨kv3,hsk,_⟩:=I12.S.k
   exact .of (fr _ _ (aC gL he (by intro z;cases z)) (aC gL I12.E.bF.hn (by intro z;cases z)) (aC gL I12.E.bF.he (by intro z;cases z)) nL.1 (aC gL hsd (by intro z;cases z)) (aC gL I12.S.n (by intro z;cases z)) (aC gL hsk (by intro z;cases z)) nL.2 gL)
  ·rintro i v σ G hi ⟨o7,o8,o9,dl',dys,es,lk,l0,m,gs,rfl,I,fr,gdl,ndl',bd,ld,hl0⟩ N hNx
   clear hN
   obtain ⟨d,hd,q',rfl,hq⟩:=cZ pd hi
   have hdm:=List.mem_of_getElem? hd
   have hil:i < ds.length:=(List.getElem?_eq_some_iff.mp hd).1
   obtain ⟨u,hu,hku⟩:=dok.cT d hdm
   obtain ⟨key',hk',hkt⟩:=cZ hts12 hu
   obtain rfl:key'=d.key:=Option.some.inj (hk'.symm.trans hku)
   have eo:=en _ (List.mem_of_getElem? hku)
   have hy:=dok.num d hdm
   have hlo:=dok.lo d hdm
   have hdd:ds.drop i=d::ds.drop (i + 1):=by rw [List.drop_eq_getElem_cons hil];rw [List.getElem?_eq_getElem hil] at hd;rw [Option.some.inj hd]
   have hl0d:l0<=d.day:=hl0 d (by rw [hdd];exact List.mem_cons_self)
   have hup:∀ d'∈ds.drop (i + 1),d.day<=d'.day:=fun d' hd'=>by
    have:=dok.up
    rw [← List.take_append_drop i ds,hdd,List.map_append,List.map_cons] at this
    exact (List.pairwise_cons.mp (List.pairwise_append.mp this).2.1).1 _ (List.mem_map_of_mem hd')
   have hq:=fr.tup I12 _ _ hq
   have ht:=fr.tup I12 _ _ hkt
   have mi:=I.mi
   have gl:=I.gl
   have i40:i < 40:=by omega
   have rn:(es.map (·.num)).Nodup/\(es.map (·.key)).Nodup:=by rw [I.er];exact I.ro.nn
   obtain ⟨str,day,t,key,y'⟩:=d
   simp only at hq ht eo hy hlo hl0d hup hkt
   rw [gu]
   refine ar fun n2 hM=>?_
   and_intros
   refine ⟨st,nw,sk,lg,q',t,es,lk,l0,M,day,m,gs,key,y',str,rfl,I.S,by omega,rn.2,by omega,hq,ht,eo,hl0d,hy,by omega,h9M.1,fun v G1 t1 du=>?_⟩
   rw [hM]
   clear hM n2
   have I1:=I.same t1 (Nat.le_refl _)
   have hq1:=t1 _ _ hq
   have ht1:=t1 _ _ ht
   have fr1:FrK ed dn de cl sd nw sk lg G12 G1:=fun c o c1 c2 c3 c4 c5 c6 c7 c8 e=>t1 _ _ (fr c o c1 c2 c3 c4 c5 c6 c7 c8 e)
   have gdl1:=t1 _ _ gdl
   clear hq ht gdl fr I t1 hkt
   show zy _ _ _ _ _
   refine kY (fun σ G2=>(∃ s,v=V.str s/\ak G1 G2/\σ=[some (V.ref a),some (V.ref p),some (V.int M),some (V.ref D),some (V.ref ed),some (V.ref st),some (V.ref dl'),some (V.ref q'),some (V.str s),some (V.str s),none]) ∨ ∃ n,v=V.int n/\σ=[some (V.ref a),some (V.ref p),some (V.int M),some (V.ref D),some (V.ref ed),some (V.ref st),some (V.ref dl'),some (V.ref q'),some (V.int n),some (V.int n),none]/\Did Ad G1 G2 ed b ca dn de cl sd M es lk m gs ⟨day,str,t,n,key⟩) ?_ ?_
   ·rintro σ G2 (⟨s,rfl,t2,rfl⟩ | ⟨n,rfl,rfl,dd⟩)
    ·refine ar fun n2 hM=>?_
     and_intros
     rw [if_neg (by simp)]
     show n2 _ _ _
     rw [hM]
     clear hM n2
     and_intros
     refine ⟨trivial,.str,rfl,?_⟩
     rw [if_neg (by decide)]
     exact hNx _ _ ⟨_,_,_,dl',dys,es,lk,l0,m,gs,rfl,I1.same t2 (Nat.le_succ _),(fun c o c1 c2 c3 c4 c5 c6 c7 c8 e=>t2 _ _ (fr1 c o c1 c2 c3 c4 c5 c6 c7 c8 e)),t2 _ _ gdl1,ndl',bd,by omega,fun d' hd'=>Int.le_trans hl0d (hup d' hd')⟩
    ·refine ar fun n2 hM=>?_
     and_intros
     rw [if_neg (by simp)]
     show n2 _ _ _
     rw [hM]
     clear hM n2
     and_intros
     refine ⟨trivial,.int,rfl,?_⟩
     rw [if_pos (by decide)]
     refine ar fun n2 hM=>?_
     and_intros
     refine ⟨.int n,.int,rfl,rfl,_,rfl,?_⟩
     rw [if_neg (by decide)]
     show n2 _ _ _
     rw [hM]
     clear hM n2
     obtain ⟨S2,tup2⟩:=I1.S.keep I1.E ap dd.k
     refine kY (fun σ G3=>σ=[some (V.ref a),some (V.ref p),some (V.int M),some (V.ref D),some (V.ref ed),some (V.ref st),some (V.ref dl'),some (V.ref q'),some (V.int n),some (V.int n),none]/\(∀ c o,c≠nw->c≠sk->c≠lg->G2 c=some o->G3 c=some o)/\StA G3 st nw sk lg (df es ⟨day,str,t,n,key⟩) (if str then (fun i=>if i=n then some (day,key) else lk i) else lk) day (m + 1) (gs++[⟨day,str,t,n,key⟩])) ?_ ?_
     ·rintro σ G3 ⟨rfl,k3,S3⟩
      obtain ⟨E3,tup3⟩:=dd.E.keep S2 ap k3
      have I3:KI Ad G3 ed b ca dn de cl sd st nw sk lg M (i + 1) _ _ day (m + 1) _:=I1.step ⟨day,str,t,n,key⟩ hl0d (fun z=>by obtain ⟨e,h1,h2,_⟩:=dd.hs z;rw [← h2];exact List.mem_map_of_mem h1) dd.hp dd.hn (fun c xs e=>tup3 _ _ (tup2 _ _ e)) ht1 eo E3 S3 (fun i' hi'=>by
       cases str with
       | true=>exact if_neg hi'
       | false=>rfl)
      have fr3:FrK ed dn de cl sd nw sk lg G12 G3:=fun c o c1 c2 c3 c4 c5 c6 c7 c8 e=>k3 c o c6 c7 c8 (dd.k c o c1 c2 c3 c4 c5 (fr1 c o c1 c2 c3 c4 c5 c6 c7 c8 e))
      have hq3:=tup3 _ _ (tup2 _ _ hq1)
      have gdl3:G3 dl'=some (.lst (dys.map V.int)):=by
       obtain ⟨dxe,hee⟩:=I1.E.eF
       obtain ⟨kv2,hsd',_⟩:=I1.E.sF
       obtain ⟨kv3,hsk',_⟩:=I1.S.k
       exact k3 _ _ (aC gdl1 I1.S.n (by intro z;cases z)) (aC gdl1 hsk' (by intro z;cases z)) ndl'.2 (dd.k _ _ (aC gdl1 hee (by intro z;cases z)) (aC gdl1 I1.E.bF.hn (by intro z;cases z)) (aC gdl1 I1.E.bF.he (by intro z;cases z)) ndl'.1 (aC gdl1 hsd' (by intro z;cases z)) gdl1)
      refine ar fun n2 hM=>?_
      and_intros
      refine ⟨_,_,.inr (.of hq3),fg (by decide) rfl,?_⟩
      and_intros
      refine ⟨_,_,.inr (.of hq3),fg (by decide) rfl,_,_,.inr (.of hq3),fg (by decide) rfl,?_⟩
      and_intros
      refine ⟨big (by decide),fun p4 G4 hp4 t4 g4=>⟨_,_,t4 _ _ gdl3,g4,big (by rw [List.length_map];show dys.length + 3<=1000;omega),fun p5 G5 hp5 t5 g5=>?_⟩⟩
      rw [hM]
      clear hM n2
      have t35:=t4.trans t5
      have I5:=I3.same t35 (Nat.le_refl _)
      have nd5:p5≠cl/\p5≠lg:=⟨(fun z=>by obtain ⟨cs,e,_⟩:=(I3.same t4 (Nat.le_refl _)).E.cF;rw [z,e] at hp5;cases hp5),(fun z=>by obtain ⟨cs,e,_⟩:=(I3.same t4 (Nat.le_refl _)).S.g;rw [z,e] at hp5;cases hp5)⟩
      obtain ⟨dx5,he5⟩:=I5.E.eF
      have fin:N [some (V.ref a),some (V.ref p),some (V.int M),some (V.ref D),some (V.ref ed),some (V.ref st),some (V.ref p5),some (V.ref q'),some (V.int n),some (V.int n),none] G5:=by
       refine hNx _ _ ⟨_,_,_,p5,dys++[max 0 (day - 1),day,day + 1],_,_,_,_,_,rfl,I5,(fun c o c1 c2 c3 c4 c5 c6 c7 c8 e=>t35 _ _ (fr3 c o c1 c2 c3 c4 c5 c6 c7 c8 e)),by rw [List.map_append];exact g5,nd5,fun d' hd'=>?_,by rw [List.length_append];show dys.length + 3<=_;omega,hup⟩
       rcases List.mem_append.mp hd' with hd' | hd'
       ·exact bd d' hd'
       ·simp only [List.mem_cons,List.not_mem_nil,or_false] at hd'
        omega
      have hq5:=t35 _ _ hq3
      clear hNx g5 t35 t4 t5 g4
      and_intros
      refine ⟨dx5,_,he5,rfl,ed,dx5,b,cl,sd,day,rfl,he5,.int day,.int,rfl,rfl,_,rfl,?_⟩
      and_intros
      rw [if_neg (by simp)]
      refine ⟨dx5,_,he5,rfl,ed,dx5,b,cl,sd,day,rfl,he5,_,_,.inr (.of hq5),fg (by decide) rfl,?_⟩
      and_intros
      rw [if_neg (by simp)]
      exact fin
     ·intro U hU
      and_intros
      refine ⟨st,nw,sk,lg,q',t,es,lk,l0,day,n,m,gs,key,y',str,rfl,S2,by omega,by omega,tup2 _ _ hq1,tup2 _ _ ht1,eo,?_⟩
      cases str with
      | true =>
       obtain ⟨e,h1,h2,h3⟩:=dd.hs rfl
       exact .inl ⟨rfl,e,h1,h2,h3,fun G3 k3 S3=>hU _ _ ⟨rfl,k3,S3⟩⟩
      | false=>exact .inr ⟨rfl,(dd.hp rfl).1,fun G3 k3 S3=>hU _ _ ⟨rfl,k3,S3⟩⟩
   ·intro U hU
    obtain ⟨dx1,he1⟩:=I1.E.eF
    have SG1:=fr5 fr1
    have C1:=C5.same SG1
    have Tb1':=(s05.trans SG1) _ _ Tb
    have Tb2':=(s05.trans SG1) _ _ Tb1
    have hyy:y'=.non ∨ ∃ i,y'=.int i:=hy.imp id fun ⟨n,e,_⟩=>⟨n,e⟩
    have d0:0<=day/\day<=1000000000:=by omega
    have E1:=I1.E
    and_intros
    have rfs:∀ (j:Nat) (G2:Hp),j < 5->v=V.str (nmD j)->ak G1 G2->EdN Ad (fun x H1=>U [some (V.ref a),some (V.ref p),some (V.int M),some (V.ref D),some (V.ref ed),some (V.ref st),some (V.ref dl'),some (V.ref q'),some v,some x,none] H1) (.ref (qz Ad j)) none G2:=fun j G2 j5 e t2=>⟨j,j5,rfl,rfl,fun G3 t3=>hU _ _ (.inl ⟨_,e,t2.trans t3,by rw [e]⟩)⟩
    refine ⟨ed,q',t,_,day,y',rfl,hq1,⟨dx1,_,he1,rfl,rfl⟩,?_⟩
    cases du with
    | no h=>exact .inl ⟨rfl,ed,b,ca,dn,de,cl,sd,t,es,lk,l0,day,m,gs.map cY,key,rfl,E1,ht1,eo,by omega,d0.1,d0.2,.inr ⟨hl0d,fun e he ek=>absurd (List.mem_map.mpr ⟨e,he,ek⟩) h,fun _ G2 t2=>rfs 1 G2 (by decide) rfl t2⟩⟩
    | out e he hk =>
     refine .inl ⟨rfl,ed,b,ca,dn,de,cl,sd,t,es,lk,l0,day,m,gs.map cY,key,rfl,E1,ht1,eo,by omega,d0.1,d0.2,.inr ⟨hl0d,fun e' he' ek G2 k2 E2=>?_,fun hn=>absurd (List.mem_map.mpr ⟨e,he,hk⟩) hn⟩⟩
     obtain rfl:=jS rn.2 he' he (ek.trans hk.symm)
     have hb:=E1.bF
     refine hU _ _ (.inr ⟨_,rfl,rfl,⟨?_,k2,fun _=>⟨e',he,rfl,hk⟩,(fun z=>by cases z),?_⟩⟩)
     ·rw [List.map_append,← hk];exact E2
     ·rw [I1.er] at he
      obtain ⟨l,hl,rfl⟩:=ke he
      exact (I1.gp l hl).2.2
    | twice h=>exact .inr ⟨rfl,hyy,ed,b,ca,dn,de,cl,sd,t,es,lk,l0,day,0,m,gs.map cY,al,ws,r,key,y',rfl,E1,C1,ok,Tb1',Tb2',ht1,eo,by omega,by omega,d0.1,d0.2,.inr ⟨hl0d,.inl ⟨h,fun G2 t2=>rfs 2 G2 (by decide) rfl t2⟩⟩⟩
    | num n h hy' h0 h1 hf =>
     obtain ⟨f1,f2⟩:=BS hf
     exact .inr ⟨rfl,hyy,ed,b,ca,dn,de,cl,sd,t,es,lk,l0,day,n,m,gs.map cY,al,ws,r,key,y',rfl,E1,C1,ok,Tb1',Tb2',ht1,eo,by omega,by omega,d0.1,d0.2,.inr ⟨hl0d,.inr (.inr (.inr ⟨h,.inl ⟨hy',h0,f1,f2⟩,by omega,fun G2 k2 E2=>hU _ _ (.inr ⟨_,rfl,rfl,⟨by rw [List.map_append];exact E2,fun c o c1 c2 c3 c4 _ z=>k2 c o c1 c2 c3 c4 z,(fun z=>by cases z),fun _=>⟨f1,h⟩,h0,h1⟩⟩)⟩))⟩⟩
    | nonum n h hy' h0 h1 hf=>exact .inr ⟨rfl,hyy,ed,b,ca,dn,de,cl,sd,t,es,lk,l0,day,n,m,gs.map cY,al,ws,r,key,y',rfl,E1,C1,ok,Tb1',Tb2',ht1,eo,by omega,by omega,d0.1,d0.2,.inr ⟨hl0d,.inr (.inl ⟨h,hy',h0,by omega,xQ hf,fun G2 t2=>rfs 3 G2 (by decide) rfl t2⟩)⟩⟩
    | least n h hy' hl h1=>exact .inr ⟨rfl,hyy,ed,b,ca,dn,de,cl,sd,t,es,lk,l0,day,n,m,gs.map cY,al,ws,r,key,y',rfl,E1,C1,ok,Tb1',Tb2',ht1,eo,by omega,by omega,d0.1,d0.2,.inr ⟨hl0d,.inr (.inr (.inr ⟨h,.inr ⟨hy',hl⟩,by omega,fun G2 k2 E2=>hU _ _ (.inr ⟨_,rfl,rfl,⟨by rw [List.map_append];exact E2,fun c o c1 c2 c3 c4 _ z=>k2 c o c1 c2 c3 c4 z,(fun z=>by cases z),fun _=>⟨hl.out,h⟩,hl.pos,h1⟩⟩)⟩))⟩⟩
    | many h hy' hl =>
     have hMn:M ∉ es.map (·.num):=fun z=>by
      obtain ⟨e,he,ee⟩:=List.mem_map.mp z
      rw [I1.er] at he
      obtain ⟨l,hl',rfl⟩:=ke he
      have:=(I1.gp l hl').2.2.2
      have ee:l.num=M:=ee
      omega
     exact .inr ⟨rfl,hyy,ed,b,ca,dn,de,cl,sd,t,es,lk,l0,day,M,m,gs.map cY,al,ws,r,key,y',rfl,E1,C1,ok,Tb1',Tb2',ht1,eo,by omega,by omega,d0.1,d0.2,.inr ⟨hl0d,.inr (.inr (.inl ⟨h,hy',⟨by omega,hMn,qp (I1.lM M (Int.le_refl _)),fun j j0 j1=>xQ (hl j j0 j1)⟩,by omega,fun G2 t2=>rfs 4 G2 (by decide) rfl t2⟩))⟩⟩
  rintro σ G ⟨o7,o8,o9,dl',dys,es,lk,l0,m,gs,rfl,I,fr,gdl,_,bd,ld,_⟩
  show nn _ _ _
  rw [hN]
  clear hN nn
  have SG:=fr5 fr
  have lsl:ls.length=ds.length:=Paired.length pd
  have mi:=I.mi
  have gl:=I.gl
  clear fr5 fr ap ndl nL pd dok hts12 hts hD nd en
  refine ar fun nn hN=>?_
  and_intros
  refine .inl ⟨⟨_,.of gdl⟩,gw (xs:=dys.map V.int) (fun j σ G'=>(∃ o7 o8 o9 o10,σ=[some (V.ref a),some (V.ref p),some (V.int M),some (V.ref D),some (V.ref ed),some (V.ref st),some (V.ref dl'),o7,o8,o9,o10])/\ak G G') ⟨⟨_,_,_,_,rfl⟩,ak.refl _⟩ (fun j σ G' _ ⟨_,tG⟩=>.of (tG _ _ gdl)) ?_ ?_⟩
  ·rintro j v σ G' hj ⟨⟨o7',o8',o9',o10',rfl⟩,tG⟩ N hNx
   clear hN
   obtain ⟨day,hdj,rfl⟩:=qR hj
   have dd:=bd day (List.mem_of_getElem? hdj)
   obtain ⟨jj,hjj⟩:=um day I.up
   have I1:=I.same tG (Nat.le_refl _)
   obtain ⟨dx1,he1⟩:=I1.E.eF
   rw [gu]
   and_intros
   refine ⟨dx1,_,he1,rfl,ed,b,ca,dn,de,cl,sd,es,lk,l0,day,m,jj,al,ws,r,gs,rfl,I1.E,C5.same (SG.trans tG),ok,(s05.trans (SG.trans tG)) _ _ Tb,by omega,I.ro,hjj,fun l hl=>?_,dd.1,dd.2,fun b' dn' de' es' G2 t2 B2 pm=>?_⟩
   ·rw [hMM]
    exact I1.gp l hl
   have I2:=I1.same t2 (Nat.le_refl _)
   obtain ⟨bx2,hb2⟩:=B2.bk
   have lpm:es'.length < 64:=by
    obtain ⟨lsg,_,h2,_,h4⟩:=I.S.g
    have h5:lsg.length=gs.length:=Paired.length h4
    have h6:=og (gs.take jj) []
    have h7:es'.length=((gs.take jj).foldl df []).length:=pm.length_eq
    rw [List.length_take,List.length_nil] at h6
    omega
   and_intros
   refine ⟨bx2,_,hb2,cb (by decide) (by decide) (by decide) ca dn' de',b',ca,dn',de',es',rfl,B2,lpm,fun D3 ws3 ms3 G3 hD3 t3 g3 mp3 ml3 mP3=>?_⟩
   and_intros
   refine ⟨st,nw,sk,lg,es,lk,l0,day,m,jj,gs,rfl,I2.S.same t3,by omega,I.ro,hjj,fun D4 ws4 ms4 G4 t4 g4 mp4 ml4 mP4=>?_⟩
   obtain rfl:ms4=ms3:=rK ml4 ml3 (mp4.trans (pm.symm.trans mp3.symm))
   refine ⟨1,true,by decide,uy (t4 _ _ g3) g4 (mP mP3 fun v m _ ⟨q,e1,e2⟩=>⟨q,e1,t4 _ _ e2⟩) mP4,?_⟩
   rw [if_neg (by decide)]
   exact hNx _ _ ⟨⟨_,_,_,_,rfl⟩,tG.trans (t2.trans (t3.trans t4))⟩
  rintro σ G' ⟨⟨o7',o8',o9',o10',rfl⟩,tG⟩
  show nn _ _ _
  rw [hN]
  clear hN nn
  and_intros
  exact k _
end
theorem all_mk {l : PySem.W.OpenLaw} {w : World} {K : PySem.W.Frag} {h : Heap} {mg : Str → Option Value} {fa : Addr} {k_Code k_Book k_Editions k_CableError k_NoCode k_NoNumber k_NoWord k_NoEntry k_Twice k_TooMany k_NoDay k_cd k_tb k_cd1 k_tb1 : Addr} {f0 f1 f2 f3 f4 f5 f6 f7 f8 f9 f10 f11 f12 f13 f14 f15 f16 f17 f18 f19 f20 f21 f22 f23 f24 f25 f26 f27 f28 f29 f30 f31 f32 f33 f34 f35 f36 f37 f38 f39 f40 f41 f42 : Addr} (X : K.In h) (G : h.Ns mainGlobals mg) (hfa : mg "law" = some (.ref fa))
    {od0 an0 od1 an1 od2 an2 od3 an3 od4 an4 od5 an5 od6 an6 od7 an7 od8 an8 od9 an9 od10 an10 od11 an11 od12 an12 od13 an13 od14 an14 od15 an15 od16 an16 od17 an17 od18 an18 od19 an19 od20 an20 od21 an21 od22 an22 od23 an23 od24 an24 od25 an25 od26 an26 od27 an27 od28 an28 od29 an29 od30 an30 od31 an31 od32 an32 od33 an33 od34 an34 od35 an35 od36 an36 od37 an37 od38 an38 od39 an39 od40 an40 od41 an41 od42 an42 : Option Addr} {sl0 sl1 sl2 sl3 sl4 sl5 sl6 sl7 sl8 sl9 sl10 sl11 sl12 sl13 sl14 sl15 sl16 sl17 sl18 sl19 sl20 sl21 sl22 sl23 sl24 sl25 sl26 sl27 sl28 sl29 sl30 sl31 sl32 sl33 sl34 sl35 sl36 sl37 sl38 sl39 sl40 sl41 sl42 : Array (Option Value)} {oc0 kV0 dc0 pm0 cd0 ct0 oc1 kV1 dc1 pm1 cd1 ct1 oc2 kV2 dc2 pm2 cd2 ct2 oc3 kV3 dc3 pm3 cd3 ct3 oc4 kV4 dc4 pm4 cd4 ct4 oc5 kV5 dc5 pm5 cd5 ct5 oc6 kV6 dc6 pm6 cd6 ct6 oc7 kV7 dc7 pm7 cd7 ct7 oc8 kV8 dc8 pm8 cd8 ct8 oc9 kV9 dc9 pm9 cd9 ct9 oc10 kV10 dc10 pm10 cd10 ct10 oc11 kV11 dc11 pm11 cd11 ct11 oc12 kV12 dc12 pm12 cd12 ct12 oc13 kV13 dc13 pm13 ct13 oc14 kV14 dc14 pm14 cd14 ct14 oc15 kV15 dc15 pm15 cd15 ct15 oc16 kV16 dc16 pm16 cd16 ct16 oc17 kV17 dc17 pm17 cd17 ct17 oc18 kV18 dc18 pm18 cd18 ct18 oc19 kV19 dc19 pm19 cd19 ct19 oc20 kV20 dc20 pm20 cd20 ct20 oc21 kV21 dc21 pm21 ct21 oc22 kV22 dc22 pm22 cd22 ct22 oc23 kV23 dc23 pm23 cd23 ct23 oc24 kV24 dc24 pm24 cd24 ct24 oc25 kV25 dc25 pm25 cd25 ct25 oc26 kV26 dc26 pm26 cd26 ct26 oc27 kV27 dc27 pm27 cd27 ct27 oc28 kV28 dc28 pm28 cd28 ct28 oc29 kV29 dc29 pm29 cd29 ct29 oc30 kV30 dc30 pm30 cd30 ct30 oc31 kV31 dc31 pm31 cd31 ct31 oc32 kV32 dc32 pm32 cd32 ct32 oc33 kV33 dc33 pm33 cd33 ct33 oc34 kV34 dc34 pm34 cd34 ct34 oc35 kV35 dc35 pm35 cd35 ct35 oc36 kV36 dc36 pm36 cd36 ct36 oc37 kV37 dc37 pm37 cd37 ct37 oc38 kV38 dc38 pm38 cd38 ct38 oc39 kV39 dc39 pm39 cd39 ct39 oc40 kV40 dc40 pm40 cd40 ct40 oc41 kV41 dc41 pm41 cd41 ct41 oc42 kV42 dc42 pm42 cd42 ct42 : Value}
    (g_Code : PySem.W.nsIn K mainGlobals "Code" = some (some (.ref k_Code)))
    (g_Book : PySem.W.nsIn K mainGlobals "Book" = some (some (.ref k_Book)))
    (g_Editions : PySem.W.nsIn K mainGlobals "Editions" = some (some (.ref k_Editions)))
    (g_CableError : PySem.W.nsIn K mainGlobals "CableError" = some (some (.ref k_CableError)))
    (g_NoCode : PySem.W.nsIn K mainGlobals "NoCode" = some (some (.ref k_NoCode)))
    (g_NoNumber : PySem.W.nsIn K mainGlobals "NoNumber" = some (some (.ref k_NoNumber)))
    (g_NoWord : PySem.W.nsIn K mainGlobals "NoWord" = some (some (.ref k_NoWord)))
    (g_NoEntry : PySem.W.nsIn K mainGlobals "NoEntry" = some (some (.ref k_NoEntry)))
    (g_Twice : PySem.W.nsIn K mainGlobals "Twice" = some (some (.ref k_Twice)))
    (g_TooMany : PySem.W.nsIn K mainGlobals "TooMany" = some (some (.ref k_TooMany)))
    (g_NoDay : PySem.W.nsIn K mainGlobals "NoDay" = some (some (.ref k_NoDay)))
    (a0 : PySem.W.nsIn K mainGlobals "is_whole" = some (some (.ref f0)))
    (l0 : K.lookup f0 = some ⟨oc0, od0, .func (PySem.W.fnOf "is_whole" "is_whole" (ay eI) (aw eI) (af eI) .none kV0 dc0 pm0 an0 cd0 ct0), sl0⟩)
    (c0 : PySem.W.codeIn K cd0 "is_whole" = true)
    (k0 : PySem.W.keepIn K (.ref f0) = true)
    (a1 : PySem.W.nsIn K mainGlobals "common_divisor" = some (some (.ref f1)))
    (l1 : K.lookup f1 = some ⟨oc1, od1, .func (PySem.W.fnOf "common_divisor" "common_divisor" (ay bQ) (aw bQ) (af bQ) .none kV1 dc1 pm1 an1 cd1 ct1), sl1⟩)
    (c1 : PySem.W.codeIn K cd1 "common_divisor" = true)
    (k1 : PySem.W.keepIn K (.ref f1) = true)
    (a2 : PySem.W.nsIn K mainGlobals "are_safe" = some (some (.ref f2)))
    (l2 : K.lookup f2 = some ⟨oc2, od2, .func (PySem.W.fnOf "are_safe" "are_safe" (ay eD) (aw eD) (af eD) .none kV2 dc2 pm2 an2 cd2 ct2), sl2⟩)
    (c2 : PySem.W.codeIn K cd2 "are_safe" = true)
    (k2 : PySem.W.keepIn K (.ref f2) = true)
    (a3 : PySem.W.nsIn K mainGlobals "is_alphabet" = some (some (.ref f3)))
    (l3 : K.lookup f3 = some ⟨oc3, od3, .func (PySem.W.fnOf "is_alphabet" "is_alphabet" (ay cN) (aw cN) (af cN) .none kV3 dc3 pm3 an3 cd3 ct3), sl3⟩)
    (c3 : PySem.W.codeIn K cd3 "is_alphabet" = true)
    (k3 : PySem.W.keepIn K (.ref f3) = true)
    (a4 : PySem.W.nsIn K mainGlobals "is_below" = some (some (.ref f4)))
    (l4 : K.lookup f4 = some ⟨oc4, od4, .func (PySem.W.fnOf "is_below" "is_below" (ay eE) (aw eE) (af eE) .none kV4 dc4 pm4 an4 cd4 ct4), sl4⟩)
    (c4 : PySem.W.codeIn K cd4 "is_below" = true)
    (k4 : PySem.W.keepIn K (.ref f4) = true)
    (a5 : PySem.W.nsIn K mainGlobals "are_weights" = some (some (.ref f5)))
    (l5 : K.lookup f5 = some ⟨oc5, od5, .func (PySem.W.fnOf "are_weights" "are_weights" (ay cM) (aw cM) (af cM) .none kV5 dc5 pm5 an5 cd5 ct5), sl5⟩)
    (c5 : PySem.W.codeIn K cd5 "are_weights" = true)
    (k5 : PySem.W.keepIn K (.ref f5) = true)
    (a6 : PySem.W.findIn K (.ref k_Code) "__init__" = some (some (.ref f6)))
    (i6 : PySem.W.isFn K (.ref f6) = true)
    (l6 : K.lookup f6 = some ⟨oc6, od6, .func (PySem.W.fnOf "__init__" "Code.__init__" (ay d4) (aw d4) (af d4) .none kV6 dc6 pm6 an6 cd6 ct6), sl6⟩)
    (c6 : PySem.W.codeIn K cd6 "Code.__init__" = true)
    (k6 : PySem.W.keepIn K (.ref f6) = true)
    (a7 : PySem.W.findIn K (.ref k_Code) "many" = some (some (.ref f7)))
    (i7 : PySem.W.isFn K (.ref f7) = true)
    (l7 : K.lookup f7 = some ⟨oc7, od7, .func (PySem.W.fnOf "many" "Code.many" (ay d7) (aw d7) (af d7) .none kV7 dc7 pm7 an7 cd7 ct7), sl7⟩)
    (c7 : PySem.W.codeIn K cd7 "Code.many" = true)
    (k7 : PySem.W.keepIn K (.ref f7) = true)
    (a8 : PySem.W.nsIn K mainGlobals "are_letters" = some (some (.ref f8)))
    (l8 : K.lookup f8 = some ⟨oc8, od8, .func (PySem.W.fnOf "are_letters" "are_letters" (ay cL) (aw cL) (af cL) .none kV8 dc8 pm8 an8 cd8 ct8), sl8⟩)
    (c8 : PySem.W.codeIn K cd8 "are_letters" = true)
    (k8 : PySem.W.keepIn K (.ref f8) = true)
    (a9 : PySem.W.nsIn K mainGlobals "are_words" = some (some (.ref f9)))
    (l9 : K.lookup f9 = some ⟨oc9, od9, .func (PySem.W.fnOf "are_words" "are_words" (ay d8) (aw d8) (af d8) .none kV9 dc9 pm9 an9 cd9 ct9), sl9⟩)
    (c9 : PySem.W.codeIn K cd9 "are_words" = true)
    (k9 : PySem.W.keepIn K (.ref f9) = true)
    (a10 : PySem.W.nsIn K mainGlobals "is_entry" = some (some (.ref f10)))
    (l10 : K.lookup f10 = some ⟨oc10, od10, .func (PySem.W.fnOf "is_entry" "is_entry" (ay eG) (aw eG) (af eG) .none kV10 dc10 pm10 an10 cd10 ct10), sl10⟩)
    (c10 : PySem.W.codeIn K cd10 "is_entry" = true)
    (k10 : PySem.W.keepIn K (.ref f10) = true)
    (a11 : PySem.W.findIn K (.ref k_Book) "__init__" = some (some (.ref f11)))
    (i11 : PySem.W.isFn K (.ref f11) = true)
    (l11 : K.lookup f11 = some ⟨oc11, od11, .func (PySem.W.fnOf "__init__" "Book.__init__" (ay d3) (aw d3) (af d3) .none kV11 dc11 pm11 an11 cd11 ct11), sl11⟩)
    (c11 : PySem.W.codeIn K cd11 "Book.__init__" = true)
    (k11 : PySem.W.keepIn K (.ref f11) = true)
    (a12 : PySem.W.findIn K (.ref k_Book) "code" = some (some (.ref f12)))
    (i12 : PySem.W.isFn K (.ref f12) = true)
    (l12 : K.lookup f12 = some ⟨oc12, od12, .func (PySem.W.fnOf "code" "Book.code" (ay dz) (aw dz) (af dz) .none kV12 dc12 pm12 an12 cd12 ct12), sl12⟩)
    (c12 : PySem.W.codeIn K cd12 "Book.code" = true)
    (k12 : PySem.W.keepIn K (.ref f12) = true)
    (a13 : PySem.W.findIn K (.ref k_Book) "put" = some (some (.ref f13)))
    (i13 : PySem.W.isFn K (.ref f13) = true)
    {dt13 : Addr} {tc13 : Value} {td13 : Option Addr} {tn13 : Nat} {ts13 : Array (Option Value)}
    (l13 : K.lookup f13 = some ⟨oc13, od13, .func (PySem.W.fnOf "put" "Book.put" (ay bM) (aw bM) (af bM) (.ref dt13) kV13 dc13 pm13 an13 (.ref k_cd) ct13), sl13⟩)
    (t13 : K.lookup dt13 = some ⟨tc13, td13, .seq #[.none] tn13, ts13⟩)
    (c13 : PySem.W.codeIn K (.ref k_cd) "Book.put" = true)
    (k13 : PySem.W.keepIn K (.ref f13) = true)
    (a14 : PySem.W.findIn K (.ref k_Book) "choose" = some (some (.ref f14)))
    (i14 : PySem.W.isFn K (.ref f14) = true)
    (l14 : K.lookup f14 = some ⟨oc14, od14, .func (PySem.W.fnOf "choose" "Book.choose" (ay cI) (aw cI) (af cI) .none kV14 dc14 pm14 an14 cd14 ct14), sl14⟩)
    (c14 : PySem.W.codeIn K cd14 "Book.choose" = true)
    (k14 : PySem.W.keepIn K (.ref f14) = true)
    (a15 : PySem.W.findIn K (.ref k_Book) "least_free" = some (some (.ref f15)))
    (i15 : PySem.W.isFn K (.ref f15) = true)
    (l15 : K.lookup f15 = some ⟨oc15, od15, .func (PySem.W.fnOf "least_free" "Book.least_free" (ay bH) (aw bH) (af bH) .none kV15 dc15 pm15 an15 cd15 ct15), sl15⟩)
    (c15 : PySem.W.codeIn K cd15 "Book.least_free" = true)
    (k15 : PySem.W.keepIn K (.ref f15) = true)
    (a16 : PySem.W.findIn K (.ref k_Book) "strike" = some (some (.ref f16)))
    (i16 : PySem.W.isFn K (.ref f16) = true)
    (l16 : K.lookup f16 = some ⟨oc16, od16, .func (PySem.W.fnOf "strike" "Book.strike" (ay cK) (aw cK) (af cK) .none kV16 dc16 pm16 an16 cd16 ct16), sl16⟩)
    (c16 : PySem.W.codeIn K cd16 "Book.strike" = true)
    (k16 : PySem.W.keepIn K (.ref f16) = true)
    (a17 : PySem.W.findIn K (.ref k_Book) "number" = some (some (.ref f17)))
    (i17 : PySem.W.isFn K (.ref f17) = true)
    (l17 : K.lookup f17 = some ⟨oc17, od17, .func (PySem.W.fnOf "number" "Book.number" (ay cJ) (aw cJ) (af cJ) .none kV17 dc17 pm17 an17 cd17 ct17), sl17⟩)
    (c17 : PySem.W.codeIn K cd17 "Book.number" = true)
    (k17 : PySem.W.keepIn K (.ref f17) = true)
    (a18 : PySem.W.findIn K (.ref k_Book) "entries" = some (some (.ref f18)))
    (i18 : PySem.W.isFn K (.ref f18) = true)
    (l18 : K.lookup f18 = some ⟨oc18, od18, .func (PySem.W.fnOf "entries" "Book.entries" (ay cq) (aw cq) (af cq) .none kV18 dc18 pm18 an18 cd18 ct18), sl18⟩)
    (c18 : PySem.W.codeIn K cd18 "Book.entries" = true)
    (k18 : PySem.W.keepIn K (.ref f18) = true)
    (a19 : PySem.W.nsIn K mainGlobals "is_day" = some (some (.ref f19)))
    (l19 : K.lookup f19 = some ⟨oc19, od19, .func (PySem.W.fnOf "is_day" "is_day" (ay gB) (aw gB) (af gB) .none kV19 dc19 pm19 an19 cd19 ct19), sl19⟩)
    (c19 : PySem.W.codeIn K cd19 "is_day" = true)
    (k19 : PySem.W.keepIn K (.ref f19) = true)
    (a20 : PySem.W.findIn K (.ref k_Editions) "__init__" = some (some (.ref f20)))
    (i20 : PySem.W.isFn K (.ref f20) = true)
    (l20 : K.lookup f20 = some ⟨oc20, od20, .func (PySem.W.fnOf "__init__" "Editions.__init__" (ay bW) (aw bW) (af bW) .none kV20 dc20 pm20 an20 cd20 ct20), sl20⟩)
    (c20 : PySem.W.codeIn K cd20 "Editions.__init__" = true)
    (k20 : PySem.W.keepIn K (.ref f20) = true)
    (a21 : PySem.W.findIn K (.ref k_Editions) "put" = some (some (.ref f21)))
    (i21 : PySem.W.isFn K (.ref f21) = true)
    {dt21 : Addr} {tc21 : Value} {td21 : Option Addr} {tn21 : Nat} {ts21 : Array (Option Value)}
    (l21 : K.lookup f21 = some ⟨oc21, od21, .func (PySem.W.fnOf "put" "Editions.put" (ay aR) (aw aR) (af aR) (.ref dt21) kV21 dc21 pm21 an21 (.ref k_cd1) ct21), sl21⟩)
    (t21 : K.lookup dt21 = some ⟨tc21, td21, .seq #[.none] tn21, ts21⟩)
    (c21 : PySem.W.codeIn K (.ref k_cd1) "Editions.put" = true)
    (k21 : PySem.W.keepIn K (.ref f21) = true)
    (a22 : PySem.W.findIn K (.ref k_Editions) "strike" = some (some (.ref f22)))
    (i22 : PySem.W.isFn K (.ref f22) = true)
    (l22 : K.lookup f22 = some ⟨oc22, od22, .func (PySem.W.fnOf "strike" "Editions.strike" (ay bI) (aw bI) (af bI) .none kV22 dc22 pm22 an22 cd22 ct22), sl22⟩)
    (c22 : PySem.W.codeIn K cd22 "Editions.strike" = true)
    (k22 : PySem.W.keepIn K (.ref f22) = true)
    (a23 : PySem.W.findIn K (.ref k_Editions) "book" = some (some (.ref f23)))
    (i23 : PySem.W.isFn K (.ref f23) = true)
    (l23 : K.lookup f23 = some ⟨oc23, od23, .func (PySem.W.fnOf "book" "Editions.book" (ay bV) (aw bV) (af bV) .none kV23 dc23 pm23 an23 cd23 ct23), sl23⟩)
    (c23 : PySem.W.codeIn K cd23 "Editions.book" = true)
    (k23 : PySem.W.keepIn K (.ref f23) = true)
    (a24 : PySem.W.findIn K (.ref k_Editions) "last_day" = some (some (.ref f24)))
    (i24 : PySem.W.isFn K (.ref f24) = true)
    (l24 : K.lookup f24 = some ⟨oc24, od24, .func (PySem.W.fnOf "last_day" "Editions.last_day" (ay br) (aw br) (af br) .none kV24 dc24 pm24 an24 cd24 ct24), sl24⟩)
    (c24 : PySem.W.codeIn K cd24 "Editions.last_day" = true)
    (k24 : PySem.W.keepIn K (.ref f24) = true)
    (a25 : PySem.W.findIn K (.ref k_Editions) "check_change" = some (some (.ref f25)))
    (i25 : PySem.W.isFn K (.ref f25) = true)
    (l25 : K.lookup f25 = some ⟨oc25, od25, .func (PySem.W.fnOf "check_change" "Editions.check_change" (ay aU) (aw aU) (af aU) .none kV25 dc25 pm25 an25 cd25 ct25), sl25⟩)
    (c25 : PySem.W.codeIn K cd25 "Editions.check_change" = true)
    (k25 : PySem.W.keepIn K (.ref f25) = true)
    (a26 : PySem.W.findIn K (.ref k_Editions) "is_barred" = some (some (.ref f26)))
    (i26 : PySem.W.isFn K (.ref f26) = true)
    (l26 : K.lookup f26 = some ⟨oc26, od26, .func (PySem.W.fnOf "is_barred" "Editions.is_barred" (ay bj) (aw bj) (af bj) .none kV26 dc26 pm26 an26 cd26 ct26), sl26⟩)
    (c26 : PySem.W.codeIn K cd26 "Editions.is_barred" = true)
    (k26 : PySem.W.keepIn K (.ref f26) = true)
    (a27 : PySem.W.findIn K (.ref k_Editions) "note_change" = some (some (.ref f27)))
    (i27 : PySem.W.isFn K (.ref f27) = true)
    (l27 : K.lookup f27 = some ⟨oc27, od27, .func (PySem.W.fnOf "note_change" "Editions.note_change" (ay aV) (aw aV) (af aV) .none kV27 dc27 pm27 an27 cd27 ct27), sl27⟩)
    (c27 : PySem.W.codeIn K cd27 "Editions.note_change" = true)
    (k27 : PySem.W.keepIn K (.ref f27) = true)
    (a28 : PySem.W.nsIn K mainGlobals "_law_cell_at" = some (some (.ref f28)))
    (l28 : K.lookup f28 = some ⟨oc28, od28, .func (PySem.W.fnOf "_law_cell_at" "_law_cell_at" (ay cO) (aw cO) (af cO) .none kV28 dc28 pm28 an28 cd28 ct28), sl28⟩)
    (c28 : PySem.W.codeIn K cd28 "_law_cell_at" = true)
    (k28 : PySem.W.keepIn K (.ref f28) = true)
    (a29 : PySem.W.nsIn K mainGlobals "_law_whole" = some (some (.ref f29)))
    (l29 : K.lookup f29 = some ⟨oc29, od29, .func (PySem.W.fnOf "_law_whole" "_law_whole" (ay dC) (aw dC) (af dC) .none kV29 dc29 pm29 an29 cd29 ct29), sl29⟩)
    (c29 : PySem.W.codeIn K cd29 "_law_whole" = true)
    (k29 : PySem.W.keepIn K (.ref f29) = true)
    (a30 : PySem.W.nsIn K mainGlobals "_law_mixed" = some (some (.ref f30)))
    (l30 : K.lookup f30 = some ⟨oc30, od30, .func (PySem.W.fnOf "_law_mixed" "_law_mixed" (ay dB) (aw dB) (af dB) .none kV30 dc30 pm30 an30 cd30 ct30), sl30⟩)
    (c30 : PySem.W.codeIn K cd30 "_law_mixed" = true)
    (k30 : PySem.W.keepIn K (.ref f30) = true)
    (a31 : PySem.W.nsIn K mainGlobals "_law_apart" = some (some (.ref f31)))
    (l31 : K.lookup f31 = some ⟨oc31, od31, .func (PySem.W.fnOf "_law_apart" "_law_apart" (ay d9) (aw d9) (af d9) .none kV31 dc31 pm31 an31 cd31 ct31), sl31⟩)
    (c31 : PySem.W.codeIn K cd31 "_law_apart" = true)
    (k31 : PySem.W.keepIn K (.ref f31) = true)
    (a32 : PySem.W.nsIn K mainGlobals "_law_weights" = some (some (.ref f32)))
    (l32 : K.lookup f32 = some ⟨oc32, od32, .func (PySem.W.fnOf "_law_weights" "_law_weights" (ay cQ) (aw cQ) (af cQ) .none kV32 dc32 pm32 an32 cd32 ct32), sl32⟩)
    (c32 : PySem.W.codeIn K cd32 "_law_weights" = true)
    (k32 : PySem.W.keepIn K (.ref f32) = true)
    (a33 : PySem.W.nsIn K mainGlobals "_law_code_parts" = some (some (.ref f33)))
    (l33 : K.lookup f33 = some ⟨oc33, od33, .func (PySem.W.fnOf "_law_code_parts" "_law_code_parts" (ay bR) (aw bR) (af bR) .none kV33 dc33 pm33 an33 cd33 ct33), sl33⟩)
    (c33 : PySem.W.codeIn K cd33 "_law_code_parts" = true)
    (k33 : PySem.W.keepIn K (.ref f33) = true)
    (a34 : PySem.W.nsIn K mainGlobals "_law_many" = some (some (.ref f34)))
    (l34 : K.lookup f34 = some ⟨oc34, od34, .func (PySem.W.fnOf "_law_many" "_law_many" (ay eL) (aw eL) (af eL) .none kV34 dc34 pm34 an34 cd34 ct34), sl34⟩)
    (c34 : PySem.W.codeIn K cd34 "_law_many" = true)
    (k34 : PySem.W.keepIn K (.ref f34) = true)
    (a35 : PySem.W.nsIn K mainGlobals "_law_pool" = some (some (.ref f35)))
    (l35 : K.lookup f35 = some ⟨oc35, od35, .func (PySem.W.fnOf "_law_pool" "_law_pool" (ay eM) (aw eM) (af eM) .none kV35 dc35 pm35 an35 cd35 ct35), sl35⟩)
    (c35 : PySem.W.codeIn K cd35 "_law_pool" = true)
    (k35 : PySem.W.keepIn K (.ref f35) = true)
    (a36 : PySem.W.nsIn K mainGlobals "_law_free" = some (some (.ref f36)))
    (l36 : K.lookup f36 = some ⟨oc36, od36, .func (PySem.W.fnOf "_law_free" "_law_free" (ay eJ) (aw eJ) (af eJ) .none kV36 dc36 pm36 an36 cd36 ct36), sl36⟩)
    (c36 : PySem.W.codeIn K cd36 "_law_free" = true)
    (k36 : PySem.W.keepIn K (.ref f36) = true)
    (a37 : PySem.W.nsIn K mainGlobals "_law_due" = some (some (.ref f37)))
    (l37 : K.lookup f37 = some ⟨oc37, od37, .func (PySem.W.fnOf "_law_due" "_law_due" (ay fE) (aw fE) (af fE) .none kV37 dc37 pm37 an37 cd37 ct37), sl37⟩)
    (c37 : PySem.W.codeIn K cd37 "_law_due" = true)
    (k37 : PySem.W.keepIn K (.ref f37) = true)
    (a38 : PySem.W.nsIn K mainGlobals "_law_kept" = some (some (.ref f38)))
    (l38 : K.lookup f38 = some ⟨oc38, od38, .func (PySem.W.fnOf "_law_kept" "_law_kept" (ay eK) (aw eK) (af eK) .none kV38 dc38 pm38 an38 cd38 ct38), sl38⟩)
    (c38 : PySem.W.codeIn K cd38 "_law_kept" = true)
    (k38 : PySem.W.keepIn K (.ref f38) = true)
    (a39 : PySem.W.nsIn K mainGlobals "_law_edition" = some (some (.ref f39)))
    (l39 : K.lookup f39 = some ⟨oc39, od39, .func (PySem.W.fnOf "_law_edition" "_law_edition" (ay cP) (aw cP) (af cP) .none kV39 dc39 pm39 an39 cd39 ct39), sl39⟩)
    (c39 : PySem.W.codeIn K cd39 "_law_edition" = true)
    (k39 : PySem.W.keepIn K (.ref f39) = true)
    (a40 : PySem.W.nsIn K mainGlobals "_law_deeds" = some (some (.ref f40)))
    (l40 : K.lookup f40 = some ⟨oc40, od40, .func (PySem.W.fnOf "_law_deeds" "_law_deeds" (ay dA) (aw dA) (af dA) .none kV40 dc40 pm40 an40 cd40 ct40), sl40⟩)
    (c40 : PySem.W.codeIn K cd40 "_law_deeds" = true)
    (k40 : PySem.W.keepIn K (.ref f40) = true)
    (a41 : PySem.W.nsIn K mainGlobals "_law_did" = some (some (.ref f41)))
    (l41 : K.lookup f41 = some ⟨oc41, od41, .func (PySem.W.fnOf "_law_did" "_law_did" (ay fD) (aw fD) (af fD) .none kV41 dc41 pm41 an41 cd41 ct41), sl41⟩)
    (c41 : PySem.W.codeIn K cd41 "_law_did" = true)
    (k41 : PySem.W.keepIn K (.ref f41) = true)
    (a42 : PySem.W.nsIn K mainGlobals "law" = some (some (.ref f42)))
    (l42 : K.lookup f42 = some ⟨oc42, od42, .func (PySem.W.fnOf "law" "law" (ay jG) (aw jG) (af jG) .none kV42 dc42 pm42 an42 cd42 ct42), sl42⟩)
    (c42 : PySem.W.codeIn K cd42 "law" = true)
    (k42 : PySem.W.keepIn K (.ref f42) = true)
    (pg_Code : PySem.W.plainGet K k_Code Str.empty = true)
    (hd_Code : PySem.W.hasDictIn K k_Code = true)
    (po_Code : PySem.W.plainOver K k_Code = true)
    (sa_Code : PySem.W.findIn K (.ref k_Code) "__setattr__" = some (some (.builtin "object.__setattr__")))
    (mk_Code : PySem.W.makesIn K k_Code = true)
    (kc_Code : PySem.W.keepIn K (.ref k_Code) = true)
    (n_Code_letters : PySem.W.findIn K (.ref k_Code) "letters" = some none)
    (n_Code_factors : PySem.W.findIn K (.ref k_Code) "factors" = some none)
    (n_Code_remainder : PySem.W.findIn K (.ref k_Code) "remainder" = some none)
    (pg_Book : PySem.W.plainGet K k_Book Str.empty = true)
    (hd_Book : PySem.W.hasDictIn K k_Book = true)
    (po_Book : PySem.W.plainOver K k_Book = true)
    (sa_Book : PySem.W.findIn K (.ref k_Book) "__setattr__" = some (some (.builtin "object.__setattr__")))
    (mk_Book : PySem.W.makesIn K k_Book = true)
    (kc_Book : PySem.W.keepIn K (.ref k_Book) = true)
    (n_Book_basis : PySem.W.findIn K (.ref k_Book) "basis" = some none)
    (n_Book_by_number : PySem.W.findIn K (.ref k_Book) "by_number" = some none)
    (n_Book_by_entry : PySem.W.findIn K (.ref k_Book) "by_entry" = some none)
    (pg_Editions : PySem.W.plainGet K k_Editions Str.empty = true)
    (hd_Editions : PySem.W.hasDictIn K k_Editions = true)
    (po_Editions : PySem.W.plainOver K k_Editions = true)
    (sa_Editions : PySem.W.findIn K (.ref k_Editions) "__setattr__" = some (some (.builtin "object.__setattr__")))
    (mk_Editions : PySem.W.makesIn K k_Editions = true)
    (kc_Editions : PySem.W.keepIn K (.ref k_Editions) = true)
    (n_Editions_current : PySem.W.findIn K (.ref k_Editions) "current" = some none)
    (n_Editions_changes : PySem.W.findIn K (.ref k_Editions) "changes" = some none)
    (n_Editions_struck : PySem.W.findIn K (.ref k_Editions) "struck" = some none)
    (n_Editions_latest : PySem.W.findIn K (.ref k_Editions) "latest" = some none)
    (q_NoCode : PySem.W.excIn K k_NoCode [.type "ValueError", .type "Exception", .type "BaseException", .type "object"] "ValueError.__new__" = true)
    (q_NoNumber : PySem.W.excIn K k_NoNumber [.type "ValueError", .type "Exception", .type "BaseException", .type "object"] "ValueError.__new__" = true)
    (q_NoWord : PySem.W.excIn K k_NoWord [.type "ValueError", .type "Exception", .type "BaseException", .type "object"] "ValueError.__new__" = true)
    (q_NoEntry : PySem.W.excIn K k_NoEntry [.type "ValueError", .type "Exception", .type "BaseException", .type "object"] "ValueError.__new__" = true)
    (q_Twice : PySem.W.excIn K k_Twice [.type "ValueError", .type "Exception", .type "BaseException", .type "object"] "ValueError.__new__" = true)
    (q_TooMany : PySem.W.excIn K k_TooMany [.type "ValueError", .type "Exception", .type "BaseException", .type "object"] "ValueError.__new__" = true)
    (q_NoDay : PySem.W.excIn K k_NoDay [.type "ValueError", .type "Exception", .type "BaseException", .type "object"] "ValueError.__new__" = true)
    (tab : PySem.W.codeHdIn K k_cd k_tb = true)
    (tab1 : PySem.W.codeHdIn K k_cd1 k_tb1 = true)
    (err : oX K k_CableError [k_NoCode, k_NoNumber, k_NoWord, k_NoEntry, k_Twice, k_TooMany, k_NoDay] = true)
    (ndx : ndB [k_NoCode, k_NoNumber, k_NoWord, k_NoEntry, k_Twice, k_TooMany, k_NoDay] = true)
    {u_SMALL_LETTERS : Value}
    (v_SMALL_LETTERS : PySem.W.nsIn K mainGlobals "SMALL_LETTERS" = some (some u_SMALL_LETTERS))
    (r_SMALL_LETTERS : RelV (.str "abcdefghijklmnopqrstuvwxyz") u_SMALL_LETTERS)
    {u_LONGEST_WORD : Value}
    (v_LONGEST_WORD : PySem.W.nsIn K mainGlobals "LONGEST_WORD" = some (some u_LONGEST_WORD))
    (r_LONGEST_WORD : RelV (.int 20) u_LONGEST_WORD)
    {u_MOST_ENTRIES : Value}
    (v_MOST_ENTRIES : PySem.W.nsIn K mainGlobals "MOST_ENTRIES" = some (some u_MOST_ENTRIES))
    (r_MOST_ENTRIES : RelV (.int 300) u_MOST_ENTRIES)
    {u_MOST_PHRASE_WORDS : Value}
    (v_MOST_PHRASE_WORDS : PySem.W.nsIn K mainGlobals "MOST_PHRASE_WORDS" = some (some u_MOST_PHRASE_WORDS))
    (r_MOST_PHRASE_WORDS : RelV (.int 6) u_MOST_PHRASE_WORDS)
    {u_MOST_PART_LETTERS : Value}
    (v_MOST_PART_LETTERS : PySem.W.nsIn K mainGlobals "MOST_PART_LETTERS" = some (some u_MOST_PART_LETTERS))
    (r_MOST_PART_LETTERS : RelV (.int 6) u_MOST_PART_LETTERS)
    {u_LATEST_DAY : Value}
    (v_LATEST_DAY : PySem.W.nsIn K mainGlobals "LATEST_DAY" = some (some u_LATEST_DAY))
    (r_LATEST_DAY : RelV (.int 1000000000) u_LATEST_DAY)
    {u_DAYS_BARRED : Value}
    (v_DAYS_BARRED : PySem.W.nsIn K mainGlobals "DAYS_BARRED" = some (some u_DAYS_BARRED))
    (r_DAYS_BARRED : RelV (.int 31) u_DAYS_BARRED)
    (z_isinstance : PySem.W.nsIn K mainGlobals "isinstance" = some none)
    (z_bool : PySem.W.nsIn K mainGlobals "bool" = some none)
    (z_int : PySem.W.nsIn K mainGlobals "int" = some none)
    (z_abs : PySem.W.nsIn K mainGlobals "abs" = some none)
    (z_all : PySem.W.nsIn K mainGlobals "all" = some none)
    (z_zip : PySem.W.nsIn K mainGlobals "zip" = some none)
    (z_len : PySem.W.nsIn K mainGlobals "len" = some none)
    (z_set : PySem.W.nsIn K mainGlobals "set" = some none)
    (z_str : PySem.W.nsIn K mainGlobals "str" = some none)
    (z_list : PySem.W.nsIn K mainGlobals "list" = some none)
    (z_tuple : PySem.W.nsIn K mainGlobals "tuple" = some none)
    (z_sorted : PySem.W.nsIn K mainGlobals "sorted" = some none)
    (z_range : PySem.W.nsIn K mainGlobals "range" = some none)
    (z_min : PySem.W.nsIn K mainGlobals "min" = some none)
    (z_ValueError : PySem.W.nsIn K mainGlobals "ValueError" = some none)
    (z_max : PySem.W.nsIn K mainGlobals "max" = some none)
    : (∀ p ∈ [(k_tb, sy), (k_tb1, qQ)], ∃ c, PySem.W.codeHdIn K c p.1 = true) ∧ ∃ fd : FuncData, (∀ (s : Shared) (v : Value), BindsTo s fd ⟨[v], []⟩ [("_law_script", v)]) ∧ ∀ base : Heap, K.In base → base.Ns mainGlobals mg → aX l.prog w K mg base (CX1 l.prog w) 9 fa fd ["_law_script"] (tj K k_tb k_tb1) := by
  have e := hfa.symm.trans (PySem.W.mg_of X G a42)
  cases e
  have T : Bl mg := ⟨PySem.W.mg_none_of X G z_isinstance, PySem.W.mg_none_of X G z_bool, PySem.W.mg_none_of X G z_int, PySem.W.mg_none_of X G z_abs, PySem.W.mg_none_of X G z_all, PySem.W.mg_none_of X G z_zip, PySem.W.mg_none_of X G z_len, PySem.W.mg_none_of X G z_set, PySem.W.mg_none_of X G z_str, PySem.W.mg_none_of X G z_list, PySem.W.mg_none_of X G z_tuple, PySem.W.mg_none_of X G z_sorted, PySem.W.mg_none_of X G z_range, PySem.W.mg_none_of X G z_min, PySem.W.mg_none_of X G z_ValueError, PySem.W.mg_none_of X G z_max⟩
  have AF : AdF K mg ⟨k_Code, k_Book, k_Editions, k_CableError, k_NoCode, k_NoNumber, k_NoWord, k_NoEntry, k_Twice, k_TooMany, k_NoDay, k_cd, k_tb, k_cd1, k_tb1, ()⟩ := ⟨PySem.W.mg_of X G g_Code, PySem.W.mg_of X G g_Book, PySem.W.mg_of X G g_Editions, PySem.W.mg_of X G g_CableError, PySem.W.mg_of X G g_NoCode, PySem.W.mg_of X G g_NoNumber, PySem.W.mg_of X G g_NoWord, PySem.W.mg_of X G g_NoEntry, PySem.W.mg_of X G g_Twice, PySem.W.mg_of X G g_TooMany, PySem.W.mg_of X G g_NoDay, ⟨pg_Code, hd_Code, po_Code, sa_Code⟩, n_Code_letters, n_Code_factors, n_Code_remainder, ⟨pg_Book, hd_Book, po_Book, sa_Book⟩, n_Book_basis, n_Book_by_number, n_Book_by_entry, ⟨pg_Editions, hd_Editions, po_Editions, sa_Editions⟩, n_Editions_current, n_Editions_changes, n_Editions_struck, n_Editions_latest, q_NoCode, q_NoNumber, q_NoWord, q_NoEntry, q_Twice, q_TooMany, q_NoDay, tab, tab1, err, ndx, ⟨_, PySem.W.mg_of X G v_SMALL_LETTERS, r_SMALL_LETTERS⟩, ⟨_, PySem.W.mg_of X G v_LONGEST_WORD, r_LONGEST_WORD⟩, ⟨_, PySem.W.mg_of X G v_MOST_ENTRIES, r_MOST_ENTRIES⟩, ⟨_, PySem.W.mg_of X G v_MOST_PHRASE_WORDS, r_MOST_PHRASE_WORDS⟩, ⟨_, PySem.W.mg_of X G v_MOST_PART_LETTERS, r_MOST_PART_LETTERS⟩, ⟨_, PySem.W.mg_of X G v_LATEST_DAY, r_LATEST_DAY⟩, ⟨_, PySem.W.mg_of X G v_DAYS_BARRED, r_DAYS_BARRED⟩⟩
  have F0 := aQ (st := eI) l0 c0 k0
  have F1 := aQ (st := bQ) l1 c1 k1
  have F2 := aQ (st := eD) l2 c2 k2
  have F3 := aQ (st := cN) l3 c3 k3
  have F4 := aQ (st := eE) l4 c4 k4
  have F5 := aQ (st := cM) l5 c5 k5
  have F6 := aQ (st := d4) l6 c6 k6
  have F7 := aQ (st := d7) l7 c7 k7
  have F8 := aQ (st := cL) l8 c8 k8
  have F9 := aQ (st := d8) l9 c9 k9
  have F10 := aQ (st := eG) l10 c10 k10
  have F11 := aQ (st := d3) l11 c11 k11
  have F12 := aQ (st := dz) l12 c12 k12
  have F13 := uB (st := bM) l13 c13 k13
  have F14 := aQ (st := cI) l14 c14 k14
  have F15 := aQ (st := bH) l15 c15 k15
  have F16 := aQ (st := cK) l16 c16 k16
  have F17 := aQ (st := cJ) l17 c17 k17
  have F18 := aQ (st := cq) l18 c18 k18
  have F19 := aQ (st := gB) l19 c19 k19
  have F20 := aQ (st := bW) l20 c20 k20
  have F21 := uB (st := aR) l21 c21 k21
  have F22 := aQ (st := bI) l22 c22 k22
  have F23 := aQ (st := bV) l23 c23 k23
  have F24 := aQ (st := br) l24 c24 k24
  have F25 := aQ (st := aU) l25 c25 k25
  have F26 := aQ (st := bj) l26 c26 k26
  have F27 := aQ (st := aV) l27 c27 k27
  have F28 := aQ (st := cO) l28 c28 k28
  have F29 := aQ (st := dC) l29 c29 k29
  have F30 := aQ (st := dB) l30 c30 k30
  have F31 := aQ (st := d9) l31 c31 k31
  have F32 := aQ (st := cQ) l32 c32 k32
  have F33 := aQ (st := bR) l33 c33 k33
  have F34 := aQ (st := eL) l34 c34 k34
  have F35 := aQ (st := eM) l35 c35 k35
  have F36 := aQ (st := eJ) l36 c36 k36
  have F37 := aQ (st := fE) l37 c37 k37
  have F38 := aQ (st := eK) l38 c38 k38
  have F39 := aQ (st := cP) l39 c39 k39
  have F40 := aQ (st := dA) l40 c40 k40
  have F41 := aQ (st := fD) l41 c41 k41
  have F42 := aQ (st := jG) l42 c42 k42
  refine ⟨List.forall_mem_cons.mpr ⟨⟨_, tab⟩, List.forall_mem_cons.mpr ⟨⟨_, tab1⟩, fun _ h => nomatch h⟩⟩, PySem.W.fnOf "law" "law" (ay jG) (aw jG) (af jG) .none kV42 dc42 pm42 an42 cd42 ct42, fun s v => .of_eq rfl, fun base _ _ => ?_⟩
  have b0 := F0.binds (ps := ["thing"]) fun _ _ _ _ _ _ => L2.bind1 fun _ => rfl
  have C_is_whole : Fnc l.prog w K mg base (CX1 l.prog w) 1 "is_whole" ["thing"] iD := ⟨f0, _, qX F0 T AF , PySem.W.mg_of X G a0, k0, b0⟩
  have b1 := F1.binds (ps := ["one", "other"]) fun _ _ _ _ _ _ => L2.dZ fun _ _ => rfl
  have C_common_divisor : Fnc l.prog w K mg base (CX1 l.prog w) 1 "common_divisor" ["one", "other"] dS := ⟨f1, _, jz F1 T AF , PySem.W.mg_of X G a1, k1, b1⟩
  have b3 := F3.binds (ps := ["thing"]) fun _ _ _ _ _ _ => L2.bind1 fun _ => rfl
  have C_is_alphabet : Fnc l.prog w K mg base (CX1 l.prog w) 1 "is_alphabet" ["thing"] fL := ⟨f3, _, mK F3 T AF , PySem.W.mg_of X G a3, k3, b3⟩
  have b7 := F7.binds (ps := ["self"]) fun _ _ _ _ _ _ => L2.bind1 fun _ => rfl
  have M_Code_many : Mtd l.prog w K mg base (CX1 l.prog w) k_Code "many" 1 ["self"] (fz (⟨k_Code, k_Book, k_Editions, k_CableError, k_NoCode, k_NoNumber, k_NoWord, k_NoEntry, k_Twice, k_TooMany, k_NoDay, k_cd, k_tb, k_cd1, k_tb1, ()⟩ : Ads)) := ⟨⟨f7, _, pz F7 T AF , ⟨a7, i7, k7⟩, b7⟩, AF.c_Code⟩
  have b8 := F8.binds (ps := ["thing", "most"]) fun _ _ _ _ _ _ => L2.dZ fun _ _ => rfl
  have C_are_letters : Fnc l.prog w K mg base (CX1 l.prog w) 1 "are_letters" ["thing", "most"] dR := ⟨f8, _, mI F8 T AF , PySem.W.mg_of X G a8, k8, b8⟩
  have b11 := F11.binds (ps := ["self", "code"]) fun _ _ _ _ _ _ => L2.dZ fun _ _ => rfl
  have K_Book : Mak l.prog w K mg base (CX1 l.prog w) k_Book "Book" 1 ["self", "code"] (fw (⟨k_Code, k_Book, k_Editions, k_CableError, k_NoCode, k_NoNumber, k_NoWord, k_NoEntry, k_Twice, k_TooMany, k_NoDay, k_cd, k_tb, k_cd1, k_tb1, ()⟩ : Ads)) := ⟨⟨f11, _, pq F11 T AF , ⟨mk_Book, a11, i11, kc_Book⟩, b11⟩, AF.g_Book⟩
  have b12 := F12.binds (ps := ["self"]) fun _ _ _ _ _ _ => L2.bind1 fun _ => rfl
  have M_Book_code : Mtd l.prog w K mg base (CX1 l.prog w) k_Book "code" 1 ["self"] (fv (⟨k_Code, k_Book, k_Editions, k_CableError, k_NoCode, k_NoNumber, k_NoWord, k_NoEntry, k_Twice, k_TooMany, k_NoDay, k_cd, k_tb, k_cd1, k_tb1, ()⟩ : Ads)) := ⟨⟨f12, _, pk F12 T AF , ⟨a12, i12, k12⟩, b12⟩, AF.c_Book⟩
  have b18 := F18.binds (ps := ["self"]) fun _ _ _ _ _ _ => L2.bind1 fun _ => rfl
  have M_Book_entries : Mtd l.prog w K mg base (CX1 l.prog w) k_Book "entries" 1 ["self"] (dq (⟨k_Code, k_Book, k_Editions, k_CableError, k_NoCode, k_NoNumber, k_NoWord, k_NoEntry, k_Twice, k_TooMany, k_NoDay, k_cd, k_tb, k_cd1, k_tb1, ()⟩ : Ads)) := ⟨⟨f18, _, kR F18 T AF , ⟨a18, i18, k18⟩, b18⟩, AF.c_Book⟩
  have b24 := F24.binds (ps := ["self"]) fun _ _ _ _ _ _ => L2.bind1 fun _ => rfl
  have M_Editions_last_day : Mtd l.prog w K mg base (CX1 l.prog w) k_Editions "last_day" 1 ["self"] (bZ (⟨k_Code, k_Book, k_Editions, k_CableError, k_NoCode, k_NoNumber, k_NoWord, k_NoEntry, k_Twice, k_TooMany, k_NoDay, k_cd, k_tb, k_cd1, k_tb1, ()⟩ : Ads)) := ⟨⟨f24, _, iu F24 T AF , ⟨a24, i24, k24⟩, b24⟩, AF.c_Editions⟩
  have b26 := F26.binds (ps := ["self", "day", "entry", "number"]) fun _ _ _ _ _ _ => L2.nG fun _ _ _ _ => rfl
  have M_Editions_is_barred : Mtd l.prog w K mg base (CX1 l.prog w) k_Editions "is_barred" 1 ["self", "day", "entry", "number"] (bu K (⟨k_Code, k_Book, k_Editions, k_CableError, k_NoCode, k_NoNumber, k_NoWord, k_NoEntry, k_Twice, k_TooMany, k_NoDay, k_cd, k_tb, k_cd1, k_tb1, ()⟩ : Ads)) := ⟨⟨f26, _, hX F26 T AF , ⟨a26, i26, k26⟩, b26⟩, AF.c_Editions⟩
  have b27 := F27.binds (ps := ["self", "day", "number", "entry"]) fun _ _ _ _ _ _ => L2.nG fun _ _ _ _ => rfl
  have M_Editions_note_change : Mtd l.prog w K mg base (CX1 l.prog w) k_Editions "note_change" 1 ["self", "day", "number", "entry"] (bp (⟨k_Code, k_Book, k_Editions, k_CableError, k_NoCode, k_NoNumber, k_NoWord, k_NoEntry, k_Twice, k_TooMany, k_NoDay, k_cd, k_tb, k_cd1, k_tb1, ()⟩ : Ads)) := ⟨⟨f27, _, gy F27 T AF , ⟨a27, i27, k27⟩, b27⟩, AF.c_Editions⟩
  have b28 := F28.binds (ps := ["_law_script", "_law_k"]) fun _ _ _ _ _ _ => L2.dZ fun _ _ => rfl
  have C_law_cell_at : Fnc l.prog w K mg base (CX1 l.prog w) 1 "_law_cell_at" ["_law_script", "_law_k"] (dU K) := ⟨f28, _, mL F28 T AF , PySem.W.mg_of X G a28, k28, b28⟩
  have b29 := F29.binds (ps := ["_law_found"]) fun _ _ _ _ _ _ => L2.bind1 fun _ => rfl
  have C_law_whole : Fnc l.prog w K mg base (CX1 l.prog w) 1 "_law_whole" ["_law_found"] gX := ⟨f29, _, pB F29 T AF , PySem.W.mg_of X G a29, k29, b29⟩
  have b30 := F30.binds (ps := ["_law_cell"]) fun _ _ _ _ _ _ => L2.bind1 fun _ => rfl
  have C_law_mixed : Fnc l.prog w K mg base (CX1 l.prog w) 1 "_law_mixed" ["_law_cell"] dY := ⟨f30, _, pA F30 T AF , PySem.W.mg_of X G a30, k30, b30⟩
  have b31 := F31.binds (ps := ["_law_number", "_law_m"]) fun _ _ _ _ _ _ => L2.dZ fun _ _ => rfl
  have C_law_apart : Fnc l.prog w K mg base (CX1 l.prog w) 1 "_law_apart" ["_law_number", "_law_m"] gT := ⟨f31, _, p8 F31 T AF , PySem.W.mg_of X G a31, k31, b31⟩
  have b34 := F34.binds (ps := ["_law_parts"]) fun _ _ _ _ _ _ => L2.bind1 fun _ => rfl
  have C_law_many : Fnc l.prog w K mg base (CX1 l.prog w) 1 "_law_many" ["_law_parts"] fZ := ⟨f34, _, rg F34 T AF , PySem.W.mg_of X G a34, k34, b34⟩
  have b35 := F35.binds (ps := ["_law_cell"]) fun _ _ _ _ _ _ => L2.bind1 fun _ => rfl
  have C_law_pool : Fnc l.prog w K mg base (CX1 l.prog w) 1 "_law_pool" ["_law_cell"] iE := ⟨f35, _, rh F35 T AF , PySem.W.mg_of X G a35, k35, b35⟩
  have b36 := F36.binds (ps := ["_law_state", "_law_number", "_law_day", "_law_entry"]) fun _ _ _ _ _ _ => L2.nG fun _ _ _ _ => rfl
  have C_law_free : Fnc l.prog w K mg base (CX1 l.prog w) 1 "_law_free" ["_law_state", "_law_number", "_law_day", "_law_entry"] (fX K) := ⟨f36, _, qY F36 T AF , PySem.W.mg_of X G a36, k36, b36⟩
  have b38 := F38.binds (ps := ["_law_state", "_law_deed", "_law_number"]) fun _ _ _ _ _ _ => L2.qr fun _ _ _ => rfl
  have C_law_kept : Fnc l.prog w K mg base (CX1 l.prog w) 1 "_law_kept" ["_law_state", "_law_deed", "_law_number"] (fY K) := ⟨f38, _, qZ F38 T AF , PySem.W.mg_of X G a38, k38, b38⟩
  have b39 := F39.binds (ps := ["_law_state", "_law_day"]) fun _ _ _ _ _ _ => L2.dZ fun _ _ => rfl
  have C_law_edition : Fnc l.prog w K mg base (CX1 l.prog w) 1 "_law_edition" ["_law_state", "_law_day"] (dX K) := ⟨f39, _, mM F39 T AF , PySem.W.mg_of X G a39, k39, b39⟩
  have b2 := F2.binds (ps := ["weights", "m"]) fun _ _ _ _ _ _ => L2.dZ fun _ _ => rfl
  have C_are_safe : Fnc l.prog w K mg base (CX1 l.prog w) 2 "are_safe" ["weights", "m"] iC := ⟨f2, _, qU F2 T AF C_common_divisor, PySem.W.mg_of X G a2, k2, b2⟩
  have b4 := F4.binds (ps := ["thing", "bound"]) fun _ _ _ _ _ _ => L2.dZ fun _ _ => rfl
  have C_is_below : Fnc l.prog w K mg base (CX1 l.prog w) 2 "is_below" ["thing", "bound"] dE := ⟨f4, _, qV F4 T AF C_is_whole, PySem.W.mg_of X G a4, k4, b4⟩
  have b9 := F9.binds (ps := ["thing", "most"]) fun _ _ _ _ _ _ => L2.dZ fun _ _ => rfl
  have C_are_words : Fnc l.prog w K mg base (CX1 l.prog w) 2 "are_words" ["thing", "most"] gS := ⟨f9, _, p0 F9 T AF C_are_letters, PySem.W.mg_of X G a9, k9, b9⟩
  have b15 := F15.binds (ps := ["self", "is_barred"]) fun _ _ _ _ _ _ => L2.dZ fun _ _ => rfl
  have M_Book_least_free : lz l.prog w K mg base (CX1 l.prog w) k_Book "least_free" 2 1 ["self", "is_barred"] (cD (⟨k_Code, k_Book, k_Editions, k_CableError, k_NoCode, k_NoNumber, k_NoWord, k_NoEntry, k_Twice, k_TooMany, k_NoDay, k_cd, k_tb, k_cd1, k_tb1, ()⟩ : Ads)) := ⟨⟨f15, _, fun k => jd (k := k) F15 T AF M_Code_many, ⟨a15, i15, k15⟩, b15⟩, AF.c_Book⟩
  have b32 := F32.binds (ps := ["_law_cell", "_law_m", "_law_many_here"]) fun _ _ _ _ _ _ => L2.qr fun _ _ _ => rfl
  have C_law_weights : Fnc l.prog w K mg base (CX1 l.prog w) 2 "_law_weights" ["_law_cell", "_law_m", "_law_many_here"] fM := ⟨f32, _, mO F32 T AF C_law_apart, PySem.W.mg_of X G a32, k32, b32⟩
  have b37 := F37.binds (ps := ["_law_state", "_law_many_here", "_law_deed"]) fun _ _ _ _ _ _ => L2.qr fun _ _ _ => rfl
  have C_law_due : Fnc l.prog w K mg base (CX1 l.prog w) 2 "_law_due" ["_law_state", "_law_many_here", "_law_deed"] (gW K) := ⟨f37, _, sN F37 T AF C_law_free, PySem.W.mg_of X G a37, k37, b37⟩
  have b40 := F40.binds (ps := ["_law_cells", "_law_pool_here", "_law_many_here", "_law_first"]) fun _ _ _ _ _ _ => L2.nG fun _ _ _ _ => rfl
  have C_law_deeds : Fnc l.prog w K mg base (CX1 l.prog w) 2 "_law_deeds" ["_law_cells", "_law_pool_here", "_law_many_here", "_law_first"] (fA K) := ⟨f40, _, p9 F40 T AF C_law_mixed, PySem.W.mg_of X G a40, k40, b40⟩
  have b5 := F5.binds (ps := ["thing", "m"]) fun _ _ _ _ _ _ => L2.dZ fun _ _ => rfl
  have C_are_weights : Fnc l.prog w K mg base (CX1 l.prog w) 3 "are_weights" ["thing", "m"] fK := ⟨f5, _, mJ F5 T AF C_is_below, PySem.W.mg_of X G a5, k5, b5⟩
  have b10 := F10.binds (ps := ["thing"]) fun _ _ _ _ _ _ => L2.bind1 fun _ => rfl
  have C_is_entry : Fnc l.prog w K mg base (CX1 l.prog w) 3 "is_entry" ["thing"] fW := ⟨f10, _, qW F10 T AF C_are_letters C_are_words, PySem.W.mg_of X G a10, k10, b10⟩
  have b19 := F19.binds (ps := ["thing"]) fun _ _ _ _ _ _ => L2.bind1 fun _ => rfl
  have C_is_day : Fnc l.prog w K mg base (CX1 l.prog w) 3 "is_day" ["thing"] iP := ⟨f19, _, vW F19 T AF C_is_below, PySem.W.mg_of X G a19, k19, b19⟩
  have b20 := F20.binds (ps := ["self", "code"]) fun _ _ _ _ _ _ => L2.dZ fun _ _ => rfl
  have K_Editions : Mak l.prog w K mg base (CX1 l.prog w) k_Editions "Editions" 3 ["self", "code"] (eN (⟨k_Code, k_Book, k_Editions, k_CableError, k_NoCode, k_NoNumber, k_NoWord, k_NoEntry, k_Twice, k_TooMany, k_NoDay, k_cd, k_tb, k_cd1, k_tb1, ()⟩ : Ads)) := ⟨⟨f20, _, jZ F20 T AF K_Book, ⟨mk_Editions, a20, i20, kc_Editions⟩, b20⟩, AF.g_Editions⟩
  have b33 := F33.binds (ps := ["_law_script"]) fun _ _ _ _ _ _ => L2.bind1 fun _ => rfl
  have C_law_code_parts : Fnc l.prog w K mg base (CX1 l.prog w) 3 "_law_code_parts" ["_law_script"] (dW K) := ⟨f33, _, j4 F33 T AF C_law_weights C_law_mixed C_law_cell_at, PySem.W.mg_of X G a33, k33, b33⟩
  have b6 := F6.binds (ps := ["self", "alphabet", "weights", "rest"]) fun _ _ _ _ _ _ => L2.nG fun _ _ _ _ => rfl
  have K_Code : Mak l.prog w K mg base (CX1 l.prog w) k_Code "Code" 4 ["self", "alphabet", "weights", "rest"] (dQ (⟨k_Code, k_Book, k_Editions, k_CableError, k_NoCode, k_NoNumber, k_NoWord, k_NoEntry, k_Twice, k_TooMany, k_NoDay, k_cd, k_tb, k_cd1, k_tb1, ()⟩ : Ads)) := ⟨⟨f6, _, pw F6 T AF C_are_safe C_is_below C_are_weights C_is_alphabet, ⟨mk_Code, a6, i6, kc_Code⟩, b6⟩, AF.g_Code⟩
  have b14 := F14.binds (ps := ["self", "entry", "number", "is_barred"]) fun _ _ _ _ _ _ => L2.nG fun _ _ _ _ => rfl
  have M_Book_choose : lz l.prog w K mg base (CX1 l.prog w) k_Book "choose" 4 1 ["self", "entry", "number", "is_barred"] (cx (⟨k_Code, k_Book, k_Editions, k_CableError, k_NoCode, k_NoNumber, k_NoWord, k_NoEntry, k_Twice, k_TooMany, k_NoDay, k_cd, k_tb, k_cd1, k_tb1, ()⟩ : Ads)) := ⟨⟨f14, _, fun k => mF (k := k) F14 T AF C_is_below C_is_entry M_Book_least_free M_Code_many, ⟨a14, i14, k14⟩, b14⟩, AF.c_Book⟩
  have b17 := F17.binds (ps := ["self", "entry"]) fun _ _ _ _ _ _ => L2.dZ fun _ _ => rfl
  have M_Book_number : Mtd l.prog w K mg base (CX1 l.prog w) k_Book "number" 4 ["self", "entry"] (dO (⟨k_Code, k_Book, k_Editions, k_CableError, k_NoCode, k_NoNumber, k_NoWord, k_NoEntry, k_Twice, k_TooMany, k_NoDay, k_cd, k_tb, k_cd1, k_tb1, ()⟩ : Ads)) := ⟨⟨f17, _, mG F17 T AF C_is_entry, ⟨a17, i17, k17⟩, b17⟩, AF.c_Book⟩
  have b25 := F25.binds (ps := ["self", "day"]) fun _ _ _ _ _ _ => L2.dZ fun _ _ => rfl
  have M_Editions_check_change : Mtd l.prog w K mg base (CX1 l.prog w) k_Editions "check_change" 4 ["self", "day"] (bb (⟨k_Code, k_Book, k_Editions, k_CableError, k_NoCode, k_NoNumber, k_NoWord, k_NoEntry, k_Twice, k_TooMany, k_NoDay, k_cd, k_tb, k_cd1, k_tb1, ()⟩ : Ads)) := ⟨⟨f25, _, gf F25 T AF C_is_day, ⟨a25, i25, k25⟩, b25⟩, AF.c_Editions⟩
  have b16 := F16.binds (ps := ["self", "entry"]) fun _ _ _ _ _ _ => L2.dZ fun _ _ => rfl
  have M_Book_strike : Mtd l.prog w K mg base (CX1 l.prog w) k_Book "strike" 5 ["self", "entry"] (dP (⟨k_Code, k_Book, k_Editions, k_CableError, k_NoCode, k_NoNumber, k_NoWord, k_NoEntry, k_Twice, k_TooMany, k_NoDay, k_cd, k_tb, k_cd1, k_tb1, ()⟩ : Ads)) := ⟨⟨f16, _, mH F16 T AF M_Book_number, ⟨a16, i16, k16⟩, b16⟩, AF.c_Book⟩
  have b13 : Binds K (PySem.W.fnOf "put" "Book.put" (ay bM) (aw bM) (af bM) (.ref dt13) kV13 dc13 pm13 an13 (.ref k_cd) ct13) ["self", "entry", "number"] [] := fun s us hK hl => match us, (show us.length = 3 by simpa using hl) with | [_, _, _], _ => .of_defaults rfl (hK _ _ t13) rfl rfl rfl
  have bd13 : Binds K (PySem.W.fnOf "put" "Book.put" (ay bM) (aw bM) (af bM) (.ref dt13) kV13 dc13 pm13 an13 (.ref k_cd) ct13) ["self", "entry", "number"] [.none] := fun s us hK hl => match us, (show us.length = 2 by simpa using hl) with | [_, _], _ => .of_defaults rfl (hK _ _ t13) rfl rfl rfl
  have M_Book_put : Mtd l.prog w K mg base (CX1 l.prog w) k_Book "put" 6 ["self", "entry", "number"] (dD (⟨k_Code, k_Book, k_Editions, k_CableError, k_NoCode, k_NoNumber, k_NoWord, k_NoEntry, k_Twice, k_TooMany, k_NoDay, k_cd, k_tb, k_cd1, k_tb1, ()⟩ : Ads)) := ⟨⟨f13, _, kC F13 T AF rfl M_Book_choose, ⟨a13, i13, k13⟩, b13⟩, AF.c_Book⟩
  have D_Book_put : zJ l.prog w K mg base (CX1 l.prog w) k_Book "put" 6 ["self", "entry", "number"] (dD (⟨k_Code, k_Book, k_Editions, k_CableError, k_NoCode, k_NoNumber, k_NoWord, k_NoEntry, k_Twice, k_TooMany, k_NoDay, k_cd, k_tb, k_cd1, k_tb1, ()⟩ : Ads)) := ⟨⟨f13, _, kC F13 T AF rfl M_Book_choose, ⟨a13, i13, k13⟩, bd13⟩, AF.c_Book⟩
  have b22 := F22.binds (ps := ["self", "day", "entry"]) fun _ _ _ _ _ _ => L2.qr fun _ _ _ => rfl
  have M_Editions_strike : Mtd l.prog w K mg base (CX1 l.prog w) k_Editions "strike" 6 ["self", "day", "entry"] (bg (⟨k_Code, k_Book, k_Editions, k_CableError, k_NoCode, k_NoNumber, k_NoWord, k_NoEntry, k_Twice, k_TooMany, k_NoDay, k_cd, k_tb, k_cd1, k_tb1, ()⟩ : Ads)) := ⟨⟨f22, _, jf F22 T AF M_Editions_note_change M_Book_strike M_Editions_check_change, ⟨a22, i22, k22⟩, b22⟩, AF.c_Editions⟩
  have b21 : Binds K (PySem.W.fnOf "put" "Editions.put" (ay aR) (aw aR) (af aR) (.ref dt21) kV21 dc21 pm21 an21 (.ref k_cd1) ct21) ["self", "day", "entry", "number"] [] := fun s us hK hl => match us, (show us.length = 4 by simpa using hl) with | [_, _, _, _], _ => .of_defaults rfl (hK _ _ t21) rfl rfl rfl
  have bd21 : Binds K (PySem.W.fnOf "put" "Editions.put" (ay aR) (aw aR) (af aR) (.ref dt21) kV21 dc21 pm21 an21 (.ref k_cd1) ct21) ["self", "day", "entry", "number"] [.none] := fun s us hK hl => match us, (show us.length = 3 by simpa using hl) with | [_, _, _], _ => .of_defaults rfl (hK _ _ t21) rfl rfl rfl
  have M_Editions_put : Mtd l.prog w K mg base (CX1 l.prog w) k_Editions "put" 7 ["self", "day", "entry", "number"] (bf (⟨k_Code, k_Book, k_Editions, k_CableError, k_NoCode, k_NoNumber, k_NoWord, k_NoEntry, k_Twice, k_TooMany, k_NoDay, k_cd, k_tb, k_cd1, k_tb1, ()⟩ : Ads)) := ⟨⟨f21, _, gY F21 T AF rfl M_Editions_note_change M_Book_put M_Book_choose M_Editions_is_barred M_Editions_check_change, ⟨a21, i21, k21⟩, b21⟩, AF.c_Editions⟩
  have D_Editions_put : zJ l.prog w K mg base (CX1 l.prog w) k_Editions "put" 7 ["self", "day", "entry", "number"] (bf (⟨k_Code, k_Book, k_Editions, k_CableError, k_NoCode, k_NoNumber, k_NoWord, k_NoEntry, k_Twice, k_TooMany, k_NoDay, k_cd, k_tb, k_cd1, k_tb1, ()⟩ : Ads)) := ⟨⟨f21, _, gY F21 T AF rfl M_Editions_note_change M_Book_put M_Book_choose M_Editions_is_barred M_Editions_check_change, ⟨a21, i21, k21⟩, bd21⟩, AF.c_Editions⟩
  have b23 := F23.binds (ps := ["self", "day"]) fun _ _ _ _ _ _ => L2.dZ fun _ _ => rfl
  have M_Editions_book : Mtd l.prog w K mg base (CX1 l.prog w) k_Editions "book" 7 ["self", "day"] (da (⟨k_Code, k_Book, k_Editions, k_CableError, k_NoCode, k_NoNumber, k_NoWord, k_NoEntry, k_Twice, k_TooMany, k_NoDay, k_cd, k_tb, k_cd1, k_tb1, ()⟩ : Ads)) := ⟨⟨f23, _, jY F23 T AF C_is_day M_Book_put M_Book_code K_Book, ⟨a23, i23, k23⟩, b23⟩, AF.c_Editions⟩
  have b41 := F41.binds (ps := ["_law_editions", "_law_deed"]) fun _ _ _ _ _ _ => L2.dZ fun _ _ => rfl
  have C_law_did : Fnc l.prog w K mg base (CX1 l.prog w) 8 "_law_did" ["_law_editions", "_law_deed"] (gU K (⟨k_Code, k_Book, k_Editions, k_CableError, k_NoCode, k_NoNumber, k_NoWord, k_NoEntry, k_Twice, k_TooMany, k_NoDay, k_cd, k_tb, k_cd1, k_tb1, ()⟩ : Ads)) := ⟨f41, _, sM F41 T AF M_Editions_strike M_Editions_put D_Editions_put, PySem.W.mg_of X G a41, k41, b41⟩
  exact Cn F42 T AF C_law_edition C_law_deeds C_law_cell_at C_law_whole C_law_kept C_law_did C_law_due C_law_pool C_law_mixed C_law_many C_law_code_parts M_Book_entries M_Editions_book M_Editions_last_day K_Editions K_Code
end Kb
open PySem PySem.W PyProof.Rows
set_option maxRecDepth 100000 in
set_option maxHeartbeats 0 in
theorem Hk.DP : Hk.top.c := by
  delta Hk.top
  dsimp only
  k_fill
  refine L2.wG (l := PySem.Challenge.rw_cablehouse_k35_editions_by_days) (n := 63) (k := 9) (x := "_law_script") (CX := fun w => L2.CX1 PySem.Challenge.rw_cablehouse_k35_editions_by_days.prog w) (sp := fun w => Kb.tj _ _ _) [(_, Kb.sy), (_, Kb.qQ)] rfl (by decide) rfl ⟨rfl, by decide, by decide⟩ (by decide +kernel) (fun w h Y => ⟨PySem.W.km_in_of Y, List.forall_mem_cons.mpr ⟨PySem.W.km_tabs_of Y _ (.tail _ (.head _)), List.forall_mem_cons.mpr ⟨PySem.W.km_tabs_of Y _ (.head _), fun _ h => nomatch h⟩⟩⟩) ?F (fun w => List.forall_mem_cons.mpr ⟨by kernel_rfl, List.forall_mem_cons.mpr ⟨by kernel_rfl, fun _ h => nomatch h⟩⟩) (fun _ _ a ns hl hS hT => ⟨a, ns, rfl, hS, hl, hT _ (.head _), hT _ (.tail _ (.head _)), fun _ => rfl⟩) fun _ _ _ _ _ z => L2.nN z
  case F =>
    intro w mg fa h KX G hmg
    refine' Kb.all_mk KX G hmg ?g_Code ?g_Book ?g_Editions ?g_CableError ?g_NoCode ?g_NoNumber ?g_NoWord ?g_NoEntry ?g_Twice ?g_TooMany ?g_NoDay ?a0 ?l0 ?c0 ?k0 ?a1 ?l1 ?c1 ?k1 ?a2 ?l2 ?c2 ?k2 ?a3 ?l3 ?c3 ?k3 ?a4 ?l4 ?c4 ?k4 ?a5 ?l5 ?c5 ?k5 ?a6 ?i6 ?l6 ?c6 ?k6 ?a7 ?i7 ?l7 ?c7 ?k7 ?a8 ?l8 ?c8 ?k8 ?a9 ?l9 ?c9 ?k9 ?a10 ?l10 ?c10 ?k10 ?a11 ?i11 ?l11 ?c11 ?k11 ?a12 ?i12 ?l12 ?c12 ?k12 ?a13 ?i13 ?l13 ?t13 ?c13 ?k13 ?a14 ?i14 ?l14 ?c14 ?k14 ?a15 ?i15 ?l15 ?c15 ?k15 ?a16 ?i16 ?l16 ?c16 ?k16 ?a17 ?i17 ?l17 ?c17 ?k17 ?a18 ?i18 ?l18 ?c18 ?k18 ?a19 ?l19 ?c19 ?k19 ?a20 ?i20 ?l20 ?c20 ?k20 ?a21 ?i21 ?l21 ?t21 ?c21 ?k21 ?a22 ?i22 ?l22 ?c22 ?k22 ?a23 ?i23 ?l23 ?c23 ?k23 ?a24 ?i24 ?l24 ?c24 ?k24 ?a25 ?i25 ?l25 ?c25 ?k25 ?a26 ?i26 ?l26 ?c26 ?k26 ?a27 ?i27 ?l27 ?c27 ?k27 ?a28 ?l28 ?c28 ?k28 ?a29 ?l29 ?c29 ?k29 ?a30 ?l30 ?c30 ?k30 ?a31 ?l31 ?c31 ?k31 ?a32 ?l32 ?c32 ?k32 ?a33 ?l33 ?c33 ?k33 ?a34 ?l34 ?c34 ?k34 ?a35 ?l35 ?c35 ?k35 ?a36 ?l36 ?c36 ?k36 ?a37 ?l37 ?c37 ?k37 ?a38 ?l38 ?c38 ?k38 ?a39 ?l39 ?c39 ?k39 ?a40 ?l40 ?c40 ?k40 ?a41 ?l41 ?c41 ?k41 ?a42 ?l42 ?c42 ?k42 ?pg_Code ?hd_Code ?po_Code ?sa_Code ?mk_Code ?kc_Code ?n_Code_letters ?n_Code_factors ?n_Code_remainder ?pg_Book ?hd_Book ?po_Book ?sa_Book ?mk_Book ?kc_Book ?n_Book_basis ?n_Book_by_number ?n_Book_by_entry ?pg_Editions ?hd_Editions ?po_Editions ?sa_Editions ?mk_Editions ?kc_Editions ?n_Editions_current ?n_Editions_changes ?n_Editions_struck ?n_Editions_latest ?q_NoCode ?q_NoNumber ?q_NoWord ?q_NoEntry ?q_Twice ?q_TooMany ?q_NoDay ?tab ?tab1 ?err ?ndx ?v_SMALL_LETTERS ?r_SMALL_LETTERS ?v_LONGEST_WORD ?r_LONGEST_WORD ?v_MOST_ENTRIES ?r_MOST_ENTRIES ?v_MOST_PHRASE_WORDS ?r_MOST_PHRASE_WORDS ?v_MOST_PART_LETTERS ?r_MOST_PART_LETTERS ?v_LATEST_DAY ?r_LATEST_DAY ?v_DAYS_BARRED ?r_DAYS_BARRED ?z_isinstance ?z_bool ?z_int ?z_abs ?z_all ?z_zip ?z_len ?z_set ?z_str ?z_list ?z_tuple ?z_sorted ?z_range ?z_min ?z_ValueError ?z_max
    (case g_Code => k_is)
    (case g_Book => k_is)
    (case g_Editions => k_is)
    (case g_CableError => k_is)
    (case g_NoCode => k_is)
    (case g_NoNumber => k_is)
    (case g_NoWord => k_is)
    (case g_NoEntry => k_is)
    (case g_Twice => k_is)
    (case g_TooMany => k_is)
    (case g_NoDay => k_is)
    (case a0 => k_is)
    (case l0 => k_is)
    (case c0 => k_is)
    (case k0 => k_is)
    (case a1 => k_is)
    (case l1 => k_is)
    (case c1 => k_is)
    (case k1 => k_is)
    (case a2 => k_is)
    (case l2 => k_is)
    (case c2 => k_is)
    (case k2 => k_is)
    (case a3 => k_is)
    (case l3 => k_is)
    (case c3 => k_is)
    (case k3 => k_is)
    (case a4 => k_is)
    (case l4 => k_is)
    (case c4 => k_is)
    (case k4 => k_is)
    (case a5 => k_is)
    (case l5 => k_is)
    (case c5 => k_is)
    (case k5 => k_is)
    (case a6 => k_is)
    (case i6 => k_is)
    (case l6 => k_is)
    (case c6 => k_is)
    (case k6 => k_is)
    (case a7 => k_is)
    (case i7 => k_is)
    (case l7 => k_is)
    (case c7 => k_is)
    (case k7 => k_is)
    (case a8 => k_is)
    (case l8 => k_is)
    (case c8 => k_is)
    (case k8 => k_is)
    (case a9 => k_is)
    (case l9 => k_is)
    (case c9 => k_is)
    (case k9 => k_is)
    (case a10 => k_is)
    (case l10 => k_is)
    (case c10 => k_is)
    (case k10 => k_is)
    (case a11 => k_is)
    (case i11 => k_is)
    (case l11 => k_is)
    (case c11 => k_is)
    (case k11 => k_is)
    (case a12 => k_is)
    (case i12 => k_is)
    (case l12 => k_is)
    (case c12 => k_is)
    (case k12 => k_is)
    (case a13 => k_is)
    (case i13 => k_is)
    (case l13 => k_is)
    (case t13 => k_is)
    (case c13 => k_is)
    (case k13 => k_is)
    (case a14 => k_is)
    (case i14 => k_is)
    (case l14 => k_is)
    (case c14 => k_is)
    (case k14 => k_is)
    (case a15 => k_is)
    (case i15 => k_is)
    (case l15 => k_is)
    (case c15 => k_is)
    (case k15 => k_is)
    (case a16 => k_is)
    (case i16 => k_is)
    (case l16 => k_is)
    (case c16 => k_is)
    (case k16 => k_is)
    (case a17 => k_is)
    (case i17 => k_is)
    (case l17 => k_is)
    (case c17 => k_is)
    (case k17 => k_is)
    (case a18 => k_is)
    (case i18 => k_is)
    (case l18 => k_is)
    (case c18 => k_is)
    (case k18 => k_is)
    (case a19 => k_is)
    (case l19 => k_is)
    (case c19 => k_is)
    (case k19 => k_is)
    (case a20 => k_is)
    (case i20 => k_is)
    (case l20 => k_is)
    (case c20 => k_is)
    (case k20 => k_is)
    (case a21 => k_is)
    (case i21 => k_is)
    (case l21 => k_is)
    (case t21 => k_is)
    (case c21 => k_is)
    (case k21 => k_is)
    (case a22 => k_is)
    (case i22 => k_is)
    (case l22 => k_is)
    (case c22 => k_is)
    (case k22 => k_is)
    (case a23 => k_is)
    (case i23 => k_is)
    (case l23 => k_is)
    (case c23 => k_is)
    (case k23 => k_is)
    (case a24 => k_is)
    (case i24 => k_is)
    (case l24 => k_is)
    (case c24 => k_is)
    (case k24 => k_is)
    (case a25 => k_is)
    (case i25 => k_is)
    (case l25 => k_is)
    (case c25 => k_is)
    (case k25 => k_is)
    (case a26 => k_is)
    (case i26 => k_is)
    (case l26 => k_is)
    (case c26 => k_is)
    (case k26 => k_is)
    (case a27 => k_is)
    (case i27 => k_is)
    (case l27 => k_is)
    (case c27 => k_is)
    (case k27 => k_is)
    (case a28 => k_is)
    (case l28 => k_is)
    (case c28 => k_is)
    (case k28 => k_is)
    (case a29 => k_is)
    (case l29 => k_is)
    (case c29 => k_is)
    (case k29 => k_is)
    (case a30 => k_is)
    (case l30 => k_is)
    (case c30 => k_is)
    (case k30 => k_is)
    (case a31 => k_is)
    (case l31 => k_is)
    (case c31 => k_is)
    (case k31 => k_is)
    (case a32 => k_is)
    (case l32 => k_is)
    (case c32 => k_is)
    (case k32 => k_is)
    (case a33 => k_is)
    (case l33 => k_is)
    (case c33 => k_is)
    (case k33 => k_is)
    (case a34 => k_is)
    (case l34 => k_is)
    (case c34 => k_is)
    (case k34 => k_is)
    (case a35 => k_is)
    (case l35 => k_is)
    (case c35 => k_is)
    (case k35 => k_is)
    (case a36 => k_is)
    (case l36 => k_is)
    (case c36 => k_is)
    (case k36 => k_is)
    (case a37 => k_is)
    (case l37 => k_is)
    (case c37 => k_is)
    (case k37 => k_is)
    (case a38 => k_is)
    (case l38 => k_is)
    (case c38 => k_is)
    (case k38 => k_is)
    (case a39 => k_is)
    (case l39 => k_is)
    (case c39 => k_is)
    (case k39 => k_is)
    (case a40 => k_is)
    (case l40 => k_is)
    (case c40 => k_is)
    (case k40 => k_is)
    (case a41 => k_is)
    (case l41 => k_is)
    (case c41 => k_is)
    (case k41 => k_is)
    (case a42 => k_is)
    (case l42 => k_is)
    (case c42 => k_is)
    (case k42 => k_is)
    (case pg_Code => k_is)
    (case hd_Code => k_is)
    (case po_Code => k_is)
    (case sa_Code => k_is)
    (case mk_Code => k_is)
    (case kc_Code => k_is)
    (case n_Code_letters => k_is)
    (case n_Code_factors => k_is)
    (case n_Code_remainder => k_is)
    (case pg_Book => k_is)
    (case hd_Book => k_is)
    (case po_Book => k_is)
    (case sa_Book => k_is)
    (case mk_Book => k_is)
    (case kc_Book => k_is)
    (case n_Book_basis => k_is)
    (case n_Book_by_number => k_is)
    (case n_Book_by_entry => k_is)
    (case pg_Editions => k_is)
    (case hd_Editions => k_is)
    (case po_Editions => k_is)
    (case sa_Editions => k_is)
    (case mk_Editions => k_is)
    (case kc_Editions => k_is)
    (case n_Editions_current => k_is)
    (case n_Editions_changes => k_is)
    (case n_Editions_struck => k_is)
    (case n_Editions_latest => k_is)
    (case q_NoCode => kernel_rfl)
    (case q_NoNumber => kernel_rfl)
    (case q_NoWord => kernel_rfl)
    (case q_NoEntry => kernel_rfl)
    (case q_Twice => kernel_rfl)
    (case q_TooMany => kernel_rfl)
    (case q_NoDay => kernel_rfl)
    (case tab => kernel_rfl)
    (case tab1 => kernel_rfl)
    (case err => kernel_rfl)
    (case ndx => kernel_rfl)
    (case v_SMALL_LETTERS => k_is)
    (case r_SMALL_LETTERS => exact ⟨_, rfl⟩)
    (case v_LONGEST_WORD => k_is)
    (case r_LONGEST_WORD => exact ⟨_, rfl⟩)
    (case v_MOST_ENTRIES => k_is)
    (case r_MOST_ENTRIES => exact ⟨_, rfl⟩)
    (case v_MOST_PHRASE_WORDS => k_is)
    (case r_MOST_PHRASE_WORDS => exact ⟨_, rfl⟩)
    (case v_MOST_PART_LETTERS => k_is)
    (case r_MOST_PART_LETTERS => exact ⟨_, rfl⟩)
    (case v_LATEST_DAY => k_is)
    (case r_LATEST_DAY => exact ⟨_, rfl⟩)
    (case v_DAYS_BARRED => k_is)
    (case r_DAYS_BARRED => exact ⟨_, rfl⟩)
    (case z_isinstance => k_is)
    (case z_bool => k_is)
    (case z_int => k_is)
    (case z_abs => k_is)
    (case z_all => k_is)
    (case z_zip => k_is)
    (case z_len => k_is)
    (case z_set => k_is)
    (case z_str => k_is)
    (case z_list => k_is)
    (case z_tuple => k_is)
    (case z_sorted => k_is)
    (case z_range => k_is)
    (case z_min => k_is)
    (case z_ValueError => k_is)
    (case z_max => k_is)
theorem PySem.Challenge.cw_cablehouse_k35_editions_by_days_holds : PySem.Challenge.rw_cablehouse_k35_editions_by_days.Holds :=
  Hk.top.go Hk.DE Hk.DF Hk.DH Hk.DI Hk.DJ Hk.DL Hk.DM Hk.DN Hk.DO Hk.DQ Hk.DP
