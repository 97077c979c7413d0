import PyProof.Rows.All
import Wide.All
import OpenK.AllK
import Wide.FinOn
import Lean
import PyProof.EqAt
import PyProof.EqKinds
import PyProof.TupleCall
import PySem.Challenge.RW_cablehouse_k19_whole_set_and_said
set_option Elab.async false
set_option linter.all false
set_option maxRecDepth 100000
namespace Hd
open PySem PySem.W PyProof.Rows
theorem keep3 {b1 b2 b3 a : Prop} (main : a) (hl : b1) (hw : b2) (hc : b3) : a := main
structure Top (r : Prop) where
  l1 : Prop
  l2 : Prop
  l3 : Prop
  h : Prop
  c : Prop
  go : l1 → l2 → l3 → h → c → r
/-- the same, what is seen in six parts -/
structure TopS (r : Prop) where
  l1 : Prop
  l2 : Prop
  l3 : Prop
  l4 : Prop
  l5 : Prop
  l6 : Prop
  l7 : Prop
  l8 : Prop
  h : Prop
  c : Prop
  go : l1 → l2 → l3 → l4 → l5 → l6 → l7 → l8 → h → c → r
def tree : List Obj → Nat → BT → BT
  | [], _, t => t
  | o :: l, n, t => tree l (n + 1) (t.ins n o)
def goT (st : SharedT → Thread → Option (SharedT × Thread)) (ok : Thread → Bool) : Nat → SharedT → Thread → Option SharedT
  | 0, _, _ => none
  | n + 1, s, t => match through t with
    | true => some s
    | false => match ok t with
      | false => none
      | true => match st s t with
        | some (s', t') => goT st ok n s' t'
        | none => none
theorem goT_of {tb : String → Option Builtin} {p : Program} {w : World} {n₀ : Nat} {ann : Option Value} : ∀ {n : Nat} {s s' : SharedT} {t : Thread}, goT (stepT (denote tb) p w) (stepOk n₀ ann) n s t = some s' → topRun tb p w n₀ ann n s.abs t = some s'.abs
  | 0, _, _, _, h => nomatch h
  | n + 1, s, s', t, h => by
    unfold goT at h
    unfold topRun
    cases ht : through t with
    | true => rw [ht] at h; cases h; rfl
    | false =>
      rw [ht] at h
      cases hk : stepOk n₀ ann t with
      | false => rw [hk] at h; cases h
      | true =>
        rw [hk] at h
        cases hs : stepT (denote tb) p w s t with
        | none => rw [hs] at h; cases h
        | some r => obtain ⟨s₂, t₂⟩ := r; rw [hs] at h; rw [stepT_spec hs]; exact goT_of h
/-- the state behind the boot, its heap as a tree -/
noncomputable def boot (w : World) (os : OsState) : SharedT := ⟨tree (boot_heap w.params).objs.toList 0 .nil, (boot_heap w.params).objs.size, (boot_heap w.params).life, #[], boot_drawn, boot_toks, os⟩
/-- the run of the top behind the boot -/
noncomputable def ran (p : Program) (N : Nat) (w : World) (os : OsState) : Option SharedT := goT (stepT (denote treeTable) p w) (stepOk 11 (some (.ref 6))) N (boot w os) (topStub p)
theorem boot_tree (P : Params) : absHeap (tree (boot_heap P).objs.toList 0 .nil) (boot_heap P).objs.size (boot_heap P).life = boot_heap P := by kernel_rfl
theorem boot_size (P : Params) : ((boot_heap P).isNs mainGlobals, (boot_heap P).objs.size, (boot_heap P).nsMap mainGlobals "__annotations__") = (true, 11, some (.ref 6)) := by kernel_rfl
/-- what is seen behind the run, in six parts, each by itself -/
theorem six {σ α β γ δ ε ζ η θ ι : Type} {x : World → OsState → Option σ} {f1 : σ → α} {f2 : σ → β} {f3 : σ → γ} {f4 : σ → δ} {f5 : σ → ε} {f6 : σ → ζ} {f7 : σ → η} {f8 : σ → θ} {f9 : σ → ι} {g1 : α} {g2 : β} {g3 : γ} {g4 : δ} {g5 : ε} {g6 : ζ} {g7 : η} {g8 : θ} {g9 : ι}
    (h1 : ∀ w os, (x w os).map (fun s => f1 s) = some g1) (h2 : ∀ w os, (x w os).map (fun s => (f2 s, f3 s)) = some (g2, g3)) (h3 : ∀ w os, (x w os).map (fun s => (f4 s, f5 s)) = some (g4, g5)) (h4 : ∀ w os, (x w os).map (fun s => f6 s) = some g6)
    (h5 : ∀ w os, (x w os).map (fun s => (f7 s, f8 s)) = some (g7, g8)) (h6 : ∀ w os, (x w os).map (fun s => f9 s) = some g9) : ∀ w os, (x w os).map (fun s => (f1 s, f2 s, f3 s, f4 s, f5 s, f6 s, f7 s, f8 s, f9 s)) = some (g1, g2, g3, g4, g5, g6, g7, g8, g9) := fun w os => by
  obtain ⟨s, e, e1⟩ := Option.map_eq_some_iff.mp (h1 w os)
  have e2 := h2 w os
  have e3 := h3 w os
  have e4 := h4 w os
  have e5 := h5 w os
  have e6 := h6 w os
  rw [e] at e2 e3 e4 e5 e6 ⊢
  have e2 := Option.some.inj e2
  have e3 := Option.some.inj e3
  have e4 := Option.some.inj e4
  have e5 := Option.some.inj e5
  have e6 := Option.some.inj e6
  simp only [Prod.mk.injEq] at e2 e3 e5
  exact congrArg some (Prod.ext e1 (Prod.ext e2.1 (Prod.ext e2.2 (Prod.ext e3.1 (Prod.ext e3.2 (Prod.ext e4 (Prod.ext e5.1 (Prod.ext e5.2 e6))))))))
theorem left {p q : Program} {loose : List Str} {Xt : Shared → Bool} {α : Type} {Yf : Shared → α} {Ya : World → α} {N : Nat} {g0 : Bool}
    (e : opening p = plainProg p.main.scope.names) (hN : Nat.ble 600 N = true) (f : ∀ s, fenceModules? p s = some s)
    (r1 : ∀ w os, (ran p N w os).map (fun s => staticsOk (importedModules p.main.body) (boot_heap w.params) s.abs.heap && namesBound p s.abs.heap && gensDone s.abs && laidKept (boot_heap w.params) s.abs.heap) = some true)
    (r2 : ∀ w os, (ran p N w os).map (fun s => openSeen q loose (importedModules p.main.body) Xt g0 s.abs) = some (openGood q loose))
    (r3 : ∀ w os, (ran p N w os).map (fun s => Yf s.abs) = some (Ya w)) : LeftO p q loose Xt Yf Ya N g0 := fun w => by
  obtain ⟨⟨h, gs, d, k, os⟩, e, e'⟩ := Option.map_eq_some_iff.mp (boot_open e hN f w)
  obtain ⟨rfl, rfl, rfl, rfl⟩ : h = boot_heap w.params ∧ gs = #[] ∧ d = boot_drawn ∧ k = boot_toks := by simpa using e'
  obtain ⟨z1, z2, z3⟩ : _ ∧ _ ∧ _ := by simpa only [Prod.mk.injEq] using boot_size w.params
  obtain ⟨s', r, l1⟩ := Option.map_eq_some_iff.mp (r1 w os)
  have l2 := r2 w os
  have l3 := r3 w os
  rw [r] at l2 l3
  have l2 := Option.some.inj l2
  have l3 := Option.some.inj l3
  unfold ran at r
  have r := goT_of r
  have hB : (boot w os).abs = ⟨boot_heap w.params, #[], boot_drawn, boot_toks, os⟩ := by
    unfold boot SharedT.abs
    rw [boot_tree]
  rw [hB] at r
  have t : topFrom treeTable p w N ⟨boot_heap w.params, #[], boot_drawn, boot_toks, os⟩ = some s'.abs := by
    unfold topFrom
    dsimp only
    rw [z1, z2, z3, r]
    show (match staticsOk (importedModules p.main.body) (boot_heap w.params) s'.abs.heap && namesBound p s'.abs.heap && gensDone s'.abs && laidKept (boot_heap w.params) s'.abs.heap with | true => _ | false => _) = _
    rw [l1]
  unfold openEnds
  rw [e]
  show (topFrom treeTable p w N _).map _ = _
  rw [t]
  exact congrArg some (Prod.ext l2 l3)
/-- the same run by the library's quick twins -/
theorem ran_eq : @ran = fun p N w os => goT (PySem.W.Fast.tw10156331382660048174 (denote PySem.W.Fast.tw14364793385576792824) p w) (PySem.W.Fast.tw6613529449190102663 11 (some (.ref 6))) N (boot w os) (topStub p) := by
  unfold ran
  rw [PySem.W.Fast.te10156331382660048174, PySem.W.Fast.te6613529449190102663, PySem.W.Fast.te14364793385576792824]
end Hd

section
open PySem PySem.W PyProof.Rows
set_option maxHeartbeats 0
noncomputable def Hk.top : Hd.TopS PySem.Challenge.rw_cablehouse_k19_whole_set_and_said.Holds := by
  apply Hd.TopS.mk
  case go =>
    intro x1 x2 x3 x4 x5 x6 x7 x8 y z
    w_on; o_law
    apply Hd.keep3
    case main => k_head
    case hl => exact Hd.left (by kernel_rfl) (by decide) (fun _ => by kernel_rfl) x1 (Hd.six x2 x4 x5 x6 x7 x8) x3
    case hw => exact y
    case hc => exact z
theorem Hk.Eh : Hk.top.l1 := by
  delta Hk.top
  dsimp only
  intro w os
  rw [Hd.ran_eq]
  kernel_rfl
theorem Hk.Ei : Hk.top.l2 := by
  delta Hk.top
  dsimp only
  intro w os
  rw [Hd.ran_eq]
  kernel_rfl
theorem Hk.Ej : Hk.top.l3 := by
  delta Hk.top
  dsimp only
  intro w os
  rw [Hd.ran_eq]
  kernel_rfl
theorem Hk.Ek : Hk.top.l4 := by
  delta Hk.top
  dsimp only
  intro w os
  rw [Hd.ran_eq]
  kernel_rfl
theorem Hk.El : Hk.top.l5 := by
  delta Hk.top
  dsimp only
  intro w os
  rw [Hd.ran_eq]
  kernel_rfl
theorem Hk.Em : Hk.top.l6 := by
  delta Hk.top
  dsimp only
  intro w os
  rw [Hd.ran_eq]
  kernel_rfl
theorem Hk.En : Hk.top.l7 := by
  delta Hk.top
  dsimp only
  intro w os
  rw [Hd.ran_eq]
  kernel_rfl
theorem Hk.Eo : Hk.top.l8 := by
  delta Hk.top
  dsimp only
  intro w os
  rw [Hd.ran_eq]
  kernel_rfl
theorem Hk.Er : Hk.top.h := by
  delta Hk.top
  dsimp only
  w_witness2
end
-- CHANGE: your row's module here,as the last of these rows
set_option Elab.async false
set_option linter.all false
set_option maxRecDepth 100000
namespace L2
open PySem PySem.Spec PyProof.Rows

abbrev Key:=Sum Int Str
def j5:Key->Value->Bool
 | .inl k,v=>Value.isInt k v
 | .inr x,v=>Value.isStrOf x v
def E3 (w:World):Key->Int
 | .inl k=>hashInt k
 | .inr x=>hashStr w x
theorem bF:∀ {k:Key}{v:Value},j5 k v=true->(∃ i t,k=Sum.inl i/\v=Value.int i t) ∨ (∃ x t,k=Sum.inr x/\v=Value.str x t)
 | .inl i,v,h=>by
  obtain ⟨t,e⟩:=Value.isInt_shape (k:=i) (v:=v) h
  exact .inl ⟨i,t,rfl,e⟩
 | .inr x,v,h=>by
  obtain ⟨t,e⟩:=Value.isStrOf_shape (x:=x) (v:=v) h
  exact .inr ⟨x,t,rfl,e⟩
theorem wM (i:Int) (t:Tok):j5 (.inl i) (.int i t)=true:=by simp [j5,Value.isInt]
theorem oB (x:Str) (t:Tok):j5 (.inr x) (.str x t)=true:=by simp [j5,Value.isStrOf]
theorem Cz (a b:Int):decide ((Sum.inl a:Key)=Sum.inl b)=(a == b):=by
 by_cases e:a=b
 ·subst e;simp
 ·have h:¬ (Sum.inl a:Key)=Sum.inl b:=fun q=>e (Sum.inl.inj q)
  rw [decide_eq_false h]
  exact (beq_eq_false_iff_ne.mpr e).symm
theorem C7 (a b:Str):decide ((Sum.inr a:Key)=Sum.inr b)=decide (a=b):=by
 by_cases e:a=b
 ·subst e;simp
 ·have h:¬ (Sum.inr a:Key)=Sum.inr b:=fun q=>e (Sum.inr.inj q)
  rw [decide_eq_false h,decide_eq_false e]
theorem C3 (a:Int) (b:Str):decide ((Sum.inl a:Key)=Sum.inr b)=false:=decide_eq_false (fun q=>nomatch q)
theorem C5 (a:Str) (b:Int):decide ((Sum.inr a:Key)=Sum.inl b)=false:=decide_eq_false (fun q=>nomatch q)

def aP (prog:Program) (w:World):PySem.KeyKind prog w Key where
 is:=j5
 hash:=E3 w
 inj:=fun v a b ha hb=>by
  rcases bF ha with ⟨i,t,rfl,rfl⟩ | ⟨x,t,rfl,rfl⟩
  ·rcases bF hb with ⟨j,u,rfl,e⟩ | ⟨y,u,rfl,e⟩
   ·injection e with e1 _;rw [e1]
   ·exact nomatch e
  ·rcases bF hb with ⟨j,u,rfl,e⟩ | ⟨y,u,rfl,e⟩
   ·exact nomatch e
   ·injection e with e1 _;rw [e1]
 byValue:=fun k v h=>by
  rcases bF h with ⟨i,t,rfl,rfl⟩ | ⟨x,t,rfl,rfl⟩ <;> rfl
 pyHash:=fun hv h=>by
  rcases bF hv with ⟨i,t,rfl,rfl⟩ | ⟨x,t,rfl,rfl⟩
  ·exact wpAny_pyHash_int h
  ·exact wpAny_pyHash_str h
 eqBool:=fun hu hv h=>by
  rcases bF hu with ⟨i,t,rfl,rfl⟩ | ⟨x,t,rfl,rfl⟩
  ·rcases bF hv with ⟨j,u,rfl,rfl⟩ | ⟨y,u,rfl,rfl⟩
   ·rw [Cz] at h;exact wpAny_eqBool_int h
   ·rw [C3] at h;exact SeqAt.EqAt.int_str i t y u _ _ _ _ h
  ·rcases bF hv with ⟨j,u,rfl,rfl⟩ | ⟨y,u,rfl,rfl⟩
   ·rw [C5] at h;exact SeqAt.EqAt.str_int x t j u _ _ _ _ h
   ·rw [C7] at h;exact wpAny_eqBool_str h
 «strs»:=fun k x t v h=>by
  rcases bF h with ⟨i,u,rfl,e⟩ | ⟨y,u,rfl,e⟩
  ·exact nomatch e
  ·injection e with e1 _
   subst e1
   cases v <;> rfl

theorem rB (prog:Program) (w:World) (i:Int) (t:Tok):(aP prog w).is (.inl i) (.int i t)=true:=wM i t
theorem rC (prog:Program) (w:World) (x:Str) (t:Tok):(aP prog w).is (.inr x) (.str x t)=true:=oB x t
end L2

namespace L2
open PySem PySem.Spec PyProof.Rows

inductive V where
 | non | bl (b:Bool) | int (i:Int) | str (x:Str) | byt (b:Array UInt8) | flt (b:UInt64) | ref (a:Addr) | ty (n:String)
 deriving DecidableEq

def RelV:V->Value->Prop
 | .non,u=>u=Value.none
 | .bl b,u=>u=Value.bool b
 | .int i,u=>∃ t,u=Value.int i t
 | .str x,u=>∃ t,u=Value.str x t
 | .byt b,u=>∃ t,u=Value.bytes b t
 | .flt b,u=>∃ t,u=Value.float b t
 | .ref a,u=>u=Value.ref a
 | .ty n,u=>u=Value.type n

abbrev Vals:List V->List Value->Prop:=Paired RelV
theorem Vals.length {xs:List V}{us:List Value} (r:Vals xs us):xs.length=us.length:=Paired.length r
theorem Vals.get:∀ {xs:List V}{us:List Value}{i:Nat}{x:V},Vals xs us->xs[i]?=some x->∃ u,us[i]?=some u/\RelV x u
 | _,_,_,_,.nil,e=>by simp at e
 | _,_,0,_,.cons r _,e=>by simp at e;subst e;exact ⟨_,rfl,r⟩
 | _,_,i + 1,x,.cons _ t,e=>by
  obtain ⟨u,h1,h2⟩:=Vals.get (i:=i) (x:=x) t (by simpa using e)
  exact ⟨u,by simpa using h1,h2⟩
theorem Vals.set {x:V}{u:Value} (r:RelV x u):∀ {xs:List V}{us:List Value} (i:Nat),Vals xs us->Vals (xs.set i x) (us.set i u)
 | _,_,_,.nil=>.nil
 | _,_,0,.cons _ t=>.cons r t
 | _,_,i + 1,.cons q t=>.cons q (Vals.set r i t)
theorem Vals.append:∀ {xs ys:List V}{us ws:List Value},Vals xs us->Vals ys ws->Vals (xs++ys) (us++ws)
 | _,_,_,_,.nil,s=>s
 | _,_,_,_,.cons r t,s=>.cons r (Vals.append t s)
theorem Vals.take:∀ {xs:List V}{us:List Value} (n:Nat),Vals xs us->Vals (xs.take n) (us.take n)
 | _,_,0,_=>.nil
 | _,_,_ + 1,.nil=>.nil
 | _,_,n + 1,.cons r t=>.cons r (Vals.take n t)
theorem Vals.drop:∀ {xs:List V}{us:List Value} (n:Nat),Vals xs us->Vals (xs.drop n) (us.drop n)
 | _,_,0,r=>r
 | _,_,_ + 1,.nil=>.nil
 | _,_,n + 1,.cons _ t=>Vals.drop n t
theorem Vals.none_of:∀ {xs:List V}{us:List Value}{i:Nat},Vals xs us->xs[i]?=none->us[i]?=none:=fun {xs us i} r e=>by
 have h1:=r.length
 have h2:xs.length<=i:=List.getElem?_eq_none_iff.mp e
 exact List.getElem?_eq_none_iff.mpr (by omega)

def ig:Option V->Option Value->Prop
 | some v,some u=>RelV v u
 | none,none=>True
 | _,_=>False
def KV {κ:Type}:List (κ × V)->List (κ × Value)->Prop:=Paired fun (p:κ × V) (q:κ × Value)=>p.1=q.1/\RelV p.2 q.2

def kV:Key->V
 | .inl i=>.int i
 | .inr x=>.str x

inductive HO where
 /-- a list -/
 | lst (xs:List V)
 /-- a tuple (never changes) -/
 | tup (xs:List V)
 /-- a dict whose keys are ints and texts;one whose keys are tuples of ints and texts (the empty one is both) -/
 | dK (kvs:List (Key × V)) | dT (kvs:List (List Key × V))
 /-- a set of ints: its members,its size -/
 | set (S:Int->Bool) (n:Nat)
 /-- an instance of the class at C,its dict at dx,its attributes -/
 | ins (C dx:Addr) (fs:List (Str × V))
 /-- the dict of the instance at x -/
 | own (x:Addr)
 /-- the dict of an exception -/
 | xd (fs:List (Str × V))
 /-- a bound method,f of x -/
 | met (f x:Addr)
 /-- a range object lo,lo + 1,.. below hi -/
 | rng (lo hi:Int)
 /-- a thing that is known to the object (the script;a dict while a loop walks it): read,never written while it is so -/
 | frz (o:Obj) (u:HO)
 /-- a code object's table -/
 | tbl (ps:Array Value)
 /-- any other thing,by what is true of its one object (a def of one's own: SetO a S n:=HO.ext fun h=>..) -/
 | ext (φ:Heap->Prop)

abbrev Hp:=Addr->Option HO
def upd (H:Hp) (a:Addr) (o:HO):Hp:=fun b=>if b=a then some o else H b
theorem ay {H:Hp}{a:Addr}{o:HO}:upd H a o a=some o:=by unfold upd;rw [if_pos rfl]
theorem av {H:Hp}{a b:Addr}{o:HO} (h:b≠a):upd H a o b=H b:=by unfold upd;rw [if_neg h]
theorem kM {H:Hp}{a b:Addr}{o u:HO} (h:H a=some o) (h':H b=some u) (d:o≠u):a≠b:=by
 intro e;subst e;rw [h] at h';exact d (Option.some.inj h')
theorem aO {H:Hp}{a b:Addr}{o:HO} (h:H a=some o) (h':H b=none):a≠b:=by
 intro e;subst e;rw [h] at h';cases h'

section
variable (P:Program) (w:World)
def aX (H:Hp) (h:Heap) (a:Addr):HO->Prop
 | .lst xs=>xs.length<=sizeLine/\∃ (its:List Value) (n:Nat),Vals xs its/\h.get? a=some { cls:=.type "list",data:=.seq its.toArray n }
 | .tup xs=>xs.length<=sizeLine/\∃ its:List Value,Vals xs its/\IsTup h a its.toArray
 | .dK kvs=>kvs.length<=sizeLine/\(a == sysModules)=false/\∃ vs,KV kvs vs/\h.DictOf (aP P w) a vs
 | .dT kvs=>kvs.length<=sizeLine/\(a == sysModules)=false/\∃ xs:List (List Key × Addr × Value),
   Paired (fun (p:List Key × V) (q:List Key × Addr × Value)=>p.1=q.1/\H q.2.1=some (.tup (p.1.map kV))/\RelV p.2 q.2.2) kvs xs ∧
   ∃ o es ep,h.get? a=some o/\o.ExactDict/\o.data=.dict es ep/\es.toList=xs.map (entryOfKey (tupleKind (aP P w)))/\(xs.map (·.1)).Nodup
 | .set S n=>h.SetOf (intKind P w) a S n
 | .ins C dx fs=>H dx=some (.own a)/\fs.length<=1000/\dx≠a/\h.get? a=some (PySem.W.instObj C dx) ∧
   ∃ mA,h.Ns1 dx mA/\(∀ f,ig (fs.lookup f) (mA f))/\PySem.Within mA (fs.map (·.1))
 | .own _=>∃ o,h.get? a=some o
 | .xd fs=>∃ mA,h.Ns1 a mA/\∀ f,ig (fs.lookup f) (mA f)
 | .rng lo hi=>∃ t u v,h.get? a=some { cls:=.type "range",data:=.fields #[.int lo t,.int hi u,.int 1 v] }
 | .frz o u=>h.get? a=some o/\aX H h a u
 | .tbl ps=>∃ qs:Array Value,h.get? a=some { cls:=.none,data:=.fields qs }/\TriplesOk qs.toList/\∀ pos c,codeAmong pos qs.toList=some c->∃ c' oc vs t q,c=.ref c'/\H c'=some (.frz oc (.own a))/\oc.data=.fields vs/\vs[1]?=some (.str q t)/\ps=#[.str q 0]
 | .met f x=>h.get? a=some (PySem.W.methodObj (.ref f) (.ref x))
 | .ext φ=>φ h/\(∃ o,h.get? a=some o)/\∀ h1 h2:Heap,φ h1->(∀ o,h1.get? a=some o->h2.get? a=some o)->φ h2
def HOk (H:Hp) (h:Heap):Prop:=∀ a o,H a=some o->aX P w H h a o
end

section
variable {P:Program}{w:World}{H H':Hp}{h h':Heap}{a:Addr}{o:HO}
theorem aX.lt (x:aX P w H h a o):a < h.objs.size:=by
 cases o with
 | lst xs=>obtain ⟨_,_,_,_,e⟩:=x;exact Heap.lt_size e
 | tup xs=>obtain ⟨_,_,_,p⟩:=x;exact p.lt
 | dK kvs=>obtain ⟨_,_,_,_,o,_,_,e,_⟩:=x;exact Heap.lt_size e
 | dT kvs=>obtain ⟨_,_,_,_,o,_,_,e,_⟩:=x;exact Heap.lt_size e
 | set S n=>obtain ⟨o,_,_,_,e,_⟩:=x;exact Heap.lt_size e
 | ins C dx fs=>obtain ⟨_,_,_,e,_⟩:=x;exact Heap.lt_size e
 | own y=>obtain ⟨_,e⟩:=x;exact Heap.lt_size e
 | xd fs=>obtain ⟨_,⟨_,_,_,e,_⟩,_⟩:=x;exact Heap.lt_size e
 | rng lo hi=>obtain ⟨_,_,_,e⟩:=x;exact Heap.lt_size e
 | frz ob u=>obtain ⟨e,_⟩:=x;exact Heap.lt_size e
 | tbl ps=>obtain ⟨_,e,_⟩:=x;exact Heap.lt_size e
 | met f y=>exact Heap.lt_size (show h.get? a=some _ from x)
 | ext φ=>obtain ⟨_,⟨_,e⟩,_⟩:=x;exact Heap.lt_size e
theorem Paired.CF {α β:Type}{F G:α->β->Prop}:∀ {l₁:List α}{l₂:List β},Paired F l₁ l₂->(∀ a b,F a b->G a b)->Paired G l₁ l₂
 | _,_,.nil,_=>.nil
 | _,_,.cons r t,f=>.cons (f _ _ r) (Paired.CF t f)
theorem aX.iP (x:aX P w H h a o) (k:∀ b u,(b=a ∨ H b=some (.own a))->h.get? b=some u->h'.get? b=some u)
  (ho:∀ b,H b=some (.own a)->H' b=some (.own a)) (ht:∀ b xs,H b=some (.tup xs)->H' b=some (.tup xs))
  (hf:∀ b ob u,H b=some (.frz ob u)->H' b=some (.frz ob u):=by first | exact fun _ _ _ q=>q | exact fun c ob u q=>(av (aO q (by assumption))).trans q):aX P w H' h' a o:=by
 induction o with
 | lst xs=>obtain ⟨z,its,n,r,e⟩:=x;exact ⟨z,its,n,r,k _ _ (.inl rfl) e⟩
 | tup xs=>obtain ⟨z,its,r,ob,e,c⟩:=x;exact ⟨z,its,r,ob,k _ _ (.inl rfl) e,c⟩
 | dK kvs=>obtain ⟨z,y,vs,r,ob,es,ep,e,c⟩:=x;exact ⟨z,y,vs,r,ob,es,ep,k _ _ (.inl rfl) e,c⟩
 | dT kvs =>
  obtain ⟨z,y,xs,r,ob,es,ep,e,c⟩:=x
  exact ⟨z,y,xs,Paired.CF r fun p q z=>⟨z.1,ht _ _ z.2.1,z.2.2⟩,ob,es,ep,k _ _ (.inl rfl) e,c⟩
 | set S n=>obtain ⟨ob,es,ep,t,e,c⟩:=x;exact ⟨ob,es,ep,t,k _ _ (.inl rfl) e,c⟩
 | ins C dx fs =>
  obtain ⟨d,z,ne,e,mA,⟨od,es,ep,e2,c⟩,r⟩:=x
  exact ⟨ho _ d,z,ne,k _ _ (.inl rfl) e,mA,⟨od,es,ep,k _ _ (.inr d) e2,c⟩,r⟩
 | own y=>obtain ⟨ob,e⟩:=x;exact ⟨ob,k _ _ (.inl rfl) e⟩
 | xd fs=>obtain ⟨mA,⟨od,es,ep,e,c⟩,r⟩:=x;exact ⟨mA,⟨od,es,ep,k _ _ (.inl rfl) e,c⟩,r⟩
 | rng lo hi=>obtain ⟨t,u,v,e⟩:=x;exact ⟨t,u,v,k _ _ (.inl rfl) e⟩
 | frz ob u ih=>obtain ⟨e,q⟩:=x;exact ⟨k _ _ (.inl rfl) e,ih q⟩
 | tbl ps =>
  obtain ⟨qs,e,t,z⟩:=x
  refine ⟨qs,k a _ (.inl rfl) e,t,fun pos c q=>?_⟩
  obtain ⟨c',oc,vs,tk,qq,h1,h2,h3⟩:=z pos c q
  exact ⟨c',oc,vs,tk,qq,h1,hf _ _ _ h2,h3⟩
 | met f y =>
  have e:h.get? a=some (PySem.W.methodObj (.ref f) (.ref y)):=x
  show h'.get? a=some (PySem.W.methodObj (.ref f) (.ref y))
  exact k a _ (.inl rfl) e
 | ext φ=>obtain ⟨p,⟨o,e⟩,st⟩:=x;exact ⟨st _ _ p fun o q=>k _ _ (.inl rfl) q,⟨o,k _ _ (.inl rfl) e⟩,st⟩
theorem HOk.lt (x:HOk P w H h) (e:H a=some o):a < h.objs.size:=(x a o e).lt
theorem HOk.fresh (x:HOk P w H h) (e:h.objs.size<=a):H a=none:=by
 cases q:H a with
 | none=>rfl
 | some u=>exact absurd (Nat.lt_of_lt_of_le (x.lt q) e) (Nat.lt_irrefl _)
theorem HOk.kept (x:HOk P w H h) (k:∀ b u,h.get? b=some u->h'.get? b=some u):HOk P w H h':=fun a o e =>
 (x a o e).iP (fun b u _ q=>k b u q) (fun _ q=>q) fun _ _ q=>q
theorem HOk.laid (x:HOk P w H h) (k:∀ b u,h.get? b=some u->h'.get? b=some u) (hp:h.objs.size<=a) (new:aX P w (upd H a o) h' a o):HOk P w (upd H a o) h':=fun b u e=>by
 have hn:=x.fresh hp
 by_cases hb:b=a
 ·subst hb;rw [ay] at e;cases e;exact new
 ·rw [av hb] at e
  exact (x b u e).iP (fun c v _ q=>k c v q) (fun c q=>by rw [av (aO q hn)];exact q) fun c xs q=>by rw [av (aO q hn)];exact q
end

def Rd (H:Hp) (a:Addr) (u:HO):Prop:=H a=some u ∨ ∃ o,H a=some (.frz o u)
theorem Rd.of {H:Hp}{a:Addr}{u:HO} (h:H a=some u):Rd H a u:=.inl h
theorem Rd.ok {P:Program}{w:World}{H:Hp}{h:Heap}{a:Addr}{u:HO} (r:Rd H a u) (x:HOk P w H h):aX P w H h a u:=by
 rcases r with r | ⟨o,r⟩
 ·exact x a u r
 ·obtain ⟨_,q⟩:=x a _ r
  exact q
def Mut:Option HO->Prop
 | some (.lst _)=>True
 | some (.dK _)=>True
 | some (.dT _)=>True
 | some (.set _ _)=>True
 | some (.ins _ _ _)=>True
 | some (.ext _)=>True
 | _=>False
section
variable {P:Program}{w:World}{H:Hp}{h h':Heap}{x e:Addr}{o':HO}
theorem HOk.write (ok:HOk P w H h) (mu:Mut (H x)) (he:e=x ∨ H e=some (.own x)) (k:∀ b u,b≠e->h.get? b=some u->h'.get? b=some u) (heo:∃ u,h'.get? e=some u)
  (new:aX P w (upd H x o') h' x o'):HOk P w (upd H x o') h':=fun b u q=>by
 have nown:∀ c y,H c=some (.own y)->c≠x:=fun c y r z=>by subst z;rw [r] at mu;exact mu
 have ntup:∀ c xs,H c=some (.tup xs)->c≠x:=fun c xs r z=>by subst z;rw [r] at mu;exact mu
 by_cases hb:b=x
 ·subst hb;rw [ay] at q;cases q;exact new
 ·rw [av hb] at q
  by_cases hbe:b=e
  ·have q':H b=some (.own x):=by
    rcases he with z | z
    ·exact absurd (hbe.trans z) hb
    ·rw [hbe];exact z
   rw [q] at q';cases q'
   obtain ⟨v,hv⟩:=heo
   exact ⟨v,by rw [hbe];exact hv⟩
  ·refine (ok b u q).iP (fun c v hc r=>k c v ?_ r) (fun c r=>by rw [av (nown c b r)];exact r) (fun c xs r=>by rw [av (ntup c xs r)];exact r) fun c ob u r=>(av (fun z=>by subst z;rw [r] at mu;exact mu)).trans r
   rcases hc with rfl | hc
   ·exact hbe
   ·rintro rfl
    rcases he with z | z
    ·exact nown c b hc z
    ·rw [hc] at z;cases z;exact hb rfl
end

structure Un (fs ex:List Addr) (H H':Hp) (h h':Heap):Prop where
 keep:∀ b o,h.get? b=some o->H b=none->b ∉ fs->b ∉ ex->h'.get? b=some o
 slot:∀ b o,h.get? b=some o->H b=none->b∈fs->b ∉ ex->∃ sl,h'.get? b=some { o with slots:=sl }
 free:∀ b o,h.get? b=some o->H b=none->b ∉ ex->H' b=none
 there:∀ b o,h.get? b=some o->b ∉ ex->∃ o',h'.get? b=some o'
 tups:∀ b xs,H b=some (.tup xs)->H' b=some (.tup xs)
 frzs:∀ b o u,H b=some (.frz o u)->H' b=some (.frz o u)
 tbls:∀ b ps,H b=some (.tbl ps)->∃ more,H' b=some (.tbl (ps++more))
section
variable {fs fs' ex ex':List Addr}{H H1 H2:Hp}{h h1 h2 h':Heap}{a x e:Addr}{o:HO}
theorem Un.any (u:Un fs ex H H1 h h1) {b:Addr}{ob:Obj} (q:h.get? b=some ob) (n:H b=none) (hx:b ∉ ex):∃ sl,h1.get? b=some { ob with slots:=sl }:=by
 by_cases hb:b∈fs
 ·exact u.slot b ob q n hb hx
 ·exact ⟨ob.slots,u.keep b ob q n hb hx⟩
theorem Un.trans (a:Un fs ex H H1 h h1) (b:Un fs ex H1 H2 h1 h2):Un fs ex H H2 h h2 where
 keep:=fun c ob q n hc hx=>b.keep c ob (a.keep c ob q n hc hx) (a.free c ob q n hx) hc hx
 slot:=fun c ob q n hc hx=>by
  obtain ⟨sl,e1⟩:=a.slot c ob q n hc hx
  obtain ⟨sl',e2⟩:=b.slot c _ e1 (a.free c ob q n hx) hc hx
  exact ⟨sl',e2⟩
 free:=fun c ob q n hx=>by
  obtain ⟨o',e1⟩:=a.there c ob q hx
  exact b.free c o' e1 (a.free c ob q n hx) hx
 there:=fun c ob q hx=>by
  obtain ⟨o',e1⟩:=a.there c ob q hx
  exact b.there c o' e1 hx
 tups:=fun c xs q=>b.tups c xs (a.tups c xs q)
 frzs:=fun c ob xs q=>b.frzs c ob xs (a.frzs c ob xs q)
 tbls:=fun c ps q=>by
  obtain ⟨m1,e1⟩:=a.tbls c ps q
  obtain ⟨m2,e2⟩:=b.tbls c _ e1
  exact ⟨m1++m2,by rw [e2,Array.append_assoc]⟩
theorem Un.kept (k:∀ b u,h.get? b=some u->h'.get? b=some u):Un fs ex H H h h' :=
 ⟨fun b ob q _ _ _=>k b ob q,fun b ob q _ _ _=>⟨ob.slots,k b ob q⟩,fun _ _ _ n _=>n,fun b ob q _=>⟨ob,k b ob q⟩,fun _ _ q=>q,fun _ _ _ q=>q,fun _ ps q=>⟨#[],by rw [q];simp⟩⟩
theorem Un.refl:Un fs ex H H h h:=Un.kept fun _ _ q=>q
theorem Un.laid (k:∀ b u,h.get? b=some u->h'.get? b=some u) (hp:h.objs.size<=a) (hn:H a=none):Un fs ex H (upd H a o) h h' where
 keep:=fun b u q _ _ _=>k b u q
 slot:=fun b u q _ _ _=>⟨u.slots,k b u q⟩
 free:=fun b u q n _=>by rw [av (Nat.ne_of_lt (Nat.lt_of_lt_of_le (Heap.lt_size q) hp))];exact n
 there:=fun b u q _=>⟨u,k b u q⟩
 tups:=fun b xs q=>by rw [av (aO q hn)];exact q
 frzs:=fun b u xs q=>by rw [av (aO q hn)];exact q
 tbls:=fun b ps q=>⟨#[],by rw [av (aO q hn),q];simp⟩
theorem Un.write (mu:Mut (H x)) (he:e=x ∨ H e=some (.own x)) (k:∀ b u,b≠e->h.get? b=some u->h'.get? b=some u) (heo:∃ u,h'.get? e=some u):Un fs ex H (upd H x o) h h':=by
 have hx:∀ b,H b=none->b≠x:=fun b n z=>by subst z;rw [n] at mu;exact mu
 have hb:∀ b,H b=none->b≠e:=fun b n z=>by
  subst z
  rcases he with r | r
  ·exact hx b n r
  ·rw [n] at r;cases r
 have hm:∀ b u,H b=some u->¬ Mut (some u)->b≠x:=fun b u q nm z=>by subst z;rw [q] at mu;exact nm mu
 refine ⟨fun b u q n _ _=>k b u (hb b n) q,fun b u q n _ _=>⟨u.slots,k b u (hb b n) q⟩,fun b u q n _=>by rw [av (hx b n)];exact n,fun b u q _=>?_,
  fun b xs q=>by rw [av (hm b _ q fun z=>z)];exact q,fun b u xs q=>by rw [av (hm b _ q fun z=>z)];exact q,fun b ps q=>⟨#[],by rw [av (hm b _ q fun z=>z),q];simp⟩⟩
 by_cases hbe:b=e
 ·subst hbe;exact heo
 ·exact ⟨u,k b u hbe q⟩
theorem Un.mono (u:Un fs ex H H1 h h1) (hs:∀ b∈fs,b∈fs') (hx:∀ b∈ex,b∈ex'):Un fs' ex' H H1 h h1 :=
 ⟨fun b ob q n hb he=>u.keep b ob q n (fun z=>hb (hs b z)) fun z=>he (hx b z),fun _ _ q n _ he=>u.any q n fun z=>he (hx _ z),fun b ob q n he=>u.free b ob q n fun z=>he (hx b z),fun b ob q he=>u.there b ob q fun z=>he (hx b z),u.tups,u.frzs,u.tbls⟩
end

def trk (h:Heap) (H:Hp):List Addr:=(List.range h.objs.size).filter fun a=>(H a).isSome
def pB (h:Heap) (H:Hp):Heap:=PySem.W.hideAll h (trk h H)
theorem wI (h:Heap) (H:Hp):(pB h H).objs.size=h.objs.size:=PySem.W.hideAll_size _ _
theorem yx {h:Heap}{H:Hp}{b:Addr}{o:Obj} (e:h.get? b=some o) (n:H b=none):(pB h H).get? b=some o :=
 PySem.W.hideAll_get _ e fun hm=>by
  have q:(H b).isSome=true:=(List.mem_filter.mp hm).2
  rw [n] at q;simp at q
theorem Av {h:Heap}{H:Hp}{b:Addr}{o:Obj} (e:(pB h H).get? b=some o):h.get? b=some o/\H b=none:=by
 have e':h.get? b=some o:=PySem.W.of_hideAll (trk h H) e
 refine ⟨e',?_⟩
 cases q:H b with
 | none=>rfl
 | some x =>
  have hm:b∈trk h H:=List.mem_filter.mpr ⟨List.mem_range.mpr (Heap.lt_size e'),by simp [q]⟩
  have z:(pB h H).get? b=none:=PySem.W.hideAll_none (trk h H) hm
  rw [z] at e;cases e

def zY (g h:Heap) (L:Addr):List (Addr × Obj):=(List.range h.objs.size).filterMap fun a=>if a=L ∨ (g.get? a).isSome=true then none else (h.get? a).map fun o=>(a,o)
def rest (g h:Heap) (L d:Addr):List (Addr × Obj):=(zY g h L).filter fun p=>decide (p.1≠d)
end L2

namespace L2
open PySem PySem.Spec PyProof.Rows

structure Mod (K:PySem.W.Frag) (mg:Str->Option Value) (base:Heap):Prop where
 kin:K.In base
 glob:base.Ns mainGlobals mg
 blt:∃ mb,base.Ns builtinsNs mb/\∀ x:Str,x≠"__name__"->mb x=bootBuiltins x
 nolimit:base.NoLimit
 bmn:∃ bm ob,mg "__builtins__"=some (.ref bm)/\bm≠builtinsNs/\base.get? bm=some ob/\ob.cls=.type "module"/\ob.dict=some builtinsNs/\ob.data=.plain

/-- the context: a def's body (or a comprehension's block) running. base: fixed through the whole law;s₀,H₀: the entry;outer: the frames whose slots others may change (a def's callers);stack: all frames that run;
  ex: iterators that were made ahead of the entry and are walked here (a comprehension's);fn: the names whose cells were made at the entry (a def: all;a comprehension's block: its own);calm: not within an except suite;pn: pins that every state bears;xe: what is wanted of an exception that leaves the code -/
structure Cx where
 prog:Program
 w:World
 K:PySem.W.Frag
 mg:Str->Option Value
 base:Heap
 A:Around
 N:List Str
 s₀:Shared
 H₀:Hp
 env:Env
 outer:List Env
 stack:List Env
 ex:List Addr
 fn:Str->Bool
 calm:Bool
 pn:List (Addr × Obj)
 xe:Value->Shared->Prop
def frs (l:List Env):List Addr:=l.filterMap (·.frame)
abbrev Cx.fs (X:Cx):List Addr:=frs X.outer

def Vis (sc:Scope) (x:Str):Prop:=sc.names.lookup x=some .local ∨ sc.names.lookup x=some .cell ∨ sc.names.lookup x=some .free
def Loc (sc:Scope) (x:Str):Prop:=sc.names.lookup x=some .local ∨ sc.names.lookup x=some .cell
def Look (env:Env) (h:Heap) (m:Str->Option Value) (x:Str) (u:Value):Prop :=
 (env.kindOf x=some .local/\m x=some u) ∨ ((env.kindOf x=some .cell ∨ env.kindOf x=some .free)/\∃ c,env.cells.lookup x=some c/\h.IsCell c (some u))

structure Cx.Ok (X:Cx):Prop where
 mod:Mod X.K X.mg X.base
 kind:X.env.scope.kind=.function
 glob:X.env.globals=mainGlobals
 blt:X.env.builtins=builtinsNs
 above:X.s₀.heap.objs.size<=X.env.locals
 inj:∀ x y c,X.env.cells.lookup x=some c->X.env.cells.lookup y=some c->x=y
 has:∀ x,(X.env.kindOf x=some .cell ∨ X.env.kindOf x=some .free)->∃ c,X.env.cells.lookup x=some c
 cab:∀ x c,X.fn x=true->X.env.cells.lookup x=some c->X.s₀.heap.objs.size<=c
 hd:X.calm=true->X.A.handled=none
 frames:X.A.frames=some X.stack
 stk:X.stack=X.outer ∨ (X.stack=X.env::X.outer/\X.env.frame=some X.env.locals)
 exf:∀ b∈X.ex,b≠X.env.locals/\∀ x c,X.env.cells.lookup x=some c->c≠b
 bs:∀ b o,X.base.get? b=some o->X.s₀.heap.get? b=some o/\X.H₀ b=none
 bsz:X.base.objs.size<=X.s₀.heap.objs.size
 noex:∀ b o,X.base.get? b=some o->b ∉ X.ex
 exfs:∀ b∈X.ex,b ∉ X.fs
 ik:X.s₀.heap.FunFrames X.base X.outer
 frf:∀ b∈X.fs,X.H₀ b=none

structure Inv (X:Cx) (pins:List (Addr × Obj)) (σ:List (Option V)) (H:Hp) (s:Shared):Prop where
 ok:X.Ok
 os:s.os=X.s₀.os
 bare:AllBare s.gens
 base:Un X.fs X.ex X.H₀ H X.s₀.heap s.heap
 loc:∃ m,s.heap.Ns X.env.locals m/\∀ (i:Nat) (x:Str) (v:V),X.N[i]?=some x->σ[i]?=some (some v)->Vis X.env.scope x->∃ u,RelV v u/\Look X.env s.heap m x u
 cell:∀ x c,X.env.cells.lookup x=some c->∃ v,s.heap.IsCell c v
 free:H X.env.locals=none
 freeC:∀ x c,X.env.cells.lookup x=some c->H c=none
 pin:∀ p∈X.pn++pins,s.heap.get? p.1=some p.2/\H p.1=none/\p.1≠X.env.locals/\p.1 ∉ X.fs/\∀ v,p.2.data≠.cell v
 hok:HOk X.prog X.w H s.heap
 len:σ.length=X.N.length

section
variable {X:Cx}{pins:List (Addr × Obj)}{σ:List (Option V)}{H H':Hp}{s:Shared}{h':Heap}

theorem Cx.Ok.E5 (ok:X.Ok) {b:Addr}{o:Obj} (e:X.base.get? b=some o):b ∉ X.fs:=fun hb=>by
 have:=(ok.ik.mem hb).1
 rw [e] at this;cases this
theorem Inv.bs (I:Inv X pins σ H s):∀ b o,X.base.get? b=some o->s.heap.get? b=some o/\H b=none:=fun b o e =>
 ⟨I.base.keep b o (I.ok.bs b o e).1 (I.ok.bs b o e).2 (I.ok.E5 e) (I.ok.noex b o e),I.base.free b o (I.ok.bs b o e).1 (I.ok.bs b o e).2 (I.ok.noex b o e)⟩
theorem Inv.bk (I:Inv X pins σ H s):∀ b o,X.base.get? b=some o->s.heap.get? b=some o:=fun b o e=>(I.bs b o e).1
theorem Inv.mod (I:Inv X pins σ H s):Mod X.K X.mg X.base:=I.ok.mod
theorem Inv.kIn (I:Inv X pins σ H s):X.K.In s.heap:=I.ok.mod.kin.keeps I.bk
theorem Inv.nolimit (I:Inv X pins σ H s):s.heap.NoLimit:=I.ok.mod.nolimit.keeps I.bk
theorem Inv.fr (I:Inv X pins σ H s):∃ m,Fr X.base X.env.locals s.heap m :=
 let ⟨m,hn,_⟩:=I.loc
 ⟨m,hn,I.bk,Nat.le_trans I.ok.bsz I.ok.above⟩
theorem Inv.lt (I:Inv X pins σ H s):X.env.locals < s.heap.objs.size:=let ⟨_,hn,_⟩:=I.loc;hn.lt
theorem Inv.sz (I:Inv X pins σ H s):X.s₀.heap.objs.size<=s.heap.objs.size:=Nat.le_trans I.ok.above (Nat.le_of_lt I.lt)
theorem Inv.E6 (I:Inv X pins σ H s) {a:Addr} (h:s.heap.objs.size<=a):a ∉ X.fs:=fun hb=>by
 obtain ⟨_,o,ho,_⟩:=I.ok.ik.mem hb
 exact absurd (Nat.lt_of_lt_of_le (Heap.lt_size ho) (Nat.le_trans I.sz h)) (Nat.lt_irrefl _)
theorem Inv.cne (I:Inv X pins σ H s):∀ x c,X.env.cells.lookup x=some c->c≠X.env.locals:=fun x c e z=>by
 obtain ⟨v,o,ho,hd⟩:=I.cell x c e
 obtain ⟨m,⟨o',es,ep,ho',hd',_⟩,_⟩:=I.loc
 rw [z,ho'] at ho;cases ho;rw [hd'] at hd;cases hd
theorem Inv.ik (I:Inv X pins σ H s):s.heap.FunFrames X.base X.outer:=by
 have all:∀ (l:List Env),(∀ b∈frs l,b∈X.fs)->X.s₀.heap.FunFrames X.base l->s.heap.FunFrames X.base l:=by
  intro l
  induction l with
  | nil=>intro _ _;trivial
  | cons env r ih =>
   intro hs hl
   obtain ⟨hk,⟨L,o,hf,hn,ho,hd⟩,hr⟩:=hl
   have hL:L∈X.fs:=hs L (by unfold frs;rw [List.filterMap_cons,hf];exact List.mem_cons_self)
   obtain ⟨sl,e⟩:=I.base.slot L o ho (I.ok.frf L hL) hL fun z=>I.ok.exfs L z hL
   exact ⟨hk,⟨L,_,hf,hn,e,hd⟩,ih (fun b hb=>hs b (by unfold frs;rw [List.filterMap_cons,hf];exact List.mem_cons_of_mem _ hb)) hr⟩
 exact all X.outer (fun _ hb=>hb) I.ok.ik

theorem Inv.stack (I:Inv X pins σ H s):s.heap.FunFrames X.base X.stack:=by
 rcases I.ok.stk with e | ⟨e,hf⟩
 ·rw [e];exact I.ik
 ·rw [e]
  obtain ⟨m,hn,_⟩:=I.loc
  refine .cons (by rw [I.ok.kind];decide) hf hn ?_ I.ik
  exact Heap.get?_none_of_le (Nat.le_trans I.ok.bsz I.ok.above)
theorem Inv.qt (I:Inv X pins σ H s):∀ b∈frs X.stack,b∈X.env.locals::X.fs:=fun b hb=>by
 rcases I.ok.stk with e | ⟨e,hf⟩
 ·rw [e] at hb;exact List.mem_cons_of_mem _ hb
 ·rw [e] at hb
  unfold frs at hb
  rw [List.filterMap_cons,hf] at hb
  exact hb
theorem Inv.jR (I:Inv X pins σ H s):∀ b∈frs X.stack,H b=none:=fun b hb=>by
 rcases List.mem_cons.mp (I.qt b hb) with e | hb
 ·rw [e];exact I.free
 ·obtain ⟨_,o,ho,_⟩:=I.ok.ik.mem hb
  exact I.base.free b o ho (I.ok.frf b hb) fun z=>I.ok.exfs b z hb

theorem Inv.step {g':Array GenState}{t':Nat}{d':Drawn}{ch:List Addr} (I:Inv X pins σ H s)
  (hch:∀ b∈ch,(b∈X.ex ∨ X.s₀.heap.objs.size<=b)/\b≠X.env.locals/\(∀ x c,X.env.cells.lookup x=some c->c≠b)/\∀ p∈X.pn++pins,p.1≠b)
  (keep:∀ b o,b≠X.env.locals->b ∉ X.fs->b ∉ ch->s.heap.get? b=some o->H b=none->h'.get? b=some o)
  (slot:∀ b o,b≠X.env.locals->b∈X.fs->b ∉ ch->s.heap.get? b=some o->H b=none->∃ sl,h'.get? b=some { o with slots:=sl }) (free:∀ b o,b ∉ ch->s.heap.get? b=some o->H b=none->H' b=none)
  (there:∀ b o,b ∉ ch->s.heap.get? b=some o->∃ o',h'.get? b=some o')
  (tups:∀ b xs,H b=some (.tup xs)->H' b=some (.tup xs)) (frzs:∀ b o u,H b=some (.frz o u)->H' b=some (.frz o u)) (tbls:∀ b ps,H b=some (.tbl ps)->∃ more,H' b=some (.tbl (ps++more)))
  (ns:∀ m,s.heap.Ns X.env.locals m->h'.Ns X.env.locals m) (hok:HOk X.prog X.w H' h') (hg:AllBare g') :
  Inv X pins σ H' { s with heap:=h',gens:=g',drawn:=d',toks:=t' }:=by
 have neL:∀ b o,X.s₀.heap.get? b=some o->b≠X.env.locals:=fun b o e=>Nat.ne_of_lt (Nat.lt_of_lt_of_le (Heap.lt_size e) I.ok.above)
 have neC:∀ b o,X.s₀.heap.get? b=some o->b ∉ X.ex->b ∉ ch:=fun b o e hx hb=>by
  rcases (hch b hb).1 with z | z
  ·exact hx z
  ·exact absurd (Nat.lt_of_lt_of_le (Heap.lt_size e) z) (Nat.lt_irrefl _)
 have cellK:∀ x c,X.env.cells.lookup x=some c->∀ v,s.heap.IsCell c v->h'.IsCell c v:=fun x c e v ⟨o,ho,hd⟩=>by
  have nch:c ∉ ch:=fun z=>(hch c z).2.2.1 x c e rfl
  by_cases hc:c∈X.fs
  ·obtain ⟨sl,q⟩:=slot c o (I.cne x c e) hc nch ho (I.freeC x c e)
   exact ⟨_,q,hd⟩
  ·exact ⟨o,keep c o (I.cne x c e) hc nch ho (I.freeC x c e),hd⟩
 refine ⟨I.ok,I.os,hg,⟨fun b o e n hb hx=>?_,fun b o e n hb hx=>?_,fun b o e n hx=>?_,fun b o e hx=>?_,fun b xs e=>tups b xs (I.base.tups b xs e),fun b o xs e=>frzs b o xs (I.base.frzs b o xs e),fun b ps e=>?_⟩,?_,fun x c e=>?_,?_,fun x c e=>?_,fun p hp=>?_,hok,I.len⟩
 ·exact keep b o (neL b o e) hb (neC b o e hx) (I.base.keep b o e n hb hx) (I.base.free b o e n hx)
 ·obtain ⟨sl,e1⟩:=I.base.slot b o e n hb hx
  obtain ⟨sl',e2⟩:=slot b _ (neL b o e) hb (neC b o e hx) e1 (I.base.free b o e n hx)
  exact ⟨sl',e2⟩
 ·obtain ⟨o',e1⟩:=I.base.there b o e hx
  exact free b o' (neC b o e hx) e1 (I.base.free b o e n hx)
 ·obtain ⟨o',e1⟩:=I.base.there b o e hx
  exact there b o' (neC b o e hx) e1
 ·obtain ⟨m1,e1⟩:=I.base.tbls b ps e
  obtain ⟨m2,e2⟩:=tbls b _ e1
  exact ⟨m1++m2,by rw [e2,Array.append_assoc]⟩
 ·obtain ⟨m,hn,hl⟩:=I.loc
  refine ⟨m,ns m hn,fun i x v e1 e2 e3=>?_⟩
  obtain ⟨u,r,l⟩:=hl i x v e1 e2 e3
  refine ⟨u,r,?_⟩
  rcases l with l | ⟨k,c,e,z⟩
  ·exact .inl l
  ·exact .inr ⟨k,c,e,cellK x c e _ z⟩
 ·obtain ⟨v,z⟩:=I.cell x c e
  exact ⟨v,cellK x c e v z⟩
 ·obtain ⟨m,⟨o,_,_,ho,_⟩,_⟩:=I.loc
  exact free _ o (fun z=>(hch _ z).2.1 rfl) ho I.free
 ·obtain ⟨v,o,ho,hd⟩:=I.cell x c e
  exact free c o (fun z=>(hch c z).2.2.1 x c e rfl) ho (I.freeC x c e)
 ·obtain ⟨e,n,ne,nf,d⟩:=I.pin p hp
  have nch:p.1 ∉ ch:=fun z=>(hch p.1 z).2.2.2 p hp rfl
  exact ⟨keep p.1 p.2 ne nf nch e n,free p.1 p.2 nch e n,ne,nf,d⟩
theorem Inv.un {t':Nat} (I:Inv X pins σ H s) (u:Un X.fs [] H H' s.heap h') (hok:HOk X.prog X.w H' h'):Inv X pins σ H' { s with heap:=h',toks:=t' }:=by
 obtain ⟨m,⟨o,es,ep,ho,r⟩,_⟩:=id I.loc
 obtain ⟨sl,hL⟩:=u.any ho I.free (by simp)
 exact I.step (g':=s.gens) (d':=s.drawn) (ch:=[]) (fun _ z=>nomatch z) (fun b o _ hb _ e n=>u.keep b o e n hb (by simp)) (fun b o _ hb _ e n=>u.slot b o e n hb (by simp)) (fun b o _ e n=>u.free b o e n (by simp)) (fun b o _ e=>u.there b o e (by simp)) u.tups u.frzs u.tbls (fun m' hm=>by
  obtain ⟨o',es',ep',ho',r'⟩:=hm
  rw [ho] at ho';cases ho'
  exact ⟨_,es',ep',hL,r'⟩) hok I.bare
theorem Inv.call {g':Array GenState}{t':Nat}{d':Drawn}{ch:List Addr} (I:Inv X pins σ H s) (u:Un (frs X.stack) ch H H' s.heap h') (hok:HOk X.prog X.w H' h') (hg:AllBare g')
  (hch:∀ b∈ch,(b∈X.ex ∨ X.s₀.heap.objs.size<=b)/\b≠X.env.locals/\(∀ x c,X.env.cells.lookup x=some c->c≠b)/\∀ p∈X.pn++pins,p.1≠b) :
  Inv X pins σ H' { s with heap:=h',gens:=g',drawn:=d',toks:=t' }:=by
 obtain ⟨m,⟨o,es,ep,ho,r⟩,_⟩:=id I.loc
 obtain ⟨sl,hL⟩:=u.any ho I.free fun z=>(hch _ z).2.1 rfl
 exact I.step (ch:=ch) hch (fun b o hL hb hc e n=>u.keep b o e n (fun z=>(List.mem_cons.mp (I.qt b z)).elim hL hb) hc) (fun b o _ _ hc e n=>u.any e n hc) (fun b o hc e n=>u.free b o e n hc) (fun b o hc e=>u.there b o e hc) u.tups u.frzs u.tbls (fun m' hm=>by
  obtain ⟨o',es',ep',ho',r'⟩:=hm
  rw [ho] at ho';cases ho'
  exact ⟨_,es',ep',hL,r'⟩) hok hg
theorem Inv.turned {t':Nat}{it:Addr} (I:Inv X pins σ H s) (k:∀ b o,b≠it->s.heap.get? b=some o->h'.get? b=some o) (hn:H it=none) (hL:it≠X.env.locals)
  (h1:it∈X.ex ∨ X.s₀.heap.objs.size<=it) (h2:∀ x c,X.env.cells.lookup x=some c->c≠it) (h3:∀ p∈X.pn++pins,p.1≠it):Inv X pins σ H { s with heap:=h',toks:=t' }:=by
 have nit:∀ b u,H b=some u->b≠it:=fun b u e z=>by rw [z,hn] at e;cases e
 refine I.step (g':=s.gens) (d':=s.drawn) (ch:=[it]) (fun b hb=>?_) (fun b o _ _ hc e _=>k b o (fun z=>hc (by simp [z])) e) (fun b o _ _ hc e _=>⟨o.slots,k b o (fun z=>hc (by simp [z])) e⟩) (fun _ _ _ _ n=>n)
  (fun b o hc e=>⟨o,k b o (fun z=>hc (by simp [z])) e⟩) (fun _ _ e=>e) (fun _ _ _ e=>e) (fun b ps e=>⟨#[],by rw [e];simp⟩) (fun m hm=>?_) (fun b u e=>?_) I.bare
 ·have e:b=it:=by simpa using hb
  subst e
  exact ⟨h1,hL,h2,h3⟩
 ·obtain ⟨o,es,ep,ho,r⟩:=hm
  exact ⟨o,es,ep,k _ o (Ne.symm hL) ho,r⟩
 ·refine (I.hok b u e).iP (fun c v hc q=>k c v ?_ q) (fun _ q=>q) fun _ _ q=>q
  rcases hc with z | z
  ·rw [z];exact nit b u e
  ·exact nit c _ z
theorem Inv.tok (I:Inv X pins σ H s) (t:Nat):Inv X pins σ H { s with toks:=t }:=I.un (h':=s.heap) (t':=t) Un.refl I.hok
theorem Inv.kept {t':Nat} (I:Inv X pins σ H s) (k:∀ b u,s.heap.get? b=some u->h'.get? b=some u):Inv X pins σ H { s with heap:=h',toks:=t' }:=I.un (Un.kept k) (I.hok.kept k)
theorem Inv.laid {a:Addr}{o:HO}{t':Nat} (I:Inv X pins σ H s) (k:∀ b u,s.heap.get? b=some u->h'.get? b=some u) (hp:s.heap.objs.size<=a) (new:aX X.prog X.w (upd H a o) h' a o) :
  Inv X pins σ (upd H a o) { s with heap:=h',toks:=t' }:=I.un (Un.laid k hp (I.hok.fresh hp)) (I.hok.laid k hp new)
theorem Inv.write {x e:Addr}{o:HO}{t':Nat} (I:Inv X pins σ H s) (mu:Mut (H x)) (he:e=x ∨ H e=some (.own x)) (k:∀ b u,b≠e->s.heap.get? b=some u->h'.get? b=some u) (heo:∃ u,h'.get? e=some u)
  (new:aX X.prog X.w (upd H x o) h' x o):Inv X pins σ (upd H x o) { s with heap:=h',toks:=t' }:=I.un (Un.write mu he k heo) (I.hok.write mu he k heo new)
theorem Inv.vC {pins':List (Addr × Obj)} (I:Inv X pins σ H s) (h:∀ p∈pins',s.heap.get? p.1=some p.2/\H p.1=none/\p.1≠X.env.locals/\p.1 ∉ X.fs/\∀ v,p.2.data≠.cell v):Inv X pins' σ H s :=
 ⟨I.ok,I.os,I.bare,I.base,I.loc,I.cell,I.free,I.freeC,fun p hp=>(List.mem_append.mp hp).elim (fun z=>I.pin p (List.mem_append_left _ z)) (h p),I.hok,I.len⟩

theorem mB {N:List Str} (hN:N.Nodup) {i j:Nat}{x:Str} (a:N[i]?=some x) (b:N[j]?=some x):i=j:=by
 obtain ⟨h1,e1⟩:=List.getElem?_eq_some_iff.mp a
 obtain ⟨h2,e2⟩:=List.getElem?_eq_some_iff.mp b
 exact (List.getElem_inj hN).mp (e1.trans e2.symm)

theorem oT {M:Model}{A:Around}{E:Value->Shared->Prop}{i:Nat}{x:Str}{v:V}{u:Value}{Q:Unit->Shared->Prop} (I:Inv X pins σ H s) (hN:X.N.Nodup) (hi:X.N[i]?=some x) (hx:Loc X.env.scope x) (r:RelV v u)
  (h:∀ s',Inv X pins (σ.set i (some v)) H s'->(∃ a,Heap.SameBut a s.heap s'.heap/\(a=X.env.locals ∨ X.env.cells.lookup x=some a))->Q () s') (hf:X.fn x=true ∨ X.env.scope.names.lookup x=some .local:=by first | exact .inl rfl | exact .inr rfl | assumption):wpAny M A (storeName X.env x u) Q E s:=by
 obtain ⟨m,hn,hl⟩:=id I.loc
 have hcls:(X.env.scope.kind == .class || (X.env.scope.kind == .module && X.env.locals != X.env.globals))=false:=by rw [I.ok.kind];rfl
 have hiσ:i < σ.length:=by rw [I.len];exact (List.getElem?_eq_some_iff.mp hi).1
 have cne:=I.cne
 have tracked:∀ {a:Addr}{h':Heap},(∃ o,s.heap.get? a=some o/\H a=none)->Heap.SameBut a s.heap h'->HOk X.prog X.w H h':=fun {a h'} ha hs b ob e=>by
  obtain ⟨_,_,hfree⟩:=ha
  refine (I.hok b ob e).iP (fun c w' hc q=>(hs.2 c ?_).trans q) (fun _ q=>q) fun _ _ q=>q
  rintro rfl
  rcases hc with rfl | hc
  ·rw [hfree] at e;cases e
  ·rw [hfree] at hc;cases hc
 rcases hx with hk | hk
 ·refine wpAny_storeName_local hk hn (fun h' hn' hs=>?_) hcls
  obtain ⟨oL,_,_,hoL,_⟩:=id hn
  refine h _ ⟨I.ok,I.os,I.bare,⟨fun b o e n hb hx=>?_,fun b o e n hb hx=>?_,I.base.free,fun b o e hx=>?_,I.base.tups,I.base.frzs,I.base.tbls⟩,⟨_,hn',fun j y v' e1 e2 e3=>?_⟩,fun y c e=>?_,I.free,I.freeC,fun p hp=>?_,tracked ⟨oL,hoL,I.free⟩ hs,by simpa using I.len⟩ ⟨_,hs,.inl rfl⟩
  ·exact (hs.2 b (Nat.ne_of_lt (Nat.lt_of_lt_of_le (Heap.lt_size e) I.ok.above))).trans (I.base.keep b o e n hb hx)
  ·obtain ⟨sl,e1⟩:=I.base.slot b o e n hb hx
   exact ⟨sl,(hs.2 b (Nat.ne_of_lt (Nat.lt_of_lt_of_le (Heap.lt_size e) I.ok.above))).trans e1⟩
  ·obtain ⟨o',e1⟩:=I.base.there b o e hx
   exact ⟨o',(hs.2 b (Nat.ne_of_lt (Nat.lt_of_lt_of_le (Heap.lt_size e) I.ok.above))).trans e1⟩
  ·by_cases hj:j=i
   ·subst hj
    rw [hi] at e1;cases e1
    rw [List.getElem?_set_self hiσ] at e2
    cases e2
    exact ⟨u,r,.inl ⟨hk,by simp⟩⟩
   ·rw [List.getElem?_set_ne (Ne.symm hj)] at e2
    obtain ⟨u',r',q⟩:=hl j y v' e1 e2 e3
    refine ⟨u',r',?_⟩
    rcases q with ⟨k,e⟩ | ⟨k,c,e,z⟩
    ·refine .inl ⟨k,?_⟩
     have:y≠x:=fun e=>hj (mB hN e1 (e ▸ hi))
     simp [this,e]
    ·exact .inr ⟨k,c,e,z.sameBut hs (cne y c e)⟩
  ·obtain ⟨w',z⟩:=I.cell y c e
   exact ⟨w',z.sameBut hs (cne y c e)⟩
  ·obtain ⟨e,n,ne,nf,d⟩:=I.pin p hp
   exact ⟨(hs.2 p.1 ne).trans e,n,ne,nf,d⟩
 ·have hfn:X.fn x=true:=by
   rcases hf with z | z
   ·exact z
   ·rw [z] at hk;cases hk
  obtain ⟨c,hc⟩:=I.ok.has x (.inl hk)
  obtain ⟨w',z⟩:=I.cell x c hc
  refine wpAny_storeName_cell I.ok.kind hk hc z (fun h' hc' hs=>?_)
  obtain ⟨oc,hoc,hocd⟩:=id z
  refine h { s with heap:=h' } ⟨I.ok,I.os,I.bare,⟨fun b o e n hb hx=>?_,fun b o e n hb hx=>?_,I.base.free,fun b o e hx=>?_,I.base.tups,I.base.frzs,I.base.tbls⟩,⟨m,hn.sameBut hs (Ne.symm (cne x c hc)),fun j y v' e1 e2 e3=>?_⟩,fun y c' e=>?_,I.free,I.freeC,fun p hp=>?_,tracked ⟨oc,hoc,I.freeC x c hc⟩ hs,by simpa using I.len⟩ ⟨c,hs,.inr hc⟩
  ·exact (hs.2 b (Nat.ne_of_lt (Nat.lt_of_lt_of_le (Heap.lt_size e) (I.ok.cab x c hfn hc)))).trans (I.base.keep b o e n hb hx)
  ·obtain ⟨sl,e1⟩:=I.base.slot b o e n hb hx
   exact ⟨sl,(hs.2 b (Nat.ne_of_lt (Nat.lt_of_lt_of_le (Heap.lt_size e) (I.ok.cab x c hfn hc)))).trans e1⟩
  ·obtain ⟨o',e1⟩:=I.base.there b o e hx
   exact ⟨o',(hs.2 b (Nat.ne_of_lt (Nat.lt_of_lt_of_le (Heap.lt_size e) (I.ok.cab x c hfn hc)))).trans e1⟩
  ·by_cases hj:j=i
   ·subst hj
    rw [hi] at e1;cases e1
    rw [List.getElem?_set_self hiσ] at e2
    cases e2
    exact ⟨u,r,.inr ⟨.inl hk,c,hc,hc'⟩⟩
   ·rw [List.getElem?_set_ne (Ne.symm hj)] at e2
    obtain ⟨u',r',q⟩:=hl j y v' e1 e2 e3
    refine ⟨u',r',?_⟩
    rcases q with q | ⟨k,c',e,z'⟩
    ·exact .inl q
    ·refine .inr ⟨k,c',e,z'.sameBut hs ?_⟩
     rintro rfl
     exact hj (mB hN e1 (I.ok.inj _ _ _ e hc ▸ hi))
  ·by_cases hcc:c'=c
   ·subst hcc;exact ⟨_,hc'⟩
   ·obtain ⟨w2,z2⟩:=I.cell y c' e
    exact ⟨w2,z2.sameBut hs hcc⟩
  ·obtain ⟨e,n,ne,nf,d⟩:=I.pin p hp
   refine ⟨(hs.2 p.1 ?_).trans e,n,ne,nf,d⟩
   intro q
   rw [q,hoc] at e
   have q':oc=p.2:=Option.some.inj e
   exact d w' (by rw [← q'];exact hocd)
theorem gb {M:Model}{A:Around}{E:Value->Shared->Prop}{i:Nat}{x:Str}{v:V}{u:Value}{Q:Unit->Shared->Prop} (I:Inv X pins σ H s) (hN:X.N.Nodup) (hi:X.N[i]?=some x) (hx:Loc X.env.scope x) (r:RelV v u)
  (h:∀ s',Inv X pins (σ.set i (some v)) H s'->Q () s') (hf:X.fn x=true ∨ X.env.scope.names.lookup x=some .local:=by first | exact .inl rfl | exact .inr rfl | assumption):wpAny M A (storeName X.env x u) Q E s :=
 oT I hN hi hx r (fun s' I' _=>h s' I') hf
theorem Inv.nQ {s':Shared}{ch:List Addr} (I:Inv X pins σ H s) (ho:s'.os=s.os) (u:Un (frs X.stack) ch H H' s.heap s'.heap) (hok:HOk X.prog X.w H' s'.heap) (hg:AllBare s'.gens)
  (hch:∀ b∈ch,(b∈X.ex ∨ X.s₀.heap.objs.size<=b)/\b≠X.env.locals/\(∀ x c,X.env.cells.lookup x=some c->c≠b)/\∀ p∈X.pn++pins,p.1≠b):Inv X pins σ H' s':=by
 obtain ⟨h',g',d',t',o'⟩:=s'
 have e:o'=s.os:=ho
 subst e
 exact I.call (g':=g') (t':=t') (d':=d') u hok hg hch
end

abbrev XK:=Value->Option Addr->Hp->Prop
abbrev St:=List (Option V)
abbrev VK:=V->Hp->Prop
abbrev TE:=St->Hp->VK->Prop
abbrev TT:=St->Hp->(Bool->Hp->Prop)->Prop
abbrev TA:=St->Hp->(List V->Hp->Prop)->Prop
structure Ends where
 nx:St->Hp->Prop
 rt:VK
 bk:St->Hp->Prop:=fun _ _=>False
 ct:St->Hp->Prop:=fun _ _=>False
abbrev TS:=Ends->St->Hp->Prop

def EP (X:Cx) (pins:List (Addr × Obj)) (σ:St) (Q:VK) (u:Value) (s':Shared):Prop:=∃ v H',Inv X pins σ H' s'/\RelV v u/\Q v H'
def TP (X:Cx) (pins:List (Addr × Obj)) (σ:St) (Q:Bool->Hp->Prop) (b:Bool) (s':Shared):Prop:=∃ H',Inv X pins σ H' s'/\Q b H'
def AP (X:Cx) (pins:List (Addr × Obj)) (σ:St) (Q:List V->Hp->Prop) (us:List Value) (s':Shared):Prop:=∃ vs H',Inv X pins σ H' s'/\Vals vs us/\Q vs H'
def SP (X:Cx) (pins:List (Addr × Obj)) (D:Ends) (f:Flow) (s':Shared):Prop :=
 match f with
 | .next=>∃ σ' H',Inv X pins σ' H' s'/\D.nx σ' H'
 | .brk=>∃ σ' H',Inv X pins σ' H' s'/\D.bk σ' H'
 | .cont=>∃ σ' H',Inv X pins σ' H' s'/\D.ct σ' H'
 | .ret u=>∃ v σ' H',Inv X pins σ' H' s'/\RelV v u/\D.rt v H'

def PE (X:Cx) (e:Expr) (t:TE):Prop :=
 ∀ (pins:List (Addr × Obj)) (s:Shared) (σ:St) (H:Hp) (Q:VK),Inv X pins σ H s->t σ H Q->wpAny (model X.prog X.w) X.A (eval e X.env) (EP X pins σ Q) X.xe s
def PT (X:Cx) (e:Expr) (t:TT):Prop :=
 ∀ (pins:List (Addr × Obj)) (s:Shared) (σ:St) (H:Hp) (Q:Bool->Hp->Prop),Inv X pins σ H s->t σ H Q->wpAny (model X.prog X.w) X.A (isTrue e X.env (eval e X.env)) (TP X pins σ Q) X.xe s
def PW (X:Cx) (e:Expr) (t:TT):Prop :=
 ∀ (whole:Sem Value) (pins:List (Addr × Obj)) (s:Shared) (σ:St) (H:Hp) (Q:Bool->Hp->Prop),Inv X pins σ H s->t σ H Q->wpAny (model X.prog X.w) X.A (isTrue e X.env whole) (TP X pins σ Q) X.xe s
theorem PW.pt {X:Cx}{e:Expr}{t:TT} (h:PW X e t):PT X e t:=h _
def PA (X:Cx) (es:List Expr) (t:TA):Prop :=
 ∀ (pos:Pos) (pins:List (Addr × Obj)) (s:Shared) (σ:St) (H:Hp) (Q:List V->Hp->Prop),Inv X pins σ H s->t σ H Q->wpAny (model X.prog X.w) X.A (spliced (backTo pos (starEach es X.env))) (AP X pins σ Q) X.xe s
def PS (X:Cx) (st:Stmt) (t:TS):Prop :=
 ∀ (pins:List (Addr × Obj)) (s:Shared) (σ:St) (H:Hp) (D:Ends),Inv X pins σ H s->t D σ H->wpAny (model X.prog X.w) X.A (exec st X.env) (SP X pins D) X.xe s
def PSs (X:Cx) (st:List Stmt) (t:TS):Prop :=
 ∀ (pins:List (Addr × Obj)) (s:Shared) (σ:St) (H:Hp) (D:Ends),Inv X pins σ H s->t D σ H->wpAny (model X.prog X.w) X.A (execs st X.env) (SP X pins D) X.xe s
theorem thn {α:Type}{t:Sem α}{Q Q':α->Shared->Prop}{M:Model}{A:Around}{E:Value->Shared->Prop}{s:Shared} (h:wpAny M A t Q E s) (hQ:∀ a s,Q a s->Q' a s):wpAny M A t Q' E s:=wpAny_mono h hQ fun _ _ x=>x
end L2

namespace L2
open PySem PySem.Spec PyProof.Rows
section
variable {X:Cx}

def nv (i:Nat):TE:=fun σ H Q=>∃ v,σ[i]?=some (some v)/\Q v H
def tC (v:V):TE:=fun _ H Q=>Q v H
theorem qf {i:Nat}{x:Str}{pos:Pos} (hN:X.N[i]?=some x) (hv:Vis X.env.scope x) (hd:(x == ("__debug__":Str))=false:=by decide) (hcd:(x == ("__classdict__":Str))=false:=by decide):PE X (.Name x pos) (nv i):=by
 intro pins s σ H Q I h
 obtain ⟨v,e,h⟩:=h
 obtain ⟨m,hn,hl⟩:=I.loc
 obtain ⟨u,r,l⟩:=hl i x v hN e hv
 have fin:EP X pins σ Q u s:=⟨v,H,I,r,h⟩
 rcases l with ⟨hk,hm⟩ | ⟨hk,c,hc,hcell⟩
 ·exact wpAny_Name (wpAny_loadName_local I.ok.kind hk hn hm fin) hd
 ·rcases hk with hk | hk
  ·exact wpAny_Name (wpAny_loadName_cell I.ok.kind hk hc hcell fin) hd
  ·exact wpAny_Name (wpAny_loadName_free I.ok.kind hk hc hcell fin hcd) hd
theorem ak {i j pos}:PE X (.Constant (.int i) j pos) (tC (.int i)):=fun _ _ _ H _ I h=>wpAny_Constant_int ⟨.int i,H,I.tok _,⟨_,rfl⟩,h⟩
theorem dg {b j pos}:PE X (.Constant (.bool b) j pos) (tC (.bl b)):=fun _ _ _ H _ I h=>Constant_bool ⟨.bl b,H,I,rfl,h⟩
theorem bg {j pos}:PE X (.Constant .none j pos) (tC .non):=fun _ _ _ H _ I h=>Constant_none ⟨.non,H,I,rfl,h⟩
theorem aB {x j pos}:PE X (.Constant (.str x) j pos) (tC (.str x)):=fun _ _ _ H _ I h=>Calls.Constant_str ⟨.str x,H,I.tok _,⟨_,rfl⟩,h⟩

def Gl (X:Cx) (x:Str):Prop:=X.env.kindOf x=some .globalImplicit
theorem eP {E:Value->Shared->Prop}{pins:List (Addr × Obj)}{s:Shared}{σ:St}{H:Hp}{x:Str}{u:Value}{pos:Pos}{Q:Value->Shared->Prop} (I:Inv X pins σ H s) (hg:Gl X x) (hm:X.mg x=some u) (h:Q u s)
  (hd:(x == ("__debug__":Str))=false:=by decide):wpAny (model X.prog X.w) X.A (eval (.Name x pos) X.env) Q E s :=
 Calls.Name_function_global I.ok.kind hg (Calls.loadGlobal_global (by rw [I.ok.glob];exact I.mod.glob.keeps I.bk) hm h) hd
theorem jd {E:Value->Shared->Prop}{pins:List (Addr × Obj)}{s:Shared}{σ:St}{H:Hp}{x:Str}{u:Value}{pos:Pos}{Q:Value->Shared->Prop} (I:Inv X pins σ H s) (hg:Gl X x) (hm:X.mg x=none) (hv:bootBuiltins x=some u) (h:Q u s)
  (hn:x≠"__name__":=by decide) (hd:(x == ("__debug__":Str))=false:=by decide):wpAny (model X.prog X.w) X.A (eval (.Name x pos) X.env) Q E s:=by
 obtain ⟨mb,h1,h2⟩:=I.mod.blt
 exact Calls.Name_function_global I.ok.kind hg (Calls.loadGlobal_builtin (by rw [I.ok.glob];exact I.mod.glob.keeps I.bk) hm (by rw [I.ok.blt];exact h1.keeps I.bk) ((h2 x hn).trans hv) h) hd
theorem vA {x:Str}{v:V}{u:Value}{pos:Pos} (hg:Gl X x) (hm:X.mg x=some u) (r:RelV v u) (hd:(x == ("__debug__":Str))=false:=by decide):PE X (.Name x pos) (tC v) :=
 fun _ _ _ H _ I h=>eP I hg hm ⟨v,H,I,r,h⟩ hd
theorem A6 {x:Str}{v:V}{u:Value}{pos:Pos} (hg:Gl X x) (hm:X.mg x=none) (hv:bootBuiltins x=some u) (r:RelV v u) (hn:x≠"__name__":=by decide) (hd:(x == ("__debug__":Str))=false:=by decide):PE X (.Name x pos) (tC v) :=
 fun _ _ _ H _ I h=>jd I hg hm hv ⟨v,H,I,r,h⟩ hn hd

variable {a b:Expr}{ta tb:TE}{pos:Pos}
def tB (t:TE):TT:=fun σ H Q=>t σ H fun x H1=>∃ c,x=.bl c/\Q c H1
theorem bT {e:Expr}{t:TE} (h:PE X e t) (he:∀ whole,isTrue e X.env whole=(do let v ← whole;standAt e.pos;holding [v] (truthy v)):=by intro _;rfl):PT X e (tB t):=by
 intro pins s σ H Q I hw
 refine isTrue_plain (thn (h pins s σ H _ I hw) fun v s1 ⟨x,H1,I1,r1,q1⟩=>?_) (he _)
 obtain ⟨d,rfl,q⟩:=q1
 cases r1
 exact wpAny_truthy_bool ⟨H1,I1,q⟩

variable {tA tB':TT}{rest:List Expr}
def DZ (t u:TT):TT:=fun σ H Q=>t σ H fun c H1=>if c=true then u σ H1 Q else Q false H1
def tOr (t u:TT):TT:=fun σ H Q=>t σ H fun c H1=>if c=true then Q true H1 else u σ H1 Q
def Ec (t:TT):TT:=fun σ H Q=>t σ H fun c H1=>Q (!c) H1
theorem gT (ha:PT X a tA):PW X (.BoolOp .And [a] pos) tA:=by
 intro wh pins s σ H Q I h
 refine isTrue_and (thn (ha pins s σ H Q I h) fun c s1 e=>?_)
 cases c with
 | true=>exact isTrue_and_nil e
 | false=>exact e
theorem fR (ha:PT X a tA):PW X (.BoolOp .Or [a] pos) tA:=by
 intro wh pins s σ H Q I h
 refine isTrue_or (thn (ha pins s σ H Q I h) fun c s1 e=>?_)
 cases c with
 | false=>exact isTrue_or_nil e
 | true=>exact e
theorem jj (ha:PT X a tA) (hb:PW X (.BoolOp .And (b::rest) pos) tB'):PW X (.BoolOp .And (a::b::rest) pos) (DZ tA tB'):=by
 intro wh pins s σ H Q I h
 refine isTrue_and (thn (ha pins s σ H _ I h) fun c s1 ⟨H1,I1,q1⟩=>?_)
 cases c with
 | true=>exact hb wh pins s1 σ H1 Q I1 q1
 | false=>exact ⟨H1,I1,q1⟩
theorem gM (ha:PT X a tA) (hb:PW X (.BoolOp .Or (b::rest) pos) tB'):PW X (.BoolOp .Or (a::b::rest) pos) (tOr tA tB'):=by
 intro wh pins s σ H Q I h
 refine isTrue_or (thn (ha pins s σ H _ I h) fun c s1 ⟨H1,I1,q1⟩=>?_)
 cases c with
 | true=>exact ⟨H1,I1,q1⟩
 | false=>exact hb wh pins s1 σ H1 Q I1 q1
theorem bO (ha:PT X a tA):PT X (.UnaryOp .Not a pos) (Ec tA):=by
 intro pins s σ H Q I h
 exact isTrue_not (ha pins s σ H (fun c H1=>Q (!c) H1) I h)
def BN (ta tb:TE):TE:=fun σ H Q=>ta σ H fun x H1=>∃ c,x=.bl c/\if c=true then tb σ H1 Q else Q (.bl false) H1
def BU (ta:TE):TE:=fun σ H Q=>ta σ H fun x H1=>∃ c,x=.bl c/\Q (.bl (!c)) H1
theorem fQ {op}{t:TE} (h:PE X a t):PE X (.BoolOp op [a] pos) t:=fun pins s σ H Q I hw=>BoolOp_one (h pins s σ H Q I hw)
theorem fO (ha:PE X a ta) (hb:PE X (.BoolOp .And (b::rest) pos) tb):PE X (.BoolOp .And (a::b::rest) pos) (BN ta tb):=by
 intro pins s σ H Q I h
 refine BoolOp_and (thn (ha pins s σ H _ I h) fun v s1 ⟨x,H1,I1,r1,q1⟩=>?_)
 obtain ⟨c,rfl,q1⟩:=q1
 cases r1
 refine wpAny_truthy_bool ?_
 cases c with
 | true=>exact hb pins s1 σ H1 Q I1 q1
 | false=>exact ⟨.bl false,H1,I1,rfl,q1⟩
theorem qe (ha:PE X a ta):PE X (.UnaryOp .Not a pos) (BU ta):=by
 intro pins s σ H Q I h
 refine UnaryOp_ (thn (ha pins s σ H _ I h) fun v s1 ⟨x,H1,I1,r1,q1⟩=>?_)
 obtain ⟨c,rfl,q1⟩:=q1
 cases r1
 exact not_of (wpAny_truthy_bool ⟨.bl (!c),H1,I1,rfl,q1⟩)
def tIf (t:TT) (ta tb:TE):TE:=fun σ H Q=>t σ H fun c H1=>if c=true then ta σ H1 Q else tb σ H1 Q
theorem i3 {c:Expr} (hc:PT X c tA) (ha:PE X a ta) (hb:PE X b tb):PE X (.IfExp c a b pos) (tIf tA ta tb):=by
 intro pins s σ H Q I h
 refine wpAny_IfExp (thn (hc pins s σ H _ I h) fun d s1 ⟨H1,I1,q1⟩=>?_)
 cases d with
 | true=>exact ha pins s1 σ H1 Q I1 q1
 | false=>exact hb pins s1 σ H1 Q I1 q1
end
end L2

namespace L2
open PySem PySem.Spec PyProof.Rows

def SqL (K:PySem.W.Frag) (H:Hp) (a:Addr) (xs:List V):Prop :=
 Rd H a (.lst xs) ∨
  ∃ (o:Obj) (its:Array Value) (n:Nat),K.lookup a=some o/\o.cls=.type "list"/\o.dict=none/\o.data=.seq its n/\its.size<=sizeLine/\Vals xs its.toList
def SqT (K:PySem.W.Frag) (H:Hp) (a:Addr) (xs:List V):Prop :=
 Rd H a (.tup xs) ∨
  ∃ (o:Obj) (its:Array Value) (n:Nat),K.lookup a=some o/\o.cls=.type "tuple"/\o.data=.seq its n/\its.size<=sizeLine/\Vals xs its.toList
def Ey:Value->Option V
 | .none=>some .non
 | .bool b=>some (.bl b)
 | .int i _=>some (.int i)
 | .str x _=>some (.str x)
 | .bytes b _=>some (.byt b)
 | .float b _=>some (.flt b)
 | .ref a=>some (.ref a)
 | .type n=>some (.ty n)
 | _=>none
theorem RelV.abs {x:V}{u:Value} (r:RelV x u):Ey u=some x:=by
 cases x with
 | non=>cases r;rfl
 | bl _=>cases r;rfl
 | int _=>obtain ⟨t,rfl⟩:=r;rfl
 | str _=>obtain ⟨t,rfl⟩:=r;rfl
 | byt _=>obtain ⟨t,rfl⟩:=r;rfl
 | flt _=>obtain ⟨t,rfl⟩:=r;rfl
 | ref _=>cases r;rfl
 | ty _=>cases r;rfl
theorem RelV.inj {x y:V}{u:Value} (r:RelV x u) (q:RelV y u):x=y:=Option.some.inj (r.abs.symm.trans q.abs)
theorem Vals.inj:∀ {xs ys:List V}{us:List Value},Vals xs us->Vals ys us->xs=ys
 | _,_,_,.nil,.nil=>rfl
 | _,_,_,.cons r t,.cons r' t'=>by rw [r.inj r',Vals.inj t t']
section
variable {X:Cx}{pins:List (Addr × Obj)}{σ:St}{H:Hp}{s:Shared}{a:Addr}{xs ys:List V}
theorem SqL.of {K:PySem.W.Frag} (h:H a=some (.lst xs)):SqL K H a xs:=.inl (.inl h)
theorem SqT.of {K:PySem.W.Frag} (h:H a=some (.tup xs)):SqT K H a xs:=.inl (.inl h)
theorem Inv.list (I:Inv X pins σ H s) (h:SqL X.K H a xs):∃ its:List Value,Vals xs its/\PlainL s.heap a its.toArray/\xs.length<=sizeLine:=by
 rcases h with h | ⟨o,its,n,hk,hc,hd,hs,hz,r⟩
 ·obtain ⟨z,its,n,r,e⟩:=h.ok I.hok
  exact ⟨its,r,⟨_,n,e,rfl,rfl,rfl⟩,z⟩
 ·refine ⟨its.toList,r,⟨o,n,I.kIn a o hk,hc,hd,by simpa using hs⟩,?_⟩
  have e:=r.length
  simp only [Array.length_toList] at e
  omega
theorem Inv.tuple (I:Inv X pins σ H s) (h:SqT X.K H a xs):∃ its:List Value,Vals xs its/\IsTup s.heap a its.toArray/\xs.length<=sizeLine:=by
 rcases h with h | ⟨o,its,n,hk,hc,hs,hz,r⟩
 ·obtain ⟨z,its,r,p⟩:=h.ok I.hok
  exact ⟨its,r,p,z⟩
 ·refine ⟨its.toList,r,⟨o,I.kIn a o hk,hc,n,by simpa using hs⟩,?_⟩
  have e:=r.length
  simp only [Array.length_toList] at e
  omega
theorem Inv.j8 (I:Inv X pins σ H s) (h:SqL X.K H a xs) (h':SqL X.K H a ys):xs=ys:=by
 obtain ⟨its,r,⟨o,n,e,_,_,d⟩,_⟩:=I.list h
 obtain ⟨its',r',⟨o',n',e',_,_,d'⟩,_⟩:=I.list h'
 rw [e] at e';cases e'
 rw [d] at d'
 injection d' with d1 _
 have:its=its':=by simpa using congrArg Array.toList d1
 subst this
 exact r.inj r'
theorem Inv.xx (I:Inv X pins σ H s) (h:SqT X.K H a xs) (h':SqT X.K H a ys):xs=ys:=by
 obtain ⟨its,r,⟨o,e,_,n,d⟩,_⟩:=I.tuple h
 obtain ⟨its',r',⟨o',e',_,n',d'⟩,_⟩:=I.tuple h'
 rw [e] at e';cases e'
 rw [d] at d'
 injection d' with d1 _
 have:its=its':=by simpa using congrArg Array.toList d1
 subst this
 exact r.inj r'
end

abbrev Cx.lu (X:Cx) (E:Value->Shared->Prop):Cx:={ X with xe:=E }
abbrev Cx.nox (X:Cx):Cx:=X.lu fun _ _=>False
theorem Cx.Ok.lu {X:Cx} (ok:X.Ok) (E:Value->Shared->Prop):(X.lu E).Ok :=
 ⟨ok.mod,ok.kind,ok.glob,ok.blt,ok.above,ok.inj,ok.has,ok.cab,ok.hd,ok.frames,ok.stk,ok.exf,ok.bs,ok.bsz,ok.noex,ok.exfs,ok.ik,ok.frf⟩
theorem Cx.Ok.gC {X:Cx}{E:Value->Shared->Prop} (ok:(X.lu E).Ok):X.Ok :=
 ⟨ok.mod,ok.kind,ok.glob,ok.blt,ok.above,ok.inj,ok.has,ok.cab,ok.hd,ok.frames,ok.stk,ok.exf,ok.bs,ok.bsz,ok.noex,ok.exfs,ok.ik,ok.frf⟩
section
variable {X:Cx}{pins:List (Addr × Obj)}{σ:St}{H:Hp}{s:Shared}{E:Value->Shared->Prop}
theorem Inv.lu (I:Inv X pins σ H s) (E:Value->Shared->Prop):Inv (X.lu E) pins σ H s:=⟨I.ok.lu E,I.os,I.bare,I.base,I.loc,I.cell,I.free,I.freeC,I.pin,I.hok,I.len⟩
theorem Inv.gC (I:Inv (X.lu E) pins σ H s):Inv X pins σ H s:=⟨I.ok.gC,I.os,I.bare,I.base,I.loc,I.cell,I.free,I.freeC,I.pin,I.hok,I.len⟩
theorem SP.gC {D:Ends}{f:Flow}{s':Shared} (h:SP (X.lu E) pins D f s'):SP X pins D f s':=by
 cases f with
 | next=>obtain ⟨σ',H',I,q⟩:=h;exact ⟨σ',H',I.gC,q⟩
 | brk=>obtain ⟨σ',H',I,q⟩:=h;exact ⟨σ',H',I.gC,q⟩
 | cont=>obtain ⟨σ',H',I,q⟩:=h;exact ⟨σ',H',I.gC,q⟩
 | ret u=>obtain ⟨v,σ',H',I,r,q⟩:=h;exact ⟨v,σ',H',I.gC,r,q⟩
theorem PE.nox {e:Expr}{t:TE} (h:PE X.nox e t):PE X e t:=fun pins s σ H Q I hw =>
 wpAny_mono (h pins s σ H Q (I.lu _) hw) (fun _ _ ⟨v,H',I',r,q⟩=>⟨v,H',I'.gC,r,q⟩) fun _ _ z=>False.elim z
theorem PT.nox {e:Expr}{t:TT} (h:PT X.nox e t):PT X e t:=fun pins s σ H Q I hw =>
 wpAny_mono (h pins s σ H Q (I.lu _) hw) (fun _ _ ⟨H',I',q⟩=>⟨H',I'.gC,q⟩) fun _ _ z=>False.elim z
theorem PSs.nox {st:List Stmt}{t:TS} (h:PSs X.nox st t):PSs X st t:=fun pins s σ H D I hw =>
 wpAny_mono (h pins s σ H D (I.lu _) hw) (fun _ _ q=>q.gC) fun _ _ z=>False.elim z
end

section
variable {X:Cx}{st:Stmt}{rest:List Stmt}{t u:TS}{e:Expr}{te:TE}{pos:Pos}
def zI:TS:=fun D σ H=>D.nx σ H
def zJ (t u:TS):TS:=fun D σ H=>t { D with nx:=u D } σ H
theorem aK:PSs X [] zI:=fun _ _ σ H _ I h=>wpAny_execs_nil ⟨σ,H,I,h⟩
theorem af (h1:PS X st t) (h2:PSs X rest u):PSs X (st::rest) (zJ t u):=by
 intro pins s σ H D I h
 refine wpAny_execs_cons (thn (h1 pins s σ H { D with nx:=u D } I h) fun f s1 q=>?_)
 cases f with
 | next =>
  obtain ⟨σ',H',I',q⟩:=q
  exact h2 pins s1 σ' H' D I' q
 | ret v=>exact q
 | brk=>exact q
 | cont=>exact q
theorem ai (h1:PS X st t):PSs X [st] t:=by
 intro pins s σ H D I h
 refine wpAny_execs_cons (thn (h1 pins s σ H D I h) fun f s1 q=>?_)
 cases f with
 | next=>exact wpAny_execs_nil q
 | ret v=>exact q
 | brk=>exact q
 | cont=>exact q
theorem Inv.quiet {pins:List (Addr × Obj)}{σ:St}{H:Hp}{s:Shared} (I:Inv X pins σ H s):interactive X.env=false:=by simp [interactive,I.ok.kind]
def BO (te:TE):TS:=fun D σ H=>te σ H fun _ H1=>D.nx σ H1
theorem di (he:PE X e te) (hs:swapsWith e none pos.line X.env=pure false:=by rfl):PS X (.Expr e pos) (BO te):=by
 intro pins s σ H D I h
 exact wpAny_Expr_any (thn (he pins s σ H _ I h) fun v s1 ⟨x,H1,I1,r1,q1⟩=>⟨σ,H1,I1,q1⟩) I.quiet hs
def Dw (te:TE):TS:=fun D σ H=>te σ H D.rt
theorem aF (he:PE X e te):PS X (.Return (some e) pos) (Dw te):=by
 intro pins s σ H D I h
 exact wpAny_Return_some (thn (he pins s σ H _ I h) fun v s1 ⟨x,H1,I1,r1,q1⟩=>⟨x,σ,H1,I1,r1,q1⟩)
def Dv (c:TT) (t u:TS):TS:=fun D σ H=>c σ H fun b H1=>if b=true then t D σ H1 else u D σ H1
theorem aS {c:Expr}{a b:List Stmt}{tc:TT} (hc:PT X c tc) (ha:PSs X a t) (hb:PSs X b u):PS X (.If c a b pos) (Dv tc t u):=by
 intro pins s σ H D I h
 refine wpAny_If (thn (hc pins s σ H _ I h) fun d s1 ⟨H1,I1,q1⟩=>?_)
 cases d with
 | true=>exact ha pins s1 σ H1 D I1 q1
 | false=>exact hb pins s1 σ H1 D I1 q1
end

abbrev TG:=V->St->Hp->(St->Hp->Prop)->Prop
abbrev TGs:=List V->St->Hp->(St->Hp->Prop)->Prop
def PG (X:Cx) (target:Expr) (t:TG):Prop :=
 ∀ (pins:List (Addr × Obj)) (s:Shared) (σ:St) (H:Hp) (v:V) (u:Value) (Q:St->Hp->Prop),Inv X pins σ H s->RelV v u->t v σ H Q →
  wpAny (model X.prog X.w) X.A (assign target X.env u) (fun _ s'=>∃ σ' H',Inv X pins σ' H' s'/\Q σ' H') X.xe s
def PGs (X:Cx) (ts:List Expr) (t:TGs):Prop :=
 ∀ (pins:List (Addr × Obj)) (s:Shared) (σ:St) (H:Hp) (vs:List V) (us:List Value) (Q:St->Hp->Prop),Inv X pins σ H s->Vals vs us->t vs σ H Q →
  wpAny (model X.prog X.w) X.A (assignInOrder ((assignEach ts X.env).map (·.2)) us) (fun _ s'=>∃ σ' H',Inv X pins σ' H' s'/\Q σ' H') X.xe s
abbrev Ex:=V->V->V->Hp->(Hp->Prop)->Prop
def Eu (X:Cx) (t:Ex):Prop :=
 ∀ (pins:List (Addr × Obj)) (s:Shared) (σ:St) (H:Hp) (o i v:V) (ov iv u:Value) (Q:Hp->Prop),Inv X pins σ H s->RelV o ov->RelV i iv->RelV v u->t o i v H Q →
  wpAny (model X.prog X.w) X.A (setItem ov iv u) (fun _ s'=>∃ H',Inv X pins σ H' s'/\Q H') X.xe s
section
variable {X:Cx}{pos:Pos}
def dH (i:Nat):TG:=fun v σ H Q=>Q (σ.set i (some v)) H
theorem AE {i:Nat}{x:Str} (hN:X.N.Nodup) (hi:X.N[i]?=some x) (hx:Loc X.env.scope x) (hf:X.fn x=true ∨ X.env.scope.names.lookup x=some .local:=by first | exact .inl rfl | exact .inr rfl | assumption):PG X (.Name x pos) (dH i):=by
 intro pins s σ H v u Q I r h
 exact wpAny_assign_Name (gb I hN hi hx r (fun s' I'=>⟨_,H,I',h⟩) hf)
def yr:TGs:=fun vs σ H Q=>vs=[]/\Q σ H
def kI (t:TG) (u:TGs):TGs:=fun vs σ H Q=>∃ v r,vs=v::r/\t v σ H fun σ' H'=>u r σ' H' Q
theorem gf:PGs X [] yr:=by
 intro pins s σ H vs us Q I r h
 obtain ⟨e,h⟩:=h
 subst e
 cases r
 exact assignInOrder_nil ⟨σ,H,I,h⟩
theorem bu {e:Expr}{es:List Expr}{t:TG}{u:TGs} (h1:PG X e t) (h2:PGs X es u)
  (hs:(assignEach (e::es) X.env).map (·.2)=assign e X.env::(assignEach es X.env).map (·.2):=by rfl):PGs X (e::es) (kI t u):=by
 intro pins s σ H vs us Q I r h
 obtain ⟨v,vr,e1,h⟩:=h
 subst e1
 cases r with
 | cons r rr =>
  rw [hs]
  refine assignInOrder_cons (thn (h1 pins s σ H _ _ _ I r h) fun _ s1 ⟨σ1,H1,I1,q1⟩=>?_)
  exact h2 pins s1 σ1 H1 _ _ Q I1 rr q1
def yt (K:PySem.W.Frag) (n:Nat) (t:TGs):TG:=fun v σ H Q=>∃ a xs,v=.ref a/\SqT K H a xs/\xs.length=n/\t xs σ H Q
theorem zf {es:List Expr}{k:Nat}{t:TGs}{n:Nat} (hc:X.calm=true) (h:PGs X es t)
  (hn:(assignEach es X.env).length=n:=by rfl) (hst:(assignEach es X.env).findIdx? (·.1)=none:=by rfl):PG X (.Tuple es k pos) (yt X.K n t):=by
 intro pins s σ H v u Q I r hw
 obtain ⟨a,xs,e1,hq,hl,hw⟩:=hw
 subst e1
 cases r
 obtain ⟨its,rv,ht,hz⟩:=I.tuple hq
 refine assign_Tuple_tuple (I.ok.hd hc) ht (by simp [hn,← hl,rv.length]) hst fun h' hx=>?_
 have I1:Inv X pins σ H { s with heap:=h' }:=I.kept (t':=s.toks) fun b o e=>hx b o (Nat.ne_of_lt (Heap.lt_size e)) e
 exact h pins _ σ H xs _ Q I1 (by simpa using rv) hw
def xu (te:TE) (g:TG):TS:=fun D σ H=>te σ H fun x H1=>g x σ H1 D.nx
theorem tO {tg e:Expr}{te:TE}{g:TG} (he:PE X e te) (hg:PG X tg g) (hs:swapsWithSole [tg] e pos.line X.env=pure false:=by rfl) (hw:swappedStores [tg] e X.env=pure none:=by rfl)
  (h1:(assignEach [tg] X.env).map (·.2)=[assign tg X.env]:=by rfl):PS X (.Assign [tg] e pos) (xu te g):=by
 intro pins s σ H D I h
 refine wpAny_Assign_stores (thn (he pins s σ H _ I h) fun v s1 ⟨x,H1,I1,r1,q1⟩=>?_) hs hw
 rw [h1]
 exact thn (hg pins s1 σ H1 x v _ I1 r1 q1) fun _ s2 q=>q
theorem zi {i:Nat}{x:Str}{e:Expr}{te:TE}{pos':Pos} (hN:X.N.Nodup) (hi:X.N[i]?=some x) (hx:Loc X.env.scope x) (he:PE X e te) (hs:swapsWith e (some (.Name x pos')) pos.line X.env=pure false:=by rfl) (hf:X.fn x=true ∨ X.env.scope.names.lookup x=some .local:=by first | exact .inl rfl | exact .inr rfl | assumption) :
  PS X (.Assign [.Name x pos'] e pos) (xu te (dH i)):=by
 intro pins s σ H D I h
 refine wpAny_Assign_Name (thn (he pins s σ H _ I h) fun v s1 ⟨y,H1,I1,r1,q1⟩=>?_) hs
 exact gb I1 hN hi hx r1 (fun s2 I2=>⟨_,H1,I2,q1⟩) hf
def Ed (i j:Nat) (ta:TA):TS:=fun D σ H=>ta σ H fun vs H1=>∃ v w,vs=[v,w]/\D.nx ((σ.set i (some v)).set j (some w)) H1
theorem Dj {i j:Nat}{x y:Str}{a b:Expr}{ta:TA}{px py pt:Pos}{kt k2 pt2} (hc:X.calm=true) (hN:X.N.Nodup) (hi:X.N[i]?=some x) (hj:X.N[j]?=some y) (hij:i≠j)
  (hx:X.env.scope.names.lookup x=some .local) (hy:X.env.scope.names.lookup y=some .local) (ha:PA X [a,b] ta)
  (hw:swappedStores [.Tuple [.Name x px,.Name y py] kt pt] (.Tuple [a,b] k2 pt2) X.env=pure (some [x,y]))
  (hs:swapsWithSole [.Tuple [.Name x px,.Name y py] kt pt] (.Tuple [a,b] k2 pt2) pos.line X.env=pure false:=by rfl) :
  PS X (.Assign [.Tuple [.Name x px,.Name y py] kt pt] (.Tuple [a,b] k2 pt2) pos) (Ed i j ta):=by
 intro pins s σ H D I h
 rw [exec_Assign_arm]
 refine wpAny_bind (wpAny_standAt ?_)
 rw [hs]
 refine wpAny_bind (wpAny_pure ?_)
 rw [if_neg (by decide)]
 refine wpAny_bind (Tuple_ (thn (ha _ pins s σ H _ I h) fun us s1 ⟨vs,H1,I1,r1,q1⟩=>?_))
 obtain ⟨v,w,e1,q1⟩:=q1
 subst e1
 obtain ⟨u1,u2,rfl,rv,rw'⟩:∃ u1 u2,us=[u1,u2]/\RelV v u1/\RelV w u2:=by
  cases r1 with
  | cons p q =>
   cases q with
   | cons p' q' =>
    cases q'
    exact ⟨_,_,rfl,p,p'⟩
 refine wpAny_newObj_type ?_ (by show 2<=sizeLine;decide)
 have I2:Inv X pins σ H1 { s1 with heap:=s1.heap.push { cls:=.type "tuple",data:=.seq [u1,u2].toArray } }:=I1.kept (t':=s1.toks) fun b o e=>Heap.get?_push_of_some _ e
 rw [hw]
 refine wpAny_bind (wpAny_pure ?_)
 show wpAny (model X.prog X.w) X.A (do rule "assign.swapped-stores";let items ← unpackItems (.ref s1.heap.objs.size) 2 none;assignInOrder [fun v=>bindName X.env y v,fun v=>bindName X.env x v] items.reverse;pure Flow.next) _ _ _
 refine wpAny_bind (wpAny_rule (wpAny_bind (unpackItems_tuple (items:=#[u1,u2]) (I.ok.hd hc) (IsTup.new s1.heap _) fun h' hx'=>?_)))
 have I3:=I2.kept (h':=h') (t':=s1.toks) fun b o e=>hx' b o (Nat.ne_of_lt (Heap.lt_size e)) e
 show wpAny _ _ (assignInOrder [fun v=>bindName X.env y v,fun v=>bindName X.env x v] [u2,u1] >>= fun _=>pure Flow.next) _ _ _
 refine wpAny_bind (assignInOrder_cons (wpAny_bindName (gb I3 hN hj (.inl hy) rw' (fun s2 I4=>?_) (.inr hy))))
 refine assignInOrder_cons (wpAny_bindName (gb I4 hN hi (.inl hx) rv (fun s3 I5=>assignInOrder_nil (wpAny_pure ?_)) (.inr hx)))
 rw [List.set_comm _ _ (Ne.symm hij)] at I5
 exact ⟨_,H1,I5,q1⟩
end

section
variable {X:Cx}{pos:Pos}
def zK (c:TT) (tb:TS):TS:=fun D σ H=>∃ W:Nat->St->Hp->Prop,(∃ m,W m σ H)/\∀ m σ H,W m σ H →
 c σ H fun b H1=>if b=true then ∃ N:St->Hp->Prop,(∀ σ' H',N σ' H'->∃ m',m' < m/\W m' σ' H')/\tb { D with nx:=N,ct:=N,bk:=D.nx } σ H1 else D.nx σ H1
theorem mT {c:Expr}{body:List Stmt}{tc:TT}{tb:TS} (hp:PassesOwn (model X.prog X.w) X.A X.env X.xe) (hc:PT X c tc) (hb:PSs X body tb):PS X (.While c body [] pos) (zK tc tb):=by
 intro pins s σ H D I h
 obtain ⟨W,⟨m0,w0⟩,turn⟩:=h
 refine wpAny_While (codeAny_whileLoop (fun n s'=>∃ σ' H',Inv X pins σ' H' s'/\W n σ' H') ?_ m0 ⟨σ,H,I,w0⟩)
 rintro n s1 ⟨σ1,H1,I1,w1⟩
 refine wpAny_passesOwn hp (thn (hc pins s1 σ1 H1 _ I1 (turn n σ1 H1 w1)) fun b s2 ⟨H2,I2,q2⟩=>?_)
 cases b with
 | true =>
  obtain ⟨N,hN,q2⟩:=q2
  rw [if_pos rfl]
  refine wpAny_passesOwn hp (thn (hb pins s2 σ1 H2 _ I2 q2) fun f s3 q3=>?_)
  cases f with
  | next =>
   obtain ⟨σ3,H3,I3,n3⟩:=q3
   obtain ⟨m',hm,w3⟩:=hN σ3 H3 n3
   exact ⟨m',hm,σ3,H3,I3,w3⟩
  | cont =>
   obtain ⟨σ3,H3,I3,n3⟩:=q3
   obtain ⟨m',hm,w3⟩:=hN σ3 H3 n3
   exact ⟨m',hm,σ3,H3,I3,w3⟩
  | brk=>exact q3
  | ret v=>exact q3
 | false =>
  rw [if_neg Bool.false_ne_true]
  exact wpAny_execs_nil ⟨σ1,H2,I2,q2⟩
end

structure It where
 go:Nat->Hp->Prop
 yld:Nat->Hp->V->Hp->Prop
 stop:Nat->Hp->Prop
def kW (X:Cx) (pins:List (Addr × Obj)) (H:Hp) (b:Addr):Prop :=
 H b=none/\b≠X.env.locals/\b ∉ X.fs/\(b∈X.ex ∨ X.s₀.heap.objs.size<=b)/\(∀ x c,X.env.cells.lookup x=some c->c≠b)/\∀ p∈X.pn++pins,p.1≠b
theorem Inv.rh {X:Cx}{pins:List (Addr × Obj)}{σ:St}{H H':Hp}{s:Shared}{b:Addr} (I:Inv X pins σ H s) (hb:s.heap.objs.size<=b) (hn:H' b=none):kW X pins H' b:=by
 refine ⟨hn,Nat.ne_of_gt (Nat.lt_of_lt_of_le I.lt hb),I.E6 hb,.inr (Nat.le_trans I.sz hb),fun x c e z=>?_,fun p hp z=>?_⟩
 ·obtain ⟨v,q⟩:=I.cell x c e
  exact absurd (Nat.lt_of_lt_of_le q.lt (by rw [z];exact hb)) (Nat.lt_irrefl _)
 ·exact absurd (Nat.lt_of_lt_of_le (Heap.lt_size (I.pin p hp).1) (by rw [z];exact hb)) (Nat.lt_irrefl _)
structure Turn (P:Program) (w:World) (K:PySem.W.Frag) (tg:Expr) (J:It) (fp:List Addr) (it:Addr) (tn:Nat->Heap->Prop):Prop where
 mem:it∈fp
 obj:∀ i h,tn i h->∀ b∈fp,∃ o,h.get? b=some o/\∀ v,o.data≠.cell v
 keep:∀ i h h',tn i h->(∀ b∈fp,∀ o,h.get? b=some o->h'.get? b=some o)->tn i h'
 item:∀ (X:Cx),X.prog=P->X.w=w->X.K=K->X.calm=true->∀ (i:Nat) (pins:List (Addr × Obj)) (s:Shared) (σ:St) (H:Hp) (E:Value->Shared->Prop),Inv X pins σ H s->(∀ b∈fp,kW X pins H b)->tn i s.heap->J.go i H →
  wpAny (model P w) X.A (pyNext (.ref it)) (fun r s1=>∃ u,r=some u ∧
   wpAny (model P w) X.A (letOwnedTupleGo tg (.ref it) u) (fun _ s2=>∃ x H',Inv X pins σ H' s2/\RelV x u/\J.yld i H x H'/\tn (i + 1) s2.heap/\∀ b∈fp,H' b=none) E s1) E s
 done:∀ (X:Cx),X.prog=P->X.w=w->X.K=K->X.calm=true->∀ (i:Nat) (pins:List (Addr × Obj)) (s:Shared) (σ:St) (H:Hp) (E:Value->Shared->Prop),Inv X pins σ H s->(∀ b∈fp,kW X pins H b)->tn i s.heap->J.stop i H →
  wpAny (model P w) X.A (pyNext (.ref it)) (fun r s1=>r=none/\Inv X pins σ H s1) E s
 self:∀ (A:Around) (i:Nat) (s:Shared) (Q:Value->Shared->Prop) (E:Value->Shared->Prop),tn i s.heap->Q (.ref it) s->wpAny (model P w) A (pyIter (.ref it)) Q E s
abbrev TI:=St->Hp->(It->Hp->Prop)->Prop
def PIE (X:Cx) (pins:List (Addr × Obj)) (σ:St) (tg:Expr) (R:It->Hp->Prop) (itv:Value) (s2:Shared):Prop :=
 ∃ (it:Addr) (fp:List Addr) (tn:Nat->Heap->Prop) (J:It) (H':Hp),itv=.ref it/\Inv X pins σ H' s2/\Turn X.prog X.w X.K tg J fp it tn/\tn 0 s2.heap/\(∀ b∈fp,kW X pins H' b)/\R J H'
def PI (X:Cx) (tg iter:Expr) (wi:TI):Prop :=
 ∀ (pins:List (Addr × Obj)) (s:Shared) (σ:St) (H:Hp) (R:It->Hp->Prop),Inv X pins σ H s->wi σ H R →
  wpAny (model X.prog X.w) X.A (eval iter X.env) (fun v s1=>wpAny (model X.prog X.w) X.A (pyIter v) (PIE X pins σ tg R) X.xe s1) X.xe s

theorem vt {M:Model}{A:Around}{E:Value->Shared->Prop}{s:Shared}{tg:Expr}{it:Addr}{u:Value}{o:Obj}{n:String}{vs:Array Value}{Q:Unit->Shared->Prop} (ho:s.heap.get? it=some o) (hc:o.cls=.type n) (hd:o.data=.fields vs)
  (hn:["enumerate","zip","dict_itemiterator","dict_reverseitemiterator","odict_iterator","itertools.zip_longest","itertools.pairwise"].contains n=false) (hQ:Q () s):wpAny M A (letOwnedTupleGo tg (.ref it) u) Q E s:=by
 unfold letOwnedTupleGo
 cases tg <;> first
  | exact wpAny_pure hQ
  | (cases u <;> first
    | exact wpAny_pure hQ
    | (refine wpAny_bind (wpAny_load ho ?_)
       rw [hc,hd]
       show wpAny M A (if (["enumerate","zip","dict_itemiterator","dict_reverseitemiterator","odict_iterator","itertools.zip_longest","itertools.pairwise"].contains n && vs[0]? == some (rawInt _))=true then _ else _) Q E s
       rw [if_neg (by intro h;rw [hn,Bool.false_and] at h;cases h)]
       exact wpAny_pure hQ))

def Itl (K:PySem.W.Frag) (a:Addr):It :=
 ⟨fun i H=>∃ xs x,SqL K H a xs/\xs[i]?=some x,fun i H x H'=>H'=H/\∀ xs,SqL K H a xs->xs[i]?=some x,fun i H=>∃ xs,SqL K H a xs/\xs.length<=i⟩
def Itt (K:PySem.W.Frag) (a:Addr):It :=
 ⟨fun i H=>∃ xs x,SqT K H a xs/\xs[i]?=some x,fun i H x H'=>H'=H/\∀ xs,SqT K H a xs->xs[i]?=some x,fun i H=>∃ xs,SqT K H a xs/\xs.length<=i⟩
def Itr (lo:Int) (n:Nat):It:=⟨fun i _=>i < n,fun i H x H'=>H'=H/\x=.int (lo + i),fun i _=>n<=i⟩
theorem x9 {P:Program}{w:World}{K:PySem.W.Frag}{tg:Expr} (a it:Addr):Turn P w K tg (Itl K a) [it] it (fun i h=>h.IsListIter it a i) where
 mem:=by simp
 obj:=fun i h st b hb=>by
  have e:b=it:=by simpa using hb
  subst e
  obtain ⟨o,e,c,d⟩:=st
  exact ⟨o,e,fun v z=>by rw [d] at z;cases z⟩
 keep:=fun i h h' st k=>st.at fun o e=>k it (by simp) o e
 item:=by
  intro X hP hw hK hc i pins s σ H E I hf st hg
  subst hP hw hK
  obtain ⟨xs,x,hq,hx⟩:=hg
  obtain ⟨its,rv,p,hz⟩:=I.list hq
  obtain ⟨u,hu,ru⟩:=rv.get hx
  obtain ⟨f0,f1,f2,f3,f4,f5⟩:=hf it (by simp)
  refine wpAny_pyNext_list_item st p.isList (x:=u) (by simpa using hu) fun h' st' sb=>?_
  have I1:Inv X pins σ H { s with heap:=h' }:=I.turned (t':=s.toks) (fun b o hb e=>(sb.2 b hb).trans e) f0 f1 f3 f4 f5
  obtain ⟨o,e,c,d⟩:=id st'
  exact ⟨u,rfl,vt (s:={ s with heap:=h' }) e c d (by decide) ⟨x,H,I1,ru,⟨rfl,fun ys hy=>by rw [I.j8 hy hq];exact hx⟩,st',fun b hb=>(hf b hb).1⟩⟩
 done:=by
  intro X hP hw hK hc i pins s σ H E I hf st hg
  subst hP hw hK
  obtain ⟨xs,hq,hx⟩:=hg
  obtain ⟨its,rv,p,hz⟩:=I.list hq
  obtain ⟨f0,f1,f2,f3,f4,f5⟩:=hf it (by simp)
  have hl:=rv.length
  exact wpAny_pyNext_list_end (I.ok.hd hc) st p.isList (by simp;omega) fun h' eb=>⟨rfl,I.turned (t':=s.toks) (fun b o hb e=>eb b o hb e) f0 f1 f3 f4 f5⟩
 self:=fun _ _ _ _ _ st h=>wpAny_pyIter_listiter st h
theorem uh {P:Program}{w:World}{K:PySem.W.Frag}{tg:Expr} (a it:Addr):Turn P w K tg (Itt K a) [it] it (fun i h=>h.IsTupleIter it a i) where
 mem:=by simp
 obj:=fun i h st b hb=>by
  have e:b=it:=by simpa using hb
  subst e
  obtain ⟨o,e,c,d⟩:=st
  exact ⟨o,e,fun v z=>by rw [d] at z;cases z⟩
 keep:=fun i h h' st k=>st.at fun o e=>k it (by simp) o e
 item:=by
  intro X hP hw hK hc i pins s σ H E I hf st hg
  subst hP hw hK
  obtain ⟨xs,x,hq,hx⟩:=hg
  obtain ⟨its,rv,p,hz⟩:=I.tuple hq
  obtain ⟨u,hu,ru⟩:=rv.get hx
  obtain ⟨f0,f1,f2,f3,f4,f5⟩:=hf it (by simp)
  refine wpAny_pyNext_tuple_item st (show s.heap.IsTuple a its.toArray from p) (x:=u) (by simpa using hu) fun h' st' sb=>?_
  have I1:Inv X pins σ H { s with heap:=h' }:=I.turned (t':=s.toks) (fun b o hb e=>(sb.2 b hb).trans e) f0 f1 f3 f4 f5
  obtain ⟨o,e,c,d⟩:=id st'
  exact ⟨u,rfl,vt (s:={ s with heap:=h' }) e c d (by decide) ⟨x,H,I1,ru,⟨rfl,fun ys hy=>by rw [I.xx hy hq];exact hx⟩,st',fun b hb=>(hf b hb).1⟩⟩
 done:=by
  intro X hP hw hK hc i pins s σ H E I hf st hg
  subst hP hw hK
  obtain ⟨xs,hq,hx⟩:=hg
  obtain ⟨its,rv,p,hz⟩:=I.tuple hq
  obtain ⟨f0,f1,f2,f3,f4,f5⟩:=hf it (by simp)
  have hl:=rv.length
  exact wpAny_pyNext_tuple_end (I.ok.hd hc) st (show s.heap.IsTuple a its.toArray from p) (by simp;omega) fun h' eb=>⟨rfl,I.turned (t':=s.toks) (fun b o hb e=>eb b o hb e) f0 f1 f3 f4 f5⟩
 self:=fun _ _ _ _ _ st h=>wpAny_pyIter_tupleiter st h
theorem ug {P:Program}{w:World}{K:PySem.W.Frag}{tg:Expr} (it:Addr) (lo:Int) (n:Nat):Turn P w K tg (Itr lo n) [it] it (fun i h=>IsRangeIter h it (lo + (i:Nat) * 1) ((n:Int) - (i:Nat)) 1) where
 mem:=by simp
 obj:=fun i h st b hb=>by
  have e:b=it:=by simpa using hb
  subst e
  exact ⟨_,st,fun v z=>by
   have z':Data.fields _=Data.cell v:=z
   cases z'⟩
 keep:=fun i h h' st k=>k it (by simp) _ st
 item:=by
  intro X hP hw hK hc i pins s σ H E I hf st hg
  subst hP hw hK
  obtain ⟨f0,f1,f2,f3,f4,f5⟩:=hf it (by simp)
  have W:=Walks.range (prog:=X.prog) (w:=X.w) (I.ok.hd hc) it lo 1 n
  refine W.item i s _ _ hg st fun v h' tk hv st' kk=>?_
  obtain ⟨t,rfl⟩:=hv
  have I1:Inv X pins σ H { s with heap:=h',toks:=tk }:=I.turned (fun b o hb e=>kk b o (by simpa using hb) e) f0 f1 f3 f4 f5
  refine ⟨_,rfl,vt (s:={ s with heap:=h',toks:=tk }) (n:="range_iterator") st' rfl rfl (by decide) ⟨.int (lo + i),H,I1,⟨t,?_⟩,⟨rfl,rfl⟩,st',fun b hb=>(hf b hb).1⟩⟩
  rw [Int.mul_one]
 done:=by
  intro X hP hw hK hc i pins s σ H E I hf st hg
  subst hP hw hK
  obtain ⟨f0,f1,f2,f3,f4,f5⟩:=hf it (by simp)
  exact wpAny_pyNext_range_end (I.ok.hd hc) st (by have:n<=i:=hg;omega) fun h' eb=>⟨rfl,I.turned (t':=s.toks) (fun b o hb e=>eb b o hb e) f0 f1 f3 f4 f5⟩
 self:=fun _ _ _ _ _ st h=>wpAny_pyIter_rangeiter st h
end L2

namespace L2
open PySem PySem.Spec PyProof.Rows
section
variable {X:Cx}{tg:Expr}
theorem rV {pins:List (Addr × Obj)}{σ:St}{H:Hp}{s:Shared}{R:It->Hp->Prop}{E:Value->Shared->Prop}{lo hi:Int}{t u v:Tok}{tk:Nat} (I:Inv X pins σ H s) (h1:-(2 ^ 62)<=lo) (h2:lo < 2 ^ 62) (h3:-(2 ^ 62)<=hi) (h4:hi < 2 ^ 62)
  (q:R (Itr lo (hi - lo).toNat) H):wpAny (model X.prog X.w) X.A (pyIter (.ref s.heap.objs.size)) (PIE X pins σ tg R) E { s with heap:=s.heap.push { cls:=.type "range",data:=.fields #[.int lo t,.int hi u,.int 1 v] },toks:=tk }:=by
 refine wpAny_pyIter_range (IsRange.new ..) (small_one h1 h2 h3 h4) ?_
 have I1:Inv X pins σ H { s with heap:=s.heap.push { cls:=.type "range",data:=.fields #[.int lo t,.int hi u,.int 1 v] },toks:=tk }:=I.kept fun b o e=>Heap.get?_push_of_some _ e
 refine ⟨(s.heap.push { cls:=.type "range",data:=.fields #[.int lo t,.int hi u,.int 1 v] }).objs.size,[(s.heap.push { cls:=.type "range",data:=.fields #[.int lo t,.int hi u,.int 1 v] }).objs.size],_,_,H,rfl,
  I1.kept (t':=tk) fun b o e=>Heap.get?_push_of_some _ e,ug _ lo (hi - lo).toNat,?_,fun b hb=>?_,q⟩
 ·have e1:lo + ((0:Nat):Int) * 1=lo:=by simp
  have e2:(((hi - lo).toNat:Nat):Int) - ((0:Nat):Int)=Builtin.Range.rangeSize lo hi 1:=by rw [rangeSize_one];split <;> omega
  show IsRangeIter _ _ (lo + ((0:Nat):Int) * 1) ((((hi - lo).toNat:Nat):Int) - ((0:Nat):Int)) 1
  rw [e1,e2]
  exact Heap.get?_push_size _ rfl
 ·have e:b=(s.heap.push { cls:=.type "range",data:=.fields #[.int lo t,.int hi u,.int 1 v] }).objs.size:=by simpa using hb
  subst e
  exact I1.rh (Nat.le_refl _) (I1.hok.fresh (Nat.le_refl _))
def y0 (ta:TA):TI:=fun σ H R=>ta σ H fun vs H1=>∃ j:Int,vs=[.int j]/\-(2 ^ 62)<=j/\j < 2 ^ 62/\R (Itr 0 j.toNat) H1
def y3 (ta:TA):TI:=fun σ H R=>ta σ H fun vs H1=>∃ i j:Int,vs=[.int i,.int j]/\(-(2 ^ 62)<=i/\i < 2 ^ 62/\-(2 ^ 62)<=j/\j < 2 ^ 62)/\R (Itr i (j - i).toNat) H1
theorem xk {a:Expr}{ta:TA}{p pos:Pos} (hg:Gl X "range") (hm:X.mg "range"=none) (ha:PA X [a] ta) (hs:starEach [a] X.env=[(false,eval a X.env)]:=by rfl):PI X tg (.Call (.Name "range" p) [a] [] pos) (y0 ta):=by
 intro pins s σ H R I h
 refine Call_ (jd I hg hm boot_range (PyProof.Rows.callWith_type1 (thn (ha pos pins s σ H _ I h) fun us s1 ⟨vs,H1,I1,r1,q1⟩=>?_) hs rfl))
 obtain ⟨j,e,q1,q2,q⟩:=q1
 subst e
 cases r1 with
 | cons r rr =>
  cases rr
  obtain ⟨t,rfl⟩:=r
  exact call_range_1 (rV I1 (by omega) (by omega) q1 q2 (by simpa using q))
theorem xl {a b:Expr}{ta:TA}{p pos:Pos} (hg:Gl X "range") (hm:X.mg "range"=none) (ha:PA X [a,b] ta) (hs:starEach [a,b] X.env=[(false,eval a X.env),(false,eval b X.env)]:=by rfl) (hs2:starEach [b] X.env=[(false,eval b X.env)]:=by rfl) :
  PI X tg (.Call (.Name "range" p) [a,b] [] pos) (y3 ta):=by
 intro pins s σ H R I h
 refine Call_ (jd I hg hm boot_range (PyProof.Rows.callWith_type1 (thn (ha pos pins s σ H _ I h) fun us s1 ⟨vs,H1,I1,r1,q1⟩=>?_) (by rw [hs,hs2]) (by rw [hs2];rfl)))
 obtain ⟨i,j,e,⟨q1,q2,q3,q4⟩,q⟩:=q1
 subst e
 cases r1 with
 | cons r rr =>
  cases rr with
  | cons r' rr =>
   cases rr
   obtain ⟨t,rfl⟩:=r
   obtain ⟨t',rfl⟩:=r'
   exact call_range_2 (rV I1 q1 q2 q3 q4 q)

def Ea (wi:TI) (g:TG) (tb:TS):TS:=fun D σ H=>wi σ H fun J H1=>∃ W:Nat->Nat->St->Hp->Prop,(∃ m,W 0 m σ H1)/\∀ i m σ H,W i m σ H →
 (J.stop i H/\D.nx σ H) ∨ (J.go i H/\∃ N:St->Hp->Prop,(∀ σ' H',N σ' H'->∃ m',m' < m/\W (i + 1) m' σ' H')/\∀ x H',J.yld i H x H'->g x σ H' fun σ2 H2=>tb { D with nx:=N,ct:=N,bk:=D.nx } σ2 H2)
def mR (fp:List Addr) (h:Heap):List (Addr × Obj):=fp.filterMap fun b=>(h.get? b).map fun o=>(b,o)
theorem gQ {fp:List Addr}{h:Heap}{b:Addr}{o:Obj} (hb:b∈fp) (e:h.get? b=some o):(b,o)∈mR fp h:=List.mem_filterMap.mpr ⟨b,hb,by rw [e];rfl⟩
theorem wX {fp:List Addr}{h:Heap}{p:Addr × Obj} (hp:p∈mR fp h):p.1∈fp/\h.get? p.1=some p.2:=by
 obtain ⟨b,hb,e⟩:=List.mem_filterMap.mp hp
 cases q:h.get? b with
 | none=>rw [q] at e;cases e
 | some o =>
  rw [q] at e
  have e':(b,o)=p:=Option.some.inj e
  subst e'
  exact ⟨hb,q⟩
theorem Inv.pinned {pins:List (Addr × Obj)}{σ:St}{H:Hp}{s:Shared}{fp:List Addr} (I:Inv X pins σ H s) (hf:∀ b∈fp,kW X pins H b) (ho:∀ b∈fp,∃ o,s.heap.get? b=some o/\∀ v,o.data≠.cell v):Inv X (pins++mR fp s.heap) σ H s :=
 I.vC fun p hp=>(List.mem_append.mp hp).elim (fun z=>I.pin p (List.mem_append_right _ z)) fun z=>by
  obtain ⟨hb,e⟩:=wX z
  obtain ⟨f0,f1,f2,_⟩:=hf p.1 hb
  obtain ⟨o,e',d⟩:=ho p.1 hb
  rw [e] at e';cases e'
  exact ⟨e,f0,f1,f2,d⟩
theorem Inv.jT {pins pl:List (Addr × Obj)}{σ:St}{H:Hp}{s:Shared} (I:Inv X (pins++pl) σ H s):Inv X pins σ H s:=I.vC fun p hp=>I.pin p (List.mem_append_right _ (List.mem_append_left _ hp))
theorem fj {iter:Expr}{body:List Stmt}{wi:TI}{g:TG}{tb:TS}{pos:Pos} (hp:PassesOwn (model X.prog X.w) X.A X.env X.xe) (hc:X.calm=true) (hi:PI X tg iter wi) (hg:PG X tg g) (hb:PSs X body tb)
  (hs:∀ x,foldedSetIterable iter X.env x=pure x:=by intro _;rfl):PS X (.For tg iter body [] pos) (Ea wi g tb):=by
 intro pins s σ H D I h
 refine wpAny_For (thn (hi pins s σ H _ I h) fun v s1 h1=>thn h1 fun itv s2 h2=>?_) hs
 obtain ⟨it,fp,tn,J,H2,e,I2,T,st2,f2,W,⟨m0,w0⟩,turn⟩:=h2
 subst e
 -- what stays true of the iterator's objects through the loop
 have stat:∀ {H':Hp},(∀ b∈fp,H' b=none)->∀ b∈fp,kW X pins H' b:=fun hn b hb=>⟨hn b hb,(f2 b hb).2⟩
 refine codeAny_forLoop_any (fun n s'=>∃ i σ' H',Inv X pins σ' H' s'/\tn i s'.heap/\(∀ b∈fp,H' b=none)/\W i n σ' H') ?_ m0 ⟨0,σ,H2,I2,st2,fun b hb=>(f2 b hb).1,w0⟩
 rintro n s3 ⟨i,σ3,H3,I3,st3,fr3,w3⟩
 rcases turn i n σ3 H3 w3 with ⟨stop,qn⟩ | ⟨go,N,hN,step⟩
 ·refine wpAny_passesOwn hp (thn (T.done X rfl rfl rfl hc i pins s3 σ3 H3 X.xe I3 (stat fr3) st3 stop) fun r s4 ⟨hr,I4⟩=>?_)
  subst hr
  exact wpAny_execs_nil ⟨σ3,H3,I4,qn⟩
 ·refine wpAny_passesOwn hp (thn (T.item X rfl rfl rfl hc i pins s3 σ3 H3 X.xe I3 (stat fr3) st3 go) fun r s4 ⟨u,hr,h4⟩=>?_)
  subst hr
  refine wpAny_passesOwn hp (thn h4 fun _ s5 ⟨x,H5,I5,r5,y5,st5,fr5⟩=>?_)
  have I5':=I5.pinned (stat fr5) (T.obj _ _ st5)
  refine wpAny_passesOwn hp (thn (hg _ s5 σ3 H5 x u _ I5' r5 (step x H5 y5)) fun _ s6 ⟨σ6,H6,I6,q6⟩=>?_)
  refine wpAny_passesOwn hp (thn (hb _ s6 σ6 H6 _ I6 q6) fun f s7 q7=>?_)
  have again:∀ {σ7:St}{H7:Hp},Inv X (pins++mR fp s5.heap) σ7 H7 s7->N σ7 H7->∃ m,m < n/\∃ i σ' H',Inv X pins σ' H' s7/\tn i s7.heap/\(∀ b∈fp,H' b=none)/\W i m σ' H':=fun {σ7 H7} I7 n7=>by
   obtain ⟨m',hm,w7⟩:=hN σ7 H7 n7
   refine ⟨m',hm,i + 1,σ7,H7,I7.jT,T.keep _ _ _ st5 fun b hb o e=>(I7.pin (b,o) (List.mem_append_right _ (List.mem_append_right _ (gQ hb e)))).1,fun b hb=>?_,w7⟩
   obtain ⟨o,e,d⟩:=T.obj _ _ st5 b hb
   exact (I7.pin (b,o) (List.mem_append_right _ (List.mem_append_right _ (gQ hb e)))).2.1
  cases f with
  | next=>obtain ⟨σ7,H7,I7,n7⟩:=q7;exact again I7 n7
  | cont=>obtain ⟨σ7,H7,I7,n7⟩:=q7;exact again I7 n7
  | brk=>obtain ⟨σ7,H7,I7,q7⟩:=q7;exact ⟨σ7,H7,I7.jT,q7⟩
  | ret v=>obtain ⟨x7,σ7,H7,I7,r7,q7⟩:=q7;exact ⟨x7,σ7,H7,I7.jT,r7,q7⟩
end

theorem yo {K:PySem.W.Frag}{a:Addr}{xs:List V}{g:TG}{tb:TS}{D:Ends}{σ:St}{H:Hp} (Pv:Nat->St->Hp->Prop) (h0:Pv 0 σ H) (hl:∀ i σ H,i<=xs.length->Pv i σ H->SqL K H a xs)
  (hs:∀ i x σ H,xs[i]?=some x->Pv i σ H->g x σ H fun σ2 H2=>tb { D with nx:=Pv (i + 1),ct:=Pv (i + 1),bk:=D.nx } σ2 H2) (hd:∀ σ H,Pv xs.length σ H->D.nx σ H) :
  ∃ W:Nat->Nat->St->Hp->Prop,(∃ m,W 0 m σ H)/\∀ i m σ H,W i m σ H →
   ((Itl K a).stop i H/\D.nx σ H) ∨ ((Itl K a).go i H/\∃ N:St->Hp->Prop,(∀ σ' H',N σ' H'->∃ m',m' < m/\W (i + 1) m' σ' H')/\∀ x H',(Itl K a).yld i H x H'->g x σ H' fun σ2 H2=>tb { D with nx:=N,ct:=N,bk:=D.nx } σ2 H2):=by
 refine ⟨fun i m σ H=>m=xs.length - i/\i<=xs.length/\Pv i σ H,⟨xs.length,by simp,Nat.zero_le _,h0⟩,?_⟩
 rintro i m σ H ⟨rfl,hi,p⟩
 have q:=hl i σ H hi p
 by_cases hlt:i < xs.length
 ·refine .inr ⟨⟨xs,xs[i],q,by simp [hlt]⟩,Pv (i + 1),fun σ' H' p'=>⟨xs.length - (i + 1),by omega,rfl,hlt,p'⟩,fun x H' y=>?_⟩
  obtain ⟨e,y⟩:=y
  subst e
  exact hs i x σ _ (y xs q) p
 ·have e:i=xs.length:=by omega
  subst e
  exact .inl ⟨⟨xs,q,Nat.le_refl _⟩,hd σ H p⟩
theorem wG {lo:Int}{n:Nat}{g:TG}{tb:TS}{D:Ends}{σ:St}{H:Hp} (Pv:Nat->St->Hp->Prop) (h0:Pv 0 σ H)
  (hs:∀ i σ H,i < n->Pv i σ H->g (.int (lo + i)) σ H fun σ2 H2=>tb { D with nx:=Pv (i + 1),ct:=Pv (i + 1),bk:=D.nx } σ2 H2) (hd:∀ σ H,Pv n σ H->D.nx σ H) :
  ∃ W:Nat->Nat->St->Hp->Prop,(∃ m,W 0 m σ H)/\∀ i m σ H,W i m σ H →
   ((Itr lo n).stop i H/\D.nx σ H) ∨ ((Itr lo n).go i H/\∃ N:St->Hp->Prop,(∀ σ' H',N σ' H'->∃ m',m' < m/\W (i + 1) m' σ' H')/\∀ x H',(Itr lo n).yld i H x H'->g x σ H' fun σ2 H2=>tb { D with nx:=N,ct:=N,bk:=D.nx } σ2 H2):=by
 refine ⟨fun i m σ H=>m=n - i/\i<=n/\Pv i σ H,⟨n,by simp,Nat.zero_le _,h0⟩,?_⟩
 rintro i m σ H ⟨rfl,hi,p⟩
 by_cases hlt:i < n
 ·refine .inr ⟨hlt,Pv (i + 1),fun σ' H' p'=>⟨n - (i + 1),by omega,rfl,hlt,p'⟩,fun x H' y=>?_⟩
  obtain ⟨e,y⟩:=y
  subst e y
  exact hs i σ _ hlt p
 ·have e:i=n:=by omega
  subst e
  exact .inl ⟨Nat.le_refl _,hd σ H p⟩
end L2

namespace L2
open PySem PySem.Spec PyProof.Rows

abbrev R2:=V->V->Hp->VK->Prop
def OpR (X:Cx) (f:Value->Value->Sem Value) (r:R2):Prop :=
 ∀ (pins:List (Addr × Obj)) (s:Shared) (σ:St) (H:Hp) (x y:V) (v u:Value) (Q:VK),Inv X pins σ H s->RelV x v->RelV y u->r x y H Q →
  wpAny (model X.prog X.w) X.A (f v u) (EP X pins σ Q) X.xe s
def UnR (X:Cx) (f:Value->Sem Value) (r:V->Hp->VK->Prop):Prop :=
 ∀ (pins:List (Addr × Obj)) (s:Shared) (σ:St) (H:Hp) (x:V) (v:Value) (Q:VK),Inv X pins σ H s->RelV x v->r x H Q →
  wpAny (model X.prog X.w) X.A (f v) (EP X pins σ Q) X.xe s
def bE (X:Cx) (f:Value) (r:List V->Hp->VK->Prop):Prop :=
 ∀ (pins:List (Addr × Obj)) (s:Shared) (σ:St) (H:Hp) (xs:List V) (us:List Value) (Q:VK),Inv X pins σ H s->Vals xs us->r xs H Q →
  wpAny (model X.prog X.w) X.A (call f us) (EP X pins σ Q) X.xe s
def tOp (r:R2) (ta tb:TE):TE:=fun σ H Q=>ta σ H fun x H1=>tb σ H1 fun y H2=>r x y H2 Q
def tUn (r:V->Hp->VK->Prop) (ta:TE):TE:=fun σ H Q=>ta σ H fun x H1=>r x H1 Q
def rI (C:Int->Int->Prop) (g:Int->Int->V):R2:=fun x y H Q=>∃ i j,x=.int i/\y=.int j/\C i j/\Q (g i j) H
def rI0 (g:Int->Int->V):R2:=fun x y H Q=>∃ i j,x=.int i/\y=.int j/\Q (g i j) H
def rU (g:Int->V):V->Hp->VK->Prop:=fun x H Q=>∃ i,x=.int i/\Q (g i) H

section
variable {X:Cx}{a b c:Expr}{ta tb tc:TE}{pos:Pos}

theorem Ci (ha:PE X a ta) (hb:PE X b tb) {pins:List (Addr × Obj)}{s:Shared}{σ:St}{H:Hp}{R:V->V->Hp->Prop} (I:Inv X pins σ H s)
  (h:ta σ H fun x H1=>tb σ H1 fun y H2=>R x y H2) {Q:Value->Shared->Prop}{f:Value->Value->Sem Value}
  (hf:∀ v u s2 x y H2,Inv X pins σ H2 s2->RelV x v->RelV y u->R x y H2->wpAny (model X.prog X.w) X.A (f v u) Q X.xe s2) :
  wpAny (model X.prog X.w) X.A (eval a X.env) (fun v s₁=>wpAny (model X.prog X.w) X.A (eval b X.env) (fun u s₂=>wpAny (model X.prog X.w) X.A (f v u) Q X.xe s₂) X.xe s₁) X.xe s:=by
 refine thn (ha pins s σ H _ I h) fun v s1 ⟨x,H1,I1,r1,q1⟩=>?_
 refine thn (hb pins s1 σ H1 _ I1 q1) fun u s2 ⟨y,H2,I2,r2,q2⟩=>?_
 exact hf v u s2 x y H2 I2 r1 r2 q2

theorem aI {op:Operator}{r:R2} (ho:OpR X (binaryOp op) r) (ha:PE X a ta) (hb:PE X b tb):PE X (.BinOp a op b pos) (tOp r ta tb):=by
 intro pins s σ H Q I h
 exact wpAny_BinOp (Ci ha hb I h fun v u s2 x y H2 I2 rx ry q=>ho pins s2 σ H2 x y v u Q I2 rx ry q)
theorem jF {op:UnaryOp}{r:V->Hp->VK->Prop} (ho:UnR X (unaryOp op) r) (ha:PE X a ta):PE X (.UnaryOp op a pos) (tUn r ta):=by
 intro pins s σ H Q I h
 exact UnaryOp_ (thn (ha pins s σ H _ I h) fun v s1 ⟨x,H1,I1,r1,q1⟩=>ho pins s1 σ H1 x v Q I1 r1 q1)
theorem opI {f:Value->Value->Sem Value}{C:Int->Int->Prop}{g:Int->Int->Int}
  (rule:∀ (i j:Int) (t u:Tok) (s:Shared) (Q:Value->Shared->Prop) (E:Value->Shared->Prop),C i j->Q (.int (g i j) s.toks) { s with toks:=s.toks + 1 }->wpAny (model X.prog X.w) X.A (f (.int i t) (.int j u)) Q E s) :
  OpR X f (rI C fun i j=>.int (g i j)):=by
 intro pins s σ H x y v u Q I rx ry h
 obtain ⟨i,j,rfl,rfl,hc,q⟩:=h
 obtain ⟨t,rfl⟩:=rx
 obtain ⟨t',rfl⟩:=ry
 exact rule i j t t' s _ _ hc ⟨.int (g i j),H,I.tok _,⟨_,rfl⟩,q⟩
theorem DI {f:Value->Value->Sem Value}{g:Int->Int->Int}
  (rule:∀ (i j:Int) (t u:Tok) (s:Shared) (Q:Value->Shared->Prop) (E:Value->Shared->Prop),Q (.int (g i j) s.toks) { s with toks:=s.toks + 1 }->wpAny (model X.prog X.w) X.A (f (.int i t) (.int j u)) Q E s) :
  OpR X f (rI0 fun i j=>.int (g i j)):=by
 intro pins s σ H x y v u Q I rx ry h
 obtain ⟨i,j,rfl,rfl,q⟩:=h
 obtain ⟨t,rfl⟩:=rx
 obtain ⟨t',rfl⟩:=ry
 exact rule i j t t' s _ _ ⟨.int (g i j),H,I.tok _,⟨_,rfl⟩,q⟩
theorem Ax {f:Value->Value->Sem Value}{g:Int->Int->Bool}
  (rule:∀ (i j:Int) (t u:Tok) (s:Shared) (Q:Value->Shared->Prop) (E:Value->Shared->Prop),Q (.bool (g i j)) s->wpAny (model X.prog X.w) X.A (f (.int i t) (.int j u)) Q E s) :
  OpR X f (rI0 fun i j=>.bl (g i j)):=by
 intro pins s σ H x y v u Q I rx ry h
 obtain ⟨i,j,rfl,rfl,q⟩:=h
 obtain ⟨t,rfl⟩:=rx
 obtain ⟨t',rfl⟩:=ry
 exact rule i j t t' s _ _ ⟨.bl (g i j),H,I,rfl,q⟩

def Et (i j:Int):Prop:=0<=j/\j<=1000000/\i.natAbs < 2 ^ 64
def D4 (i j:Int):Prop:=(-(2 ^ 64) < i/\i < 2 ^ 64) ∨ (-(2 ^ 64) < j/\j < 2 ^ 64)
theorem D4.ok {i j:Int} (h:D4 i j):IntMulOk i j:=by
 rcases h with ⟨h1,h2⟩ | ⟨h1,h2⟩
 ·exact .of_left (intBits_le_64 h1 h2)
 ·exact .of_right (intBits_le_64 h1 h2)
theorem CJ:OpR X (binaryOp .Add) (rI0 fun i j=>.int (i + j)):=DI fun _ _ _ _ _ _ _ q=>add_int q
theorem CY:OpR X (binaryOp .Sub) (rI0 fun i j=>.int (i - j)):=DI fun _ _ _ _ _ _ _ q=>sub_int q
theorem CQ:OpR X (binaryOp .Mod) (rI (fun _ j=>0 < j) fun i j=>.int (i % j)):=opI fun i j _ _ _ _ _ hc q=>by
 have h1:(0:Int) < j:=hc
 exact mod_int' (by omega) (by rw [Int.fmod_eq_emod_of_nonneg i (by omega)];exact q)
theorem CV:OpR X (binaryOp .Pow) (rI Et fun i j=>.int (i ^ j.toNat)):=opI fun _ _ _ _ _ _ _ hc q=>pow_int_small hc.1 hc.2.1 hc.2.2 q
theorem unI {f:Value->Sem Value}{g:Int->Int}
  (rule:∀ (i:Int) (t:Tok) (s:Shared) (Q:Value->Shared->Prop) (E:Value->Shared->Prop),Q (.int (g i) s.toks) { s with toks:=s.toks + 1 }->wpAny (model X.prog X.w) X.A (f (.int i t)) Q E s) :
  UnR X f (rU fun i=>.int (g i)):=by
 intro pins s σ H x v Q I rx h
 obtain ⟨i,rfl,q⟩:=h
 obtain ⟨t,rfl⟩:=rx
 exact rule i t s _ _ ⟨.int (g i),H,I.tok _,⟨_,rfl⟩,q⟩
theorem ia:UnR X (unaryOp .USub) (rU fun i=>.int (-i)):=unI fun _ _ _ _ _ q=>neg_int q
end

def DX:V->V->Bool
 | .non,.non=>true | .non,.int _=>true | .int _,.non=>true | .non,.bl _=>true | .bl _,.non=>true | .non,.str _=>true | .str _,.non=>true
 | .int _,.int _=>true | .bl _,.bl _=>true | .str _,.str _=>true | .byt _,.byt _=>true
 | .int _,.str _=>true | .str _,.int _=>true | .bl _,.str _=>true | .str _,.bl _=>true
 | _,_=>false
def rEq:R2:=fun x y H Q=>DX x y=true/\Q (.bl (decide (x=y))) H
def rNe:R2:=fun x y H Q=>DX x y=true/\Q (.bl (!decide (x=y))) H

theorem uZ {i j:Int}:decide (V.int i=V.int j)=(i == j):=by
 rw [Bool.eq_iff_iff]
 simp
theorem ya {i j:Bool}:decide (V.bl i=V.bl j)=(i == j):=by
 rw [Bool.eq_iff_iff]
 simp
theorem va {i j:Str}:decide (V.str i=V.str j)=(i == j):=by
 rw [Bool.eq_iff_iff]
 simp
theorem uY {i j:Array UInt8}:decide (V.byt i=V.byt j)=(i.toList == j.toList):=by
 rw [Bool.eq_iff_iff]
 cases i
 cases j
 simp

section
variable {X:Cx}{a b c:Expr}{ta tb tc:TE}{pos:Pos}
theorem aV {pins:List (Addr × Obj)}{σ:St}{H:Hp}{s:Shared}{Q:VK}{k k':Bool} (I:Inv X pins σ H s) (q:Q (.bl k) H) (e:k=k'):EP X pins σ Q (.bool k') s:=by
 subst e
 exact ⟨.bl k,H,I,rfl,q⟩
theorem yQ:OpR X (compareOp .Eq) rEq:=by
 intro pins s σ H x y v u Q I rx ry h
 obtain ⟨hs,q⟩:=h
 cases x with
 | non =>
  cases rx
  cases y with
  | non=>cases ry;exact PySem.EqNone.eq_none_none (aV I q (by simp))
  | bl j=>cases ry;exact PySem.EqNone.eq_none_bool (aV I q (by simp))
  | int j=>obtain ⟨t',rfl⟩:=ry;exact PySem.EqNone.eq_none_int (aV I q (by simp))
  | str j=>obtain ⟨t',rfl⟩:=ry;exact PySem.EqNone.eq_none_str (aV I q (by simp))
  | _=>exact absurd (show false=true from hs) Bool.false_ne_true
 | bl i =>
  cases rx
  cases y with
  | non=>cases ry;exact PySem.EqNone.eq_bool_none (aV I q (by simp))
  | bl j=>cases ry;exact eq_bool (aV I q ya)
  | str j=>obtain ⟨t',rfl⟩:=ry;exact PySem.EqMixed.eq_bool_str (aV I q (by simp))
  | _=>exact absurd (show false=true from hs) Bool.false_ne_true
 | int i =>
  obtain ⟨t,rfl⟩:=rx
  cases y with
  | non=>cases ry;exact PySem.EqNone.eq_int_none (aV I q (by simp))
  | int j=>obtain ⟨t',rfl⟩:=ry;exact eq_int (aV I q uZ)
  | str j=>obtain ⟨t',rfl⟩:=ry;exact PySem.EqMixed.eq_int_str (aV I q (by simp))
  | _=>exact absurd (show false=true from hs) Bool.false_ne_true
 | str i =>
  obtain ⟨t,rfl⟩:=rx
  cases y with
  | non=>cases ry;exact PySem.EqNone.eq_str_none (aV I q (by simp))
  | bl j=>cases ry;exact PySem.EqMixed.eq_str_bool (aV I q (by simp))
  | int j=>obtain ⟨t',rfl⟩:=ry;exact PySem.EqMixed.eq_str_int (aV I q (by simp))
  | str j=>obtain ⟨t',rfl⟩:=ry;exact eq_str (aV I q va)
  | _=>exact absurd (show false=true from hs) Bool.false_ne_true
 | byt i =>
  obtain ⟨t,rfl⟩:=rx
  cases y with
  | byt j=>obtain ⟨t',rfl⟩:=ry;exact PySem.W.eq_bytes (aV I q uY)
  | _=>exact absurd (show false=true from hs) Bool.false_ne_true
 | _=>cases y <;> exact absurd (show false=true from hs) Bool.false_ne_true
theorem yU:OpR X (compareOp .NotEq) rNe:=by
 intro pins s σ H x y v u Q I rx ry h
 obtain ⟨hs,q⟩:=h
 cases x with
 | non =>
  cases rx
  cases y with
  | non=>cases ry;exact PySem.EqNone.ne_none_none (aV I q (by simp))
  | bl j=>cases ry;exact PySem.EqNone.ne_none_bool (aV I q (by simp))
  | int j=>obtain ⟨t',rfl⟩:=ry;exact PySem.EqNone.ne_none_int (aV I q (by simp))
  | str j=>obtain ⟨t',rfl⟩:=ry;exact PySem.EqNone.ne_none_str (aV I q (by simp))
  | _=>exact absurd (show false=true from hs) Bool.false_ne_true
 | bl i =>
  cases rx
  cases y with
  | non=>cases ry;exact PySem.EqNone.ne_bool_none (aV I q (by simp))
  | bl j=>cases ry;exact ne_bool (aV I q (congrArg not ya))
  | str j=>obtain ⟨t',rfl⟩:=ry;exact PySem.EqMixed.ne_bool_str (aV I q (by simp))
  | _=>exact absurd (show false=true from hs) Bool.false_ne_true
 | int i =>
  obtain ⟨t,rfl⟩:=rx
  cases y with
  | non=>cases ry;exact PySem.EqNone.ne_int_none (aV I q (by simp))
  | int j=>obtain ⟨t',rfl⟩:=ry;exact ne_int (aV I q (congrArg not uZ))
  | str j=>obtain ⟨t',rfl⟩:=ry;exact PySem.EqMixed.ne_int_str (aV I q (by simp))
  | _=>exact absurd (show false=true from hs) Bool.false_ne_true
 | str i =>
  obtain ⟨t,rfl⟩:=rx
  cases y with
  | non=>cases ry;exact PySem.EqNone.ne_str_none (aV I q (by simp))
  | bl j=>cases ry;exact PySem.EqMixed.ne_str_bool (aV I q (by simp))
  | int j=>obtain ⟨t',rfl⟩:=ry;exact PySem.EqMixed.ne_str_int (aV I q (by simp))
  | str j=>obtain ⟨t',rfl⟩:=ry;exact ne_str (aV I q (congrArg not va))
  | _=>exact absurd (show false=true from hs) Bool.false_ne_true
 | byt i =>
  obtain ⟨t,rfl⟩:=rx
  cases y with
  | byt j=>obtain ⟨t',rfl⟩:=ry;exact PySem.W.ne_bytes (aV I q (congrArg not uY))
  | _=>exact absurd (show false=true from hs) Bool.false_ne_true
 | _=>cases y <;> exact absurd (show false=true from hs) Bool.false_ne_true

theorem DN:OpR X (compareOp .Lt) (rI0 fun i j=>.bl (decide (i < j))):=Ax fun _ _ _ _ _ _ _ q=>lt_int q
theorem DM:OpR X (compareOp .LtE) (rI0 fun i j=>.bl (decide (i<=j))):=Ax fun _ _ _ _ _ _ _ q=>le_int q
theorem DL:OpR X (compareOp .Gt) (rI0 fun i j=>.bl (decide (j < i))):=Ax fun _ _ _ _ _ _ _ q=>gt_int q
theorem DJ:OpR X (compareOp .GtE) (rI0 fun i j=>.bl (decide (j<=i))):=Ax fun _ _ _ _ _ _ _ q=>ge_int q
theorem xb:OpR X (compareOp .In) (fun x y H Q=>∃ i j,x=.str i/\y=.str j/\Q (.bl (!(Builtin.Str.occurrences j i 0 j.length 1).isEmpty)) H):=by
 intro pins s σ H x y v u Q I rx ry h
 obtain ⟨i,j,rfl,rfl,q⟩:=h
 obtain ⟨t,rfl⟩:=rx
 obtain ⟨t',rfl⟩:=ry
 exact in_str (aV I q rfl)

theorem CP:OpR X (compareOp .Is) (fun x y H Q=>y=.non/\Q (.bl (decide (x=.non))) H):=by
 intro pins s σ H x y v u Q I rx ry h
 obtain ⟨rfl,q⟩:=h
 cases ry
 refine is_none_gen (aV I q ?_)
 cases x <;> first
  | (cases rx;rfl)
  | (obtain ⟨t,rfl⟩:=rx;rfl)
theorem A0:OpR X (compareOp .IsNot) (fun x y H Q=>y=.non/\Q (.bl (!decide (x=.non))) H):=by
 intro pins s σ H x y v u Q I rx ry h
 obtain ⟨rfl,q⟩:=h
 cases ry
 refine isnot_none_gen (aV I q ?_)
 cases x <;> first
  | (cases rx;rfl)
  | (obtain ⟨t,rfl⟩:=rx;rfl)

theorem pZ:OpR X (compareOp .NotIn) (fun x y H Q=>∃ i j,x=.str i/\y=.str j/\Q (.bl (!(!(Builtin.Str.occurrences j i 0 j.length 1).isEmpty))) H):=by
 intro pins s σ H x y v u Q I rx ry h
 obtain ⟨i,j,rfl,rfl,q⟩:=h
 obtain ⟨t,rfl⟩:=rx
 obtain ⟨t',rfl⟩:=ry
 exact notIn_str (aV I q rfl)
theorem OpR.or {f:Value->Value->Sem Value}{r r':R2} (h:OpR X f r) (h':OpR X f r'):OpR X f (fun x y H Q=>r x y H Q ∨ r' x y H Q):=by
 intro pins s σ H x y v u Q I rx ry q
 rcases q with q | q
 ·exact h pins s σ H x y v u Q I rx ry q
 ·exact h' pins s σ H x y v u Q I rx ry q

theorem aH (b:Expr) {op:CmpOp} (h:op≠.In:=by decide) (h2:op≠.NotIn:=by decide):behindInMarks op b=false:=by
 have e1:(op == CmpOp.In)=false:=by cases op <;> first | rfl | exact absurd rfl h
 have e2:(op == CmpOp.NotIn)=false:=by cases op <;> first | rfl | exact absurd rfl h2
 cases b <;> simp [behindInMarks,e1,e2]
theorem bC {op:CmpOp}{r:R2} (ho:OpR X (compareOp op) r) (ha:PE X a ta) (hb:PE X b tb) (hm:behindInMarks op b=false):PE X (.Compare a [op] [b] pos) (tOp r ta tb):=by
 intro pins s σ H Q I h
 exact wpAny_Compare1 (Ci ha hb I h fun v u s2 x y H2 I2 rx ry q=>ho pins s2 σ H2 x y v u Q I2 rx ry q) hm
def sr (t:TE):TT:=fun σ H Q=>t σ H fun x H'=>∃ k,x=.bl k/\Q k H'
theorem aE {op:CmpOp}{r:R2} (ho:OpR X (compareOp op) r) (ha:PE X a ta) (hb:PE X b tb) (hm:behindInMarks op b=false):PT X (.Compare a [op] [b] pos) (sr (tOp r ta tb)):=by
 intro pins s σ H Q I h
 refine wpAny_isTrue_Compare1 (thn (ha pins s σ H _ I h) fun v s1 ⟨x,H1,I1,r1,q1⟩=>thn (hb pins s1 σ H1 _ I1 q1) fun u s2 ⟨y,H2,I2,r2,q2⟩ =>
  thn (ho pins s2 σ H2 x y v u _ I2 r1 r2 q2) fun c s3 ⟨z,H3,I3,r3,k,e,q3⟩=>?_) hm
 subst e
 cases r3
 exact wpAny_truthy_bool ⟨H3,I3,q3⟩
def ud (r r':R2) (ta tb tc:TE):TE:=fun σ H Q=>ta σ H fun x H1=>tb σ H1 fun y H2=>r x y H2 fun z H3=>∃ k,z=.bl k ∧
 (if k=true then tc σ H3 fun w' H4=>r' y w' H4 Q else Q (.bl false) H3)
theorem yY {op op':CmpOp}{r r':R2} (ho:OpR X (compareOp op) r) (ho':OpR X (compareOp op') r') (ha:PE X a ta) (hb:PE X b tb) (hc:PE X c tc)
  (hm:lastMarks [op,op'] [b,c]=false:=by with_unfolding_all rfl):PE X (.Compare a [op,op'] [b,c] pos) (ud r r' ta tb tc):=by
 intro pins s σ H Q I h
 refine Compare_chain (thn (ha pins s σ H _ I h) fun v s1 ⟨x,H1,I1,r1,q1⟩=>chain_link (thn (hb pins s1 σ H1 _ I1 q1) fun u s2 ⟨y,H2,I2,r2,q2⟩ =>
  thn (ho pins s2 σ H2 x y v u _ I2 r1 r2 q2) fun d s3 ⟨z,H3,I3,r3,k,e,q3⟩=>?_)) hm
 subst e
 cases r3
 refine wpAny_truthy_bool ?_
 cases k with
 | false=>exact ite_ff ⟨.bl false,H3,I3,rfl,q3⟩
 | true=>exact ite_tt (chain_last (thn (hc pins s3 σ H3 _ I3 q3) fun w' s4 ⟨z',H4,I4,r4,q4⟩=>ho' pins s4 σ H4 y z' u w' Q I4 r2 r4 q4))
theorem mU {op op':CmpOp}{r r':R2} (ho:OpR X (compareOp op) r) (ho':OpR X (compareOp op') r') (ha:PE X a ta) (hb:PE X b tb) (hc:PE X c tc)
  (hm:lastMarks [op,op'] [b,c]=false:=by with_unfolding_all rfl):PT X (.Compare a [op,op'] [b,c] pos) (sr (ud r r' ta tb tc)):=by
 intro pins s σ H Q I h
 refine isTrue_chain (thn (ha pins s σ H _ I h) fun v s1 ⟨x,H1,I1,r1,q1⟩=>test_link (thn (hb pins s1 σ H1 _ I1 q1) fun u s2 ⟨y,H2,I2,r2,q2⟩ =>
  thn (ho pins s2 σ H2 x y v u _ I2 r1 r2 q2) fun d s3 ⟨z,H3,I3,r3,k,e,q3⟩=>?_)) hm
 subst e
 cases r3
 refine wpAny_truthy_bool ?_
 cases k with
 | false =>
  obtain ⟨k',e',q'⟩:=q3
  cases e'
  exact ite_ff ⟨H3,I3,q'⟩
 | true =>
  refine ite_tt (test_last (thn (hc pins s3 σ H3 _ I3 q3) fun w' s4 ⟨z',H4,I4,r4,q4⟩=>thn (ho' pins s4 σ H4 y z' u w' _ I4 r2 r4 q4) fun d' s5 ⟨z2,H5,I5,r5,k2,e2,q5⟩=>?_))
  subst e2
  cases r5
  exact wpAny_truthy_bool ⟨H5,I5,q5⟩

theorem m5:(sizeLine:Nat) < 2 ^ 63:=by rw [sizeLine_eq];decide
theorem tK:OpR X (binaryOp .Add) (fun x y H Q=>∃ i j,x=.str i/\y=.str j/\i.length + j.length<=sizeLine/\Q (.str (i++j)) H):=by
 intro pins s σ H x y v u Q I rx ry h
 obtain ⟨i,j,rfl,rfl,hz,q⟩:=h
 obtain ⟨t,rfl⟩:=rx
 obtain ⟨t',rfl⟩:=ry
 exact add_str (fun t' tk=>⟨.str (i++j),H,I.tok _,⟨_,rfl⟩,q⟩) hz
theorem vals1 {x:V}{us:List Value} (r:Vals [x] us):∃ u,us=[u]/\RelV x u:=by
 cases r with
 | cons r1 r2=>cases r2;exact ⟨_,rfl,r1⟩
theorem vals2 {x y:V}{us:List Value} (r:Vals [x,y] us):∃ u w',us=[u,w']/\RelV x u/\RelV y w':=by
 cases r with
 | cons r1 r2 =>
  cases r2 with
  | cons r3 r4=>cases r4;exact ⟨_,_,rfl,r1,r3⟩
theorem xW:bE X (.builtin "abs") (fun xs H Q=>∃ i,xs=[.int i]/\Q (.int (if i < 0 then -i else i)) H):=by
 intro pins s σ H xs us Q I r h
 obtain ⟨i,rfl,q⟩:=h
 obtain ⟨u,rfl,t,rfl⟩:=vals1 r
 exact call_abs_int fun u tk=>⟨.int (if i < 0 then -i else i),H,I.tok _,⟨_,rfl⟩,q⟩
theorem wb (hc:X.calm=true):bE X (.builtin "max") (fun xs H Q=>∃ i j,xs=[.int i,.int j]/\Q (.int (if j > i then j else i)) H):=by
 intro pins s σ H xs us Q I r h
 obtain ⟨i,j,rfl,q⟩:=h
 obtain ⟨u,w',rfl,⟨t,rfl⟩,⟨t',rfl⟩⟩:=vals2 r
 refine max_two_ints (I.ok.hd hc) fun h' tk k=>⟨_,H,I.kept k,?_,q⟩
 by_cases hj:j > i
 ·rw [if_pos hj,if_pos hj];exact ⟨_,rfl⟩
 ·rw [if_neg hj,if_neg hj];exact ⟨_,rfl⟩
end
end L2

namespace L2
open PySem PySem.Spec PyProof.Rows

structure sI (h:Heap) (x dx C:Addr) (mA:Str->Option Value):Prop where
 obj:h.get? x=some (PySem.W.instObj C dx)
 ns:h.Ns1 dx mA
 ne:dx≠x

theorem oF {h:Heap}{dx:Addr}{mA:Str->Option Value} (n:h.Ns1 dx mA):∃ od,h.get? dx=some od/\∀ name,PySem.W.lookIn name od=some (mA name):=by
 obtain ⟨o,es,ep,ho,hd,hk,_,hm⟩:=n
 refine ⟨o,ho,fun name=>?_⟩
 have e:=hm name
 unfold nsFind findBy at e
 rw [← Array.find?_toList] at e
 unfold PySem.W.lookIn
 rw [hd]
 dsimp only
 split
 ·rename_i y q
  rw [q] at e
  exact congrArg some e
 ·rename_i q
  rw [q] at e
  have a:es.toList.any (·.refKey)=false:=by
   rw [List.any_eq_false]
   intro y hy
   obtain ⟨z,t,hkey⟩:=hk y (Array.mem_toList_iff.mp hy)
   simp [DictEntry.refKey,hkey]
  have a':¬ es.toList.any (·.refKey)=true:=by rw [a];exact Bool.false_ne_true
  rw [if_neg a']
  exact congrArg some e

theorem sI.look {h:Heap}{x dx C:Addr}{mA:Str->Option Value} (I:sI h x dx C mA):∃ od,PySem.W.InstAt h x (PySem.W.instObj C dx) C (some od)/\∀ name,PySem.W.lookIn name od=some (mA name) :=
 let ⟨od,ho,hl⟩:=oF I.ns
 ⟨od,⟨I.obj,rfl,rfl,ho⟩,hl⟩

section
variable {prog:Program}{w:World}{A:Around}{E:Value->Shared->Prop}{s:Shared}{K:PySem.W.Frag}{x dx C f:Addr}{mA:Str->Option Value}{name:Str}{v:Value}

theorem get_map {expr:Bool}{Q:Value->Shared->Prop} (X:K.In s.heap) (I:sI s.heap x dx C mA) (hg:PySem.W.plainGet K C name=true) (hh:PySem.W.hasDictIn K C=true)
  (ha:PySem.W.findIn K (.ref C) name=some none) (hv:mA name=some v) (hv':PySem.W.handedIn v=true) (h:Q v { s with toks:=s.toks + 1 }) :
  wpAny (model prog w) A (getAttr (.ref x) name expr) Q E s:=by
 obtain ⟨od,J,hl⟩:=I.look
 exact PySem.W.get_value X J (PySem.W.plainGet_of hg).1 (PySem.W.findObj_own hh ha rfl (by rw [hl,hv])) hv' h

theorem yw {pl:Sem Bool}{Q:Value × List Value->Shared->Prop} (X:K.In s.heap) (I:sI s.heap x dx C mA) (hg:PySem.W.plainGet K C name=true)
  (hf:PySem.W.findIn K (.ref C) name=some (some (.ref f))) (ht:PySem.W.isFn K (.ref f)=true) (hv:mA name=none) (h:Q (.ref f,[.ref x]) s) :
  wpAny (model prog w) A (getMethod (.ref x) name pl) Q E s:=by
 obtain ⟨od,J,hl⟩:=I.look
 exact PySem.W.method_fn X J (PySem.W.plainGet_of hg).1 (PySem.W.plainGet_of hg).2 hf (beq_iff_eq.mp ht) (by show (PySem.W.lookIn name od).map (·.isSome)=some false;rw [hl,hv];rfl) h

theorem AZ {ns:List Str}{Q:Unit->Shared->Prop} (X:K.In s.heap) (I:sI s.heap x dx C mA)
  (hs:PySem.W.findIn K (.ref C) "__setattr__"=some (some (.builtin "object.__setattr__"))) (hp:PySem.W.plainOver K C=true) (ht:PySem.W.takerIn K C name=some none) (hh:PySem.W.hasDictIn K C=true)
  (hw:PySem.Within mA ns) (hsz:ns.length<=sizeLine)
  (h:∀ h',sI h' x dx C (fun y=>if y=name then some v else mA y)->Heap.SameBut dx s.heap h'->Q () { s with heap:=h',toks:=s.toks + 2 }) :
  wpAny (model prog w) A (setAttr (.ref x) name v) Q E s:=by
 obtain ⟨od,J,hl⟩:=I.look
 refine PySem.W.set_plain X J hs (PySem.W.osa_open (s:={ s with toks:=s.toks + 1 }) (r:=none) X J hp ht fun b=>?_)
 obtain ⟨cd,hc,hd'⟩:=PySem.W.any_some hh
 have hx:s.heap.get? x=some ⟨.ref C,some dx,.plain,#[]⟩:=I.obj
 refine wpAny_bind (wpAny_pure (wpAny_bind (wpAny_bind (wpAny_loadPart hx (wpAny_bind (PySem.W.Looks.here (s:={ s with toks:=s.toks + 1 }) (PySem.W.looks_clsIn X hc) ?_))))))
 rw [hd']
 refine wpAny_pure (a:=some dx) (wpAny_bind (wpAny_pure (wpAny_bind ?_)))
 refine wpAny_nsSet1 (s:={ s with toks:=s.toks + 1 }) I.ns fun h' hn2 hs2=>?_
 obtain ⟨oD,esD,epD,hoD,hdD,hcD⟩:=hn2.count (PySem.Within.cons name v hw)
 refine wpAny_bind (wpAny_lookBehind hoD (by rw [hdD];exact pastItsLine_dict (Nat.le_trans hcD (by rw [List.length_cons];omega))) ?_)
 exact wpAny_pure (h _ ⟨(hs2.2 _ (Ne.symm I.ne)).trans I.obj,hn2,I.ne⟩ hs2)

theorem yK {R:Result->Shared->Prop}{vs:List Value}{kw:List (Str × Value)} (X:K.In s.heap) (hm:PySem.W.makesIn K C=true)
  (hi:PySem.W.findIn K (.ref C) "__init__"=some (some (.ref f))) (hf:PySem.W.typeIn K (.ref f)=some (.type "function"))
  (h:codeAny (model prog w) (A.under (.builtin "type.__call__" ⟨.ref C::vs,kw⟩)) (.call (.ref f) ⟨.ref (s.heap.objs.size + 1)::vs,kw⟩) (PySem.W.InitBack (s.heap.objs.size + 1) R)
   { s with heap:=(s.heap.push PySem.W.emptyDict).push (PySem.W.instObj C s.heap.objs.size) }) :
  codeAny (model prog w) A (.call (.ref C) ⟨vs,kw⟩) R s:=by
 obtain ⟨hh,g,d,t,os⟩:=s
 exact PySem.W.make_core (PySem.W.makes_of X hm) (PySem.W.looks_findIn X hi) (fun self=>PySem.W.bind_fn X self hf) (.inl rfl) h
end

def gS (f:Str) (v:V):List (Str × V)->List (Str × V)
 | []=>[(f,v)]
 | (g,x)::r=>if g=f then (g,v)::r else (g,x)::gS f v r
theorem kL (f g:Str) (v:V):∀ fs:List (Str × V),(gS f v fs).lookup g=if g=f then some v else fs.lookup g
 | []=>by
  show List.lookup g [(f,v)]=_
  by_cases h:g=f
  ·have hb:(g == f)=true:=beq_iff_eq.mpr h
   simp only [List.lookup,hb,if_pos h]
  ·have hb:(g == f)=false:=beq_eq_false_iff_ne.mpr h
   simp only [List.lookup,hb,if_neg h]
 | (k,x)::r=>by
  have ih:=kL f g v r
  rw [show gS f v ((k,x)::r)=(if k=f then (k,v)::r else (k,x)::gS f v r) from rfl]
  by_cases hk:k=f
  ·rw [if_pos hk]
   by_cases h:g=k
   ·have hb:(g == k)=true:=beq_iff_eq.mpr h
    simp only [List.lookup,hb,if_pos (h.trans hk)]
   ·have hb:(g == k)=false:=beq_eq_false_iff_ne.mpr h
    simp only [List.lookup,hb,if_neg (fun e:g=f=>h (e.trans hk.symm))]
  ·rw [if_neg hk]
   by_cases h:g=k
   ·have hb:(g == k)=true:=beq_iff_eq.mpr h
    simp only [List.lookup,hb,if_neg (fun e:g=f=>hk (h.symm.trans e))]
   ·have hb:(g == k)=false:=beq_eq_false_iff_ne.mpr h
    simp only [List.lookup,hb]
    exact ih
theorem kn (f:Str) (v:V):∀ fs:List (Str × V),f∈(gS f v fs).map (·.1)/\∀ g,g∈fs.map (·.1)->g∈(gS f v fs).map (·.1)
 | []=>⟨by simp [gS],fun g h=>by simp at h⟩
 | (k,x)::r=>by
  obtain ⟨i1,i2⟩:=kn f v r
  rw [show gS f v ((k,x)::r)=(if k=f then (k,v)::r else (k,x)::gS f v r) from rfl]
  by_cases hk:k=f
  ·rw [if_pos hk]
   subst hk
   exact ⟨by simp,fun g h=>by simpa using h⟩
  ·rw [if_neg hk]
   refine ⟨?_,fun g h=>?_⟩
   ·rw [List.map_cons]
    exact List.mem_cons_of_mem _ i1
   ·rw [List.map_cons] at h ⊢
    rcases List.mem_cons.mp h with e | e
    ·exact List.mem_cons.mpr (.inl e)
    ·exact List.mem_cons_of_mem _ (i2 g e)
theorem kJ (f:Str) (v:V):∀ fs:List (Str × V),(gS f v fs).length<=fs.length + 1
 | []=>by simp [gS]
 | (k,x)::r=>by
  have ih:=kJ f v r
  rw [show gS f v ((k,x)::r)=(if k=f then (k,v)::r else (k,x)::gS f v r) from rfl]
  by_cases hk:k=f
  ·rw [if_pos hk,List.length_cons,List.length_cons];omega
  ·rw [if_neg hk,List.length_cons,List.length_cons];omega

theorem ig.some_of {v:V}{o:Option Value} (r:ig (some v) o):∃ u,o=some u/\RelV v u:=by
 cases o with
 | none=>exact (show False from r).elim
 | some u=>exact ⟨u,rfl,r⟩
theorem ig.none_of {o:Option Value} (r:ig none o):o=none:=by
 cases o with
 | none=>rfl
 | some u=>exact (show False from r).elim
theorem wH {v:V}{u:Value} (r:RelV v u):PySem.W.handedIn u=true:=by
 cases v with
 | non=>cases (show u=Value.none from r);rfl
 | bl b=>cases (show u=Value.bool b from r);rfl
 | int i=>obtain ⟨t,e⟩:=(show ∃ t,u=Value.int i t from r);cases e;rfl
 | str x=>obtain ⟨t,e⟩:=(show ∃ t,u=Value.str x t from r);cases e;rfl
 | byt b=>obtain ⟨t,e⟩:=(show ∃ t,u=Value.bytes b t from r);cases e;rfl
 | flt b=>obtain ⟨t,e⟩:=(show ∃ t,u=Value.float b t from r);cases e;rfl
 | ref a=>cases (show u=Value.ref a from r);rfl
 | ty n=>cases (show u=Value.type n from r);rfl

section
variable {P:Program}{w:World}{H H':Hp}{h h':Heap}{a C dx:Addr}{fs fs':List (Str × V)}
theorem lz (hok:HOk P w H h) (e:H a=some (.ins C dx fs)):∃ mA,sI h a dx C mA/\(∀ f,ig (fs.lookup f) (mA f))/\PySem.Within mA (fs.map (·.1))/\fs.length<=1000/\H dx=some (.own a):=by
 obtain ⟨d,z,ne,ob,mA,n,r,q⟩:=(show aX P w H h a (.ins C dx fs) from hok a _ e)
 exact ⟨mA,⟨ob,n,ne⟩,r,q,z,d⟩
end

structure Cls (K:PySem.W.Frag) (C:Addr):Prop where
 pg:PySem.W.plainGet K C Str.empty=true
 hd:PySem.W.hasDictIn K C=true
 po:PySem.W.plainOver K C=true
 sa:PySem.W.findIn K (.ref C) "__setattr__"=some (some (.builtin "object.__setattr__"))
theorem Cls.get {K:PySem.W.Frag}{C:Addr} (c:Cls K C) (f:Str):PySem.W.plainGet K C f=true:=c.pg
def dF (K:PySem.W.Frag) (C:Addr) (f:Str):Prop:=PySem.W.findIn K (.ref C) f=some none
theorem dF.Ef {K:PySem.W.Frag}{C:Addr}{f:Str} (n:dF K C f):PySem.W.takerIn K C f=some none:=by
 unfold PySem.W.takerIn
 rw [show PySem.W.findIn K (.ref C) f=some none from n]
 rfl
structure Meth (K:PySem.W.Frag) (C:Addr) (m:Str) (f:Addr):Prop where
 at_:PySem.W.findIn K (.ref C) m=some (some (.ref f))
 fn:PySem.W.isFn K (.ref f)=true
 kp:PySem.W.keepIn K (.ref f)=true

section
variable {X:Cx}{pins:List (Addr × Obj)}{σ:St}{H:Hp}{s:Shared}{a C dx:Addr}{fs:List (Str × V)}{f:Str}{v:V}{A:Around}{E:Value->Shared->Prop}

theorem sW {b:Bool}{Q:Value->Shared->Prop} (I:Inv X pins σ H s) (e:H a=some (.ins C dx fs)) (c:Cls X.K C) (n:dF X.K C f) (l:fs.lookup f=some v)
  (h:∀ u s',Inv X pins σ H s'->RelV v u->Q u s'):wpAny (model X.prog X.w) A (getAttr (.ref a) f b) Q E s:=by
 obtain ⟨mA,O,r,_,_,_⟩:=lz I.hok e
 obtain ⟨u,hu,ru⟩:=ig.some_of (v:=v) (o:=mA f) (by rw [← l];exact r f)
 exact get_map I.kIn O (c.get f) c.hd n hu (wH ru) (h u _ (I.tok _) ru)

theorem mx {m:Str}{g:Addr}{pl:Sem Bool}{Q:Value × List Value->Shared->Prop} (I:Inv X pins σ H s) (e:H a=some (.ins C dx fs)) (c:Cls X.K C) (k:Meth X.K C m g) (l:fs.lookup m=none)
  (h:Q (.ref g,[.ref a]) s):wpAny (model X.prog X.w) A (getMethod (.ref a) m pl) Q E s:=by
 obtain ⟨mA,O,r,_,_,_⟩:=lz I.hok e
 have hn:mA m=none:=ig.none_of (by rw [← l];exact r m)
 exact yw I.kIn O (c.get m) k.at_ k.fn hn h

theorem tZ {y:V}{u:Value}{Q:Unit->Shared->Prop} (I:Inv X pins σ H s) (e:H a=some (.ins C dx fs)) (c:Cls X.K C) (n:dF X.K C f) (hl:fs.length < 1000) (ry:RelV y u)
  (h:∀ s',Inv X pins σ (upd H a (.ins C dx (gS f y fs))) s'->Q () s'):wpAny (model X.prog X.w) A (setAttr (.ref a) f u) Q E s:=by
 obtain ⟨mA,O,r,wi,_,ho⟩:=lz I.hok e
 have hz:(fs.map (·.1)).length<=sizeLine:=by rw [List.length_map,sizeLine_eq];omega
 refine AZ I.kIn O c.sa c.po n.Ef c.hd wi hz fun h' O' sb=>h _ ?_
 have hd:∃ o,h'.get? dx=some o:=let ⟨o,_,_,e',_⟩:=O'.ns;⟨o,e'⟩
 refine I.write (x:=a) (e:=dx) (by rw [e];exact True.intro) (.inr ho) (fun b q hb z=>(sb.2 b hb).trans z) hd ?_
 refine ⟨by rw [av O.ne];exact ho,?_,O.ne,O'.obj,_,O'.ns,fun g=>?_,fun g hg=>?_⟩
 ·have:=kJ f y fs;omega
 ·show ig ((gS f y fs).lookup g) (if g=f then some u else mA g)
  rw [kL]
  by_cases q:g=f
  ·rw [if_pos q,if_pos q];exact ry
  ·rw [if_neg q,if_neg q];exact r g
 ·by_cases q:g=f
  ·rw [q];exact (kn f y fs).1
  ·refine (kn f y fs).2 g (wi g fun z=>hg ?_)
   show (if g=f then some u else mA g)=none
   rw [if_neg q];exact z

theorem Inv.made (I:Inv X pins σ H s):Inv X pins σ (upd (upd H s.heap.objs.size (.own (s.heap.objs.size + 1))) (s.heap.objs.size + 1) (.ins C s.heap.objs.size []))
  { s with heap:=(s.heap.push PySem.W.emptyDict).push (PySem.W.instObj C s.heap.objs.size) }:=by
 have e1:(s.heap.push PySem.W.emptyDict).get? s.heap.objs.size=some PySem.W.emptyDict:=Heap.get?_push_size s.heap rfl
 have e2:((s.heap.push PySem.W.emptyDict).push (PySem.W.instObj C s.heap.objs.size)).get? (s.heap.objs.size + 1)=some (PySem.W.instObj C s.heap.objs.size):=by
  have:=Heap.get?_push_size (s.heap.push PySem.W.emptyDict) (o:=PySem.W.instObj C s.heap.objs.size) rfl
  rwa [Heap.size_push] at this
 have e3:(s.heap.push PySem.W.emptyDict).Ns s.heap.objs.size (fun _=>none):=⟨PySem.W.emptyDict,#[],_,e1,rfl,(fun e he=>absurd he (by simp)),fun _=>rfl⟩
 have I1:=I.laid (a:=s.heap.objs.size) (o:=.own (s.heap.objs.size + 1)) (h':=s.heap.push PySem.W.emptyDict) (t':=s.toks) (fun b u q=>Heap.get?_push_of_some _ q) (Nat.le_refl _) ⟨_,e1⟩
 refine I1.laid (a:=s.heap.objs.size + 1) (o:=.ins C s.heap.objs.size []) (t':=s.toks) (fun b u q=>Heap.get?_push_of_some _ q) (Nat.le_of_eq (Heap.size_push _ _)) ?_
 have ne:s.heap.objs.size≠s.heap.objs.size + 1:=Nat.ne_of_lt (Nat.lt_succ_self _)
 refine ⟨by rw [av ne,ay],Nat.zero_le _,ne,e2,fun _=>none,(Heap.Ns1.of_empty e3).at fun o q=>Heap.get?_push_of_some _ q,fun _=>True.intro,fun y hy=>absurd rfl hy⟩

theorem uN {prog:Program}{w:World}{env:Env}{e:Expr}{f:Str}{pos:Pos}{s:Shared}{Q:Value->Shared->Prop} (hb:attributeBase e f env (eval e env)=eval e env)
  (h:wpAny (model prog w) A (eval e env) (fun o s₁=>wpAny (model prog w) A (getAttr o f true) Q E s₁) E s):wpAny (model prog w) A (eval (.Attribute e f pos) env) Q E s :=
 Attribute_any_ h (by rw [arm_eval_Attribute,hb])
end

def EN (K:PySem.W.Frag) (ta:TE) (f:Str):TE:=fun σ H Q=>ta σ H fun x H1=>∃ a C dx fs v,x=.ref a/\H1 a=some (.ins C dx fs)/\Cls K C/\dF K C f/\fs.lookup f=some v/\Q v H1
def EJ (K:PySem.W.Frag) (ta tv:TE) (f:Str):TS:=fun D σ H=>tv σ H fun y H1=>ta σ H1 fun x H2=>∃ a C dx fs,x=.ref a/\H2 a=some (.ins C dx fs)/\Cls K C/\dF K C f/\fs.length < 1000 ∧
 D.nx σ (upd H2 a (.ins C dx (gS f y fs)))
section
variable {X:Cx}{o e value:Expr}{f:Str}{pos pos' tpos:Pos}{ta tv:TE}
theorem Dd (he:PE X e ta) (hb:attributeBase e f X.env (eval e X.env)=eval e X.env):PE X (.Attribute e f pos) (EN X.K ta f):=by
 intro pins s σ H Q I h
 refine uN hb (thn (he pins s σ H _ I h) fun u s1 ⟨x,H1,I1,rx,a,C,dx,fs,v,ex,ea,c,n,l,q⟩=>?_)
 subst ex
 obtain rfl:u=Value.ref a:=rx
 exact sW I1 ea c n l fun u' s2 I2 ru=>⟨v,H1,I2,ru,q⟩
theorem Di (ha:PE X o ta) (hv:PE X value tv) (hs:swapsWith value (some (.Attribute o f pos')) pos.line X.env=pure false):PS X (.Assign [.Attribute o f pos'] value pos) (EJ X.K ta tv f):=by
 intro pins s σ H D I h
 refine plainObj_wpAny_Assign_Attribute (thn (hv pins s σ H _ I h) fun u s1 ⟨y,H1,I1,ry,q⟩=>thn (ha pins s1 σ H1 _ I1 q) fun ov s2 ⟨x,H2,I2,rx,a,C,dx,fs,ex,ea,c,n,l,q2⟩=>?_) hs
 subst ex
 obtain rfl:ov=Value.ref a:=rx
 exact tZ I2 ea c n l ry fun s3 I3=>⟨σ,_,I3,q2⟩
end

section
variable {X:Cx}{pins:List (Addr × Obj)}{σ:St}{H:Hp}{s:Shared}{A:Around}{E:Value->Shared->Prop}{Q:Value->Shared->Prop}{c:Value}{b:Bool}
inductive iX (K:PySem.W.Frag) (H:Hp):V->Value->Prop where
 | non:iX K H .non (.type "NoneType")
 | bl (x:Bool):iX K H (.bl x) (.type "bool")
 | int (i:Int):iX K H (.int i) (.type "int")
 | str (x:Str):iX K H (.str x) (.type "str")
 | flt (x:UInt64):iX K H (.flt x) (.type "float")
 | lst {a:Addr}{xs:List V} (e:H a=some (.lst xs)):iX K H (.ref a) (.type "list")
 | frz {a:Addr}{o:Obj}{xs:List V} (e:H a=some (.frz o (.lst xs))):iX K H (.ref a) (.type "list")
 | tup {a:Addr}{xs:List V} (e:H a=some (.tup xs)):iX K H (.ref a) (.type "tuple")
 | dK {a:Addr}{kvs:List (Key × V)} (e:H a=some (.dK kvs)):iX K H (.ref a) (.type "dict")
 | dT {a:Addr}{kvs:List (List Key × V)} (e:H a=some (.dT kvs)):iX K H (.ref a) (.type "dict")
 | ins {a C dx:Addr}{fs:List (Str × V)} (e:H a=some (.ins C dx fs)) (cl:Cls K C) (ha:PySem.W.findIn K (.ref C) "__class__"=some (some (.builtin "object.__class__")))
   (hn:PySem.W.specialIn K (.builtin "object.__class__") "__get__"=some (some (.builtin "getset_descriptor.__get__"))) (htk:PySem.W.takesIn K (.builtin "object.__class__")=some true)
   (hm:PySem.W.mroIn K C (.type "object")=some true):iX K H (.ref a) (.ref C)
theorem isinst_ok {x:V}{u t:Value} (I:Inv X pins σ H s) (rx:RelV x u) (ty:iX X.K H x t) (e:PySem.W.kitOne X.K t c=some b) (h:∀ tk,Q (.bool b) { s with toks:=tk }) :
  wpAny (model X.prog X.w) A (call (.builtin "isinstance") [u,c]) Q E s:=by
 cases ty with
 | non=>cases (show u=Value.none from rx);exact PySem.W.kia_one PySem.W.kitx_none I.kIn True.intro e (fun z=>nomatch z) h
 | bl y=>cases (show u=Value.bool y from rx);exact PySem.W.kia_one PySem.W.kitx_bool I.kIn True.intro e (fun z=>nomatch z) h
 | int i=>obtain ⟨t,q⟩:=(show ∃ t,u=Value.int i t from rx);cases q;exact PySem.W.kia_one PySem.W.kitx_int I.kIn True.intro e (fun z=>nomatch z) h
 | str y=>obtain ⟨t,q⟩:=(show ∃ t,u=Value.str y t from rx);cases q;exact PySem.W.kia_one PySem.W.kitx_str I.kIn True.intro e (fun z=>nomatch z) h
 | flt y=>obtain ⟨t,q⟩:=(show ∃ t,u=Value.float y t from rx);cases q;exact PySem.W.kia_one PySem.W.kitx_float I.kIn True.intro e (fun z=>nomatch z) h
 | @lst a xs ea =>
  cases (show u=Value.ref a from rx)
  obtain ⟨_,_,n,_,h1⟩:=(show aX X.prog X.w H s.heap a (.lst xs) from I.hok a _ ea)
  exact PySem.W.kia_one PySem.W.kitx_list I.kIn ⟨_,h1,rfl⟩ e (fun z=>nomatch z) h
 | @frz a ob xs ea =>
  cases (show u=Value.ref a from rx)
  obtain ⟨_,_,_,n,_,h1⟩:=(show aX X.prog X.w H s.heap a (.frz ob (.lst xs)) from I.hok a _ ea)
  exact PySem.W.kia_one PySem.W.kitx_list I.kIn ⟨_,h1,rfl⟩ e (fun z=>nomatch z) h
 | @tup a xs ea =>
  cases (show u=Value.ref a from rx)
  obtain ⟨_,_,_,p⟩:=(show aX X.prog X.w H s.heap a (.tup xs) from I.hok a _ ea)
  obtain ⟨o,h1,h2,_⟩:=p
  exact PySem.W.kia_one PySem.W.kitx_tuple I.kIn ⟨o,h1,h2⟩ e (fun z=>nomatch z) h
 | @dK a kvs ea =>
  cases (show u=Value.ref a from rx)
  obtain ⟨_,_,vs,_,p⟩:=(show aX X.prog X.w H s.heap a (.dK kvs) from I.hok a _ ea)
  obtain ⟨o,es,ep,h1,h2,_⟩:=p
  exact PySem.W.kia_one PySem.W.kitx_dict I.kIn ⟨o,h1,h2.1⟩ e (fun z=>nomatch z) h
 | @dT a kvs ea =>
  cases (show u=Value.ref a from rx)
  obtain ⟨_,_,xs,_,o,es,ep,h1,h2,_⟩:=(show aX X.prog X.w H s.heap a (.dT kvs) from I.hok a _ ea)
  exact PySem.W.kia_one PySem.W.kitx_dict I.kIn ⟨o,h1,h2.1⟩ e (fun z=>nomatch z) h
 | @ins a C dx fs ea cl ha hn htk hm =>
  cases (show u=Value.ref a from rx)
  obtain ⟨mA,O,_⟩:=lz I.hok ea
  obtain ⟨od,J,_⟩:=O.look
  exact PySem.W.kia_one (PySem.W.kitx_own (cl.get _) cl.hd ha hn htk hm) I.kIn J e (fun z=>nomatch z) h
end
end L2

namespace L2
open PySem PySem.Spec PyProof.Rows

structure bq (k:Nat) (A:Around):Prop where
 hd:A.handled=none
 dp:A.depth + 3 * k + 5 < recursionLimit
 un:A.units + 16 * k + 200 < cLine
theorem bq.mono {j k:Nat}{A:Around} (r:bq k A) (h:j<=k):bq j A:=⟨r.hd,by have:=r.dp;omega,by have:=r.un;omega⟩
theorem bq.deeper {k:Nat}{A:Around} (r:bq (k + 1) A) (env:Env):bq k (A.deeper env) :=
 ⟨r.hd,by have:=r.dp;show A.depth + 1 + 3 * k + 5 < _;omega,by have:=r.un;show A.units + 3 + 16 * k + 200 < _;omega⟩
theorem bq.in1 {k:Nat}{A:Around} (r:bq (k + 1) A):bq k A.in1 :=
 ⟨r.hd,by have:=r.dp;show A.depth + 3 * k + 5 < _;omega,by have:=r.un;show A.units + 1 + 16 * k + 200 < _;omega⟩
theorem tm {A:Around}{C:Addr}{us:List Value}{kw:List (Str × Value)}:(A.under (.builtin "type.__call__" ⟨.ref C::us,kw⟩)).depth=A.depth + 1:=by
 first | rfl | simp [Around.under,Code.weight,Code.isCreation,Code.isGuard,Code.isCaller,Code.frames,Code.isFrame,guardIds]
theorem tF {A:Around}{C:Addr}{us:List Value}{kw:List (Str × Value)}:(A.under (.builtin "type.__call__" ⟨.ref C::us,kw⟩)).units=A.units + 1:=by
 first | rfl | simp [Around.under,Code.cUnits,Code.frames,Code.isFrame]
theorem bq.make {k:Nat}{A:Around} (r:bq (k + 1) A) (C:Addr) (us:List Value) (kw:List (Str × Value)):bq k (A.under (.builtin "type.__call__" ⟨.ref C::us,kw⟩)) :=
 ⟨r.hd,by have:=r.dp;rw [tm];omega,by have:=r.un;rw [tF];omega⟩
theorem bq.depth {k:Nat}{A:Around} (r:bq k A):A.depth < recursionLimit:=by have:=r.dp;omega
theorem bq.units {k:Nat}{A:Around} (r:bq k A):A.units + 64 < cLine:=by have:=r.un;omega
theorem bq.aM {k:Nat}{A:Around} (r:bq k A):A.units < cLine:=by have:=r.un;omega

def uf:TA:=fun _ H Q=>Q [] H
def oV (ta:TE) (tr:TA):TA:=fun σ H Q=>ta σ H fun x H1=>tr σ H1 fun xs H2=>Q (x::xs) H2
section
variable {X:Cx}{e:Expr}{es:List Expr}{te:TE}{t:TA}{pos:Pos}
theorem ae:PA X [] uf:=fun _ _ _ _ H Q I h=>Calls.spliced_nil ⟨[],H,I,.nil,h⟩
theorem A5 (ha:PE X e te) (hr:PA X es t) (hs:starEach (e::es) X.env=(false,eval e X.env)::starEach es X.env:=by rfl):PA X (e::es) (oV te t):=by
 intro pos pins s σ H Q I h
 rw [hs]
 show wpAny _ _ (spliced ((false,eval e X.env)::backTo pos (starEach es X.env))) _ _ s
 refine Calls.spliced_cons (thn (ha pins s σ H _ I h) fun u s1 ⟨x,H1,I1,r1,q1⟩=>?_)
 exact thn (hr pos pins s1 σ H1 _ I1 q1) fun us s2 ⟨xs,H2,I2,r2,q2⟩=>⟨x::xs,H2,I2,.cons r1 r2,q2⟩

end

abbrev Sp:=List V->Hp->VK->XK->Prop
abbrev CXT:=List Env->Hp->Shared->XK->Value->Shared->Prop

structure jq (P:Program) (w:World) (K:PySem.W.Frag) (mg:Str->Option Value) (base:Heap) (A:Around) (outer:List Env) (s:Shared) (H:Hp):Prop where
 frames:A.frames=some outer
 mod:Mod K mg base
 bs:∀ b o,base.get? b=some o->s.heap.get? b=some o/\H b=none
 bsz:base.objs.size<=s.heap.objs.size
 ik:s.heap.FunFrames base outer
 frf:∀ b∈frs outer,H b=none
 hok:HOk P w H s.heap
 bare:AllBare s.gens
def CE (outer:List Env) (P:Program) (w:World) (H:Hp) (s:Shared) (Q:VK) (u:Value) (s':Shared):Prop :=
 ∃ v H',s'.os=s.os/\AllBare s'.gens/\Un (frs outer) [] H H' s.heap s'.heap/\HOk P w H' s'.heap/\RelV v u/\Q v H'
def CR (CX:CXT) (outer:List Env) (P:Program) (w:World) (H:Hp) (s:Shared) (Q:VK) (E:XK) (r:Result) (s':Shared):Prop :=
 match r with
 | .ok (.ret u)=>CE outer P w H s Q u s'
 | .ok _=>False
 | .error e=>CX outer H s E e s'
structure aW (P:Program) (w:World) (K:PySem.W.Frag) (mg:Str->Option Value) (base:Heap) (CX:CXT) (k:Nat) (f:Addr) (fd:FuncData) (ps:List Str) (sp:Sp):Prop where
 len:∀ vs H Q E,sp vs H Q E->vs.length=ps.length
 run:∀ (A:Around) (outer:List Env) (s:Shared) (H:Hp) (args:Args) (us:List Value) (vs:List V) (Q:VK) (E:XK),bq k A->jq P w K mg base A outer s H->BindsTo s fd args (ps.zip us)->Vals vs us->sp vs H Q E →
  codeAny (model P w) A (.call (.ref f) args) (CR CX outer P w H s Q E) s
theorem aW.mono {P:Program}{w:World}{K:PySem.W.Frag}{mg:Str->Option Value}{base:Heap}{CX:CXT}{j k:Nat}{f:Addr}{fd:FuncData}{ps:List Str}{sp:Sp} (F:aW P w K mg base CX j f fd ps sp) (h:j<=k) :
  aW P w K mg base CX k f fd ps sp:=⟨F.len,fun A outer s H args us vs Q E hr=>F.run A outer s H args us vs Q E (hr.mono h)⟩
theorem aW.imp {P:Program}{w:World}{K:PySem.W.Frag}{mg:Str->Option Value}{base:Heap}{CX:CXT}{k:Nat}{f:Addr}{fd:FuncData}{ps:List Str}{sp sp':Sp} (F:aW P w K mg base CX k f fd ps sp)
  (h:∀ vs H Q E,sp' vs H Q E->sp vs H Q E):aW P w K mg base CX k f fd ps sp' :=
 ⟨fun vs H Q E q=>F.len vs H Q E (h _ _ _ _ q),fun A outer s H args us vs Q E hr he hb hv hs=>F.run A outer s H args us vs Q E hr he hb hv (h _ _ _ _ hs)⟩

theorem jq.make {P:Program}{w:World}{K:PySem.W.Frag}{mg:Str->Option Value}{base:Heap}{A:Around}{outer:List Env}{s:Shared}{H:Hp} (e:jq P w K mg base A outer s H) (C:Addr) (us:List Value) (kw:List (Str × Value)) :
  jq P w K mg base (A.under (.builtin "type.__call__" ⟨.ref C::us,kw⟩)) outer s H:=⟨by first | exact e.frames | (simpa [Around.under,Code.envs,Code.isFrame,pushEnvs] using e.frames),e.mod,e.bs,e.bsz,e.ik,e.frf,e.hok,e.bare⟩
theorem jq.in1 {P:Program}{w:World}{K:PySem.W.Frag}{mg:Str->Option Value}{base:Heap}{A:Around}{outer:List Env}{s:Shared}{H:Hp} (e:jq P w K mg base A outer s H) :
  jq P w K mg base A.in1 outer s H:=⟨e.frames,e.mod,e.bs,e.bsz,e.ik,e.frf,e.hok,e.bare⟩

section
variable {X:Cx}{pins:List (Addr × Obj)}{σ:St}{H:Hp}{s s':Shared}
theorem Inv.wB (I:Inv X pins σ H s):jq X.prog X.w X.K X.mg X.base X.A X.stack s H :=
 ⟨I.ok.frames,I.ok.mod,I.bs,Nat.le_trans I.ok.bsz I.sz,I.stack,I.jR,I.hok,I.bare⟩
theorem Inv.after {Q:VK}{u:Value} (I:Inv X pins σ H s) (h:CE X.stack X.prog X.w H s Q u s'):EP X pins σ Q u s':=by
 obtain ⟨v,H',os,bare,un,hok,r,q⟩:=h
 obtain ⟨hh,g,d,t,os'⟩:=s'
 obtain rfl:os'=s.os:=os
 exact ⟨v,H',I.call (h':=hh) (g':=g) (d':=d) (t':=t) (ch:=[]) un hok bare (fun b z=>absurd z (by simp)),r,q⟩
end

def oU (sp:Sp) (dvs:List V) (E:St->XK) (t:TA):TE:=fun σ H Q=>t σ H fun vs H1=>sp (vs++dvs) H1 Q (E σ)
def BS (C:Addr) (m:Str) (sp:Sp) (dvs:List V) (E:St->XK) (ta:TE) (t:TA):TE:=fun σ H Q=>ta σ H fun x H1=>∃ a dx fs,x=.ref a/\H1 a=some (.ins C dx fs)/\fs.lookup m=none ∧
 t σ H1 fun vs H2=>sp (x::(vs++dvs)) H2 Q (E σ)
def Eb (C:Addr) (sp:Sp) (dvs:List V) (E:St->XK) (t:TA):TE:=fun σ H Q=>t σ H fun vs H1=>∀ x dx,H1 x=none->H1 dx=none->dx≠x →
 sp (.ref x::(vs++dvs)) (upd (upd H1 dx (.own x)) x (.ins C dx [])) (fun v H2=>v=.non/\Q (.ref x) H2) (E σ)

def Binds (K:PySem.W.Frag) (fd:FuncData) (ps:List Str) (ds:List Value):Prop :=
 ∀ (s:Shared) (us:List Value),K.In s.heap->(us++ds).length=ps.length->BindsTo s fd ⟨us,[]⟩ (ps.zip (us++ds))
theorem Binds.all {K:PySem.W.Frag}{fd:FuncData}{ps:List Str} (h:∀ us:List Value,us.length=ps.length->bindArgs fd ⟨us,[]⟩=pure (ps.zip us)):Binds K fd ps []:=fun s us _ hl=>by
 rw [List.append_nil] at hl ⊢
 exact .of_eq (h us hl)

def Passes (CX:CXT) (X:Cx) (E:St->XK):Prop:=∀ (pins:List (Addr × Obj)) (σ:St) (H:Hp) (s:Shared) (e:Value) (s':Shared),Inv X pins σ H s->CX X.stack H s (E σ) e s'->X.xe e s'

section
variable {X:Cx}{CX:CXT}{k:Nat}{f C:Addr}{fd:FuncData}{ps:List Str}{sp:Sp}{dvs:List V}{ds:List Value}{E:St->XK}{x m:Str}{p pos apos:Pos}{e o:Expr}{es:List Expr}{ta:TE}{t:TA}

theorem tU {pins:List (Addr × Obj)}{σ:St}{H:Hp}{s:Shared}{Q:VK}{us:List Value}{vs:List V} (F:aW X.prog X.w X.K X.mg X.base CX k f fd ps sp) (hr:bq k X.A) (hb:Binds X.K fd ps ds) (hd:Vals dvs ds) (hx:Passes CX X E)
  (I:Inv X pins σ H s) (r:Vals vs us) (h:sp (vs++dvs) H Q (E σ)):wpAny (model X.prog X.w) X.A (call (.ref f) us) (EP X pins σ Q) X.xe s:=by
 have r2:Vals (vs++dvs) (us++ds):=r.append hd
 have hl:(us++ds).length=ps.length:=by rw [← r2.length];exact F.len _ _ _ _ h
 refine wpAny_call (codeAny_mono (F.run X.A X.stack s H ⟨us,[]⟩ (us++ds) (vs++dvs) Q (E σ) hr I.wB (hb s us I.kIn hl) r2 h) fun r s' hq=>?_)
 cases r with
 | error e=>exact hx pins σ H s e s' I hq
 | ok fl =>
  cases fl with
  | ret u=>exact I.after hq
  | next=>exact False.elim hq
  | brk=>exact False.elim hq
  | cont=>exact False.elim hq

theorem A8 (F:aW X.prog X.w X.K X.mg X.base CX k f fd ps sp) (hr:bq k X.A) (hg:Gl X x) (hm:X.mg x=some (.ref f)) (hk:PySem.W.keepIn X.K (.ref f)=true) (hb:Binds X.K fd ps ds) (hd:Vals dvs ds) (hx:Passes CX X E)
  (ha:PA X (e::es) t) (hdb:(x == ("__debug__":Str))=false:=by decide) (he:starEach (e::es) X.env=(false,eval e X.env)::starEach es X.env:=by rfl) (hpl:(backTo pos (starEach es X.env)).any (·.1)=false:=by rfl) :
  PE X (.Call (.Name x p) (e::es) [] pos) (oU sp dvs E t):=by
 intro pins s σ H Q I h
 refine wpAny_Call_Name_kw (eP I hg hm ?_ hdb)
 refine PySem.W.callWith_K (h₀:=X.base) I.ok.mod.kin hk (thn (ha pos pins s σ H _ I h) fun us s1 ⟨vs,H1,I1,r,q⟩=>⟨I1.kIn,?_⟩) he hpl
 exact tU F hr hb hd hx I1 r q
theorem vB {pl:Sem Bool} (he:PE X o ta) (c:Cls X.K C) (hm:Meth X.K C m f) (F:aW X.prog X.w X.K X.mg X.base CX k f fd ps sp) (hr:bq k X.A) (hb:Binds X.K fd ps ds) (hd:Vals dvs ds) (hx:Passes CX X E) (ha:PA X (e::es) t)
  (hst:starEach (e::es) X.env=(false,eval e X.env)::starEach es X.env:=by rfl) (hpl:(backTo pos (starEach es X.env)).any (·.1)=false:=by rfl)
  (ht:eval (.Call (.Attribute o m apos) (e::es) [] pos) X.env=(do
   let ov ← eval o X.env
   standAt apos.atName
   let (f,first) ← holding [ov] (getMethod ov m pl)
   callWith pos f first (backTo pos (starEach (e::es) X.env)) (backToKw pos (keywordEach [] X.env))):=by rfl) :
  PE X (.Call (.Attribute o m apos) (e::es) [] pos) (BS C m sp dvs E ta t):=by
 intro pins s σ H Q I h
 refine PySem.W.methodCall_KW (pl:=pl) (thn (he pins s σ H _ I h) fun u s1 ⟨x,H1,I1,rx,a,dx,fs,ex,ea,l,q⟩=>?_) ht
 subst ex
 obtain rfl:u=Value.ref a:=rx
 refine mx I1 ea c hm l ?_
 refine PySem.W.callWith_K (first:=[.ref a]) (h₀:=X.base) I.ok.mod.kin hm.kp (thn (ha pos pins s1 σ H1 _ I1 q) fun us s2 ⟨vs,H2,I2,r,q2⟩=>⟨I2.kIn,?_⟩) hst hpl
 exact tU (us:=.ref a::us) (vs:=.ref a::vs) F hr hb hd hx I2 (.cons rfl r) q2
theorem zd {pl:Sem Bool} (he:PE X o ta) (c:Cls X.K C) (hm:Meth X.K C m f) (F:aW X.prog X.w X.K X.mg X.base CX k f fd ps sp) (hr:bq k X.A) (hb:Binds X.K fd ps ds) (hd:Vals dvs ds) (hx:Passes CX X E)
  (ht:eval (.Call (.Attribute o m apos) [] [] pos) X.env=(do
   let ov ← eval o X.env
   standAt apos.atName
   let (f,first) ← holding [ov] (getMethod ov m pl)
   callWith pos f first (backTo pos (starEach [] X.env)) (backToKw pos (keywordEach [] X.env))):=by rfl) :
  PE X (.Call (.Attribute o m apos) [] [] pos) (BS C m sp dvs E ta uf):=by
 intro pins s σ H Q I h
 refine PySem.W.methodCall_KW (pl:=pl) (thn (he pins s σ H _ I h) fun u s1 ⟨x,H1,I1,rx,a,dx,fs,ex,ea,l,q⟩=>?_) ht
 subst ex
 obtain rfl:u=Value.ref a:=rx
 refine mx I1 ea c hm l ?_
 exact PySem.W.callWith_K0 (first:=[.ref a]) I1.kIn hm.kp (tU (us:=[.ref a]) (vs:=[.ref a]) F hr hb hd hx I1 (.cons rfl .nil) q)

structure Mk (K:PySem.W.Frag) (C f:Addr):Prop where
 makes:PySem.W.makesIn K C=true
 init:PySem.W.findIn K (.ref C) "__init__"=some (some (.ref f))
 fn:PySem.W.isFn K (.ref f)=true
 kp:PySem.W.keepIn K (.ref C)=true

theorem zz {pins:List (Addr × Obj)}{σ:St}{H:Hp}{s:Shared}{Q:VK}{us:List Value}{vs:List V} (M:Mk X.K C f) (F:aW X.prog X.w X.K X.mg X.base CX k f fd ps sp) (hr:bq (k + 1) X.A) (hb:Binds X.K fd ps ds) (hd:Vals dvs ds)
  (hx:Passes CX X E) (I:Inv X pins σ H s) (r:Vals vs us)
  (h:∀ x dx,H x=none->H dx=none->dx≠x->sp (.ref x::(vs++dvs)) (upd (upd H dx (.own x)) x (.ins C dx [])) (fun v H2=>v=.non/\Q (.ref x) H2) (E σ)) :
  wpAny (model X.prog X.w) X.A (call (.ref C) us) (EP X pins σ Q) X.xe s:=by
 have hq:=h (s.heap.objs.size + 1) s.heap.objs.size (I.hok.fresh (Nat.le_succ _)) (I.hok.fresh (Nat.le_refl _)) (Nat.ne_of_lt (Nat.lt_succ_self _))
 have I2:=Inv.made (C:=C) I
 have r2:Vals (V.ref (s.heap.objs.size + 1)::(vs++dvs)) (Value.ref (s.heap.objs.size + 1)::(us++ds)):=.cons rfl (r.append hd)
 have hl:(Value.ref (s.heap.objs.size + 1)::us++ds).length=ps.length:=by
  have e:=r2.length
  rw [F.len _ _ _ _ hq] at e
  exact e.symm
 refine wpAny_call (yK (f:=f) I.kIn M.makes M.init (beq_iff_eq.mp M.fn) (codeAny_mono (F.run _ X.stack _ _ ⟨Value.ref (s.heap.objs.size + 1)::us,[]⟩ (Value.ref (s.heap.objs.size + 1)::(us++ds)) _ _ (E σ) (hr.make C us [])
  (I2.wB.make C us []) (hb _ (Value.ref (s.heap.objs.size + 1)::us) I2.kIn hl) r2 hq) fun r s' hq'=>?_))
 cases r with
 | error e=>exact hx pins σ _ _ e s' I2 hq'
 | ok fl =>
  cases fl with
  | ret u =>
   obtain ⟨v,H',I3,rv,ev,q3⟩:=I2.after hq'
   subst ev
   exact ⟨rv,⟨V.ref (s.heap.objs.size + 1),H',I3,rfl,q3⟩⟩
  | next=>exact False.elim hq'
  | brk=>exact False.elim hq'
  | cont=>exact False.elim hq'
theorem AD (M:Mk X.K C f) (F:aW X.prog X.w X.K X.mg X.base CX k f fd ps sp) (hr:bq (k + 1) X.A) (hg:Gl X x) (hm:X.mg x=some (.ref C)) (hb:Binds X.K fd ps ds) (hd:Vals dvs ds) (hx:Passes CX X E)
  (ha:PA X (e::es) t) (hdb:(x == ("__debug__":Str))=false:=by decide) (he:starEach (e::es) X.env=(false,eval e X.env)::starEach es X.env:=by rfl) (hpl:(backTo pos (starEach es X.env)).any (·.1)=false:=by rfl) :
  PE X (.Call (.Name x p) (e::es) [] pos) (Eb C sp dvs E t):=by
 intro pins s σ H Q I h
 refine wpAny_Call_Name_kw (eP I hg hm ?_ hdb)
 refine PySem.W.callWith_K (h₀:=X.base) I.ok.mod.kin M.kp (thn (ha pos pins s σ H _ I h) fun us s1 ⟨vs,H1,I1,r,q⟩=>⟨I1.kIn,?_⟩) he hpl
 exact zz M F hr hb hd hx I1 r q
end

section
variable {X:Cx}{CX:CXT}{k:Nat}{f C:Addr}{fd:FuncData}{ps ks:List Str}{sp:Sp}{E:St->XK}{x m:Str}{p pos apos kpos:Pos}{e o:Expr}{es:List Expr}{kws:List Keyword}{te ta:TE}{t tk:TA}{nm:Option Str}
variable {g:List Value->List Value->List Value}{gV:List V->List V->List V}
end

structure aD (N P:List Str) (sc:Scope):Prop where
 kind:sc.kind=.function
 co:sc.isCoroutine=false
 gen:sc.isGenerator=false
 nd:N.Nodup
 pre:N.take P.length=P
 par:∀ x∈P,sc.names.lookup x=some .local ∨ sc.names.lookup x=some .cell
 nofree:∀ y∈sc.names,y.2≠.free

theorem nO {kindOf:Str->Option NameKind}{x:Str}:∀ {binds:List (Str × Value)}{m:Str->Option Value},(∀ v,(x,v) ∉ binds)->bindL kindOf binds m x=m x
 | [],_,_=>rfl
 | (n,v)::r,m,h=>by
  unfold bindL
  rw [nO fun w hw=>h w (List.mem_cons_of_mem _ hw)]
  split
  ·have:x≠n:=by rintro rfl;exact h v List.mem_cons_self
   simp [this]
  ·rfl
theorem nN {kindOf:Str->Option NameKind}{x:Str}:∀ {binds:List (Str × Value)}{m:Str->Option Value},(∀ v,(x,v) ∉ binds)->bindC kindOf binds m x=m x
 | [],_,_=>rfl
 | (n,v)::r,m,h=>by
  unfold bindC
  rw [nN fun w hw=>h w (List.mem_cons_of_mem _ hw)]
  split
  ·rfl
  ·have:x≠n:=by rintro rfl;exact h v List.mem_cons_self
   simp [this]
theorem kb {kindOf:Str->Option NameKind}{x:Str}{v:Value}:∀ {P:List Str}{vs:List Value}{i:Nat}{m:Str->Option Value},P.Nodup->P[i]?=some x->vs[i]?=some v->kindOf x=some .local →
  bindL kindOf (P.zip vs) m x=some v
 | [],_,_,_,_,h,_,_=>by simp at h
 | _::_,[],_,_,_,_,h,_=>by simp at h
 | p::P,w::vs,0,m,nd,h1,h2,hk=>by
  simp at h1 h2;subst h1;subst h2
  show bindL kindOf ((p,w)::P.zip vs) m p=_
  unfold bindL
  rw [nO fun v hv=>(List.nodup_cons.mp nd).1 (List.of_mem_zip hv).1,if_pos hk]
  simp
 | p::P,w::vs,i + 1,m,nd,h1,h2,hk=>by
  show bindL kindOf ((p,w)::P.zip vs) m x=_
  unfold bindL
  exact kb (i:=i) (List.nodup_cons.mp nd).2 (by simpa using h1) (by simpa using h2) hk
theorem ka {kindOf:Str->Option NameKind}{x:Str}{v:Value}:∀ {P:List Str}{vs:List Value}{i:Nat}{m:Str->Option Value},P.Nodup->P[i]?=some x->vs[i]?=some v->kindOf x≠some .local →
  bindC kindOf (P.zip vs) m x=some v
 | [],_,_,_,_,h,_,_=>by simp at h
 | _::_,[],_,_,_,_,h,_=>by simp at h
 | p::P,w::vs,0,m,nd,h1,h2,hk=>by
  simp at h1 h2;subst h1;subst h2
  show bindC kindOf ((p,w)::P.zip vs) m p=_
  unfold bindC
  rw [nN fun v hv=>(List.nodup_cons.mp nd).1 (List.of_mem_zip hv).1,if_neg hk]
  simp
 | p::P,w::vs,i + 1,m,nd,h1,h2,hk=>by
  show bindC kindOf ((p,w)::P.zip vs) m x=_
  unfold bindC
  exact ka (i:=i) (List.nodup_cons.mp nd).2 (by simpa using h1) (by simpa using h2) hk

def start (N:List Str) (vs:List V):St:=vs.map some++List.replicate (N.length - vs.length) none

def iq (CX:CXT) (P:Program) (w:World) (K:PySem.W.Frag) (mg:Str->Option Value) (base:Heap) (N:List Str) (qual:Str) (scope:Scope) (f:Addr) (cd:Value) (A:Around) (outer:List Env) (s:Shared) (H:Hp) (E:XK):Cx where
 prog:=P
 w:=w
 K:=K
 mg:=mg
 base:=base
 A:=A.deeper (envOfC qual scope s.heap.objs.size f cd)
 N:=N
 s₀:=s
 H₀:=H
 env:=envOfC qual scope s.heap.objs.size f cd
 outer:=outer
 stack:=envOfC qual scope s.heap.objs.size f cd::outer
 ex:=[]
 calm:=true
 fn:=fun _=>true
 pn:=[]
 xe:=fun e s'=>wpAny (model P w) (A.deeper (envOfC qual scope s.heap.objs.size f cd)) (leaving (envOfC qual scope s.heap.objs.size f cd) e) (fun _ s''=>CX outer H s E e s'') (fun e' s''=>CX outer H s E e' s'') s'

theorem ju {sc:Scope}{n:Nat}{x:Str} (h:sc.names.lookup x=some .cell):∃ c,(cellsFrom n sc.names []).lookup x=some c:=by
 have q:=PySem.W.cellsFrom_some sc.names n [] (.inl h)
 exact Option.isSome_iff_exists.mp q

theorem ou {CX:CXT}{P:Program}{w:World}{K:PySem.W.Frag}{mg:Str->Option Value}{base:Heap}{N ps:List Str}{qual:Str}{scope:Scope}{f:Addr}{cd:Value}{A:Around}{outer:List Env}{s s1:Shared}{H:Hp}{E:XK}{us:List Value}{vs:List V}
  (S:aD N ps scope) (hd:A.handled=none) (e0:jq P w K mg base A outer s H) (hl:vs.length=ps.length) (r:Vals vs us)
  (x:InCallC s s.heap.objs.size (bindL (envOfC qual scope s.heap.objs.size f cd).kindOf (ps.zip us) fun _=>none) (cellsFrom (s.heap.objs.size + 1) scope.names []) (bindC (envOfC qual scope s.heap.objs.size f cd).kindOf (ps.zip us) fun _=>none) s1) :
  Inv (iq CX P w K mg base N qual scope f cd A outer s H E) [] (start N vs) H s1:=by
 have hpl:ps.length<=N.length:=by have:=congrArg List.length S.pre;rw [List.length_take] at this;omega
 obtain ⟨h1,tk,rfl,hk⟩:=x.done
 have noA:∀ b:Addr,b ∉ (iq CX P w K mg base N qual scope f cd A outer s H E).ex:=fun b z=>absurd (show b∈([]:List Addr) from z) (by simp)
 refine ⟨⟨e0.mod,S.kind,rfl,rfl,Nat.le_refl _,fun y z c h1 h2=>?_,fun y hy=>?_,fun y c _ h=>?_,fun _=>hd,Around.frames_deeper e0.frames,.inr ⟨rfl,rfl⟩,fun b z=>absurd z (noA b),e0.bs,e0.bsz,fun b _ _=>noA b,fun b z=>absurd z (noA b),e0.ik,e0.frf⟩,
  rfl,e0.bare,Un.kept hk,⟨_,x.toInCall.ns,fun i y v h1 h2 h3=>?_⟩,fun y c h=>⟨_,x.cell y c h⟩,e0.hok.fresh (Nat.le_refl _),fun y c h=>?_,fun p hp=>absurd (show p∈([]:List (Addr × Obj)) from hp) (by simp),e0.hok.kept hk,?_⟩
 ·exact name_of_addr x.apart (PySem.mem_of_lookup h1) (PySem.mem_of_lookup h2)
 ·have hy:scope.names.lookup y=some .cell ∨ scope.names.lookup y=some .free:=hy
  rcases hy with hy | hy
  ·exact ju hy
  ·exact absurd rfl (S.nofree _ (PySem.mem_of_lookup hy))
 ·exact Nat.le_of_lt (x.above y c (PySem.mem_of_lookup h))
 ·have hi:i < vs.length:=by
   unfold start at h2
   by_cases hi:i < vs.length
   ·exact hi
   ·rw [List.getElem?_append_right (by simpa using hi)] at h2
    rw [List.getElem?_replicate] at h2
    split at h2 <;> cases h2
  have ha:vs[i]?=some v:=by
   unfold start at h2
   rw [List.getElem?_append_left (by simpa using hi),List.getElem?_map] at h2
   cases e:vs[i]? with
   | none=>rw [e] at h2;cases h2
   | some a=>rw [e] at h2;cases h2;rfl
  obtain ⟨u,hu,rv⟩:=r.get ha
  have hp:ps[i]?=some y:=by
   rw [← S.pre,List.getElem?_take_of_lt (by omega)];exact h1
  have ndP:ps.Nodup:=by rw [← S.pre];exact S.nd.sublist (List.take_sublist _ _)
  refine ⟨u,rv,?_⟩
  rcases S.par y (List.mem_of_getElem? hp) with k | k
  ·exact .inl ⟨k,kb ndP hp hu k⟩
  ·obtain ⟨c,e⟩:=ju (n:=s.heap.objs.size + 1) k
   refine .inr ⟨.inl k,c,e,?_⟩
   have q:=x.cell y c e
   rw [ka ndP hp hu (by show scope.names.lookup y≠_;rw [k];decide)] at q
   exact q
 ·exact e0.hok.fresh (Nat.le_of_lt (x.above y c (PySem.mem_of_lookup h)))
 ·unfold start
  show _=N.length
  rw [List.length_append,List.length_map,List.length_replicate]
  omega

theorem rg {CX:CXT}{P:Program}{w:World}{K:PySem.W.Frag}{mg:Str->Option Value}{base:Heap}{k:Nat}{f:Addr}{name qual:Str}{params:Arguments}{body:List Stmt}{scope:Scope}{dV kV doc pm cdv ct oc:Value}{an od:Option Addr}
  {osl:Array (Option Value)}{N ps:List Str}{sp:Sp} (lk:K.lookup f=some ⟨oc,od,.func (PySem.W.fnOf name qual params body scope dV kV doc pm an cdv ct),osl⟩) (hcd:PySem.W.codeIn K cdv qual=true) (S:aD N ps scope)
  (len:∀ vs H Q E,sp vs H Q E->vs.length=ps.length)
  (hbody:∀ (A:Around) (outer:List Env) (s:Shared) (H:Hp) (vs:List V) (Q:VK) (E:XK),bq k (A.deeper (envOfC qual scope s.heap.objs.size f cdv))->sp vs H Q E →
   ∃ t,PSs (iq CX P w K mg base N qual scope f cdv A outer s H E) body t/\t { nx:=fun _ H'=>Q .non H',rt:=Q } (start N vs) H) :
  aW P w K mg base CX (k + 1) f (PySem.W.fnOf name qual params body scope dV kV doc pm an cdv ct) ps sp:=by
 refine ⟨len,fun A outer s H args us vs Q E hr e0 hb r hsp=>?_⟩
 have hl:=len _ _ _ _ hsp
 have KX:K.In s.heap:=e0.mod.kin.keeps fun b o e=>(e0.bs b o e).1
 have lim:s.heap.NoLimit:=e0.mod.nolimit.keeps fun b o e=>(e0.bs b o e).1
 have hkind:∀ y∈ps.zip us,scope.names.lookup y.1=some .local ∨ (scope.names.lookup y.1=some .cell/\((cellsFrom (s.heap.objs.size + 1) scope.names []).lookup y.1).isSome=true):=fun ⟨n,v⟩ hy=>by
  rcases S.par n (List.of_mem_zip hy).1 with q | q
  ·exact .inl q
  ·exact .inr ⟨q,PySem.W.cellsFrom_some _ _ _ (.inl q)⟩
 refine codeAny_call_function hr.depth (KX _ _ lk) rfl S.co S.gen rfl (PySem.W.codeRec_of KX hcd) (hb _ _ _ _ ?_)
 refine wpAny_newFunctionEnv_cells S.kind hkind fun env he s1 x=>?_
 subst he
 refine ⟨lim.keeps x.toInCall.keep,codeAny_func ?_⟩
 obtain ⟨t,ht,hq⟩:=hbody A outer s H vs Q E (hr.deeper _) hsp
 have I:Inv (iq CX P w K mg base N qual scope f cdv A outer s H E) [] (start N vs) H s1:=ou S hr.hd e0 hl r x
 refine wpAny_mono (ht [] s1 (start N vs) H _ I hq) (fun fl s' hs=>?_) fun e s' hs=>hs
 have fin:∀ {σ':St}{H':Hp}{v:V}{u:Value},Inv (iq CX P w K mg base N qual scope f cdv A outer s H E) [] σ' H' s'->RelV v u->Q v H'->CE outer P w H s Q u s' :=
  fun {σ' H' v u} J rv q=>⟨v,H',J.os,J.bare,J.base,J.hok,rv,q⟩
 cases fl with
 | ret u =>
  obtain ⟨v,σ',H',J,rv,q⟩:=hs
  exact fin J rv q
 | next =>
  obtain ⟨σ',H',J,q⟩:=hs
  exact fin (v:=V.non) (u:=Value.none) J rfl q
 | brk =>
  obtain ⟨_,_,_,q⟩:=hs
  exact False.elim q
 | cont =>
  obtain ⟨_,_,_,q⟩:=hs
  exact False.elim q
end L2

namespace L2
open PySem PySem.Spec PyProof.Rows
section
variable {X:Cx}{x:Str}{p pos:Pos}{e:Expr}{es:List Expr}{t:TA}{id T:String}{r:List V->Hp->VK->Prop}

def tCB (r:List V->Hp->VK->Prop) (t:TA):TE:=fun σ H Q=>t σ H fun vs H1=>r vs H1 Q
theorem yV (hc:bE X (.builtin id) r) (hg:Gl X x) (hm:X.mg x=none) (hv:bootBuiltins x=some (.builtin id)) (ha:PA X (e::es) t) (hn:x≠"__name__":=by decide) (hdb:(x == ("__debug__":Str))=false:=by decide)
  (he:starEach (e::es) X.env=(false,eval e X.env)::starEach es X.env:=by rfl) (hpl:(backTo pos (starEach es X.env)).any (·.1)=false:=by rfl):PE X (.Call (.Name x p) (e::es) [] pos) (tCB r t):=by
 intro pins s σ H Q I h
 refine wpAny_Call_Name_kw (jd I hg hm hv ?_ hn hdb)
 exact PyProof.Rows.callWith_builtin1 (thn (ha pos pins s σ H _ I h) fun us s1 ⟨vs,H1,I1,r1,q1⟩=>hc pins s1 σ H1 vs us Q I1 r1 q1) he hpl
theorem xi (hc:bE X (.type T) r) (hg:Gl X x) (hm:X.mg x=none) (hv:bootBuiltins x=some (.type T)) (ha:PA X (e::es) t) (hn:x≠"__name__":=by decide) (hdb:(x == ("__debug__":Str))=false:=by decide)
  (he:starEach (e::es) X.env=(false,eval e X.env)::starEach es X.env:=by rfl) (hpl:(backTo pos (starEach es X.env)).any (·.1)=false:=by rfl):PE X (.Call (.Name x p) (e::es) [] pos) (tCB r t):=by
 intro pins s σ H Q I h
 refine wpAny_Call_Name_kw (jd I hg hm hv ?_ hn hdb)
 exact PyProof.Rows.callWith_type1 (thn (ha pos pins s σ H _ I h) fun us s1 ⟨vs,H1,I1,r1,q1⟩=>hc pins s1 σ H1 vs us Q I1 r1 q1) he hpl
end
end L2

namespace HT
open PySem PyProof.Rows

theorem yf (A:Around) (s:Shared) (a:Int) (t:Tok) (c:Int) (u:Tok):∃ e,SeqAt.EqAt A s (.int a t) (.int c u) e/\(e=true ↔ a=c) :=
 ⟨(a == c),SeqAt.EqAt.int_int a t c u,by simp⟩
section
open PySem.SeqAt
open PySem.AutoSeq1 (wpAny_loadPart')
open PySem.MeetsSeq PySem.MeetsSeq2 PySem.MeetsSeq3

end

section
variable {prog:Program}{w:World}{A:Around}{E:Value->Shared->Prop}{s:Shared}

def sIx (n d:Nat):Option Int->Nat
 | none=>d
 | some v=>if v < 0 then (v + (n:Int)).toNat else min v.toNat n
theorem jJ (n d:Nat):sIx n d none=d:=rfl
theorem eR (n d k:Nat):sIx n d (some (k:Int))=min k n:=by
 show (if (k:Int) < 0 then ((k:Int) + (n:Int)).toNat else min (k:Int).toNat n)=min k n
 rw [if_neg (by omega),Int.toNat_natCast]
theorem tV (n d:Nat) (hd:d<=n) (o:Option Int):sIx n d o<=n:=by
 cases o with
 | none=>exact hd
 | some v =>
  show (if v < 0 then (v + (n:Int)).toNat else min v.toNat n)<=n
  by_cases hv:v < 0
  ·rw [if_pos hv];omega
  ·rw [if_neg hv];exact Nat.min_le_right _ _
theorem uT (v:Int) (n d:Nat):(if v < 0 then max (v + (n:Int)) 0 else min v (n:Int))=((sIx n d (some v):Nat):Int):=by
 show (if v < 0 then max (v + (n:Int)) 0 else min v (n:Int))=(((if v < 0 then (v + (n:Int)).toNat else min v.toNat n):Nat):Int)
 by_cases hv:v < 0
 ·simp only [if_pos hv];omega
 ·simp only [if_neg hv];omega
theorem sJ (lo hi:Option Int) (n:Nat):Builtin.Slice.sliceAdjust lo hi 1 (n:Int)=(((sIx n 0 lo:Nat):Int),((sIx n n hi:Nat):Int)):=by
 have h1:¬ ((1:Int) < 0):=by omega
 unfold Builtin.Slice.sliceAdjust
 simp only [h1,if_false]
 refine Prod.ext ?_ ?_
 ·cases lo with
  | none=>rfl
  | some v=>exact uT v n 0
 ·cases hi with
  | none=>rfl
  | some v=>exact uT v n n
theorem tN (i j:Nat):Builtin.Slice.slicePlaces (i:Int) (j:Int) 1=j - i:=by
 unfold Builtin.Slice.slicePlaces
 have h1:(1:Int) > 0:=by omega
 simp only [h1,if_true,Int.ediv_one]
 split <;> omega
theorem ni {v:Value}{o:Option Int}{Q:Option Int->Shared->Prop} (p:IsPart v o) (h:Q o s):wpAny (model prog w) A (Builtin.Slice.slicePartIndex v) Q E s:=by
 cases p with
 | none=>exact slicePart_none h
 | int i t=>exact slicePart_int h
theorem ku {sl:Addr}{vl vu:Value}{lo hi:Option Int}{n:Nat}{Q:Int × Int × Nat->Shared->Prop} (hs:s.heap.IsSliceOf sl vl vu .none) (pl:IsPart vl lo) (pu:IsPart vu hi)
  (h:Q (((sIx n 0 lo:Nat):Int),1,sIx n n hi - sIx n 0 lo) s):wpAny (model prog w) A (Builtin.Slice.sliceApplied (.ref sl) (pure (n:Int))) Q E s:=by
 obtain ⟨os,hos,hcs,hds⟩:=id hs
 unfold Builtin.Slice.sliceApplied Builtin.Slice.sliceFields
 refine wpAny_bind (wpAny_bind (wpAny_field hos hds (x:=vl) rfl (wpAny_bind (wpAny_field hos hds (x:=vu) rfl (wpAny_bind (wpAny_field hos hds (x:=.none) rfl (wpAny_pure ?_)))))))
 refine wpAny_bind (slicePart_none ?_)
 show wpAny _ _ (if ((1:Int) == 0)=true then _ else _) _ _ s
 rw [if_neg (by decide)]
 refine wpAny_bind (ni pl (wpAny_bind (ni pu (wpAny_bind (wpAny_pure ?_)))))
 show wpAny _ _ (match Builtin.Slice.sliceAdjust lo hi 1 (n:Int) with | (lo,hi)=>pure (lo,(1:Int),Builtin.Slice.slicePlaces lo hi 1)) _ _ s
 rw [sJ lo hi n]
 show wpAny _ _ (pure (((sIx n 0 lo:Nat):Int),(1:Int),Builtin.Slice.slicePlaces ((sIx n 0 lo:Nat):Int) ((sIx n n hi:Nat):Int) 1)) _ _ s
 rw [tN]
 exact wpAny_pure h
theorem zh (xs:Array Value) (i k:Nat):((List.range k).filterMap fun (m:Nat)=>xs[((i:Int) + (m:Int) * 1).toNat]?).toArray=((xs.toList.drop i).take k).toArray:=by
 have e:(fun (m:Nat)=>xs[((i:Int) + (m:Int) * 1).toNat]?)=fun m=>xs[i + m]?:=by
  funext m
  have:((i:Int) + (m:Int) * 1).toNat=i + m:=by omega
  rw [this]
 rw [e]
 have:=pick_run xs i k
 rw [List.filterMap_map] at this
 have e2:((fun x=>xs[x]?) ∘ fun x=>i + x)=fun m=>xs[i + m]?:=rfl
 rw [e2] at this
 rw [this]

theorem jz {t sl:Addr}{items:Array Value}{vl vu:Value}{lo hi:Option Int}{Q:Value->Shared->Prop} (ht:IsTup s.heap t items) (hs:s.heap.IsSliceOf sl vl vu .none) (pl:IsPart vl lo) (pu:IsPart vu hi)
  (hw:¬ (sIx items.size 0 lo=0/\sIx items.size items.size hi=items.size))
  (h:Q (.ref s.heap.objs.size) { s with heap:=s.heap.push { cls:=.type "tuple",data:=.seq ((items.toList.drop (sIx items.size 0 lo)).take (sIx items.size items.size hi - sIx items.size 0 lo)).toArray } })
  (hsz:items.size<=sizeLine):wpAny (model prog w) A (getItem (.ref t) (.ref sl)) Q E s:=by
 have htake:sizeOk (.seq ((items.toList.drop (sIx items.size 0 lo)).take (sIx items.size items.size hi - sIx items.size 0 lo)).toArray):=by
  show ((items.toList.drop (sIx items.size 0 lo)).take (sIx items.size items.size hi - sIx items.size 0 lo)).toArray.size<=sizeLine
  rw [List.size_toArray,List.length_take,List.length_drop,Array.length_toList]
  omega
 have hj:sIx items.size items.size hi<=items.size:=tV _ _ (Nat.le_refl _) hi
 obtain ⟨os,hos,hcs,hds⟩:=id hs
 have hTs:s.TypeIs (.ref sl) "slice":=⟨os,hos,hcs⟩
 unfold getItem
 try with_reducible refine wpAny_holding ?_
 first | refine wpAny_bind (wpAny_pure ?_) | skip
 refine wpAny_bind (wpAny_sequenceKey ht.typeIs (by decide) ?_)
 refine wpAny_bind (wpAny_callSpecial?_slot (name:=Str.ofString "__getitem__") ht.typeIs PyProof.Rows.slot_tuple_getitem
  (wpAny_call_entry PyProof.Rows.slot_tuple_getitem ht.typeIs entry_tuple_getitem ?_ (args_tuple_getitem _ _)))
 show wpAny _ _ (Builtin.Tuple.tupleItemsOf (.ref t) >>= _) _ _ s
 refine wpAny_bind (tupleItemsOf_ ht ?_)
 refine wpAny_bind (wpAny_typeOf hTs ?_)
 rw [if_pos (by decide)]
 refine wpAny_bind (ku hs pl pu ?_)
 have hno:¬ ((((sIx items.size 0 lo:Nat):Int) == 0 && (1:Int) == 1 && (sIx items.size items.size hi - sIx items.size 0 lo) == items.size)=true):=by
  intro q
  rw [Bool.and_eq_true,Bool.and_eq_true] at q
  have q1:((sIx items.size 0 lo:Nat):Int)=0:=eq_of_beq q.1.1
  have q2:sIx items.size items.size hi - sIx items.size 0 lo=items.size:=eq_of_beq q.2
  exact hw ⟨by omega,by omega⟩
 show wpAny _ _ (if (((sIx items.size 0 lo:Nat):Int) == 0 && (1:Int) == 1 && (sIx items.size items.size hi - sIx items.size 0 lo) == items.size)=true then _ else _) _ _ s
 rw [if_neg hno,zh]
 first
  | exact wpAny_bind (m:=Builtin.Tuple.tupleExact _) (wpAny_newObj_type (wpAny_pure ⟨_,rfl,wpAny_pure h⟩) htake)
  | exact wpAny_bind (m:=Builtin.Tuple.tupleExact _) (wpAny_newObj_type (wpAny_bind (wpAny_pure (wpAny_pure ⟨_,rfl,wpAny_pure h⟩))) htake)
  | exact wpAny_bind (wpAny_bind (m:=Builtin.Tuple.tupleExact _) (wpAny_newObj_type (wpAny_pure (wpAny_pure ⟨_,rfl,wpAny_pure h⟩)) htake))
  | exact wpAny_bind (wpAny_bind (m:=Builtin.Tuple.tupleExact _) (wpAny_newObj_type (wpAny_pure ⟨_,rfl,wpAny_pure h⟩) htake))
end
end HT

namespace L2
open PySem PySem.Spec PyProof.Rows

abbrev TO:=St->Hp->(Option Int->Hp->Prop)->Prop
def PO (X:Cx) (e:Option Expr) (t:TO):Prop :=
 ∀ (pins:List (Addr × Obj)) (s:Shared) (σ:St) (H:Hp) (Q:Option Int->Hp->Prop),Inv X pins σ H s->t σ H Q →
  wpAny (model X.prog X.w) X.A (evalPart e X.env) (fun u s'=>∃ o H',Inv X pins σ H' s'/\IsPart u o/\Q o H') X.xe s
def vP:TO:=fun _ H Q=>Q none H
def BV (t:TE):TO:=fun σ H Q=>t σ H fun x H1=>∃ i,x=.int i/\Q (some i) H1

theorem intsAre_of {ns:List Int}:∀ {us:List Value},Vals (ns.map V.int) us->IntsAre us ns:=by
 induction ns with
 | nil=>intro us r;rw [List.map_nil] at r;cases r;exact .nil
 | cons n ns ih =>
  intro us r
  rw [List.map_cons] at r
  cases r with
  | cons r1 r2 =>
   obtain ⟨t,e⟩:=r1
   subst e
   exact .cons n t (ih r2)

section
variable {X:Cx}{e:Expr}{te:TE}{lo hi:Option Expr}{tl th:TO}{pos p2:Pos}

theorem gR:PO X none vP:=by
 intro pins s σ H Q I h
 rw [evalPart_none]
 exact wpAny_pure ⟨none,H,I,.none,h⟩
theorem cp (h:PE X e te):PO X (some e) (BV te):=by
 intro pins s σ H Q I hw
 rw [evalPart_some]
 refine thn (h pins s σ H _ I hw) fun u s1 ⟨x,H1,I1,r1,q1⟩=>?_
 obtain ⟨i,rfl,q⟩:=q1
 obtain ⟨t,rfl⟩:=r1
 exact ⟨some i,H1,I1,.int i t,q⟩

def SlR (X:Cx) (r:V->Option Int->Option Int->Hp->VK->Prop):Prop :=
 ∀ (pins:List (Addr × Obj)) (s:Shared) (σ:St) (H:Hp) (x:V) (v vl vu:Value) (lo hi:Option Int) (sl:Addr) (Q:VK),Inv X pins σ H s->RelV x v->s.heap.IsSliceOf sl vl vu .none->IsPart vl lo->IsPart vu hi->r x lo hi H Q →
  ∃ T id,typeLookup (.type T) "__getitem__"=pure (some (.builtin id))/\s.TypeIs v T/\wpAny (model X.prog X.w) X.A (getItem v (.ref sl)) (EP X pins σ Q) X.xe s
theorem SlR.or {r r':V->Option Int->Option Int->Hp->VK->Prop} (h:SlR X r) (h':SlR X r'):SlR X (fun x lo hi H Q=>r x lo hi H Q ∨ r' x lo hi H Q):=by
 intro pins s σ H x v vl vu lo hi sl Q I rx hs pl pu q
 rcases q with q | q
 ·exact h pins s σ H x v vl vu lo hi sl Q I rx hs pl pu q
 ·exact h' pins s σ H x v vl vu lo hi sl Q I rx hs pl pu q
def tSl (r:V->Option Int->Option Int->Hp->VK->Prop) (te:TE) (tl th:TO):TE:=fun σ H Q=>te σ H fun x H1=>tl σ H1 fun l H2=>th σ H2 fun u H3=>r x l u H3 Q
theorem cN {r:V->Option Int->Option Int->Hp->VK->Prop} (hr:SlR X r) (he:PE X e te) (hl:PO X lo tl) (hu:PO X hi th):PE X (.Subscript e (.Slice lo hi none p2) pos) (tSl r te tl th):=by
 intro pins s σ H Q I h
 refine Subscript_ (thn (he pins s σ H _ I h) fun v s1 ⟨x,H1,I1,r1,q1⟩=>?_)
 refine wpAny_Slice (thn (hl pins s1 σ H1 _ I1 q1) fun vl s2 ⟨l,H2,I2,pl,q2⟩=>thn (hu pins s2 σ H2 _ I2 q2) fun vu s3 ⟨u,H3,I3,pu,q3⟩=>?_)
 rw [evalPart_none]
 refine wpAny_pure ?_
 have I4:Inv X pins σ H3 { s3 with heap:=s3.heap.push { cls:=.type "slice",data:=.fields #[vl,vu,.none] } }:=I3.kept (t':=s3.toks) fun b ob q=>Heap.get?_push_of_some _ q
 obtain ⟨T,id,hT,ht,hg⟩:=hr pins { s3 with heap:=s3.heap.push { cls:=.type "slice",data:=.fields #[vl,vu,.none] } } σ H3 x v vl vu l u s3.heap.objs.size Q I4 r1 (Heap.IsSliceOf.new ..) pl pu q3
 show wpAny (model X.prog X.w) X.A (subscriptTail e (.Slice lo hi none p2) v (.ref s3.heap.objs.size)) (EP X pins σ Q) X.xe { s3 with heap:=s3.heap.push { cls:=.type "slice",data:=.fields #[vl,vu,.none] } }
 exact tail_any (ops:=[.ref s3.heap.objs.size,v]) ht hT hg (by with_unfolding_all rfl)

def gq (xs:List V) (lo hi:Option Int):List V:=(xs.drop (HT.sIx xs.length 0 lo)).take (HT.sIx xs.length xs.length hi - HT.sIx xs.length 0 lo)
theorem kC (xs:List V) (lo hi:Option Int):(gq xs lo hi).length<=xs.length:=by
 unfold gq
 rw [List.length_take,List.length_drop]
 omega
def EI (K:PySem.W.Frag):V->Option Int->Option Int->Hp->VK->Prop:=fun x lo hi H Q=>∃ a xs,x=.ref a/\SqT K H a xs ∧
 ¬ (HT.sIx xs.length 0 lo=0/\HT.sIx xs.length xs.length hi=xs.length)/\∀ p,H p=none->Q (.ref p) (upd H p (.tup (gq xs lo hi)))
theorem Dp:SlR X (EI X.K):=by
 intro pins s σ H x v vl vu lo hi sl Q I rx hs pl pu h
 obtain ⟨a,xs,rfl,hx,hw,q⟩:=h
 cases rx
 obtain ⟨its,r,ht,hz⟩:=I.tuple hx
 have hlen:its.toArray.size=xs.length:=by rw [List.size_toArray];exact r.length.symm
 refine ⟨"tuple",_,PyProof.Rows.slot_tuple_getitem.lookup,ht.typeIs,?_⟩
 refine HT.jz ht hs pl pu (by rw [hlen];exact hw) ?_ (by rw [hlen];exact hz)
 rw [hlen]
 refine ⟨.ref s.heap.objs.size,_,I.laid (t':=s.toks) (o:=.tup (gq xs lo hi)) (fun b ob q=>Heap.get?_push_of_some _ q) (Nat.le_refl _) ?_,rfl,q _ (I.hok.fresh (Nat.le_refl _))⟩
 exact ⟨Nat.le_trans (kC xs lo hi) hz,_,(r.drop (HT.sIx xs.length 0 lo)).take (HT.sIx xs.length xs.length hi - HT.sIx xs.length 0 lo),IsTup.new _ _⟩

end
end L2

namespace L2
open PySem PySem.Spec PyProof.Rows

def ixN (n:Nat) (i:Int):Option Nat:=if 0<=i then (if i < n then some i.toNat else none) else if -(n:Int)<=i then some (i + n).toNat else none
def atI {α:Type} (xs:List α) (i:Int):Option α:=(ixN xs.length i).bind fun j=>xs[j]?
theorem An {n:Nat}{i:Int}{j:Nat} (h:ixN n i=some j):seqIndex? i n=some j/\j < n/\-(n:Int)<=i/\i < n:=by
 unfold ixN at h
 by_cases h0:0<=i
 ·rw [if_pos h0] at h
  by_cases h1:i < n
  ·rw [if_pos h1] at h
   have e:i.toNat=j:=Option.some.inj h
   exact ⟨by rw [seqIndex_of h0 h1,e],by omega,by omega,h1⟩
  ·rw [if_neg h1] at h;cases h
 ·rw [if_neg h0] at h
  by_cases h1:-(n:Int)<=i
  ·rw [if_pos h1] at h
   have e:(i + n).toNat=j:=Option.some.inj h
   exact ⟨by rw [seqIndex_neg (by omega) h1,e],by omega,h1,by omega⟩
  ·rw [if_neg h1] at h;cases h
theorem pb {α:Type}{xs:List α}{i:Int}{v:α} (h:atI xs i=some v):∃ j,seqIndex? i xs.length=some j/\xs[j]?=some v/\j < xs.length/\-(xs.length:Int)<=i/\i < xs.length:=by
 unfold atI at h
 cases e:ixN xs.length i with
 | none=>rw [e] at h;cases h
 | some j =>
  rw [e] at h
  obtain ⟨h1,h2,h3,h4⟩:=An e
  exact ⟨j,h1,h,h2,h3,h4⟩
theorem gO {α:Type}{xs:List α}{j:Nat}{v:α} (h:xs[j]?=some v):atI xs (j:Int)=some v:=by
 have hj:j < xs.length:=(List.getElem?_eq_some_iff.mp h).1
 have e:ixN xs.length (j:Int)=some j:=by
  unfold ixN
  rw [if_pos (by omega),if_pos (by omega)];simp
 unfold atI;rw [e];exact h
def zV (b:Expr):Prop:=∀ o i,subscripted b false o i=operate [o,i] (getItem o i)
def IxR (X:Cx) (r:R2):Prop :=
 ∀ (value slice:Expr) (pins:List (Addr × Obj)) (s:Shared) (σ:St) (H:Hp) (x y:V) (v u:Value) (Q:VK),Inv X pins σ H s->RelV x v->RelV y u->r x y H Q →
  subscripted slice false v u=operate [v,u] (getItem v u)->wpAny (model X.prog X.w) X.A (subscriptTail value slice v u) (EP X pins σ Q) X.xe s
def MtR (X:Cx) (id:String) (r:V->List V->Hp->VK->Prop):Prop :=
 ∀ (pins:List (Addr × Obj)) (s:Shared) (σ:St) (H:Hp) (x:V) (xs:List V) (v:Value) (us:List Value) (Q:VK),Inv X pins σ H s->RelV x v->Vals xs us->r x xs H Q →
  wpAny (model X.prog X.w) X.A (call (.builtin id) (v::us)) (EP X pins σ Q) X.xe s
section
variable {X:Cx}{a b:Expr}{ta tb:TE}{pos:Pos}
theorem IxR.or {r r':R2} (h:IxR X r) (h':IxR X r'):IxR X (fun x y H Q=>r x y H Q ∨ r' x y H Q):=by
 intro value slice pins s σ H x y v u Q I rx ry q hs
 rcases q with q | q
 ·exact h value slice pins s σ H x y v u Q I rx ry q hs
 ·exact h' value slice pins s σ H x y v u Q I rx ry q hs
theorem MtR.or {id:String}{r r':V->List V->Hp->VK->Prop} (h:MtR X id r) (h':MtR X id r'):MtR X id (fun x xs H Q=>r x xs H Q ∨ r' x xs H Q):=by
 intro pins s σ H x xs v us Q I rx rs q
 rcases q with q | q
 ·exact h pins s σ H x xs v us Q I rx rs q
 ·exact h' pins s σ H x xs v us Q I rx rs q
theorem bp {r:R2} (hr:IxR X r) (ha:PE X a ta) (hb:PE X b tb) (hs:zV b):PE X (.Subscript a b pos) (tOp r ta tb):=by
 intro pins s σ H Q I h
 exact Subscript_ (Ci ha hb I h fun v u s2 x y H2 I2 rx ry q=>hr a b pins s2 σ H2 x y v u Q I2 rx ry q (hs _ _))

def EB (K:PySem.W.Frag):R2:=fun x y H Q=>∃ p xs i v,x=.ref p/\y=.int i/\SqL K H p xs/\atI xs i=some v/\Q v H
def ED (K:PySem.W.Frag):R2:=fun x y H Q=>∃ p xs i v,x=.ref p/\y=.int i/\SqT K H p xs/\atI xs i=some v/\Q v H
def EC:R2:=fun x y H Q=>∃ z i c,x=.str z/\y=.int i/\z.length<=sizeLine/\atI z.cps.toList i=some c/\Q (.str ⟨#[c]⟩) H
theorem Ao:IxR X (EB X.K):=by
 intro value slice pins s σ H x y v u Q I rx ry h hs
 obtain ⟨p,xs,i,z,rfl,rfl,hq,he,q⟩:=h
 cases rx
 obtain ⟨t,rfl⟩:=ry
 obtain ⟨its,r,pl,hz⟩:=I.list hq
 obtain ⟨j,h1,h2,h3,h4,h5⟩:=pb he
 obtain ⟨w,ew,rw'⟩:=r.get h2
 have hl:=r.length
 have hn:=m5
 have fin:EP X pins σ Q w s:=⟨z,H,I,rw',q⟩
 by_cases h0:0<=i
 ·have hj:i.toNat=j:=by
   rw [seqIndex_of h0 h5] at h1
   exact Option.some.inj h1
  exact item_listR pl.isList h0 (by omega) (by rw [hj];simpa using ew) fin hs
 ·have hj:(i + (its.toArray.size:Int)).toNat=j:=by
   rw [seqIndex_neg (by omega) h4] at h1
   rw [List.size_toArray,← hl]
   exact Option.some.inj h1
  exact subscriptTail_builtinR (x:=w) pl.isList.typeIs slot_list_getitem.lookup
   (wpAny_getItem_list_neg (Q:=fun r s'=>r=w/\EP X pins σ Q r s') pl.isList (by omega) (by rw [List.size_toArray] <;> omega) (by omega) (by rw [hj];simpa using ew) ⟨rfl,fin⟩) hs
theorem Cw:IxR X (ED X.K):=by
 intro value slice pins s σ H x y v u Q I rx ry h hs
 obtain ⟨p,xs,i,z,rfl,rfl,hq,he,q⟩:=h
 cases rx
 obtain ⟨t,rfl⟩:=ry
 obtain ⟨its,r,pl,hz⟩:=I.tuple hq
 obtain ⟨j,h1,h2,h3,h4,h5⟩:=pb he
 obtain ⟨w,ew,rw'⟩:=r.get h2
 have hl:=r.length
 have hn:=m5
 have fin:EP X pins σ Q w s:=⟨z,H,I,rw',q⟩
 exact subscriptTail_builtinR (x:=w) pl.typeIs slot_tuple_getitem.lookup
  (getItem_tuple (j:=j) (Q:=fun r s'=>r=w/\EP X pins σ Q r s') pl (by omega) (by omega) (by rw [List.size_toArray,← hl];exact h1) (by simpa using ew) ⟨rfl,fin⟩) hs
theorem Cv:IxR X EC:=by
 intro value slice pins s σ H x y v u Q I rx ry h hs
 obtain ⟨z,i,c,rfl,rfl,hz,he,q⟩:=h
 obtain ⟨t,rfl⟩:=rx
 obtain ⟨t',rfl⟩:=ry
 obtain ⟨j,h1,h2,h3,h4,h5⟩:=pb he
 have hl:z.cps.toList.length=z.length:=by simp [Str.length]
 rw [hl] at h1 h4 h5
 have hn:=m5
 exact tail_any (typeIs_str s z t) slot_str_getitem.lookup (getItem_str (c:=c) (by
  have e1:decide (i < -(2 ^ 63:Int))=false:=decide_eq_false (by omega)
  have e2:decide (i ≥ 2 ^ 63)=false:=decide_eq_false (by omega)
  rw [e1,e2,Bool.or_false]) (by rw [h1];simpa using h2) ⟨.str ⟨#[c]⟩,H,I.tok _,⟨_,rfl⟩,q⟩) hs
theorem Inv.lst {pins:List (Addr × Obj)}{σ:St}{H:Hp}{s:Shared}{p:Addr}{xs:List V} (I:Inv X pins σ H s) (h:H p=some (.lst xs)) :
  ∃ (its:List Value) (n:Nat),Vals xs its/\s.heap.get? p=some { cls:=.type "list",data:=.seq its.toArray n }/\xs.length<=sizeLine:=by
 obtain ⟨z,its,n,r,e⟩:=I.hok p _ h
 exact ⟨its,n,r,e,z⟩
theorem qm (lo hi:Option Int) (n:Nat):(sliceBounds lo hi none n).1=((HT.sIx n 0 lo:Nat):Int)/\(sliceBounds lo hi none n).2.1=((HT.sIx n n hi:Nat):Int)/\(sliceBounds lo hi none n).2.2=1:=by
 refine ⟨?_,?_,rfl⟩
 ·cases lo with
  | none=>simp [sliceBounds,HT.sIx]
  | some i =>
   simp only [sliceBounds,HT.sIx,Option.getD_none,show (1:Int) > 0 by decide,if_true]
   by_cases h:i < 0
   ·simp only [h,if_true] <;> omega
   ·simp only [h,if_false] <;> omega
 ·cases hi with
  | none=>simp [sliceBounds,HT.sIx]
  | some i =>
   simp only [sliceBounds,HT.sIx,Option.getD_none,show (1:Int) > 0 by decide,if_true]
   by_cases h:i < 0
   ·simp only [h,if_true] <;> omega
   ·simp only [h,if_false] <;> omega
theorem nH (its:List Value) (lo hi:Option Int):slicePick its.toArray lo hi none=((its.drop (HT.sIx its.length 0 lo)).take (HT.sIx its.length its.length hi - HT.sIx its.length 0 lo)).toArray:=by
 obtain ⟨h1,h2,h3⟩:=qm lo hi its.toArray.size
 unfold slicePick
 rw [h1,h2,h3]
 simp only [sliceRange_one,pick_run,List.size_toArray] <;> rfl
def EH (K:PySem.W.Frag):V->Option Int->Option Int->Hp->VK->Prop:=fun x lo hi H Q=>∃ a xs,x=.ref a/\SqL K H a xs/\∀ p,H p=none->Q (.ref p) (upd H p (.lst (gq xs lo hi)))
theorem Ba:SlR X (EH X.K):=by
 intro pins s σ H x v vl vu lo hi sl Q I rx hs pl pu h
 obtain ⟨a,xs,rfl,hx,q⟩:=h
 cases rx
 obtain ⟨its,r,ht,hz⟩:=I.list hx
 have hlen:=r.length
 refine ⟨"list",_,slot_list_getitem.lookup,ht.isList.typeIs,?_⟩
 refine wpAny_getItem_list_slice ht.isList hs pl pu .none (by simp) ?_ (by rw [List.size_toArray] <;> omega)
 rw [nH,← hlen]
 refine ⟨.ref s.heap.objs.size,_,I.laid (t':=s.toks) (o:=.lst (gq xs lo hi)) (fun b ob q=>Heap.get?_push_of_some _ q) (Nat.le_refl _) ?_,rfl,q _ (I.hok.fresh (Nat.le_refl _))⟩
 exact ⟨Nat.le_trans (kC xs lo hi) hz,_,0,(r.drop (HT.sIx xs.length 0 lo)).take (HT.sIx xs.length xs.length hi - HT.sIx xs.length 0 lo),Heap.get?_push_size _ rfl⟩

def cu:V->Bool
 | .non=>true
 | .bl _=>true
 | .int _=>true
 | .str _=>true
 | _=>false
def eqV:V->V->Bool
 | .non,.non=>true
 | .bl a,.bl b=>a == b
 | .bl a,.int b=>(if a then 1 else 0) == b
 | .int a,.bl b=>a == (if b then 1 else 0)
 | .int a,.int b=>a == b
 | .str a,.str b=>a == b
 | _,_=>false
theorem iZ {A:Around}{s:Shared}{y x:V}{u v:Value} (ry:RelV y u) (rx:RelV x v) (fy:cu y=true) (fx:cu x=true):SeqAt.EqAt A s u v (eqV y x):=by
 cases y with
 | non =>
  cases ry
  cases x with
  | non=>cases rx;exact SeqAt.EqAt.same _
  | bl b=>cases rx;exact SeqAt.EqAt.none_bool b
  | int b=>obtain ⟨t,rfl⟩:=rx;exact SeqAt.EqAt.none_int b t
  | str b=>obtain ⟨t,rfl⟩:=rx;exact SeqAt.EqAt.none_str b t
  | _=>exact absurd (show false=true from fx) Bool.false_ne_true
 | bl a =>
  cases ry
  cases x with
  | non=>cases rx;exact SeqAt.EqAt.bool_none a
  | bl b=>cases rx;exact SeqAt.EqAt.bool_bool a b
  | int b=>obtain ⟨t,rfl⟩:=rx;exact SeqAt.EqAt.bool_int a b t
  | str b=>obtain ⟨t,rfl⟩:=rx;exact SeqAt.EqAt.bool_str a b t
  | _=>exact absurd (show false=true from fx) Bool.false_ne_true
 | int a =>
  obtain ⟨t',rfl⟩:=ry
  cases x with
  | non=>cases rx;exact SeqAt.EqAt.int_none a t'
  | bl b=>cases rx;exact SeqAt.EqAt.int_bool a t' b
  | int b=>obtain ⟨t,rfl⟩:=rx;exact SeqAt.EqAt.int_int a t' b t
  | str b=>obtain ⟨t,rfl⟩:=rx;exact SeqAt.EqAt.int_str a t' b t
  | _=>exact absurd (show false=true from fx) Bool.false_ne_true
 | str a =>
  obtain ⟨t',rfl⟩:=ry
  cases x with
  | non=>cases rx;exact SeqAt.EqAt.str_none a t'
  | bl b=>cases rx;exact SeqAt.EqAt.str_bool a t' b
  | int b=>obtain ⟨t,rfl⟩:=rx;exact SeqAt.EqAt.str_int a t' b t
  | str b=>obtain ⟨t,rfl⟩:=rx;exact SeqAt.EqAt.str_str a t' b t
  | _=>exact absurd (show false=true from fx) Bool.false_ne_true
 | _=>exact absurd (show false=true from fy) Bool.false_ne_true
def eqU (x:V) (u:Value):Bool:=match u with
 | .none=>eqV .non x
 | .bool b=>eqV (.bl b) x
 | .int i _=>eqV (.int i) x
 | .str z _=>eqV (.str z) x
 | _=>false
theorem yg {x y:V}{u:Value} (r:RelV y u) (f:cu y=true):eqU x u=eqV y x:=by
 cases y with
 | non=>cases r;rfl
 | bl b=>cases r;rfl
 | int i=>obtain ⟨t,rfl⟩:=r;rfl
 | str z=>obtain ⟨t,rfl⟩:=r;rfl
 | _=>exact absurd (show false=true from f) Bool.false_ne_true
theorem jr {x:V}:∀ {xs:List V}{us:List Value},Vals xs us->xs.all cu=true->us.any (eqU x)=xs.any fun y=>eqV y x
 | _,_,.nil,_=>rfl
 | y::xs,u::us,.cons r t,f=>by
  rw [List.all_cons,Bool.and_eq_true] at f
  rw [List.any_cons,List.any_cons,yg r f.1,jr t f.2]
theorem iw {A:Around}{s:Shared}{x:V}{v:Value} (rx:RelV x v) (fx:cu x=true):∀ {xs:List V}{us:List Value},Vals xs us->xs.all cu=true->∀ u∈us,SeqAt.EqAt A s u v (eqU x u)
 | _,_,.nil,_=>fun u hu=>by cases hu
 | y::xs,u::us,.cons r t,f=>fun u' hu=>by
  rw [List.all_cons,Bool.and_eq_true] at f
  rcases List.mem_cons.mp hu with rfl | hu
  ·rw [yg r f.1];exact iZ r rx f.1 fx
  ·exact iw rx fx t f.2 u' hu
def inV (x:V) (xs:List V):Bool:=xs.any fun y=>eqV y x
def rIn (K:PySem.W.Frag) (neg:Bool):R2:=fun x y H Q=>∃ p xs,y=.ref p/\(SqL K H p xs ∨ SqT K H p xs)/\cu x=true/\xs.all cu=true/\Q (.bl (if neg then !inV x xs else inV x xs)) H
theorem wZ:OpR X (compareOp .In) (rIn X.K false):=by
 intro pins s σ H x y v u Q I rx ry h
 obtain ⟨p,xs,rfl,hq,fx,fs,q⟩:=h
 cases ry
 rcases hq with hq | hq
 ·obtain ⟨its,r,pl,hz⟩:=I.list hq
  refine SeqAt.in_listAt (eqU x) pl.isList (fun w hw=>iw rx fx r fs w (by simpa using hw)) ⟨.bl _,H,I,rfl,?_⟩
  rw [show its.toArray.any (eqU x)=its.any (eqU x) by simp,jr r fs]
  exact q
 ·obtain ⟨its,r,pl,hz⟩:=I.tuple hq
  refine SeqAt.in_tupleAt (eqU x) pl (fun w hw=>iw rx fx r fs w (by simpa using hw)) ⟨.bl _,H,I,rfl,?_⟩
  rw [show its.toArray.any (eqU x)=its.any (eqU x) by simp,jr r fs]
  exact q
theorem pY:OpR X (compareOp .NotIn) (rIn X.K true):=by
 intro pins s σ H x y v u Q I rx ry h
 obtain ⟨p,xs,rfl,hq,fx,fs,q⟩:=h
 cases ry
 rcases hq with hq | hq
 ·obtain ⟨its,r,pl,hz⟩:=I.list hq
  refine SeqAt.notIn_listAt (eqU x) pl.isList (fun w hw=>iw rx fx r fs w (by simpa using hw)) ⟨.bl _,H,I,rfl,?_⟩
  rw [show its.toArray.any (eqU x)=its.any (eqU x) by simp,jr r fs]
  exact q
 ·obtain ⟨its,r,pl,hz⟩:=I.tuple hq
  refine SeqAt.notIn_tupleAt (eqU x) pl (fun w hw=>iw rx fx r fs w (by simpa using hw)) ⟨.bl _,H,I,rfl,?_⟩
  rw [show its.toArray.any (eqU x)=its.any (eqU x) by simp,jr r fs]
  exact q
theorem ph:bE X (.builtin "len") (fun xs H Q=>∃ p ys,xs=[.ref p]/\(SqL X.K H p ys ∨ SqT X.K H p ys)/\Q (.int ys.length) H):=by
 intro pins s σ H xs us Q I r h
 obtain ⟨p,ys,rfl,hq,q⟩:=h
 obtain ⟨u,rfl,rx⟩:=vals1 r
 cases rx
 have hn:=m5
 rcases hq with hq | hq
 ·obtain ⟨its,r',pl,hz⟩:=I.list hq
  have hlen:=r'.length
  exact Calls.call_len_list pl.isList (by simp only [List.size_toArray] <;> omega) ⟨.int ys.length,H,I.tok _,⟨s.toks + 1,by rw [List.size_toArray,hlen]⟩,q⟩
 ·obtain ⟨its,r',pl,hz⟩:=I.tuple hq
  have hlen:=r'.length
  exact len_tuple pl (by simp only [List.size_toArray] <;> omega) ⟨.int ys.length,H,I.tok _,⟨s.toks + 1,by rw [List.size_toArray,hlen]⟩,q⟩
theorem pj:bE X (.builtin "len") (fun xs H Q=>∃ z,xs=[.str z]/\z.length<=sizeLine/\Q (.int z.length) H):=by
 intro pins s σ H xs us Q I r h
 obtain ⟨z,rfl,hz,q⟩:=h
 obtain ⟨u,rfl,t,rfl⟩:=vals1 r
 have hn:=m5
 exact len_str (by omega) ⟨.int z.length,H,I.tok _,⟨_,rfl⟩,q⟩
theorem bE.or {f:Value}{r r':List V->Hp->VK->Prop} (h:bE X f r) (h':bE X f r'):bE X f (fun xs H Q=>r xs H Q ∨ r' xs H Q):=by
 intro pins s σ H xs us Q I rs q
 rcases q with q | q
 ·exact h pins s σ H xs us Q I rs q
 ·exact h' pins s σ H xs us Q I rs q
theorem pq:bE X (.type "list") (fun xs H Q=>∃ p ys,xs=[.ref p]/\(SqL X.K H p ys ∨ SqT X.K H p ys)/\∀ l,H l=none->Q (.ref l) (upd H l (.lst ys))):=by
 intro pins s σ H xs us Q I r h
 obtain ⟨p,ys,rfl,hq,q⟩:=h
 obtain ⟨u,rfl,rx⟩:=vals1 r
 cases rx
 have fin:∀ (its:List Value),Vals ys its->ys.length<=sizeLine->∀ (h':Heap) (c':Nat),(∀ b o',s.heap.get? b=some o'->h'.get? b=some o') →
   h'.get? s.heap.objs.size=some { cls:=.type "list",dict:=none,data:=.seq its.toArray c',slots:=#[] }->EP X pins σ Q (.ref s.heap.objs.size) { s with heap:=h' }:=fun its r' hz h' c' kp e =>
  ⟨.ref s.heap.objs.size,_,I.laid (t':=s.toks) kp (Nat.le_refl _) (show aX X.prog X.w _ h' _ (.lst ys) from ⟨hz,its,c',r',e⟩),rfl,q _ (I.hok.fresh (Nat.le_refl _))⟩
 rcases hq with hq | hq
 ·obtain ⟨its,r',pl,hz⟩:=I.list hq
  have hlen:=r'.length
  obtain ⟨o,ho,hc,n,hd⟩:=pl.isList
  exact call_list_seq p (.inl rfl) ho hc hd (fun h' c' kp e=>fin its r' hz h' c' kp e) (by simp only [List.size_toArray] <;> omega)
 ·obtain ⟨its,r',pl,hz⟩:=I.tuple hq
  have hlen:=r'.length
  obtain ⟨o,ho,hc,n,hd⟩:=pl
  exact call_list_seq p (.inr rfl) ho hc hd (fun h' c' kp e=>fin its r' hz h' c' kp e) (by simp only [List.size_toArray] <;> omega)
def tyV (K:PySem.W.Frag) (T:String) (x:V) (H:Hp):Prop:=match x with
 | .str _=>T="str"
 | .int _=>T="int"
 | .ref p=>(T="list"/\∃ xs,SqL K H p xs) ∨ (T="tuple"/\∃ o,K.lookup p=some o/\o.cls=.type "tuple"/\o.dict=none) ∨
   (T="dict"/\((∃ kvs,H p=some (.dK kvs)) ∨ ∃ kvs,H p=some (.dT kvs))) ∨ (T="set"/\∃ S n,H p=some (.set S n))
 | _=>False
theorem zO {pins:List (Addr × Obj)}{σ:St}{H:Hp}{s:Shared}{T:String}{x:V}{v:Value} (I:Inv X pins σ H s) (r:RelV x v) (ty:tyV X.K T x H) :
  s.TypeIs v T/\∀ a,v=.ref a->∃ ob,s.heap.get? a=some ob/\ob.dict=none:=by
 cases x with
 | str z =>
  obtain ⟨t,rfl⟩:=r
  cases (show T="str" from ty)
  exact ⟨typeIs_str s z t,fun _ e=>nomatch e⟩
 | int i =>
  obtain ⟨t,rfl⟩:=r
  cases (show T="int" from ty)
  exact ⟨typeIs_int s i t,fun _ e=>nomatch e⟩
 | ref p =>
  cases r
  rcases ty with ⟨rfl,xs,hq⟩ | ⟨rfl,o,hk,hc,hd⟩ | ⟨rfl,hk⟩ | ⟨rfl,S,n,hk⟩
  ·obtain ⟨its,_,pl,_⟩:=I.list hq
   refine ⟨pl.isList.typeIs,fun a e=>?_⟩
   cases e
   obtain ⟨o,n,e,c,hd,_⟩:=pl
   exact ⟨o,e,hd⟩
  ·refine ⟨⟨o,I.kIn p o hk,hc⟩,fun a e=>?_⟩
   cases e
   exact ⟨o,I.kIn _ o hk,hd⟩
  ·have z:∃ o,s.heap.get? p=some o/\o.ExactDict:=by
    rcases hk with ⟨kvs,hk⟩ | ⟨kvs,hk⟩
    ·obtain ⟨_,_,_,_,o,_,_,e,ex,_⟩:=I.hok p _ hk
     exact ⟨o,e,ex⟩
    ·obtain ⟨_,_,_,_,o,_,_,e,ex,_⟩:=I.hok p _ hk
     exact ⟨o,e,ex⟩
   obtain ⟨o,e,ex⟩:=z
   refine ⟨⟨o,e,ex.1⟩,fun a e2=>?_⟩
   cases e2
   exact ⟨o,e,ex.2.1⟩
  ·obtain ⟨o,_,_,_,e,ex,_⟩:=I.hok p _ hk
   refine ⟨⟨o,e,ex.1⟩,fun a e2=>?_⟩
   cases e2
   exact ⟨o,e,ex.2.1⟩
 | _=>exact False.elim ty
def Ds (K:PySem.W.Frag) (T:String) (r:V->List V->Hp->VK->Prop) (to:TE):TE:=fun σ H Q=>to σ H fun x H1=>tyV K T x H1/\r x [] H1 Q
def tBM (K:PySem.W.Frag) (T:String) (r:V->List V->Hp->VK->Prop) (to:TE) (t:TA):TE:=fun σ H Q=>to σ H fun x H1=>tyV K T x H1/\t σ H1 fun xs H2=>r x xs H2 Q
variable {o e:Expr}{es:List Expr}{to:TE}{t:TA}{name:Str}{apos cpos:Pos}{T id:String}{r:V->List V->Hp->VK->Prop}
theorem CZ (pa:PlainAttrs T) (slot:Slot T name id) (hty:typeOf (.builtin id)=pure (.type "method_descriptor")) (hm:MtR X id r) (ho:PE X o to)
  (hbase:attributeBase o name X.env (eval o X.env)=eval o X.env:=by rfl) (hline:(apos.endLine == cpos.line)=true:=by rfl):PE X (.Call (.Attribute o name apos) [] [] cpos) (Ds X.K T r to):=by
 intro pins s σ H Q I h
 refine wpAny_Call_method0_late hbase hline (thn (ho pins s σ H _ I h) fun v s1 ⟨x,H1,I1,r1,ty,q1⟩=>?_)
 obtain ⟨h1,h2⟩:=zO I1 r1 ty
 exact ⟨T,id,pa,slot,hty,h1,h2,Calls.callWith_builtin rfl (PySem.evalArgs_none (hm pins s1 σ H1 x [] v [] Q I1 r1 .nil q1))⟩
theorem DP (pa:PlainAttrs T) (slot:Slot T name id) (hty:typeOf (.builtin id)=pure (.type "method_descriptor")) (hm:MtR X id r) (ho:PE X o to) (ha:PA X (e::es) t)
  (hbase:attributeBase o name X.env (eval o X.env)=eval o X.env:=by rfl)
  (hfew:((backTo cpos (starEach (e::es) X.env)).all (fun x=>!x.1) && (backToKw cpos (keywordEach [] X.env)).all (fun x=>x.1.isSome)
   && decide ((e::es).length + ([]:List Keyword).length + (if ([]:List Keyword).isEmpty then 0 else 1) < 30))=true:=by rfl)
  (hline:(apos.endLine == cpos.line)=true:=by rfl) (hs:starEach (e::es) X.env=(false,eval e X.env)::starEach es X.env:=by rfl) (hplain:(backTo cpos (starEach es X.env)).any (·.1)=false:=by rfl) :
  PE X (.Call (.Attribute o name apos) (e::es) [] cpos) (tBM X.K T r to t):=by
 intro pins s σ H Q I h
 refine wpAny_Call_method_late hbase hfew hline rfl (thn (ho pins s σ H _ I h) fun v s1 ⟨x,H1,I1,r1,ty,q1⟩=>?_)
 obtain ⟨h1,h2⟩:=zO I1 r1 ty
 refine ⟨T,id,pa,slot,hty,h1,h2,?_⟩
 have hA:=ha cpos pins s1 σ H1 _ I1 q1
 rw [hs] at hA ⊢
 refine Calls.callWith_builtin (by show (false || (backTo cpos (starEach es X.env)).any (·.1))=false;rw [hplain] <;> rfl) (Calls.evalArgs_plain ?_)
 exact thn hA fun us s2 ⟨vs,H2,I2,r2,q2⟩=>hm pins s2 σ H2 x vs v us Q I2 r1 r2 q2
end
end L2

namespace L2
open PySem PySem.Spec PyProof.Rows

def MtM (X:Cx) (id:String) (r:V->List V->Hp->VK->Prop):Prop :=
 ∀ (pins:List (Addr × Obj)) (s:Shared) (σ:St) (H:Hp) (x:V) (xs:List V) (v:Value) (us:List Value) (Q:VK),Inv X pins σ H s->RelV x v->Vals xs us->r x xs H Q →
  wpAny (model X.prog X.w) X.A (call (.builtin id) (v::us)) (EP X pins σ Q) X.xe s

theorem Vals.one:∀ {x:V}{us:List Value},Vals [x] us->∃ u,us=[u]/\RelV x u
 | _,_,.cons r .nil=>⟨_,rfl,r⟩
theorem Vals.two:∀ {x y:V}{us:List Value},Vals [x,y] us->∃ u v,us=[u,v]/\RelV x u/\RelV y v
 | _,_,_,.cons r (.cons q .nil)=>⟨_,_,rfl,r,q⟩
theorem Vals.zero:∀ {us:List Value},Vals [] us->us=[]
 | _,.nil=>rfl
theorem Vals.reverse {xs:List V}{us:List Value} (h:Vals xs us):Vals xs.reverse us.reverse:=by
 induction h with
 | nil=>exact .nil
 | cons r t ih=>rw [List.reverse_cons,List.reverse_cons];exact Vals.append ih (.cons r .nil)
theorem Vals.rep {xs:List V}{us:List Value} (h:Vals xs us):∀ k:Nat,Vals (List.replicate k xs).flatten (List.replicate k us).flatten
 | 0=>.nil
 | k + 1=>by
  rw [List.replicate_succ,List.replicate_succ,List.flatten_cons,List.flatten_cons]
  exact Vals.append h (Vals.rep h k)
theorem foldl_rep (its:List Value):∀ (k:Nat) (acc:List Value),
  List.foldl (fun x1 x2=>x1++x2) acc.toArray (List.replicate k its.toArray)=(acc++(List.replicate k its).flatten).toArray
 | 0,acc=>by simp
 | k + 1,acc=>by
  have e:acc.toArray++its.toArray=(acc++its).toArray:=by simp
  have e2:(acc++its)++(List.replicate k its).flatten=acc++(List.replicate (k + 1) its).flatten:=by
   rw [List.replicate_succ,List.flatten_cons,List.append_assoc]
  rw [← e2,← foldl_rep its k (acc++its),← e,List.replicate_succ,List.foldl_cons]

section
variable {X:Cx}{pins:List (Addr × Obj)}{σ:St}{H:Hp}{s:Shared}{l b:Addr}{xs ys zs:List V}

theorem Inv.CC {its its':List Value}{n:Nat}{f:Array Value->Array Value}{t':Nat} (I:Inv X pins σ H s) (hH:H l=some (.lst xs))
  (e:s.heap.get? l=some { cls:=.type "list",data:=.seq its.toArray n }) (hf:f its.toArray=its'.toArray) (hv:Vals ys its') (hz:ys.length<=sizeLine) :
  Inv X pins σ (upd H l (.lst ys)) { s with heap:=s.heap.update l (Obj.mapSeq f),toks:=t' }:=by
 have q:=PySem.IsL.update e f
 rw [hf] at q
 refine I.write (x:=l) (e:=l) (by rw [hH];exact trivial) (.inl rfl) (fun b' u hb hu=>(Heap.get?_update_other s.heap (Obj.mapSeq f) (Ne.symm hb)).trans hu) ⟨_,q⟩ ?_
 exact ⟨hz,its',_,hv,q⟩
theorem Inv.DH {its:List Value}{t':Nat} (I:Inv X pins σ H s) (hv:Vals ys its) (hz:ys.length<=sizeLine) :
  Inv X pins σ (upd H s.heap.objs.size (.lst ys)) { s with heap:=s.heap.push { cls:=.type "list",data:=.seq its.toArray },toks:=t' } :=
 I.laid (fun _ _ q=>Heap.get?_push_of_some _ q) (Nat.le_refl _) ⟨hz,its,0,hv,Heap.get?_push_size _ rfl⟩
theorem Inv.fresh (I:Inv X pins σ H s):H s.heap.objs.size=none:=I.hok.fresh (Nat.le_refl _)
theorem Inv.tj (I:Inv X pins σ H s) (hH:H l=some (.lst xs)):xs.length<=sizeLine/\∃ (its:List Value) (n:Nat),Vals xs its/\xs.length=its.length/\s.heap.get? l=some { cls:=.type "list",data:=.seq its.toArray n }:=by
 obtain ⟨z,its,n,r,e⟩:=I.hok l _ hH
 exact ⟨z,its,n,r,r.length,e⟩

theorem rD {n:Nat} (h:n<=sizeLine):Builtin.List.listTooLong n=false:=by
 unfold Builtin.List.listTooLong
 exact decide_eq_false (by omega)
end

section
variable {X:Cx}

def AL:V->List V->Hp->VK->Prop:=fun x vs H Q=>∃ l xs y,x=.ref l/\vs=[y]/\H l=some (.lst xs)/\xs.length < sizeLine/\Q .non (upd H l (.lst (xs++[y])))
theorem fD:MtM X "list.append" AL:=by
 intro pins s σ H x vs v us Q I rx rv h
 obtain ⟨l,xs,y,rfl,rfl,hH,hz,q⟩:=h
 cases rx
 obtain ⟨u,rfl,ru⟩:=rv.one
 obtain ⟨z,its,n,r,hl,e⟩:=I.tj hH
 refine call_meets F.slot_list_append ⟨_,e,rfl⟩ F.entry_list_append (F.args_list_append_2 _ _) (PySem.list_append l its.toArray n u (by rw [List.size_toArray];omega)) ⟨e,?_⟩
 refine ⟨.non,_,I.CC (its':=its++[u]) hH e (by simp) (r.append (.cons ru .nil)) ?_,rfl,q⟩
 rw [List.length_append,List.length_singleton]
 omega

def AN:V->List V->Hp->VK->Prop:=fun x vs H Q=>∃ l b xs zs,x=.ref l/\vs=[.ref b]/\H l=some (.lst xs)/\H b=some (.lst zs)/\xs.length + zs.length<=sizeLine/\Q .non (upd H l (.lst (xs++zs)))
theorem wR:MtM X "list.extend" AN:=by
 intro pins s σ H x vs v us Q I rx rv h
 obtain ⟨l,b,xs,zs,rfl,rfl,hH,hB,hz,q⟩:=h
 cases rx
 obtain ⟨u,rfl,ru⟩:=rv.one
 cases ru
 obtain ⟨z,its,n,r,hl,e⟩:=I.tj hH
 obtain ⟨z2,its2,n2,r2,hl2,e2⟩:=I.tj hB
 have hsz:its.toArray.size + its2.toArray.size<=sizeLine:=by rw [List.size_toArray,List.size_toArray];omega
 have hlong:¬ (!its.toArray.isEmpty && Builtin.List.listTooLong (its.toArray.size + its2.toArray.size))=true:=by
  rw [rD hsz,Bool.and_false]
  exact Bool.false_ne_true
 refine call_meets F.slot_list_extend ⟨_,e,rfl⟩ F.entry_list_extend (F.args_list_extend_2 _ _)
  (AutoSeq1.list_extend_list_list_0 l its.toArray n b its2.toArray n2 hlong (by rw [List.size_toArray];omega) (by omega)) ⟨e,e2,?_⟩
 refine ⟨.non,_,I.CC (its':=its++its2) hH e (by simp) (r.append r2) ?_,rfl,q⟩
 rw [List.length_append]
 omega

def zj:V->List V->Hp->VK->Prop:=fun x vs H Q=>∃ l xs,x=.ref l/\vs=[]/\H l=some (.lst xs)/\Q .non (upd H l (.lst []))
theorem yM:MtM X "list.clear" zj:=by
 intro pins s σ H x vs v us Q I rx rv h
 obtain ⟨l,xs,rfl,rfl,hH,q⟩:=h
 cases rx
 have hus:=rv.zero
 subst hus
 obtain ⟨z,its,n,r,hl,e⟩:=I.tj hH
 refine call_meets F.slot_list_clear ⟨_,e,rfl⟩ F.entry_list_clear (F.args_list_clear_1 _) (AutoSeq1.list_clear_list_0 l its.toArray n (by rw [List.size_toArray];omega)) ⟨e,?_⟩
 exact ⟨.non,_,I.CC (its':=[]) (ys:=[]) hH e rfl .nil (Nat.zero_le _),rfl,q⟩

def E7:R2:=fun x y H Q=>∃ l b xs zs,x=.ref l/\y=.ref b/\H l=some (.lst xs)/\H b=some (.lst zs)/\xs.length + zs.length<=sizeLine/\∀ p,H p=none->Q (.ref p) (upd H p (.lst (xs++zs)))
theorem CK:OpR X (binaryOp .Add) E7:=by
 intro pins s σ H x y v u Q I rx ry h
 obtain ⟨l,b,xs,zs,rfl,rfl,hH,hB,hz,q⟩:=h
 cases rx
 cases ry
 obtain ⟨z,its,n,r,hl,e⟩:=I.tj hH
 obtain ⟨z2,its2,n2,r2,hl2,e2⟩:=I.tj hB
 refine PySem.P.add_list e e2 ?_ (by rw [List.size_toArray,List.size_toArray];omega)
 have ea:its.toArray++its2.toArray=(its++its2).toArray:=by simp
 rw [ea]
 exact ⟨.ref _,_,I.DH (t':=s.toks) (r.append r2) (by rw [List.length_append];omega),rfl,q _ I.fresh⟩
def EG:R2:=fun x y H Q=>∃ l k xs,x=.ref l/\y=.int k/\H l=some (.lst xs)/\-(2 ^ 63)<=k/\k < 2 ^ 63/\xs.length * k.toNat<=sizeLine ∧
 ∀ p,H p=none->Q (.ref p) (upd H p (.lst (List.replicate k.toNat xs).flatten))
theorem len_rep {α:Type} (xs:List α) (k:Nat):(List.replicate k xs).flatten.length=k * xs.length:=by
 induction k with
 | zero=>simp
 | succ k ih=>rw [List.replicate_succ,List.flatten_cons,List.length_append,ih,Nat.succ_mul,Nat.add_comm]
theorem CW:OpR X (binaryOp .Mult) EG:=by
 intro pins s σ H x y v u Q I rx ry h
 obtain ⟨l,k,xs,rfl,rfl,hH,h1,h2,hz,q⟩:=h
 cases rx
 obtain ⟨t,rfl⟩:=ry
 obtain ⟨z,its,n,r,hl,e⟩:=I.tj hH
 have hlen:its.toArray.size * k.toNat<=sizeLine:=by rw [List.size_toArray,← hl];exact hz
 have hcap:¬ its.toArray.size * k.toNat > (2 ^ 63 - 1) / 8:=by
  have:(sizeLine:Nat)<=(2 ^ 63 - 1) / 8:=by decide
  omega
 have hfit:¬ (!Builtin.List.listFitsIndex k)=true:=by
  rw [fitsIndex_both h1 h2]
  exact Bool.false_ne_true
 have hlong:¬ Builtin.List.listTooLong (its.toArray.size * k.toNat)=true:=by
  rw [rD hlen]
  exact Bool.false_ne_true
 have hnew:List.foldl (fun x1 x2=>x1++x2) #[] (List.replicate (if its.toArray.isEmpty=true then 0 else k.toNat) its.toArray)=(List.replicate k.toNat its).flatten.toArray:=by
  have f0:∀ m:Nat,List.foldl (fun x1 x2=>x1++x2) #[] (List.replicate m its.toArray)=(List.replicate m its).flatten.toArray:=fun m=>by
   have:=foldl_rep its m []
   rw [List.nil_append] at this
   exact this
  rw [f0]
  cases its with
  | nil=>simp
  | cons a r'=>rw [if_neg (by simp)]
 refine wpAny_binaryOp_repeat_ref (T:="list") (U:="int") (by decide) ⟨_,e,rfl⟩ (fun s'=>typeIs_int s' k t) noFill_list_mul F.fills_int_mul F.slot_int_rmul repeat_list F.slot_int_index.lookup
  (call_meets F.slot_int_rmul (typeIs_int s k t) F.entry_int_rmul (F.args_int_rmul_2 _ _) (int___rmul___int_list k t l its.toArray n)
   ⟨e,rfl,⟨_,e,rfl⟩,call_meets F.slot_list_mul ⟨_,e,rfl⟩ F.entry_list_mul (F.args_list_mul_2 _ _) (AutoListH.list___mul___list_int_3 l its.toArray n k t hfit hcap hlong) ⟨e,?_⟩⟩)
 rw [hnew]
 exact ⟨.ref _,_,I.DH (t':=s.toks) (r.rep k.toNat) (by rw [len_rep,Nat.mul_comm];exact hz),rfl,q _ I.fresh⟩

end

section
variable {prog:Program}{w:World}{A:Around}{E:Value->Shared->Prop}{s:Shared}
end

section
variable {X:Cx}
end
end L2


namespace L2
open PySem PySem.Spec PyProof.Rows

section
variable {κ:Type} [DecidableEq κ]
def gc (kvs:List (κ × V)) (k:κ):Option V:=(kvs.find? fun kv=>decide (kv.1=k)).map (·.2)
def putK (kvs:List (κ × V)) (k:κ) (v:V):List (κ × V) :=
 if (kvs.any fun kv=>decide (kv.1=k))=true then kvs.map (fun kv=>if kv.1=k then (kv.1,v) else kv) else kvs++[(k,v)]
def Bs (kvs:List (κ × V)) (k:κ):List (κ × V):=kvs.filter fun kv=>decide (kv.1≠k)

theorem n4 {p:κ × V}{r:List (κ × V)}{k:κ} (e:p.1=k):gc (p::r) k=some p.2:=by simp [gc,List.find?_cons,e]
theorem nz {p:κ × V}{r:List (κ × V)}{k:κ} (e:¬ p.1=k):gc (p::r) k=gc r k:=by simp [gc,List.find?_cons,e]
theorem ny (k:κ):∀ kvs:List (κ × V),(kvs.any fun kv=>decide (kv.1=k))=(gc kvs k).isSome
 | []=>rfl
 | p::r=>by
  rw [List.any_cons]
  by_cases e:p.1=k
  ·simp only [n4 e,decide_eq_true e,Bool.true_or,Option.isSome_some]
  ·rw [nz e,decide_eq_false e,Bool.false_or];exact ny k r
theorem kK (kvs:List (κ × V)) (k:κ) (v:V):(putK kvs k v).length<=kvs.length + 1:=by
 unfold putK
 split
 ·rw [List.length_map];omega
 ·rw [List.length_append,List.length_cons,List.length_nil];omega
theorem ig.gI {o:Option V}{u:Option Value} (r:ig o u):o.isSome=u.isSome:=by
 cases o with
 | none=>cases u with
  | none=>rfl
  | some _=>exact (show False from r).elim
 | some _=>cases u with
  | none=>exact (show False from r).elim
  | some _=>rfl
theorem ig.getD {o:Option V}{u:Option Value}{d:V}{d':Value} (r:ig o u) (rd:RelV d d'):RelV (o.getD d) (u.getD d'):=by
 cases o with
 | none=>cases u with
  | none=>exact rd
  | some _=>exact (show False from r).elim
 | some _=>cases u with
  | none=>exact (show False from r).elim
  | some _=>exact r

theorem KV.val {kvs:List (κ × V)}{vs:List (κ × Value)} (r:KV kvs vs) (k:κ):ig (gc kvs k) (valueAt vs k):=by
 unfold KV at r
 induction r with
 | nil=>exact True.intro
 | @cons p q ps qs h t ih =>
  obtain ⟨h1,h2⟩:=h
  by_cases e:p.1=k
  ·have e':q.1=k:=h1.symm.trans e
   have b:valueAt (q::qs) k=some q.2:=by simp [valueAt,List.find?_cons,e']
   rw [n4 e,b];exact h2
  ·have e':¬ q.1=k:=fun z=>e (h1.trans z)
   have b:valueAt (q::qs) k=valueAt qs k:=by simp [valueAt,List.find?_cons,e']
   rw [nz e,b];exact ih
theorem KV.any {kvs:List (κ × V)}{vs:List (κ × Value)} (r:KV kvs vs) (k:κ):(kvs.any fun kv=>decide (kv.1=k))=vs.any fun kv=>decide (kv.1=k):=by
 unfold KV at r
 induction r with
 | nil=>rfl
 | cons h t ih=>rw [List.any_cons,List.any_cons,ih,h.1]
theorem KV.Dm {kvs:List (κ × V)}{vs:List (κ × Value)} (r:KV kvs vs) (k:κ) {y:V}{u:Value} (ry:RelV y u) :
  KV (kvs.map fun kv=>if kv.1=k then (kv.1,y) else kv) (vs.map fun kv=>if kv.1=k then (kv.1,u) else kv):=by
 unfold KV at r ⊢
 induction r with
 | nil=>exact .nil
 | @cons p q ps qs h t ih =>
  rw [List.map_cons,List.map_cons]
  refine .cons ?_ ih
  obtain ⟨h1,h2⟩:=h
  by_cases e:p.1=k
  ·rw [if_pos e,if_pos (h1.symm.trans e)];exact ⟨h1,ry⟩
  ·rw [if_neg e,if_neg (fun z=>e (h1.trans z))];exact ⟨h1,h2⟩
theorem KV.put {kvs:List (κ × V)}{vs:List (κ × Value)} (r:KV kvs vs) (k:κ) {y:V}{u:Value} (ry:RelV y u):KV (putK kvs k y) (stored vs k u):=by
 unfold putK stored
 rw [r.any k]
 by_cases e:(vs.any fun kv=>decide (kv.1=k))=true
 ·rw [if_pos e,if_pos e];exact r.Dm k ry
 ·rw [if_neg e,if_neg e];exact Paired.snoc r ⟨rfl,ry⟩
theorem KV.drop {kvs:List (κ × V)}{vs:List (κ × Value)} (r:KV kvs vs) (k:κ):KV (Bs kvs k) (without vs k):=by
 unfold KV at r ⊢
 unfold Bs without
 induction r with
 | nil=>exact .nil
 | @cons p q ps qs h t ih =>
  obtain ⟨h1,h2⟩:=h
  rw [List.filter_cons,List.filter_cons]
  by_cases e:p.1=k
  ·have a:¬ decide (p.1≠k)=true:=by simp [e]
   have b:¬ decide (q.1≠k)=true:=by simp [h1.symm.trans e]
   rw [if_neg a,if_neg b];exact ih
  ·have e':¬ q.1=k:=fun z=>e (h1.trans z)
   have a:decide (p.1≠k)=true:=by simp [e]
   have b:decide (q.1≠k)=true:=by simp [e']
   rw [if_pos a,if_pos b];exact .cons ⟨h1,h2⟩ ih
theorem KV.keys {kvs:List (κ × V)}{vs:List (κ × Value)} (r:KV kvs vs):kvs.map (·.1)=vs.map (·.1):=by
 unfold KV at r
 induction r with
 | nil=>rfl
 | cons h t ih=>rw [List.map_cons,List.map_cons,ih,h.1]
theorem KV.length {kvs:List (κ × V)}{vs:List (κ × Value)} (r:KV kvs vs):kvs.length=vs.length:=Paired.length r
end


theorem oA {P:Program}{w:World}{k:Key}{u:Value} (r:RelV (kV k) u):(aP P w).is k u=true:=by
 cases k with
 | inl i=>obtain ⟨t,e⟩:=(show ∃ t,u=Value.int i t from r);subst e;exact rB P w i t
 | inr x=>obtain ⟨t,e⟩:=(show ∃ t,u=Value.str x t from r);subst e;exact rC P w x t
theorem Cy {a b:Key} (e:kV a=kV b):a=b:=by
 cases a with
 | inl i=>cases b with
  | inl j=>have e':V.int i=V.int j:=e;injection e' with e';rw [e']
  | inr y=>exact nomatch (show V.int i=V.str y from e)
 | inr x=>cases b with
  | inl j=>exact nomatch (show V.str x=V.int j from e)
  | inr y=>have e':V.str x=V.str y:=e;injection e' with e';rw [e']
theorem lA:∀ {a b:List Key},a.map kV=b.map kV->a=b
 | [],[],_=>rfl
 | [],_::_,e=>by simp at e
 | _::_,[],e=>by simp at e
 | x::xs,y::ys,e=>by
  rw [List.map_cons,List.map_cons] at e
  injection e with e1 e2
  rw [Cy e1,lA e2]
theorem oz {P:Program}{w:World}:∀ {ks:List Key}{us:List Value},Vals (ks.map kV) us->ItemsAre (aP P w) ks us
 | [],_,r=>by rw [List.map_nil] at r;cases r;exact .nil
 | k::ks,_,r=>by
  rw [List.map_cons] at r
  cases r with
  | cons h t=>exact .cons (oA h) (oz t)

abbrev KT (H:Hp):List (List Key × V)->List (List Key × Addr × Value)->Prop:=Paired fun p q=>p.1=q.1/\H q.2.1=some (.tup (p.1.map kV))/\RelV p.2 q.2.2
theorem KT.val {H:Hp}{kvs:List (List Key × V)}{xs:List (List Key × Addr × Value)} (r:KT H kvs xs) (k:List Key):ig (gc kvs k) ((atKey xs k).map (·.2)):=by
 induction r with
 | nil=>exact True.intro
 | @cons p q ps qs h t ih =>
  obtain ⟨h1,_,h2⟩:=h
  by_cases e:p.1=k
  ·have e':q.1=k:=h1.symm.trans e
   have b:atKey (q::qs) k=some q.2:=by simp [atKey,List.find?_cons,e']
   rw [n4 e,b];exact h2
  ·have e':¬ q.1=k:=fun z=>e (h1.trans z)
   have b:atKey (q::qs) k=atKey qs k:=by simp [atKey,List.find?_cons,e']
   rw [nz e,b];exact ih
theorem KT.Dm {H:Hp}{kvs:List (List Key × V)}{xs:List (List Key × Addr × Value)} (r:KT H kvs xs) (k:List Key) {y:V}{u:Value} (ry:RelV y u) :
  KT H (kvs.map fun kv=>if kv.1=k then (kv.1,y) else kv) (xs.map (putAt k u)):=by
 induction r with
 | nil=>exact .nil
 | @cons p q ps qs h t ih =>
  rw [List.map_cons,List.map_cons]
  refine .cons ?_ ih
  obtain ⟨h1,h2,h3⟩:=h
  unfold putAt
  by_cases e:p.1=k
  ·rw [if_pos e,if_pos (h1.symm.trans e)];exact ⟨h1,h2,ry⟩
  ·rw [if_neg e,if_neg (fun z=>e (h1.trans z))];exact ⟨h1,h2,h3⟩
theorem KT.put {H:Hp}{kvs:List (List Key × V)}{xs:List (List Key × Addr × Value)} (r:KT H kvs xs) (k:List Key) {b:Addr}{y:V}{u:Value} (hb:H b=some (.tup (k.map kV))) (ry:RelV y u) :
  KT H (putK kvs k y) (storedH xs k b u):=by
 have e:(kvs.any fun kv=>decide (kv.1=k))=(atKey xs k).isSome:=by
  rw [ny,(r.val k).gI,Option.isSome_map]
 unfold putK storedH
 rw [e]
 by_cases q:(atKey xs k).isSome=true
 ·rw [if_pos q,if_pos q];exact r.Dm k ry
 ·rw [if_neg q,if_neg q];exact Paired.snoc r ⟨rfl,hb,ry⟩
theorem KT.keeps {H H':Hp}{kvs:List (List Key × V)}{xs:List (List Key × Addr × Value)} (r:KT H kvs xs) (ht:∀ b ys,H b=some (.tup ys)->H' b=some (.tup ys)):KT H' kvs xs :=
 Paired.CF r fun _ _ z=>⟨z.1,ht _ _ z.2.1,z.2.2⟩

section
variable {P:Program}{w:World}{H:Hp}{h:Heap}{a:Addr}
theorem BH {u:HO} (ok:HOk P w H h) (e:Rd H a u):aX P w H h a u:=e.ok ok
theorem jw {kvs:List (Key × V)} (ok:HOk P w H h) (e:Rd H a (.dK kvs)):kvs.length<=sizeLine/\(a == sysModules)=false/\∃ vs,KV kvs vs/\h.DictOf (aP P w) a vs :=
 show aX P w H h a (.dK kvs) from BH ok e
theorem DE {kvs:List (Key × V)} (ok:HOk P w H h) (e:H a=some (.dK kvs)):kvs.length<=sizeLine/\(a == sysModules)=false/\∃ vs,KV kvs vs/\h.DictOf (aP P w) a vs:=jw ok (.inl e)
theorem km {ks:List Key} (ok:HOk P w H h) (e:H a=some (.tup (ks.map kV))):(tupleKind (aP P w)).is h ks a:=by
 obtain ⟨_,its,r,o,h1,h2,n,h3⟩:=(show aX P w H h a (.tup (ks.map kV)) from ok a _ e)
 exact ⟨o,its.toArray,n,h1,h2,h3,by simpa using oz r⟩
theorem lN {kvs:List (List Key × V)} (ok:HOk P w H h) (e:Rd H a (.dT kvs)):kvs.length<=sizeLine/\(a == sysModules)=false ∧
  ∃ xs,KT H kvs xs/\h.DictOfH (tupleKind (aP P w)) a xs:=by
 obtain ⟨z,y,xs,r,o,es,ep,h1,h2,h3,h4,h5⟩:=(show aX P w H h a (.dT kvs) from BH ok e)
 refine ⟨z,y,xs,r,o,es,ep,h1,h2,h3,h4,fun x hx=>?_,h5⟩
 have all:∀ {l:List (List Key × V)}{m:List (List Key × Addr × Value)},KT H l m->∀ x∈m,(tupleKind (aP P w)).is h x.1 x.2.1:=by
  intro l m q
  induction q with
  | nil=>intro x hx;exact nomatch hx
  | @cons p q ps qs hq t ih =>
   intro x hx
   rcases List.mem_cons.mp hx with e | hx
   ·subst e
    exact km ok (by rw [← hq.1];exact hq.2.1)
   ·exact ih x hx
 exact all r x hx
theorem DF {kvs:List (List Key × V)} (ok:HOk P w H h) (e:H a=some (.dT kvs)):kvs.length<=sizeLine/\(a == sysModules)=false ∧
  ∃ xs,KT H kvs xs/\h.DictOfH (tupleKind (aP P w)) a xs:=lN ok (.inl e)
end

def ie (H:Hp) (a:Addr) (y:V) (r:Option V):Prop :=
 (∃ kvs k,Rd H a (.dK kvs)/\y=kV k/\r=gc kvs k) ∨ ∃ kvs k b,Rd H a (.dT kvs)/\y=.ref b/\H b=some (.tup (k.map kV))/\r=gc kvs k
def sy (H:Hp) (a:Addr) (y v:V) (H':Hp):Prop :=
 (∃ kvs k,H a=some (.dK kvs)/\y=kV k/\kvs.length < sizeLine/\H'=upd H a (.dK (putK kvs k v))) ∨
 ∃ kvs k b,H a=some (.dT kvs)/\y=.ref b/\H b=some (.tup (k.map kV))/\kvs.length < sizeLine/\H'=upd H a (.dT (putK kvs k v))
theorem ie.k {H:Hp}{a:Addr}{kvs:List (Key × V)}{k:Key} (e:H a=some (.dK kvs)):ie H a (kV k) (gc kvs k):=.inl ⟨kvs,k,.inl e,rfl,rfl⟩
theorem ie.t {H:Hp}{a b:Addr}{kvs:List (List Key × V)}{k:List Key} (e:H a=some (.dT kvs)) (eb:H b=some (.tup (k.map kV))):ie H a (.ref b) (gc kvs k):=.inr ⟨kvs,k,b,.inl e,rfl,eb,rfl⟩
theorem sy.k {H:Hp}{a:Addr}{kvs:List (Key × V)}{k:Key}{v:V} (e:H a=some (.dK kvs)) (hl:kvs.length < sizeLine):sy H a (kV k) v (upd H a (.dK (putK kvs k v))):=.inl ⟨kvs,k,e,rfl,hl,rfl⟩
theorem sy.t {H:Hp}{a b:Addr}{kvs:List (List Key × V)}{k:List Key}{v:V} (e:H a=some (.dT kvs)) (eb:H b=some (.tup (k.map kV))) (hl:kvs.length < sizeLine) :
  sy H a (.ref b) v (upd H a (.dT (putK kvs k v))):=.inr ⟨kvs,k,b,e,rfl,eb,hl,rfl⟩


section
variable {X:Cx}{pins:List (Addr × Obj)}{σ:St}{H:Hp}{s:Shared}{a:Addr}{y v:V}{u r:Value}{o:Option V}{A:Around}{E:Value->Shared->Prop}

theorem Inv.big (I:Inv X pins σ H s):sysModules < s.heap.objs.size:=by
 have h:mainGlobals < s.heap.objs.size:=(I.mod.glob.keeps I.bk).lt
 exact Nat.lt_trans (by decide) h

theorem wx {Q:Value->Shared->Prop} (hu:A.units + 1 < cLine) (I:Inv X pins σ H s) (g:ie H a y (some v)) (ry:RelV y u) (h:∀ w' s',Inv X pins σ H s'->RelV v w'->Q w' s') :
  wpAny (model X.prog X.w) A (getItem (.ref a) u) Q E s:=by
 rcases g with ⟨kvs,k,e,ey,l⟩ | ⟨kvs,k,b,e,ey,eb,l⟩
 ·subst ey
  obtain ⟨z,hd,vs,rel,dd⟩:=jw I.hok e
  obtain ⟨w',hw,rw'⟩:=ig.some_of (v:=v) (o:=valueAt vs k) (by rw [l];exact rel.val k)
  exact wpAny_getItem_of (oA ry) dd.mapOf hw (h w' _ (I.tok _) rw')
 ·subst ey
  cases (show u=Value.ref b from ry)
  obtain ⟨z,hd,xs,rel,dd⟩:=lN I.hok e
  obtain ⟨w',hw,rw'⟩:=ig.some_of (v:=v) (o:=(atKey xs k).map (·.2)) (by rw [l];exact rel.val k)
  obtain ⟨p,hp,hp2⟩:=Option.map_eq_some_iff.mp hw
  refine wpAny_getItem_heap (tupleKind_room_in1 hu) (km I.hok eb) dd hp ?_
  rw [hp2]
  exact h w' _ (I.tok _) rw'
theorem Ez {Q:Value->Shared->Prop} (hu:A.units + 1 < cLine) (I:Inv X pins σ H s) (g:ie H a y o) (ry:RelV y u) (h:∀ s',Inv X pins σ H s'->Q (.bool o.isSome) s') :
  wpAny (model X.prog X.w) A (compareOp .In u (.ref a)) Q E s:=by
 rcases g with ⟨kvs,k,e,ey,l⟩ | ⟨kvs,k,b,e,ey,eb,l⟩
 ·subst ey
  obtain ⟨z,hd,vs,rel,dd⟩:=jw I.hok e
  refine wpAny_in_of (oA ry) hd dd.mapOf ?_
  rw [← (rel.val k).gI,← l]
  exact h _ (I.tok _)
 ·subst ey
  cases (show u=Value.ref b from ry)
  obtain ⟨z,hd,xs,rel,dd⟩:=lN I.hok e
  refine wpAny_in_heap (tupleKind_room_in1 hu) (km I.hok eb) hd dd ?_
  have q:=(rel.val k).gI
  rw [Option.isSome_map] at q
  rw [← q,← l]
  exact h _ (I.tok _)
theorem Ac {Q:Value->Shared->Prop} (hu:A.units + 1 < cLine) (I:Inv X pins σ H s) (g:ie H a y o) (ry:RelV y u) (h:∀ s',Inv X pins σ H s'->Q (.bool (!o.isSome)) s') :
  wpAny (model X.prog X.w) A (compareOp .NotIn u (.ref a)) Q E s:=by
 rcases g with ⟨kvs,k,e,ey,l⟩ | ⟨kvs,k,b,e,ey,eb,l⟩
 ·subst ey
  obtain ⟨z,hd,vs,rel,dd⟩:=jw I.hok e
  refine wpAny_notIn_of (oA ry) hd dd.mapOf ?_
  rw [← (rel.val k).gI,← l]
  exact h _ (I.tok _)
 ·subst ey
  cases (show u=Value.ref b from ry)
  obtain ⟨z,hd,xs,rel,dd⟩:=lN I.hok e
  refine wpAny_notIn_heap (tupleKind_room_in1 hu) (km I.hok eb) hd dd ?_
  have q:=(rel.val k).gI
  rw [Option.isSome_map] at q
  rw [← q,← l]
  exact h _ (I.tok _)
theorem uW {h':Heap}{t':Nat}{ob:HO} (I:Inv X pins σ H s) (mu:Mut (H a)) (hs:Heap.SameBut a s.heap h') (he:∃ q,h'.get? a=some q) (new:aX X.prog X.w (upd H a ob) h' a ob) :
  Inv X pins σ (upd H a ob) { s with heap:=h',toks:=t' } :=
 I.write (x:=a) (e:=a) mu (.inl rfl) (fun b q hb z=>(hs.2 b hb).trans z) he new
theorem Cn {P:Program}{w:World}{H':Hp}{h':Heap}{kvs:List (Key × V)}{vs:List (Key × Value)} (z:kvs.length<=sizeLine) (hd:(a == sysModules)=false) (rel:KV kvs vs) (dd:h'.DictOf (aP P w) a vs) :
  aX P w H' h' a (.dK kvs):=⟨z,hd,vs,rel,dd⟩
theorem wy {H':Hp}{Q:Unit->Shared->Prop} (hu:A.units + 1 < cLine) (I:Inv X pins σ H s) (g:sy H a y v H') (ry:RelV y u) (rv:RelV v r) (h:∀ s',Inv X pins σ H' s'->Q () s') :
  wpAny (model X.prog X.w) A (setItem (.ref a) u r) Q E s:=by
 rcases g with ⟨kvs,k,e,ey,l,eH⟩ | ⟨kvs,k,b,e,ey,eb,l,eH⟩
 ·subst ey eH
  obtain ⟨z,hd,vs,rel,dd⟩:=DE I.hok e
  have hz:vs.length<=sizeLine:=by rw [← rel.length];exact z
  have hl:(putK kvs k v).length<=sizeLine:=by have:=kK kvs k v;omega
  refine wpAny_setItem_pairs (hsz:=hz) (oA ry) dd fun h' dd' hs=>h _ ?_
  have he:∃ q,h'.get? a=some q:=let ⟨q,_,_,hq,_⟩:=dd';⟨q,hq⟩
  exact uW I (by rw [e];exact True.intro) hs he (Cn hl hd (rel.put k rv) dd')
 ·subst ey eH
  cases (show u=Value.ref b from ry)
  obtain ⟨z,hd,xs,rel,dd⟩:=DF I.hok e
  have hz:xs.length<=sizeLine:=by rw [← Paired.length rel];exact z
  have hl:(putK kvs k v).length<=sizeLine:=by have:=kK kvs k v;omega
  refine wpAny_setItem_heap (hsz:=hz) (tupleKind_room_in1 hu) (km I.hok eb) dd fun h' dd' hs=>h _ ?_
  obtain ⟨q,es,ep,hq,h2,h3,h4,_,h5⟩:=dd'
  refine uW I (by rw [e];exact True.intro) hs ⟨q,hq⟩ ⟨hl,hd,_,(rel.put k eb rv).keeps fun c ys ec=>?_,q,es,ep,hq,h2,h3,h4,h5⟩
  rw [av (kM ec e (fun z=>nomatch z))]
  exact ec
end

section
variable {X:Cx}{pins:List (Addr × Obj)}{σ:St}{H:Hp}{s:Shared}{a:Addr}{kvs:List (Key × V)}{k:Key}{u:Value}{A:Around}{E:Value->Shared->Prop}
theorem DC {Q:Value->Shared->Prop} (I:Inv X pins σ H s) (e:Rd H a (.dK kvs)) (h:∀ t s',Inv X pins σ H s'->Q (.int kvs.length t) s'):wpAny (model X.prog X.w) A (call (.builtin "len") [.ref a]) Q E s:=by
 obtain ⟨z,hd,vs,rel,dd⟩:=jw I.hok e
 refine call_len_dict hd dd (by rw [← rel.length];rw [sizeLine_eq] at z;omega) ?_
 rw [← rel.length]
 exact h _ _ (I.tok _)
end


def Ce (i:Expr):Prop:=∀ ov iv,subscripted i false ov iv=operate [ov,iv] (getItem ov iv)
theorem Bd {prog:Program}{w:World}{A:Around}{E:Value->Shared->Prop}{s:Shared}{env:Env}{value slice:Expr}{pos:Pos}{T id:String}{Q:Value->Shared->Prop}
  (hl:typeLookup (.type T) "__getitem__"=pure (some (.builtin id))) (hs:Ce slice)
  (h:wpAny (model prog w) A (eval value env) (fun o s₁=>wpAny (model prog w) A (eval slice env) (fun i s₂=>s₂.TypeIs o T/\wpAny (model prog w) A (getItem o i) Q E s₂) E s₁) E s) :
  wpAny (model prog w) A (eval (.Subscript value slice pos) env) Q E s:=by
 refine Subscript_ (wpAny_mono h (fun o s₁ h₁=>wpAny_mono h₁ (fun i s₂ h₂=>?_) fun _ _ x=>x) fun _ _ x=>x)
 obtain ⟨hT,h₂⟩:=h₂
 unfold subscriptTail
 refine wpAny_bind ?_
 rw [getitemInPython_of_ne hT.not_modules]
 refine wpAny_bind (wpAny_specialOf hT hl ?_)
 have fin:wpAny (model prog w) A (subscripted slice false o i) (fun r s₃=>wpAny (model prog w) A (letTemporaryGo value o r >>= fun _=>pure r) Q E s₃) E s₂:=by
  rw [hs o i]
  exact wpAny_operating (wpAny_mono h₂ (fun r s₃ h₃=>wpAny_bind (wpAny_letTemporaryGo (wpAny_pure h₃))) fun _ _ x=>x)
 first
  | exact wpAny_pure (wpAny_bind fin)
  | exact wpAny_bind (wpAny_pure (wpAny_bind fin))
  | exact wpAny_bind fin

theorem qS {X:Cx}{pins:List (Addr × Obj)}{σ:St}{H:Hp}{s:Shared}{a:Addr}{y:V}{o:Option V} (I:Inv X pins σ H s) (g:ie H a y o):s.TypeIs (.ref a) "dict":=by
 rcases g with ⟨kvs,k,e,_,_⟩ | ⟨kvs,k,b,e,_,_,_⟩
 ·obtain ⟨_,_,vs,_,dd⟩:=jw I.hok e
  exact dd.typeIs
 ·obtain ⟨_,_,xs,_,dd⟩:=lN I.hok e
  exact dd.typeIs
def zE (td ty:TE):TE:=fun σ H Q=>td σ H fun x H1=>ty σ H1 fun y H2=>∃ a v,x=.ref a/\ie H2 a y (some v)/\Q v H2
def z5 (td ty tv:TE):TS:=fun D σ H=>tv σ H fun v H1=>td σ H1 fun x H2=>ty σ H2 fun y H3=>∃ a H4,x=.ref a/\sy H3 a y v H4/\D.nx σ H4
section
variable {X:Cx}{o i e value:Expr}{pos pos' tpos:Pos}{td ty tv:TE}
theorem A9 (hu:X.A.units + 1 < cLine) (ho:PE X o td) (hi:PE X i ty) (hs:Ce i):PE X (.Subscript o i pos) (zE td ty):=by
 intro pins s σ H Q I h
 refine Bd PySem.F.slot_dict_getitem.lookup hs (thn (ho pins s σ H _ I h) fun u s1 ⟨x,H1,I1,rx,q1⟩=>thn (hi pins s1 σ H1 _ I1 q1) fun iv s2 ⟨y,H2,I2,ry,a,v,ex,g,q2⟩=>?_)
 subst ex
 obtain rfl:u=Value.ref a:=rx
 exact ⟨qS I2 g,wx hu I2 g ry fun w' s3 I3 rw'=>⟨v,H2,I3,rw',q2⟩⟩
theorem AJ (hu:X.A.units + 1 < cLine) (ho:PE X o td) (hi:PE X i ty) (hv:PE X value tv) (hs:swapsWith value (some (.Subscript o i pos')) pos.line X.env=pure false) :
  PS X (.Assign [.Subscript o i pos'] value pos) (z5 td ty tv):=by
 intro pins s σ H D I h
 refine wpAny_Assign_Subscript (thn (hv pins s σ H _ I h) fun r s1 ⟨v,H1,I1,rv,q1⟩=>thn (ho pins s1 σ H1 _ I1 q1) fun u s2 ⟨x,H2,I2,rx,q2⟩=>thn (hi pins s2 σ H2 _ I2 q2) fun iv s3 ⟨y,H3,I3,ry,a,H4,ex,g,q3⟩=>?_) hs
 subst ex
 obtain rfl:u=Value.ref a:=rx
 exact wy hu I3 g ry rv fun s4 I4=>⟨σ,H4,I4,q3⟩
end


theorem yb {P:Program}{w:World}{H:Hp} (h:Heap) (hb:sysModules < h.objs.size):aX P w H (h.push { cls:=.type "dict",data:=.dict #[] }) h.objs.size (.dK []) :=
 ⟨Nat.zero_le _,beq_eq_false_iff_ne.mpr (Ne.symm (Nat.ne_of_lt hb)),[],.nil,Heap.DictOf.new h⟩
theorem yc {P:Program}{w:World}{H:Hp} (h:Heap) (hb:sysModules < h.objs.size):aX P w H (h.push { cls:=.type "dict",data:=.dict #[] }) h.objs.size (.dT []) :=
 ⟨Nat.zero_le _,beq_eq_false_iff_ne.mpr (Ne.symm (Nat.ne_of_lt hb)),[],.nil,_,#[],0,Heap.get?_push_size _ rfl,⟨rfl,rfl,rfl⟩,rfl,rfl,List.nodup_nil⟩
def Dt:TE:=fun _ H Q=>∀ p,H p=none->Q (.ref p) (upd H p (.dK []))
def Du:TE:=fun _ H Q=>∀ p,H p=none->Q (.ref p) (upd H p (.dT []))
section
variable {X:Cx}{pos:Pos}
theorem zb:PE X (.Dict [] [] pos) Dt:=fun pins s σ H Q I h =>
 wpAny_Dict_empty ⟨.ref s.heap.objs.size,_,I.laid (a:=s.heap.objs.size) (o:=.dK []) (t':=s.toks) (fun _ _ q=>Heap.get?_push_of_some _ q) (Nat.le_refl _) (yb s.heap I.big),rfl,h _ (I.hok.fresh (Nat.le_refl _))⟩
theorem zc:PE X (.Dict [] [] pos) Du:=fun pins s σ H Q I h =>
 wpAny_Dict_empty ⟨.ref s.heap.objs.size,_,I.laid (a:=s.heap.objs.size) (o:=.dT []) (t':=s.toks) (fun _ _ q=>Heap.get?_push_of_some _ q) (Nat.le_refl _) (yc s.heap I.big),rfl,h _ (I.hok.fresh (Nat.le_refl _))⟩
end

structure M1 (X:Cx) (o:Expr) (m:Str) (apos:Pos) (e:Expr) (cpos:Pos):Prop where
 base:attributeBase o m X.env (eval o X.env)=eval o X.env
 few:((backTo cpos (starEach [e] X.env)).all (fun x=>!x.1) && (backToKw cpos (keywordEach [] X.env)).all (fun x=>x.1.isSome)
  && decide (([e]:List Expr).length + ([]:List Keyword).length + (if ([]:List Keyword).isEmpty then 0 else 1) < 30))=true
 line:(apos.endLine == cpos.line)=true
 trees:backTo cpos (starEach [e] X.env)=[(false,eval e X.env)]
def IsD (H:Hp) (a:Addr):Prop:=(∃ kvs,Rd H a (.dK kvs)) ∨ ∃ kvs,Rd H a (.dT kvs)
theorem Cu {X:Cx}{pins:List (Addr × Obj)}{σ:St}{H:Hp}{s:Shared}{a:Addr} (I:Inv X pins σ H s) (d:IsD H a) :
  s.TypeIs (.ref a) "dict"/\(∀ b,Value.ref a=.ref b->∃ ob,s.heap.get? b=some ob/\ob.dict=none)/\(a == sysModules)=false:=by
 rcases d with ⟨kvs,e⟩ | ⟨kvs,e⟩
 ·obtain ⟨_,hd,vs,_,dd⟩:=jw I.hok e
  refine ⟨dd.typeIs,fun b q=>?_,hd⟩
  cases q
  obtain ⟨ob,_,_,h1,h2,_⟩:=dd
  exact ⟨ob,h1,h2.2.1⟩
 ·obtain ⟨_,hd,xs,_,dd⟩:=lN I.hok e
  refine ⟨dd.typeIs,fun b q=>?_,hd⟩
  cases q
  obtain ⟨ob,_,_,h1,h2,_⟩:=dd
  exact ⟨ob,h1,h2.2.1⟩

section
variable {X:Cx}{pins:List (Addr × Obj)}{σ:St}{H:Hp}{s:Shared}{a:Addr}{y d:V}{u r:Value}{o:Option V}{A:Around}{E:Value->Shared->Prop}
theorem Cm {Q:Value->Shared->Prop} (hu:A.units + 1 < cLine) (I:Inv X pins σ H s) (g:ie H a y o) (ry:RelV y u) (h:∀ w' s',Inv X pins σ H s'->RelV (o.getD .non) w'->Q w' s') :
  wpAny (model X.prog X.w) A (call (.builtin "dict.get") [.ref a,u]) Q E s:=by
 rcases g with ⟨kvs,k,e,ey,l⟩ | ⟨kvs,k,b,e,ey,eb,l⟩
 ·subst ey
  obtain ⟨z,hd,vs,rel,dd⟩:=jw I.hok e
  refine call_meetsIn PySem.F.slot_dict_get dd.typeIs PySem.F.entry_dict_get (PySem.F.args_dict_get_2 _ _) (meets_dict_get (aP X.prog X.w) a (oA ry) hd) ⟨_,dd.mapOf,h _ _ (I.tok _) ?_⟩
  rw [l]
  exact (rel.val k).getD rfl
 ·subst ey
  cases (show u=Value.ref b from ry)
  obtain ⟨z,hd,xs,rel,dd⟩:=lN I.hok e
  refine call_meetsIn PySem.F.slot_dict_get dd.typeIs PySem.F.entry_dict_get (PySem.F.args_dict_get_2 _ _) (meetsH_dict_get (tupleKind (aP X.prog X.w)) a b hd) ⟨tupleKind_room_in1 hu,k,xs,km I.hok eb,dd,h _ _ (I.tok _) ?_⟩
  rw [l]
  exact (rel.val k).getD rfl
end

def ue (td ty:TE):TE:=fun σ H Q=>td σ H fun x H1=>∃ a,x=.ref a/\IsD H1 a/\ty σ H1 fun y H2=>∃ o,ie H2 a y o/\Q (o.getD .non) H2
section
variable {X:Cx}{o e f:Expr}{apos cpos:Pos}{td ty tx:TE}
theorem yZ (hu:X.A.units + 1 < cLine) (ho:PE X o td) (he:PE X e ty) (m:M1 X o "get" apos e cpos):PE X (.Call (.Attribute o "get" apos) [e] [] cpos) (ue td ty):=by
 intro pins s σ H Q I h
 refine wpAny_Call_method m.base m.few m.line PySem.F.plainAttrs_dict PySem.F.slot_dict_get PySem.F.type_dict_get (thn (ho pins s σ H _ I h) fun u s1 ⟨x,H1,I1,rx,a,ex,d,q1⟩=>?_)
 subst ex
 obtain rfl:u=Value.ref a:=rx
 obtain ⟨t1,t2,_⟩:=Cu I1 d
 refine ⟨t1,t2,?_⟩
 rw [m.trees]
 refine Calls.callWith_builtin rfl (Calls.evalArgs_plain (Calls.spliced_cons (thn (he pins s1 σ H1 _ I1 q1) fun iv s2 ⟨y,H2,I2,ry,ov,g,q2⟩=>Calls.spliced_nil ?_)))
 exact Cm hu I2 g ry fun w' s3 I3 rw'=>⟨_,H2,I3,rw',q2⟩
end

section
variable {X:Cx}{pins:List (Addr × Obj)}{σ:St}{H:Hp}{s:Shared}{a:Addr}{kvs:List (Key × V)}{A:Around}{E:Value->Shared->Prop}
end


section
variable {X:Cx}{pins:List (Addr × Obj)}{σ:St}{H:Hp}{s:Shared}{a:Addr}{y:V}{u:Value}{A:Around}{E:Value->Shared->Prop}
end
end L2


namespace Att
open PySem PySem.W PySem.Calls PyProof.Rows

theorem kY {P:Params}{h:Heap}:∀ (ns:List Int) (vs:List Value),WellAll P h vs (ns.map WData.int)->IntsAre vs ns:=by
 intro ns
 induction ns with
 | nil =>
  intro vs w
  rw [List.map_nil] at w
  cases w
  exact .nil
 | cons n ns ih =>
  intro vs w
  rw [List.map_cons] at w
  cases w with
  | cons a b =>
   cases a
   exact .cons _ _ (ih _ b)

theorem xt {l:OpenLaw}{n:Nat} (hn:l.most=some n) {P:Params}{h:Heap}{args:List WData}{vals:List Value}
  (hpre:l.row.toRowW.claim.pre args=true) (hwl:WellAll P h vals args) :
  ∃ a vs ns,vals=[Value.ref a]/\args=[WData.list (ns.map WData.int)]/\h.get? a=some { cls:=.type "list",data:=.seq vs.toArray }/\IntsAre vs ns/\ns.length<=n:=by
 have hsh:WShape.hasAll [] args [.list .int]=true:=(pre_splitW hpre).1
 have hc:l.pre.holds [] { args:=args }=true:=(pre_splitW hpre).2
 obtain ⟨d,r,rfl,h1,h2⟩:=hasAllW_cons hsh
 obtain rfl:=hasAllW_nil h2
 obtain ⟨xs,rfl,h3⟩:=hasW_list h1
 obtain ⟨ns,rfl⟩:=items_int h3
 have hlen:ns.length<=n:=by
  unfold OpenLaw.pre at hc
  have h4:(WTm.not (.lt (.lit (.int (n:Int))) (.len (.arg 0)))).holds [] { args:=[.list (ns.map .int)] }=true:=by
   have h4:=(holds_andW hc).1
   rw [hn] at h4
   exact h4
  have h5:=condW_of h4 (w_not (w_lt w_lit (w_len_list (w_arg rfl))))
  rw [List.length_map] at h5
  refine Nat.le_of_not_lt fun q=>?_
  have q':(n:Int) < ((ns.length:Nat):Int):=by omega
  first
   | (rw [decide_eq_true q'] at h5;exact absurd h5 (by decide))
   | (simp at h5;omega)
 cases hwl with
 | cons w1 w2 =>
  cases w2
  cases w1 with
  | list ho hall=>exact ⟨_,_,ns,rfl,rfl,ho,kY ns _ hall,hlen⟩

theorem xm (l:OpenLaw) (args:List WData):l.row.toRowW.claim.post args (.bool true) args=true :=
 postW_of (r:=l.row.toRowW) (X:=(true == true))
  (show WShape.has [] (.bool true) .bool=true by first | rfl | decide | simp [WShape.has,WShape.arms,WShape.armsAll])
  (show (WTm.eq .res (.lit (.bool true))).value [] { args:=args,res:=some (.bool true),after:=args }=some (.bool (true == true)) from w_eq_bool (w_res rfl) w_lit) rfl

theorem qK {l:OpenLaw}{n:Nat}{q:Program}{loose:List Str}{XP:(Str->Option Value)->Heap->Prop}{YP:World->Heap->Prop}{d:DefRec}
  (hn:l.most=some n) (hdf:d.params.defaults=[])
  (call:∀ (w:World) (s₀ s₁:Shared) (mg mb:Str->Option Value) (fa:Addr) (o:Obj) (pm cd doc:Value) (a:Addr) (vs:List Value) (ns:List Int),
   Ground q loose [] XP w s₀ mg mb s₁.heap->YP w s₁.heap →
   s₁.heap.get? fa=some o->o.data=.func (docDef d.name d.params d.body d.scope pm cd doc)->s₁.heap.CodeRec cd d.name->mg d.name=some (.ref fa) →
   s₁.heap.get? a=some { cls:=.type "list",data:=.seq vs.toArray }->IntsAre vs ns->ns.length<=n->s₁.gens=#[] →
   codeAny (model l.prog w) callerA (.call (.ref fa) ⟨[.ref a],[]⟩) (fun r s'=>r=.ok (.ret (.bool true))/\OldK s₁.heap s'.heap/\s'.os=s₁.os/\AllBare s'.gens) s₁) :
  WalkO q loose XP YP l.row.toRowW d [] (fun f vs=>PySem.call f vs):=by
 intro w s₀ s₁ mg mb G Y fa o pm cd doc dV kV ho hd hcd hD hmg hg args vals as hpre hlay hrd hwl hlo
 obtain rfl:dV=.none:=Dflts.none hD hdf
 obtain rfl:kV=.none:=Dflts.noKw hD
 obtain ⟨a,vs,ns,rfl,rfl,hobj,hints,hlen⟩:=xt hn hpre hwl
 refine enter_call (codeAny_mono (call w s₀ s₁ mg mb fa o pm cd doc a vs ns G Y ho (fd_plain hd) hcd hmg hobj hints hlen hg) fun r s' hq=>?_)
 obtain ⟨rfl,h2,h3,h4⟩:=hq
 exact ⟨.inl ⟨.bool true,.bool true,[],rfl,fun _=>rfl,.bool true,xm l _,fun _=>⟨List.Pairwise.nil,fun _ hm=>(nomatch hm)⟩⟩,h2,h3,h4⟩

section
variable {prog:Program}{w:World}{A:Around}{E:Value->Shared->Prop}{s:Shared}{K:Frag}

def ledger (h:Heap) (L d:Addr):List (Addr × Obj):=(List.range h.objs.size).filterMap fun a=>if a=L ∨ a=d then none else (h.get? a).map fun o=>(a,o)
end
end Att

namespace L2
open PySem PySem.Spec PyProof.Rows

theorem oX:∀ {vs:List Value}{ns:List Int},IntsAre vs ns->Vals (ns.map V.int) vs
 | _,_,.nil=>.nil
 | _,_,.cons n t h=>.cons ⟨t,rfl⟩ (oX h)

end L2

namespace L2
open PySem PySem.Spec PyProof.Rows

end L2

namespace L2
open PySem PySem.Spec PyProof.Rows

def inClass (s:Stmt) (j:Nat):Stmt:=match s with
 | .ClassDef _ _ _ body _ _ _ _ _ _ _=>body.getD j (.Pass ⟨0,0,0,0⟩)
 | _=>.Pass ⟨0,0,0,0⟩
def aG (s:Stmt):Arguments:=match s with
 | .FunctionDef _ a _ _ _ _ _ _ _ _=>a
 | _=>{ posonlyargs:=[],args:=[],vararg:=none,kwonlyargs:=[],kw_defaults:=[],kwarg:=none,defaults:=[] }
def az (s:Stmt):List Stmt:=match s with
 | .FunctionDef _ _ b _ _ _ _ _ _ _=>b
 | _=>[]
def ag (s:Stmt):Scope:=match s with
 | .FunctionDef _ _ _ _ _ _ sc _ _ _=>sc
 | _=>{ kind:=.function,names:=[],isGenerator:=false,isCoroutine:=false }

abbrev CX0:CXT:=fun _ _ _ _ _ _=>False
abbrev E0:St->XK:=fun _ _ _ _=>False
structure Fun (K:PySem.W.Frag) (x qual:Str) (st:Stmt) (f:Addr) (fd:FuncData):Prop where
 ex:∃ (oc:Value) (od:Option Addr) (kV doc pm:Value) (an:Option Addr) (cdv ct:Value) (osl:Array (Option Value)),
  fd=PySem.W.fnOf x qual (aG st) (az st) (ag st) .none kV doc pm an cdv ct/\K.lookup f=some ⟨oc,od,.func fd,osl⟩/\PySem.W.codeIn K cdv qual=true
 kp:PySem.W.keepIn K (.ref f)=true
section
variable {P:Program}{w:World}{K:PySem.W.Frag}{mg:Str->Option Value}{base:Heap}
theorem Fun.ok {x qual:Str}{st:Stmt}{f:Addr}{fd:FuncData}{N ps:List Str}{k:Nat}{sp:Sp} (F:Fun K x qual st f fd) (S:aD N ps (ag st)) (len:∀ vs H Q E,sp vs H Q E->vs.length=ps.length)
  (hbody:∀ (cdv:Value) (A:Around) (outer:List Env) (s:Shared) (H:Hp) (vs:List V) (Q:VK) (E:XK),bq k (A.deeper (envOfC qual (ag st) s.heap.objs.size f cdv))->sp vs H Q E →
   ∃ t,PSs (iq CX0 P w K mg base N qual (ag st) f cdv A outer s H E).nox (az st) t/\t { nx:=fun _ H'=>Q .non H',rt:=Q } (start N vs) H):aW P w K mg base CX0 (k + 1) f fd ps sp:=by
 obtain ⟨oc,od,kV,doc,pm,an,cdv,ct,osl,rfl,lk,hcd⟩:=F.ex
 refine rg lk hcd S len fun A outer s H vs Q E hr hsp=>?_
 obtain ⟨t,h,q⟩:=hbody cdv A outer s H vs Q E hr hsp
 exact ⟨t,h.nox,q⟩
theorem Fun.binds {x qual:Str}{st:Stmt}{f:Addr}{fd:FuncData}{ps:List Str} (F:Fun K x qual st f fd)
  (h:∀ (kV doc pm:Value) (an:Option Addr) (cdv ct:Value) (us:List Value),us.length=ps.length->bindArgs (PySem.W.fnOf x qual (aG st) (az st) (ag st) .none kV doc pm an cdv ct) ⟨us,[]⟩=pure (ps.zip us)):Binds K fd ps []:=by
 obtain ⟨oc,od,kV,doc,pm,an,cdv,ct,osl,rfl,lk,hcd⟩:=F.ex
 exact .all (h kV doc pm an cdv ct)
theorem aN {x qual:Str}{st:Stmt}{f:Addr}{oc:Value}{od an:Option Addr}{osl:Array (Option Value)}{kV doc pm cdv ct:Value} (l:K.lookup f=some ⟨oc,od,.func (PySem.W.fnOf x qual (aG st) (az st) (ag st) .none kV doc pm an cdv ct),osl⟩)
  (c:PySem.W.codeIn K cdv qual=true) (k:PySem.W.keepIn K (.ref f)=true):Fun K x qual st f (PySem.W.fnOf x qual (aG st) (az st) (ag st) .none kV doc pm an cdv ct):=⟨⟨oc,od,kV,doc,pm,an,cdv,ct,osl,rfl,l,c⟩,k⟩
end
theorem aZ {A:Around}{k:Nat} (hr:bq k A):A.units + 1 < cLine:=Nat.lt_of_le_of_lt (Nat.add_le_add_left (by decide:1<=64) _) hr.units
section
variable {X:Cx}
theorem pv (i:Nat) {x:Str}{pos:Pos} (hN:X.N[i]?=some x:=by rfl) (hv:Vis X.env.scope x:=by first | exact Or.inl rfl | exact Or.inr (Or.inl rfl) | exact Or.inr (Or.inr rfl)) (hd:(x == ("__debug__":Str))=false:=by decide)
  (hcd:(x == ("__classdict__":Str))=false:=by decide):PE X (.Name x pos) (nv i):=qf hN hv hd hcd
end

def ao (H H':Hp):Prop:=∀ b o,H b=some o->H' b=some o
theorem ao.refl (H:Hp):ao H H:=fun _ _ h=>h
theorem ao.trans {H H1 H2:Hp} (a:ao H H1) (b:ao H1 H2):ao H H2:=fun c o h=>b c o (a c o h)
theorem ao.free {H H':Hp} (e:ao H H') {l:Addr} (h:H' l=Option.none):H l=Option.none:=by
 cases q:H l with
 | none=>rfl
 | some o =>
  rw [e l o q] at h
  cases h
theorem ao.seq {K:PySem.W.Frag}{H H':Hp}{a:Addr}{xs:List V} (e:ao H H') (h:SqL K H a xs):SqL K H' a xs:=by
 rcases h with (h | ⟨o,h⟩) | h
 ·exact .inl (.inl (e _ _ h))
 ·exact .inl (.inr ⟨o,e _ _ h⟩)
 ·exact .inr h

end L2

namespace L2
open PySem PySem.Spec PyProof.Rows
section
variable {κ:Type} [DecidableEq κ]
theorem pJ:∀ {l:List κ}{k:κ},l.Nodup->¬ k∈l->(l++[k]).Nodup
 | [],k,_,_=>by simp
 | a::r,k,h,hk=>by
  obtain ⟨h1,h2⟩:=List.nodup_cons.mp h
  show (a::(r++[k])).Nodup
  refine List.nodup_cons.mpr ⟨fun m=>?_,pJ h2 fun m=>hk (List.mem_cons.mpr (Or.inr m))⟩
  rcases List.mem_append.mp m with q | q
  ·exact h1 q
  ·exact hk (List.mem_cons.mpr (Or.inl (List.mem_singleton.mp q).symm))
end
end L2
namespace L2
open PySem PySem.Spec PyProof.Rows
structure cJ (k:Nat) (A:Around):Prop where
 dp:A.depth + 3 * k + 5 < recursionLimit
 un:A.units + 16 * k + 200 < cLine
theorem cJ.mono {j k:Nat}{A:Around} (r:cJ k A) (h:j<=k):cJ j A:=⟨by have:=r.dp;omega,by have:=r.un;omega⟩
theorem cJ.deeper {k:Nat}{A:Around} (r:cJ (k + 1) A) (env:Env):cJ k (A.deeper env):=⟨by have:=r.dp;show A.depth + 1 + 3 * k + 5 < _;omega,by have:=r.un;show A.units + 3 + 16 * k + 200 < _;omega⟩
theorem cJ.depth {k:Nat}{A:Around} (r:cJ k A):A.depth < recursionLimit:=by have:=r.dp;omega
theorem cJ.aM {k:Nat}{A:Around} (r:cJ k A):A.units < cLine:=by have:=r.un;omega
theorem cJ.Dz {k:Nat}{A:Around} (r:cJ k A):A.units + 1 < cLine:=by have:=r.un;omega
theorem bq.n {k:Nat}{A:Around} (r:bq k A):cJ k A:=⟨r.dp,r.un⟩
structure kz (P:Program) (w:World) (K:PySem.W.Frag) (mg:Str->Option Value) (base:Heap) (CX:CXT) (k:Nat) (f:Addr) (fd:FuncData) (ps:List Str) (sp:Sp):Prop where
 len:∀ vs H Q E,sp vs H Q E->vs.length=ps.length
 run:∀ (A:Around) (outer:List Env) (s:Shared) (H:Hp) (args:Args) (us:List Value) (vs:List V) (Q:VK) (E:XK),cJ k A->jq P w K mg base A outer s H->BindsTo s fd args (ps.zip us)->Vals vs us->sp vs H Q E →
  codeAny (model P w) A (.call (.ref f) args) (CR CX outer P w H s Q E) s
def nU (CX:CXT) (P:Program) (w:World) (K:PySem.W.Frag) (mg:Str->Option Value) (base:Heap) (N:List Str) (qual:Str) (scope:Scope) (f:Addr) (cd:Value) (A:Around) (outer:List Env) (s:Shared) (H:Hp) (E:XK):Cx where
 prog:=P
 w:=w
 K:=K
 mg:=mg
 base:=base
 A:=A.deeper (envOfC qual scope s.heap.objs.size f cd)
 N:=N
 s₀:=s
 H₀:=H
 env:=envOfC qual scope s.heap.objs.size f cd
 outer:=outer
 stack:=envOfC qual scope s.heap.objs.size f cd::outer
 ex:=[]
 calm:=false
 fn:=fun _=>true
 pn:=[]
 xe:=fun e s'=>wpAny (model P w) (A.deeper (envOfC qual scope s.heap.objs.size f cd)) (leaving (envOfC qual scope s.heap.objs.size f cd) e) (fun _ s''=>CX outer H s E e s'') (fun e' s''=>CX outer H s E e' s'') s'

theorem sY {CX:CXT}{P:Program}{w:World}{K:PySem.W.Frag}{mg:Str->Option Value}{base:Heap}{N ps:List Str}{qual:Str}{scope:Scope}{f:Addr}{cd:Value}{A:Around}{outer:List Env}{s s1:Shared}{H:Hp}{E:XK}{us:List Value}{vs:List V}
  (S:aD N ps scope) (e0:jq P w K mg base A outer s H) (hl:vs.length=ps.length) (r:Vals vs us)
  (x:InCallC s s.heap.objs.size (bindL (envOfC qual scope s.heap.objs.size f cd).kindOf (ps.zip us) fun _=>none) (cellsFrom (s.heap.objs.size + 1) scope.names []) (bindC (envOfC qual scope s.heap.objs.size f cd).kindOf (ps.zip us) fun _=>none) s1) :
  Inv (nU CX P w K mg base N qual scope f cd A outer s H E) [] (start N vs) H s1:=by
 have hpl:ps.length<=N.length:=by have:=congrArg List.length S.pre;rw [List.length_take] at this;omega
 obtain ⟨h1,tk,rfl,hk⟩:=x.done
 have noA:∀ b:Addr,b ∉ (nU CX P w K mg base N qual scope f cd A outer s H E).ex:=fun b z=>absurd (show b∈([]:List Addr) from z) (by simp)
 refine ⟨⟨e0.mod,S.kind,rfl,rfl,Nat.le_refl _,fun y z c h1 h2=>?_,fun y hy=>?_,fun y c _ h=>?_,(fun z=>by cases z),Around.frames_deeper e0.frames,.inr ⟨rfl,rfl⟩,fun b z=>absurd z (noA b),e0.bs,e0.bsz,fun b _ _=>noA b,fun b z=>absurd z (noA b),e0.ik,e0.frf⟩,
  rfl,e0.bare,Un.kept hk,⟨_,x.toInCall.ns,fun i y v h1 h2 h3=>?_⟩,fun y c h=>⟨_,x.cell y c h⟩,e0.hok.fresh (Nat.le_refl _),fun y c h=>?_,fun p hp=>absurd (show p∈([]:List (Addr × Obj)) from hp) (by simp),e0.hok.kept hk,?_⟩
 ·exact name_of_addr x.apart (PySem.mem_of_lookup h1) (PySem.mem_of_lookup h2)
 ·have hy:scope.names.lookup y=some .cell ∨ scope.names.lookup y=some .free:=hy
  rcases hy with hy | hy
  ·exact ju hy
  ·exact absurd rfl (S.nofree _ (PySem.mem_of_lookup hy))
 ·exact Nat.le_of_lt (x.above y c (PySem.mem_of_lookup h))
 ·have hi:i < vs.length:=by
   unfold start at h2
   by_cases hi:i < vs.length
   ·exact hi
   ·rw [List.getElem?_append_right (by simpa using hi)] at h2
    rw [List.getElem?_replicate] at h2
    split at h2 <;> cases h2
  have ha:vs[i]?=some v:=by
   unfold start at h2
   rw [List.getElem?_append_left (by simpa using hi),List.getElem?_map] at h2
   cases e:vs[i]? with
   | none=>rw [e] at h2;cases h2
   | some a=>rw [e] at h2;cases h2;rfl
  obtain ⟨u,hu,rv⟩:=r.get ha
  have hp:ps[i]?=some y:=by
   rw [← S.pre,List.getElem?_take_of_lt (by omega)];exact h1
  have ndP:ps.Nodup:=by rw [← S.pre];exact S.nd.sublist (List.take_sublist _ _)
  refine ⟨u,rv,?_⟩
  rcases S.par y (List.mem_of_getElem? hp) with k | k
  ·exact .inl ⟨k,kb ndP hp hu k⟩
  ·obtain ⟨c,e⟩:=ju (n:=s.heap.objs.size + 1) k
   refine .inr ⟨.inl k,c,e,?_⟩
   have q:=x.cell y c e
   rw [ka ndP hp hu (by show scope.names.lookup y≠_;rw [k];decide)] at q
   exact q
 ·exact e0.hok.fresh (Nat.le_of_lt (x.above y c (PySem.mem_of_lookup h)))
 ·unfold start
  show _=N.length
  rw [List.length_append,List.length_map,List.length_replicate]
  omega

theorem Cq {CX:CXT}{P:Program}{w:World}{K:PySem.W.Frag}{mg:Str->Option Value}{base:Heap}{k:Nat}{f:Addr}{name qual:Str}{params:Arguments}{body:List Stmt}{scope:Scope}{dV kV doc pm cdv ct oc:Value}{an od:Option Addr}
  {osl:Array (Option Value)}{N ps:List Str}{sp:Sp} (lk:K.lookup f=some ⟨oc,od,.func (PySem.W.fnOf name qual params body scope dV kV doc pm an cdv ct),osl⟩) (hcd:PySem.W.codeIn K cdv qual=true) (S:aD N ps scope)
  (len:∀ vs H Q E,sp vs H Q E->vs.length=ps.length)
  (hbody:∀ (A:Around) (outer:List Env) (s:Shared) (H:Hp) (vs:List V) (Q:VK) (E:XK),cJ k (A.deeper (envOfC qual scope s.heap.objs.size f cdv))->sp vs H Q E →
   ∃ t,PSs (nU CX P w K mg base N qual scope f cdv A outer s H E) body t/\t { nx:=fun _ H'=>Q .non H',rt:=Q } (start N vs) H) :
  kz P w K mg base CX (k + 1) f (PySem.W.fnOf name qual params body scope dV kV doc pm an cdv ct) ps sp:=by
 refine ⟨len,fun A outer s H args us vs Q E hr e0 hb r hsp=>?_⟩
 have hl:=len _ _ _ _ hsp
 have KX:K.In s.heap:=e0.mod.kin.keeps fun b o e=>(e0.bs b o e).1
 have lim:s.heap.NoLimit:=e0.mod.nolimit.keeps fun b o e=>(e0.bs b o e).1
 have hkind:∀ y∈ps.zip us,scope.names.lookup y.1=some .local ∨ (scope.names.lookup y.1=some .cell/\((cellsFrom (s.heap.objs.size + 1) scope.names []).lookup y.1).isSome=true):=fun ⟨n,v⟩ hy=>by
  rcases S.par n (List.of_mem_zip hy).1 with q | q
  ·exact .inl q
  ·exact .inr ⟨q,PySem.W.cellsFrom_some _ _ _ (.inl q)⟩
 refine codeAny_call_function hr.depth (KX _ _ lk) rfl S.co S.gen rfl (PySem.W.codeRec_of KX hcd) (hb _ _ _ _ ?_)
 refine wpAny_newFunctionEnv_cells S.kind hkind fun env he s1 x=>?_
 subst he
 refine ⟨lim.keeps x.toInCall.keep,codeAny_func ?_⟩
 obtain ⟨t,ht,hq⟩:=hbody A outer s H vs Q E (hr.deeper _) hsp
 have I:Inv (nU CX P w K mg base N qual scope f cdv A outer s H E) [] (start N vs) H s1:=sY S e0 hl r x
 refine wpAny_mono (ht [] s1 (start N vs) H _ I hq) (fun fl s' hs=>?_) fun e s' hs=>hs
 have fin:∀ {σ':St}{H':Hp}{v:V}{u:Value},Inv (nU CX P w K mg base N qual scope f cdv A outer s H E) [] σ' H' s'->RelV v u->Q v H'->CE outer P w H s Q u s' :=
  fun {σ' H' v u} J rv q=>⟨v,H',J.os,J.bare,J.base,J.hok,rv,q⟩
 cases fl with
 | ret u =>
  obtain ⟨v,σ',H',J,rv,q⟩:=hs
  exact fin J rv q
 | next =>
  obtain ⟨σ',H',J,q⟩:=hs
  exact fin (v:=V.non) (u:=Value.none) J rfl q
 | brk =>
  obtain ⟨_,_,_,q⟩:=hs
  exact False.elim q
 | cont =>
  obtain ⟨_,_,_,q⟩:=hs
  exact False.elim q
section
variable {X:Cx}{CX:CXT}{k:Nat}{f C:Addr}{fd:FuncData}{ps:List Str}{sp:Sp}{dvs:List V}{ds:List Value}{E:St->XK}{x m:Str}{p pos apos:Pos}{e o:Expr}{es:List Expr}{ta:TE}{t:TA}
theorem AU {pins:List (Addr × Obj)}{σ:St}{H:Hp}{s:Shared}{Q:VK}{us:List Value}{vs:List V} (F:kz X.prog X.w X.K X.mg X.base CX k f fd ps sp) (hr:cJ k X.A) (hb:Binds X.K fd ps ds) (hd:Vals dvs ds) (hx:Passes CX X E)
  (I:Inv X pins σ H s) (r:Vals vs us) (h:sp (vs++dvs) H Q (E σ)):wpAny (model X.prog X.w) X.A (call (.ref f) us) (EP X pins σ Q) X.xe s:=by
 have r2:Vals (vs++dvs) (us++ds):=r.append hd
 have hl:(us++ds).length=ps.length:=by rw [← r2.length];exact F.len _ _ _ _ h
 refine wpAny_call (codeAny_mono (F.run X.A X.stack s H ⟨us,[]⟩ (us++ds) (vs++dvs) Q (E σ) hr I.wB (hb s us I.kIn hl) r2 h) fun r s' hq=>?_)
 cases r with
 | error e=>exact hx pins σ H s e s' I hq
 | ok fl =>
  cases fl with
  | ret u=>exact I.after hq
  | next=>exact False.elim hq
  | brk=>exact False.elim hq
  | cont=>exact False.elim hq

theorem yX (F:kz X.prog X.w X.K X.mg X.base CX k f fd ps sp) (hr:cJ k X.A) (hg:Gl X x) (hm:X.mg x=some (.ref f)) (hk:PySem.W.keepIn X.K (.ref f)=true) (hb:Binds X.K fd ps ds) (hd:Vals dvs ds) (hx:Passes CX X E)
  (ha:PA X (e::es) t) (hdb:(x == ("__debug__":Str))=false:=by decide) (he:starEach (e::es) X.env=(false,eval e X.env)::starEach es X.env:=by rfl) (hpl:(backTo pos (starEach es X.env)).any (·.1)=false:=by rfl) :
  PE X (.Call (.Name x p) (e::es) [] pos) (oU sp dvs E t):=by
 intro pins s σ H Q I h
 refine wpAny_Call_Name_kw (eP I hg hm ?_ hdb)
 refine PySem.W.callWith_K (h₀:=X.base) I.ok.mod.kin hk (thn (ha pos pins s σ H _ I h) fun us s1 ⟨vs,H1,I1,r,q⟩=>⟨I1.kIn,?_⟩) he hpl
 exact AU F hr hb hd hx I1 r q
end
end L2
set_option Elab.async false
set_option linter.all false
set_option maxRecDepth 100000
set_option maxHeartbeats 4000000
set_option exponentiation.threshold 2000
namespace Mk
def cop (m n:Int):Bool:=decide (Int.gcd n m=1)
def dif (ws:List Int):List Int:=(ws.zip (ws.drop 1)).map fun p=>p.2 - p.1
def safe (m:Int) (ws:List Int):Bool:=(ws++dif ws).all (cop m)
theorem rY {m:Int}{ws:List Int}:safe m ws=true ↔ (∀ w∈ws,cop m w=true)/\∀ (j:Nat) a b,ws[j]?=some a->ws[j + 1]?=some b->cop m (b - a)=true:=by
 unfold safe
 rw [List.all_append,Bool.and_eq_true,List.all_eq_true,List.all_eq_true]
 refine and_congr Iff.rfl ⟨fun h j a b ha hb=>?_,fun h x hx=>?_⟩
 ·refine h (b - a) (List.mem_map.mpr ⟨(a,b),?_,rfl⟩)
  refine List.mem_of_getElem? (i:=j) ?_
  rw [List.getElem?_zip_eq_some]
  exact ⟨ha,by rw [List.getElem?_drop,Nat.add_comm];exact hb⟩
 ·unfold dif at hx
  obtain ⟨⟨a,b⟩,hp,rfl⟩:=List.mem_map.mp hx
  obtain ⟨j,hj⟩:=List.getElem?_of_mem hp
  rw [List.getElem?_zip_eq_some] at hj
  exact h j a b hj.1 (by have:=hj.2;rw [List.getElem?_drop,Nat.add_comm] at this;exact this)
def big:Int:=314159265358979323846264338327950288419716939937510582097494
def ofN (n:Nat):List Int:=(List.range n).map fun (k:Nat)=>(k:Int)
theorem Au (n:Nat):(ofN n).length=n:=by simp [ofN]
theorem iI {n:Nat}{x:Int}:x∈ofN n ↔ 0<=x/\x < n:=by
 unfold ofN
 rw [List.mem_map]
 constructor
 ·rintro ⟨k,hk,rfl⟩
  have:=List.mem_range.mp hk
  omega
 ·rintro ⟨h1,h2⟩
  exact ⟨x.toNat,List.mem_range.mpr (by omega),by omega⟩
def wj (m:Int) (found:List Int):List Int:=(ofN m.toNat).filter fun w=>cop m w && (found.isEmpty || cop m (w - found.getLastD 0))
def DS (m:Int) (found:List Int):List Int:=if wj m found=[] then ofN m.toNat else wj m found
def Ca (m:Int):Nat->Int->List Int->List Int
 | 0,_,found=>found
 | n + 1,c,found=>Ca m n (c / 7) (found++[(DS m found).getD (c % ((DS m found).length:Int)).toNat 0])
def wts (c m:Int) (n:Nat):List Int:=Ca m n c []
def DD (m:Int):Nat->Int->List Int
 | 0,_=>[]
 | n + 1,c=>c % m::DD m n (c / 31)
def w1 (n m:Int):List Int:=wts (n / 100) m (3 + n % 6).toNat
def w2 (n m:Int):List Int:=if n / 6 % 4=1 then (w1 n m).set (n / 24 % ((w1 n m).length:Int)).toNat (n / 200 % m) else w1 n m
def w3 (n m:Int):List Int:=if n / 6 % 4=2 then DD m (w2 n m).length (n / 100) else w2 n m
def w4 (n m:Int):List Int:=if n / 6 % 4=3/\n / 24 % 2=1 then List.replicate (w3 n m).length (n / 48 % m) else w3 n m
def D7 (k:Nat):Int:=if k % 2=0 then 1 else 2
def alt (n:Nat):List Int:=(List.range n).map D7
theorem wo:∀ m:Nat,m < 27->3<=m->cop (m:Int) 0=false/\cop (m:Int) 1=true/\cop (m:Int) (-1)=true/\cop (m:Int) 2=decide (m % 2=1):=by decide +kernel
def fits (m:Int) (ws:List Int):List Int:=(ofN m.toNat).filter fun w=>safe m (ws.drop (ws.length - 1)++[w])
end Mk

namespace Mk
def dot:List Int->List Int->Int
 | a::r,b::t=>a * b + dot r t
 | _,_=>0
def good (m:Int) (ws:List Int) (r:Int) (ps:List Int):Bool:=decide ((dot ws ps - r) % m=0)
def BM (al:List Nat) (ps:List Int):List Nat:=ps.map fun p=>al.getD p.toNat 0
theorem oR (al:List Nat) (ps:List Int):(BM al ps).length=ps.length:=by simp [BM]
theorem getD_at {al:List Nat}{p:Int} (h:0<=p/\p < al.length):al[p.toNat]?=some (al.getD p.toNat 0):=by
 rw [List.getD_eq_getElem?_getD,List.getElem?_eq_getElem (by omega)];rfl
theorem getD_mem {al:List Nat}{p:Int} (h:0<=p/\p < al.length):al.getD p.toNat 0∈al:=List.mem_of_getElem? (getD_at h)
end Mk

namespace Mk
end Mk

namespace Mk
theorem xq {m x:Int}{l:List Int} (h:safe m l=true) (hx:cop m x=true) (hl:l=[] ∨ cop m (x - l.getLastD 0)=true):safe m (l++[x])=true:=by
 rw [rY] at h ⊢
 refine ⟨fun w hw=>?_,fun j a b ha hb=>?_⟩
 ·rcases List.mem_append.mp hw with hw | hw
  ·exact h.1 w hw
  ·rw [List.mem_singleton.mp hw];exact hx
 ·by_cases h1:j + 1 < l.length
  ·rw [List.getElem?_append_left (by omega)] at ha
   rw [List.getElem?_append_left h1] at hb
   exact h.2 j a b ha hb
  ·have hj:=(List.getElem?_eq_some_iff.mp hb).1
   rw [List.length_append,List.length_singleton] at hj
   have e:j + 1=l.length:=by omega
   rw [List.getElem?_append_left (by omega)] at ha
   rw [List.getElem?_append_right (by omega),e,Nat.sub_self] at hb
   have hne:l≠[]:=fun e2=>by rw [e2] at e;simp at e
   have e3:l.getLastD 0=a:=by
    rw [List.getLastD_eq_getLast?,List.getLast?_eq_getElem?,show l.length - 1=j by omega,ha];rfl
   have e4:x=b:=by simpa using hb
   subst e4
   rw [← e3]
   exact hl.resolve_left hne
theorem yP:∀ m:Nat,m < 27->3<=m->m % 2=1->∀ w:Nat,w < m->cop (m:Int) (w:Int)=true->(cop (m:Int) (((2 * w) % m:Nat):Int) && cop (m:Int) ((((2 * w) % m:Nat):Int) - (w:Int)))=true:=by decide +kernel
theorem xY {m:Int} (h3:3<=m) (h26:m<=26) (ho:m % 2=1) {l:List Int} (hb:∀ x∈l,0<=x/\x < m) (hc:∀ x∈l,cop m x=true):wj m l≠[]:=by
 obtain ⟨M,rfl⟩:=Int.eq_ofNat_of_zero_le (show 0<=m by omega)
 intro e
 unfold wj at e
 rw [List.filter_eq_nil_iff] at e
 by_cases hl:l=[]
 ·subst hl
  exact e 1 (iI.mpr ⟨by decide,by omega⟩) (by rw [(wo M (by omega) (by omega)).2.1];rfl)
 ·have hm:l.getLastD 0∈l:=by
   rw [List.getLastD_eq_getLast?,List.getLast?_eq_some_getLast hl]
   exact List.getLast_mem hl
  have h1:=hb _ hm
  have h2:=hc _ hm
  generalize l.getLastD 0=w at e h1 h2
  obtain ⟨W,rfl⟩:=Int.eq_ofNat_of_zero_le h1.1
  have h4:=yP M (by omega) (by omega) (by omega) W (by omega) h2
  rw [Bool.and_eq_true] at h4
  refine e (((2 * W) % M:Nat):Int) (iI.mpr ⟨by omega,?_⟩) ?_
  ·have:=Nat.mod_lt (2 * W) (show 0 < M by omega)
   omega
  ·rw [h4.1,h4.2,Bool.or_true];rfl
section
variable {m r k:Int}{ws:List Int} (h0:0 < m) (h26:m<=26) (hm:∀ x∈ws,0<=x/\x < m) (hs:safe m ws=true) (hl:1<=ws.length)
include h0 h26 hm hs hl
omit h26 hm hs hl in
end
end Mk

namespace L2
open PySem PySem.Spec PyProof.Rows
def clo (cells:List (Str × Addr)):List (Str × NameKind)->List (Str × Addr)->Option (List (Str × Addr))
 | [],acc=>some acc
 | (n,k)::r,acc=>if k == .free then (match cells.lookup n with | some c=>clo cells r ((n,c)::acc) | none=>none) else clo cells r acc
theorem lJ {env:Env}:∀ (names:List (Str × NameKind)) (acc cl:List (Str × Addr)),clo env.cells names acc=some cl →
  (forIn names acc fun (x:Str × NameKind) (cs:List (Str × Addr))=>(if x.2 == .free then do let c ← cellOf env x.1;pure (ForInStep.yield ((x.1,c)::cs)) else pure (ForInStep.yield cs):Sem (ForInStep (List (Str × Addr)))))=pure cl
 | [],acc,cl,h=>by
  have e:acc=cl:=Option.some.inj h
  subst e;rfl
 | (n,k)::r,acc,cl,h=>by
  rw [List.forIn_cons]
  unfold clo at h
  by_cases hk:(k == NameKind.free)=true
  ·rw [if_pos hk] at h
   cases hc:env.cells.lookup n with
   | none=>rw [hc] at h;cases h
   | some c =>
    rw [hc] at h
    have ih:=lJ (env:=env) r ((n,c)::acc) cl h
    have e1:cellOf env n=pure c:=by unfold cellOf;rw [hc]
    simp only [hk,if_true,e1,pure_bind]
    exact ih
  ·rw [if_neg hk] at h
   have ih:=lJ (env:=env) r acc cl h
   simp only [hk,if_false,pure_bind,Bool.false_eq_true]
   exact ih
theorem fM {scope:Scope}{env:Env}{cl:List (Str × Addr)} (h:clo env.cells scope.names []=some cl):closureFor scope env=pure cl:=by
 have e:=lJ (env:=env) scope.names [] cl h
 unfold closureFor
 simp only [bind_pure]
 first
  | exact e
  | (simp only [bind_pure_comp,map_pure] at e ⊢;exact e)
  | (rw [show (fun (x:Str × NameKind) (r:List (Str × Addr))=>_)=_ from rfl];exact e)
theorem jv {cells:List (Str × Addr)}:∀ (names:List (Str × NameKind)) (acc cl:List (Str × Addr)),clo cells names acc=some cl →
  (∀ x c,acc.lookup x=some c->cells.lookup x=some c)->∀ x c,cl.lookup x=some c->cells.lookup x=some c
 | [],acc,cl,h,ha=>by
  have e:acc=cl:=Option.some.inj h
  subst e;exact ha
 | (n,k)::r,acc,cl,h,ha=>by
  unfold clo at h
  by_cases hk:(k == NameKind.free)=true
  ·rw [if_pos hk] at h
   cases hc:cells.lookup n with
   | none=>rw [hc] at h;cases h
   | some c =>
    rw [hc] at h
    refine jv r ((n,c)::acc) cl h fun x c' e=>?_
    rw [List.lookup_cons] at e
    by_cases hx:(x == n)=true
    ·rw [hx] at e
     have e':c=c':=Option.some.inj e
     subst e'
     have:x=n:=eq_of_beq hx
     subst this;exact hc
    ·rw [Bool.not_eq_true] at hx
     rw [hx] at e
     exact ha x c' e
  ·rw [if_neg hk] at h
   exact jv r acc cl h ha
theorem lI {cells:List (Str × Addr)}:∀ (names:List (Str × NameKind)) (acc cl:List (Str × Addr)),clo cells names acc=some cl->∀ x,(∃ c,acc.lookup x=some c)->∃ c,cl.lookup x=some c
 | [],acc,cl,h,x,hx=>by
  have e:acc=cl:=Option.some.inj h
  subst e;exact hx
 | (n,k)::r,acc,cl,h,x,hx=>by
  unfold clo at h
  by_cases hk:(k == NameKind.free)=true
  ·rw [if_pos hk] at h
   cases hc:cells.lookup n with
   | none=>rw [hc] at h;cases h
   | some c =>
    rw [hc] at h
    refine lI r ((n,c)::acc) cl h x ?_
    rw [List.lookup_cons]
    by_cases hxn:(x == n)=true
    ·rw [hxn];exact ⟨c,rfl⟩
    ·rw [Bool.not_eq_true] at hxn
     rw [hxn];exact hx
  ·rw [if_neg hk] at h
   exact lI r acc cl h x hx
theorem iG {cells:List (Str × Addr)}:∀ (names:List (Str × NameKind)) (acc cl:List (Str × Addr)),clo cells names acc=some cl->∀ x,(x,NameKind.free)∈names->∃ c,cl.lookup x=some c
 | [],_,_,_,x,hx=>by cases hx
 | (n,k)::r,acc,cl,h,x,hx=>by
  unfold clo at h
  by_cases hk:(k == NameKind.free)=true
  ·rw [if_pos hk] at h
   cases hc:cells.lookup n with
   | none=>rw [hc] at h;cases h
   | some c =>
    rw [hc] at h
    rcases List.mem_cons.mp hx with e | hx
    ·have e1:x=n:=congrArg Prod.fst e
     subst e1
     exact lI r ((x,c)::acc) cl h x ⟨c,by rw [List.lookup_cons,beq_self_eq_true]⟩
    ·exact iG r _ cl h x hx
  ·rw [if_neg hk] at h
   rcases List.mem_cons.mp hx with e | hx
   ·cases e
    exact absurd (by rfl) hk
   ·exact iG r acc cl h x hx
theorem gW {env:Env}:∀ {names:List (Str × NameKind)}{x:Str}{k':NameKind},
  (names.map fun (n,k)=>if (k == NameKind.free && env.scope.kind == .function && env.kindOf n == some .cell) then (n,NameKind.cell) else (n,k)).lookup x=some k'->(x,k')∈names ∨ (k'=.cell/\(x,NameKind.free)∈names)
 | [],_,_,h=>by cases h
 | (n,k)::r,x,k',h=>by
  have ih:=@gW env r x k'
  by_cases hc:(k == NameKind.free && env.scope.kind == .function && env.kindOf n == some .cell)=true
  ·have h2:(((n,NameKind.cell)::(r.map fun (n,k)=>if (k == NameKind.free && env.scope.kind == .function && env.kindOf n == some .cell) then (n,NameKind.cell) else (n,k))).lookup x)=some k':=by
    rw [← h,List.map_cons];simp only [hc,if_true]
   rw [List.lookup_cons] at h2
   by_cases hx:(x == n)=true
   ·rw [hx] at h2
    have e:NameKind.cell=k':=Option.some.inj h2
    have e2:x=n:=eq_of_beq hx
    have e3:k=.free:=by
     simp only [Bool.and_eq_true] at hc
     exact eq_of_beq hc.1.1
    subst e e2 e3
    exact .inr ⟨rfl,List.mem_cons_self⟩
   ·rw [Bool.not_eq_true] at hx
    rw [hx] at h2
    rcases ih h2 with q | ⟨e,q⟩
    ·exact .inl (List.mem_cons_of_mem _ q)
    ·exact .inr ⟨e,List.mem_cons_of_mem _ q⟩
  ·have h2:(((n,k)::(r.map fun (n,k)=>if (k == NameKind.free && env.scope.kind == .function && env.kindOf n == some .cell) then (n,NameKind.cell) else (n,k))).lookup x)=some k':=by
    rw [← h,List.map_cons];simp only [hc,if_false,Bool.false_eq_true]
   rw [List.lookup_cons] at h2
   by_cases hx:(x == n)=true
   ·rw [hx] at h2
    have e:k=k':=Option.some.inj h2
    have e2:x=n:=eq_of_beq hx
    subst e e2
    exact .inl List.mem_cons_self
   ·rw [Bool.not_eq_true] at hx
    rw [hx] at h2
    rcases ih h2 with q | ⟨e,q⟩
    ·exact .inl (List.mem_cons_of_mem _ q)
    ·exact .inr ⟨e,List.mem_cons_of_mem _ q⟩
abbrev Cx.blk (X:Cx) (N':List Str) (scope:Scope) (cl:List (Str × Addr)) (C:Addr) (s₀:Shared) (H₀:Hp) (ex:List Addr):Cx :=
 { X with N:=N',s₀:=s₀,H₀:=H₀,env:=compEnvC scope cl C X.env,outer:=X.stack,stack:=X.stack,ex:=ex,fn:=fun _=>false,pn:=[],xe:=fun _ _=>False }
inductive lE (X:Cx):List Str->List Nat->Prop
 | nil:lE X [] []
 | cons {x:Str}{j:Nat}{xs:List Str}{js:List Nat}:X.N[j]?=some x->(X.env.kindOf x=some .cell ∨ X.env.kindOf x=some .free)->lE X xs js->lE X (x::xs) (j::js)
theorem lE.get {X:Cx}:∀ {xs:List Str}{js:List Nat}{i:Nat}{x:Str},lE X xs js->xs[i]?=some x->∃ j,js[i]?=some j/\X.N[j]?=some x/\(X.env.kindOf x=some .cell ∨ X.env.kindOf x=some .free)
 | _,_,_,_,.nil,e=>by simp at e
 | _,_,0,_,.cons a b _,e=>by simp at e;subst e;exact ⟨_,rfl,a,b⟩
 | _,_,i + 1,x,.cons _ _ t,e=>by
  obtain ⟨j,h1,h2⟩:=lE.get (i:=i) (x:=x) t (by simpa using e)
  exact ⟨j,by simpa using h1,h2⟩
theorem lE.len {X:Cx}:∀ {xs:List Str}{js:List Nat},lE X xs js->xs.length=js.length
 | _,_,.nil=>rfl
 | _,_,.cons _ _ t=>by rw [List.length_cons,List.length_cons,t.len]
def fL (k:Nat) (js:List Nat) (σ:St):St:=List.replicate k none++js.map fun j=>(σ[j]?).join
def PIf (X:Cx) (ifs:List Expr) (t:TT):Prop :=
 ∀ (pins:List (Addr × Obj)) (s:Shared) (σ:St) (H:Hp) (Q:Bool->Hp->Prop),Inv X pins σ H s->t σ H Q →
  wpAny (model X.prog X.w) X.A (forIn ifs true fun c r=>if r=true then do let ok ← isTrue c X.env (eval c X.env);pure (ForInStep.yield ok) else pure (ForInStep.yield r)) (TP X pins σ Q) X.xe s
def xv:TT:=fun _ H Q=>Q true H
theorem fq {X:Cx}:PIf X [] xv:=fun _ _ _ H _ I h=>wpAny_tests_nil ⟨H,I,h⟩
theorem lC {X:Cx}{c:Expr}{t:TT} (h:PT X c t):PIf X [c] t:=fun pins s σ H Q I q=>wpAny_tests_one (h pins s σ H Q I q)
section
variable {prog:Program}{w:World}{A:Around}{R:Result->Shared->Prop}{s:Shared}
theorem qN {elt target iter:Expr}{ifs:List Expr}{scope:Scope}{pos:Pos}{it acc:Value}{env:Env} (I:Nat->Shared->Prop)
  (turn:∀ n s,I n s->wpAny (model prog w) A (pyNext it) (fun r s₁=>match r with
   | none=>R (.ok .next) s₁
   | some v=>wpAny (model prog w) A (letOwnedTupleGo target it v) (fun _ s₀=>wpAny (model prog w) A (assign target env v) (fun _ s₂ =>
     wpAny (model prog w) A (forIn ifs true fun c r=>if r=true then do let ok ← isTrue c env (eval c env);pure (ForInStep.yield ok) else pure (ForInStep.yield r)) (fun ok s₃ =>
      if ok=true then wpAny (model prog w) A (eval elt env) (fun x s₄ =>
       wpAny (model prog w) A (call (.builtin "list.append") [acc,x]) (fun _ s₅=>∃ m,m < n/\I m s₅) (fun _ _=>False) s₄) (fun _ _=>False) s₃
      else ∃ m,m < n/\I m s₃) (fun _ _=>False) s₂) (fun _ _=>False) s₀) (fun _ _=>False) s₁) (fun _ _=>False) s)
  (n:Nat) (h:I n s) :
  codeAny (model prog w) A (.compLoop (.ListComp elt [⟨target,iter,ifs,0⟩] scope pos) 0 it acc env) R s:=by
 refine codeAny_loop rfl I (fun n s hI=>?_) n h
 show wpAny _ A ((compTurn (.ListComp elt [⟨target,iter,ifs,0⟩] scope pos) 0 it acc env).onRaise (fun x=>do noteFrame x env;theTreesLotGoes x)) _ _ s
 refine wpAny_noted ?_
 rw [compTurn_list]
 refine wpAny_bind (wpAny_standAt (wpAny_bind (wpAny_mono (turn n s hI) (fun r s₁ h₁=>?_) fun _ _ h'=>h'.elim)))
 cases r with
 | none=>exact wpAny_pure h₁
 | some v =>
  refine wpAny_bind (wpAny_mono h₁ (fun _ s₀ h₀=>?_) fun _ _ h'=>h'.elim)
  refine wpAny_bind (wpAny_mono h₀ (fun _ s₂ h₂=>wpAny_bind (wpAny_mono h₂ (fun ok s₃ h₃=>?_) fun _ _ h'=>h'.elim)) fun _ _ h'=>h'.elim)
  cases ok with
  | false=>exact wpAny_pure ⟨rfl,h₃⟩
  | true =>
   exact wpAny_bind (wpAny_bind (wpAny_mono h₃ (fun x s₄ h₄=>wpAny_bind (wpAny_mono h₄ (fun _ s₅ h₅=>wpAny_pure (wpAny_pure ⟨rfl,h₅⟩)) fun _ _ h'=>h'.elim)) fun _ _ h'=>h'.elim))
end
def dh (g:TG) (tc:TT) (te:TE) (σ':St) (J:It) (H1:Hp) (Q:VK):Prop :=
 ∀ D,H1 D=none->∃ W:Nat->Nat->List V->St->Hp->Prop,(∃ m,W 0 m [] σ' (upd H1 D (.lst [])))/\∀ i m ys σ1 H,W i m ys σ1 H->H D=some (.lst ys)/\ys.length < sizeLine ∧
  ((J.stop i H/\Q (.ref D) H) ∨ (J.go i H/\∀ x H',J.yld i H x H'->g x σ1 H' fun σ2 H2=>tc σ2 H2 fun b H3 =>
   if b=true then te σ2 H3 fun v H4=>H4 D=some (.lst ys)/\∃ m',m' < m/\W (i + 1) m' (ys++[v]) σ2 (upd H4 D (.lst (ys++[v]))) else ∃ m',m' < m/\W (i + 1) m' ys σ2 H3))
structure uo (X:Cx) (scope:Scope) (cl:List (Str × Addr)):Prop where
 clo:L2.clo X.env.cells scope.names []=some cl
 cell:∀ y∈scope.names,y.2≠.cell
 kind:scope.kind=.function
 names:∀ y∈scope.names,y.2=.local->scope.names.lookup y.1=some .local
section
variable {X:Cx}{pins:List (Addr × Obj)}{σ:St}{H1:Hp}{s₂:Shared}{E:Value->Shared->Prop}
theorem Inv.DB {scope:Scope}{cl:List (Str × Addr)}{N':List Str}{C:Addr}{fp:List Addr} (I:Inv X pins σ H1 s₂) (B:uo X scope cl) (hC:s₂.heap.objs.size<=C) (hf:∀ b∈fp,kW X pins H1 b)
  (ho:∀ b∈fp,∃ o,s₂.heap.get? b=some o):(X.blk N' scope cl C s₂ H1 fp).Ok:=by
 have sub:=jv scope.names [] cl B.clo (fun x c e=>by cases e)
 refine ⟨I.ok.mod,B.kind,I.ok.glob,I.ok.blt,hC,fun x y c h1 h2=>I.ok.inj x y c (sub x c h1) (sub y c h2),fun x hx=>?_,fun x c h=>?_,I.ok.hd,I.ok.frames,.inl rfl,fun b hb=>⟨?_,fun x c e=>?_⟩,I.bs,
  Nat.le_trans I.ok.bsz I.sz,fun b o e hb=>?_,fun b hb hs=>?_,I.stack,I.jR⟩
 ·have hx':(compEnvC scope cl C X.env).kindOf x=some .cell ∨ (compEnvC scope cl C X.env).kindOf x=some .free:=hx
  have key:∀ k',(compEnvC scope cl C X.env).kindOf x=some k'->(k'=.cell ∨ k'=.free)->∃ c,cl.lookup x=some c:=fun k' e hk=>by
   have e':(scope.names.map fun (n,k)=>if (k == NameKind.free && X.env.scope.kind == .function && X.env.kindOf n == some .cell) then (n,NameKind.cell) else (n,k)).lookup x=some k':=e
   rcases gW e' with q | ⟨_,q⟩
   ·rcases hk with rfl | rfl
    ·exact absurd rfl (B.cell _ q)
    ·exact iG scope.names [] cl B.clo x q
   ·exact iG scope.names [] cl B.clo x q
  rcases hx' with hx' | hx'
  ·exact key _ hx' (.inl rfl)
  ·exact key _ hx' (.inr rfl)
 ·exact absurd h Bool.false_ne_true
 ·obtain ⟨o,e⟩:=ho b hb
  exact Nat.ne_of_lt (Nat.lt_of_lt_of_le (Heap.lt_size e) hC)
 ·exact (hf b hb).2.2.2.2.1 x c (sub x c e)
 ·rcases (hf b hb).2.2.2.1 with z | z
  ·exact I.ok.noex b o e z
  ·exact absurd (Nat.lt_of_lt_of_le (Heap.lt_size e) (Nat.le_trans I.ok.bsz z)) (Nat.lt_irrefl _)
 ·rcases List.mem_cons.mp (I.qt b hs) with z | z
  ·exact (hf b hb).2.1 z
  ·exact (hf b hb).2.2.1 z
theorem uP {elt target iter:Expr}{ifs:List Expr}{scope:Scope}{pos:Pos}{cl:List (Str × Addr)}{own frn:List Str}{js:List Nat}{g:TG}{tc:TT}{te:TE}{Q:VK}{it:Addr}{fp:List Addr}{tn:Nat->Heap->Prop}{J:It}
  {RR:Value->Addr->Result->Shared->Prop} (hc:X.calm=true) (B:uo X scope cl) (hfr:lE X frn js) (hloc:∀ x∈frn,scope.names.lookup x≠some .local)
  (hg:∀ C s₀ H₀ ex,PG (X.blk (own++frn) scope cl C s₀ H₀ ex) target g) (hi:∀ C s₀ H₀ ex,PIf (X.blk (own++frn) scope cl C s₀ H₀ ex) ifs tc) (he:∀ C s₀ H₀ ex,PE (X.blk (own++frn) scope cl C s₀ H₀ ex) elt te)
  (I:Inv X pins σ H1 s₂) (T:Turn X.prog X.w X.K target J fp it tn) (st0:tn 0 s₂.heap) (hf:∀ b∈fp,kW X pins H1 b) (hq:dh g tc te (fL own.length js σ) J H1 Q)
  (fin:∀ D C s' H' m,s₂.heap.objs.size<=C->Inv X pins σ H' s'->s'.heap.Ns C m->kW X pins H' C->Q (.ref D) H'->RR (.ref D) C (.ok .next) s') :
  wpAny (model X.prog X.w) X.A (newList []) (fun acc s₃=>wpAny (model X.prog X.w) X.A (newFunctionEnv scope X.env.globals cl [] X.env.qual none .none (some X.env)) (fun cenv s₄ =>
   codeAny (model X.prog X.w) X.A (.compStart (.ListComp elt [⟨target,iter,ifs,0⟩] scope pos) 0 (.ref it) acc { cenv with scope:=relabel scope X.env }) (RR acc cenv.locals) s₄) E s₃) E s₂:=by
 have sub:=jv scope.names [] cl B.clo (fun x c e=>by cases e)
 refine wpAny_newObj_type (wpAny_newFunctionEnv B.cell (by intro y hy;simp at hy) (fun h₁ hns₁ hsb₁=>?_) B.kind)
 dsimp only at hns₁ hsb₁ ⊢
 generalize hH2:s₂.heap.push { cls:=.type "list",dict:=none,data:=.seq ([]:List Value).toArray }=H2 at hns₁ hsb₁ ⊢
 have hC:H2.objs.size=s₂.heap.objs.size + 1:=by rw [← hH2,Heap.size_push]
 have hDC:s₂.heap.objs.size≠H2.objs.size:=by rw [hC];exact Nat.ne_of_lt (Nat.lt_succ_self _)
 have hCle:s₂.heap.objs.size<=H2.objs.size:=by rw [hC];exact Nat.le_succ _
 have below:∀ b,b < s₂.heap.objs.size->b≠H2.objs.size/\b≠s₂.heap.objs.size:=fun b hb=>⟨by rw [hC];exact Nat.ne_of_lt (Nat.lt_succ_of_lt hb),Nat.ne_of_lt hb⟩
 have old:∀ b o,s₂.heap.get? b=some o->h₁.get? b=some o:=fun b o e=>hsb₁.extBut b o (below b (Heap.lt_size e)).1 (Heap.get?_push_of_some _ (hH2 ▸ Heap.get?_push_of_some _ e))
 have hacc:h₁.get? s₂.heap.objs.size=some { cls:=.type "list",dict:=none,data:=.seq ([]:List Value).toArray }:=hsb₁.extBut _ _ hDC (Heap.get?_push_of_some _ (hH2 ▸ Heap.get?_push_size _ rfl))
 have hfo:∀ b∈fp,∃ o,s₂.heap.get? b=some o/\∀ v,o.data≠.cell v:=T.obj 0 _ st0
 have D0:H1 s₂.heap.objs.size=none:=I.hok.fresh (Nat.le_refl _)
 have C0:H1 H2.objs.size=none:=I.hok.fresh hCle
 obtain ⟨W,⟨m0,w0⟩,turn⟩:=hq _ D0
 have okX:(X.blk (own++frn) scope cl H2.objs.size s₂ H1 fp).Ok:=I.DB (N':=own++frn) B hCle hf fun b hb=>let ⟨o,e,_⟩:=hfo b hb;⟨o,e⟩
 have I0:Inv (X.blk (own++frn) scope cl H2.objs.size s₂ H1 fp) [] (fL own.length js σ) (upd H1 s₂.heap.objs.size (.lst [])) { s₂ with heap:=h₁,toks:=s₂.toks + ([]:List (Str × Value)).length }:=by
  obtain ⟨m,hn,hl⟩:=id I.loc
  refine ⟨okX,rfl,I.bare,Un.laid old (Nat.le_refl _) D0,⟨_,hns₁,fun i x v e1 e2 e3=>?_⟩,fun x c e=>?_,?_,fun x c e=>?_,fun p hp=>?_,?_,?_⟩
  ·have e1:(own++frn)[i]?=some x:=e1
   unfold fL at e2
   by_cases hik:i < own.length
   ·rw [List.getElem?_append_left (by simpa using hik),List.getElem?_replicate,if_pos hik] at e2
    cases e2
   ·rw [List.getElem?_append_right (by simpa using hik),List.length_replicate,List.getElem?_map] at e2
    rw [List.getElem?_append_right (by omega)] at e1
    obtain ⟨j,hj,hNj,hk⟩:=hfr.get e1
    rw [hj] at e2
    have e2':(σ[j]?).join=some v:=Option.some.inj e2
    have e2'':σ[j]?=some (some v):=by
     cases q:σ[j]? with
     | none=>rw [q] at e2';cases e2'
     | some o=>rw [q] at e2';cases o with
      | none=>cases e2'
      | some y=>have:y=v:=Option.some.inj e2';rw [this]
    obtain ⟨u,r,lk⟩:=hl j x v hNj e2'' (hk.elim (fun z=>.inr (.inl z)) fun z=>.inr (.inr z))
    refine ⟨u,r,?_⟩
    rcases lk with ⟨k1,_⟩ | ⟨_,c,hcl,hcell⟩
    ·rcases hk with z | z <;> (rw [k1] at z;cases z)
    ·have hx3:(compEnvC scope cl H2.objs.size X.env).kindOf x=some .local ∨ (compEnvC scope cl H2.objs.size X.env).kindOf x=some .cell ∨ (compEnvC scope cl H2.objs.size X.env).kindOf x=some .free:=e3
     rcases hx3 with z | z
     ·exfalso
      have z':(scope.names.map fun (n,k)=>if (k == NameKind.free && X.env.scope.kind == .function && X.env.kindOf n == some .cell) then (n,NameKind.cell) else (n,k)).lookup x=some .local:=z
      rcases gW z' with q | ⟨q,_⟩
      ·exact hloc x (List.mem_of_getElem? e1) (B.names _ q rfl)
      ·cases q
     ·obtain ⟨c',hc'⟩:=okX.has x z
      have q:=sub x c' hc'
      rw [hcl] at q
      have q':c=c':=Option.some.inj q
      subst q'
      refine .inr ⟨z,c,hc',?_⟩
      obtain ⟨o,ho,hd⟩:=hcell
      exact ⟨o,old _ _ ho,hd⟩
  ·obtain ⟨v,o,ho,hd⟩:=I.cell x c (sub x c e)
   exact ⟨v,o,old _ _ ho,hd⟩
  ·show upd H1 _ _ H2.objs.size=none
   rw [av (Ne.symm hDC)];exact C0
  ·obtain ⟨v,o,ho,hd⟩:=I.cell x c (sub x c e)
   rw [av (below c (Heap.lt_size ho)).2];exact I.freeC x c (sub x c e)
  ·cases hp
  ·exact I.hok.laid old (Nat.le_refl _) ⟨Nat.zero_le _,[],_,.nil,hacc⟩
  ·unfold fL
   show _=(own++frn).length
   rw [List.length_append,List.length_append,List.length_replicate,List.length_map,hfr.len]
 -- the iterator's objects in the block
 have fpx:∀ {H:Hp},(∀ b∈fp,H b=none)->∀ b∈fp,kW (X.blk (own++frn) scope cl H2.objs.size s₂ H1 fp) [] H b:=fun {H} hn b hb=>by
  obtain ⟨f0,f1,f2,f3,f4,f5⟩:=hf b hb
  obtain ⟨o,e,_⟩:=hfo b hb
  refine ⟨hn b hb,(below b (Heap.lt_size e)).1,fun z=>?_,.inl hb,fun x c e=>f4 x c (sub x c e),fun p hp=>by cases hp⟩
  rcases List.mem_cons.mp (I.qt b z) with z | z
  ·exact f1 z
  ·exact f2 z
 have st1:tn 0 h₁:=T.keep _ _ _ st0 fun b _ o e=>old b o e
 have fr0:∀ b∈fp,upd H1 s₂.heap.objs.size (.lst []) b=none:=fun b hb=>by
  obtain ⟨o,e,_⟩:=hfo b hb
  rw [av (below b (Heap.lt_size e)).2];exact (hf b hb).1
 have loop:codeAny (model X.prog X.w) X.A (.compLoop (.ListComp elt [⟨target,iter,ifs,0⟩] scope pos) 0 (.ref it) (.ref s₂.heap.objs.size) (compEnvC scope cl H2.objs.size X.env))
   (RR (.ref s₂.heap.objs.size) H2.objs.size) { s₂ with heap:=h₁,toks:=s₂.toks + ([]:List (Str × Value)).length }:=by
  refine qN (fun n s'=>∃ i ys σ1 H,Inv (X.blk (own++frn) scope cl H2.objs.size s₂ H1 fp) [] σ1 H s'/\tn i s'.heap/\(∀ b∈fp,H b=none)/\W i n ys σ1 H) ?_ m0 ⟨0,[],_,_,I0,st1,fr0,w0⟩
  rintro n s3 ⟨i,ys,σ3,H3,I3,st3,fr3,w3⟩
  obtain ⟨hD3,hsz,alt⟩:=turn i n ys σ3 H3 w3
  rcases alt with ⟨stop,qn⟩ | ⟨go,step⟩
  ·refine thn (T.done (X.blk (own++frn) scope cl H2.objs.size s₂ H1 fp) rfl rfl rfl hc i [] s3 σ3 H3 _ I3 (fpx fr3) st3 stop) fun r s4 ⟨hr,I4⟩=>?_
   subst hr
   obtain ⟨m,hn,_⟩:=id I4.loc
   have hch:∀ b∈fp,(b∈X.ex ∨ X.s₀.heap.objs.size<=b)/\b≠X.env.locals/\(∀ x c,X.env.cells.lookup x=some c->c≠b)/\∀ p∈X.pn++pins,p.1≠b:=fun b hb=>by
    obtain ⟨f0,f1,f2,f3,f4,f5⟩:=hf b hb
    exact ⟨f3,f1,f4,f5⟩
   have IX:Inv X pins σ H3 s4:=I.nQ I4.os I4.base I4.hok I4.bare hch
   exact fin _ _ s4 H3 m hCle IX hn (I.rh hCle I4.free) qn
  ·refine thn (T.item (X.blk (own++frn) scope cl H2.objs.size s₂ H1 fp) rfl rfl rfl hc i [] s3 σ3 H3 _ I3 (fpx fr3) st3 go) fun r s4 ⟨u,hr,h4⟩=>?_
   subst hr
   refine thn h4 fun _ s5 ⟨x,H5,I5,r5,y5,st5,fr5⟩=>?_
   have I5':=I5.pinned (fpx fr5) (T.obj _ _ st5)
   refine thn (hg _ _ _ _ _ s5 σ3 H5 x u _ I5' r5 (step x H5 y5)) fun _ s6 ⟨σ6,H6,I6,q6⟩=>?_
   refine thn (hi _ _ _ _ _ s6 σ6 H6 _ I6 q6) fun b s7 ⟨H7,I7,q7⟩=>?_
   have again:∀ {ys':List V}{H8:Hp}{s8:Shared}{m':Nat},Inv (X.blk (own++frn) scope cl H2.objs.size s₂ H1 fp) ([]++mR fp s5.heap) σ6 H8 s8->m' < n->W (i + 1) m' ys' σ6 H8 →
     ∃ m,m < n/\∃ i ys σ1 H,Inv (X.blk (own++frn) scope cl H2.objs.size s₂ H1 fp) [] σ1 H s8/\tn i s8.heap/\(∀ b∈fp,H b=none)/\W i m ys σ1 H:=fun {ys' H8 s8 m'} I8 hm w8=>by
    refine ⟨m',hm,i + 1,ys',σ6,H8,I8.jT,T.keep _ _ _ st5 fun b hb o e=>(I8.pin (b,o) (List.mem_append_right _ (List.mem_append_right _ (gQ hb e)))).1,fun b hb=>?_,w8⟩
    obtain ⟨o,e,d⟩:=T.obj _ _ st5 b hb
    exact (I8.pin (b,o) (List.mem_append_right _ (List.mem_append_right _ (gQ hb e)))).2.1
   cases b with
   | false =>
    rw [if_neg Bool.false_ne_true] at q7 ⊢
    obtain ⟨m',hm,w7⟩:=q7
    exact again I7 hm w7
   | true =>
    rw [if_pos rfl] at q7 ⊢
    refine thn (he _ _ _ _ _ s7 σ6 H7 _ I7 q7) fun v s8 ⟨y,H8,I8,r8,hD8,m',hm,w8⟩=>?_
    refine thn (fD (X:=X.blk (own++frn) scope cl H2.objs.size s₂ H1 fp) _ s8 σ6 H8 (.ref s₂.heap.objs.size) [y] _ [v] (fun _ H9=>W (i + 1) m' (ys++[y]) σ6 H9) I8 rfl (.cons r8 .nil) ⟨_,ys,y,rfl,rfl,hD8,hsz,w8⟩) fun _ s9 ⟨_,H9,I9,_,w9⟩=>?_
    exact again I9 hm w9
 exact codeAny_compStart_list loop (T.self X.A 0 _ _ _ st1 loop)
end
def tLC (k:Nat) (js:List Nat) (wi:TI) (g:TG) (tc:TT) (te:TE):TE:=fun σ H Q=>wi σ H fun J H1=>dh g tc te (fL k js σ) J H1 Q
section
variable {X:Cx}
theorem iT {elt target iter:Expr}{ifs:List Expr}{scope:Scope}{pos:Pos}{cl:List (Str × Addr)}{frn:List Str}{js:List Nat}{wi:TI}{g:TG}{tc:TT}{te:TE} (own:List Str) (hc:X.calm=true) (B:uo X scope cl) (hfr:lE X frn js)
  (hloc:∀ x∈frn,scope.names.lookup x≠some .local) (hi:PI X target iter wi)
  (hg:∀ C s₀ H₀ ex,PG (X.blk (own++frn) scope cl C s₀ H₀ ex) target g) (hif:∀ C s₀ H₀ ex,PIf (X.blk (own++frn) scope cl C s₀ H₀ ex) ifs tc) (he:∀ C s₀ H₀ ex,PE (X.blk (own++frn) scope cl C s₀ H₀ ex) elt te)
  (hs:∀ x,foldedSetIterable iter X.env x=pure x:=by intro _;rfl):PE X (.ListComp elt [⟨target,iter,ifs,0⟩] scope pos) (tLC own.length js wi g tc te):=by
 intro pins s σ H Q I h
 rw [eval_ListComp]
 refine wpAny_comprehension_free (use:=none) rfl hs (fM B.clo) B.kind B.names (thn (hi pins s σ H _ I h) fun v s1 h1=>thn h1 fun itv s2 h2=>?_)
 obtain ⟨it,fp,tn,J,H2,e,I2,T,st2,f2,hq⟩:=h2
 subst e
 refine uP (RR:=fun acc C=>compPost (model X.prog X.w) X.A X.xe none (EP X pins σ Q) acc C) hc B hfr hloc hg hif he I2 T st2 f2 hq ?_
 intro D C s' H' m hC I' hn fC q
 exact ⟨m,hn,fun h' sb=>⟨.ref D,H',I'.turned (t':=s'.toks) (fun b o hb e=>(sb.2 b hb).trans e) fC.1 fC.2.1 fC.2.2.2.1 fC.2.2.2.2.1 fC.2.2.2.2.2,rfl,q⟩⟩
theorem mS {elt target iter:Expr}{ifs:List Expr}{scope:Scope}{pos py spos:Pos}{y:Str}{i:Nat}{cl:List (Str × Addr)}{frn:List Str}{js:List Nat}{wi:TI}{g:TG}{tc:TT}{te:TE} (own:List Str) (hN:X.N.Nodup) (hiy:X.N[i]?=some y)
  (hy:Loc X.env.scope y) (hc:X.calm=true) (B:uo X scope cl) (hfr:lE X frn js)
  (hloc:∀ x∈frn,scope.names.lookup x≠some .local) (hi:PI X target iter wi)
  (hg:∀ C s₀ H₀ ex,PG (X.blk (own++frn) scope cl C s₀ H₀ ex) target g) (hif:∀ C s₀ H₀ ex,PIf (X.blk (own++frn) scope cl C s₀ H₀ ex) ifs tc) (he:∀ C s₀ H₀ ex,PE (X.blk (own++frn) scope cl C s₀ H₀ ex) elt te)
  (hsw:swapsWith (.ListComp elt [⟨target,iter,ifs,0⟩] scope pos) (some (.Name y py)) spos.line X.env=pure true:=by rfl)
  (hs:∀ x,foldedSetIterable iter X.env x=pure x:=by intro _;rfl)
  (hf:X.fn y=true ∨ X.env.scope.names.lookup y=some .local:=by first | exact .inl rfl | exact .inr rfl | assumption) :
  PS X (.Assign [.Name y py] (.ListComp elt [⟨target,iter,ifs,0⟩] scope pos) spos) (xu (tLC own.length js wi g tc te) (dH i)):=by
 intro pins s σ H D I h
 rw [exec_Assign_Name_used _ _ _ _ hsw]
 refine wpAny_bind (wpAny_standAt (wpAny_bind ?_))
 show wpAny _ X.A (do let _ ← comprehension (.ListComp elt [⟨target,iter,ifs,0⟩] scope pos) scope X.env _ (newList []) false (eval iter X.env) (some (assign (.Name y py) X.env))) _ _ s
 refine wpAny_bind (wpAny_mono (wpAny_comprehension_free (use:=some (assign (.Name y py) X.env)) (Q:=fun _ s'=>SP X pins D .next s') rfl hs (fM B.clo) B.kind B.names
  (thn (hi pins s σ H _ I h) fun v s1 h1=>thn h1 fun itv s2 h2=>?_)) (fun _ s' hq=>wpAny_pure (wpAny_pure hq)) fun _ _ e=>e)
 obtain ⟨it,fp,tn,J,H2,e,I2,T,st2,f2,hq⟩:=h2
 subst e
 refine uP (Q:=fun x H1=>D.nx (σ.set i (some x)) H1) (RR:=fun acc C=>compPost (model X.prog X.w) X.A X.xe (some (assign (.Name y py) X.env)) (fun _ s'=>SP X pins D .next s') acc C) hc B hfr hloc hg hif he I2 T st2 f2 hq ?_
 intro L C s' H' m hC I' hn fC q
 show wpAny _ X.A (assign (.Name y py) X.env (.ref L)) _ _ _
 refine wpAny_assign_Name (oT (v:=.ref L) I' hN hiy hy rfl (fun s'' I'' ⟨a,sb,ha⟩=>?_) hf)
 have hCa:C≠a:=by
  rcases ha with z | z
  ·rw [z];exact fC.2.1
  ·exact fun e=>fC.2.2.2.2.1 y a z e.symm
 exact ⟨m,hn.sameBut sb hCa,fun h' sb'=>⟨_,H',I''.turned (t':=s''.toks) (fun b o hb e=>(sb'.2 b hb).trans e) fC.1 fC.2.1 fC.2.2.2.1 fC.2.2.2.2.1 fC.2.2.2.2.2,q⟩⟩
end
def It.Seq (J:It) (H1:Hp) (xs:List V):Prop :=
 ∀ H,ao H1 H->(∀ i x,xs[i]?=some x->J.go i H/\∀ y H',J.yld i H y H'->H'=H/\y=x)/\∀ i,xs.length<=i->J.stop i H
theorem fU {K:PySem.W.Frag}{a:Addr}{xs:List V}{H1:Hp} (h:SqL K H1 a xs):(Itl K a).Seq H1 xs:=fun H s =>
 ⟨fun i x e=>⟨⟨xs,x,s.seq h,e⟩,fun y H' ⟨e1,e2⟩=>⟨e1,Option.some.inj ((e2 xs (s.seq h)).symm.trans e)⟩⟩,fun i hi=>⟨xs,s.seq h,hi⟩⟩
theorem oP {H1:Hp}{n:Nat}{lo:Int}:(Itr lo n).Seq H1 ((List.range n).map fun (k:Nat)=>V.int (lo + (k:Int))):=fun H s=>by
 refine ⟨fun i x e=>?_,fun i hi=>?_⟩
 ·have hi:i < n:=by
   have:=(List.getElem?_eq_some_iff.mp e).1
   simpa using this
  rw [List.getElem?_map,List.getElem?_range hi] at e
  have e':V.int (lo + (i:Int))=x:=Option.some.inj e
  exact ⟨hi,fun y H' ⟨e1,e2⟩=>⟨e1,by rw [e2,e']⟩⟩
 ·show n<=i
  simpa using hi
theorem ao.bD {H H':Hp}{a:Addr}{o:HO} (h:ao H H') (hn:H a=none):ao H (upd H' a o):=fun b u e=>by
 rw [av (aO e hn)];exact h b u e
theorem yH {J:It}{H1:Hp}{xs:List V}{js:List Nat}{σ:St}{tc:TT}{te:TE}{Q:VK} (hJ:J.Seq H1 xs) (hl:xs.length < sizeLine) (p:V->Bool) (f:V->V)
  (hc:∀ x∈xs,∀ H,ao H1 H->∀ R:Bool->Hp->Prop,(∀ H',ao H H'->R (p x) H')->tc (some x::js.map fun j=>(σ[j]?).join) H R)
  (he:∀ x∈xs,p x=true->∀ H,ao H1 H->∀ R:VK,(∀ H',ao H H'->R (f x) H')->te (some x::js.map fun j=>(σ[j]?).join) H R)
  (q:∀ D H,H1 D=none->ao H1 H->H D=some (.lst ((xs.filter p).map f))->Q (.ref D) H):dh (dH 0) tc te (fL 1 js σ) J H1 Q:=by
 intro D hD
 refine ⟨fun i m ys σ1 H=>m=xs.length - i/\i<=xs.length/\(∃ o,σ1=o::js.map fun j=>(σ[j]?).join)/\ys=((xs.take i).filter p).map f/\ao H1 H/\H D=some (.lst ys),
  ⟨xs.length,by simp,Nat.zero_le _,⟨none,rfl⟩,by simp,(ao.refl H1).bD hD,ay⟩,?_⟩
 rintro i m ys σ1 H ⟨rfl,hi,⟨o,rfl⟩,rfl,sH,hL⟩
 have hlen:(((xs.take i).filter p).map f).length < sizeLine:=by
  rw [List.length_map]
  have h1:=List.length_filter_le p (xs.take i)
  have h2:(xs.take i).length<=xs.length:=by rw [List.length_take];omega
  omega
 refine ⟨hL,hlen,?_⟩
 by_cases hlt:i < xs.length
 ·have e:xs[i]?=some xs[i]:=by simp [hlt]
  obtain ⟨go,yl⟩:=(hJ H sH).1 i xs[i] e
  refine .inr ⟨go,fun x H' y=>?_⟩
  obtain ⟨e1,e2⟩:=yl x H' y
  subst e1 e2
  have hm:xs[i]∈xs:=List.getElem_mem hlt
  have htk:xs.take (i + 1)=xs.take i++[xs[i]]:=by rw [List.take_add_one,e];rfl
  show tc (some xs[i]::js.map fun j=>(σ[j]?).join) H' _
  refine hc xs[i] hm H' sH _ fun H3 s3=>?_
  cases hp:p xs[i] with
  | false =>
   rw [if_neg Bool.false_ne_true]
   refine ⟨xs.length - (i + 1),by omega,rfl,hlt,⟨_,rfl⟩,?_,sH.trans s3,s3 _ _ hL⟩
   rw [htk,List.filter_append];simp [hp]
  | true =>
   rw [if_pos rfl]
   refine he xs[i] hm hp H3 (sH.trans s3) _ fun H4 s4=>?_
   refine ⟨s4 _ _ (s3 _ _ hL),xs.length - (i + 1),by omega,rfl,hlt,⟨_,rfl⟩,?_,((sH.trans s3).trans s4).bD hD,ay⟩
   rw [htk,List.filter_append];simp [hp]
 ·have e:i=xs.length:=by omega
  subst e
  refine .inl ⟨(hJ H sH).2 _ (Nat.le_refl _),q D H hD sH ?_⟩
  rw [List.take_length] at hL;exact hL
theorem CA {J:It}{H1:Hp}{xs:List V}{js:List Nat}{σ:St}{te:TE}{Q:VK} (hJ:J.Seq H1 xs) (hl:xs.length < sizeLine) (f:V->V)
  (he:∀ x∈xs,∀ H,ao H1 H->∀ R:VK,(∀ H',ao H H'->R (f x) H')->te (some x::js.map fun j=>(σ[j]?).join) H R)
  (q:∀ D H,H1 D=none->ao H1 H->H D=some (.lst (xs.map f))->Q (.ref D) H):dh (dH 0) xv te (fL 1 js σ) J H1 Q :=
 yH hJ hl (fun _=>true) f (fun x _ H _ R hR=>hR H (ao.refl H)) (fun x hx _ H s R hR=>he x hx H s R hR) fun D H h1 h2 h3=>q D H h1 h2 (by rw [List.filter_eq_self.mpr (fun _ _=>rfl)] at h3;exact h3)
end L2

namespace L2
open PySem PySem.Spec PyProof.Rows
section
variable {X:Cx}
def Cb (i j:Int):Prop:=i.natAbs < 2 ^ 1000/\j.natAbs < 2 ^ 1000
theorem Az:OpR X (binaryOp .Mult) (rI Cb fun i j=>.int (i * j)):=opI fun _ _ _ _ _ _ _ hc q =>
 mul_int q (IntMulOk.of_bits (Nat.le_trans (intBits_le_iff.mpr hc.1) (by decide)) (Nat.le_trans (intBits_le_iff.mpr hc.2) (by decide)))
def D1 (_ j:Int):Prop:=0 < j/\j < 2 ^ 1000
theorem yR:OpR X (binaryOp .FloorDiv) (rI D1 fun i j=>.int (i / j)):=opI fun i j _ _ _ _ _ hc q=>by
 have h1:(0:Int) < j:=hc.1
 have h2:j < 2 ^ 1000:=hc.2
 have h3:j.natAbs < 2 ^ 1000:=by
  have e:((j.natAbs:Nat):Int)=j:=Int.natAbs_of_nonneg (by omega)
  have e2:((2 ^ 1000:Nat):Int)=(2:Int) ^ 1000:=by rw [Int.natCast_pow];rfl
  omega
 refine floordiv_int (by omega) (by rw [Int.fdiv_eq_ediv_of_nonneg i (by omega)];exact q) (.inl (PyProof.noPylong_of_log2 ?_))
 have h4:j.natAbs≠0:=by omega
 exact Nat.lt_of_lt_of_le ((Nat.log2_lt h4).mpr h3) (by decide)
theorem yT:OpR X (compareOp .Is) (fun x y H Q=>∃ a b,x=.bl a/\y=.bl b/\Q (.bl (a == b)) H):=by
 intro pins s σ H x y v u Q I rx ry h
 obtain ⟨a,b,rfl,rfl,q⟩:=h
 cases rx;cases ry
 exact is_bool (aV I q rfl)
theorem rO:OpR X (compareOp .IsNot) (fun x y H Q=>∃ a b,x=.bl a/\y=.bl b/\Q (.bl (a != b)) H):=by
 intro pins s σ H x y v u Q I rx ry h
 obtain ⟨a,b,rfl,rfl,q⟩:=h
 cases rx;cases ry
 exact isnot_bool (aV I q rfl)
def EA (K:PySem.W.Frag):List V->Hp->VK->Prop:=fun xs H Q=>∃ x t c b,xs=[x,.ty c]/\iX K H x t/\PySem.W.kitOne K t (.type c)=some b/\Q (.bl b) H
theorem xX:bE X (.builtin "isinstance") (EA X.K):=by
 intro pins s σ H xs us Q I r h
 obtain ⟨x,t,c,b,rfl,ty,e,q⟩:=h
 obtain ⟨u,w',rfl,ru,rw'⟩:=vals2 r
 obtain rfl:w'=Value.type c:=rw'
 exact isinst_ok I ru ty e fun tk=>⟨.bl b,H,I.tok tk,rfl,q⟩
def kX:List V->List V->Bool
 | [],[]=>true
 | x::xs,y::ys=>eqV x y && kX xs ys
 | _,_=>false
theorem lQ:∀ {xs ys:List V},xs.length≠ys.length->kX xs ys=false
 | [],[],h=>absurd rfl h
 | [],_::_,_=>rfl
 | _::_,[],_=>rfl
 | x::xs,y::ys,h=>by
  have h':xs.length≠ys.length:=fun e=>h (by rw [List.length_cons,List.length_cons,e])
  show (eqV x y && kX xs ys)=false
  rw [lQ h',Bool.and_false]
theorem ja:∀ {xs ys:List V},xs.length=ys.length->(List.range xs.length).all (fun j=>eqV (xs.getD j .non) (ys.getD j .non))=kX xs ys
 | [],[],_=>rfl
 | [],_::_,h=>by cases h
 | _::_,[],h=>by cases h
 | x::xs,y::ys,h=>by
  have h':xs.length=ys.length:=by simpa using h
  rw [List.length_cons,List.range_succ_eq_map,List.all_cons,List.all_map]
  show (eqV x y && (List.range xs.length).all (fun j=>eqV (xs.getD j .non) (ys.getD j .non)))=(eqV x y && kX xs ys)
  rw [ja h']
theorem wF (xs:List Int):(xs.map V.int).all cu=true:=by
 rw [List.all_eq_true];intro v hv
 obtain ⟨i,_,rfl⟩:=List.mem_map.mp hv
 rfl
def DU (K:PySem.W.Frag) (neg:Bool):R2:=fun x y H Q=>∃ a b xs ys,x=.ref a/\y=.ref b/\SqL K H a xs/\SqL K H b ys/\xs.all cu=true/\ys.all cu=true/\Q (.bl (if neg then !kX xs ys else kX xs ys)) H
theorem lP {A:Around}{s:Shared}{xs ys:List V}{us vs:List Value} (r1:Vals xs us) (r2:Vals ys vs) (f1:xs.all cu=true) (f2:ys.all cu=true) (j:Nat) (h1:j < us.toArray.size) (h2:j < vs.toArray.size) :
  SeqAt.EqAt A s us.toArray[j] vs.toArray[j] (eqV (xs.getD j .non) (ys.getD j .non)):=by
 have l1:=r1.length
 have l2:=r2.length
 rw [List.size_toArray] at h1 h2
 have e1:xs[j]?=some (xs[j]'(by omega)):=by simp [show j < xs.length by omega]
 have e2:ys[j]?=some (ys[j]'(by omega)):=by simp [show j < ys.length by omega]
 obtain ⟨u,hu,ru⟩:=r1.get e1
 obtain ⟨v,hv,rv⟩:=r2.get e2
 have hu':us.toArray[j]=u:=by
  have:=List.getElem?_eq_some_iff.mp hu
  simpa using this.2
 have hv':vs.toArray[j]=v:=by
  have:=List.getElem?_eq_some_iff.mp hv
  simpa using this.2
 rw [hu',hv',List.getD_eq_getElem?_getD,List.getD_eq_getElem?_getD,e1,e2]
 exact iZ ru rv (List.all_eq_true.mp f1 _ (List.getElem_mem _)) (List.all_eq_true.mp f2 _ (List.getElem_mem _))
theorem CL (hu:X.A.units < cLine):OpR X (compareOp .Eq) (DU X.K false):=by
 intro pins s σ H x y v u Q I rx ry h
 obtain ⟨a,b,xs,ys,rfl,rfl,ha,hb,f1,f2,q⟩:=h
 cases rx;cases ry
 obtain ⟨us,r1,p1,_⟩:=I.list ha
 obtain ⟨vs,r2,p2,_⟩:=I.list hb
 have l1:=r1.length
 have l2:=r2.length
 by_cases hl:xs.length=ys.length
 ·refine SeqAt.eq_listAt p1.isList p2.isList (by simp only [List.size_toArray];omega) hu (fun j h1 h2=>lP r1 r2 f1 f2 j h1 h2) ⟨.bl _,H,I,rfl,?_⟩
  rw [List.size_toArray,← l1,ja hl];exact q
 ·refine SeqAt.eq_list_lengthsAt p1.isList p2.isList (by simp only [List.size_toArray,bne_iff_ne,ne_eq];omega) hu ⟨.bl _,H,I,rfl,?_⟩
  have e:=lQ hl
  rw [if_neg Bool.false_ne_true,e] at q;exact q
theorem CS (hu:X.A.units < cLine):OpR X (compareOp .NotEq) (DU X.K true):=by
 intro pins s σ H x y v u Q I rx ry h
 obtain ⟨a,b,xs,ys,rfl,rfl,ha,hb,f1,f2,q⟩:=h
 cases rx;cases ry
 obtain ⟨us,r1,p1,_⟩:=I.list ha
 obtain ⟨vs,r2,p2,_⟩:=I.list hb
 have l1:=r1.length
 have l2:=r2.length
 by_cases hl:xs.length=ys.length
 ·refine SeqAt.RcNeAt.lists p1.isList p2.isList (by simp only [List.size_toArray];omega) hu (fun j h1 h2=>lP r1 r2 f1 f2 j h1 h2) _ _ _ _ ⟨.bl _,H,I,rfl,?_⟩
  rw [List.size_toArray,← l1,ja hl];exact q
 ·refine SeqAt.RcNeAt.lists_lengths p1.isList p2.isList (by simp only [List.size_toArray,bne_iff_ne,ne_eq];omega) hu _ _ _ _ ⟨.bl _,H,I,rfl,?_⟩
  have e:=lQ hl
  rw [if_pos rfl,e] at q;exact q
theorem Vals.bools:∀ {bs:List Bool}{us:List Value},Vals (bs.map V.bl) us->us=bs.map Value.bool
 | [],_,.nil=>rfl
 | b::bs,_::_,.cons r t=>by
  cases (show _=Value.bool b from r)
  rw [List.map_cons,Vals.bools t]
theorem all_range (bs:List Bool):(List.range bs.length).all (fun i=>bs.getD i false)=bs.all id:=by
 induction bs with
 | nil=>rfl
 | cons b r ih =>
  rw [List.length_cons,List.range_succ_eq_map,List.all_cons,List.all_map,List.all_cons]
  show (b && (List.range r.length).all (fun i=>r.getD i false))=_
  rw [ih];rfl
theorem su (bs:List Bool) (A:Around) (P:Program) (w:World):TruthOf P w A (fun i v=>(bs.map Value.bool).toArray[i]?=some v) (fun i=>bs.getD i false):=fun i v s Q E hP hQ=>by
 have e:(bs[i]?).map Value.bool=some v:=by simpa using hP
 cases q:bs[i]? with
 | none=>rw [q] at e;cases e
 | some b =>
  rw [q] at e
  have e':Value.bool b=v:=Option.some.inj e
  subst e'
  have hb:bs.getD i false=b:=by rw [List.getD_eq_getElem?_getD,q];rfl
  have hQ':Q (bs.getD i false) s:=hQ
  rw [hb] at hQ'
  exact wpAny_truthy_bool hQ'
def DT (K:PySem.W.Frag):List V->Hp->VK->Prop:=fun vs H Q=>∃ (a:Addr) (bs:List Bool),vs=[.ref a]/\SqL K H a (bs.map V.bl)/\Q (.bl (bs.all id)) H
theorem vX (hc:X.calm=true):bE X (.builtin "all") (DT X.K):=by
 intro pins s σ H xs us Q I r h
 obtain ⟨a,bs,rfl,hq,q⟩:=h
 obtain ⟨u,rfl,ru⟩:=vals1 r
 cases ru
 obtain ⟨its,rv,p,hz⟩:=I.list hq
 obtain rfl:=rv.bools
 have ha:a < s.heap.objs.size:=by obtain ⟨o,e,_⟩:=p.isList;exact Heap.lt_size e
 refine call_all_walk (wpAny_pyIter_list p.isList ⟨s.heap.objs.size,_,_,_,_,_,fun i=>bs.getD i false,rfl,Walks.list (A:=X.A.in1) (I.ok.hd hc) _ a (Nat.ne_of_lt ha) _,⟨⟨_,Heap.get?_push_size _ rfl,rfl,rfl⟩,p.isList.push _⟩,su bs _ _ _,fun h' tk hk=>?_⟩)
 refine ⟨.bl (bs.all id),H,I.kept fun b o e=>hk b o (fun z=>?_) (Heap.get?_push_of_some _ e),?_,q⟩
 ·have z':b=s.heap.objs.size:=by simpa using z
  exact absurd (Heap.lt_size e) (by rw [z'];exact Nat.lt_irrefl _)
 ·show Value.bool _=Value.bool _
  rw [← all_range bs];simp
def qi (lo:Int) (n:Nat):List V:=(List.range n).map fun (k:Nat)=>V.int (lo + (k:Int))
theorem uk {lo:Int}{n:Nat}{acc:Array Value} (h:ItemsOf (fun (i:Nat) v=>∃ t,v=Value.int (lo + (i:Int) * 1) t) acc n):Vals (qi lo n) acc.toList:=by
 obtain ⟨hs,hi⟩:=h
 have key:∀ (xs:List Value) (m:Nat),(∀ j v,xs[j]?=some v->∃ t,v=Value.int (lo + ((m + j:Nat):Int)) t)->Vals ((List.range' m xs.length).map fun (k:Nat)=>V.int (lo + (k:Int))) xs:=by
  intro xs
  induction xs with
  | nil=>intro m _;exact .nil
  | cons x r ih =>
   intro m hx
   rw [List.length_cons,List.range'_succ,List.map_cons]
   refine .cons ?_ (ih (m + 1) fun j v e=>?_)
   ·obtain ⟨t,e⟩:=hx 0 x rfl
    exact ⟨t,by simpa using e⟩
   ·obtain ⟨t,e'⟩:=hx (j + 1) v (by simpa using e)
    exact ⟨t,by rw [e'];congr 2;omega⟩
 have:=key acc.toList 0 fun j v e=>by
  obtain ⟨t,e'⟩:=hi j v (by simpa using e)
  exact ⟨t,by rw [e',Int.mul_one,Nat.zero_add]⟩
 rw [Array.length_toList,hs,← List.range_eq_range'] at this
 exact this
def zq:List V->Hp->VK->Prop:=fun vs H Q=>∃ a lo hi,vs=[.ref a]/\H a=some (.rng lo hi)/\(-(2 ^ 62)<=lo/\lo < 2 ^ 62/\-(2 ^ 62)<=hi/\hi < 2 ^ 62)/\(hi - lo).toNat<=2 ^ 20/\∀ p,H p=none->Q (.ref p) (upd H p (.lst (qi lo (hi - lo).toNat)))
theorem pk (hc:X.calm=true):bE X (.type "list") zq:=by
 intro pins s σ H xs us Q I r h
 obtain ⟨a,lo,hi,rfl,ha,⟨h1,h2,h3,h4⟩,hn,q⟩:=h
 obtain ⟨u,rfl,ru⟩:=vals1 r
 cases ru
 obtain ⟨t,u,v,e⟩:=(show aX X.prog X.w H s.heap a (.rng lo hi) from I.hok a _ ha)
 refine call_list_range (n:=(hi - lo).toNat) (I.ok.hd hc) e (small_one h1 h2 h3 h4) (by rw [rangeSize_one];split <;> omega) (by omega) fun h' tk acc c hk hS hacc=>?_
 have hv:=uk hacc
 have hlen:(qi lo (hi - lo).toNat).length<=sizeLine:=by
  unfold qi
  rw [List.length_map,List.length_range]
  exact Nat.le_trans hn (by decide)
 exact ⟨.ref s.heap.objs.size,_,I.laid hk (Nat.le_refl _) (show aX X.prog X.w _ _ _ (.lst (qi lo (hi - lo).toNat)) from ⟨hlen,acc.toList,c,hv,by simpa using hS⟩),rfl,q _ (I.hok.fresh (Nat.le_refl _))⟩
theorem Inv.BY {pins:List (Addr × Obj)}{σ:St}{H:Hp}{s:Shared}{h':Heap}{t':Nat}{ch:List Addr} (I:Inv X pins σ H s) (hf:∀ b∈ch,kW X pins H b) (k:∀ b o,b ∉ ch->s.heap.get? b=some o->h'.get? b=some o) :
  Inv X pins σ H { s with heap:=h',toks:=t' }:=by
 have nch:∀ b u,H b=some u->b ∉ ch:=fun b u e z=>by rw [(hf b z).1] at e;cases e
 refine I.step (g':=s.gens) (d':=s.drawn) (ch:=ch) (fun b hb=>?_) (fun b o _ _ hc e _=>k b o hc e) (fun b o _ _ hc e _=>⟨o.slots,k b o hc e⟩) (fun _ _ _ _ n=>n) (fun b o hc e=>⟨o,k b o hc e⟩) (fun _ _ e=>e) (fun _ _ _ e=>e)
  (fun b ps e=>⟨#[],by rw [e];simp⟩) (fun m hm=>?_) (fun b u e=>?_) I.bare
 ·obtain ⟨_,f1,_,f3,f4,f5⟩:=hf b hb
  exact ⟨f3,f1,f4,f5⟩
 ·obtain ⟨o,es,ep,ho,r⟩:=hm
  exact ⟨o,es,ep,k _ o (fun z=>(hf _ z).2.1 rfl) ho,r⟩
 ·refine (I.hok b u e).iP (fun c v hc q=>k c v ?_ q) (fun _ q=>q) fun _ _ q=>q
  rcases hc with z | z
  ·rw [z];exact nch b u e
  ·exact nch c _ z
theorem Inv.vQ {pins:List (Addr × Obj)}{σ:St}{H:Hp}{s:Shared}{h':Heap}{t':Nat}{ch:List Addr}{T:Addr}{o':HO} (I:Inv X pins σ H s) (hf:∀ b∈ch,kW X pins H b)
  (k:∀ b o,b ∉ ch->s.heap.get? b=some o->h'.get? b=some o) (hk2:∀ b o,s.heap.get? b=some o->∃ o',h'.get? b=some o') (hT:s.heap.objs.size<=T) (new:aX X.prog X.w (upd H T o') h' T o') :
  Inv X pins σ (upd H T o') { s with heap:=h',toks:=t' }:=by
 have nch:∀ b u,H b=some u->b ∉ ch:=fun b u e z=>by rw [(hf b z).1] at e;cases e
 have hTn:H T=none:=I.hok.fresh hT
 have neT:∀ b o,s.heap.get? b=some o->b≠T:=fun b o e=>Nat.ne_of_lt (Nat.lt_of_lt_of_le (Heap.lt_size e) hT)
 refine I.step (g':=s.gens) (d':=s.drawn) (ch:=ch) (fun b hb=>?_) (fun b o _ _ hc e _=>k b o hc e) (fun b o _ _ hc e _=>⟨o.slots,k b o hc e⟩) (fun b o _ e n=>by rw [av (neT b o e)];exact n) (fun b o hc e=>⟨o,k b o hc e⟩)
  (fun b xs e=>by rw [av (aO e hTn)];exact e) (fun b u xs e=>by rw [av (aO e hTn)];exact e) (fun b ps e=>⟨#[],by rw [av (aO e hTn),e];simp⟩) (fun m hm=>?_) (fun b u e=>?_) I.bare
 ·obtain ⟨_,f1,_,f3,f4,f5⟩:=hf b hb
  exact ⟨f3,f1,f4,f5⟩
 ·obtain ⟨o,es,ep,ho,r⟩:=hm
  exact ⟨o,es,ep,k _ o (fun z=>(hf _ z).2.1 rfl) ho,r⟩
 ·by_cases hb:b=T
  ·subst hb;rw [ay] at e;cases e;exact new
  ·rw [av hb] at e
   refine (I.hok b u e).iP (fun c v hc q=>k c v ?_ q) (fun c q=>by rw [av (aO q hTn)];exact q) fun c xs q=>by rw [av (aO q hTn)];exact q
   rcases hc with z | z
   ·rw [z];exact nch b u e
   ·exact nch c _ z
end
def Itz (K:PySem.W.Frag) (a b:Addr):It :=
 ⟨fun i H=>∃ xs ys x y,SqL K H a xs/\SqL K H b ys/\xs[i]?=some x/\ys[i]?=some y,
  fun i H v H'=>∃ x y p,(∀ xs,SqL K H a xs->xs[i]?=some x)/\(∀ ys,SqL K H b ys->ys[i]?=some y)/\v=.ref p/\H p=none/\H'=upd H p (.tup [x,y]),
  fun i H=>∃ xs ys,SqL K H a xs/\SqL K H b ys/\(xs.length<=i ∨ ys.length<=i)⟩
theorem vS {h:Heap}{a b z TI TO i1 i2:Addr}{i:Nat} (st:IsZip h z TI TO .none/\IsPair h TI (.ref i1) (.ref i2)/\(∃ x y,IsPair h TO x y)/\h.IsListIter i1 a i/\h.IsListIter i2 b i):∀ c∈[z,TI,TO,i1,i2],∃ o,h.get? c=some o/\∀ v,o.data≠.cell v:=fun c hc=>by
 obtain ⟨hz,hTI,⟨x,y,hTO⟩,⟨o1,e1,c1,d1⟩,⟨o2,e2,c2,d2⟩⟩:=st
 simp only [List.mem_cons,List.not_mem_nil,or_false] at hc
 rcases hc with rfl | rfl | rfl | rfl | rfl
 ·exact ⟨_,hz,fun v q=>by have q':Data.fields _=Data.cell v:=q;cases q'⟩
 ·exact ⟨_,hTI,fun v q=>by have q':Data.seq _ _=Data.cell v:=q;cases q'⟩
 ·exact ⟨_,hTO,fun v q=>by have q':Data.seq _ _=Data.cell v:=q;cases q'⟩
 ·exact ⟨o1,e1,fun v q=>by rw [d1] at q;cases q⟩
 ·exact ⟨o2,e2,fun v q=>by rw [d2] at q;cases q⟩
theorem zM {P:Program}{w:World}{K:PySem.W.Frag}{elts:List Expr}{k:Nat}{pos:Pos} (a b z TI TO i1 i2:Addr) (D:ZipApart z TI TO i1 i2 a b):Turn P w K (.Tuple elts k pos) (Itz K a b) [z,TI,TO,i1,i2] z
  (fun i h=>IsZip h z TI TO .none/\IsPair h TI (.ref i1) (.ref i2)/\(∃ x y,IsPair h TO x y)/\h.IsListIter i1 a i/\h.IsListIter i2 b i) where
 mem:=by simp
 obj:=fun i h st=>vS st
 keep:=fun i h h' st k=>by
  obtain ⟨hz,hTI,⟨x,y,hTO⟩,h1,h2⟩:=st
  exact ⟨k z (by simp) _ hz,k TI (by simp) _ hTI,⟨x,y,k TO (by simp) _ hTO⟩,h1.at fun o e=>k i1 (by simp) o e,h2.at fun o e=>k i2 (by simp) o e⟩
 item:=by
  intro X hP hw hK hc i pins s σ H E I hf st hg
  subst hP hw hK
  obtain ⟨xs,ys,x,y,hx,hy,ex,ey⟩:=hg
  obtain ⟨us,r1,p1,_⟩:=I.list hx
  obtain ⟨vs,r2,p2,_⟩:=I.list hy
  obtain ⟨u,hu,ru⟩:=r1.get ex
  obtain ⟨v,hv,rv⟩:=r2.get ey
  obtain ⟨hz,hTI,⟨ta,tb,hTO⟩,h1,h2⟩:=id st
  refine wpAny_pyNext_zip_item D hz hTI hTO h1 h2 p1.isList p2.isList (x:=u) (y:=v) (by simpa using hu) (by simpa using hv) fun h' a1 a2 a3 a4 a5 a6 a7=>?_
  refine ⟨_,rfl,wpAny_letOwnedTupleGo_zip (s:={ s with heap:=h' }) a1 fun h'' b1 b2=>?_⟩
  have b2':Heap.SameBut z h' h'':=b2
  have ne:∀ c∈[z,TI,TO,i1,i2],c < s.heap.objs.size:=fun c hc=>by
   obtain ⟨o,e,_⟩:=vS st c hc
   exact Heap.lt_size e
  have kk:∀ c o,c ∉ [z,TI,TO,i1,i2]->s.heap.get? c=some o->h''.get? c=some o:=fun c o hc e=>by
   simp only [List.mem_cons,List.not_mem_nil,or_false,not_or] at hc
   exact (b2'.2 c hc.1).trans (a7 c o hc.1 hc.2.2.1 hc.2.2.2.1 hc.2.2.2.2 e)
  have hT:h''.get? s.heap.objs.size=some { cls:=.type "tuple",data:=.seq #[u,v] }:=(b2'.2 _ (Nat.ne_of_gt (ne z (by simp)))).trans a5
  have I1:Inv X pins σ (upd H s.heap.objs.size (.tup [x,y])) { s with heap:=h'' }:=by
   refine I.vQ (t':=s.toks) (ch:=[z,TI,TO,i1,i2]) hf kk (fun c o e=>?_) (Nat.le_refl _) (show aX X.prog X.w _ h'' _ (.tup [x,y]) from ⟨by show 2<=sizeLine;decide,[u,v],.cons ru (.cons rv .nil),⟨_,hT,rfl,_,rfl⟩⟩)
   by_cases hc:c∈[z,TI,TO,i1,i2]
   ·simp only [List.mem_cons,List.not_mem_nil,or_false] at hc
    rcases hc with rfl | rfl | rfl | rfl | rfl
    ·exact ⟨_,b1⟩
    ·exact ⟨_,(b2'.2 _ D.TIz).trans (a7 _ _ D.TIz D.TITO D.TIi1 D.TIi2 hTI)⟩
    ·exact ⟨_,(b2'.2 _ D.TOz).trans a2⟩
    ·obtain ⟨o1,e1,_⟩:=a3;exact ⟨_,(b2'.2 _ D.i1z).trans e1⟩
    ·obtain ⟨o2,e2,_⟩:=a4;exact ⟨_,(b2'.2 _ D.i2z).trans e2⟩
   ·exact ⟨_,kk c o hc e⟩
  refine ⟨.ref s.heap.objs.size,_,I1,rfl,⟨x,y,_,fun zs hz=>by rw [I.j8 hz hx];exact ex,fun zs hz=>by rw [I.j8 hz hy];exact ey,rfl,I.hok.fresh (Nat.le_refl _),rfl⟩,⟨b1,(b2'.2 _ D.TIz).trans (a7 _ _ D.TIz D.TITO D.TIi1 D.TIi2 hTI),⟨u,v,(b2'.2 _ D.TOz).trans a2⟩,a3.at fun o e=>(b2'.2 _ D.i1z).trans e,a4.at fun o e=>(b2'.2 _ D.i2z).trans e⟩,fun c hc=>?_⟩
  rw [av (Nat.ne_of_lt (ne c hc))];exact (hf c hc).1
 done:=by
  intro X hP hw hK hc i pins s σ H E I hf st hg
  subst hP hw hK
  obtain ⟨xs,ys,hx,hy,hl⟩:=hg
  obtain ⟨us,r1,p1,_⟩:=I.list hx
  obtain ⟨vs,r2,p2,_⟩:=I.list hy
  obtain ⟨hz,hTI,⟨ta,tb,hTO⟩,h1,h2⟩:=id st
  have l1:=r1.length
  have l2:=r2.length
  refine wpAny_pyNext_zip_end (I.ok.hd hc) D hz hTI hTO h1 h2 p1.isList p2.isList ?_ fun h' kk=>⟨rfl,I.BY (t':=s.toks) (ch:=[z,TI,TO,i1,i2]) hf fun c o hc e=>?_⟩
  ·rcases hl with hl | hl
   ·exact .inl (by simp;omega)
   ·exact .inr (by simp;omega)
  ·simp only [List.mem_cons,List.not_mem_nil,or_false,not_or] at hc
   exact kk c o hc.1 hc.2.2.1 hc.2.2.2.1 hc.2.2.2.2 e
 self:=fun _ _ _ _ _ st h=>wpAny_pyIter_zip st.1 h
section
variable {X:Cx}
def Am (K:PySem.W.Frag) (ta:TA):TI:=fun σ H R=>ta σ H fun vs H1=>∃ a b,vs=[.ref a,.ref b]/\(∃ xs,SqL K H1 a xs)/\(∃ ys,SqL K H1 b ys)/\R (Itz K a b) H1
theorem boot_zip:bootBuiltins "zip"=some (.type "zip"):=by kernel_rfl
theorem Dh {elts:List Expr}{k:Nat}{tpos:Pos}{a b:Expr}{ta:TA}{p pos:Pos} (hg:Gl X "zip") (hm:X.mg "zip"=none) (ha:PA X [a,b] ta) (hs:starEach [a,b] X.env=[(false,eval a X.env),(false,eval b X.env)]:=by rfl)
  (hs2:starEach [b] X.env=[(false,eval b X.env)]:=by rfl):PI X (.Tuple elts k tpos) (.Call (.Name "zip" p) [a,b] [] pos) (Am X.K ta):=by
 intro pins s σ H R I h
 refine Call_ (jd I hg hm boot_zip (PyProof.Rows.callWith_type1 (thn (ha pos pins s σ H _ I h) fun us s1 ⟨vs,H1,I1,r1,q1⟩=>?_) (by rw [hs,hs2]) (by rw [hs2];rfl)))
 obtain ⟨l1,l2,e,⟨xs,hx⟩,⟨ys,hy⟩,q⟩:=q1
 subst e
 cases r1 with
 | cons r rr =>
  cases rr with
  | cons r' rr =>
   cases rr
   cases r
   cases r'
   obtain ⟨us,_,p1,_⟩:=I1.list hx
   obtain ⟨vs,_,p2,_⟩:=I1.list hy
   have a1:l1 < s1.heap.objs.size:=by obtain ⟨o,e,_⟩:=p1.isList;exact Heap.lt_size e
   have a2:l2 < s1.heap.objs.size:=by obtain ⟨o,e,_⟩:=p2.isList;exact Heap.lt_size e
   refine call_zip_2 p1.isList p2.isList fun h' hz hTI hTO hi1 hi2 hsz hk=>wpAny_pyIter_zip (s:={ s1 with heap:=h' }) hz ?_
   have I2:Inv X pins σ H1 { s1 with heap:=h' }:=I1.kept (t':=s1.toks) hk
   refine ⟨_,[s1.heap.objs.size + 4,s1.heap.objs.size + 2,s1.heap.objs.size + 3,s1.heap.objs.size,s1.heap.objs.size + 1],_,_,H1,rfl,I2,zM l1 l2 _ _ _ _ _ (zipApart_new a1 a2),⟨hz,hTI,⟨_,_,hTO⟩,hi1,hi2⟩,fun c hc=>?_,q⟩
   have hle:s1.heap.objs.size<=c:=by
    simp only [List.mem_cons,List.not_mem_nil,or_false] at hc
    rcases hc with rfl | rfl | rfl | rfl | rfl <;> omega
   exact I1.rh hle (I1.hok.fresh hle)
end
theorem CB {K:PySem.W.Frag}{a b:Addr}{H1:Hp}{xs ys:List V}{js:List Nat}{σ:St}{te:TE}{Q:VK} (hx:SqL K H1 a xs) (hy:SqL K H1 b ys) (hl:xs.length < sizeLine) (f:V->V->V)
  (he:∀ x y,(x,y)∈xs.zip ys->∀ H,ao H1 H->∀ R:VK,(∀ H',ao H H'->R (f x y) H')->te (some x::some y::js.map fun j=>(σ[j]?).join) H R)
  (q:∀ D H,H1 D=none->ao H1 H->H D=some (.lst ((xs.zip ys).map fun p=>f p.1 p.2))->Q (.ref D) H):dh (yt K 2 (kI (dH 0) (kI (dH 1) yr))) xv te (fL 2 js σ) (Itz K a b) H1 Q:=by
 intro D hD
 refine ⟨fun i m zs σ1 H=>m=(xs.zip ys).length - i/\i<=(xs.zip ys).length/\(∃ o1 o2,σ1=o1::o2::js.map fun j=>(σ[j]?).join)/\zs=((xs.zip ys).take i).map (fun p=>f p.1 p.2)/\ao H1 H/\H D=some (.lst zs),
  ⟨(xs.zip ys).length,by simp,Nat.zero_le _,⟨none,none,rfl⟩,by simp,(ao.refl H1).bD hD,ay⟩,?_⟩
 rintro i m zs σ1 H ⟨rfl,hi,⟨o1,o2,rfl⟩,rfl,sH,hL⟩
 have hzl:(xs.zip ys).length=min xs.length ys.length:=List.length_zip
 have hlen:(((xs.zip ys).take i).map fun p=>f p.1 p.2).length < sizeLine:=by
  rw [List.length_map,List.length_take];omega
 refine ⟨hL,hlen,?_⟩
 by_cases hlt:i < (xs.zip ys).length
 ·have h1:i < xs.length:=by omega
  have h2:i < ys.length:=by omega
  refine .inr ⟨⟨xs,ys,xs[i],ys[i],sH.seq hx,sH.seq hy,by simp [h1],by simp [h2]⟩,fun v H' hyl=>?_⟩
  obtain ⟨x,y,p,hx',hy',rfl,hp,rfl⟩:=hyl
  have ex:=hx' xs (sH.seq hx)
  have ey:=hy' ys (sH.seq hy)
  have ez:(xs.zip ys)[i]?=some (x,y):=zip_get ex ey
  have hm:(x,y)∈xs.zip ys:=List.mem_of_getElem? ez
  have htk:(xs.zip ys).take (i + 1)=(xs.zip ys).take i++[(x,y)]:=by rw [List.take_add_one,ez];rfl
  have hpD:D≠p:=aO hL hp
  refine ⟨p,[x,y],rfl,SqT.of ay,rfl,x,[y],rfl,y,[],rfl,rfl,?_⟩
  show te (some x::some y::js.map fun j=>(σ[j]?).join) _ _
  have s1:ao H1 (upd H p (.tup [x,y])):=sH.bD (sH.free hp)
  refine he x y hm _ s1 _ fun H4 s4=>?_
  refine ⟨s4 _ _ (by rw [av hpD];exact hL),(xs.zip ys).length - (i + 1),by omega,rfl,hlt,⟨_,_,rfl⟩,?_,(s1.trans s4).bD hD,ay⟩
  rw [htk,List.map_append];rfl
 ·have e:i=(xs.zip ys).length:=by omega
  subst e
  refine .inl ⟨⟨xs,ys,sH.seq hx,sH.seq hy,by omega⟩,q D H hD sH ?_⟩
  rw [List.take_length] at hL;exact hL
end L2

namespace L2
open PySem PySem.Spec PyProof.Rows
section
variable {X:Cx}
def nw (H:Hp) (o:HO) (Q:VK):Prop:=∀ p H',H p=none->ao H H'->H' p=some o->Q (.ref p) H'
theorem cg {H:Hp}{a:Addr}{o:HO} (hn:H a=none):ao H (upd H a o):=fun b u e=>by rw [av (aO e hn)];exact e
theorem nw.go {H:Hp}{o:HO}{Q:VK} (h:nw H o Q) (p:Addr) (hp:H p=none):Q (.ref p) (upd H p o):=h p _ hp (cg hp) ay
def vG:R2:=fun x y H Q=>match x,y with
 | .int i,.int j=>Q (.int (i + j)) H
 | .str a,.str b=>a.length + b.length<=sizeLine/\Q (.str (a++b)) H
 | .ref l,.ref b=>∃ xs zs,H l=some (.lst xs)/\H b=some (.lst zs)/\xs.length + zs.length<=sizeLine/\nw H (.lst (xs++zs)) Q
 | _,_=>False
theorem aR:OpR X (binaryOp .Add) vG:=by
 intro pins s σ H x y v u Q I rx ry h
 cases x with
 | int i=>cases y with
  | int j=>exact CJ pins s σ H _ _ v u Q I rx ry ⟨_,_,rfl,rfl,h⟩
  | _=>exact False.elim h
 | str a=>cases y with
  | str b=>exact tK pins s σ H _ _ v u Q I rx ry ⟨_,_,rfl,rfl,h.1,h.2⟩
  | _=>exact False.elim h
 | ref l=>cases y with
  | ref b =>
   obtain ⟨xs,zs,h1,h2,h3,h4⟩:=h
   exact CK pins s σ H _ _ v u Q I rx ry ⟨_,_,xs,zs,rfl,rfl,h1,h2,h3,h4.go⟩
  | _=>exact False.elim h
 | _=>exact False.elim h
def BF:R2:=fun x y H Q=>match x,y with
 | .int i,.int j=>Q (.int (i - j)) H
 | _,_=>False
theorem qd:OpR X (binaryOp .Sub) BF:=by
 intro pins s σ H x y v u Q I rx ry h
 cases x with
 | int i=>cases y with
  | int j=>exact CY pins s σ H _ _ v u Q I rx ry ⟨_,_,rfl,rfl,h⟩
  | _=>exact False.elim h
 | _=>exact False.elim h
def BC:R2:=fun x y H Q=>match x,y with
 | .int i,.int j=>Cb i j/\Q (.int (i * j)) H
 | .ref l,.int k=>∃ xs,H l=some (.lst xs)/\-(2 ^ 63)<=k/\k < 2 ^ 63/\xs.length * k.toNat<=sizeLine/\nw H (.lst (List.replicate k.toNat xs).flatten) Q
 | _,_=>False
theorem Ay:OpR X (binaryOp .Mult) BC:=by
 intro pins s σ H x y v u Q I rx ry h
 cases x with
 | int i=>cases y with
  | int j=>exact Az pins s σ H _ _ v u Q I rx ry ⟨_,_,rfl,rfl,h.1,h.2⟩
  | _=>exact False.elim h
 | ref l=>cases y with
  | int k =>
   obtain ⟨xs,h1,h2,h3,h4,h5⟩:=h
   exact CW pins s σ H _ _ v u Q I rx ry ⟨_,_,xs,rfl,rfl,h1,h2,h3,h4,h5.go⟩
  | _=>exact False.elim h
 | _=>exact False.elim h
def zk:R2:=fun x y H Q=>match x,y with
 | .int i,.int j=>(0 < j/\j < 2 ^ 1000)/\Q (.int (i / j)) H
 | _,_=>False
theorem bU:OpR X (binaryOp .FloorDiv) zk:=by
 intro pins s σ H x y v u Q I rx ry h
 cases x with
 | int i=>cases y with
  | int j=>exact yR pins s σ H _ _ v u Q I rx ry ⟨_,_,rfl,rfl,h.1,h.2⟩
  | _=>exact False.elim h
 | _=>exact False.elim h
def B6:R2:=fun x y H Q=>match x,y with
 | .int i,.int j=>0 < j/\Q (.int (i % j)) H
 | _,_=>False
theorem bc:OpR X (binaryOp .Mod) B6:=by
 intro pins s σ H x y v u Q I rx ry h
 cases x with
 | int i=>cases y with
  | int j=>exact CQ pins s σ H _ _ v u Q I rx ry ⟨_,_,rfl,rfl,h.1,h.2⟩
  | _=>exact False.elim h
 | _=>exact False.elim h
def BD:R2:=fun x y H Q=>match x,y with
 | .int i,.int j=>(0<=j/\j<=1000000/\i.natAbs < 2 ^ 64)/\Q (.int (i ^ j.toNat)) H
 | _,_=>False
theorem A3:OpR X (binaryOp .Pow) BD:=by
 intro pins s σ H x y v u Q I rx ry h
 cases x with
 | int i=>cases y with
  | int j=>exact CV pins s σ H _ _ v u Q I rx ry ⟨_,_,rfl,rfl,h.1,h.2⟩
  | _=>exact False.elim h
 | _=>exact False.elim h
def oN (f:Int->Int->Bool):R2:=fun x y H Q=>match x,y with
 | .int i,.int j=>Q (.bl (f i j)) H
 | _,_=>False
theorem lB {op:CmpOp}{f:Int->Int->Bool} (h0:OpR X (compareOp op) (rI0 fun i j=>.bl (f i j))):OpR X (compareOp op) (oN f):=by
 intro pins s σ H x y v u Q I rx ry h
 cases x with
 | int i=>cases y with
  | int j=>exact h0 pins s σ H _ _ v u Q I rx ry ⟨_,_,rfl,rfl,h⟩
  | _=>exact False.elim h
 | _=>exact False.elim h
abbrev EF:R2:=oN fun i j=>decide (i < j)
abbrev EE:R2:=oN fun i j=>decide (i<=j)
abbrev E9:R2:=oN fun i j=>decide (j < i)
abbrev E8:R2:=oN fun i j=>decide (j<=i)
theorem jh:OpR X (compareOp .Lt) EF:=lB DN
theorem gv:OpR X (compareOp .LtE) EE:=lB DM
theorem mO:OpR X (compareOp .Gt) E9:=lB DL
theorem CN:OpR X (compareOp .GtE) E8:=lB DJ
def AM (K:PySem.W.Frag):R2:=fun x y H Q=>match x,y with
 | .int i,.int j=>Q (.bl (decide (i=j))) H
 | .bl i,.bl j=>Q (.bl (decide (i=j))) H
 | .str i,.str j=>Q (.bl (decide (i=j))) H
 | .ref a,.ref b=>∃ xs ys,SqL K H a xs/\SqL K H b ys/\xs.all cu=true/\ys.all cu=true/\Q (.bl (kX xs ys)) H
 | _,_=>False
def zr (K:PySem.W.Frag):R2:=fun x y H Q=>match x,y with
 | .int i,.int j=>Q (.bl (!decide (i=j))) H
 | .bl i,.bl j=>Q (.bl (!decide (i=j))) H
 | .str i,.str j=>Q (.bl (!decide (i=j))) H
 | .ref a,.ref b=>∃ xs ys,SqL K H a xs/\SqL K H b ys/\xs.all cu=true/\ys.all cu=true/\Q (.bl (!kX xs ys)) H
 | _,_=>False
theorem qQ (i j:Int):decide (V.int i=V.int j)=decide (i=j):=by
 by_cases e:i=j
 ·subst e;simp
 ·rw [decide_eq_false e];exact decide_eq_false fun h=>e (V.int.inj h)
theorem uX (i j:Bool):decide (V.bl i=V.bl j)=decide (i=j):=by
 by_cases e:i=j
 ·subst e;simp
 ·rw [decide_eq_false e];exact decide_eq_false fun h=>e (V.bl.inj h)
theorem qR (i j:Str):decide (V.str i=V.str j)=decide (i=j):=by
 by_cases e:i=j
 ·subst e;simp
 ·rw [decide_eq_false e];exact decide_eq_false fun h=>e (V.str.inj h)
theorem CM (hu:X.A.units < cLine):OpR X (compareOp .Eq) (AM X.K):=by
 intro pins s σ H x y v u Q I rx ry h
 cases x with
 | int i=>cases y with
  | int j=>exact yQ pins s σ H _ _ v u Q I rx ry ⟨rfl,by rw [qQ];exact h⟩
  | _=>exact False.elim h
 | bl i=>cases y with
  | bl j=>exact yQ pins s σ H _ _ v u Q I rx ry ⟨rfl,by rw [uX];exact h⟩
  | _=>exact False.elim h
 | str i=>cases y with
  | str j=>exact yQ pins s σ H _ _ v u Q I rx ry ⟨rfl,by rw [qR];exact h⟩
  | _=>exact False.elim h
 | ref a=>cases y with
  | ref b =>
   obtain ⟨xs,ys,h1,h2,h3,h4,h5⟩:=h
   exact CL hu pins s σ H _ _ v u Q I rx ry ⟨_,_,xs,ys,rfl,rfl,h1,h2,h3,h4,h5⟩
  | _=>exact False.elim h
 | _=>exact False.elim h
theorem CU (hu:X.A.units < cLine):OpR X (compareOp .NotEq) (zr X.K):=by
 intro pins s σ H x y v u Q I rx ry h
 cases x with
 | int i=>cases y with
  | int j=>exact yU pins s σ H _ _ v u Q I rx ry ⟨rfl,by rw [qQ];exact h⟩
  | _=>exact False.elim h
 | bl i=>cases y with
  | bl j=>exact yU pins s σ H _ _ v u Q I rx ry ⟨rfl,by rw [uX];exact h⟩
  | _=>exact False.elim h
 | str i=>cases y with
  | str j=>exact yU pins s σ H _ _ v u Q I rx ry ⟨rfl,by rw [qR];exact h⟩
  | _=>exact False.elim h
 | ref a=>cases y with
  | ref b =>
   obtain ⟨xs,ys,h1,h2,h3,h4,h5⟩:=h
   exact CS hu pins s σ H _ _ v u Q I rx ry ⟨_,_,xs,ys,rfl,rfl,h1,h2,h3,h4,h5⟩
  | _=>exact False.elim h
 | _=>exact False.elim h
def isV:V->V->Option Bool
 | .non,.non=>some true
 | .bl _,.non=>some false
 | .int _,.non=>some false
 | .str _,.non=>some false
 | .ref _,.non=>some false
 | .bl a,.bl b=>some (a == b)
 | _,_=>none
def tQ (neg:Bool):R2:=fun x y H Q=>match isV x y with
 | some b=>Q (.bl (b != neg)) H
 | none=>False
theorem cZ:OpR X (compareOp .Is) (tQ false):=by
 intro pins s σ H x y v u Q I rx ry h
 cases x <;> cases y <;> first
  | exact False.elim h
  | exact CP pins s σ H _ _ v u Q I rx ry ⟨rfl,h⟩
  | exact yT pins s σ H _ _ v u Q I rx ry ⟨_,_,rfl,rfl,by simpa [tQ,isV] using h⟩
theorem gK:OpR X (compareOp .IsNot) (tQ true):=by
 intro pins s σ H x y v u Q I rx ry h
 cases x <;> cases y <;> first
  | exact False.elim h
  | exact A0 pins s σ H _ _ v u Q I rx ry ⟨rfl,h⟩
  | exact rO pins s σ H _ _ v u Q I rx ry ⟨_,_,rfl,rfl,by simpa [tQ,isV,bne] using h⟩
def Sq (K:PySem.W.Frag) (H:Hp) (a:Addr) (xs:List V):Prop:=SqL K H a xs ∨ SqT K H a xs
theorem Sq.l {K:PySem.W.Frag}{H:Hp}{a:Addr}{xs:List V} (h:H a=some (.lst xs)):Sq K H a xs:=.inl (.of h)
theorem Sq.t {K:PySem.W.Frag}{H:Hp}{a:Addr}{xs:List V} (h:H a=some (.tup xs)):Sq K H a xs:=.inr (.of h)
def AO (K:PySem.W.Frag):R2:=fun x y H Q=>match x,y with
 | .ref p,.int i=>∃ xs v,Sq K H p xs/\atI xs i=some v/\Q v H
 | .str z,.int i=>z.length<=sizeLine/\∃ c,atI z.cps.toList i=some c/\Q (.str ⟨#[c]⟩) H
 | _,_=>False
theorem E2:IxR X (AO X.K):=by
 intro value slice pins s σ H x y v u Q I rx ry h hs
 cases x with
 | ref p=>cases y with
  | int i =>
   obtain ⟨xs,w',h1 | h1,h2,h3⟩:=h
   ·exact Ao value slice pins s σ H _ _ v u Q I rx ry ⟨_,xs,_,w',rfl,rfl,h1,h2,h3⟩ hs
   ·exact Cw value slice pins s σ H _ _ v u Q I rx ry ⟨_,xs,_,w',rfl,rfl,h1,h2,h3⟩ hs
  | _=>exact False.elim h
 | str z=>cases y with
  | int i =>
   obtain ⟨h1,c,h2,h3⟩:=h
   exact Cv value slice pins s σ H _ _ v u Q I rx ry ⟨z,i,c,rfl,rfl,h1,h2,h3⟩ hs
  | _=>exact False.elim h
 | _=>exact False.elim h
def vJ (K:PySem.W.Frag):List V->Hp->VK->Prop:=fun vs H Q=>match vs with
 | [.str z]=>z.length<=sizeLine/\Q (.int z.length) H
 | [.ref p]=>∃ xs,Sq K H p xs/\Q (.int xs.length) H
 | _=>False
theorem wa:bE X (.builtin "len") (vJ X.K):=by
 intro pins s σ H xs us Q I r h
 match xs,h with
 | [.str z],h=>exact pj pins s σ H _ us Q I r ⟨z,rfl,h.1,h.2⟩
 | [.ref p],h =>
  obtain ⟨ys,h1,h2⟩:=h
  exact ph pins s σ H _ us Q I r ⟨p,ys,rfl,h1,h2⟩
def Bx:List V->Hp->VK->Prop:=fun vs H Q=>match vs with
 | [.int i]=>Q (.int (i.natAbs:Int)) H
 | _=>False
theorem kf:bE X (.builtin "abs") Bx:=by
 intro pins s σ H xs us Q I r h
 match xs,h with
 | [.int i],h =>
  refine xW pins s σ H _ us Q I r ⟨i,rfl,?_⟩
  have e:(if i < 0 then -i else i)=((i.natAbs:Nat):Int):=by split <;> omega
  rw [e];exact h
def B3:List V->Hp->VK->Prop:=fun vs H Q=>match vs with
 | [.int i,.int j]=>Q (.int (max i j)) H
 | _=>False
theorem wc (hc:X.calm=true):bE X (.builtin "max") B3:=by
 intro pins s σ H xs us Q I r h
 match xs,h with
 | [.int i,.int j],h =>
  refine wb hc pins s σ H _ us Q I r ⟨i,j,rfl,?_⟩
  have e:(if j > i then j else i)=max i j:=by
   rw [Int.max_def];split <;> split <;> omega
  rw [e];exact h
def tT (K:PySem.W.Frag):List V->Hp->VK->Prop:=fun vs H Q=>match vs with
 | [.ref a]=>∃ ys,(Sq K H a ys ∨ ∃ lo hi,H a=some (.rng lo hi)/\(-(2 ^ 62)<=lo/\lo < 2 ^ 62/\-(2 ^ 62)<=hi/\hi < 2 ^ 62)/\(hi - lo).toNat<=2 ^ 20/\ys=qi lo (hi - lo).toNat)/\nw H (.lst ys) Q
 | _=>False
theorem sQ (hc:X.calm=true):bE X (.type "list") (tT X.K):=by
 intro pins s σ H xs us Q I r h
 match xs,h with
 | [.ref a],h =>
  obtain ⟨ys,h1 | ⟨lo,hi,h1,h2,h3,rfl⟩,h4⟩:=h
  ·exact pq pins s σ H _ us Q I r ⟨a,ys,rfl,h1,h4.go⟩
  ·exact pk hc pins s σ H _ us Q I r ⟨a,lo,hi,rfl,h1,h2,h3,h4.go⟩
theorem bt_isinstance:bootBuiltins "isinstance"=some (.builtin "isinstance"):=by kernel_rfl
theorem sM:bootBuiltins "abs"=some (.builtin "abs"):=by kernel_rfl
theorem aU:bootBuiltins "len"=some (.builtin "len"):=by kernel_rfl
theorem ke:bootBuiltins "all"=some (.builtin "all"):=by kernel_rfl
theorem sN:bootBuiltins "max"=some (.builtin "max"):=by kernel_rfl
theorem vW:bootBuiltins "sorted"=some (.builtin "sorted"):=by kernel_rfl
theorem pe:bootBuiltins "list"=some (.type "list"):=by kernel_rfl
theorem xV:bootBuiltins "tuple"=some (.type "tuple"):=by kernel_rfl
theorem xU:bootBuiltins "int"=some (.type "int"):=by kernel_rfl
theorem pf:bootBuiltins "str"=some (.type "str"):=by kernel_rfl
theorem uQ:bootBuiltins "bool"=some (.type "bool"):=by kernel_rfl
theorem Cj:bootBuiltins "set"=some (.type "set"):=by kernel_rfl
theorem pd:bootBuiltins "enumerate"=some (.type "enumerate"):=by kernel_rfl
theorem DQ {x:Str}{T:String}{pos:Pos} (hg:Gl X x) (hm:X.mg x=none) (hv:bootBuiltins x=some (.type T)) (hn:x≠"__name__":=by decide) (hd:(x == ("__debug__":Str))=false:=by decide):PE X (.Name x pos) (tC (.ty T)) :=
 A6 hg hm hv rfl hn hd
structure Fnc (P:Program) (w:World) (K:PySem.W.Frag) (mg:Str->Option Value) (base:Heap) (CX:CXT) (k:Nat) (x:Str) (ps:List Str) (sp:Sp):Prop where
 ex:∃ (f:Addr) (fd:FuncData),aW P w K mg base CX k f fd ps sp/\mg x=some (.ref f)/\PySem.W.keepIn K (.ref f)=true/\Binds K fd ps []
theorem yW {CX:CXT}{E:St->XK}{k:Nat}{x:Str}{ps:List Str}{sp:Sp}{e:Expr}{es:List Expr}{t:TA}{p pos:Pos} (C:Fnc X.prog X.w X.K X.mg X.base CX k x ps sp) (hx:Passes CX X E) (hr:bq k X.A) (hg:Gl X x) (ha:PA X (e::es) t)
  (hd:(x == ("__debug__":Str))=false:=by decide)
  (he:starEach (e::es) X.env=(false,eval e X.env)::starEach es X.env:=by rfl) (hpl:(backTo pos (starEach es X.env)).any (·.1)=false:=by rfl):PE X (.Call (.Name x p) (e::es) [] pos) (oU sp [] E t):=by
 obtain ⟨f,fd,F,hm,hk,hb⟩:=C.ex
 exact A8 F hr hg hm hk hb .nil hx ha hd he hpl
end
def gG (g:TG) (tb:TS) (D:Ends) (J:It) (σ:St) (H:Hp):Prop:=∃ W:Nat->Nat->St->Hp->Prop,(∃ m,W 0 m σ H)/\∀ i m σ H,W i m σ H →
 (J.stop i H/\D.nx σ H) ∨ (J.go i H/\∃ N:St->Hp->Prop,(∀ σ' H',N σ' H'->∃ m',m' < m/\W (i + 1) m' σ' H')/\∀ x H',J.yld i H x H'->g x σ H' fun σ2 H2=>tb { D with nx:=N,ct:=N,bk:=D.nx } σ2 H2)
theorem vo {lo:Int}{n:Nat}{g:TG}{tb:TS}{D:Ends}{σ:St}{H:Hp} (Pv:Nat->St->Hp->Prop) (h0:Pv 0 σ H)
  (hs:∀ i σ H,i < n->Pv i σ H->g (.int (lo + i)) σ H fun σ2 H2=>tb { D with nx:=Pv (i + 1),ct:=Pv (i + 1),bk:=D.nx } σ2 H2) (hd:∀ σ H,Pv n σ H->D.nx σ H):gG g tb D (Itr lo n) σ H:=wG Pv h0 hs hd
theorem vn {K:PySem.W.Frag}{a:Addr}{xs:List V}{g:TG}{tb:TS}{D:Ends}{σ:St}{H:Hp} (Pv:Nat->St->Hp->Prop) (h0:Pv 0 σ H) (hl:∀ i σ H,i<=xs.length->Pv i σ H->SqL K H a xs)
  (hs:∀ i x σ H,xs[i]?=some x->Pv i σ H->g x σ H fun σ2 H2=>tb { D with nx:=Pv (i + 1),ct:=Pv (i + 1),bk:=D.nx } σ2 H2) (hd:∀ σ H,Pv xs.length σ H->D.nx σ H):gG g tb D (Itl K a) σ H:=yo Pv h0 hl hs hd
def BR (t:TA):TE:=fun σ H Q=>t σ H fun xs H1=>xs.length<=sizeLine/\nw H1 (.lst xs) Q
def BW (t:TA):TE:=fun σ H Q=>t σ H fun xs H1=>xs.length<=sizeLine/\nw H1 (.tup xs) Q
def zF:TE:=fun _ H Q=>nw H (.dK []) Q
theorem bh {X:Cx}{es:List Expr}{t:TA}{pos:Pos} (h:PA X es t):PE X (.List es pos) (BR t):=by
 intro pins s σ H Q I hq
 refine wpAny_List_spliced (thn (h pos pins s σ H _ I hq) fun us s1 ⟨xs,H1,I1,r,z,q⟩=>⟨by rw [← r.length];exact z,?_⟩)
 have hf:H1 s1.heap.objs.size=none:=I1.hok.fresh (Nat.le_refl _)
 refine ⟨.ref s1.heap.objs.size,upd H1 s1.heap.objs.size (.lst xs),I1.laid (t':=s1.toks) (fun b u e=>Heap.get?_push_of_some _ e) (Nat.le_refl _) ?_,rfl,nw.go q _ hf⟩
 exact ⟨z,us,0,r,Heap.get?_push_size _ rfl⟩
theorem cK {X:Cx}{es:List Expr}{t:TA}{pos:Pos}{x1} (h:PA X es t):PE X (.Tuple es x1 pos) (BW t):=by
 intro pins s σ H Q I hq
 refine wpAny_Tuple_spliced (thn (h pos pins s σ H _ I hq) fun us s1 ⟨xs,H1,I1,r,z,q⟩=>⟨by rw [← r.length];exact z,?_⟩)
 have hf:H1 s1.heap.objs.size=none:=I1.hok.fresh (Nat.le_refl _)
 refine ⟨.ref s1.heap.objs.size,upd H1 s1.heap.objs.size (.tup xs),I1.laid (t':=s1.toks) (fun b u e=>Heap.get?_push_of_some _ e) (Nat.le_refl _) ?_,rfl,nw.go q _ hf⟩
 exact ⟨z,us,r,⟨_,Heap.get?_push_size _ rfl,rfl,_,rfl⟩⟩
theorem rQ {X:Cx}{pos:Pos}:PE X (.Dict [] [] pos) zF:=fun pins s σ H Q I h=>zb pins s σ H Q I (nw.go h)
section
variable {σ:St}{H:Hp}{Q:VK}{D:Ends}
theorem cY {t u:TS}:zJ t u D σ H=t { D with nx:=u D } σ H:=propext Iff.rfl
theorem xE {te:TE}{g:TG}:xu te g D σ H=te σ H fun x H1=>g x σ H1 D.nx:=propext Iff.rfl
theorem qE {i:Nat}{v:V}{R:St->Hp->Prop}:dH i v σ H R=R (σ.set i (some v)) H:=propext Iff.rfl
theorem xS {i:Nat}:nv i σ H Q=∃ v,σ[i]?=some (some v)/\Q v H:=propext Iff.rfl
theorem D9 {v:V}:tC v σ H Q=Q v H:=propext Iff.rfl
theorem Bn {r:R2}{ta tb:TE}:tOp r ta tb σ H Q=ta σ H fun x H1=>tb σ H1 fun y H2=>r x y H2 Q:=propext Iff.rfl
theorem Bq {r:V->Hp->VK->Prop}{ta:TE}:tUn r ta σ H Q=ta σ H fun x H1=>r x H1 Q:=propext Iff.rfl
theorem Bi {r:List V->Hp->VK->Prop}{t:TA}:tCB r t σ H Q=t σ H fun vs H1=>r vs H1 Q:=propext Iff.rfl
theorem uy {ta:TE}{tr:TA}{R:List V->Hp->Prop}:oV ta tr σ H R=ta σ H fun x H1=>tr σ H1 fun xs H2=>R (x::xs) H2:=propext Iff.rfl
theorem xK {R:List V->Hp->Prop}:uf σ H R=R [] H:=propext Iff.rfl
theorem ux {sp:Sp}{E:St->XK}{t:TA}:oU sp [] E t σ H Q=t σ H fun vs H1=>sp vs H1 Q (E σ):=by
 show (t σ H fun vs H1=>sp (vs++[]) H1 Q (E σ))=_
 simp only [List.append_nil]
theorem xO {te:TE}:Dw te D σ H=te σ H D.rt:=propext Iff.rfl
theorem Bk {c:TT}{t u:TS}:Dv c t u D σ H=c σ H fun b H1=>if b=true then t D σ H1 else u D σ H1:=propext Iff.rfl
theorem uF:zI D σ H=D.nx σ H:=propext Iff.rfl
theorem u6 {te:TE}:BO te D σ H=te σ H fun _ H1=>D.nx σ H1:=propext Iff.rfl
theorem uK {t:TE}{R:Bool->Hp->Prop}:sr t σ H R=t σ H fun x H'=>∃ k,x=.bl k/\R k H':=propext Iff.rfl
theorem D8 {t:TE}{R:Bool->Hp->Prop}:tB t σ H R=t σ H fun x H'=>∃ k,x=.bl k/\R k H':=propext Iff.rfl
theorem xM {t:TT}{R:Bool->Hp->Prop}:Ec t σ H R=t σ H fun c H1=>R (!c) H1:=propext Iff.rfl
theorem xD {t u:TT}{R:Bool->Hp->Prop}:DZ t u σ H R=t σ H fun c H1=>if c=true then u σ H1 R else R false H1:=propext Iff.rfl
theorem Bo {t u:TT}{R:Bool->Hp->Prop}:tOr t u σ H R=t σ H fun c H1=>if c=true then R true H1 else u σ H1 R:=propext Iff.rfl
theorem uw {ta tb:TE}:BN ta tb σ H Q=ta σ H fun x H1=>∃ c,x=.bl c/\if c=true then tb σ H1 Q else Q (.bl false) H1:=propext Iff.rfl
theorem uG {ta:TE}:BU ta σ H Q=ta σ H fun x H1=>∃ c,x=.bl c/\Q (.bl (!c)) H1:=propext Iff.rfl
theorem xI {t:TT}{ta tb:TE}:tIf t ta tb σ H Q=t σ H fun c H1=>if c=true then ta σ H1 Q else tb σ H1 Q:=propext Iff.rfl
theorem xJ {t:TA}:BR t σ H Q=t σ H fun xs H1=>xs.length<=sizeLine/\nw H1 (.lst xs) Q:=propext Iff.rfl
theorem xQ {t:TA}:BW t σ H Q=t σ H fun xs H1=>xs.length<=sizeLine/\nw H1 (.tup xs) Q:=propext Iff.rfl
theorem u4:zF σ H Q=nw H (.dK []) Q:=propext Iff.rfl
theorem Bm {k:Nat}{js:List Nat}{wi:TI}{g:TG}{tc:TT}{te:TE}:tLC k js wi g tc te σ H Q=wi σ H fun J H1=>dh g tc te (fL k js σ) J H1 Q:=propext Iff.rfl
theorem Bp {r:V->Option Int->Option Int->Hp->VK->Prop}{te:TE}{tl th:TO}:tSl r te tl th σ H Q=te σ H fun x H1=>tl σ H1 fun l H2=>th σ H2 fun u H3=>r x l u H3 Q:=propext Iff.rfl
theorem nJ {R:Option Int->Hp->Prop}:vP σ H R=R none H:=propext Iff.rfl
theorem uH {t:TE}{R:Option Int->Hp->Prop}:BV t σ H R=t σ H fun x H1=>∃ i,x=.int i/\R (some i) H1:=propext Iff.rfl
theorem qG {ta:TA}{R:It->Hp->Prop}:y0 ta σ H R=ta σ H fun vs H1=>∃ j:Int,vs=[.int j]/\-(2 ^ 62)<=j/\j < 2 ^ 62/\R (Itr 0 j.toNat) H1:=propext Iff.rfl
theorem qH {ta:TA}{R:It->Hp->Prop}:y3 ta σ H R=ta σ H fun vs H1=>∃ i j:Int,vs=[.int i,.int j]/\(-(2 ^ 62)<=i/\i < 2 ^ 62/\-(2 ^ 62)<=j/\j < 2 ^ 62)/\R (Itr i (j - i).toNat) H1:=propext Iff.rfl
theorem uB {K:PySem.W.Frag}{ta:TA}{R:It->Hp->Prop}:Am K ta σ H R=ta σ H fun vs H1=>∃ a b,vs=[.ref a,.ref b]/\(∃ xs,SqL K H1 a xs)/\(∃ ys,SqL K H1 b ys)/\R (Itz K a b) H1:=propext Iff.rfl
theorem xH {wi:TI}{g:TG}{tb:TS}:Ea wi g tb D σ H=wi σ H fun J H1=>gG g tb D J σ H1:=propext Iff.rfl
theorem xN {i j:Nat}{ta:TA}:Ed i j ta D σ H=ta σ H fun vs H1=>∃ v w,vs=[v,w]/\D.nx ((σ.set i (some v)).set j (some w)) H1:=propext Iff.rfl
theorem Bh {K:PySem.W.Frag}{T:String}{r:V->List V->Hp->VK->Prop}{to:TE}{t:TA}:tBM K T r to t σ H Q=to σ H fun x H1=>tyV K T x H1/\t σ H1 fun xs H2=>r x xs H2 Q:=propext Iff.rfl
theorem xF {K:PySem.W.Frag}{T:String}{r:V->List V->Hp->VK->Prop}{to:TE}:Ds K T r to σ H Q=to σ H fun x H1=>tyV K T x H1/\r x [] H1 Q:=propext Iff.rfl
theorem qA {r r':R2}{ta tb tc:TE}:ud r r' ta tb tc σ H Q=ta σ H fun x H1=>tb σ H1 fun y H2=>r x y H2 fun z H3=>∃ k,z=.bl k/\if k=true then tc σ H3 fun v H4=>r' y v H4 Q else Q (.bl false) H3:=propext Iff.rfl
theorem yj {b:Bool}{P:Bool->Prop}:(∃ k,V.bl b=V.bl k/\P k)=P b:=propext ⟨fun ⟨k,e,h⟩=>by cases e;exact h,fun h=>⟨b,rfl,h⟩⟩
theorem sT {b:Int}{P:Int->Prop}:(∃ k,V.int b=V.int k/\P k)=P b:=propext ⟨fun ⟨k,e,h⟩=>by cases e;exact h,fun h=>⟨b,rfl,h⟩⟩
theorem sU {b:Addr}{P:Addr->Prop}:(∃ k,V.ref b=V.ref k/\P k)=P b:=propext ⟨fun ⟨k,e,h⟩=>by cases e;exact h,fun h=>⟨b,rfl,h⟩⟩
theorem vh {b:Int}{P:Int->Prop}:(∃ k,[V.int b]=[V.int k]/\P k)=P b:=propext ⟨fun ⟨k,e,h⟩=>by cases e;exact h,fun h=>⟨b,rfl,h⟩⟩
theorem vi {b c:Int}{P:Int->Int->Prop}:(∃ k l,[V.int b,V.int c]=[V.int k,V.int l]/\P k l)=P b c:=propext ⟨fun ⟨k,l,e,h⟩=>by cases e;exact h,fun h=>⟨b,c,rfl,h⟩⟩
theorem vj {b c:Addr}{P:Addr->Addr->Prop}:(∃ k l,[V.ref b,V.ref c]=[V.ref k,V.ref l]/\P k l)=P b c:=propext ⟨fun ⟨k,l,e,h⟩=>by cases e;exact h,fun h=>⟨b,c,rfl,h⟩⟩
theorem yk {b c:V}{P:V->V->Prop}:(∃ k l,[b,c]=[k,l]/\P k l)=P b c:=propext ⟨fun ⟨k,l,e,h⟩=>by cases e;exact h,fun h=>⟨b,c,rfl,h⟩⟩
theorem vk {v:V}{P:V->Prop}:(∃ k,some (some v)=some (some k)/\P k)=P v:=propext ⟨fun ⟨k,e,h⟩=>by cases e;exact h,fun h=>⟨v,rfl,h⟩⟩
theorem sk {N:List Str}{vs:List V}:start N vs=vs.map some++List.replicate (N.length - vs.length) none:=rfl
end
inductive Tg where
 | non | bl | int | str | lst | tup | dct
 deriving DecidableEq
def Tg.name:Tg->String
 | .non=>"NoneType" | .bl=>"bool" | .int=>"int" | .str=>"str" | .lst=>"list" | .tup=>"tuple" | .dct=>"dict"
def Tg.sub:Tg->Tg->Bool
 | .non,.non=>true | .bl,.bl=>true | .int,.int=>true | .str,.str=>true | .lst,.lst=>true | .tup,.tup=>true | .dct,.dct=>true
 | .bl,.int=>true
 | _,_=>false
def gB:Option HO->Option Tg
 | some (.lst _)=>some .lst | some (.frz _ (.lst _))=>some .lst | some (.tup _)=>some .tup | some (.dK _)=>some .dct | some (.dT _)=>some .dct
 | _=>none
def cP (H:Hp):V->Option Tg
 | .non=>some .non | .bl _=>some .bl | .int _=>some .int | .str _=>some .str | .ref a=>gB (H a)
 | _=>none
theorem yE (K:PySem.W.Frag):∀ t c:Tg,c≠.non->PySem.W.kitOne K (.type t.name) (.type c.name)=some (t.sub c):=by
 intro t c h
 cases t <;> cases c <;> first
  | exact absurd rfl h
  | rfl
  | kernel_rfl
  | decide +kernel
theorem Dx {K:PySem.W.Frag}{H:Hp}{x:V}{t:Tg} (h:cP H x=some t):iX K H x (.type t.name):=by
 cases x with
 | non=>cases h;exact .non
 | bl b=>cases h;exact .bl b
 | int i=>cases h;exact .int i
 | str z=>cases h;exact .str z
 | ref a =>
  have h':gB (H a)=some t:=h
  cases e:H a with
  | none=>rw [e] at h';cases h'
  | some o =>
   rw [e] at h'
   cases o with
   | lst xs=>cases h';exact .lst e
   | tup xs=>cases h';exact .tup e
   | dK kvs=>cases h';exact .dK e
   | dT kvs=>cases h';exact .dT e
   | frz ob u=>cases u with
    | lst xs=>cases h';exact .frz e
    | _=>cases h'
   | _=>cases h'
 | _=>cases h
def By (c:Tg):List V->Hp->VK->Prop:=fun vs H Q=>match vs with
 | [x,.ty n]=>n=c.name/\∃ t,cP H x=some t/\Q (.bl (t.sub c)) H
 | _=>False
theorem bY {X:Cx} (c:Tg) (hc:c≠.non:=by decide):bE X (.builtin "isinstance") (By c):=by
 intro pins s σ H xs us Q I r h
 match xs,h with
 | [x,.ty n],h =>
  obtain ⟨rfl,t,ht,q⟩:=h
  exact xX pins s σ H _ us Q I r ⟨x,_,_,_,rfl,Dx ht,yE X.K t c hc,q⟩
theorem qy {c:TT}{tb:TS}{D:Ends}{σ:St}{H:Hp} (Pv:St->Hp->Prop) (μ:St->Hp->Nat) (h0:Pv σ H)
  (hs:∀ σ H,Pv σ H->c σ H fun b H1=>if b=true then ∃ N:St->Hp->Prop,(∀ σ' H',N σ' H'->Pv σ' H'/\μ σ' H' < μ σ H)/\tb { D with nx:=N,ct:=N,bk:=D.nx } σ H1 else D.nx σ H1):zK c tb D σ H :=
 ⟨fun m σ H=>m=μ σ H/\Pv σ H,⟨_,rfl,h0⟩,fun m σ H ⟨e,p⟩=>by
  subst e
  have q:=hs σ H p
  have e:(fun (b:Bool) (H1:Hp)=>if b=true then ∃ N:St->Hp->Prop,(∀ σ' H',N σ' H'->Pv σ' H'/\μ σ' H' < μ σ H)/\tb { D with nx:=N,ct:=N,bk:=D.nx } σ H1 else D.nx σ H1) =
    fun (b:Bool) (H1:Hp)=>if b=true then ∃ N:St->Hp->Prop,(∀ σ' H',N σ' H'->∃ m',m' < μ σ H/\m'=μ σ' H'/\Pv σ' H')/\tb { D with nx:=N,ct:=N,bk:=D.nx } σ H1 else D.nx σ H1:=by
   funext b H1
   cases b with
   | false=>rfl
   | true =>
    simp only [if_true]
    refine propext ⟨fun ⟨N,h1,h2⟩=>⟨N,fun σ' H' n=>⟨_,(h1 σ' H' n).2,rfl,(h1 σ' H' n).1⟩,h2⟩,fun ⟨N,h1,h2⟩=>⟨N,fun σ' H' n=>?_,h2⟩⟩
    obtain ⟨m',h3,h4,h5⟩:=h1 σ' H' n
    exact ⟨h5,by rw [← h4];exact h3⟩
  rw [e] at q
  exact q⟩
theorem nT (xs:List V) (k:Nat):gq xs (some (k:Int)) none=xs.drop k:=by
 unfold gq
 rw [HT.eR,HT.jJ]
 rw [List.take_of_length_le (by rw [List.length_drop];omega)]
 by_cases h:k<=xs.length
 ·rw [Nat.min_eq_left h]
 ·rw [Nat.min_eq_right (by omega),List.drop_of_length_le (Nat.le_refl _),List.drop_of_length_le (by omega)]
theorem wt (xs:List V) (k:Nat):gq xs none (some (k:Int))=xs.take k:=by
 unfold gq
 rw [HT.eR,HT.jJ,Nat.sub_zero,List.drop_zero]
 by_cases h:k<=xs.length
 ·rw [Nat.min_eq_left h]
 ·rw [Nat.min_eq_right (by omega),List.take_of_length_le (Nat.le_refl _),List.take_of_length_le (by omega)]
theorem xp (n:Nat):qi 0 n=(Mk.ofN n).map V.int:=by
 unfold qi Mk.ofN
 rw [List.map_map]
 refine List.map_congr_left fun k _=>?_
 show V.int (0 + (k:Int))=V.int (k:Int)
 rw [Int.zero_add]
theorem AW {H1:Hp} (n:Nat):(Itr 0 n).Seq H1 ((Mk.ofN n).map V.int):=by
 rw [← xp];exact oP
theorem aq {n:Nat} (h:n<=100000):n < sizeLine:=Nat.lt_of_le_of_lt h (by decide)
section
variable {X:Cx}{K:PySem.W.Frag}
theorem bS (hK:X.K=K) (hu:X.A.units < cLine):OpR X (compareOp .Eq) (AM K):=hK ▸ CM hu
theorem iy (hK:X.K=K) (hu:X.A.units < cLine):OpR X (compareOp .NotEq) (zr K):=hK ▸ CU hu
theorem cH (hK:X.K=K):IxR X (AO K):=hK ▸ E2
theorem aJ (hK:X.K=K):bE X (.builtin "len") (vJ K):=hK ▸ wa
theorem fB (hK:X.K=K) (hc:X.calm=true):bE X (.builtin "all") (DT K):=hK ▸ vX hc
theorem sP (hK:X.K=K) (hc:X.calm=true):bE X (.type "list") (tT K):=hK ▸ sQ hc
theorem AI {elts:List Expr}{k:Nat}{tpos:Pos}{a b:Expr}{ta:TA}{p pos:Pos} (hK:X.K=K) (hg:Gl X "zip") (hm:X.mg "zip"=none) (ha:PA X [a,b] ta) (hs:starEach [a,b] X.env=[(false,eval a X.env),(false,eval b X.env)]:=by rfl)
  (hs2:starEach [b] X.env=[(false,eval b X.env)]:=by rfl):PI X (.Tuple elts k tpos) (.Call (.Name "zip" p) [a,b] [] pos) (Am K ta):=hK ▸ Dh hg hm ha hs hs2
theorem jG {es:List Expr}{k:Nat}{t:TGs}{n:Nat}{pos:Pos} (hK:X.K=K) (hc:X.calm=true) (h:PGs X es t)
  (hn:(assignEach es X.env).length=n:=by rfl) (hst:(assignEach es X.env).findIdx? (·.1)=none:=by rfl):PG X (.Tuple es k pos) (yt K n t):=hK ▸ zf hc h hn hst
theorem Dc {o e:Expr}{es:List Expr}{to:TE}{t:TA}{name:Str}{apos cpos:Pos}{T id:String}{r:V->List V->Hp->VK->Prop} (hK:X.K=K) (pa:PlainAttrs T) (slot:Slot T name id) (hty:typeOf (.builtin id)=pure (.type "method_descriptor"))
  (hm:MtR X id r) (ho:PE X o to) (ha:PA X (e::es) t)
  (hbase:attributeBase o name X.env (eval o X.env)=eval o X.env:=by rfl)
  (hfew:((backTo cpos (starEach (e::es) X.env)).all (fun x=>!x.1) && (backToKw cpos (keywordEach [] X.env)).all (fun x=>x.1.isSome)
   && decide ((e::es).length + ([]:List Keyword).length + (if ([]:List Keyword).isEmpty then 0 else 1) < 30))=true:=by rfl)
  (hline:(apos.endLine == cpos.line)=true:=by rfl) (hs:starEach (e::es) X.env=(false,eval e X.env)::starEach es X.env:=by rfl) (hplain:(backTo cpos (starEach es X.env)).any (·.1)=false:=by rfl) :
  PE X (.Call (.Attribute o name apos) (e::es) [] cpos) (tBM K T r to t):=hK ▸ DP pa slot hty hm ho ha hbase hfew hline hs hplain
end
end L2

namespace L2
open PySem PySem.Spec PyProof.Rows
def noStar:Expr->Bool
 | .Starred _ _=>false
 | _=>true
def bw (es:List Expr):Bool:=es.all noStar
theorem aA {e:Expr}{es:List Expr}{env:Env} (h:noStar e=true):starEach (e::es) env=(false,eval e env)::starEach es env:=by
 cases e <;> first
  | rfl
  | cases h
theorem aC {e:Expr}{es:List Expr} (h:bw (e::es)=true):noStar e=true/\bw es=true:=by
 unfold bw at h ⊢
 rw [List.all_cons,Bool.and_eq_true] at h
 exact h
theorem bf {pos:Pos}{env:Env}:∀ {es:List Expr},bw es=true->(backTo pos (starEach es env)).any (·.1)=false
 | [],_=>rfl
 | e::es,h=>by
  obtain ⟨h1,h2⟩:=aC h
  rw [aA h1]
  show (false || (backTo pos (starEach es env)).any (·.1))=false
  rw [bf h2];rfl
theorem iY {pos:Pos}{env:Env}:∀ {es:List Expr},bw es=true->(backTo pos (starEach es env)).all (fun x=>!x.1)=true
 | [],_=>rfl
 | e::es,h=>by
  obtain ⟨h1,h2⟩:=aC h
  rw [aA h1]
  show (true && (backTo pos (starEach es env)).all (fun x=>!x.1))=true
  rw [iY h2];rfl
section
variable {X:Cx}{K:PySem.W.Frag}
theorem pvL (i:Nat) {x:Str}{pos:Pos} (hN:X.N[i]?=some x:=by kernel_rfl) (hv:X.env.scope.names.lookup x=some .local:=by kernel_rfl) (hd:(x == ("__debug__":Str))=false:=by kernel_rfl)
  (hcd:(x == ("__classdict__":Str))=false:=by kernel_rfl):PE X (.Name x pos) (nv i):=qf hN (.inl hv) hd hcd
theorem pvC (i:Nat) {x:Str}{pos:Pos} (hN:X.N[i]?=some x:=by kernel_rfl) (hv:X.env.scope.names.lookup x=some .cell:=by kernel_rfl) (hd:(x == ("__debug__":Str))=false:=by kernel_rfl)
  (hcd:(x == ("__classdict__":Str))=false:=by kernel_rfl):PE X (.Name x pos) (nv i):=qf hN (.inr (.inl hv)) hd hcd
theorem ah {e:Expr}{es:List Expr}{te:TE}{t:TA} (ha:PE X e te) (hr:PA X es t) (hs:noStar e=true:=by kernel_rfl):PA X (e::es) (oV te t):=A5 ha hr (aA hs)
theorem ax {CX:CXT}{E:St->XK}{k:Nat}{x:Str}{ps:List Str}{sp:Sp}{e:Expr}{es:List Expr}{t:TA}{p pos:Pos} (C:Fnc X.prog X.w X.K X.mg X.base CX k x ps sp) (hx:Passes CX X E) (hr:bq k X.A) (ha:PA X (e::es) t)
  (hg:X.env.kindOf x=some .globalImplicit:=by kernel_rfl) (hd:(x == ("__debug__":Str))=false:=by kernel_rfl) (hs:bw (e::es)=true:=by kernel_rfl):PE X (.Call (.Name x p) (e::es) [] pos) (oU sp [] E t) :=
 yW C hx hr hg ha hd (aA (aC hs).1) (bf (aC hs).2)
theorem aj {x:Str}{p pos:Pos}{e:Expr}{es:List Expr}{t:TA}{id:String}{r:List V->Hp->VK->Prop} (hc:bE X (.builtin id) r) (hm:X.mg x=none) (hv:bootBuiltins x=some (.builtin id)) (ha:PA X (e::es) t)
  (hg:X.env.kindOf x=some .globalImplicit:=by kernel_rfl) (hn:x≠"__name__":=by decide +kernel) (hd:(x == ("__debug__":Str))=false:=by kernel_rfl) (hs:bw (e::es)=true:=by kernel_rfl):PE X (.Call (.Name x p) (e::es) [] pos) (tCB r t) :=
 yV hc hg hm hv ha hn hd (aA (aC hs).1) (bf (aC hs).2)
theorem mQ {x:Str}{p pos:Pos}{e:Expr}{es:List Expr}{t:TA}{T:String}{r:List V->Hp->VK->Prop} (hc:bE X (.type T) r) (hm:X.mg x=none) (hv:bootBuiltins x=some (.type T)) (ha:PA X (e::es) t)
  (hg:X.env.kindOf x=some .globalImplicit:=by kernel_rfl) (hn:x≠"__name__":=by decide +kernel) (hd:(x == ("__debug__":Str))=false:=by kernel_rfl) (hs:bw (e::es)=true:=by kernel_rfl):PE X (.Call (.Name x p) (e::es) [] pos) (tCB r t) :=
 xi hc hg hm hv ha hn hd (aA (aC hs).1) (bf (aC hs).2)
theorem fi {x:Str}{T:String}{pos:Pos} (hm:X.mg x=none) (hv:bootBuiltins x=some (.type T)) (hg:X.env.kindOf x=some .globalImplicit:=by kernel_rfl) (hn:x≠"__name__":=by decide +kernel) (hd:(x == ("__debug__":Str))=false:=by kernel_rfl) :
  PE X (.Name x pos) (tC (.ty T)):=DQ hg hm hv hn hd
theorem aw {i:Nat}{x:Str}{e:Expr}{te:TE}{pos pos':Pos} (hN:X.N.Nodup) (he:PE X e te) (hi:X.N[i]?=some x:=by kernel_rfl) (hx:X.env.scope.names.lookup x=some .local:=by kernel_rfl)
  (hs:swapsWith e (some (.Name x pos')) pos.line X.env=pure false:=by kernel_rfl):PS X (.Assign [.Name x pos'] e pos) (xu te (dH i)):=zi hN hi (.inl hx) he hs (.inr hx)
theorem vD {i:Nat}{x:Str}{e:Expr}{te:TE}{pos pos':Pos} (hN:X.N.Nodup) (he:PE X e te) (hi:X.N[i]?=some x:=by kernel_rfl) (hx:X.env.scope.names.lookup x=some .cell:=by kernel_rfl) (hf:X.fn x=true:=by kernel_rfl)
  (hs:swapsWith e (some (.Name x pos')) pos.line X.env=pure false:=by kernel_rfl):PS X (.Assign [.Name x pos'] e pos) (xu te (dH i)):=zi hN hi (.inr hx) he hs (.inl hf)
theorem aL {i:Nat}{x:Str}{pos:Pos} (hN:X.N.Nodup) (hi:X.N[i]?=some x:=by kernel_rfl) (hx:X.env.scope.names.lookup x=some .local:=by kernel_rfl):PG X (.Name x pos) (dH i):=AE hN hi (.inl hx) (.inr hx)
theorem eB {tg a:Expr}{ta:TA}{p pos:Pos} (hm:X.mg "range"=none) (ha:PA X [a] ta) (hg:X.env.kindOf "range"=some .globalImplicit:=by kernel_rfl) (hs:noStar a=true:=by kernel_rfl):PI X tg (.Call (.Name "range" p) [a] [] pos) (y0 ta) :=
 xk hg hm ha (aA hs)
theorem ji {tg a b:Expr}{ta:TA}{p pos:Pos} (hm:X.mg "range"=none) (ha:PA X [a,b] ta) (hg:X.env.kindOf "range"=some .globalImplicit:=by kernel_rfl) (hs:noStar a=true:=by kernel_rfl) (hs2:noStar b=true:=by kernel_rfl) :
  PI X tg (.Call (.Name "range" p) [a,b] [] pos) (y3 ta):=xl hg hm ha (by rw [aA hs,aA hs2];rfl) (aA hs2)
theorem AH {elts:List Expr}{k:Nat}{tpos:Pos}{a b:Expr}{ta:TA}{p pos:Pos} (hK:X.K=K) (hm:X.mg "zip"=none) (ha:PA X [a,b] ta) (hg:X.env.kindOf "zip"=some .globalImplicit:=by kernel_rfl) (hs:noStar a=true:=by kernel_rfl) (hs2:noStar b=true:=by kernel_rfl) :
  PI X (.Tuple elts k tpos) (.Call (.Name "zip" p) [a,b] [] pos) (Am K ta):=AI hK hg hm ha (by rw [aA hs,aA hs2];rfl) (aA hs2)
theorem cI {o e:Expr}{es:List Expr}{to:TE}{t:TA}{name:Str}{apos cpos:Pos}{T id:String}{r:V->List V->Hp->VK->Prop} (hK:X.K=K) (pa:PlainAttrs T) (slot:Slot T name id) (hty:typeOf (.builtin id)=pure (.type "method_descriptor"))
  (hm:MtR X id r) (ho:PE X o to) (ha:PA X (e::es) t)
  (hbase:attributeBase o name X.env (eval o X.env)=eval o X.env:=by kernel_rfl) (hs:bw (e::es)=true:=by kernel_rfl) (hlen:decide ((e::es).length < 30)=true:=by kernel_rfl)
  (hline:(apos.endLine == cpos.line)=true:=by kernel_rfl):PE X (.Call (.Attribute o name apos) (e::es) [] cpos) (tBM K T r to t):=by
 refine Dc hK pa slot hty hm ho ha hbase ?_ hline (aA (aC hs).1) (bf (aC hs).2)
 rw [iY hs]
 show (true && true && decide ((e::es).length + 0 + 0 < 30))=true
 rw [Bool.true_and,Bool.true_and];exact hlen
end
end L2

namespace L2
open PySem PySem.Spec PyProof.Rows
def tx (l:List Nat):Str:=⟨l.toArray⟩
theorem df (l:List Nat):(tx l).cps.toList=l:=by unfold tx;simp
theorem aY (l:List Nat):(tx l).length=l.length:=by show l.toArray.size=_;simp
theorem oW (x:Str):tx x.cps.toList=x:=by unfold tx;simp
theorem ky (a b:List Nat):tx a++tx b=tx (a++b):=by
 show Str.mk (a.toArray++b.toArray)=Str.mk (a++b).toArray
 simp
theorem qw {a b:List Nat} (h:tx a=tx b):a=b:=by have:=congrArg (fun x:Str=>x.cps.toList) h;simpa [tx] using this
theorem zN (a b:List Nat):decide (tx a=tx b)=decide (a=b):=by
 by_cases e:a=b
 ·subst e;simp
 ·rw [decide_eq_false e,decide_eq_false (fun z=>e (qw z))]
theorem eQ (x:Str):x.length=x.cps.toList.length:=by show x.cps.size=_;simp
def Itx (z:Str):It:=⟨fun i _=>i < z.cps.size,fun i H v H'=>H'=H/\∃ c,z.cps[i]?=some c/\v=.str ⟨#[c]⟩,fun i _=>z.cps.size<=i⟩
theorem sv {P:Program}{w:World}{K:PySem.W.Frag}{tg:Expr} (n:String) (hn:n="str_ascii_iterator" ∨ n="str_iterator") (z:Str) (t:Tok) (it:Addr):Turn P w K tg (Itx z) [it] it (fun i h=>h.IsStrIter it n z t i) where
 mem:=by simp
 obj:=fun i h st b hb=>by
  have e:b=it:=by simpa using hb
  subst e
  obtain ⟨o,e,c,d⟩:=st
  exact ⟨o,e,fun v z=>by rw [d] at z;cases z⟩
 keep:=fun i h h' st k=>by
  obtain ⟨o,e,c,d⟩:=st
  exact ⟨o,k it (by simp) o e,c,d⟩
 item:=by
  intro X hP hw hK hc i pins s σ H E I hf st hg
  subst hP hw hK
  have hg':i < z.cps.size:=hg
  have hx:z.cps[i]?=some z.cps[i]:=Array.getElem?_eq_getElem hg'
  obtain ⟨f0,f1,f2,f3,f4,f5⟩:=hf it (by simp)
  have go:∀ h',h'.IsStrIter it n z t (i + 1)->Heap.SameBut it s.heap h'->∃ u,some (Value.str ⟨#[z.cps[i]]⟩ s.toks)=some u ∧
    wpAny (model X.prog X.w) X.A (letOwnedTupleGo tg (.ref it) u) (fun _ s2=>∃ x H',Inv X pins σ H' s2/\RelV x u/\(Itx z).yld i H x H'/\s2.heap.IsStrIter it n z t (i + 1)/\∀ b∈[it],H' b=none) E { s with heap:=h',toks:=s.toks + 1 }:=fun h' st' sb=>by
   have I1:Inv X pins σ H { s with heap:=h',toks:=s.toks + 1 }:=I.turned (t':=s.toks + 1) (fun b o hb e=>(sb.2 b hb).trans e) f0 f1 f3 f4 f5
   obtain ⟨o,e,c,d⟩:=id st'
   exact ⟨_,rfl,vt (s:={ s with heap:=h',toks:=s.toks + 1 }) e c d (by rcases hn with rfl | rfl <;> decide) ⟨.str ⟨#[z.cps[i]]⟩,H,I1,⟨_,rfl⟩,⟨rfl,_,hx,rfl⟩,st',fun b hb=>(hf b hb).1⟩⟩
  rcases hn with rfl | rfl
  ·exact wpAny_pyNext_ascii_item st hx go
  ·exact wpAny_pyNext_wide_item st hx go
 done:=by
  intro X hP hw hK hc i pins s σ H E I hf st hg
  subst hP hw hK
  have hx:z.cps[i]?=none:=Array.getElem?_eq_none hg
  obtain ⟨f0,f1,f2,f3,f4,f5⟩:=hf it (by simp)
  have go:∀ h',Heap.ExtBut it s.heap h'->(none:Option Value)=none/\Inv X pins σ H { s with heap:=h' }:=fun h' eb =>
   ⟨rfl,I.turned (t':=s.toks) (fun b o hb e=>eb b o hb e) f0 f1 f3 f4 f5⟩
  rcases hn with rfl | rfl
  ·exact wpAny_pyNext_ascii_end (I.ok.hd hc) st hx go
  ·exact wpAny_pyNext_wide_end (I.ok.hd hc) st hx go
 self:=fun _ _ _ _ _ st h=>by
  rcases hn with rfl | rfl
  ·exact wpAny_pyIter_striter_ascii st h
  ·exact wpAny_pyIter_striter_wide st h
def vv (K:PySem.W.Frag) (x:V) (H:Hp) (R:It->Hp->Prop):Prop:=match x with
 | .ref a=>((∃ xs,SqL K H a xs)/\R (Itl K a) H) ∨ ((∃ xs,SqT K H a xs)/\R (Itt K a) H)
 | .str z=>R (Itx z) H
 | _=>False
def y4 (K:PySem.W.Frag) (te:TE):TI:=fun σ H R=>te σ H fun x H1=>vv K x H1 R
theorem Dg {X:Cx}{tg l:Expr}{tl:TE} (hl:PE X l tl):PI X tg l (y4 X.K tl):=by
 intro pins s σ H R I h
 refine thn (hl pins s σ H _ I h) fun v s1 ⟨x,H1,I1,r1,q1⟩=>?_
 cases x with
 | ref a =>
  cases r1
  rcases q1 with ⟨⟨xs,hq⟩,q⟩ | ⟨⟨xs,hq⟩,q⟩
  ·obtain ⟨its,rv,p,hz⟩:=I1.list hq
   refine wpAny_pyIter_list p.isList ?_
   refine ⟨s1.heap.objs.size,[s1.heap.objs.size],_,_,H1,rfl,I1.kept (t':=s1.toks) fun b o e=>Heap.get?_push_of_some _ e,x9 a _,⟨_,Heap.get?_push_size _ rfl,rfl,rfl⟩,fun b hb=>?_,q⟩
   have e:b=s1.heap.objs.size:=by simpa using hb
   subst e
   exact I1.rh (Nat.le_refl _) (I1.hok.fresh (Nat.le_refl _))
  ·obtain ⟨its,rv,p,hz⟩:=I1.tuple hq
   refine wpAny_pyIter_tuple (show s1.heap.IsTuple a its.toArray from p) ?_
   refine ⟨s1.heap.objs.size,[s1.heap.objs.size],_,_,H1,rfl,I1.kept (t':=s1.toks) fun b o e=>Heap.get?_push_of_some _ e,uh a _,⟨_,Heap.get?_push_size _ rfl,rfl,rfl⟩,fun b hb=>?_,q⟩
   have e:b=s1.heap.objs.size:=by simpa using hb
   subst e
   exact I1.rh (Nat.le_refl _) (I1.hok.fresh (Nat.le_refl _))
 | str z =>
  obtain ⟨t,rfl⟩:=r1
  cases ha:z.cps.all (· < 128) with
  | true =>
   refine wpAny_pyIter_ascii ha ?_
   refine ⟨s1.heap.objs.size,[s1.heap.objs.size],_,_,H1,rfl,I1.kept (t':=s1.toks) fun b o e=>Heap.get?_push_of_some _ e,sv "str_ascii_iterator" (.inl rfl) z t _,⟨_,Heap.get?_push_size _ rfl,rfl,rfl⟩,fun b hb=>?_,q1⟩
   have e:b=s1.heap.objs.size:=by simpa using hb
   subst e
   exact I1.rh (Nat.le_refl _) (I1.hok.fresh (Nat.le_refl _))
  | false =>
   refine wpAny_pyIter_wide ha ?_
   refine ⟨s1.heap.objs.size,[s1.heap.objs.size],_,_,H1,rfl,I1.kept (t':=s1.toks) fun b o e=>Heap.get?_push_of_some _ e,sv "str_iterator" (.inr rfl) z t _,⟨_,Heap.get?_push_size _ rfl,rfl,rfl⟩,fun b hb=>?_,q1⟩
   have e:b=s1.heap.objs.size:=by simpa using hb
   subst e
   exact I1.rh (Nat.le_refl _) (I1.hok.fresh (Nat.le_refl _))
 | _=>exact False.elim q1
theorem dN {X:Cx}{K:PySem.W.Frag}{tg l:Expr}{tl:TE} (hK:X.K=K) (hl:PE X l tl):PI X tg l (y4 K tl):=hK ▸ Dg hl
theorem uA {σ:St}{H:Hp}{K:PySem.W.Frag}{tl:TE}{R:It->Hp->Prop}:y4 K tl σ H R=tl σ H fun x H1=>vv K x H1 R:=propext Iff.rfl
def sgs (z:Str):List V:=z.cps.toList.map fun c=>V.str ⟨#[c]⟩
theorem AX {H1:Hp} (z:Str):(Itx z).Seq H1 (sgs z):=fun H s=>by
 refine ⟨fun i x e=>?_,fun i hi=>?_⟩
 ·unfold sgs at e
  rw [List.getElem?_map,Array.getElem?_toList] at e
  cases hc:z.cps[i]? with
  | none=>rw [hc] at e;cases e
  | some c =>
   rw [hc] at e
   have e':V.str ⟨#[c]⟩=x:=Option.some.inj e
   have hi:i < z.cps.size:=by
    rcases Nat.lt_or_ge i z.cps.size with h | h
    ·exact h
    ·rw [Array.getElem?_eq_none h] at hc;cases hc
   exact ⟨hi,fun y H' ⟨e1,d,e2,e3⟩=>⟨e1,by rw [hc] at e2;cases e2;rw [e3,e']⟩⟩
 ·show z.cps.size<=i
  unfold sgs at hi
  simpa using hi
def xn (K:PySem.W.Frag) (neg:Bool):R2:=fun x y H Q=>match y with
 | .str j=>match x with
  | .str i=>Q (.bl (neg != !(Builtin.Str.occurrences j i 0 j.length 1).isEmpty)) H
  | _=>False
 | .ref p=>(∃ xs,Sq K H p xs/\cu x=true/\xs.all cu=true/\Q (.bl (neg != inV x xs)) H) ∨ ∃ o:Option V,ie H p x o/\Q (.bl (neg != o.isSome)) H
 | _=>False
theorem CO {X:Cx} (hu:X.A.units + 1 < cLine):OpR X (compareOp .In) (xn X.K false):=by
 intro pins s σ H x y v u Q I rx ry h
 cases y with
 | str j=>cases x with
  | str i =>
   refine xb pins s σ H _ _ v u Q I rx ry ⟨i,j,rfl,rfl,?_⟩
   have h':Q (.bl (false != !(Builtin.Str.occurrences j i 0 j.length 1).isEmpty)) H:=h
   rwa [Bool.false_bne] at h'
  | _=>exact False.elim h
 | ref p =>
  rcases h with ⟨xs,hs,fx,fxs,q⟩ | ⟨o,hg,q⟩
  ·rw [Bool.false_bne] at q
   exact wZ pins s σ H _ _ v u Q I rx ry ⟨p,xs,rfl,hs,fx,fxs,q⟩
  ·rw [Bool.false_bne] at q
   cases ry
   exact Ez hu I hg rx fun s' I'=>⟨.bl _,H,I',rfl,q⟩
 | _=>exact False.elim h
theorem xf {X:Cx} (hu:X.A.units + 1 < cLine):OpR X (compareOp .NotIn) (xn X.K true):=by
 intro pins s σ H x y v u Q I rx ry h
 cases y with
 | str j=>cases x with
  | str i =>
   refine pZ pins s σ H _ _ v u Q I rx ry ⟨i,j,rfl,rfl,?_⟩
   have h':Q (.bl (true != !(Builtin.Str.occurrences j i 0 j.length 1).isEmpty)) H:=h
   rwa [Bool.true_bne] at h'
  | _=>exact False.elim h
 | ref p =>
  rcases h with ⟨xs,hs,fx,fxs,q⟩ | ⟨o,hg,q⟩
  ·rw [Bool.true_bne] at q
   exact pY pins s σ H _ _ v u Q I rx ry ⟨p,xs,rfl,hs,fx,fxs,q⟩
  ·rw [Bool.true_bne] at q
   cases ry
   exact Ac hu I hg rx fun s' I'=>⟨.bl _,H,I',rfl,q⟩
 | _=>exact False.elim h
theorem jg {X:Cx}{K:PySem.W.Frag} (hK:X.K=K) (hu:X.A.units + 1 < cLine):OpR X (compareOp .In) (xn K false):=hK ▸ CO hu
theorem xc {X:Cx}{K:PySem.W.Frag} (hK:X.K=K) (hu:X.A.units + 1 < cLine):OpR X (compareOp .NotIn) (xn K true):=hK ▸ xf hu
theorem y6 (x:Str) (c:Nat):(!(Builtin.Str.occurrences x ⟨#[c]⟩ 0 x.length 1).isEmpty)=decide (c∈x.cps.toList):=StrLaws.found_one x c
theorem Bc {ys:List Str}:∀ {us:List Value},Vals (ys.map V.str) us->StrsAre us ys:=by
 induction ys with
 | nil=>intro us r;cases r;exact .nil
 | cons y r ih =>
  intro us h
  cases h with
  | cons h1 h2 =>
   obtain ⟨t,rfl⟩:=h1
   exact .cons _ _ (ih h2)
def tR (K:PySem.W.Frag):V->List V->Hp->VK->Prop:=fun x vs H Q=>match x,vs with
 | .str z,[.ref p]=>∃ ys:List Str,SqL K H p (ys.map V.str)/\(ys.map (·.length)).sum + ys.length * z.length<=16777216/\Q (.str (Txt.join z ys)) H
 | _,_=>False
theorem yN {X:Cx}:MtM X "str.join" (tR X.K):=by
 intro pins s σ H x vs v us Q I rx rv h
 match x,vs,h with
 | .str z,[.ref p],h =>
  obtain ⟨ys,hs,hl,q⟩:=h
  obtain ⟨t,rfl⟩:=rx
  obtain ⟨u,rfl,ru⟩:=rv.one
  cases ru
  obtain ⟨its,rv2,pl,hz⟩:=I.list hs
  exact join_list pl.isList (by simpa using Bc rv2) hl fun t' k=>⟨.str _,H,I.tok _,⟨_,rfl⟩,q⟩
theorem eZ {X:Cx}{K:PySem.W.Frag} (hK:X.K=K):MtM X "str.join" (tR K):=hK ▸ yN
section
variable {α β:Type}
noncomputable def pull {γ:Type} (e:α->V) (f:α->γ) (d:γ) (v:V):γ:=open Classical in if h:∃ a,e a=v then f (Classical.choose h) else d
theorem gh {γ:Type}{e:α->V} (inj:∀ a b,e a=e b->a=b) (f:α->γ) (d:γ) (a:α):pull e f d (e a)=f a:=by
 unfold pull
 have h:∃ b,e b=e a:=⟨a,rfl⟩
 rw [dif_pos h,inj _ _ (Classical.choose_spec h)]
theorem iH:∀ a b:Int,V.int a=V.int b->a=b:=fun _ _ h=>by cases h;rfl
theorem y8:∀ a b:Nat,V.str ⟨#[a]⟩=V.str ⟨#[b]⟩->a=b:=fun _ _ h=>by cases h;rfl
theorem As {J:It}{H1:Hp}{xs:List α}{js:List Nat}{σ:St}{tc:TT}{te:TE}{Q:VK} (e:α->V) (inj:∀ a b,e a=e b->a=b) (hJ:J.Seq H1 (xs.map e)) (hl:xs.length < sizeLine) (p:α->Bool) (f:α->V)
  (hc:∀ x∈xs,∀ H,ao H1 H->∀ R:Bool->Hp->Prop,(∀ H',ao H H'->R (p x) H')->tc (some (e x)::js.map fun j=>(σ[j]?).join) H R)
  (he:∀ x∈xs,p x=true->∀ H,ao H1 H->∀ R:VK,(∀ H',ao H H'->R (f x) H')->te (some (e x)::js.map fun j=>(σ[j]?).join) H R)
  (q:∀ D H,H1 D=none->ao H1 H->H D=some (.lst ((xs.filter p).map f))->Q (.ref D) H):dh (dH 0) tc te (fL 1 js σ) J H1 Q:=by
 refine yH hJ (by rw [List.length_map];exact hl) (pull e p false) (pull e f .non) ?_ ?_ ?_
 ·intro v hv H s R hR
  obtain ⟨x,hx,rfl⟩:=List.mem_map.mp hv
  rw [gh inj] at hR
  exact hc x hx H s R hR
 ·intro v hv hp H s R hR
  obtain ⟨x,hx,rfl⟩:=List.mem_map.mp hv
  rw [gh inj] at hR hp
  exact he x hx hp H s R hR
 ·intro D H h1 h2 h3
  refine q D H h1 h2 ?_
  rw [h3,List.filter_map,List.map_map]
  congr 2
  have e1:pull e f .non ∘ e=f:=funext fun a=>gh inj f .non a
  have e2:pull e p false ∘ e=p:=funext fun a=>gh inj p false a
  rw [e1,e2]
theorem wO {J:It}{H1:Hp}{xs:List α}{js:List Nat}{σ:St}{te:TE}{Q:VK} (e:α->V) (inj:∀ a b,e a=e b->a=b) (hJ:J.Seq H1 (xs.map e)) (hl:xs.length < sizeLine) (f:α->V)
  (he:∀ x∈xs,∀ H,ao H1 H->∀ R:VK,(∀ H',ao H H'->R (f x) H')->te (some (e x)::js.map fun j=>(σ[j]?).join) H R)
  (q:∀ D H,H1 D=none->ao H1 H->H D=some (.lst (xs.map f))->Q (.ref D) H):dh (dH 0) xv te (fL 1 js σ) J H1 Q :=
 As e inj hJ hl (fun _=>true) f (fun x _ H _ R hR=>hR H (ao.refl H)) (fun x hx _ H s R hR=>he x hx H s R hR) fun D H h1 h2 h3=>q D H h1 h2 (by rw [List.filter_eq_self.mpr (fun _ _=>rfl)] at h3;exact h3)
theorem E4 {K:PySem.W.Frag}{a b:Addr}{H1:Hp}{xs:List α}{ys:List β}{js:List Nat}{σ:St}{te:TE}{Q:VK} (e:α->V) (e':β->V) (inj:∀ a b,e a=e b->a=b) (inj':∀ a b,e' a=e' b->a=b)
  (hx:SqL K H1 a (xs.map e)) (hy:SqL K H1 b (ys.map e')) (hl:xs.length < sizeLine) (f:α->β->V)
  (he:∀ x y,(x,y)∈xs.zip ys->∀ H,ao H1 H->∀ R:VK,(∀ H',ao H H'->R (f x y) H')->te (some (e x)::some (e' y)::js.map fun j=>(σ[j]?).join) H R)
  (q:∀ D H,H1 D=none->ao H1 H->H D=some (.lst ((xs.zip ys).map fun p=>f p.1 p.2))->Q (.ref D) H):dh (yt K 2 (kI (dH 0) (kI (dH 1) yr))) xv te (fL 2 js σ) (Itz K a b) H1 Q:=by
 refine CB hx hy (by rw [List.length_map];exact hl) (fun v u=>pull e (fun x=>pull e' (f x) .non u) .non v) ?_ ?_
 ·intro v u hvu H s R hR
  rw [List.zip_map,List.mem_map] at hvu
  obtain ⟨⟨x,y⟩,hxy,e2⟩:=hvu
  cases e2
  have e3:pull e (fun x=>pull e' (f x) .non (e' y)) .non (e x)=f x y:=by rw [gh inj,gh inj']
  exact he x y hxy H s R (fun H' s'=>by have:=hR H' s';rwa [e3] at this)
 ·intro D H h1 h2 h3
  refine q D H h1 h2 ?_
  rw [h3,List.zip_map,List.map_map]
  congr 2
  refine List.map_congr_left fun ⟨x,y⟩ _=>?_
  show pull e (fun x=>pull e' (f x) .non (e' y)) .non (e x)=f x y
  rw [gh inj,gh inj']
end
theorem z6 {H1:Hp} (z:Str):(Itx z).Seq H1 (z.cps.toList.map fun c=>V.str ⟨#[c]⟩):=AX z
theorem lD {H:Hp}{x:V}{t:Tg} (ht:cP H x=some t) (hs:∀ z,x≠.str z):t≠.str:=fun e=>by
 subst e
 cases x with
 | str z=>exact hs z rfl
 | ref a =>
  have h':gB (H a)=some .str:=ht
  cases e:H a with
  | none=>rw [e] at h';cases h'
  | some o=>rw [e] at h';cases o with
   | frz ob u=>cases u <;> cases h'
   | _=>cases h'
 | _=>cases ht
theorem ly {t u:TS}{D:Ends}{σ:St}{H:Hp} (R:St->Hp->Prop) (h2:∀ σ' H',R σ' H'->u D σ' H') (h1:∀ U:St->Hp->Prop,(∀ σ' H',R σ' H'->U σ' H')->t { D with nx:=U } σ H):zJ t u D σ H:=h1 _ h2
theorem bM {α:Type}{l:List α}{i:Int}{v:α} (h0:0<=i) (h1:l[i.toNat]?=some v):atI l i=some v:=by
 have:=gO h1
 rwa [Int.toNat_of_nonneg h0] at this
theorem jX:(Str.ofString "abcdefghijklmnopqrstuvwxyz").cps.toList=List.range' 97 26:=by decide +kernel
end L2

namespace L2
open PySem PySem.Spec PyProof.Rows
def DK (h h':Heap):Prop:=∀ b o,h.get? b=some o->∃ o',h'.get? b=some o'/\o'.cls=o.cls/\o'.dict=o.dict/\(∀ vs,o.data=.fields vs->∃ vs',o'.data=.fields vs')
theorem DK.refl (h:Heap):DK h h:=fun b o e=>⟨o,e,rfl,rfl,fun vs q=>⟨vs,q⟩⟩
theorem DK.trans {h1 h2 h3:Heap} (x:DK h1 h2) (y:DK h2 h3):DK h1 h3:=fun b o e=>by
 obtain ⟨o1,e1,c1,d1,f1⟩:=x b o e
 obtain ⟨o2,e2,c2,d2,f2⟩:=y b o1 e1
 exact ⟨o2,e2,c2.trans c1,d2.trans d1,fun vs q=>by obtain ⟨v1,q1⟩:=f1 vs q;exact f2 v1 q1⟩
theorem DK.push (h:Heap) (o:Obj):DK h (h.push o):=fun b u e=>⟨u,Heap.get?_push_of_some _ e,rfl,rfl,fun vs q=>⟨vs,q⟩⟩
structure KD {α:Type} (m:Sem α):Prop where
 out:∀ (M:Model) (Γ:PySem.Ctx) (P:α->Pos->Shared->Prop) (Ee:Value->Pos->Shared->Prop) (p:Pos) (s:Shared),Sem.wp M Γ m P Ee p s →
  Sem.wp M Γ m (fun a p' s'=>P a p' s'/\DK s.heap s'.heap) (fun e p' s'=>Ee e p' s'/\DK s.heap s'.heap) p s
namespace KD
variable {α β:Type}
theorem pure (a:α):KD (Pure.pure a:Sem α):=⟨fun _ _ _ _ _ s h=>⟨h,DK.refl _⟩⟩
theorem unsupported (w:String):KD (PySem.unsupported w:Sem α):=⟨fun _ _ _ _ _ _ h=>h⟩
theorem bind {m:Sem α}{f:α->Sem β} (hm:KD m) (hf:∀ a,KD (f a)):KD (m >>= f):=⟨fun M Γ P Ee p s h=>by
 rw [Sem.wp_bind'] at h ⊢
 refine Sem.wp_mono M Γ m (fun a p' s' h'=>?_) (fun _ _ _ x=>x) p s (hm.out M Γ _ _ p s h)
 refine Sem.wp_mono M Γ (f a) (fun b p2 s2 h2=>⟨h2.1,h'.2.trans h2.2⟩) (fun e p2 s2 h2=>⟨h2.1,h'.2.trans h2.2⟩) p' s' ((hf a).out M Γ P Ee p' s' h'.1)⟩
theorem ite {c:Prop} [Decidable c] {t u:Sem α} (ht:KD t) (hu:KD u):KD (if c then t else u):=by split <;> assumption
theorem load (a:Addr):KD (PySem.load a):=⟨fun _ _ _ _ _ s h=>by obtain ⟨o,e,q⟩:=h;exact ⟨o,e,q,DK.refl _⟩⟩
theorem stack:KD PySem.stack:=⟨fun M Γ P Ee p s h=>by
 unfold PySem.stack at h ⊢
 rw [Sem.wp_stack] at h ⊢
 exact ⟨h,DK.refl _⟩⟩
theorem alloc (o:Obj):KD (PySem.alloc o):=⟨fun _ _ _ _ _ s h=>⟨h,DK.push _ _⟩⟩
theorem field (v:Value) (i:Nat):KD (PySem.field v i):=⟨fun _ Γ P Ee p s h=>by
 rw [wp_field_iff] at h ⊢
 obtain ⟨a,o,vs,x,e1,e2,e3,e4,q⟩:=h
 exact ⟨a,o,vs,x,e1,e2,e3,e4,q,DK.refl _⟩⟩
theorem update {a:Addr}{f:Obj->Obj} (hf:∀ o,(f o).cls=o.cls/\(f o).dict=o.dict/\(f o).isFreed=o.isFreed/\∀ vs,o.data=.fields vs->∃ vs',(f o).data=.fields vs'):KD (PySem.update a f):=⟨fun _ _ _ _ _ s h=>by
 refine ⟨h.1,h.2,fun b o e=>?_⟩
 by_cases hb:b=a
 ·subst hb
  obtain ⟨h1,h2,h3,h4⟩:=hf o
  have hfr:o.isFreed=false:=(Heap.get?_some_iff.mp e).2
  exact ⟨f o,Heap.get?_update_self _ e (by rw [h3];exact hfr),h1,h2,h4⟩
 ·exact ⟨o,(Heap.get?_update_other _ _ (Ne.symm hb)).trans e,rfl,rfl,fun vs q=>⟨vs,q⟩⟩⟩
theorem setField (v:Value) (i:Nat) (x:Value):KD (PySem.setField v i x):=⟨fun _ Γ P Ee p s h=>by
 rw [wp_setField_iff] at h ⊢
 obtain ⟨a,o,vs,e1,e2,e3,e4,q⟩:=h
 refine ⟨a,o,vs,e1,e2,e3,e4,q,fun b u e=>?_⟩
 by_cases hb:b=a
 ·subst hb
  rw [e2] at e
  cases e
  have hd:=Obj.data_mapFields e3 (·.setIfInBounds i x)
  exact ⟨_,Heap.get?_update_self _ e2 (Obj.isFreed_of_fields hd),Obj.cls_mapFields ..,by cases o with | mk c d dt sl=>cases dt <;> first | rfl,fun _ _=>⟨_,hd⟩⟩
 ·exact ⟨u,(Heap.get?_update_other _ _ (Ne.symm hb)).trans e,rfl,rfl,fun vs q=>⟨vs,q⟩⟩⟩
theorem slots {a:Addr}{g:Obj->Array (Option Value)}:KD (PySem.update a fun o=>{ o with slots:=g o }):=update fun o=>⟨rfl,rfl,by cases o with | mk c d dt sl=>cases dt <;> rfl,fun vs q=>⟨vs,q⟩⟩
end KD
theorem wK (env:Env) (outer:List Env):KD (behindIsImport env outer):=by
 unfold behindIsImport
 repeat' with_reducible first | exact KD.pure _ | exact KD.field _ _ | apply KD.ite | apply KD.bind | intro _
theorem wL:KD underTheClaimsCaller:=by
 unfold underTheClaimsCaller
 repeat' with_reducible first | exact KD.pure _ | exact KD.stack | exact KD.unsupported _ | exact KD.field _ _ | apply KD.ite | apply KD.bind | intro _ | split
theorem Ap (env:Env) (i:Bool) (l:List Env):KD (keptBack env i l):=by
 have:=wL
 cases l <;> unfold keptBack <;> repeat' with_reducible first | assumption | exact KD.pure _ | apply KD.ite | apply KD.bind | intro _
theorem ro:∀ l:List Env,KD (readyFrames l)
 | []=>KD.pure _
 | env::outer=>by
  have ih:=ro outer
  have h1:=wK env outer
  have h2:=fun i=>Ap env i outer
  unfold readyFrames
  split
  ·refine KD.bind (KD.load _) fun o=>KD.ite (KD.pure _) (KD.bind h1 fun b=>KD.bind (h2 b) fun v=>KD.bind KD.slots fun _=>ih)
  ·exact KD.unsupported _
theorem mz (l:List Env):KD (frameObject l):=by
 cases l with
 | nil=>exact KD.pure _
 | cons a r=>unfold frameObject;exact KD.bind (ro _) fun _=>KD.pure _
theorem tf (env:Env):KD (PySem.frameOf env):=by
 unfold PySem.frameOf frameEnvs
 refine KD.bind (KD.bind KD.stack fun _=>KD.pure _) fun l=>KD.bind (mz _) fun o=>?_
 cases o with
 | none=>exact KD.unsupported _
 | some v=>exact KD.pure _
theorem yD (f:Addr) (b:Bool):KD (entryPlaceOf f b):=by
 unfold entryPlaceOf
 repeat' with_reducible first | exact KD.pure _ | exact KD.stack | exact KD.unsupported _ | apply KD.ite | apply KD.bind | intro _ | split
theorem yC (a b c d e:Value) (l:List Value):KD (EntryCells.newEntry a b c d e l):=by
 unfold EntryCells.newEntry newFields newObj newObjAsIs
 repeat' first | exact KD.pure _ | exact KD.alloc _ | exact KD.unsupported _ | apply KD.ite | apply KD.bind | intro _ | split
theorem pF (e:Value) (env:Env):KD (noteFrame e env):=by
 unfold noteFrame
 have h1:=tf env
 have h2:=yD
 have h3:=yC
 split
 ·repeat' with_reducible first | exact KD.pure _ | exact KD.field _ _ | exact KD.setField _ _ _ | exact h1 | exact h2 _ _ | exact h3 _ _ _ _ _ _ | apply KD.ite | apply KD.bind | intro _
 ·exact KD.unsupported _
theorem gJ (e:Value) (o:Option Addr):KD (setFlight e o):=by
 unfold setFlight
 repeat' with_reducible first | exact KD.pure _ | exact KD.field _ _ | exact KD.setField _ _ _ | apply KD.ite | apply KD.bind | intro _
theorem jc (env:Env) (e:Value):KD (leaving env e):=by
 unfold leaving
 exact KD.bind (pF _ _) fun _=>gJ _ _
theorem KD.any {α:Type}{M:Model}{A:Around}{t:Sem α}{Q:α->Shared->Prop}{E:Value->Shared->Prop}{s:Shared} (k:KD t) (h:wpAny M A t Q E s) :
  wpAny M A t (fun a s'=>Q a s'/\DK s.heap s'.heap) (fun e s'=>E e s'/\DK s.heap s'.heap) s:=fun Γ p hΓ=>k.out M Γ _ _ p s (h Γ p hΓ)
theorem mD {P:Program}{w:World}{H:Hp}{h:Heap}{a:Addr}{o:HO} (x:aX P w H h a o):∃ u,h.get? a=some u:=by
 cases o with
 | lst xs=>obtain ⟨_,_,_,_,e⟩:=x;exact ⟨_,e⟩
 | tup xs=>obtain ⟨_,_,_,ob,e,_⟩:=x;exact ⟨_,e⟩
 | dK kvs=>obtain ⟨_,_,_,_,ob,_,_,e,_⟩:=x;exact ⟨_,e⟩
 | dT kvs=>obtain ⟨_,_,_,_,ob,_,_,e,_⟩:=x;exact ⟨_,e⟩
 | set S n=>obtain ⟨ob,_,_,_,e,_⟩:=x;exact ⟨_,e⟩
 | ins C dx fs=>obtain ⟨_,_,_,e,_⟩:=x;exact ⟨_,e⟩
 | own y=>exact x
 | xd fs=>obtain ⟨_,⟨od,_,_,e,_⟩,_⟩:=x;exact ⟨_,e⟩
 | rng lo hi=>obtain ⟨_,_,_,e⟩:=x;exact ⟨_,e⟩
 | frz ob u=>exact ⟨_,x.1⟩
 | tbl ps=>obtain ⟨_,e,_⟩:=x;exact ⟨_,e⟩
 | met f y=>exact ⟨_,x⟩
 | ext φ=>exact x.2.1
def CX1 (P:Program) (w:World):CXT:=fun outer H s E e s'=>∃ (ea C t:Addr) (B:Heap) (H':Hp) (d:Option Addr),e=.ref ea/\s'.os=s.os/\AllBare s'.gens/\Un (frs outer) [] H H' s.heap s'.heap/\HOk P w H' s'.heap ∧
 Heap.FlyingW B outer ea (.ref C) (.ref t) s'.heap/\(∃ oe,s'.heap.get? ea=some oe/\oe.dict=d)/\(∀ dx,d=some dx->∃ fs,H' dx=some (.xd fs)) ∧
 (∀ b o,s'.heap.get? b=some o->b ∉ frs outer->(H' b≠none ∨ ∃ u,s.heap.get? b=some u)->B.get? b=some o)/\E (.ref C) d H'
section
variable {X:Cx}{pins:List (Addr × Obj)}{σ:St}{H:Hp}{s:Shared}
theorem lM {B h':Heap} (I:Inv X pins σ H s) (hst:X.stack=X.env::X.outer) (hf:X.env.frame=some X.env.locals) (hex:X.ex=[]) (hB:B.StaysIn h') (hsm:s.heap.UpToSlots h')
  (hk:∀ b o,s.heap.get? b=some o->b ∉ frs X.stack->(H b≠none ∨ ∃ u,X.s₀.heap.get? b=some u)->B.get? b=some o) :
  Un (frs X.outer) [] X.H₀ H X.s₀.heap h'/\HOk X.prog X.w H h'/\∀ b o,h'.get? b=some o->b ∉ frs X.outer->(H b≠none ∨ ∃ u,X.s₀.heap.get? b=some u)->B.get? b=some o:=by
 have hfs:frs X.stack=X.env.locals::frs X.outer:=by rw [hst];unfold frs;rw [List.filterMap_cons,hf]
 have old:∀ b u,X.s₀.heap.get? b=some u->b≠X.env.locals:=fun b u e z=>absurd (Nat.lt_of_lt_of_le (Heap.lt_size e) (by rw [z];exact I.ok.above)) (Nat.lt_irrefl _)
 have nstk:∀ b,b≠X.env.locals->b ∉ frs X.outer->b ∉ frs X.stack:=fun b h1 h2 z=>by rw [hfs] at z;rcases List.mem_cons.mp z with z | z;exact h1 z;exact h2 z
 have trk:∀ b,H b≠none->b ∉ frs X.stack:=fun b h1 z=>h1 (I.jR b z)
 have nx:∀ b:Addr,b ∉ X.ex:=fun b=>by rw [hex];simp
 have fr:∀ b,b∈frs X.outer->∃ o,s.heap.get? b=some o/\∀ vs,o.data≠.fields vs:=fun b hb=>(I.stack.mem (show b∈frs X.stack by rw [hfs];exact List.mem_cons_of_mem _ hb)).2
 have tkeep:∀ b o,H b≠none->s.heap.get? b=some o->h'.get? b=some o:=fun b o h1 e=>hB b o (hk b o e (trk b h1) (.inl h1))
 have okeep:∀ b o u,X.s₀.heap.get? b=some u->b ∉ frs X.outer->s.heap.get? b=some o->h'.get? b=some o:=fun b o u e0 h2 e=>hB b o (hk b o e (nstk b (old b u e0) h2) (.inr ⟨u,e0⟩))
 refine ⟨⟨fun b o e n hb _=>?_,fun b o e n hb _=>?_,fun b o e n _=>I.base.free b o e n (nx b),fun b o e _=>?_,I.base.tups,I.base.frzs,I.base.tbls⟩,fun a o e=>?_,fun b o e hb hc=>?_⟩
 ·exact okeep b o o e hb (I.base.keep b o e n hb (nx b))
 ·obtain ⟨sl,e1⟩:=I.base.slot b o e n hb (nx b)
  obtain ⟨o1,e2,hd⟩:=fr b hb
  rw [e1] at e2
  cases e2
  obtain ⟨sl',e3⟩:=hsm b _ e1 hd
  exact ⟨sl',e3⟩
 ·obtain ⟨o1,e1⟩:=I.base.there b o e (nx b)
  by_cases hb:b∈frs X.outer
  ·obtain ⟨o2,e2,hd⟩:=fr b hb
   obtain ⟨sl',e3⟩:=hsm b _ e2 hd
   exact ⟨_,e3⟩
  ·exact ⟨o1,okeep b o1 o e hb e1⟩
 ·refine (I.hok a o e).iP (fun c v hc q=>tkeep c v ?_ q) (fun _ q=>q) fun _ _ q=>q
  rcases hc with z | z
  ·rw [z,e];simp
  ·rw [z];simp
 ·rcases hc with h1 | ⟨u,e0⟩
  ·cases q:H b with
   | none=>exact absurd q h1
   | some ob =>
    obtain ⟨o1,e1⟩:=mD (I.hok b ob q)
    have:=tkeep b o1 h1 e1
    rw [e] at this
    cases this
    exact hk b o e1 (trk b h1) (.inl h1)
  ·obtain ⟨o1,e1⟩:=I.base.there b u e0 (nx b)
   have:=okeep b o1 u e0 hb e1
   rw [e] at this
   cases this
   exact hk b o e1 (nstk b (old b u e0) hb) (.inr ⟨u,e0⟩)
def xC (X:Cx) (E:St->XK):Prop:=∀ (pins:List (Addr × Obj)) (σ:St) (H:Hp) (s:Shared) (h1:Heap) (e C:Addr) (vs:List Value),Inv X pins σ H s->Heap.MadeExcOf s.heap h1 e (.ref C) vs->E σ (.ref C) none H->X.xe (.ref e) { s with heap:=h1 }
end
section
variable {P:Program}{w:World}{K:PySem.W.Frag}{mg:Str->Option Value}{base:Heap}{N:List Str}{qual:Str}{scope:Scope}{f:Addr}{cd:Value}{A:Around}{outer:List Env}{s:Shared}{H:Hp}{E:XK}
theorem au:Passes (CX1 P w) (iq (CX1 P w) P w K mg base N qual scope f cd A outer s H E) (fun _=>E):=by
 intro pins σ H1 s1 e s' I h
 obtain ⟨ea,C,t,B,H',d,rfl,os,bare,un,hok,fl,⟨oe,hoe,hdo⟩,hdx,hkb,hE⟩:=h
 have I':=I.nQ (ch:=[]) os un hok bare (fun b z=>absurd z (by simp))
 show wpAny _ _ _ _ _ _
 refine wpAny_mono (KD.any (E:=fun _ _=>False) (jc _ _) (wpAny_leaves_onW (Q:=fun _ s''=>∃ h',s''={ s' with heap:=h' }/\Heap.FlyingW B outer ea (.ref C) (.ref t) h'/\s'.heap.UpToSlots h') I.ok.frames rfl fl fun h' x1 x2=>⟨h',rfl,x1,x2⟩)) ?_ (fun _ _ z=>False.elim z.1)
 rintro _ s'' ⟨⟨h',rfl,x1,x2⟩,dk⟩
 obtain ⟨u1,u2,u3⟩:=lM (B:=B) (h':=h') I' rfl rfl rfl x1.1 x2 (fun b o e1 e2 e3=>hkb b o e1 e2 (e3.elim .inl fun ⟨u,e0⟩=>.inr (I.base.there b u e0 (by show b ∉ ([]:List Addr);simp))))
 obtain ⟨oe',hoe',_,hd',_⟩:=dk ea oe hoe
 exact ⟨ea,C,t,B,H',d,rfl,I'.os,I'.bare,u1,u2,x1,⟨oe',hoe',hd'.trans hdo⟩,hdx,u3,hE⟩
theorem bZ:xC (iq (CX1 P w) P w K mg base N qual scope f cd A outer s H E) (fun _=>E):=by
 intro pins σ H1 s1 h1 e C vs I hx hE
 show wpAny _ _ _ _ _ _
 have hin:∀ env∈(envOfC qual scope s.heap.objs.size f cd::outer),∀ b,env.frame=some b->b∈frs (envOfC qual scope s.heap.objs.size f cd::outer):=fun env he b hb=>List.mem_filterMap.mpr ⟨env,he,hb⟩
 have st:(PySem.W.hideAll s1.heap (frs (envOfC qual scope s.heap.objs.size f cd::outer))).StaysIn s1.heap:=fun b o q=>PySem.W.of_hideAll _ q
 have ff:s1.heap.FunFrames (PySem.W.hideAll s1.heap (frs (envOfC qual scope s.heap.objs.size f cd::outer))) (envOfC qual scope s.heap.objs.size f cd::outer):=PySem.W.funFrames_hide I.stack hin
 obtain ⟨tt,het,_,_⟩:=hx.there
 refine wpAny_mono (KD.any (E:=fun _ _=>False) (jc _ _) (wpAny_leaves_madeW (s:={ s1 with heap:=h1 }) (Q:=fun _ s''=>∃ h' t,s''={ s1 with heap:=h' }/\Heap.FlyingW (PySem.W.hideAll s1.heap (frs (envOfC qual scope s.heap.objs.size f cd::outer))) outer e (.ref C) (.ref t) h'/\h1.UpToSlots h') I.ok.frames rfl st ff hx fun h' t x1 _ _ x4=>⟨h',t,rfl,x1,x4⟩)) ?_ (fun _ _ z=>False.elim z.1)
 rintro _ s'' ⟨⟨h',t,rfl,x1,x4⟩,dk⟩
 obtain ⟨u1,u2,u3⟩:=lM (h':=h') I rfl rfl rfl x1.1 ((Heap.UpToSlots.of_keeps hx.keeps).trans x4) (fun b o e1 e2 _=>PySem.W.hideAll_get _ e1 e2)
 obtain ⟨oe',hoe',_,hd',_⟩:=dk e _ het
 exact ⟨e,C,t,_,H1,none,rfl,I.os,I.bare,u1,u2,x1,⟨oe',hoe',hd'⟩,(fun dx z=>by cases z),u3,hE⟩
end
theorem gw {P:Program}{w:World}{X:Cx}:Passes (CX1 P w) X E0:=fun _ _ _ _ _ _ _ h=>by
 obtain ⟨_,_,_,_,_,_,_,_,_,_,_,_,_,_,_,z⟩:=h
 exact z.elim
theorem kg {P:Program}{w:World}{outer:List Env}{H:Hp}{s:Shared}{e:Value}{s':Shared} (h:CX1 P w outer H s (fun _ _ _=>False) e s'):False:=by
 obtain ⟨_,_,_,_,_,_,_,_,_,_,_,_,_,_,_,z⟩:=h
 exact z
section
variable {P:Program}{w:World}{K:PySem.W.Frag}{mg:Str->Option Value}{base:Heap}
theorem Fun.okX {x qual:Str}{st:Stmt}{f:Addr}{fd:FuncData}{N ps:List Str}{k:Nat}{sp:Sp} (F:Fun K x qual st f fd) (S:aD N ps (ag st)) (len:∀ vs H Q E,sp vs H Q E->vs.length=ps.length)
  (hbody:∀ (cdv:Value) (A:Around) (outer:List Env) (s:Shared) (H:Hp) (vs:List V) (Q:VK) (E:XK),bq k (A.deeper (envOfC qual (ag st) s.heap.objs.size f cdv))->sp vs H Q E →
   ∃ t,PSs (iq (CX1 P w) P w K mg base N qual (ag st) f cdv A outer s H E) (az st) t/\t { nx:=fun _ H'=>Q .non H',rt:=Q } (start N vs) H):aW P w K mg base (CX1 P w) (k + 1) f fd ps sp:=by
 obtain ⟨oc,od,kV,doc,pm,an,cdv,ct,osl,rfl,lk,hcd⟩:=F.ex
 exact rg lk hcd S len fun A outer s H vs Q E hr hsp=>hbody cdv A outer s H vs Q E hr hsp
theorem Fun.okN {x qual:Str}{st:Stmt}{f:Addr}{fd:FuncData}{N ps:List Str}{k:Nat}{sp:Sp} (F:Fun K x qual st f fd) (S:aD N ps (ag st)) (len:∀ vs H Q E,sp vs H Q E->vs.length=ps.length)
  (hbody:∀ (cdv:Value) (A:Around) (outer:List Env) (s:Shared) (H:Hp) (vs:List V) (Q:VK) (E:XK),cJ k (A.deeper (envOfC qual (ag st) s.heap.objs.size f cdv))->sp vs H Q E →
   ∃ t,PSs (nU (CX1 P w) P w K mg base N qual (ag st) f cdv A outer s H E).nox (az st) t/\t { nx:=fun _ H'=>Q .non H',rt:=Q } (start N vs) H):kz P w K mg base (CX1 P w) (k + 1) f fd ps sp:=by
 obtain ⟨oc,od,kV,doc,pm,an,cdv,ct,osl,rfl,lk,hcd⟩:=F.ex
 refine Cq lk hcd S len fun A outer s H vs Q E hr hsp=>?_
 obtain ⟨t,h,q⟩:=hbody cdv A outer s H vs Q E hr hsp
 exact ⟨t,h.nox,q⟩
theorem kz.ok {CX:CXT}{k:Nat}{f:Addr}{fd:FuncData}{ps:List Str}{sp:Sp} (F:kz P w K mg base CX k f fd ps sp):aW P w K mg base CX k f fd ps sp :=
 ⟨F.len,fun A outer s H args us vs Q E hr=>F.run A outer s H args us vs Q E hr.n⟩
end
theorem wD {K:PySem.W.Frag}{h:Heap}{C:Addr}{bmB:List Value}{newId:String} (XK:K.In h) (q:PySem.W.excIn K C bmB newId=true) :
  ∃ bm N nm qn bs hd sn sub ab col dd k0 k1 k2 k3 k5 mN,h.get? C=some (excClassObj nm qn C N bs bm hd sn sub ab col dd k0 k1 k2 k3 k5 newId)/\h.Ns N mN/\mN "__init__"=none/\OwnTail h bmB bm:=by
 unfold PySem.W.excIn at q
 split at q
 next dd cd sl ho =>
  split at q
  next C' bm k0 k1 k2 k3 n k5 hm hs =>
   simp only [Bool.and_eq_true,beq_iff_eq,Bool.not_eq_true'] at q
   obtain ⟨⟨⟨⟨⟨e1,e2⟩,e3⟩,e4⟩,e5⟩,e6⟩:=q
   subst e1 e2
   cases cd with
   | mk nm bs mro ns qn hd sn sub ab col del =>
    simp only at hm e3 e5 e6
    subst hm e3
    have z:sl=#[k0,k1,k2,k3,some (.builtin n),k5]:=by
     cases sl with
     | mk l=>simp only at hs;rw [hs]
    subst z
    exact ⟨bm,ns,nm,qn,bs,hd,sn,sub,ab,col,dd,k0,k1,k2,k3,k5,_,XK _ _ ho,.of_isNs (PySem.W.isNs_of_in XK e5),PySem.W.nsMap_none_of_in XK e5 e6,PySem.W.tail_of_in XK e4⟩
  next=>cases q
 next=>cases q
def tW (C:Addr) (E:St->XK) (t:TA):TS:=fun _ σ H=>t σ H fun vs H1=>vs.length<=sizeLine/\E σ (.ref C) none H1
theorem qI {C:Addr}{E:St->XK}{t:TA}{D:Ends}{σ:St}{H:Hp}:tW C E t D σ H=t σ H fun vs H1=>vs.length<=sizeLine/\E σ (.ref C) none H1:=propext Iff.rfl
section
variable {X:Cx}
theorem cO {x:Str}{C:Addr}{E:St->XK}{B newId initId:String}{bmB:List Value}{e₀:Expr}{rest:List Expr}{t:TA}{np cpos pos:Pos} (FB:ExcBaseFacts B newId initId bmB) (hq:PySem.W.excIn X.K C bmB newId=true) (hm:X.mg x=some (.ref C))
  (hrx:xC X E) (hc:X.calm=true) (ha:PA X (e₀::rest) t) (hg:X.env.kindOf x=some .globalImplicit:=by kernel_rfl) (hd:(x == ("__debug__":Str))=false:=by kernel_rfl) (hs:bw (e₀::rest)=true:=by kernel_rfl) :
  PS X (.Raise (some (.Call (.Name x np) (e₀::rest) [] cpos)) none pos) (tW C E t):=by
 intro pins s σ H D I h
 obtain ⟨bm,N,nm,qn,bs,hdct,sn,sub,ab,col,dd,k0,k1,k2,k3,k5,mN,g1,g2,g3,g4⟩:=wD I.ok.mod.kin hq
 have he:=aA (es:=rest) (env:=X.env) (aC hs).1
 refine wpAny_Raise_call_subT (C:=C) (nm:=nm) (q:=qn) (N:=N) (bs:=bs) (bm:=bm) (hdct:=hdct) (sn:=sn) (sub:=sub) (ab:=ab) (col:=col) (dd:=dd) (k0:=k0) (k1:=k1) (k2:=k2) (k3:=k3) (k5:=k5)
  FB (mN:=mN) (g4.hasType FB.hasBase) (I.ok.hd hc) (bf hs) g3 (eP I hg hm ⟨rfl,?_⟩ hd)
 have ha':=ha cpos pins s σ H _ I h
 rw [he] at ha' ⊢
 refine Calls.evalArgs_plain (wpAny_mono ha' (fun vs s2 h2=>?_) fun _ _ y=>y)
 obtain ⟨xs,H2,I2,r,z,q⟩:=h2
 exact ⟨rfl,by rw [← r.length];exact z,I2.bk _ _ g1,g2.keeps I2.bk,g4.keeps I2.bk,fun h' e hx=>hrx pins σ H2 s2 h' e C vs I2 hx q⟩
end
end L2

namespace L2
open PySem PySem.Spec PyProof.Rows
def ij (a:Addr) (c:Value) (d:Option Addr):HO:=.ext fun h=>∃ o,h.get? a=some o/\o.cls=c/\o.dict=d/\∃ vs,o.data=.fields vs
theorem vm {P:Program}{w:World}{H:Hp}{h:Heap}{a:Addr}{c:Value}{d:Option Addr}{o:Obj}{vs:Array Value} (e:h.get? a=some o) (h1:o.cls=c) (h2:o.dict=d) (h3:o.data=.fields vs):aX P w H h a (ij a c d) :=
 ⟨⟨o,e,h1,h2,vs,h3⟩,⟨o,e⟩,fun _ _ ⟨o,e,q⟩ k=>⟨o,k o e,q⟩⟩
theorem vR {l:List Env}{H1 H':Hp}{h1 h' h5 B:Heap} (u:Un (frs l) [] H1 H' h1 h') (hk:∀ b o,h'.get? b=some o->b ∉ frs l->(H' b≠none ∨ ∃ u,h1.get? b=some u)->B.get? b=some o) (hB:B.StaysIn h5) (hsm:h'.UpToSlots h5)
  (hfr:∀ b∈frs l,∃ o,h'.get? b=some o/\∀ vs,o.data≠.fields vs):Un (frs l) [] H1 H' h1 h5 where
 keep:=fun b o e n hb hx=>hB b o (hk b o (u.keep b o e n hb hx) hb (.inr ⟨o,e⟩))
 slot:=fun b o e n hb hx=>by
  obtain ⟨sl,e1⟩:=u.slot b o e n hb hx
  obtain ⟨o1,e2,hd⟩:=hfr b hb
  rw [e1] at e2
  cases e2
  obtain ⟨sl',e3⟩:=hsm b _ e1 hd
  exact ⟨sl',e3⟩
 free:=u.free
 there:=fun b o e hx=>by
  obtain ⟨o1,e1⟩:=u.there b o e hx
  by_cases hb:b∈frs l
  ·obtain ⟨o2,e2,hd⟩:=hfr b hb
   obtain ⟨sl,e3⟩:=hsm b _ e2 hd
   exact ⟨_,e3⟩
  ·exact ⟨o1,hB b o1 (hk b o1 e1 hb (.inr ⟨o,e⟩))⟩
 tups:=u.tups
 frzs:=u.frzs
 tbls:=u.tbls
theorem rj {P:Program}{w:World}{l:List Env}{H':Hp}{h1 h' h5 B:Heap} (hok:HOk P w H' h') (hk:∀ b o,h'.get? b=some o->b ∉ frs l->(H' b≠none ∨ ∃ u,h1.get? b=some u)->B.get? b=some o) (hB:B.StaysIn h5)
  (hf:∀ b∈frs l,H' b=none):HOk P w H' h5:=fun a o e=>by
 refine (hok a o e).iP (fun c v hc q=>hB c v (hk c v q ?_ (.inl ?_))) (fun _ q=>q) fun _ _ q=>q
 ·intro z
  have:=hf c z
  rcases hc with rfl | hc
  ·rw [e] at this;cases this
  ·rw [hc] at this;cases this
 ·rcases hc with rfl | hc
  ·rw [e];simp
  ·rw [hc];simp
section
variable {X:Cx}{pins:List (Addr × Obj)}{σ:St}{H:Hp}{s:Shared}
theorem Inv.zL {a:Addr}{o:HO} (I:Inv X pins σ H s) (hn:H a=none) (h0:X.s₀.heap.get? a=none) (hL:a≠X.env.locals) (hc:∀ x c,X.env.cells.lookup x=some c->c≠a) (hp:∀ p∈X.pn++pins,p.1≠a)
  (ho:aX X.prog X.w (upd H a o) s.heap a o):Inv X pins σ (upd H a o) s where
 ok:=I.ok
 os:=I.os
 bare:=I.bare
 base:=by
  have ne:∀ b u,X.s₀.heap.get? b=some u->b≠a:=fun b u e z=>by rw [z,h0] at e;cases e
  refine ⟨I.base.keep,I.base.slot,fun b u e n hx=>by rw [av (ne b u e)];exact I.base.free b u e n hx,I.base.there,fun b xs q=>?_,fun b ob u q=>?_,fun b ps q=>?_⟩
  ·have:=I.base.tups b xs q
   rw [av (fun z=>by rw [z,hn] at this;cases this)];exact this
  ·have:=I.base.frzs b ob u q
   rw [av (fun z=>by rw [z,hn] at this;cases this)];exact this
  ·obtain ⟨m,e⟩:=I.base.tbls b ps q
   exact ⟨m,by rw [av (fun z=>by rw [z,hn] at e;cases e)];exact e⟩
 loc:=I.loc
 cell:=I.cell
 free:=by rw [av (Ne.symm hL)];exact I.free
 freeC:=fun x c e=>by rw [av (hc x c e)];exact I.freeC x c e
 pin:=fun p h=>by
  obtain ⟨h1,h2,h3⟩:=I.pin p h
  exact ⟨h1,by rw [av (hp p h)];exact h2,h3⟩
 hok:=fun b u e=>by
  by_cases hb:b=a
  ·subst hb
   rw [ay] at e
   cases e
   exact ho
  ·rw [av hb] at e
   refine (I.hok b u e).iP (fun _ _ _ q=>q) (fun c q=>?_) fun c xs q=>?_
   ·rw [av (fun z=>by rw [z,hn] at q;cases q)];exact q
   ·rw [av (fun z=>by rw [z,hn] at q;cases q)];exact q
 len:=I.len
theorem dE {A:Around}{E:Value->Shared->Prop}{i:Nat}{n:Str}{pos:Pos}{Q:Unit->Shared->Prop} (I:Inv X pins σ H s) (hN:X.N.Nodup) (hi:X.N[i]?=some n) (hn:X.env.scope.names.lookup n=some .local)
  (h:∀ s',Inv X pins (σ.set i none) H s'->Q () s'):wpAny (model X.prog X.w) A (do bindName X.env n .none;unbindBehindTheSuite X.env n pos) Q E s:=by
 have hiσ:i < σ.length:=by rw [I.len];exact (List.getElem?_eq_some_iff.mp hi).1
 refine wpAny_bind (wpAny_bindName (gb (v:=.non) I hN hi (.inl hn) rfl (fun s1 I1=>?_) (.inr hn)))
 obtain ⟨m,hm,hl⟩:=id I1.loc
 obtain ⟨u,_,hu⟩:=hl i n .non hi (by rw [List.getElem?_set_self hiσ]) (.inl hn)
 have hv:∃ v,m n=some v:=by
  rcases hu with ⟨_,e⟩ | ⟨k,_⟩
  ·exact ⟨_,e⟩
  ·have k':X.env.scope.names.lookup n=some .cell ∨ X.env.scope.names.lookup n=some .free:=k
   rw [hn] at k';rcases k' with z | z <;> cases z
 obtain ⟨v,hv⟩:=hv
 have hcls:(X.env.scope.kind == .class || (X.env.scope.kind == .module && X.env.locals != X.env.globals))=false:=by rw [I.ok.kind];rfl
 unfold unbindBehindTheSuite
 refine wpAny_onRaise (wpAny_unbindName_local hn hm hv hcls fun h' w' hn' hs=>h _ ?_)
 have older:∀ b o,X.s₀.heap.get? b=some o->b≠X.env.locals:=fun b o e=>Nat.ne_of_lt (Nat.lt_of_lt_of_le (Heap.lt_size e) I.ok.above)
 refine ⟨I1.ok,I1.os,I1.bare,⟨fun b o e k hb hx=>(hs.2 b (older b o e)).trans (I1.base.keep b o e k hb hx),fun b o e k hb hx=>?_,I1.base.free,fun b o e hx=>?_,I1.base.tups,I1.base.frzs,I1.base.tbls⟩,
  ⟨_,hn',fun j y v' e1 e2 e3=>?_⟩,fun y c e=>?_,I1.free,I1.freeC,fun p hp=>?_,fun b ob e=>?_,by rw [List.length_set];exact I.len⟩
 ·obtain ⟨sl,e1⟩:=I1.base.slot b o e k hb hx
  exact ⟨sl,(hs.2 b (older b o e)).trans e1⟩
 ·obtain ⟨o',e1⟩:=I1.base.there b o e hx
  exact ⟨o',(hs.2 b (older b o e)).trans e1⟩
 ·by_cases hj:j=i
  ·subst hj
   rw [List.getElem?_set_self hiσ] at e2
   cases e2
  ·rw [List.getElem?_set_ne (Ne.symm hj)] at e2
   obtain ⟨u',r',q⟩:=hl j y v' e1 (by rw [List.getElem?_set_ne (Ne.symm hj)];exact e2) e3
   refine ⟨u',r',?_⟩
   rcases q with ⟨k,e⟩ | ⟨k,c,e,z⟩
   ·refine .inl ⟨k,?_⟩
    have:y≠n:=fun e=>hj (mB hN e1 (e ▸ hi))
    simp [this,e]
   ·exact .inr ⟨k,c,e,z.sameBut hs (I1.cne y c e)⟩
 ·obtain ⟨w2,z⟩:=I1.cell y c e
  exact ⟨w2,z.sameBut hs (I1.cne y c e)⟩
 ·obtain ⟨e,k,ne,nf,d⟩:=I1.pin p hp
  exact ⟨(hs.2 p.1 ne).trans e,k,ne,nf,d⟩
 ·refine (I1.hok b ob e).iP (fun c w2 hc q=>(hs.2 c ?_).trans q) (fun _ q=>q) fun _ _ q=>q
  rintro rfl
  have:=I1.free
  rcases hc with rfl | hc
  ·rw [this] at e;cases e
  ·rw [this] at hc;cases hc
def Ends.un (D:Ends) (i:Nat):Ends:=⟨fun σ H=>D.nx (σ.set i none) H,D.rt,fun σ H=>D.bk (σ.set i none) H,fun σ H=>D.ct (σ.set i none) H⟩
def DW (K:PySem.W.Frag) (tb:(St->XK)->TS) (CE:Addr) (i:Nat) (th:TS):TS:=fun D σ H =>
 tb (fun σ' c d H'=>PySem.W.exmOne K c (.ref CE)=some true/\∀ ea H2,H' ea=none->ao H' H2->H2 ea=some (ij ea c d)->th (D.un i) (σ'.set i (some (.ref ea))) H2) D σ H
theorem Inv.DR {xe:Value->Shared->Prop} (I:Inv X pins σ H s):Inv { X with pn:=X.pn++pins,xe:=xe } [] σ H s :=
 ⟨⟨I.ok.mod,I.ok.kind,I.ok.glob,I.ok.blt,I.ok.above,I.ok.inj,I.ok.has,I.ok.cab,I.ok.hd,I.ok.frames,I.ok.stk,I.ok.exf,I.ok.bs,I.ok.bsz,I.ok.noex,I.ok.exfs,I.ok.ik,I.ok.frf⟩,I.os,I.bare,I.base,I.loc,I.cell,I.free,I.freeC,
  fun p h=>I.pin p (by simpa using h),I.hok,I.len⟩
theorem Inv.gx {xe:Value->Shared->Prop}{pins':List (Addr × Obj)} (I:Inv { X with pn:=X.pn++pins,xe:=xe } pins' σ H s):Inv X pins σ H s :=
 ⟨⟨I.ok.mod,I.ok.kind,I.ok.glob,I.ok.blt,I.ok.above,I.ok.inj,I.ok.has,I.ok.cab,I.ok.hd,I.ok.frames,I.ok.stk,I.ok.exf,I.ok.bs,I.ok.bsz,I.ok.noex,I.ok.exfs,I.ok.ik,I.ok.frf⟩,I.os,I.bare,I.base,I.loc,I.cell,I.free,I.freeC,
  fun p h=>I.pin p (List.mem_append_left _ h),I.hok,I.len⟩
theorem Inv.pH {e:Option Value} (I:Inv X pins σ H s):Inv { X with A:=X.A.mark e,calm:=false,xe:=fun _ _=>False } pins σ H s :=
 ⟨⟨I.ok.mod,I.ok.kind,I.ok.glob,I.ok.blt,I.ok.above,I.ok.inj,I.ok.has,I.ok.cab,(fun z=>by cases z),I.ok.frames,I.ok.stk,I.ok.exf,I.ok.bs,I.ok.bsz,I.ok.noex,I.ok.exfs,I.ok.ik,I.ok.frf⟩,I.os,I.bare,I.base,I.loc,I.cell,I.free,I.freeC,
  I.pin,I.hok,I.len⟩
theorem Inv.markFrom {e:Option Value}{xe:Value->Shared->Prop} (ok:X.Ok) (I:Inv { X with A:=X.A.mark e,calm:=false,xe:=xe } pins σ H s):Inv X pins σ H s :=
 ⟨ok,I.os,I.bare,I.base,I.loc,I.cell,I.free,I.freeC,I.pin,I.hok,I.len⟩
theorem Dk {body:List Stmt}{b₀:Stmt}{suite:List Stmt}{x n:Str}{i:Nat}{CE:Addr}{np hpos pos:Pos}{tb:(St->XK)->TS}{th:TS} (hst:X.stack=X.env::X.outer) (hf:X.env.frame=some X.env.locals) (hex:X.ex=[]) (hN:X.N.Nodup) (hm:X.mg x=some (.ref CE))
  (hb:∀ (pn:List (Addr × Obj)) (xe:Value->Shared->Prop) (E:St->XK),PassesOwn (model X.prog X.w) X.A X.env xe->Passes (CX1 X.prog X.w) { X with pn:=pn,xe:=xe } E->PSs { X with pn:=pn,xe:=xe } body (tb E))
  (hh:∀ ea:Addr,PSs { X with A:=X.A.mark (some (.ref ea)),calm:=false,xe:=fun _ _=>False } (b₀::suite) th)
  (hi:X.N[i]?=some n:=by kernel_rfl) (hn:X.env.scope.names.lookup n=some .local:=by kernel_rfl) (hg:X.env.kindOf x=some .globalImplicit:=by kernel_rfl) (hd:(x == ("__debug__":Str))=false:=by kernel_rfl) :
  PS X (.Try body [.ExceptHandler (some (.Name x np)) (some n) (b₀::suite) hpos] [] [] pos) (DW X.K tb CE i th):=by
 intro pins s σ H D I h
 refine wpAny_Try_except ?_
 refine wpAny_mono (hb (X.pn++pins) _ _ PassesOwn.looking ?_ [] s σ H D I.DR h) ?_ (fun e s1 he=>he)
 ·intro pins' σ' H1 s1 e s' I' hcx
  obtain ⟨ea,C,t,B,H',d,rfl,os,bare,un,hok,fl,⟨oe,hoe,hdo⟩,hdx,hkb,htrue,hE⟩:=hcx
  have IX:Inv X pins σ' H1 s1:=I'.gx
  have I2:Inv X pins σ' H' s':=IX.nQ (ch:=[]) os un hok bare (fun b z=>absurd z (by simp))
  have hfr:∀ b∈frs X.stack,∃ o,s'.heap.get? b=some o/\∀ vs,o.data≠.fields vs:=fun b hb=>(I2.stack.mem hb).2
  have hff:∀ b∈frs X.stack,H' b=none:=I2.jR
  obtain ⟨oe0,vs0,hoe0,_,hdat0,_⟩:=fl.first
  have nfr:ea ∉ frs X.stack:=fun z=>by
   obtain ⟨o,e1,e2⟩:=hfr ea z
   rw [hoe0] at e1;cases e1;exact e2 _ hdat0
  have hea:H' ea=none:=by
   cases q:H' ea with
   | none=>rfl
   | some o=>have:=hkb ea oe hoe nfr (.inl (by rw [q];simp));rw [fl.2.1] at this;cases this
  have new1:s1.heap.get? ea=none:=by
   cases q:s1.heap.get? ea with
   | none=>rfl
   | some o=>have:=hkb ea oe hoe nfr (.inr ⟨o,q⟩);rw [fl.2.1] at this;cases this
  have new0:X.s₀.heap.get? ea=none:=by
   cases q:X.s₀.heap.get? ea with
   | none=>rfl
   | some o =>
    obtain ⟨o2,e2⟩:=IX.base.there ea o q (by rw [hex];simp)
    rw [new1] at e2;cases e2
  have mk:∀ h6,Heap.FlyingW B X.stack ea (.ref C) (.ref t) h6->s'.heap.UpToSlots h6->(∃ o6,h6.get? ea=some o6/\o6.dict=d)->Inv X pins σ' (upd H' ea (ij ea (.ref C) d)) { s' with heap:=h6 }:=by
   intro h6 f6 sm6 ⟨o6,e6,d6⟩
   have J:Inv X pins σ' H' { s' with heap:=h6 }:=IX.nQ (s':={ s' with heap:=h6 }) (ch:=[]) os (vR un hkb f6.1 sm6 hfr) (rj hok hkb f6.1 hff) bare (fun b z=>absurd z (by simp))
   obtain ⟨o7,v7,e7,c7,t7,_⟩:=f6.first
   rw [e6] at e7
   cases e7
   refine J.zL hea new0 (fun z=>?_) (fun y c e z=>?_) (fun p hp z=>?_) (vm e6 c7 d6 t7)
   ·obtain ⟨m,⟨ob,_,_,e9,_⟩,_⟩:=IX.loc
    rw [← z,new1] at e9;cases e9
   ·obtain ⟨w9,o9,e9,_⟩:=IX.cell y c e
    rw [z,new1] at e9;cases e9
   ·have e9:=(IX.pin p hp).1
    rw [z,new1] at e9;cases e9
  refine wpAny_mono (KD.any (E:=fun _ _=>False) (pF _ _) (wpAny_looks_onW (Q:=fun _ s''=>∃ h4,s''={ s' with heap:=h4 }/\Heap.HeldW B X.stack ea (.ref C) (.ref t) X.env.locals h4/\s'.heap.UpToSlots h4) (by rw [← hst];exact I.ok.frames) hf (by rw [← hst];exact fl) fun h4 x1 x2=>⟨h4,rfl,by rw [hst];exact x1,x2⟩)) ?_ (fun _ _ z=>False.elim z.1)
  rintro _ _ ⟨⟨h4,rfl,l4,sm4⟩,dk4⟩
  refine wpAny_mono (KD.any (E:=fun _ _=>False) (gJ _ _) (wpAny_landsW (s:={ s' with heap:=h4 }) (Q:=fun _ s''=>∃ h5,s''={ s' with heap:=h5 }/\Heap.FlyingW B X.stack ea (.ref C) (.ref t) h5/\h4.UpToSlots h5) l4 fun h5 x1 x2=>⟨h5,rfl,x1,x2⟩)) ?_ (fun _ _ z=>False.elim z.1)
  rintro _ _ ⟨⟨h5,rfl,f5,sm5⟩,dk5⟩
  obtain ⟨o5,e5,_,d5,_⟩:=(dk4.trans dk5) ea oe hoe
  have I5:=mk h5 f5 (sm4.trans sm5) ⟨o5,e5,d5.trans hdo⟩
  obtain ⟨o5',v5,e5',c5,t5,_⟩:=f5.first
  rw [e5] at e5'
  cases e5'
  refine wpAny_handleBy_cons (codeAny_handlers_test ?_) (by intro q;cases q)
  refine eP (X:={ X with A:=X.A.mark (some (.ref ea)),calm:=false,xe:=fun _ _=>False }) I5.pH hg hm ?_ hd
  have LT:PySem.W.Looks (model X.prog X.w) h5 (typeOf (.ref ea)) (.ref C):=c5 ▸ (PySem.W.Looks.ld e5).andThen .now
  refine PySem.W.exm_one I5.kIn LT htrue _ _ _ _ (fun _ _ e=>e) ?_
  refine codeAny_handlers_suite_as ?_
  refine wpAny_mono (KD.any (E:=fun _ _=>False) (gJ _ _) (lands_againW (s:={ s' with heap:=h5 }) (Q:=fun _ s''=>∃ h6,s''={ s' with heap:=h6 }/\Heap.FlyingW B X.stack ea (.ref C) (.ref t) h6/\h5.UpToSlots h6) f5 fun h6 x1 x2=>⟨h6,rfl,x1,x2⟩)) ?_ (fun _ _ z=>False.elim z.1)
  rintro _ _ ⟨⟨h6,rfl,f6,sm6⟩,dk6⟩
  obtain ⟨o6,e6,_,d6,_⟩:=dk6 ea o5 e5
  have I6:=mk h6 f6 ((sm4.trans sm5).trans sm6) ⟨o6,e6,d6.trans (d5.trans hdo)⟩
  refine gb (X:={ X with A:=X.A.mark (some (.ref ea)),calm:=false,xe:=fun _ _=>False }) (v:=.ref ea) I6.pH hN hi (.inl hn) rfl (fun s7 I7=>?_) (.inr hn)
  refine wpAny_mono (hh ea pins s7 _ _ (D.un i) I7 (hE ea _ hea (cg hea) ay)) (fun f s8 hsp=>?_) (fun _ _ z=>False.elim z)
  cases f with
  | next =>
   obtain ⟨σ9,H9,I9,q9⟩:=hsp
   exact dE (Inv.markFrom I.ok I9) hN hi hn fun s9 J=>⟨_,H9,J,q9⟩
  | brk =>
   obtain ⟨σ9,H9,I9,q9⟩:=hsp
   exact dE (Inv.markFrom I.ok I9) hN hi hn fun s9 J=>⟨_,H9,J,q9⟩
  | cont =>
   obtain ⟨σ9,H9,I9,q9⟩:=hsp
   exact dE (Inv.markFrom I.ok I9) hN hi hn fun s9 J=>⟨_,H9,J,q9⟩
  | ret u =>
   obtain ⟨v9,σ9,H9,I9,r9,q9⟩:=hsp
   exact dE (Inv.markFrom I.ok I9) hN hi hn fun s9 J=>⟨v9,_,H9,J,r9,q9⟩
 ·intro f s1 hsp
  cases f with
  | next =>
   obtain ⟨σ9,H9,I9,q9⟩:=hsp
   exact wpAny_execs_nil ⟨σ9,H9,I9.gx,q9⟩
  | brk =>
   obtain ⟨σ9,H9,I9,q9⟩:=hsp
   exact ⟨σ9,H9,I9.gx,q9⟩
  | cont =>
   obtain ⟨σ9,H9,I9,q9⟩:=hsp
   exact ⟨σ9,H9,I9.gx,q9⟩
  | ret u =>
   obtain ⟨v9,σ9,H9,I9,r9,q9⟩:=hsp
   exact ⟨v9,σ9,H9,I9.gx,r9,q9⟩
end
end L2

namespace L2
open PySem PySem.Spec PyProof.Rows
theorem Ak:builtinKind "BaseException.__getattribute__"=some Manifest.AttrKind.slot:=by decide +kernel
theorem yu:splitId "BaseException.__getattribute__"=some ("BaseException","__getattribute__"):=by decide +kernel
theorem ri {M:Model}{A:Around}{E:Value->Shared->Prop}{s:Shared}{x:Addr}{nm:Value}{Q:Unit->Shared->Prop} (l:PySem.W.Looks M s.heap (isInstance (.ref x) (.type "BaseException")) true) (q:Q () s) :
  wpAny M A (checkBuiltinCall "BaseException.__getattribute__" { pos:=[.ref x,nm] }) Q E s :=
 PySem.W.check_slot (i:="BaseException.__getattribute__") (self:=.ref x) (rest:=[nm]) (kw:=[]) Ak yu l (F.args_bexc_ga _ _) q
theorem Ar {prog:Program}{w:World}{A:Around}{E:Value->Shared->Prop}{s:Shared}{K:PySem.W.Frag}{x D:Addr}{ox:Obj}{odo:Option Obj}{name:Str}{g a:Value}{Q:Option Value->Shared->Prop}
  (X:K.In s.heap) (I:PySem.W.InstAt s.heap x ox D odo)
  (hga:PySem.W.findIn K (.ref D) "__getattribute__"=some (some (.builtin "BaseException.__getattribute__")))
  (hgn:PySem.W.findIn K (.ref D) "__getattr__"=some none)
  (hsub:PySem.W.subIn K (.ref D) (.type "BaseException")=some true)
  (hf:PySem.W.findObj K D odo name=some (.bind g a))
  (h:∀ A',wpAny (model prog w) A' (call g [a,.ref x,.ref D]) (fun v s'=>wpAny (model prog w) A (handedOut v) (fun v s''=>Q (some v) s'') (fun _ _=>False) s') (fun _ _=>False) { s with toks:=s.toks + 1 }) :
  wpAny (model prog w) A (getAttr? (.ref x) name) Q E s:=by
 obtain ⟨hh,gg,dd,tt,os⟩:=s
 have L0:∀ {M},PySem.W.Looks M hh (typeOf (.ref x)) (.ref D):=I.type
 have L1:∀ {M},PySem.W.Looks M hh (typeLookup (.ref D) "__getattribute__") _:=PySem.W.looks_findIn X hga
 have L2:∀ {M},PySem.W.Looks M hh (typeLookup (.ref D) "__getattr__") _:=PySem.W.looks_findIn X hgn
 have L3:∀ {M},PySem.W.Looks M hh (isSubtype (.ref D) (.type "BaseException")) _:=PySem.W.looks_subIn X hsub
 have L4:∀ {M},PySem.W.Looks M hh (Builtin.ObjectAttr.find (.ref x) (.ref D) name) _:=PySem.W.looks_find X I hf
 have L5:∀ {M},PySem.W.Looks M hh (isInstance (.ref x) (.type "BaseException")) true:=by
  intro M;unfold isInstance;exact PySem.W.Looks.andThen (f:=fun t=>isSubtype t (.type "BaseException")) L0 L3
 have f3:=F.excAttr_ValueError.ga.bind (Value.ref x)
 unfold getAttr?
 refine wpAny_bind (wpAny_mkText ?_)
 unfold getAttrBy?
 refine wpAny_bind (wpAny_attempt ?_)
 unfold getAttrBy
 refine wpAny_holding (wpAny_bind (L0.at (wpAny_bind (L1.at ?_))))
 refine wpAny_ite_false rfl ?_
 unfold getAttrByItsOwn
 refine wpAny_bind ?_
 unfold hookBefore
 refine wpAny_ite_true rfl (L2.at ?_)
 refine wpAny_bind (wpAny_attempt (wpAny_holding ?_))
 unfold callGetattribute
 refine wpAny_ite_false rfl ?_
 unfold boundAndCalled
 refine wpAny_bind (wpAny_of_eq f3 ?_)
 refine wpAny_call (codeAny_call_builtin F.excAttr_ValueError.ga.plain F.entry_bexc_ga ?_)
 refine ri L5 ?_
 show wpAny _ _ (Builtin.«object.__getattribute__» { pos:=[Value.ref x,Value.str name _] }) _ _ _
 unfold Builtin.«object.__getattribute__»
 refine wpAny_bind ?_
 unfold slotArgs
 refine wpAny_ite_false rfl (wpAny_ite_false rfl (wpAny_pure ?_))
 refine wpAny_bind (wpAny_pure ?_)
 refine wpAny_bind (L0.at (wpAny_bind (L4.at ?_)))
 show wpAny _ _ (Builtin.ObjectAttr.bindTo g a (.ref x) (.ref D)) _ _ _
 unfold Builtin.ObjectAttr.bindTo
 refine wpAny_bind (wpAny_holding (wpAny_mono (h _) (fun v s' z=>?_) (fun _ _ z=>z.elim)))
 refine wpAny_pure ?_
 refine wpAny_mono z (fun v s' z=>wpAny_pure z) (fun _ _ z=>z.elim)
structure oZ (K:PySem.W.Frag) (C:Addr):Prop where
 ga:PySem.W.findIn K (.ref C) "__getattribute__"=some (some (.builtin "BaseException.__getattribute__"))
 gn:PySem.W.findIn K (.ref C) "__getattr__"=some none
 sb:PySem.W.subIn K (.ref C) (.type "BaseException")=some true
 cl:(PySem.W.clsIn K C).isSome=true
 ha:PySem.W.findIn K (.ref C) "__class__"=some (some (.builtin "object.__class__"))
 hn:PySem.W.specialIn K (.builtin "object.__class__") "__get__"=some (some (.builtin "getset_descriptor.__get__"))
 htk:PySem.W.takesIn K (.builtin "object.__class__")=some true
 hm:PySem.W.mroIn K C (.type "object")=some true
theorem qZ {K:PySem.W.Frag}{C:Addr}{od:Option Obj}{name:Str}{a g:Value} (hc:(PySem.W.clsIn K C).isSome=true) (ha:PySem.W.findIn K (.ref C) name=some (some a)) (hg:PySem.W.specialIn K a "__get__"=some (some g)) (ht:PySem.W.takesIn K a=some true) :
  PySem.W.findObj K C od name=some (.bind g a):=by
 obtain ⟨cd,e⟩:=Option.isSome_iff_exists.mp hc
 unfold PySem.W.findObj
 rw [e,Option.bind_some,ha,Option.bind_some]
 show (PySem.W.specialIn K a "__get__").bind _=_
 rw [hg,Option.bind_some]
 show (PySem.W.takesIn K a).bind _=_
 rw [ht,Option.bind_some]
def ExcAt (x C:Addr) (h:Heap):Prop:=∃ ox od,PySem.W.InstAt h x ox C od
theorem rp {K:PySem.W.Frag}{x C:Addr} (e:oZ K C):PySem.W.KitX K (.ref x) (.ref C) (ExcAt x C) where
 ty:=fun _ _ _ ⟨_,_,I⟩=>I.type
 it:=fun _ h XK _=>by
  obtain ⟨cd,hc⟩:=Option.isSome_iff_exists.mp e.cl
  unfold PySem.W.clsIn at hc
  split at hc
  next c' d' cd' sl' ho =>
   intro A' Q' E' s' k q
   unfold isType loadHead
   exact wpAny_bind (wpAny_loadPart (k _ _ (XK _ _ ho)) (wpAny_pure q))
  next=>cases hc
 ne:=fun h tp dd its n sl XK htp=>by
  obtain ⟨cd,hc⟩:=Option.isSome_iff_exists.mp e.cl
  refine Bool.eq_false_iff.mpr fun q=>?_
  have z:C=tp:=Value.ref.inj (beq_iff_eq.mp q)
  subst z
  unfold PySem.W.clsIn at hc
  split at hc
  next c' d' cd' sl' ho =>
   have z:=(XK _ _ ho).symm.trans htp
   cases z
  next=>cases hc
 ca:=fun {prog w A E Q s} XK I k=>by
  obtain ⟨ox,od,I⟩:=I
  have hf:=qZ (od:=od) e.cl e.ha e.hn e.htk
  exact Ar XK I e.ga e.gn e.sb hf fun A'=>wpAny_call (PySem.W.class_get (s:={ s with toks:=s.toks + 1 }) (ox:=ox) (od:=od) XK I e.hm (PySem.W.handed_on rfl k))
def TyX (K:PySem.W.Frag) (H:Hp) (x:V) (t:Value):Prop:=iX K H x t ∨ ∃ a C,x=.ref a/\t=.ref C/\H a=some (ij a (.ref C) none)/\oZ K C
def Bz (K:PySem.W.Frag):List V->Hp->VK->Prop:=fun vs H Q=>match vs with
 | [x,.ty n]=>∃ t b,TyX K H x t/\PySem.W.kitOne K t (.type n)=some b/\Q (.bl b) H
 | [x,.ref c]=>∃ t b,TyX K H x t/\(PySem.W.kitOne K t (.ref c)=some b ∨ ∃ (a C:Addr) (cs:List Addr),x=.ref a/\t=.ref C/\H a=some (ij a (.ref C) none)/\oZ K C/\H c=some (.tup (cs.map V.ref))/\PySem.W.kitAny K t (cs.map Value.ref)=some b)/\Q (.bl b) H
 | _=>False
def ym (K:PySem.W.Frag) (C:Addr):Bool :=
 PySem.W.findIn K (.ref C) "__getattribute__" == some (some (.builtin "BaseException.__getattribute__")) && PySem.W.findIn K (.ref C) "__getattr__" == some none && PySem.W.subIn K (.ref C) (.type "BaseException") == some true && (PySem.W.clsIn K C).isSome && PySem.W.findIn K (.ref C) "__class__" == some (some (.builtin "object.__class__")) &&
 PySem.W.specialIn K (.builtin "object.__class__") "__get__" == some (some (.builtin "getset_descriptor.__get__")) && PySem.W.takesIn K (.builtin "object.__class__") == some true && PySem.W.mroIn K C (.type "object") == some true
theorem yn {K:PySem.W.Frag}{C:Addr} (h:ym K C=true):oZ K C:=by
 unfold ym at h
 simp only [Bool.and_eq_true,beq_iff_eq] at h
 obtain ⟨⟨⟨⟨⟨⟨⟨h1,h1'⟩,h1''⟩,h2⟩,h3⟩,h4⟩,h5⟩,h6⟩:=h
 exact ⟨h1,h1',h1'',h2,h3,h4,h5,h6⟩
def pA (K:PySem.W.Frag) (b:Addr) (cs:List Addr):Bool :=
 cs.all fun c=>ym K c && PySem.W.exmOne K (.ref c) (.ref b) == some true && PySem.W.kitOne K (.ref c) (.type "ValueError") == some true && PySem.W.kitOne K (.ref c) (.ref b) == some true &&
  cs.all fun d=>PySem.W.kitOne K (.ref c) (.ref d) == some (c == d)
structure Err (K:PySem.W.Frag) (b:Addr) (cs:List Addr) (c:Addr):Prop where
 ex:oZ K c
 em:PySem.W.exmOne K (.ref c) (.ref b)=some true
 ve:PySem.W.kitOne K (.ref c) (.type "ValueError")=some true
 ba:PySem.W.kitOne K (.ref c) (.ref b)=some true
 kd:∀ d∈cs,PySem.W.kitOne K (.ref c) (.ref d)=some (c == d)
theorem yh {K:PySem.W.Frag}{b:Addr}{cs:List Addr} (h:pA K b cs=true) {c:Addr} (hc:c∈cs):Err K b cs c:=by
 unfold pA at h
 have h:=List.all_eq_true.mp h c hc
 simp only [Bool.and_eq_true,beq_iff_eq] at h
 obtain ⟨⟨⟨⟨h1,h2⟩,h3⟩,h4⟩,h5⟩:=h
 exact ⟨yn h1,h2,h3,h4,fun d hd=>by have:=List.all_eq_true.mp h5 d hd;simpa using this⟩
theorem Err.any {K:PySem.W.Frag}{b:Addr}{cs:List Addr}{c:Addr} (E:Err K b cs c):∀ {ds:List Addr},(∀ d∈ds,d∈cs)->PySem.W.kitAny K (.ref c) (ds.map Value.ref)=some (ds.contains c)
 | [],_=>rfl
 | d::r,h=>by
  show (match PySem.W.kitOne K (.ref c) (.ref d) with | some true=>some true | some false=>PySem.W.kitAny K (.ref c) (r.map Value.ref) | none=>none)=_
  rw [E.kd d (h d List.mem_cons_self),Err.any E (fun x hx=>h x (List.mem_cons_of_mem _ hx)),List.contains_cons]
  cases (c == d) <;> rfl
theorem cx {X:Cx}{x:Str}{v:V}{pos:Pos} (h:∃ u,X.mg x=some u/\RelV v u) (hg:X.env.kindOf x=some .globalImplicit:=by kernel_rfl) (hd:(x == ("__debug__":Str))=false:=by kernel_rfl):PE X (.Name x pos) (tC v):=by
 obtain ⟨u,h1,h2⟩:=h
 exact vA hg h1 h2 hd
theorem bN {X:Cx}{x:Str}{c:Addr}{pos:Pos} (h:X.mg x=some (.ref c)) (hg:X.env.kindOf x=some .globalImplicit:=by kernel_rfl) (hd:(x == ("__debug__":Str))=false:=by kernel_rfl):PE X (.Name x pos) (tC (.ref c)):=vA hg h rfl hd
theorem xP {K:PySem.W.Frag}{tb:(St->XK)->TS}{CE:Addr}{i:Nat}{th:TS}{D:Ends}{σ:St}{H:Hp}:DW K tb CE i th D σ H =
 tb (fun σ' c d H'=>PySem.W.exmOne K c (.ref CE)=some true/\∀ ea H2,H' ea=none->ao H' H2->H2 ea=some (ij ea c d)->th (D.un i) (σ'.set i (some (.ref ea))) H2) D σ H:=propext Iff.rfl
structure zU (P:Program) (w:World) (K:PySem.W.Frag) (mg:Str->Option Value) (base:Heap) (CX:CXT) (k:Nat) (x:Str) (ps:List Str) (sp:Sp):Prop where
 ex:∃ (f:Addr) (fd:FuncData),kz P w K mg base CX k f fd ps sp/\mg x=some (.ref f)/\PySem.W.keepIn K (.ref f)=true/\Binds K fd ps []
theorem ko {X:Cx}{CX:CXT}{E:St->XK}{k:Nat}{x:Str}{ps:List Str}{sp:Sp}{e:Expr}{es:List Expr}{t:TA}{p pos:Pos} (C:zU X.prog X.w X.K X.mg X.base CX k x ps sp) (hx:Passes CX X E) (hr:cJ k X.A) (ha:PA X (e::es) t)
  (hg:X.env.kindOf x=some .globalImplicit:=by kernel_rfl) (hd:(x == ("__debug__":Str))=false:=by kernel_rfl) (hs:bw (e::es)=true:=by kernel_rfl):PE X (.Call (.Name x p) (e::es) [] pos) (oU sp [] E t):=by
 obtain ⟨f,fd,F,hm,hk,hb⟩:=C.ex
 exact yX F hr hg hm hk hb .nil hx ha hd (aA (aC hs).1) (bf (aC hs).2)
end L2

namespace L2
open PySem PySem.Spec PyProof.Rows
def up (t:TE):TE:=fun σ H R=>∃ R',t σ H R'/\∀ x H,R' x H->R x H
def upA (t:TA):TA:=fun σ H R=>∃ R',t σ H R'/\∀ x H,R' x H->R x H
theorem PE.up {X:Cx}{e:Expr}{t:TE} (h:PE X e t):PE X e (up t):=fun pins s σ H Q I ⟨R',h1,h2⟩=>thn (h pins s σ H R' I h1) fun _ _ ⟨v,H',I',r,q⟩=>⟨v,H',I',r,h2 v H' q⟩
theorem PA.up {X:Cx}{es:List Expr}{t:TA} (h:PA X es t):PA X es (upA t):=fun pos pins s σ H Q I ⟨R',h1,h2⟩=>thn (h pos pins s σ H R' I h1) fun _ _ ⟨v,H',I',r,q⟩=>⟨v,H',I',r,h2 v H' q⟩
def vI (K:PySem.W.Frag) (f:Str) (x:V) (H:Hp) (Q:VK):Prop:=match x with
 | .ref a=>∃ C dx fs v,H a=some (.ins C dx fs)/\Cls K C/\dF K C f/\fs.lookup f=some v/\Q v H
 | _=>False
def zG (K:PySem.W.Frag) (ta:TE) (f:Str):TE:=fun σ H Q=>ta σ H fun x H1=>vI K f x H1 Q
theorem xG {K:PySem.W.Frag}{ta:TE}{f:Str}{σ:St}{H:Hp}{Q:VK}:zG K ta f σ H Q=ta σ H fun x H1=>vI K f x H1 Q:=propext Iff.rfl
def vL (K:PySem.W.Frag) (f:Str) (y x:V) (H:Hp) (Q:Hp->Prop):Prop:=match x with
 | .ref a=>∃ C dx fs,H a=some (.ins C dx fs)/\Cls K C/\dF K C f/\fs.length < 1000/\Q (upd H a (.ins C dx (gS f y fs)))
 | _=>False
def BJ (K:PySem.W.Frag) (ta tv:TE) (f:Str):TS:=fun D σ H=>tv σ H fun y H1=>ta σ H1 fun x H2=>vL K f y x H2 fun H3=>D.nx σ H3
theorem uJ {K:PySem.W.Frag}{ta tv:TE}{f:Str}{D:Ends}{σ:St}{H:Hp}:BJ K ta tv f D σ H=tv σ H fun y H1=>ta σ H1 fun x H2=>vL K f y x H2 fun H3=>D.nx σ H3:=propext Iff.rfl
section
variable {X:Cx}{K:PySem.W.Frag}
theorem cn {e:Expr}{ta:TE}{f:Str}{pos:Pos} (hK:X.K=K) (he:PE X e ta) (hb:attributeBase e f X.env (eval e X.env)=eval e X.env:=by kernel_rfl):PE X (.Attribute e f pos) (zG K ta f):=by
 subst hK
 intro pins s σ H Q I h
 refine Dd (ta:=up ta) he.up hb pins s σ H Q I ⟨_,h,fun x H1 hx=>?_⟩
 cases x with
 | ref a=>obtain ⟨C,dx,fs,v,h1,h2,h3,h4,h5⟩:=hx;exact ⟨a,C,dx,fs,v,rfl,h1,h2,h3,h4,h5⟩
 | _=>exact False.elim hx
theorem iK {o value:Expr}{ta tv:TE}{f:Str}{pos pos':Pos} (hK:X.K=K) (ha:PE X o ta) (hv:PE X value tv) (hs:swapsWith value (some (.Attribute o f pos')) pos.line X.env=pure false:=by kernel_rfl) :
  PS X (.Assign [.Attribute o f pos'] value pos) (BJ K ta tv f):=by
 subst hK
 intro pins s σ H D I h
 refine Di (ta:=up ta) (tv:=up tv) ha.up hv.up hs pins s σ H D I ⟨_,h,fun y H1 hy=>⟨_,hy,fun x H2 hx=>?_⟩⟩
 cases x with
 | ref a=>obtain ⟨C,dx,fs,h1,h2,h3,h4,h5⟩:=hx;exact ⟨a,C,dx,fs,rfl,h1,h2,h3,h4,h5⟩
 | _=>exact False.elim hx
end
structure Mtd (P:Program) (w:World) (K:PySem.W.Frag) (mg:Str->Option Value) (base:Heap) (CX:CXT) (C:Addr) (m:Str) (k:Nat) (ps:List Str) (sp:Sp):Prop where
 ex:∃ (f:Addr) (fd:FuncData),aW P w K mg base CX k f fd ps sp/\Meth K C m f/\Binds K fd ps []
 cl:Cls K C
def qh (C:Addr) (m:Str) (x:V) (H:Hp) (Q:Hp->Prop):Prop:=match x with
 | .ref a=>∃ dx fs,H a=some (.ins C dx fs)/\fs.lookup m=none/\Q H
 | _=>False
def nt (C:Addr) (m:Str) (sp:Sp) (E:St->XK) (ta:TE) (t:TA):TE:=fun σ H Q=>ta σ H fun x H1=>qh C m x H1 fun H1=>t σ H1 fun vs H2=>sp (x::vs) H2 Q (E σ)
theorem uE {C:Addr}{m:Str}{sp:Sp}{E:St->XK}{ta:TE}{t:TA}{σ:St}{H:Hp}{Q:VK}:nt C m sp E ta t σ H Q=ta σ H fun x H1=>qh C m x H1 fun H1=>t σ H1 fun vs H2=>sp (x::vs) H2 Q (E σ):=propext Iff.rfl
section
variable {X:Cx}{CX:CXT}{E:St->XK}
theorem fP {pl:Sem Bool}{C:Addr}{m:Str}{k:Nat}{ps:List Str}{sp:Sp}{o e:Expr}{es:List Expr}{ta:TE}{t:TA}{apos pos:Pos} (M:Mtd X.prog X.w X.K X.mg X.base CX C m k ps sp) (hx:Passes CX X E) (hr:bq k X.A) (he:PE X o ta) (ha:PA X (e::es) t)
  (hs:bw (e::es)=true:=by kernel_rfl)
  (ht:eval (.Call (.Attribute o m apos) (e::es) [] pos) X.env=(do
   let ov ← eval o X.env
   standAt apos.atName
   let (f,first) ← holding [ov] (getMethod ov m pl)
   callWith pos f first (backTo pos (starEach (e::es) X.env)) (backToKw pos (keywordEach [] X.env))):=by rfl) :
  PE X (.Call (.Attribute o m apos) (e::es) [] pos) (nt C m sp E ta t):=by
 obtain ⟨f,fd,F,hm,hb⟩:=M.ex
 intro pins s σ H Q I h
 refine vB (ta:=up ta) (t:=t) he.up M.cl hm F hr hb .nil hx ha (aA (aC hs).1) (bf (aC hs).2) ht pins s σ H Q I ⟨_,h,fun x H1 q=>?_⟩
 cases x with
 | ref a =>
  obtain ⟨dx,fs,h1,h2,h3⟩:=q
  refine ⟨a,dx,fs,rfl,h1,h2,?_⟩
  simp only [List.append_nil]
  exact h3
 | _=>exact False.elim q
theorem fE {pl:Sem Bool}{C:Addr}{m:Str}{k:Nat}{ps:List Str}{sp:Sp}{o:Expr}{ta:TE}{apos pos:Pos} (M:Mtd X.prog X.w X.K X.mg X.base CX C m k ps sp) (hx:Passes CX X E) (hr:bq k X.A) (he:PE X o ta)
  (ht:eval (.Call (.Attribute o m apos) [] [] pos) X.env=(do
   let ov ← eval o X.env
   standAt apos.atName
   let (f,first) ← holding [ov] (getMethod ov m pl)
   callWith pos f first (backTo pos (starEach [] X.env)) (backToKw pos (keywordEach [] X.env))):=by rfl) :
  PE X (.Call (.Attribute o m apos) [] [] pos) (nt C m sp E ta uf):=by
 obtain ⟨f,fd,F,hm,hb⟩:=M.ex
 intro pins s σ H Q I h
 refine zd (ta:=up ta) he.up M.cl hm F hr hb .nil hx ht pins s σ H Q I ⟨_,h,fun x H1 q=>?_⟩
 cases x with
 | ref a =>
  obtain ⟨dx,fs,h1,h2,h3⟩:=q
  exact ⟨a,dx,fs,rfl,h1,h2,h3⟩
 | _=>exact False.elim q
end
structure Mak (P:Program) (w:World) (K:PySem.W.Frag) (mg:Str->Option Value) (base:Heap) (CX:CXT) (C:Addr) (x:Str) (k:Nat) (ps:List Str) (sp:Sp):Prop where
 ex:∃ (f:Addr) (fd:FuncData),aW P w K mg base CX k f fd ps sp/\Mk K C f/\Binds K fd ps []
 mg:mg x=some (.ref C)
def zH (C:Addr) (sp:Sp) (E:St->XK) (t:TA):TE:=fun σ H Q=>t σ H fun vs H1=>∀ x dx H2,H1 x=none->H1 dx=none->dx≠x->ao H1 H2->H2 x=some (.ins C dx [])->H2 dx=some (.own x)->sp (.ref x::vs) H2 (fun v H3=>v=.non/\Q (.ref x) H3) (E σ)
theorem uD {C:Addr}{sp:Sp}{E:St->XK}{t:TA}{σ:St}{H:Hp}{Q:VK}:zH C sp E t σ H Q=t σ H fun vs H1=>∀ x dx H2,H1 x=none->H1 dx=none->dx≠x->ao H1 H2->H2 x=some (.ins C dx [])->H2 dx=some (.own x)->sp (.ref x::vs) H2 (fun v H3=>v=.non/\Q (.ref x) H3) (E σ):=propext Iff.rfl
section
variable {X:Cx}{CX:CXT}{E:St->XK}
theorem rR {C:Addr}{x:Str}{k:Nat}{ps:List Str}{sp:Sp}{e:Expr}{es:List Expr}{t:TA}{p pos:Pos} (M:Mak X.prog X.w X.K X.mg X.base CX C x k ps sp) (hx:Passes CX X E) (hr:bq (k + 1) X.A) (ha:PA X (e::es) t)
  (hg:X.env.kindOf x=some .globalImplicit:=by kernel_rfl) (hd:(x == ("__debug__":Str))=false:=by kernel_rfl) (hs:bw (e::es)=true:=by kernel_rfl) :
  PE X (.Call (.Name x p) (e::es) [] pos) (zH C sp E t):=by
 obtain ⟨f,fd,F,hm,hb⟩:=M.ex
 intro pins s σ H Q I h
 refine AD (t:=upA t) hm F hr hg M.mg hb .nil hx ha.up hd (aA (aC hs).1) (bf (aC hs).2) pins s σ H Q I ⟨_,h,fun vs H1 q x dx h1 h2 h3=>?_⟩
 simp only [List.append_nil]
 refine q x dx _ h1 h2 h3 ((cg h2).bD h1) ay ?_
 rw [av h3,ay]
end
theorem rz {f:Str}{v:V}{r:List (Str × V)}:List.lookup f ((f,v)::r)=some v:=by simp [List.lookup]
end L2

namespace L2
open PySem PySem.Spec PyProof.Rows
theorem oy {h g:Heap}{l c:Addr}{xs:Array Value} (x:h.IsList l xs) (s:Heap.SameBut c h g) (ne:l≠c):g.IsList l xs:=by
 obtain ⟨o,h1,h2⟩:=x
 exact ⟨o,(s.2 l ne).trans h1,h2⟩
section
variable {prog:Program}{w:World}{A:Around}{E:Value->Shared->Prop}
theorem qT {c l:Addr}{xs:Array Value} (ne:l≠c):∀ (k j:Nat) (s:Shared) (R:List Value->Shared->Prop),s.heap.IsListIter c l j->s.heap.IsList l xs->j + k<=xs.size →
  (∀ g,g.IsListIter c l (j + k)->Heap.SameBut c s.heap g->R ((xs.toList.drop j).take k) { s with heap:=g })->wpAny (model prog w) A (draw (.ref c) k) R E s
 | 0,j,s,R,i0,_,_,q=>wpAny_pure (by simpa using q s.heap i0 (Heap.SameBut.refl ..))
 | k + 1,j,s,R,i0,l0,hb,q=>by
  have lt:j < xs.size:=by omega
  show wpAny _ _ (pyNext (.ref c) >>= _) R E s
  refine wpAny_bind (wpAny_pyNext_list_item i0 l0 (x:=xs[j]) (by simp [lt]) fun g1 i1 s1=>?_)
  refine wpAny_bind (wpAny_holding (qT ne k (j + 1) _ _ i1 (oy l0 s1 ne) (by omega) fun g2 i2 s2=>wpAny_pure ?_))
  have z:=q g2 (by rw [show j + (k + 1)=j + 1 + k by omega];exact i2) (s1.trans s2)
  rw [show xs.toList.drop j=xs[j]::xs.toList.drop (j + 1) by simp [List.drop_eq_getElem_cons,lt],List.take_succ_cons] at z
  exact z
theorem ui {s:Shared}{l:Addr}{xs:Array Value}{ts:List (Bool × (Value->Sem Unit))}{R:Unit->Shared->Prop} (hh:A.handled=none) (l0:s.heap.IsList l xs) (hn:ts.length=xs.size) (hs:ts.findIdx? (·.1)=none)
  (q:∀ g,Heap.ExtBut s.heap.objs.size s.heap g->wpAny (model prog w) A (assignInOrder (ts.map (·.2)) xs.toList) R E { s with heap:=g }):wpAny (model prog w) A (unpack (.ref l) ts) R E s:=by
 have ne:l≠s.heap.objs.size:=by obtain ⟨o,ho,_⟩:=l0;exact Nat.ne_of_lt (Heap.lt_size ho)
 unfold unpack
 rw [hn,hs]
 refine wpAny_bind (wpAny_holding ?_)
 unfold unpackItems
 refine wpAny_bind ?_
 unfold notIterableAtAll
 refine wpAny_bind (wpAny_specialOf l0.typeIs F.slot_list_iter.lookup ?_)
 refine wpAny_pure ?_
 simp only [Bool.false_eq_true,if_false]
 refine wpAny_bind (wpAny_holding (wpAny_pyIter_list l0 ?_))
 refine wpAny_bind (wpAny_holding (qT ne xs.size 0 _ _ ⟨_,Heap.get?_push_size _ rfl,rfl,rfl⟩ (l0.push _) (by omega) fun g1 i1 s1=>?_))
 rw [show List.take xs.size (List.drop 0 xs.toList)=xs.toList by rw [List.drop_zero];exact List.take_of_length_le (by simp)]
 rw [if_neg (by simp)]
 refine wpAny_bind (wpAny_holding (wpAny_pyNext_list_end hh i1 (oy (l0.push _) s1 ne) (by simp) fun g2 e2=>?_))
 simp only [Option.isSome_none,Bool.false_eq_true,if_false]
 exact wpAny_pure (q g2 fun b o hb e=>e2 b o hb (s1.extBut b o hb (Heap.get?_push_of_some _ e)))
end
def Cs (K:PySem.W.Frag) (n:Nat) (t:TGs):TG:=fun v σ H Q=>match v with
 | .ref a=>∃ xs,Sq K H a xs/\xs.length=n/\t xs σ H Q
 | _=>False
theorem De {X:Cx}{es:List Expr}{k:Nat}{t:TGs}{n:Nat}{pos:Pos} (hc:X.calm=true) (h:PGs X es t)
  (hn:(assignEach es X.env).length=n:=by rfl) (hst:(assignEach es X.env).findIdx? (·.1)=none:=by rfl):PG X (.Tuple es k pos) (Cs X.K n t):=by
 intro pins s σ H v u Q I r hw
 cases v with
 | ref a =>
  obtain ⟨xs,hq | hq,hl,hw⟩:=hw
  ·cases r
   obtain ⟨its,rv,p,hz⟩:=I.list hq
   rw [assign_Tuple]
   refine wpAny_bind (wpAny_standAt (ui (I.ok.hd hc) p.isList (by simp [hn,← hl,rv.length]) hst fun g hx=>?_))
   have I1:Inv X pins σ H { s with heap:=g }:=I.kept (t':=s.toks) fun b o e=>hx b o (Nat.ne_of_lt (Heap.lt_size e)) e
   exact h pins _ σ H xs _ Q I1 (by simpa using rv) hw
  ·exact zf (pos:=pos) (k:=k) hc h hn hst pins s σ H _ u Q I r ⟨a,xs,rfl,hq,hl,hw⟩
 | _=>exact False.elim hw
theorem qg {X:Cx}{K:PySem.W.Frag}{es:List Expr}{k:Nat}{t:TGs}{n:Nat}{pos:Pos} (hK:X.K=K) (hc:X.calm=true) (h:PGs X es t)
  (hn:(assignEach es X.env).length=n:=by rfl) (hst:(assignEach es X.env).findIdx? (·.1)=none:=by rfl):PG X (.Tuple es k pos) (Cs K n t):=hK ▸ De hc h hn hst
theorem xR {K:PySem.W.Frag}{n:Nat}{t:TGs}{a:Addr}{σ:St}{H:Hp}{Q:St->Hp->Prop}:Cs K n t (.ref a) σ H Q=∃ xs,Sq K H a xs/\xs.length=n/\t xs σ H Q:=propext Iff.rfl
theorem qD {t:TG}{u:TGs}{v:V}{r:List V}{σ:St}{H:Hp}{Q:St->Hp->Prop}:kI t u (v::r) σ H Q=t v σ H fun σ' H'=>u r σ' H' Q:=propext ⟨fun ⟨_,_,e,h⟩=>by cases e;exact h,fun h=>⟨v,r,rfl,h⟩⟩
theorem u9 {σ:St}{H:Hp}{Q:St->Hp->Prop}:yr [] σ H Q=Q σ H:=propext ⟨fun h=>h.2,fun h=>⟨rfl,h⟩⟩
def iO (l:List Nat) (lo hi:Option Int):List Nat:=(l.drop (HT.sIx l.length 0 lo)).take (HT.sIx l.length l.length hi - HT.sIx l.length 0 lo)
theorem qO (l:List Nat) (lo hi:Option Int):(iO l lo hi).length<=l.length:=by
 unfold iO
 rw [List.length_take,List.length_drop]
 omega
theorem tL {α:Type} (l:List α) (a k:Nat):((List.range k).map fun j=>a + j).filterMap (l[·]?)=(l.drop a).take k:=by
 induction k with
 | zero=>simp
 | succ k ih =>
  rw [List.range_succ,List.map_append,List.filterMap_append,ih,List.take_succ]
  congr 1
  simp only [List.map_cons,List.map_nil,List.filterMap_cons,List.filterMap_nil,List.getElem?_drop]
  cases l[a + k]? <;> rfl
def dM:Option Int->Tok->Option (Int × Tok)
 | some i,t=>some (i,t)
 | none,_=>none
def uS (n d:Nat):Option Int->Int
 | none=>d
 | some i=>max 0 (min (if i < 0 then i + (n:Int) else i) (n:Int))
theorem rX (n d:Nat) (o:Option Int):uS n d o=((HT.sIx n d o:Nat):Int):=by
 cases o with
 | none=>rfl
 | some v =>
  show max 0 (min (if v < 0 then v + (n:Int) else v) (n:Int))=((if v < 0 then (v + (n:Int)).toNat else min v.toNat n:Nat):Int)
  by_cases h:v < 0
  ·rw [if_pos h,if_pos h];omega
  ·rw [if_neg h,if_neg h];omega
theorem pC (lo hi:Option Int) (n:Nat):Builtin.Str.strSliceIndices lo hi 1 n=sliceRange (uS n 0 lo) (uS n n hi) 1:=by
 unfold Builtin.Str.strSliceIndices uS
 cases lo <;> cases hi <;> simp
theorem range_one (a b:Nat):sliceRange (a:Int) (b:Int) 1=(List.range (b - a)).map fun j=>a + j:=by
 unfold sliceRange
 have e3:(if (1:Int) > 0 then (if (a:Int) < (b:Int) then ((b:Int) - (a:Int) + 1 - 1) / 1 else 0) else (if (a:Int) > (b:Int) then ((a:Int) - (b:Int) - 1 - 1) / (-1) else 0)).toNat=b - a:=by
  rw [if_pos (by decide)]
  split <;> omega
 show ((List.range (if (1:Int) > 0 then (if (a:Int) < (b:Int) then ((b:Int) - (a:Int) + 1 - 1) / 1 else 0) else (if (a:Int) > (b:Int) then ((a:Int) - (b:Int) - 1 - 1) / (-1) else 0)).toNat).map fun (k:Nat)=>((a:Int) + 1 * (k:Int)).toNat)=_
 rw [e3]
 exact List.map_congr_left fun k _=>by omega
theorem jI (x:Str) (lo hi:Option Int) (t u:Tok):slicePicked x (dM lo t) (dM hi u) none=(List.range (HT.sIx x.length x.length hi - HT.sIx x.length 0 lo)).map fun j=>HT.sIx x.length 0 lo + j:=by
 unfold slicePicked
 have e1:(dM lo t).map (·.1)=lo:=by cases lo <;> rfl
 have e2:(dM hi u).map (·.1)=hi:=by cases hi <;> rfl
 rw [e1,e2]
 show Builtin.Str.strSliceIndices lo hi 1 x.length=_
 rw [pC,rX,rX,range_one]
theorem tM (x:Str) (lo hi:Option Int) (t u:Tok):(slicePicked x (dM lo t) (dM hi u) none).filterMap (x.cps[·]?)=iO x.cps.toList lo hi:=by
 have e5:(fun i:Nat=>x.cps[i]?)=fun i:Nat=>x.cps.toList[i]?:=by funext i;rw [Array.getElem?_toList]
 rw [jI,e5,tL]
 unfold iO
 rw [← eQ]
theorem Bb {X:Cx}:SlR X (fun x lo hi H Q=>∃ z,x=.str z/\z.length<=sizeLine/\Q (.str (tx (iO z.cps.toList lo hi))) H):=by
 intro pins s σ H x v vl vu lo hi sl Q I rx hs pl pu h
 obtain ⟨z,rfl,hz,q⟩:=h
 obtain ⟨t,rfl⟩:=rx
 refine ⟨"str",_,F.slot_str_getitem.lookup,typeIs_str s z t,?_⟩
 have h1:∃ tl,vl=partValue (dM lo tl):=by cases pl with | none=>exact ⟨0,rfl⟩ | int i t=>exact ⟨t,rfl⟩
 have h2:∃ tu,vu=partValue (dM hi tu):=by cases pu with | none=>exact ⟨0,rfl⟩ | int i t=>exact ⟨t,rfl⟩
 obtain ⟨tl,rfl⟩:=h1
 obtain ⟨tu,rfl⟩:=h2
 refine wpAny_getItem_str_slice (l:=dM lo tl) (u:=dM hi tu) (st:=none) hs rfl ?_
 have ec:=tM z lo hi tl tu
 have key:tx (iO z.cps.toList lo hi)=⟨((slicePicked z (dM lo tl) (dM hi tu) none).filterMap (z.cps[·]?)).toArray⟩:=by rw [ec];rfl
 unfold sliceMade
 split
 next hh =>
  have hl:(slicePicked z (dM lo tl) (dM hi tu) none).length=z.length:=by simpa using hh
  rw [jI,List.length_map,List.length_range] at hl
  have b1:=HT.tV z.length 0 (Nat.zero_le _) lo
  have b2:=HT.tV z.length z.length (Nat.le_refl _) hi
  have e:tx (iO z.cps.toList lo hi)=z:=by
   unfold iO
   rw [← eQ,hl]
   by_cases hz0:z.length=0
   ·have:z.cps.toList=[]:=by rw [← List.length_eq_zero_iff,← eQ];exact hz0
    rw [this]
    have:=oW z
    rw [‹z.cps.toList=[]›] at this
    simpa using this
   ·rw [show HT.sIx z.length 0 lo=0 by omega,List.drop_zero,List.take_of_length_le (by rw [← eQ];exact Nat.le_refl _)]
    exact oW z
  rw [e] at q
  exact ⟨.str z,H,I,⟨t,rfl⟩,q⟩
 next =>
  rw [← key]
  refine ⟨?_,.str _,H,I.tok _,⟨_,rfl⟩,q⟩
  rw [aY]
  have:=qO z.cps.toList lo hi
  rw [← eQ] at this
  omega
def AQ (K:PySem.W.Frag):V->Option Int->Option Int->Hp->VK->Prop:=fun x lo hi H Q=>match x with
 | .ref a=>∃ xs,SqL K H a xs/\nw H (.lst (gq xs lo hi)) Q
 | .str z=>z.length<=sizeLine/\Q (.str (tx (iO z.cps.toList lo hi))) H
 | _=>False
theorem EM {X:Cx}:SlR X (AQ X.K):=by
 intro pins s σ H x v vl vu lo hi sl Q I rx hs pl pu h
 cases x with
 | ref a =>
  obtain ⟨xs,h1,h2⟩:=h
  exact Ba pins s σ H _ v vl vu lo hi sl Q I rx hs pl pu ⟨a,xs,rfl,h1,h2.go⟩
 | str z=>exact Bb pins s σ H _ v vl vu lo hi sl Q I rx hs pl pu ⟨z,rfl,h.1,h.2⟩
 | _=>exact False.elim h
theorem iW {X:Cx}{K:PySem.W.Frag} (hK:X.K=K):SlR X (AQ K):=hK ▸ EM
theorem cJ.mark {k:Nat}{A:Around}{e:Option Value} (r:cJ k A):cJ k (A.mark e):=⟨r.dp,r.un⟩
end L2

namespace L2
open PySem PySem.Spec PyProof.Rows
def fh (x:Key) (l:List Key):Bool:=l.any fun y=>decide (y=x)
theorem m6 {x:Key}{l:List Key}:fh x l=true ↔ x∈l:=by
 unfold fh
 rw [List.any_eq_true]
 exact ⟨fun ⟨y,h,e⟩=>of_decide_eq_true e ▸ h,fun h=>⟨x,h,decide_eq_true rfl⟩⟩
theorem wQ (x y:Key) (l:List Key):fh x (l++[y])=(fh x l || decide (y=x)):=by
 unfold fh
 rw [List.any_append];simp
def bR (val:Nat->Key):Nat->List Key
 | 0=>[]
 | i + 1=>if fh (val i) (bR val i)=true then bR val i else bR val i++[val i]
theorem m7 (val:Nat->Key):∀ i,(bR val i).length<=i
 | 0=>Nat.le_refl _
 | i + 1=>by
  have ih:=m7 val i
  unfold bR
  split
  ·omega
  ·rw [List.length_append,List.length_singleton];omega
theorem si {P:Program}{w:World}{h:Heap}{a:Addr}{S S':Key->Bool}{n n':Nat} (x:h.SetOf (aP P w) a S n) (e:∀ k,S k=S' k) (en:n=n'):h.SetOf (aP P w) a S' n':=by
 have z:S=S':=funext e
 subst z;subst en;exact x
section
variable {prog:Program}{w:World}{A:Around}{R:Result->Shared->Prop}{c:Addr}{fp wr:List Addr}{G:Array GenState->Array GenState->Prop}{n:Nat}{Pv:Nat->Value->Prop}{Sv:Nat->Shared->Prop}
theorem sx (W:WalksS prog w A.in1 c fp wr G n Pv Sv) (a:Addr) (na:a ∉ fp) (val:Nat->Key) (hv:∀ i v,Pv i v->j5 (val i) v=true/\v.scannable=true) (hb:n + 1 < scanBound) :
  ∀ (k i:Nat) (s:Shared),n - i=k->i<=n->Sv i s->s.heap.SetOf (aP prog w) a (fun x=>fh x (bR val i)) (bR val i).length →
   (∀ s',Moved (a::wr) G s s'->s'.heap.SetOf (aP prog w) a (fun x=>fh x (bR val n)) (bR val n).length->R (.ok (.ret .none)) s') →
   codeAny (model prog w) A (.builtin "set.update.loop" ⟨[.ref a,.ref c],[]⟩) R s:=by
 have nw':a ∉ wr:=fun z=>na (W.sub _ z)
 have sb:∀ b∈wr,b∈a::wr:=fun b h=>List.mem_cons_of_mem _ h
 have iP:∀ {s s':Shared}{S:Key->Bool}{m:Nat},Moved wr G s s'->s.heap.SetOf (aP prog w) a S m->s'.heap.SetOf (aP prog w) a S m:=fun mv x=>by
  obtain ⟨o,es,ep,t,ho,r⟩:=x
  exact ⟨o,es,ep,t,mv.heap a _ nw' ho,r⟩
 intro k
 induction k with
 | zero =>
  intro i s hk hi st x q
  have e:i=n:=by omega
  subst e
  refine codeAny_builtin PyProof.Rows.F.entry_set_update_loop ?_
  rw [Around.under_plainId PyProof.Rows.F.plain_set_update_loop _]
  show wpAny _ A.in1 (pyNext (.ref c) >>= _) _ _ s
  refine wpAny_bind (W.done s _ _ st fun s' mv=>?_)
  exact wpAny_pure (q s' (mv.mono sb) (iP mv x))
 | succ k ih =>
  intro i s hk hi st x q
  have lt:i < n:=by omega
  refine codeAny_builtin PyProof.Rows.F.entry_set_update_loop ?_
  rw [Around.under_plainId PyProof.Rows.F.plain_set_update_loop _]
  show wpAny _ A.in1 (pyNext (.ref c) >>= _) _ _ s
  refine wpAny_bind (W.item i s _ _ lt st fun v s' pv st' mv=>?_)
  obtain ⟨hk1,hk2⟩:=hv i v pv
  have x':=iP mv x
  show wpAny _ A.in1 (holding [v] (setAdd a v) >>= _) _ _ s'
  refine wpAny_bind (wpAny_holding ?_)
  unfold setAdd
  refine wpAny_holding ?_
  refine wpAny_bind ((aP prog w).pyHash (k:=val i) hk1 ?_)
  have room:(bR val i).length + 1 < scanBound:=by have:=m7 val i;omega
  refine wpAny_setAddHashed_of (knd:=aP prog w) (s:={ s' with toks:=s'.toks + 1 }) hk1 hk2 x' room fun g sg xg=>?_
  have x2:g.SetOf (aP prog w) a (fun y=>fh y (bR val (i + 1))) (bR val (i + 1)).length:=by
   refine si xg (fun y=>?_) ?_
   ·show (fh y (bR val i) || decide (y=val i))=fh y (if fh (val i) (bR val i)=true then bR val i else bR val i++[val i])
    by_cases hc:fh (val i) (bR val i)=true
    ·rw [if_pos hc]
     by_cases e:y=val i
     ·subst e;rw [hc,Bool.true_or]
     ·rw [decide_eq_false e,Bool.or_false]
    ·rw [if_neg hc,wQ]
     congr 1
     by_cases e:y=val i
     ·rw [decide_eq_true e,decide_eq_true e.symm]
     ·rw [decide_eq_false e,decide_eq_false (Ne.symm e)]
   ·show (if fh (val i) (bR val i)=true then (bR val i).length else (bR val i).length + 1)=(if fh (val i) (bR val i)=true then bR val i else bR val i++[val i]).length
    by_cases hc:fh (val i) (bR val i)=true
    ·rw [if_pos hc,if_pos hc]
    ·rw [if_neg hc,if_neg hc,List.length_append];rfl
  refine wpAny_pure ⟨plainId_quiet PyProof.Rows.F.plain_set_update_loop _,ih (i + 1) _ (by omega) lt (W.frame _ s' _ _ st' (Nat.le_succ _) fun b hb o e=>?_) x2 fun s'' mv2 x3=>?_⟩
  ·rw [sg.2 b (fun z:b=a=>na (by rw [← z];exact hb))];exact e
  ·refine q s'' (Moved.trans W.gtrans ((mv.mono sb).then_heap (Nat.le_succ _) fun b o hb e=>?_) mv2) x3
   rw [sg.2 b (fun z:b=a=>hb (by rw [z];exact List.mem_cons_self))];exact e
end
def gE (z:Str) (i:Nat):Key:=Sum.inr ⟨#[z.cps.toList.getD i 0]⟩
theorem sub_str_set:isSubtype (.type "str") (.type "set")=pure false:=by rw [isSubtype_type];kernel_rfl
theorem nr:isSubtype (.type "str") (.type "frozenset")=pure false:=by rw [isSubtype_type];kernel_rfl
set_option maxRecDepth 100000 in
set_option maxHeartbeats 4000000 in
theorem sj {prog:Program}{w:World}{A:Around}{E:Value->Shared->Prop}{s:Shared}{z:Str}{t:Tok}{Q:Value->Shared->Prop} (hh:A.handled=none) (hb:z.cps.size + 1 < scanBound)
  (q:∀ (g:Heap) (tk:Nat),g.SetOf (aP prog w) s.heap.objs.size (fun x=>fh x (bR (gE z) z.cps.size)) (bR (gE z) z.cps.size).length->(∀ b o,b < s.heap.objs.size->s.heap.get? b=some o->g.get? b=some o) →
   Q (.ref s.heap.objs.size) { s with heap:=g,toks:=tk }):wpAny (model prog w) A (call (.type "set") [.str z t]) Q E s:=by
 obtain ⟨c,tl,hmro⟩:=F.called_set.mro
 have hmade:=F.called_set.made
 have hsub:=F.called_set.sub
 refine wpAny_call (codeAny_of_tree ?_)
 show wpAny _ _ (callAny (.type "set") _) _ _ _
 refine wpAny_pure ⟨Code.quiet_builtin _ (by decide +kernel),codeAny_builtin F.entry_type_call ?_⟩
 rw [Around.under_plain (weight_type_call_type "set" [.str z t] []) rfl]
 have h1:=F.called_set.notType
 have h2:=F.called_set.canCreate
 have hct:=F.typeCall_set_1 (.str z t)
 repeat (any_goals (first | assumption | wp_step))
 refine codeAny_mono (code_set_new_1 (.str z t) (E:=E) (Q₁:=fun ob s1=>∃ led:Bool,ob=.ref s.heap.objs.size/\s1={ s with heap:=s.heap.push { cls:=.type "set",dict:=none,data:=.set #[] 0 (.fresh 0 0 led) } }) fun led=>⟨led,rfl,rfl⟩) fun r s1 hr=>?_
 cases r with
 | error e=>exact hr
 | ok fl =>
  cases fl with
  | ret ob =>
   obtain ⟨led,rfl,rfl⟩:=hr
   generalize hg1:s.heap.push { cls:=.type "set",dict:=none,data:=.set #[] 0 (.fresh 0 0 led) }=g1
   have hS:g1.get? s.heap.objs.size=some { cls:=.type "set",dict:=none,data:=.set #[] 0 (.fresh 0 0 led) }:=by rw [← hg1];exact Heap.get?_push_size _ rfl
   have hsz:g1.objs.size=s.heap.objs.size + 1:=by rw [← hg1,Heap.size_push]
   have hkp:∀ b o,s.heap.get? b=some o->g1.get? b=some o:=fun b o e=>by rw [← hg1];exact Heap.get?_push_of_some _ e
   have hT:Shared.TypeIs { s with heap:=g1 } (.ref s.heap.objs.size) "set":=⟨_,hS,rfl⟩
   have hli:=F.called_set.init.lookup
   have hbi:=F.called_set.init.bind (.ref s.heap.objs.size)
   repeat (any_goals (first | assumption | wp_step))
   refine codeAny_mono (codeAny_call_builtin (R:=wants (fun r s2=>r=.none/\∃ g tk,s2={ s with heap:=g,toks:=tk }/\g.SetOf (aP prog w) s.heap.objs.size (fun x=>fh x (bR (gE z) z.cps.size)) (bR (gE z) z.cps.size).length ∧
     (∀ b o,b < s.heap.objs.size->s.heap.get? b=some o->g.get? b=some o)) E) F.called_set.init.plain F.entry_set_init (check_set_init_1 hT ?_)) fun r2 s2 hr2=>?_
   ·have k1:=sub_str_set
    have k2:=nr
    have k3:(Value.type "str" == Value.type "dict")=false:=by decide
    have hh3:A.in1.in1.in1.handled=none:=by simp [hh]
    have hval:∀ i v,SignAt z i v->j5 (gE z i) v=true/\v.scannable=true:=by
     rintro i v ⟨ch,u,e,rfl⟩
     refine ⟨?_,rfl⟩
     have e2:z.cps.toList.getD i 0=ch:=by rw [List.getD_eq_getElem?_getD,Array.getElem?_toList,e];rfl
     unfold gE
     rw [e2]
     exact oB _ _
    have fin:∀ (g2:Heap),(∀ b o,g1.get? b=some o->g2.get? b=some o)->∀ s',Moved (s.heap.objs.size::[g1.objs.size]) (fun a b=>b=a) { s with heap:=g2 } s' →
      s'.heap.SetOf (aP prog w) s.heap.objs.size (fun x=>fh x (bR (gE z) z.cps.size)) (bR (gE z) z.cps.size).length →
      ∃ g tk,s'={ s with heap:=g,toks:=tk }/\g.SetOf (aP prog w) s.heap.objs.size (fun x=>fh x (bR (gE z) z.cps.size)) (bR (gE z) z.cps.size).length/\(∀ b o,b < s.heap.objs.size->s.heap.get? b=some o->g.get? b=some o):=by
     intro g2 k4 s' mv x
     obtain ⟨g,ge,d,tk,os⟩:=s'
     have eg:ge=s.gens:=mv.gens
     have ed:d=s.drawn:=mv.drawn
     have eo:os=s.os:=mv.os
     subst eg;subst ed;subst eo
     refine ⟨g,tk,rfl,x,fun b o hb e=>mv.heap b o ?_ (k4 b o (hkp b o e))⟩
     simp only [List.mem_cons,List.not_mem_nil,or_false,not_or]
     rw [hsz]
     exact ⟨Nat.ne_of_lt hb,Nat.ne_of_lt (Nat.lt_succ_of_lt hb)⟩
    have start:∀ g2:Heap,(∀ b o,g1.get? b=some o->g2.get? b=some o)->g2.SetOf (aP prog w) s.heap.objs.size (fun x=>fh x (bR (gE z) 0)) (bR (gE z) 0).length:=fun g2 k4 =>
     letI:BEq Key:=instBEqOfDecidableEq
     si ((PyProof.Rows.setObjOf_fresh (knd:=aP prog w) led).setOf (k4 _ _ hS) (by unfold scanBound;omega)) (fun _=>rfl) rfl
    have na:s.heap.objs.size ∉ [g1.objs.size]:=by simp only [List.mem_cons,List.not_mem_nil,or_false];omega
    unfold Builtin.«set.__init__» noKeywords Builtin.Frozenset.updateFrom
    generalize hPI:pyIter=PI
    wp_walk
    subst hPI
    cases ha:z.cps.all (· < 128) with
    | true =>
     refine wpAny_pyIter_ascii ha ?_
     refine wpAny_bind (wpAny_runValue ?_)
     refine sx ((Walks.strAscii hh3 g1.objs.size z t).toS) s.heap.objs.size na (gE z) hval hb (z.cps.size - 0) 0 _ (by omega) (Nat.zero_le _) ⟨_,Heap.get?_push_size _ rfl,rfl,rfl⟩ (start _ fun b o e=>Heap.get?_push_of_some _ e) fun s' mv x=>?_
     obtain ⟨g,tk,e,r1,r2⟩:=fin _ (fun b o e=>Heap.get?_push_of_some _ e) s' mv x
     refine wpAny_pure ?_
     show wpAny _ _ (ret Value.none) _ _ _
     exact wpAny_pure ⟨rfl,g,tk,e,r1,r2⟩
    | false =>
     refine wpAny_pyIter_wide ha ?_
     refine wpAny_bind (wpAny_runValue ?_)
     refine sx ((Walks.strWide hh3 g1.objs.size z t).toS) s.heap.objs.size na (gE z) hval hb (z.cps.size - 0) 0 _ (by omega) (Nat.zero_le _) ⟨_,Heap.get?_push_size _ rfl,rfl,rfl⟩ (start _ fun b o e=>Heap.get?_push_of_some _ e) fun s' mv x=>?_
     obtain ⟨g,tk,e,r1,r2⟩:=fin _ (fun b o e=>Heap.get?_push_of_some _ e) s' mv x
     refine wpAny_pure ?_
     show wpAny _ _ (ret Value.none) _ _ _
     exact wpAny_pure ⟨rfl,g,tk,e,r1,r2⟩
   ·cases r2 with
    | error e=>exact hr2
    | ok fl2 =>
     cases fl2 with
     | ret v =>
      obtain ⟨rfl,g,tk,rfl,x1,x2⟩:=hr2
      repeat (any_goals (first | assumption | wp_step))
      exact q _ _ x1 x2
     | _=>exact hr2.elim
  | _=>exact hr.elim
end L2

namespace L2
open PySem PySem.Spec PyProof.Rows
def tY (P:Program) (w:World) (a:Addr) (l:List Key):HO:=.ext fun h=>h.SetOf (aP P w) a (fun x=>fh x l) l.length
theorem AY {P:Program}{w:World}{H:Hp}{h:Heap}{a:Addr}{l:List Key} (x:h.SetOf (aP P w) a (fun x=>fh x l) l.length):aX P w H h a (tY P w a l):=by
 refine ⟨x,?_,fun h1 h2 y k=>?_⟩
 ·obtain ⟨o,_,_,_,e,_⟩:=x;exact ⟨o,e⟩
 ·obtain ⟨o,es,ep,t,e,r⟩:=y;exact ⟨o,es,ep,t,k o e,r⟩
def zt (P:Program) (w:World):List V->Hp->VK->Prop:=fun vs H Q=>match vs with
 | [.str z]=>z.length<=4000/\∀ p H',H p=none->ao H H'->H' p=some (tY P w p (bR (gE z) z.length))->Q (.ref p) H'
 | _=>False
theorem wg {X:Cx} (hc:X.calm=true):bE X (.type "set") (zt X.prog X.w):=by
 intro pins s σ H xs us Q I r h
 match xs,h with
 | [.str z],h =>
  obtain ⟨u,rfl,t,rfl⟩:=vals1 r
  have hf:H s.heap.objs.size=none:=I.hok.fresh (Nat.le_refl _)
  have hz:z.cps.size<=4000:=h.1
  refine sj (I.ok.hd hc) (by unfold scanBound;omega) fun g tk x k=>?_
  have kk:∀ b o,s.heap.get? b=some o->g.get? b=some o:=fun b o e=>k b o (Heap.lt_size e) e
  exact ⟨.ref s.heap.objs.size,upd H s.heap.objs.size (tY X.prog X.w s.heap.objs.size (bR (gE z) z.length)),I.laid (t':=tk) kk (Nat.le_refl _) (AY x),rfl,h.2 _ _ hf (cg hf) ay⟩
def zo (P:Program) (w:World):List V->Hp->VK->Prop:=fun vs H Q=>match vs with
 | [.ref p]=>∃ l,H p=some (tY P w p l)/\Q (.int l.length) H
 | _=>False
theorem vZ {X:Cx}:bE X (.builtin "len") (zo X.prog X.w):=by
 intro pins s σ H xs us Q I r h
 match xs,h with
 | [.ref p],h =>
  obtain ⟨l,e,q⟩:=h
  obtain ⟨u,rfl,ru⟩:=vals1 r
  cases ru
  obtain ⟨⟨o,es,ep,t,e1,e2,e3,_,_,e4,e5,e6⟩,_⟩:=(show aX X.prog X.w H s.heap p (tY X.prog X.w p l) from I.hok p _ e)
  refine call_len_set e1 e2 e3 e5 (by have:es.size < 4096:=e4;omega) ⟨.int es.size,H,I.tok _,⟨_,rfl⟩,?_⟩
  rw [e6];exact q
theorem we {X:Cx}{P:Program}{w:World} (hP:X.prog=P) (hw:X.w=w) (hc:X.calm=true):bE X (.type "set") (zt P w):=by subst hP hw;exact wg hc
theorem sO {X:Cx}{P:Program}{w:World} (hP:X.prog=P) (hw:X.w=w):bE X (.builtin "len") (zo P w):=by subst hP hw;exact vZ
theorem m8 (val:Nat->Key):∀ (n:Nat) (x:Key),x∈bR val n ↔ ∃ i,i < n/\val i=x
 | 0,x=>⟨fun h=>(by cases h),fun ⟨i,h,_⟩=>absurd h (Nat.not_lt_zero _)⟩
 | n + 1,x=>by
  have ih:=m8 val n
  unfold bR
  by_cases hc:fh (val n) (bR val n)=true
  ·rw [if_pos hc,ih x]
   obtain ⟨j,hj,ej⟩:=(ih (val n)).mp (m6.mp hc)
   constructor
   ·rintro ⟨i,h,e⟩;exact ⟨i,Nat.lt_succ_of_lt h,e⟩
   ·rintro ⟨i,h,e⟩
    rcases Nat.lt_succ_iff_lt_or_eq.mp h with h | h
    ·exact ⟨i,h,e⟩
    ·exact ⟨j,hj,by rw [ej,← h,e]⟩
  ·rw [if_neg hc,List.mem_append,List.mem_singleton,ih x]
   constructor
   ·rintro (⟨i,h,e⟩ | e)
    ·exact ⟨i,Nat.lt_succ_of_lt h,e⟩
    ·exact ⟨n,Nat.lt_succ_self _,e.symm⟩
   ·rintro ⟨i,h,e⟩
    rcases Nat.lt_succ_iff_lt_or_eq.mp h with h | h
    ·exact .inl ⟨i,h,e⟩
    ·exact .inr (by rw [← e,h])
theorem oH (val:Nat->Key):∀ n,(bR val n).length=n ↔ ∀ i j,i < n->j < n->val i=val j->i=j
 | 0=>⟨fun _ i _ h=>absurd h (Nat.not_lt_zero _),fun _=>rfl⟩
 | n + 1=>by
  have ih:=oH val n
  have hl:=m7 val n
  unfold bR
  by_cases hc:fh (val n) (bR val n)=true
  ·rw [if_pos hc]
   obtain ⟨j,hj,ej⟩:=(m8 val n (val n)).mp (m6.mp hc)
   constructor
   ·intro h;omega
   ·intro h
    have:=h j n (Nat.lt_succ_of_lt hj) (Nat.lt_succ_self _) ej
    omega
  ·rw [if_neg hc,List.length_append,List.length_singleton]
   have nm:∀ i,i < n->val i≠val n:=fun i hi e=>hc (m6.mpr ((m8 val n (val n)).mpr ⟨i,hi,e⟩))
   constructor
   ·intro h i j hi hj e
    have h2:=ih.mp (by omega)
    rcases Nat.lt_succ_iff_lt_or_eq.mp hi with hi | hi <;> rcases Nat.lt_succ_iff_lt_or_eq.mp hj with hj | hj
    ·exact h2 i j hi hj e
    ·subst hj;exact absurd e (nm i hi)
    ·subst hi;exact absurd e.symm (nm j hj)
    ·omega
   ·intro h
    have:=ih.mpr fun i j hi hj=>h i j (Nat.lt_succ_of_lt hi) (Nat.lt_succ_of_lt hj)
    omega
theorem oJ (z:Str):(bR (gE z) z.length).length=z.length ↔ z.cps.toList.Nodup:=by
 rw [oH,List.nodup_iff_pairwise_ne,List.pairwise_iff_getElem]
 have hl:=eQ z
 constructor
 ·intro h i j hi hj hij e
  have:=h i j (by omega) (by omega) (by unfold gE;rw [List.getD_eq_getElem?_getD,List.getD_eq_getElem?_getD,List.getElem?_eq_getElem hi,List.getElem?_eq_getElem hj,e])
  omega
 ·intro h i j hi hj e
  have hi':i < z.cps.toList.length:=by omega
  have hj':j < z.cps.toList.length:=by omega
  have e2:z.cps.toList[i]=z.cps.toList[j]:=by
   unfold gE at e
   rw [List.getD_eq_getElem?_getD,List.getD_eq_getElem?_getD,List.getElem?_eq_getElem hi',List.getElem?_eq_getElem hj'] at e
   have e4:=congrArg Str.cps (Sum.inr.inj e)
   simpa using e4
  rcases Nat.lt_trichotomy i j with z1 | z1 | z1
  ·exact absurd e2 (h i j hi' hj' z1)
  ·exact z1
  ·exact absurd e2.symm (h j i hj' hi' z1)
theorem n5:bootBuiltins "ValueError"=some (.type "ValueError"):=by kernel_rfl
def ndB:List Addr->Bool
 | []=>true
 | a::r=>!r.contains a && ndB r
theorem yO:∀ {l:List Addr} (_:ndB l=true) {i j:Nat}{a b:Addr},l[i]?=some a->l[j]?=some b->(a == b)=decide (i=j)
 | [],_,_,_,_,_,h,_=>by simp at h
 | x::l,hn,0,0,a,b,ha,hb=>by
  simp at ha hb
  subst ha hb
  simp
 | x::l,hn,0,j + 1,a,b,ha,hb=>by
  unfold ndB at hn
  rw [Bool.and_eq_true,Bool.not_eq_true'] at hn
  simp at ha hb
  subst ha
  have hm:b∈l:=List.mem_of_getElem? hb
  have:x≠b:=fun e=>by rw [e,List.contains_iff_mem.mpr hm] at hn;cases hn.1
  simp [this]
 | x::l,hn,i + 1,0,a,b,ha,hb=>by
  unfold ndB at hn
  rw [Bool.and_eq_true,Bool.not_eq_true'] at hn
  simp at ha hb
  subst hb
  have hm:a∈l:=List.mem_of_getElem? ha
  have:a≠x:=fun e=>by rw [← e,List.contains_iff_mem.mpr hm] at hn;cases hn.1
  simp [this]
 | x::l,hn,i + 1,j + 1,a,b,ha,hb=>by
  unfold ndB at hn
  rw [Bool.and_eq_true] at hn
  rw [yO hn.2 (i:=i) (j:=j) (by simpa using ha) (by simpa using hb)]
  exact decide_eq_decide.mpr (by omega)
theorem nS (l:List Nat) (j:Nat):iO l none (some (j:Int))=l.take j:=by
 unfold iO
 rw [HT.jJ,HT.eR,Nat.sub_zero,List.drop_zero,List.take_eq_take_iff]
 omega
theorem wq (l:List Nat) (j:Nat):iO l (some (j:Int)) none=l.drop j:=by
 unfold iO
 rw [HT.jJ,HT.eR]
 by_cases h:j<=l.length
 ·rw [Nat.min_eq_left h]
  exact List.take_of_length_le (by rw [List.length_drop];exact Nat.le_refl _)
 ·rw [Nat.min_eq_right (by omega),List.drop_of_length_le (Nat.le_refl _),List.drop_of_length_le (by omega),List.take_nil]
theorem dX {H H':Hp} (s:ao H H') {x:V}{t:Tg} (h:cP H x=some t):cP H' x=some t:=by
 cases x with
 | ref a =>
  have h':gB (H a)=some t:=h
  cases e:H a with
  | none=>rw [e] at h';cases h'
  | some o =>
   show gB (H' a)=some t
   rw [s a o e,← e];exact h'
 | _=>exact h
end L2

namespace L2
open PySem PySem.Spec PyProof.Rows
theorem lx {items:Array Value}{k:Nat}:items[((k:Nat):Int).toNat]?=(items.toList.drop k)[0]?:=by
 rw [List.getElem?_drop,Int.toNat_natCast,Nat.add_zero,Array.getElem?_toList]
theorem vb {items:Array Value}{k:Nat}{v:Value}{r:List Value} (h:items.toList.drop k=v::r):items.toList.drop (k + 1)=r:=by
 rw [← List.drop_drop,h];rfl
def iu:List Int->List Int->Bool
 | [],[]=>true
 | [],_::_=>false
 | _::_,[]=>true
 | a::x,c::y=>if a=c then iu x y else decide (c<=a)
theorem Al (l b:Addr) (items items2:Array Value) (n n2:Nat) (dd dd2:Option Addr) (sl sl2:Array (Option Value)) {prog:Program}{w:World}{A:Around}{R:Result->Shared->Prop}{s:Shared}
  (hl:s.heap.get? l=some { cls:=.type "list",dict:=dd,data:=.seq items n,slots:=sl }) (hb:s.heap.get? b=some { cls:=.type "list",dict:=dd2,data:=.seq items2 n2,slots:=sl2 }) :
  ∀ (xs:List Value) (k:Nat) (ns ms:List Int),items.toList.drop k=xs->IntsAre xs ns->IntsAre (items2.toList.drop k) ms->k<=items.size->k<=items2.size->R (.ok (.ret (.bool (iu ns ms)))) s →
   codeAny (model prog w) A (Code.builtin "list.__eq__.loop" { pos:=[.ref l,.ref b,rawInt (k:Int),rawInt 5] }) R s:=by
 obtain ⟨hp,g,d,tk,os⟩:=s
 simp only at hl hb
 intro xs
 induction xs with
 | nil =>
  intro k ns ms hx hi hj hk hk2 h
  refine codeAny_builtin MeetsSeq3.entry_eq_loop ?_
  show wpAny _ _ (Builtin.«list.__eq__.loop» { pos:=[.ref l,.ref b,Value.int (k:Int) 0,Value.int 5 0] }) _ _ _
  unfold Builtin.«list.__eq__.loop»
  have e1:items[((k:Nat):Int).toNat]?=none:=by rw [lx,hx];rfl
  have hz:items.size=k:=by have:=congrArg List.length hx;rw [List.length_drop,Array.length_toList,List.length_nil] at this;omega
  have hz2:items2.size - k=ms.length:=by have:=hj.length;rw [List.length_drop,Array.length_toList] at this;exact this
  wp_walk using AutoSeq1.wpAny_loadPart' hl,AutoSeq1.wpAny_loadPart' hb
  rw [e1]
  wp_walk using AutoSeq1.wpAny_loadPart' hl,AutoSeq1.wpAny_loadPart' hb
  cases hi
  have e2:iu [] ms=decide (items.size ≥ items2.size):=by
   cases ms with
   | nil=>exact (decide_eq_true (by simp only [List.length_nil] at hz2;omega)).symm
   | cons c y=>exact (decide_eq_false (by simp only [List.length_cons] at hz2;omega)).symm
  rw [e2] at h
  exact h
 | cons v xs ih =>
  intro k ns ms hx hi hj hk hk2 h
  refine codeAny_builtin MeetsSeq3.entry_eq_loop ?_
  show wpAny _ _ (Builtin.«list.__eq__.loop» { pos:=[.ref l,.ref b,Value.int (k:Int) 0,Value.int 5 0] }) _ _ _
  unfold Builtin.«list.__eq__.loop»
  have e1:items[((k:Nat):Int).toNat]?=some v:=by rw [lx,hx];rfl
  have hz:items.size=k + (xs.length + 1):=by have:=congrArg List.length hx;rw [List.length_drop,Array.length_toList,List.length_cons] at this;omega
  wp_walk using AutoSeq1.wpAny_loadPart' hl,AutoSeq1.wpAny_loadPart' hb
  rw [e1]
  cases hi with
  | cons a t hi' =>
  generalize hy:items2.toList.drop k=ys at hj
  cases hj with
  | nil =>
   have e2:items2[((k:Nat):Int).toNat]?=none:=by rw [lx,hy];rfl
   have hz2:items2.size=k:=by have:=congrArg List.length hy;rw [List.length_drop,Array.length_toList,List.length_nil] at this;omega
   rw [e2]
   wp_walk using AutoSeq1.wpAny_loadPart' hl,AutoSeq1.wpAny_loadPart' hb
   have e3:∀ z,iu (a::z) []=decide (items.size ≥ items2.size):=fun z=>(decide_eq_true (by omega)).symm
   rw [e3] at h
   exact h
  | cons c u hj' =>
   have e2:items2[((k:Nat):Int).toNat]?=some (.int c u):=by rw [lx,hy];rfl
   have hz2:k + 1<=items2.size:=by have:=congrArg List.length hy;rw [List.length_drop,Array.length_toList,List.length_cons] at this;omega
   rw [e2]
   obtain ⟨e,he,hiff⟩:=HT.yf (A.under (Code.builtin "list.__eq__.loop" { pos:=[.ref l,.ref b,rawInt (k:Int),rawInt 5] })) ⟨hp,g,d,tk,os⟩ a t c u
   refine wpAny_bind (he prog w _ _ ?_)
   unfold iu at h
   cases e with
   | true =>
    rw [if_pos (hiff.mp rfl)] at h
    wp_walk
    exact ⟨by with_unfolding_all rfl,ih (k + 1) _ _ (vb hx) hi' (by rw [vb hy];exact hj') (by omega) (by omega) h⟩
   | false =>
    rw [if_neg (fun q=>absurd (hiff.mpr q) Bool.false_ne_true)] at h
    wp_walk using AutoSeq1.wpAny_loadPart' hl,AutoSeq1.wpAny_loadPart' hb
    rw [e1,e2]
    have hri:∀ (A:Around) (E:Value->Shared->Prop) (Q:Value->Shared->Prop),Q (.bool (decide (c<=a))) ⟨hp,g,d,tk,os⟩->wpAny (model prog w) A (richCompare .GtE (.int a t) (.int c u)) Q E ⟨hp,g,d,tk,os⟩:=fun A E Q h=>(PyProof.Rows.ge_int h:wpAny (model prog w) A (compareOp .GtE (.int a t) (.int c u)) Q E _)
    refine wpAny_bind (hri _ _ _ ?_)
    wp_walk
    exact h
theorem yv {l b:Addr}{items items2:Array Value}{ns ms:List Int}{prog:Program}{w:World}{A:Around}{E:Value->Shared->Prop}{s:Shared}{Q:Value->Shared->Prop} (hl:s.heap.IsList l items) (hb:s.heap.IsList b items2) (hi:IntsAre items.toList ns) (hj:IntsAre items2.toList ms)
  (hu:A.units < cLine) (h:Q (.bool (iu ns ms)) s):wpAny (model prog w) A (compareOp .GtE (.ref l) (.ref b)) Q E s:=by
 obtain ⟨⟨c1,dd,d1,sl⟩,ho,g1,n,g2⟩:=id hl
 obtain ⟨⟨c2,dd2,d2,sl2⟩,ho2,g3,n2,g4⟩:=id hb
 simp only at g1 g2 g3 g4
 subst g1 g2 g3 g4
 have m:Meets (Builtin.«list.__ge__» ⟨[.ref l,.ref b],[]⟩) (fun _ R s=>s.heap.get? l=some { cls:=.type "list",dict:=dd,data:=.seq items n,slots:=sl }/\s.heap.get? b=some { cls:=.type "list",dict:=dd2,data:=.seq items2 n2,slots:=sl2 } ∧
    R (.ok (.ret (.bool (iu ns ms)))) s):=by
  intro prog w A R s h
  obtain ⟨hp,g,d,tk,os⟩:=s;obtain ⟨hl,hb,h⟩:=h
  simp only at hl hb
  have f2:=AutoSeq1.sub_list_list
  unfold Builtin.«list.__ge__»
  wp_walk using AutoSeq1.wpAny_loadPart' hl,AutoSeq1.wpAny_loadPart' hb
  exact ⟨by with_unfolding_all rfl,Al l b items items2 n n2 dd dd2 sl sl2 hl hb _ 0 ns ms rfl hi hj (Nat.zero_le _) (Nat.zero_le _) h⟩
 exact PySem.W.cmp_ofGtE (richCompare_meets_room (op:=.GtE) ⟨_,ho,rfl⟩ ⟨_,ho2,rfl⟩ PySem.F.slot_list_ge PySem.F.entry_list_ge (PySem.F.args_list_ge_2 _ _) m
  ⟨ho,ho2,show Value.bool (iu ns ms)≠Value.notImplemented/\Q (.bool (iu ns ms)) s from ⟨(fun x=>nomatch x),h⟩⟩ hu)
section
variable {X:Cx}{K:PySem.W.Frag}
def Dl (K:PySem.W.Frag):R2:=fun x y H Q=>match x,y with
 | .int i,.int j=>Q (.bl (decide (j<=i))) H
 | .ref a,.ref b=>∃ ns ms,SqL K H a (ns.map V.int)/\SqL K H b (ms.map V.int)/\Q (.bl (iu ns ms)) H
 | _,_=>False
theorem yS (hK:X.K=K) (hu:X.A.units < cLine):OpR X (compareOp .GtE) (Dl K):=by
 subst hK
 intro pins s σ H x y v u Q I rx ry h
 cases x with
 | int i=>cases y with
  | int j=>exact CN pins s σ H _ _ v u Q I rx ry h
  | _=>exact False.elim h
 | ref a=>cases y with
  | ref b =>
   obtain ⟨ns,ms,ha,hb,q⟩:=h
   cases rx
   cases ry
   obtain ⟨its,r1,p1,_⟩:=I.list ha
   obtain ⟨its2,r2,p2,_⟩:=I.list hb
   exact yv p1.isList p2.isList (intsAre_of r1) (intsAre_of r2) hu ⟨.bl (iu ns ms),H,I,rfl,q⟩
  | _=>exact False.elim h
 | _=>exact False.elim h
end
theorem ar {t u:TS}{D:Ends}{σ:St}{H:Hp} (h:∀ nn:TS,nn=u->t { D with nx:=fun σ' H'=>nn D σ' H' } σ H):zJ t u D σ H:=h u rfl
theorem gH {lo:Int}{n:Nat}{g:TG}{tb:TS}{D:Ends}{σ:St}{H:Hp} (Pv:Nat->St->Hp->Prop) (h0:Pv 0 σ H)
  (hs:∀ i σ H,i < n->Pv i σ H->∀ N:St->Hp->Prop,(∀ σ' H',Pv (i + 1) σ' H'->N σ' H')->g (.int (lo + i)) σ H fun σ2 H2=>tb { D with nx:=N,ct:=N,bk:=D.nx } σ2 H2) (hd:∀ σ H,Pv n σ H->D.nx σ H):gG g tb D (Itr lo n) σ H :=
 vo Pv h0 (fun i σ H hi hp=>hs i σ H hi hp _ fun _ _ h=>h) hd
theorem yp {K:PySem.W.Frag}{a:Addr}{xs:List V}{g:TG}{tb:TS}{D:Ends}{σ:St}{H:Hp} (Pv:Nat->St->Hp->Prop) (h0:Pv 0 σ H) (hl:∀ i σ H,i<=xs.length->Pv i σ H->SqL K H a xs)
  (hs:∀ i x σ H,xs[i]?=some x->Pv i σ H->∀ N:St->Hp->Prop,(∀ σ' H',Pv (i + 1) σ' H'->N σ' H')->g x σ H fun σ2 H2=>tb { D with nx:=N,ct:=N,bk:=D.nx } σ2 H2) (hd:∀ σ H,Pv xs.length σ H->D.nx σ H):gG g tb D (Itl K a) σ H :=
 vn Pv h0 hl (fun i x σ H hi hp=>hs i x σ H hi hp _ fun _ _ h=>h) hd
end L2

namespace Mk
end Mk

namespace Mk
def aQ (c:Nat):List Nat->List (List Nat)
 | []=>[[]]
 | a::l=>if a=c then []::aQ c l else match aQ c l with
  | []=>[[a]]
  | w::ws=>(a::w)::ws
def br (c:Nat):List (List Nat)->List Nat
 | []=>[]
 | [w]=>w
 | w::v::ws=>w++c::br c (v::ws)
theorem ic {c:Nat}:∀ (w l:List Nat),c ∉ w->aQ c (w++c::l)=w::aQ c l
 | [],l,_=>by simp [aQ]
 | a::w,l,h=>by
  have ha:a≠c:=fun e=>h (by rw [e];exact List.mem_cons_self)
  have ih:=ic w l fun hc=>h (List.mem_cons_of_mem _ hc)
  show (if a=c then _ else match aQ c (w++c::l) with | []=>[[a]] | w::ws=>(a::w)::ws)=_
  rw [if_neg ha,ih]
theorem oS {c:Nat}:∀ (w:List Nat),c ∉ w->aQ c w=[w]
 | [],_=>rfl
 | a::w,h=>by
  have ha:a≠c:=fun e=>h (by rw [e];exact List.mem_cons_self)
  have ih:=oS w fun hc=>h (List.mem_cons_of_mem _ hc)
  show (if a=c then _ else match aQ c w with | []=>[[a]] | w::ws=>(a::w)::ws)=_
  rw [if_neg ha,ih]
theorem fe {c:Nat}:∀ (ws:List (List Nat)),ws≠[]->(∀ w∈ws,c ∉ w)->aQ c (br c ws)=ws
 | [],h,_=>absurd rfl h
 | [w],_,h=>oS w (h w List.mem_cons_self)
 | w::v::ws,_,h=>by
  show aQ c (w++c::br c (v::ws))=_
  rw [ic w _ (h w List.mem_cons_self),fe (v::ws) (by simp) fun x hx=>h x (List.mem_cons_of_mem _ hx)]
theorem nj {c:Nat}:∀ (l:List Nat),(aQ c l).length<=l.length + 1/\∀ w∈aQ c l,w.length<=l.length
 | []=>by simp [aQ]
 | a::l=>by
  obtain ⟨h1,h2⟩:=nj (c:=c) l
  have e:aQ c (a::l)=if a=c then []::aQ c l else match aQ c l with | []=>[[a]] | w::ws=>(a::w)::ws:=rfl
  by_cases ha:a=c
  ·rw [e,if_pos ha,List.length_cons,List.length_cons]
   refine ⟨by omega,fun w hw=>?_⟩
   rcases List.mem_cons.mp hw with rfl | hw
   ·exact Nat.zero_le _
   ·have:=h2 w hw;omega
  ·rw [e,if_neg ha,List.length_cons]
   cases hs:aQ c l with
   | nil=>exact ⟨by simp,fun w hw=>by rw [List.mem_singleton.mp hw];simp⟩
   | cons v vs =>
    rw [hs] at h1 h2
    refine ⟨by simp only [List.length_cons] at h1 ⊢;omega,fun w hw=>?_⟩
    rcases List.mem_cons.mp hw with rfl | hw
    ·have:=h2 v List.mem_cons_self
     rw [List.length_cons];omega
    ·have:=h2 w (List.mem_cons_of_mem _ hw);omega
theorem o8 {c:Nat}:∀ (ws:List (List Nat)),(br c ws).length<=(ws.map fun w=>w.length + 1).sum
 | []=>by simp [br]
 | [w]=>by simp [br]
 | w::v::ws=>by
  have ih:=o8 (c:=c) (v::ws)
  show (w++c::br c (v::ws)).length<=_
  rw [List.length_append,List.length_cons,List.map_cons,List.sum_cons]
  omega
end Mk
namespace L2
open PySem PySem.Spec PyProof.Rows
theorem nq (c:Nat):∀ (ls:List (List Nat)),(tx [c]).join (ls.map tx)=tx (Mk.br c ls)
 | []=>rfl
 | [w]=>by rfl
 | w::v::ws=>by
  have ih:=nq c (v::ws)
  show tx w++tx [c]++(tx [c]).join ((v::ws).map tx)=tx (w++c::Mk.br c (v::ws))
  rw [ih,ky,ky,List.append_assoc]
  rfl
theorem Dy (ls:List Str):(ls.map fun z=>z.cps.toList).map tx=ls:=by
 rw [List.map_map]
 conv=>rhs;rw [← List.map_id ls]
 exact List.map_congr_left fun z _=>oW z
theorem zA (l:List Nat) (c:Nat):Txt.split (tx l) (tx [c])=(Mk.aQ c l).map tx:=by
 have h1:=StrLaws.join_split (tx l) (tx [c])
 have h2:∀ p∈Txt.split (tx l) (tx [c]),c ∉ p.cps.toList:=fun p hp=>StrLaws.split_free (tx l) c p hp
 have h3:=PyProof.Rows.split_pos (tx l) (tx [c])
 generalize Txt.split (tx l) (tx [c])=ps at h1 h2 h3
 rw [← Dy ps] at h1 ⊢
 rw [nq] at h1
 rw [← qw h1,Mk.fe]
 ·intro e
  have:=congrArg List.length e
  simp at this
  rw [this] at h3
  simp at h3
 ·intro w hw
  obtain ⟨p,hp,rfl⟩:=List.mem_map.mp hw
  exact h2 p hp
theorem iN (c:Nat) (ls:List (List Nat)):Txt.join (tx [c]) (ls.map tx)=tx (Mk.br c ls):=by
 have go:∀ (r:List (List Nat)) (acc:List Nat),(r.map tx).foldl (fun acc p=>acc++(tx [c]).cps++p.cps) acc.toArray=(acc++(r.map fun w=>c::w).flatten).toArray:=by
  intro r
  induction r with
  | nil=>intro acc;simp
  | cons a r ih =>
   intro acc
   rw [List.map_cons,List.foldl_cons]
   have e:acc.toArray++(tx [c]).cps++(tx a).cps=(acc++c::a).toArray:=by simp [tx]
   rw [e,ih]
   simp
 have jl:∀ (a:List Nat) (r:List (List Nat)),Mk.br c (a::r)=a++(r.map fun w=>c::w).flatten:=by
  intro a r
  induction r generalizing a with
  | nil=>simp [Mk.br]
  | cons b r ih =>
   show a++c::Mk.br c (b::r)=_
   rw [ih b]
   simp
 unfold Txt.join Builtin.Str.glued
 cases ls with
 | nil=>rfl
 | cons a r =>
  have:=go r a
  show Str.mk ((r.map tx).foldl (fun acc p=>acc++(tx [c]).cps++p.cps) a.toArray)=tx (Mk.br c (a::r))
  rw [this,jl]
  rfl
def zv:V->List V->Hp->VK->Prop:=fun x vs H Q=>match x,vs with
 | .str z,[.str y]=>z.length<=100000/\∃ c,y=tx [c]/\nw H (.lst ((Mk.aQ c z.cps.toList).map fun w=>.str (tx w))) Q
 | _,_=>False
theorem oY:∀ (l:List (Str × Tok)),Vals ((l.map fun p=>p.1).map V.str) (strValues l)
 | []=>.nil
 | p::l=>.cons ⟨p.2,rfl⟩ (oY l)
theorem uc {prog:Program}{w:World}{A:Around}{E:Value->Shared->Prop}{s:Shared}{x y:Str}{t u:Tok}{Q:Value->Shared->Prop} (hy:(y.length == 0)=false) (hsz:x.length + 2<=sizeLine)
  (h:∀ (l:List (Str × Tok)) (k:Nat),l.map (fun p=>p.1)=Txt.split x y->Q (.ref s.heap.objs.size) { s with heap:=s.heap.push { cls:=.type "list",data:=.seq (strValues l).toArray },toks:=k }) :
  wpAny (model prog w) A (call (.builtin "str.split") [.str x t,.str y u]) Q E s:=by
 have ex:Txt.split x y=if (decide (x.length < y.length) || decide (Builtin.Str.strKind x < Builtin.Str.strKind y))=true then [x] else if (Builtin.Str.occurrences x y 0 x.length (x.length + 1)).isEmpty=true then [x] else Builtin.Str.partsBetween x (Builtin.Str.occurrences x y 0 x.length (x.length + 1)) y.length:=rfl
 cases h1:(decide (x.length < y.length) || decide (Builtin.Str.strKind x < Builtin.Str.strKind y)) with
 | true =>
  rw [h1,if_pos rfl] at ex
  refine call_meets F.slot_str_split (typeIs_str s x t) F.entry_str_split (F.args_str_split_2 (Value.str x t) (Value.str y u)) (meets_str_split_cannot_occur x y t u h1) ?_
  exact h [(x,_)] _ ex.symm
 | false =>
  rw [h1,if_neg (by decide)] at ex
  cases hf:(Builtin.Str.occurrences x y 0 x.length (x.length + 1)).isEmpty with
  | true =>
   rw [hf,if_pos rfl] at ex
   refine call_meets F.slot_str_split (typeIs_str s x t) F.entry_str_split (F.args_str_split_2 (Value.str x t) (Value.str y u)) (meets_str_split_not_found x y t u h1 hy hf) ?_
   exact h [(x,_)] _ ex.symm
  | false =>
   rw [hf,if_neg (by decide)] at ex
   have hl:=PyProof.Rows.split_le x y
   rw [ex] at hl
   refine call_meets F.slot_str_split (typeIs_str s x t) F.entry_str_split (F.args_str_split_2 (Value.str x t) (Value.str y u)) (meets_str_split_sep x y t u h1 hy hf (by omega) (by omega)) ?_
   show Q _ _
   rw [strsFrom_eq]
   exact h _ _ ((numbered_texts _ _).trans ex.symm)
theorem j9 {X:Cx}:MtM X "str.split" zv:=by
 intro pins s σ H x vs v us Q I rx rv h
 match x,vs,h with
 | .str z,[.str y],h =>
  obtain ⟨hz,c,rfl,q⟩:=h
  obtain ⟨t,rfl⟩:=rx
  obtain ⟨u,rfl,ru⟩:=rv.one
  obtain ⟨t2,rfl⟩:=ru
  have hb:z.length + 2<=sizeLine:=by rw [sizeLine_eq];omega
  refine uc rfl hb fun l k e=>?_
  have e2:l.map (fun p=>p.1)=(Mk.aQ c z.cps.toList).map tx:=by rw [e,← zA,oW]
  have hl:(strValues l).length<=z.length + 2:=by
   have:=PyProof.Rows.split_le z (tx [c])
   rw [← e,List.length_map] at this
   rw [show (strValues l).length=l.length from List.length_map ..]
   exact this
  have r:=oY l
  rw [e2,List.map_map] at r
  refine ⟨.ref s.heap.objs.size,_,I.laid (t':=k) (o:=.lst ((Mk.aQ c z.cps.toList).map fun w=>.str (tx w))) (fun b ob q=>Heap.get?_push_of_some _ q) (Nat.le_refl _) ?_,rfl,q.go _ (I.hok.fresh (Nat.le_refl _))⟩
  refine ⟨?_,_,0,r,Heap.get?_push_size _ rfl⟩
  have:=r.length
  rw [show ((Mk.aQ c z.cps.toList).map fun w=>V.str (tx w))=(Mk.aQ c z.cps.toList).map (V.str ∘ tx) from rfl,this]
  omega
def B7:R2:=fun x y H Q=>match x,y with
 | .int i,.int j=>(i.natAbs < 2 ^ 60 ∨ j.natAbs < 2 ^ 60)/\Q (.int (i * j)) H
 | _,_=>False
theorem iJ {X:Cx}:OpR X (binaryOp .Mult) B7:=by
 intro pins s σ H x y v u Q I rx ry h
 cases x with
 | int i=>cases y with
  | int j =>
   refine (opI (X:=X) (f:=binaryOp .Mult) (C:=fun i j=>i.natAbs < 2 ^ 60 ∨ j.natAbs < 2 ^ 60) (g:=fun i j=>i * j) fun i j _ _ _ _ _ hc q=>mul_int q ?_) pins s σ H _ _ v u Q I rx ry ⟨_,_,rfl,rfl,h.1,h.2⟩
   rcases hc with hc | hc
   ·exact IntMulOk.of_left (Nat.le_trans (intBits_le_iff.mpr hc) (by decide))
   ·exact IntMulOk.of_right (Nat.le_trans (intBits_le_iff.mpr hc) (by decide))
  | _=>exact False.elim h
 | _=>exact False.elim h
end L2

namespace L2
open PySem PySem.Spec PyProof.Rows
theorem lU {i j}{H:Hp}{Q:VK}:vG (.int i) (.int j) H Q=(Q (.int (i + j)) H):=propext Iff.rfl
theorem lV {a b}{H:Hp}{Q:VK}:vG (.str a) (.str b) H Q=(a.length + b.length<=sizeLine/\Q (.str (a++b)) H):=propext Iff.rfl
theorem lW {l b}{H:Hp}{Q:VK}:vG (.ref l) (.ref b) H Q=(∃ xs zs,H l=some (.lst xs)/\H b=some (.lst zs)/\xs.length + zs.length<=sizeLine/\nw H (.lst (xs++zs)) Q):=propext Iff.rfl
theorem mq {i j}{H:Hp}{Q:VK}:BF (.int i) (.int j) H Q=(Q (.int (i - j)) H):=propext Iff.rfl
theorem mi {i j}{H:Hp}{Q:VK}:BC (.int i) (.int j) H Q=(Cb i j/\Q (.int (i * j)) H):=propext Iff.rfl
theorem kD {i j}{H:Hp}{Q:VK}:zk (.int i) (.int j) H Q=((0 < j/\j < 2 ^ 1000)/\Q (.int (i / j)) H):=propext Iff.rfl
theorem mf {i j}{H:Hp}{Q:VK}:B6 (.int i) (.int j) H Q=(0 < j/\Q (.int (i % j)) H):=propext Iff.rfl
theorem mj {i j}{H:Hp}{Q:VK}:BD (.int i) (.int j) H Q=((0<=j/\j<=1000000/\i.natAbs < 2 ^ 64)/\Q (.int (i ^ j.toNat)) H):=propext Iff.rfl
theorem lX {f:Int->Int->Bool}{i j}{H:Hp}{Q:VK}:oN f (.int i) (.int j) H Q=(Q (.bl (f i j)) H):=propext Iff.rfl
theorem nY {K:PySem.W.Frag}{i j}{H:Hp}{Q:VK}:Dl K (.int i) (.int j) H Q=(Q (.bl (decide (j<=i))) H):=propext Iff.rfl
theorem nW {K:PySem.W.Frag}{i j}{H:Hp}{Q:VK}:AM K (.int i) (.int j) H Q=(Q (.bl (decide (i=j))) H):=propext Iff.rfl
theorem nX {K:PySem.W.Frag}{i j}{H:Hp}{Q:VK}:AM K (.str i) (.str j) H Q=(Q (.bl (decide (i=j))) H):=propext Iff.rfl
theorem og {K:PySem.W.Frag}{i j}{H:Hp}{Q:VK}:zr K (.int i) (.int j) H Q=(Q (.bl (!decide (i=j))) H):=propext Iff.rfl
theorem oh {K:PySem.W.Frag}{i j}{H:Hp}{Q:VK}:zr K (.str i) (.str j) H Q=(Q (.bl (!decide (i=j))) H):=propext Iff.rfl
theorem oi {K:PySem.W.Frag}{a b}{H:Hp}{Q:VK}:zr K (.ref a) (.ref b) H Q=(∃ xs ys,SqL K H a xs/\SqL K H b ys/\xs.all cu=true/\ys.all cu=true/\Q (.bl (!kX xs ys)) H):=propext Iff.rfl
theorem nZ {K:PySem.W.Frag}{p i}{H:Hp}{Q:VK}:AO K (.ref p) (.int i) H Q=(∃ xs v,Sq K H p xs/\atI xs i=some v/\Q v H):=propext Iff.rfl
theorem oa {K:PySem.W.Frag}{z i}{H:Hp}{Q:VK}:AO K (.str z) (.int i) H Q=(z.length<=sizeLine/\∃ c,atI z.cps.toList i=some c/\Q (.str ⟨#[c]⟩) H):=propext Iff.rfl
theorem ma {K:PySem.W.Frag}{z}{H:Hp}{Q:VK}:vJ K [.str z] H Q=(z.length<=sizeLine/\Q (.int z.length) H):=propext Iff.rfl
theorem md {K:PySem.W.Frag}{p}{H:Hp}{Q:VK}:vJ K [.ref p] H Q=(∃ xs,Sq K H p xs/\Q (.int xs.length) H):=propext Iff.rfl
theorem lT {i}{H:Hp}{Q:VK}:Bx [.int i] H Q=(Q (.int (i.natAbs:Int)) H):=propext Iff.rfl
theorem me {i j}{H:Hp}{Q:VK}:B3 [.int i,.int j] H Q=(Q (.int (max i j)) H):=propext Iff.rfl
theorem kG {K:PySem.W.Frag}{a}{H:Hp}{Q:VK}:tT K [.ref a] H Q=(∃ ys,(Sq K H a ys ∨ ∃ lo hi,H a=some (.rng lo hi)/\(-(2 ^ 62)<=lo/\lo < 2 ^ 62/\-(2 ^ 62)<=hi/\hi < 2 ^ 62)/\(hi - lo).toNat<=2 ^ 20/\ys=qi lo (hi - lo).toNat)/\nw H (.lst ys) Q):=propext Iff.rfl
theorem lY {c:Tg}{x n}{H:Hp}{Q:VK}:By c [x,.ty n] H Q=(n=c.name/\∃ t,cP H x=some t/\Q (.bl (t.sub c)) H):=propext Iff.rfl
theorem oj {K:PySem.W.Frag}{a}{lo}{hi}{H:Hp}{Q:VK}:AQ K (.ref a) lo hi H Q=(∃ xs,SqL K H a xs/\nw H (.lst (gq xs lo hi)) Q):=propext Iff.rfl
theorem om {K:PySem.W.Frag}{z}{lo}{hi}{H:Hp}{Q:VK}:AQ K (.str z) lo hi H Q=(z.length<=sizeLine/\Q (.str (tx (iO z.cps.toList lo hi))) H):=propext Iff.rfl
theorem kF {K:PySem.W.Frag}{z p}{H:Hp}{Q:VK}:tR K (.str z) [.ref p] H Q=(∃ ys:List Str,SqL K H p (ys.map V.str)/\(ys.map (·.length)).sum + ys.length * z.length<=16777216/\Q (.str (Txt.join z ys)) H):=propext Iff.rfl
theorem kH {z y}{H:Hp}{Q:VK}:zv (.str z) [.str y] H Q=(z.length<=100000/\∃ c,y=tx [c]/\nw H (.lst ((Mk.aQ c z.cps.toList).map fun w=>.str (tx w))) Q):=propext Iff.rfl
theorem mh {i j}{H:Hp}{Q:VK}:B7 (.int i) (.int j) H Q=((i.natAbs < 2 ^ 60 ∨ j.natAbs < 2 ^ 60)/\Q (.int (i * j)) H):=propext Iff.rfl
theorem mm {P:Program}{w:World}{z}{H:Hp}{Q:VK}:zt P w [.str z] H Q=(z.length<=4000/\∀ p H',H p=none->ao H H'->H' p=some (tY P w p (bR (gE z) z.length))->Q (.ref p) H'):=propext Iff.rfl
theorem lZ {P:Program}{w:World}{p}{H:Hp}{Q:VK}:zo P w [.ref p] H Q=(∃ l,H p=some (tY P w p l)/\Q (.int l.length) H):=propext Iff.rfl
theorem lR {K:PySem.W.Frag}{a:Addr}{H:Hp}{R:It->Hp->Prop}:vv K (.ref a) H R=(((∃ xs,SqL K H a xs)/\R (Itl K a) H) ∨ ((∃ xs,SqT K H a xs)/\R (Itt K a) H)):=propext Iff.rfl
theorem lS {K:PySem.W.Frag}{z:Str}{H:Hp}{R:It->Hp->Prop}:vv K (.str z) H R=R (Itx z) H:=propext Iff.rfl
end L2

namespace L2
open PySem PySem.Spec PyProof.Rows
def Ite (K:PySem.W.Frag) (a:Addr):It :=
 ⟨fun i H=>∃ xs x,SqL K H a xs/\xs[i]?=some x,
  fun i H v H'=>∃ x p,(∀ xs,SqL K H a xs->xs[i]?=some x)/\v=.ref p/\H p=none/\H'=upd H p (.tup [.int (i:Int),x]),
  fun i H=>∃ xs,SqL K H a xs/\xs.length<=i⟩
theorem qU {h:Heap}{a e it:Addr}{i:Nat} (st:(∃ old,IsEnum h e it (i:Int) old)/\h.IsListIter it a i):∀ c∈[e,it],∃ o,h.get? c=some o/\∀ v,o.data≠.cell v:=fun c hc=>by
 obtain ⟨⟨old,he⟩,⟨o1,e1,c1,d1⟩⟩:=st
 simp only [List.mem_cons,List.not_mem_nil,or_false] at hc
 rcases hc with rfl | rfl
 ·exact ⟨_,he,fun v q=>by have q':Data.fields _=Data.cell v:=q;cases q'⟩
 ·exact ⟨o1,e1,fun v q=>by rw [d1] at q;cases q⟩
theorem xy {P:Program}{w:World}{K:PySem.W.Frag}{elts:List Expr}{k:Nat}{pos:Pos} (a e it:Addr) (D:e≠it):Turn P w K (.Tuple elts k pos) (Ite K a) [e,it] e
  (fun i h=>(∃ old,IsEnum h e it (i:Int) old)/\h.IsListIter it a i) where
 mem:=by simp
 obj:=fun i h st=>qU st
 keep:=fun i h h' st k=>by
  obtain ⟨⟨old,he⟩,h1⟩:=st
  exact ⟨⟨old,k e (by simp) _ he⟩,h1.at fun o e=>k it (by simp) o e⟩
 item:=by
  intro X hP hw hK hc i pins s σ H E I hf st hg
  subst hP hw hK
  obtain ⟨xs,x,hx,ex⟩:=hg
  obtain ⟨us,r1,p1,_⟩:=I.list hx
  obtain ⟨u,hu,ru⟩:=r1.get ex
  obtain ⟨⟨old,he⟩,h1⟩:=id st
  refine wpAny_pyNext_enum_item he h1 p1.isList (x:=u) (by simpa using hu) D fun h' a1 a2 a3 a4 a5=>?_
  refine ⟨_,rfl,wpAny_letOwnedTupleGo_enum (s:={ s with heap:=h',toks:=s.toks + 1 }) a1 fun h'' b1 b2=>?_⟩
  have b2':Heap.SameBut e h' h'':=b2
  have ne:∀ c∈[e,it],c < s.heap.objs.size:=fun c hc=>by
   obtain ⟨o,e,_⟩:=qU st c hc
   exact Heap.lt_size e
  have kk:∀ c o,c ∉ [e,it]->s.heap.get? c=some o->h''.get? c=some o:=fun c o hc e=>by
   simp only [List.mem_cons,List.not_mem_nil,or_false,not_or] at hc
   exact (b2'.2 c hc.1).trans (a5 c o hc.1 hc.2 e)
  have hT:h''.get? s.heap.objs.size=some { cls:=.type "tuple",data:=.seq #[.int (i:Int) s.toks,u] }:=(b2'.2 _ (Nat.ne_of_gt (ne e (by simp)))).trans a3
  have I1:Inv X pins σ (upd H s.heap.objs.size (.tup [.int (i:Int),x])) { s with heap:=h'',toks:=s.toks + 1 }:=by
   refine I.vQ (t':=s.toks + 1) (ch:=[e,it]) hf kk (fun c o ee=>?_) (Nat.le_refl _) (show aX X.prog X.w _ h'' _ (.tup [.int (i:Int),x]) from ⟨by show 2<=sizeLine;decide,[.int (i:Int) s.toks,u],.cons ⟨_,rfl⟩ (.cons ru .nil),⟨_,hT,rfl,_,rfl⟩⟩)
   by_cases hc:c∈[e,it]
   ·simp only [List.mem_cons,List.not_mem_nil,or_false] at hc
    rcases hc with rfl | rfl
    ·exact ⟨_,b1⟩
    ·obtain ⟨o1,e1,_⟩:=a2;exact ⟨_,(b2'.2 _ (Ne.symm D)).trans e1⟩
   ·exact ⟨_,kk c o hc ee⟩
  refine ⟨.ref s.heap.objs.size,_,I1,rfl,⟨x,_,fun zs hz=>by rw [I.j8 hz hx];exact ex,rfl,I.hok.fresh (Nat.le_refl _),rfl⟩,⟨⟨_,by have:=b1;rw [show ((i + 1:Nat):Int)=(i:Int) + 1 from rfl];exact this⟩,a2.at fun o e=>(b2'.2 _ (Ne.symm D)).trans e⟩,fun c hc=>?_⟩
  rw [av (Nat.ne_of_lt (ne c hc))];exact (hf c hc).1
 done:=by
  intro X hP hw hK hc i pins s σ H E I hf st hg
  subst hP hw hK
  obtain ⟨xs,hx,hl⟩:=hg
  obtain ⟨us,r1,p1,_⟩:=I.list hx
  obtain ⟨⟨old,he⟩,h1⟩:=id st
  have l1:=r1.length
  refine wpAny_pyNext_enum_end (I.ok.hd hc) he h1 p1.isList (by simp;omega) fun h' kk=>⟨rfl,I.BY (t':=s.toks) (ch:=[e,it]) hf fun c o hc e=>?_⟩
  simp only [List.mem_cons,List.not_mem_nil,or_false,not_or] at hc
  exact kk c o hc.2 e
 self:=fun _ _ _ _ _ st h=>by
  obtain ⟨⟨old,he⟩,_⟩:=st
  exact wpAny_pyIter_enum he h
section
variable {X:Cx}
def yz (K:PySem.W.Frag) (ta:TA):TI:=fun σ H R=>ta σ H fun vs H1=>∃ a,vs=[.ref a]/\(∃ xs,SqL K H1 a xs)/\R (Ite K a) H1
theorem qF {K:PySem.W.Frag}{ta:TA}{σ:St}{H:Hp}{R:It->Hp->Prop}:yz K ta σ H R=ta σ H fun vs H1=>∃ a,vs=[.ref a]/\(∃ xs,SqL K H1 a xs)/\R (Ite K a) H1:=propext Iff.rfl
theorem AG {elts:List Expr}{k:Nat}{tpos:Pos}{a:Expr}{ta:TA}{p pos:Pos} (hg:Gl X "enumerate") (hm:X.mg "enumerate"=none) (ha:PA X [a] ta) (hs:starEach [a] X.env=[(false,eval a X.env)]:=by rfl) :
  PI X (.Tuple elts k tpos) (.Call (.Name "enumerate" p) [a] [] pos) (yz X.K ta):=by
 intro pins s σ H R I h
 refine Call_ (jd I hg hm pd (PyProof.Rows.callWith_type1 (thn (ha pos pins s σ H _ I h) fun us s1 ⟨vs,H1,I1,r1,q1⟩=>?_) hs (by rfl)))
 obtain ⟨l1,e,⟨xs,hx⟩,q⟩:=q1
 subst e
 cases r1 with
 | cons r rr =>
  cases rr
  cases r
  obtain ⟨us,_,p1,_⟩:=I1.list hx
  refine call_enumerate_list p1.isList fun h' he hi hsz hk=>wpAny_pyIter_enum (s:={ s1 with heap:=h' }) he ?_
  have I2:Inv X pins σ H1 { s1 with heap:=h' }:=I1.kept (t':=s1.toks) hk
  refine ⟨_,[s1.heap.objs.size + 1,s1.heap.objs.size],_,_,H1,rfl,I2,xy l1 (s1.heap.objs.size + 1) s1.heap.objs.size (Nat.succ_ne_self _),⟨⟨_,he⟩,hi⟩,fun c hc=>?_,q⟩
  have hle:s1.heap.objs.size<=c:=by
   simp only [List.mem_cons,List.not_mem_nil,or_false] at hc
   rcases hc with rfl | rfl <;> omega
  exact I1.rh hle (I1.hok.fresh hle)
theorem jH {K:PySem.W.Frag}{elts:List Expr}{k:Nat}{tpos:Pos}{a:Expr}{ta:TA}{p pos:Pos} (hK:X.K=K) (hm:X.mg "enumerate"=none) (ha:PA X [a] ta) (hg:X.env.kindOf "enumerate"=some .globalImplicit:=by kernel_rfl) (hs:noStar a=true:=by kernel_rfl) :
  PI X (.Tuple elts k tpos) (.Call (.Name "enumerate" p) [a] [] pos) (yz K ta):=hK ▸ AG hg hm ha (aA hs)
end
theorem kh {K:PySem.W.Frag}{a:Addr}{xs:List V}{g:TG}{tb:TS}{D:Ends}{σ:St}{H:Hp} (Pv:Nat->St->Hp->Prop) (h0:Pv 0 σ H) (hl:∀ i σ H,i<=xs.length->Pv i σ H->SqL K H a xs)
  (hs:∀ i x σ H,xs[i]?=some x->Pv i σ H->∀ N:St->Hp->Prop,(∀ σ' H',Pv (i + 1) σ' H'->N σ' H')->∀ p H',H p=none->ao H H'->H' p=some (.tup [.int (i:Int),x])->g (.ref p) σ H' fun σ2 H2=>tb { D with nx:=N,ct:=N,bk:=D.nx } σ2 H2) (hd:∀ σ H,Pv xs.length σ H->D.nx σ H):gG g tb D (Ite K a) σ H:=by
 refine ⟨fun i m σ H=>i + m=xs.length/\Pv i σ H,⟨xs.length,by omega,h0⟩,fun i m σ H hw=>?_⟩
 obtain ⟨e,hp⟩:=hw
 have hL:=hl i σ H (by omega) hp
 by_cases hm:m=0
 ·subst hm
  have:i=xs.length:=by omega
  subst this
  exact .inl ⟨⟨xs,hL,Nat.le_refl _⟩,hd σ H hp⟩
 ·have hi:xs[i]?=some xs[i]:=List.getElem?_eq_getElem (by omega)
  refine .inr ⟨⟨xs,_,hL,hi⟩,Pv (i + 1),fun σ' H' n=>⟨m - 1,by omega,by omega,n⟩,fun v H' hy=>?_⟩
  obtain ⟨x,p,h1,rfl,h2,rfl⟩:=hy
  have hx:=h1 xs hL
  exact hs i x σ H hx hp _ (fun _ _ h=>h) p _ h2 (cg h2) ay
section
variable {X:Cx}{tg:Expr}
end
section
variable {X:Cx}
theorem uz {td ty:TE}{σ:St}{H:Hp}{Q:VK}:zE td ty σ H Q=td σ H fun x H1=>ty σ H1 fun y H2=>∃ a v,x=.ref a/\ie H2 a y (some v)/\Q v H2:=propext Iff.rfl
theorem qB {td ty:TE}{σ:St}{H:Hp}{Q:VK}:ue td ty σ H Q=td σ H fun x H1=>∃ a,x=.ref a/\IsD H1 a/\ty σ H1 fun y H2=>∃ o,ie H2 a y o/\Q (o.getD .non) H2:=propext Iff.rfl
theorem za {o i:Expr}{td ty:TE}{pos:Pos} (hu:X.A.units + 1 < cLine) (ho:PE X o td) (hi:PE X i ty) (hs:Ce i:=by exact fun _ _=>rfl):PE X (.Subscript o i pos) (zE td ty):=A9 hu ho hi hs
theorem oM {o e:Expr}{td ty:TE}{apos cpos:Pos} (hu:X.A.units + 1 < cLine) (ho:PE X o td) (he:PE X e ty) (hbase:attributeBase o "get" X.env (eval o X.env)=eval o X.env:=by kernel_rfl) (hs:bw [e]=true:=by kernel_rfl)
  (hline:(apos.endLine == cpos.line)=true:=by kernel_rfl) (htr:backTo cpos (starEach [e] X.env)=[(false,eval e X.env)]:=by rfl):PE X (.Call (.Attribute o "get" apos) [e] [] cpos) (ue td ty):=by
 refine yZ hu ho he ⟨hbase,?_,hline,htr⟩
 rw [iY hs]
 rfl
theorem A7 {K:PySem.W.Frag}{o:Expr}{to:TE}{name:Str}{apos cpos:Pos}{T id:String}{r:V->List V->Hp->VK->Prop} (hK:X.K=K) (pa:PlainAttrs T) (slot:Slot T name id) (hty:typeOf (.builtin id)=pure (.type "method_descriptor"))
  (hm:MtR X id r) (ho:PE X o to) (hbase:attributeBase o name X.env (eval o X.env)=eval o X.env:=by kernel_rfl) (hline:(apos.endLine == cpos.line)=true:=by kernel_rfl):PE X (.Call (.Attribute o name apos) [] [] cpos) (Ds K T r to) :=
 hK ▸ CZ pa slot hty hm ho hbase hline
end
end L2

namespace Mk
end Mk

namespace L2
open PySem PySem.Spec PyProof.Rows
theorem nV {l:Addr}{H:Hp}{Q:VK}:zj (.ref l) [] H Q=(∃ xs,H l=some (.lst xs)/\Q .non (upd H l (.lst []))) :=
 propext ⟨fun ⟨l',xs,e,_,h,q⟩=>by cases e;exact ⟨xs,h,q⟩,fun ⟨xs,h,q⟩=>⟨l,xs,rfl,rfl,h,q⟩⟩
def yI:V->Bool
 | .ref _=>true
 | x=>cu x
theorem jy:∀ {x:V},cu x=true->eqV x x=true
 | .non,_=>rfl
 | .bl b,_=>by show (b == b)=true;simp
 | .int i,_=>by show (i == i)=true;simp
 | .str z,_=>by show (z == z)=true;simp
theorem wC {A:Around}{s:Shared}{x:V}{u v:Value} (ru:RelV x u) (rv:RelV x v) (h:yI x=true):SeqAt.EqAt A s u v true:=by
 cases x with
 | ref a=>cases ru;cases rv;exact SeqAt.EqAt.same _
 | non=>have:=iZ (A:=A) (s:=s) ru rv rfl rfl;rwa [jy rfl] at this
 | bl b=>have:=iZ (A:=A) (s:=s) ru rv rfl rfl;rwa [jy rfl] at this
 | int b=>have:=iZ (A:=A) (s:=s) ru rv rfl rfl;rwa [jy rfl] at this
 | str b=>have:=iZ (A:=A) (s:=s) ru rv rfl rfl;rwa [jy rfl] at this
 | _=>cases h
theorem cQ {xs:List V}{us:List Value} (r:Vals xs us) {j:Nat} (h:j < us.toArray.size):∃ x,xs[j]?=some x/\RelV x us.toArray[j]:=by
 have l:=r.length
 rw [List.size_toArray] at h
 have e1:xs[j]?=some (xs[j]'(by omega)):=List.getElem?_eq_getElem _
 obtain ⟨u,hu,ru⟩:=r.get e1
 refine ⟨_,e1,?_⟩
 have:us.toArray[j]=u:=by
  have:=List.getElem?_eq_some_iff.mp hu
  simpa using this.2
 rw [this];exact ru
section
variable {X:Cx}
end
theorem vw {J:It}{H1:Hp}{xs:List V}{js:List Nat}{σ:St}{tc:TT}{te:TE}{Q:VK} (hc:∀ σ H R,R true H->tc σ H R) (hJ:J.Seq H1 xs) (hl:xs.length < sizeLine) (G:HO->Prop) (hG:∀ ys,¬ G (.lst ys))
  (he:∀ x∈xs,∀ H,ao H1 H->∀ R:VK,(∀ p o H',ao H H'->H' p=some o->G o->R (.ref p) H')->te (some x::js.map fun j=>(σ[j]?).join) H R)
  (q:∀ D vs H,H1 D=none->ao H1 H->H D=some (.lst vs)->vs.length=xs.length->(∀ v∈vs,∃ p o,v=.ref p/\H p=some o/\G o)->Q (.ref D) H):dh (dH 0) tc te (fL 1 js σ) J H1 Q:=by
 intro D hD
 refine ⟨fun i m ys σ1 H=>m=xs.length - i/\i<=xs.length/\(∃ o,σ1=o::js.map fun j=>(σ[j]?).join)/\ys.length=i/\(∀ v∈ys,∃ p o,v=.ref p/\H p=some o/\G o)/\ao H1 H/\H D=some (.lst ys),
  ⟨xs.length,by simp,Nat.zero_le _,⟨none,rfl⟩,rfl,(fun v hv=>nomatch hv),(ao.refl H1).bD hD,ay⟩,?_⟩
 rintro i m ys σ1 H ⟨rfl,hi,⟨o,rfl⟩,hy,hg,sH,hL⟩
 refine ⟨hL,by omega,?_⟩
 by_cases hlt:i < xs.length
 ·have e:xs[i]?=some xs[i]:=List.getElem?_eq_getElem hlt
  obtain ⟨go,yl⟩:=(hJ H sH).1 i xs[i] e
  refine .inr ⟨go,fun x H' y=>?_⟩
  obtain ⟨e1,e2⟩:=yl x H' y
  subst e1 e2
  have hm:xs[i]∈xs:=List.getElem_mem hlt
  show tc (some xs[i]::js.map fun j=>(σ[j]?).join) H' _
  refine hc _ _ _ ?_
  rw [if_pos rfl]
  refine he xs[i] hm H' sH _ fun p o' H4 s4 hp hgo=>?_
  have hL4:=s4 _ _ hL
  have nD:∀ {b:Addr}{u:HO},H4 b=some u->G u->b≠D:=fun hb hu ee=>by
   subst ee;rw [hL4] at hb;cases hb;exact hG _ hu
  refine ⟨hL4,xs.length - (i + 1),by omega,rfl,hlt,⟨_,rfl⟩,by rw [List.length_append,hy];rfl,fun v hv=>?_,((sH.trans s4)).bD hD,ay⟩
  rcases List.mem_append.mp hv with hv | hv
  ·obtain ⟨b,u,rfl,hb,hu⟩:=hg v hv
   have hb4:=s4 _ _ hb
   exact ⟨b,u,rfl,by rw [av (nD hb4 hu)];exact hb4,hu⟩
  ·rw [List.mem_singleton.mp hv]
   exact ⟨p,o',rfl,by rw [av (nD hp hgo)];exact hp,hgo⟩
 ·have e:i=xs.length:=by omega
  subst e
  exact .inl ⟨(hJ H sH).2 _ (Nat.le_refl _),q D ys H hD sH hL hy hg⟩
end L2

namespace L2
section
variable {α:Type} [DecidableEq α]
abbrev Nk (α:Type):=α × Bool
structure Ent (α:Type) where
 key:Nk α
 d:Int
 par:Option (Nk α)
 t:Nat
def tP (fs:List (Ent α)) (e:Ent α):List (Ent α):=if fs.any (fun x=>x.key == e.key) then fs.map (fun x=>if x.key == e.key then e else x) else fs++[e]
theorem eY {fs:List (Ent α)}{e x:Ent α}:x∈tP fs e ↔ x=e ∨ (x∈fs/\x.key≠e.key):=by
 unfold tP
 split
 ·rename_i h
  obtain ⟨y,hy,hk⟩:=List.any_eq_true.mp h
  rw [List.mem_map]
  constructor
  ·rintro ⟨z,hz,rfl⟩
   split
   ·exact .inl rfl
   ·rename_i hn
    exact .inr ⟨hz,fun q=>hn (by simp [q])⟩
  ·rintro (rfl | ⟨hx,hn⟩)
   ·exact ⟨y,hy,by rw [if_pos hk]⟩
   ·exact ⟨x,hx,by rw [if_neg (by simpa using hn)]⟩
 ·rename_i h
  have h':∀ y∈fs,y.key≠e.key:=fun y hy q=>h (List.any_eq_true.mpr ⟨y,hy,by simp [q]⟩)
  rw [List.mem_append,List.mem_singleton]
  constructor
  ·rintro (hx | rfl)
   ·exact .inr ⟨hx,h' x hx⟩
   ·exact .inl rfl
  ·rintro (rfl | ⟨hx,_⟩)
   ·exact .inr rfl
   ·exact .inl hx
theorem wN (fs:List (Ent α)) (e:Ent α):(tP fs e).map Ent.key=fs.map Ent.key ∨ ((tP fs e).map Ent.key=fs.map Ent.key++[e.key]/\e.key ∉ fs.map Ent.key):=by
 unfold tP
 split
 ·left
  rw [List.map_map]
  apply List.map_congr_left
  intro x _
  show (if x.key == e.key then e else x).key=x.key
  split
  ·rename_i h;exact (eq_of_beq h).symm
  ·rfl
 ·rename_i h
  right
  refine ⟨by simp,fun q=>?_⟩
  obtain ⟨y,hy,hk⟩:=List.mem_map.mp q
  exact h (List.any_eq_true.mpr ⟨y,hy,by simp [hk]⟩)
theorem tH {fs:List (Ent α)}{e:Ent α} (h:(fs.map Ent.key).Nodup):((tP fs e).map Ent.key).Nodup:=by
 rcases wN fs e with q | ⟨q,n⟩
 ·rw [q];exact h
 ·rw [q,List.nodup_append]
  exact ⟨h,by simp,fun a ha b hb=>by rw [List.mem_singleton.mp hb];exact fun z=>n (z ▸ ha)⟩
structure Dij (St:Nk α->List (Nk α × Int)) (C:Nk α->Nk α × Int->Prop) (u0:Nk α) (fs ss:List (Ent α)):Prop where
 nf:(fs.map Ent.key).Nodup
 sub:∀ e∈ss,e∈fs
 ns:(ss.map Ent.key).Nodup
 st:∃ e∈fs,e.key=u0/\e.d=0
 nn:∀ e∈fs,0<=e.d
 cl:∀ e∈ss,∀ p,C e.key p->∃ e'∈fs,e'.key=p.1/\e'.d<=e.d + p.2
 pa:∀ e∈fs,(e.par=none/\e.key=u0/\e.d=0) ∨ ∃ u∈ss,∃ c,e.par=some u.key/\(e.key,c)∈St u.key/\e.d=u.d + c
 od:∀ e∈ss,∀ e'∈fs,e' ∉ ss->e.d<=e'.d
 rk:∀ pre e post,ss=pre++e::post->(e.par=none/\e.key=u0/\e.d=0) ∨ ∃ u∈pre,∃ c,e.par=some u.key/\(e.key,c)∈St u.key/\e.d=u.d + c
theorem Aq {fs:List (Ent α)} (h:(fs.map Ent.key).Nodup) {x y:Ent α} (hx:x∈fs) (hy:y∈fs) (e:x.key=y.key):x=y:=by
 induction fs with
 | nil=>cases hx
 | cons z r ih =>
  rw [List.map_cons,List.nodup_cons] at h
  rcases List.mem_cons.mp hx with rfl | hx
  ·rcases List.mem_cons.mp hy with rfl | hy
   ·rfl
   ·exact absurd (List.mem_map.mpr ⟨y,hy,e.symm⟩) h.1
  ·rcases List.mem_cons.mp hy with q | hy
   ·exact absurd (List.mem_map.mpr ⟨x,hx,by rw [← q];exact e⟩) h.1
   ·exact ih h.2 hx hy
theorem Dij.start (St:Nk α->List (Nk α × Int)) (C:Nk α->Nk α × Int->Prop) (u0:Nk α) (t:Nat):Dij St C u0 [⟨u0,0,none,t⟩] [] where
 nf:=by simp
 sub:=fun e h=>by cases h
 ns:=by simp
 st:=⟨⟨u0,0,none,t⟩,by simp,rfl,rfl⟩
 nn:=fun e h=>by rw [List.mem_singleton.mp h];exact Int.le_refl 0
 cl:=fun e h=>by cases h
 pa:=fun e h=>by rw [List.mem_singleton.mp h];exact .inl ⟨rfl,rfl,rfl⟩
 od:=fun e h=>by cases h
 rk:=fun pre e post h=>by
  have:=congrArg List.length h
  simp at this
theorem Dij.put {St:Nk α->List (Nk α × Int)}{C:Nk α->Nk α × Int->Prop}{u0:Nk α}{fs ss:List (Ent α)} (D:Dij St C u0 fs ss) {e:Ent α} (he:e∈ss) (hm:∀ x∈ss,x.d<=e.d) {q:Nk α × Int} (hq:q∈St e.key) (hc:0<=q.2)
  (hl:∀ x∈fs,x.key=q.1->e.d + q.2 < x.d) (t:Nat):Dij St (fun k p=>C k p ∨ (k=e.key/\p=q)) u0 (tP fs ⟨q.1,e.d + q.2,some e.key,t⟩) ss:=by
 have hns:∀ x∈ss,x.key≠q.1:=fun x hx hk=>by
  have h1:=hl x (D.sub x hx) hk
  have h2:=hm x hx
  omega
 have h0:=D.nn e (D.sub e he)
 refine ⟨tH D.nf,fun x hx=>eY.mpr (.inr ⟨D.sub x hx,hns x hx⟩),D.ns,?_,fun x hx=>?_,fun x hx p hp=>?_,fun x hx=>?_,fun x hx y hy hyn=>?_,D.rk⟩
 ·obtain ⟨x,hx,hk,hd⟩:=D.st
  refine ⟨x,eY.mpr (.inr ⟨hx,fun z=>?_⟩),hk,hd⟩
  have:=hl x hx z
  omega
 ·rcases eY.mp hx with rfl | ⟨h,_⟩
  ·show 0<=e.d + q.2;omega
  ·exact D.nn x h
 ·rcases hp with hp | ⟨h1,rfl⟩
  ·obtain ⟨y,hy,hyk,hyd⟩:=D.cl x hx p hp
   by_cases z:y.key=q.1
   ·refine ⟨_,eY.mpr (.inl rfl),?_,?_⟩
    ·show q.1=p.1;rw [← z,hyk]
    ·show e.d + q.2<=_
     have:=hl y hy z
     omega
   ·exact ⟨y,eY.mpr (.inr ⟨hy,z⟩),hyk,hyd⟩
  ·have:x=e:=Aq D.nf (D.sub x hx) (D.sub e he) h1
   subst this
   exact ⟨_,eY.mpr (.inl rfl),rfl,Int.le_refl _⟩
 ·rcases eY.mp hx with rfl | ⟨h,_⟩
  ·exact .inr ⟨e,he,q.2,rfl,hq,rfl⟩
  ·exact D.pa x h
 ·rcases eY.mp hy with rfl | ⟨h,_⟩
  ·have:=hm x hx
   show x.d<=e.d + q.2;omega
  ·exact D.od x hx y h hyn
theorem Dij.imp {St:Nk α->List (Nk α × Int)}{C C':Nk α->Nk α × Int->Prop}{u0:Nk α}{fs ss:List (Ent α)} (D:Dij St C u0 fs ss) (h:∀ k p,C' k p->C k p):Dij St C' u0 fs ss :=
 ⟨D.nf,D.sub,D.ns,D.st,D.nn,fun x hx p hp=>D.cl x hx p (h _ _ hp),D.pa,D.od,D.rk⟩
inductive Wk (St:Nk α->List (Nk α × Int)) (u:Nk α):Nk α->Int->Prop
 | nil:Wk St u u 0
 | snoc {v x:Nk α}{w c:Int}:Wk St u v w->(x,c)∈St v->Wk St u x (w + c)
theorem Wk.mono {St St':Nk α->List (Nk α × Int)}{u v:Nk α}{w:Int} (h:∀ k p,p∈St k->p∈St' k) (x:Wk St u v w):Wk St' u v w:=by
 induction x with
 | nil=>exact .nil
 | snoc _ m ih=>exact ih.snoc (h _ _ m)
theorem Wk.cons {St:Nk α->List (Nk α × Int)}{u v y:Nk α}{w c:Int} (m:(v,c)∈St u) (x:Wk St v y w):Wk St u y (c + w):=by
 induction x with
 | nil =>
  have:=Wk.snoc (Wk.nil (St:=St) (u:=u)) m
  rw [Int.zero_add] at this
  rw [Int.add_zero];exact this
 | snoc _ m2 ih =>
  have:=ih.snoc m2
  rw [Int.add_assoc] at this;exact this
theorem Wk.symm {St:Nk α->List (Nk α × Int)}{u v:Nk α}{w:Int} (h:∀ k x c,(x,c)∈St k->(k,c)∈St x) (x:Wk St u v w):Wk St v u w:=by
 induction x with
 | nil=>exact .nil
 | snoc _ m ih=>rw [Int.add_comm];exact Wk.cons (h _ _ _ m) ih
structure Ew (St:Nk α->List (Nk α × Int)) (u0:Nk α) (ss:List (Ent α)):Prop where
 ns:(ss.map Ent.key).Nodup
 le:∀ v w,Wk St u0 v w->∃ e∈ss,e.key=v/\e.d<=w
 wk:∀ e∈ss,Wk St u0 e.key e.d
 rk:∀ pre e post,ss=pre++e::post->(e.par=none/\e.key=u0/\e.d=0) ∨ ∃ u∈pre,∃ c,e.par=some u.key/\(e.key,c)∈St u.key/\e.d=u.d + c
theorem zS {St:Nk α->List (Nk α × Int)}{u0:Nk α}:∀ (n:Nat) (ss:List (Ent α)),ss.length=n →
  (∀ pre e post,ss=pre++e::post->(e.par=none/\e.key=u0/\e.d=0) ∨ ∃ u∈pre,∃ c,e.par=some u.key/\(e.key,c)∈St u.key/\e.d=u.d + c)->∀ e∈ss,Wk St u0 e.key e.d
 | 0,ss,hl,_,e,he=>by rw [List.length_eq_zero_iff.mp hl] at he;cases he
 | n + 1,ss,hl,h,e,he=>by
  obtain ⟨pre,post,q⟩:=List.append_of_mem he
  rcases h pre e post q with ⟨_,hk,hd⟩ | ⟨u,hu,c,_,hm,hd⟩
  ·rw [hk,hd];exact .nil
  ·have lp:pre.length<=n:=by
    have:=congrArg List.length q
    simp at this
    omega
   have ih:∀ e∈pre,Wk St u0 e.key e.d:=wk_pre_le pre.length n lp pre rfl fun p1 e1 p2 q1=>h p1 e1 (p2++e::post) (by rw [q,q1];simp)
   rw [hd]
   exact (ih u hu).snoc hm
where
 wk_pre_le (m n:Nat) (hmn:m<=n) (ss:List (Ent α)) (hl:ss.length=m) (h:∀ pre e post,ss=pre++e::post->(e.par=none/\e.key=u0/\e.d=0) ∨ ∃ u∈pre,∃ c,e.par=some u.key/\(e.key,c)∈St u.key/\e.d=u.d + c):∀ e∈ss,Wk St u0 e.key e.d :=
  zS m ss hl h
theorem Dij.done {St:Nk α->List (Nk α × Int)}{u0:Nk α}{fs ss:List (Ent α)} (D:Dij St (fun k p=>p∈St k) u0 fs ss) (h:∀ e∈fs,e∈ss):Ew St u0 ss:=by
 refine ⟨D.ns,fun v w x=>?_,fun e he=>zS ss.length ss rfl D.rk e he,D.rk⟩
 induction x with
 | nil =>
  obtain ⟨e,he,hk,hd⟩:=D.st
  exact ⟨e,h e he,hk,by omega⟩
 | @snoc v x w c _ m ih =>
  obtain ⟨e,he,hk,hd⟩:=ih
  obtain ⟨e',he',hk',hd'⟩:=D.cl e he (x,c) (by rw [hk];exact m)
  exact ⟨e',h e' he',hk',by have:(x,c).2=c:=rfl;omega⟩
structure Ln (α:Type) where
 a:α
 b:α
 p:Option Int
 c:Option Int
def Ln.cost (l:Ln α) (f:Bool):Option Int:=if f then l.c else l.p
def Up (x:Option Int) (w:Int):Prop:=∃ a,x=some a/\a<=w
theorem Up.mono {x:Option Int}{w w':Int} (h:Up x w) (l:w<=w'):Up x w':=by obtain ⟨a,e,q⟩:=h;exact ⟨a,e,by omega⟩
section
variable {zs bs:List α}{ls:List (Ln α)}{p g:Int}
end
end
end L2

namespace L2
open PySem PySem.Spec PyProof.Rows
abbrev da (q:Str):HO:=.tbl #[.str q 0]
section
variable {X:Cx}{pins:List (Addr × Obj)}{σ:St}{H:Hp}{s:Shared}
theorem tab_of {P:Addr}{q:Str} (I:Inv X pins σ H s) (e:H P=some (da q)):∃ qs:Array Value,s.heap.get? P=some { cls:=.none,data:=.fields qs }/\TriplesOk qs.toList ∧
  ∀ pos c,codeAmong pos qs.toList=some c->∃ c' oc vs t,c=.ref c'/\H c'=some (.frz oc (.own P))/\s.heap.get? c'=some oc/\oc.data=.fields vs/\vs[1]?=some (.str q t):=by
 obtain ⟨qs,h1,h2,h3⟩:=(show aX X.prog X.w H s.heap P (da q) from I.hok P _ e)
 refine ⟨qs,h1,h2,fun pos c z=>?_⟩
 obtain ⟨c',oc,vs,t,q',a1,a2,a4,a5,a6⟩:=h3 pos c z
 have a7:q=q':=by
  have:=congrArg Array.toList a6
  simp at this
  exact this
 subst a7
 exact ⟨c',oc,vs,t,a1,a2,(I.hok c' _ a2).1,a4,a5⟩
theorem Inv.tabled {P c':Addr}{q:Str}{h':Heap}{ps more:Array Value}{tk:Nat}{oc:Obj}{vs:Array Value}{tq:Tok} (I:Inv X pins σ H s) (e:H P=some (da q)) (hx:∀ b o,b≠P->s.heap.get? b=some o->h'.get? b=some o) (hc:s.heap.objs.size<=c')
  (h1:h'.get? P=some { cls:=.none,data:=.fields more }) (h2:TriplesOk more.toList) (h3:∀ pos c,codeAmong pos more.toList=some c->codeAmong pos ps.toList=some c ∨ c=.ref c') (h0:s.heap.get? P=some { cls:=.none,data:=.fields ps })
  (c1:h'.get? c'=some oc) (c2:oc.data=.fields vs) (c3:vs[1]?=some (.str q tq)):Inv X pins σ (upd H c' (.frz oc (.own P))) { s with heap:=h',toks:=tk }:=by
 have hn:=I.hok.fresh hc
 have nP:∀ b,H b=none->b≠P:=fun b hb z=>by rw [z,e] at hb;cases hb
 have lt:∀ b o,s.heap.get? b=some o->b≠c':=fun b o z=>Nat.ne_of_lt (Nat.lt_of_lt_of_le (Heap.lt_size z) hc)
 obtain ⟨qs,g1,g2,g3⟩:=tab_of I e
 have eq:qs=ps:=by
  rw [h0] at g1
  have:=Option.some.inj g1
  injection this with _ _ z
  injection z with z
  exact z.symm
 subst eq
 refine I.un ⟨fun b o z n _ _=>hx b o (nP b n) z,fun b o z n _ _=>⟨o.slots,hx b o (nP b n) z⟩,fun b o z n _=>by rw [av (lt b o z)];exact n,fun b o z _=>?_,fun b xs z=>by rw [av (aO z hn)];exact z,fun b u xs z=>by rw [av (aO z hn)];exact z,
  fun b xs z=>⟨#[],by rw [av (aO z hn),z];simp⟩⟩ fun b u z=>?_
 ·by_cases hb:b=P
  ·rw [hb];exact ⟨_,h1⟩
  ·exact ⟨o,hx b o hb z⟩
 ·by_cases hb:b=c'
  ·subst hb
   rw [ay] at z;cases z
   exact ⟨c1,_,c1⟩
  ·rw [av hb] at z
   by_cases hp:b=P
   ·subst hp
    rw [e] at z;cases z
    refine ⟨more,h1,h2,fun pos c w=>?_⟩
    rcases h3 pos c w with w | rfl
    ·obtain ⟨c2',oc2,vs2,t2,a1,a2,a3,a4,a5⟩:=g3 pos c w
     exact ⟨c2',oc2,vs2,t2,q,a1,by rw [av (aO a2 hn)];exact a2,a4,a5,rfl⟩
    ·exact ⟨c',oc,vs,tq,q,rfl,ay,c2,c3,rfl⟩
   ·refine (I.hok b u z).iP (fun c v hc2 w=>hx c v ?_ w) (fun c w=>by rw [av (aO w hn)];exact w) fun c xs w=>by rw [av (aO w hn)];exact w
    rcases hc2 with rfl | w2
    ·exact hp
    ·exact kM w2 e (by intro z;cases z)
end
theorem sL {pos p2:Pos}{c:Value}:∀ (l:List Value),TriplesOk l->∀ x,codeAmong pos (l++[rawInt p2.line,rawInt p2.col,c])=some x->codeAmong pos l=some x ∨ x=c:=by
 intro l h
 fun_induction TriplesOk l with
 | case1 =>
  intro x e
  simp only [List.nil_append,codeAmong,rawInt] at e
  split at e
  ·exact .inr (Option.some.inj e).symm
  ·cases e
 | case2 a t b u y rest ih =>
  intro x e
  simp only [List.cons_append,codeAmong] at e ⊢
  split at e
  ·rename_i hc
   rw [if_pos hc];exact .inl e
  ·rename_i hc
   rw [if_neg hc];exact ih h x e
 | case3=>exact h.elim
section
variable {X:Cx}{pins:List (Addr × Obj)}{σ:St}{H:Hp}{s:Shared}{a:Addr}{y v:V}{u:Value}{A:Around}{E:Value->Shared->Prop}
end
section
variable {X:Cx}{pins:List (Addr × Obj)}{σ:St}{H:Hp}{s:Shared}
def iQ (H:Hp) (P:Addr) (q:Str) (c':Addr):Prop:=∃ oc vs t,H c'=some (.frz oc (.own P))/\oc.data=.fields vs/\vs[1]?=some (.str q t)
theorem iQ.same {H H':Hp}{P c':Addr}{q:Str} (h:iQ H P q c') (s:ao H H'):iQ H' P q c':=by
 obtain ⟨oc,vs,t,h1,h2⟩:=h
 exact ⟨oc,vs,t,s _ _ h1,h2⟩
theorem iQ.rec {P c':Addr}{q:Str} (I:Inv X pins σ H s) (h:iQ H P q c'):s.heap.CodeRec (.ref c') q:=by
 obtain ⟨oc,vs,t,h1,h2,h3⟩:=h
 exact ⟨c',oc,vs,t,rfl,(I.hok c' _ h1).1,h2,h3⟩
end
section
variable {prog:Program}{w:World}{A:Around}{E:Value->Shared->Prop}{s:Shared}{d it:Addr}{D J:Obj}{es:Array DictEntry}{ep i:Nat}
end
section
variable {X:Cx}{pins:List (Addr × Obj)}{σ:St}{H:Hp}{A:Around}{s0:Shared}{l q I S:Addr}{vs:List Value}{R:Result->Shared->Prop}
end
theorem ie.same {H H':Hp}{a:Addr}{y:V}{o:Option V} (s:ao H H') (g:ie H a y o):ie H' a y o:=by
 rcases g with ⟨kvs,k,e,h⟩ | ⟨kvs,k,b,e,h1,h2,h3⟩
 ·exact .inl ⟨kvs,k,e.elim (fun z=>.inl (s _ _ z)) fun ⟨o,z⟩=>.inr ⟨o,s _ _ z⟩,h⟩
 ·exact .inr ⟨kvs,k,b,e.elim (fun z=>.inl (s _ _ z)) fun ⟨o,z⟩=>.inr ⟨o,s _ _ z⟩,h1,s _ _ h2,h3⟩
section
variable {X:Cx}
end
def vO:TE:=fun _ H Q=>nw H (.dT []) Q
theorem qC {σ:St}{H:Hp}{Q:VK}:vO σ H Q=nw H (.dT []) Q:=propext Iff.rfl
theorem xj {X:Cx}{pos:Pos}:PE X (.Dict [] [] pos) vO:=fun pins s σ H Q I h=>zc pins s σ H Q I (nw.go h)
theorem u5 {td ty tv:TE}{D:Ends}{σ:St}{H:Hp}:z5 td ty tv D σ H=tv σ H fun v H1=>td σ H1 fun x H2=>ty σ H2 fun y H3=>∃ a H4,x=.ref a/\sy H3 a y v H4/\D.nx σ H4:=propext Iff.rfl
theorem rT {X:Cx}{o i value:Expr}{pos pos':Pos}{td ty tv:TE} (hu:X.A.units + 1 < cLine) (ho:PE X o td) (hi:PE X i ty) (hv:PE X value tv) (hs:swapsWith value (some (.Subscript o i pos')) pos.line X.env=pure false:=by kernel_rfl) :
  PS X (.Assign [.Subscript o i pos'] value pos) (z5 td ty tv):=AJ hu ho hi hv hs
def BE (K:PySem.W.Frag):V->Option Int->Option Int->Hp->VK->Prop:=fun x lo hi H Q=>match x with
 | .ref a=>∃ xs,SqT K H a xs/\¬ (HT.sIx xs.length 0 lo=0/\HT.sIx xs.length xs.length hi=xs.length)/\nw H (.tup (gq xs lo hi)) Q
 | _=>False
theorem qY {K:PySem.W.Frag}{a:Addr}{lo hi:Option Int}{H:Hp}{Q:VK}:BE K (.ref a) lo hi H Q=(∃ xs,SqT K H a xs/\¬ (HT.sIx xs.length 0 lo=0/\HT.sIx xs.length xs.length hi=xs.length)/\nw H (.tup (gq xs lo hi)) Q):=propext Iff.rfl
theorem DY {X:Cx}{K:PySem.W.Frag} (hK:X.K=K):SlR X (BE K):=by
 subst hK
 intro pins s σ H x v vl vu lo hi sl Q I rx hs pl pu h
 cases x with
 | ref a =>
  obtain ⟨xs,h1,h2,h3⟩:=h
  exact Dp pins s σ H _ v vl vu lo hi sl Q I rx hs pl pu ⟨a,xs,rfl,h1,h2,h3.go⟩
 | _=>exact False.elim h
theorem j3:∀ {ns:List Int}{us:List Value},Vals (ns.map V.int) us->IntsAre us ns
 | [],_,r=>by rw [List.map_nil] at r;cases r;exact .nil
 | n::ns,_,r=>by
  rw [List.map_cons] at r
  cases r with
  | cons r1 r2=>obtain ⟨t,rfl⟩:=r1;exact .cons n t (j3 r2)
theorem eh {α β:Type}{F:α->β->Prop}:∀ {l₁:List α}{l₂:List β},Paired F l₁ l₂->∀ {i:Nat}{x:α},l₁[i]?=some x->∃ y,l₂[i]?=some y/\F x y
 | _,_,.nil,i,x,e=>by simp at e
 | _,_,.cons r t,0,x,e=>by simp at e;subst e;exact ⟨_,rfl,r⟩
 | _,_,.cons r t,i + 1,x,e=>eh t (by simpa using e)
section
variable {P:Program}{w:World}{K:PySem.W.Frag}{mg:Str->Option Value}{base:Heap}
theorem Fun.okT {x qual:Str}{st:Stmt}{f c:Addr}{fd:FuncData}{N ps:List Str}{k:Nat}{sp:Sp} (F:Fun K x qual st f fd) (hc:fd.code=.ref c) (S:aD N ps (ag st)) (len:∀ vs H Q E,sp vs H Q E->vs.length=ps.length)
  (hbody:∀ (A:Around) (outer:List Env) (s:Shared) (H:Hp) (vs:List V) (Q:VK) (E:XK),bq k (A.deeper (envOfC qual (ag st) s.heap.objs.size f (.ref c)))->sp vs H Q E →
   ∃ t,PSs (iq (CX1 P w) P w K mg base N qual (ag st) f (.ref c) A outer s H E) (az st) t/\t { nx:=fun _ H'=>Q .non H',rt:=Q } (start N vs) H):aW P w K mg base (CX1 P w) (k + 1) f fd ps sp:=by
 obtain ⟨oc,od,kV,doc,pm,an,cdv,ct,osl,rfl,lk,hcd⟩:=F.ex
 have e:cdv=.ref c:=hc
 subst e
 exact rg lk hcd S len fun A outer s H vs Q E hr hsp=>hbody A outer s H vs Q E hr hsp
end
end L2

namespace L2
open PySem PySem.Spec PyProof.Rows
section
variable {prog:Program}{w:World}{A:Around}{E:Value->Shared->Prop}{s:Shared}
end
section
variable {prog:Program}{w:World}{A:Around}{E:Value->Shared->Prop}{s:Shared}
end
section
variable {α:Type}
theorem DA {p:List α->Prop} (h:p []) (us:List α) (e:us.length=0):p us:=by
 cases us with
 | nil=>exact h
 | cons _ _=>cases e
theorem bind1 {p:List α->Prop} (h:∀ a,p [a]) (us:List α) (e:us.length=1):p us:=by
 cases us with
 | nil=>cases e
 | cons a r=>exact DA (p:=fun r=>p (a::r)) (h a) r (Nat.succ.inj e)
theorem bQ {p:List α->Prop} (h:∀ a b,p [a,b]) (us:List α) (e:us.length=2):p us:=by
 cases us with
 | nil=>cases e
 | cons a r=>exact bind1 (p:=fun r=>p (a::r)) (h a) r (Nat.succ.inj e)
theorem uO {p:List α->Prop} (h:∀ a b c,p [a,b,c]) (us:List α) (e:us.length=3):p us:=by
 cases us with
 | nil=>cases e
 | cons a r=>exact bQ (p:=fun r=>p (a::r)) (h a) r (Nat.succ.inj e)
theorem Br {p:List α->Prop} (h:∀ a b c d,p [a,b,c,d]) (us:List α) (e:us.length=4):p us:=by
 cases us with
 | nil=>cases e
 | cons a r=>exact uO (p:=fun r=>p (a::r)) (h a) r (Nat.succ.inj e)
end
end L2

namespace L2
open PySem PySem.Spec PyProof.Rows
end L2

namespace L2
open PySem PySem.Spec PyProof.Rows
theorem bq.hu9 {k:Nat}{A:Around} (r:bq k A):A.units + 9 < cLine:=by have:=r.un;omega
theorem cJ.hu9 {k:Nat}{A:Around} (r:cJ k A):A.units + 9 < cLine:=by have:=r.un;omega
inductive EqR (K:PySem.W.Frag) (H:Hp):Nat->V->V->Bool->Prop
 | same {n:Nat}{x:V} (h:yI x=true):EqR K H n x x true
 | flat {n:Nat}{x y:V} (h1:cu x=true) (h2:cu y=true):EqR K H n x y (eqV x y)
 | lst {n:Nat}{p q:Addr}{xs ys:List V} (e:Nat->Bool) (hne:p≠q) (h1:SqL K H p xs) (h2:SqL K H q ys) (hl:xs.length=ys.length) (h:∀ (i:Nat) x y,xs[i]?=some x->ys[i]?=some y->EqR K H n x y (e i)):EqR K H (n + 1) (.ref p) (.ref q) ((List.range xs.length).all e)
 | tup {n:Nat}{p q:Addr}{xs ys:List V} (e:Nat->Bool) (hne:p≠q) (h1:SqT K H p xs) (h2:SqT K H q ys) (h:∀ (i:Nat) x y,xs[i]?=some x->ys[i]?=some y->EqR K H n x y (e i)):EqR K H (n + 1) (.ref p) (.ref q) ((List.range (min xs.length ys.length)).all e && xs.length == ys.length)
theorem EqR.at {X:Cx}{pins:List (Addr × Obj)}{s:Shared}{σ:St}{H:Hp} (I:Inv X pins σ H s) {n:Nat}{x y:V}{b:Bool} (h:EqR X.K H n x y b):∀ {A:Around}{u v:Value},A.units + n < cLine->RelV x u->RelV y v->SeqAt.EqAt A s u v b:=by
 induction h with
 | same h=>intro A u v _ ru rv;exact wC ru rv h
 | flat h1 h2=>intro A u v _ ru rv;exact iZ ru rv h1 h2
 | @lst n p q xs ys e hne h1 h2 hl _ ih =>
  intro A u v hu ru rv
  cases ru;cases rv
  obtain ⟨us,r1,p1,_⟩:=I.list h1
  obtain ⟨vs,r2,p2,_⟩:=I.list h2
  have l1:=r1.length
  have l2:=r2.length
  have:=SeqAt.RcAt.lists (A:=A) (s:=s) (e:=e) p1.isList p2.isList (by simp only [List.size_toArray];omega) (by omega) fun j j1 j2=>by
   obtain ⟨x,ex,rx⟩:=cQ r1 j1
   obtain ⟨y,ey,ry⟩:=cQ r2 j2
   exact ih j x y ex ey (show A.units + 1 + n < cLine by omega) rx ry
  rw [List.size_toArray,← l1] at this
  exact SeqAt.EqAt.of_refs hne this
 | @tup n p q xs ys e hne h1 h2 _ ih =>
  intro A u v hu ru rv
  cases ru;cases rv
  obtain ⟨us,r1,p1,_⟩:=I.tuple h1
  obtain ⟨vs,r2,p2,_⟩:=I.tuple h2
  have l1:=r1.length
  have l2:=r2.length
  have:=SeqAt.RcAt.tuples (A:=A) (s:=s) (e:=e) p1 p2 (by omega) fun j j1 j2=>by
   obtain ⟨x,ex,rx⟩:=cQ r1 j1
   obtain ⟨y,ey,ry⟩:=cQ r2 j2
   exact ih j x y ex ey (show A.units + 1 + n < cLine by omega) rx ry
  rw [List.size_toArray,List.size_toArray,← l1,← l2] at this
  exact SeqAt.EqAt.of_refs hne this
def RcR (K:PySem.W.Frag) (H:Hp) (n:Nat) (x y:V) (b:Bool):Prop:=∃ p q,x=.ref p/\y=.ref q ∧
 ((∃ xs ys,SqL K H p xs/\SqL K H q ys/\((xs.length≠ys.length/\b=false) ∨ (xs.length=ys.length/\∃ e:Nat->Bool,(∀ (i:Nat) x y,xs[i]?=some x->ys[i]?=some y->EqR K H n x y (e i))/\b=(List.range xs.length).all e))) ∨
  ∃ xs ys,SqT K H p xs/\SqT K H q ys/\∃ e:Nat->Bool,(∀ (i:Nat) x y,xs[i]?=some x->ys[i]?=some y->EqR K H n x y (e i))/\b=((List.range (min xs.length ys.length)).all e && xs.length == ys.length))
def DV (K:PySem.W.Frag):R2:=fun x y H Q=>∃ n b,n<=6/\RcR K H n x y b/\Q (.bl (!b)) H
theorem vg {K:PySem.W.Frag}{x y:V}{H:Hp}{Q:VK}:DV K x y H Q=(∃ n b,n<=6/\RcR K H n x y b/\Q (.bl (!b)) H):=propext Iff.rfl
section
variable {X:Cx}
theorem CT {K:PySem.W.Frag} (hK:X.K=K) (hu:X.A.units + 9 < cLine):OpR X (compareOp .NotEq) (DV K):=by
 subst hK
 intro pins s σ H x y v u Q I rx ry h
 obtain ⟨n,b,hn,⟨p,q,rfl,rfl,h⟩,k⟩:=h
 cases rx;cases ry
 rcases h with ⟨xs,ys,h1,h2,h⟩ | ⟨xs,ys,h1,h2,e,h,rfl⟩
 ·obtain ⟨us,r1,p1,_⟩:=I.list h1
  obtain ⟨vs,r2,p2,_⟩:=I.list h2
  have l1:=r1.length
  have l2:=r2.length
  rcases h with ⟨hl,rfl⟩ | ⟨hl,e,h,rfl⟩
  ·exact SeqAt.RcNeAt.lists_lengths p1.isList p2.isList (by simp only [List.size_toArray];simpa using (by omega:us.length≠vs.length)) (by omega) _ _ _ _ ⟨.bl _,H,I,rfl,k⟩
  ·refine SeqAt.RcNeAt.lists (e:=e) p1.isList p2.isList (by simp only [List.size_toArray];omega) (by omega) (fun j j1 j2=>?_) _ _ _ _ ⟨.bl _,H,I,rfl,?_⟩
   ·obtain ⟨x,ex,rx⟩:=cQ r1 j1
    obtain ⟨y,ey,ry⟩:=cQ r2 j2
    exact (h j x y ex ey).at I (show X.A.units + 1 + n < cLine by omega) rx ry
   ·rw [List.size_toArray,← l1];exact k
 ·obtain ⟨us,r1,p1,_⟩:=I.tuple h1
  obtain ⟨vs,r2,p2,_⟩:=I.tuple h2
  have l1:=r1.length
  have l2:=r2.length
  refine SeqAt.RcNeAt.tuples (e:=e) p1 p2 (by omega) (fun j j1 j2=>?_) _ _ _ _ ⟨.bl _,H,I,rfl,?_⟩
  ·obtain ⟨x,ex,rx⟩:=cQ r1 j1
   obtain ⟨y,ey,ry⟩:=cQ r2 j2
   exact (h j x y ex ey).at I (show X.A.units + 1 + n < cLine by omega) rx ry
  ·rw [List.size_toArray,List.size_toArray,← l1,← l2];exact k
end
def zx (e:V->Bool):Value->Bool
 | .ref a=>e (.ref a)
 | _=>false
theorem zQ {xs:List V}{us:List Value} (r:Vals xs us) (e:V->Bool) (h:∀ v∈xs,∃ a,v=.ref a):us.any (zx e)=xs.any e/\us.countP (zx e)=xs.countP e:=by
 induction r with
 | nil=>exact ⟨rfl,rfl⟩
 | @cons x u xs us r1 r2 ih =>
  obtain ⟨a,rfl⟩:=h x List.mem_cons_self
  cases r1
  have:=ih fun v hv=>h v (List.mem_cons_of_mem _ hv)
  rw [List.any_cons,List.any_cons,List.countP_cons,List.countP_cons,this.1,this.2]
  exact ⟨rfl,rfl⟩
def InR (K:PySem.W.Frag) (H:Hp) (x:V) (p:Addr) (xs:List V) (e:V->Bool):Prop:=∃ n,n<=6/\SqL K H p xs/\(∀ v∈xs,∃ a,v=.ref a)/\∀ v∈xs,EqR K H n v x (e v)
section
variable {X:Cx}
theorem InR.each {pins:List (Addr × Obj)}{s:Shared}{σ:St}{H:Hp} (I:Inv X pins σ H s) (hu:X.A.units + 9 < cLine) {x:V}{p:Addr}{xs:List V}{e:V->Bool} (h:InR X.K H x p xs e) {u:Value} (ru:RelV x u) :
  ∃ its,Vals xs its/\s.heap.IsList p its.toArray/\(∀ y,y∈its.toArray->SeqAt.EqAt X.A.in1 s y u (zx e y))/\its.any (zx e)=xs.any e/\its.countP (zx e)=xs.countP e:=by
 obtain ⟨n,hn,h1,h2,h3⟩:=h
 obtain ⟨its,r,pl,_⟩:=I.list h1
 obtain ⟨a1,a2⟩:=zQ r e h2
 refine ⟨its,r,pl.isList,fun y hy=>?_,a1,a2⟩
 obtain ⟨j,hj,rfl⟩:=Array.getElem_of_mem hy
 obtain ⟨v,ev,rv⟩:=cQ r hj
 have hv:=List.mem_of_getElem? ev
 obtain ⟨a,rfl⟩:=h2 v hv
 have e1:=(h3 _ hv).at I (A:=X.A.in1) (show X.A.units + 1 + n < cLine by omega) rv ru
 rw [show its.toArray[j]=Value.ref a from rv] at e1 ⊢
 exact e1
end
end L2

namespace L2
open PySem PySem.Spec PyProof.Rows
section
variable {X:Cx}
end
section
variable {prog:Program}{w:World}{A:Around}{E:Value->Shared->Prop}{s:Shared}
end
section
variable {X:Cx}
end
end L2

namespace L2
open PySem PySem.Spec PyProof.Rows
structure vT (K:PySem.W.Frag) (x qual:Str) (st:Stmt) (f:Addr) (fd:FuncData):Prop where
 ex:∃ (oc:Value) (od:Option Addr) (dV kV doc pm:Value) (an:Option Addr) (cdv ct:Value) (osl:Array (Option Value)),
  fd=PySem.W.fnOf x qual (aG st) (az st) (ag st) dV kV doc pm an cdv ct/\K.lookup f=some ⟨oc,od,.func fd,osl⟩/\PySem.W.codeIn K cdv qual=true
 kp:PySem.W.keepIn K (.ref f)=true
section
variable {P:Program}{w:World}{K:PySem.W.Frag}{mg:Str->Option Value}{base:Heap}
theorem Ai {x qual:Str}{st:Stmt}{f:Addr}{oc:Value}{od an:Option Addr}{osl:Array (Option Value)}{dV kV doc pm cdv ct:Value} (l:K.lookup f=some ⟨oc,od,.func (PySem.W.fnOf x qual (aG st) (az st) (ag st) dV kV doc pm an cdv ct),osl⟩)
  (c:PySem.W.codeIn K cdv qual=true) (k:PySem.W.keepIn K (.ref f)=true):vT K x qual st f (PySem.W.fnOf x qual (aG st) (az st) (ag st) dV kV doc pm an cdv ct):=⟨⟨oc,od,dV,kV,doc,pm,an,cdv,ct,osl,rfl,l,c⟩,k⟩
theorem vT.okX {x qual:Str}{st:Stmt}{f:Addr}{fd:FuncData}{N ps:List Str}{k:Nat}{sp:Sp} (F:vT K x qual st f fd) (S:aD N ps (ag st)) (len:∀ vs H Q E,sp vs H Q E->vs.length=ps.length)
  (hbody:∀ (cdv:Value) (A:Around) (outer:List Env) (s:Shared) (H:Hp) (vs:List V) (Q:VK) (E:XK),bq k (A.deeper (envOfC qual (ag st) s.heap.objs.size f cdv))->sp vs H Q E →
   ∃ t,PSs (iq (CX1 P w) P w K mg base N qual (ag st) f cdv A outer s H E) (az st) t/\t { nx:=fun _ H'=>Q .non H',rt:=Q } (start N vs) H):aW P w K mg base (CX1 P w) (k + 1) f fd ps sp:=by
 obtain ⟨oc,od,dV,kV,doc,pm,an,cdv,ct,osl,rfl,lk,hcd⟩:=F.ex
 exact rg lk hcd S len fun A outer s H vs Q E hr hsp=>hbody cdv A outer s H vs Q E hr hsp
theorem vT.okT {x qual:Str}{st:Stmt}{f c:Addr}{fd:FuncData}{N ps:List Str}{k:Nat}{sp:Sp} (F:vT K x qual st f fd) (hc:fd.code=.ref c) (S:aD N ps (ag st)) (len:∀ vs H Q E,sp vs H Q E->vs.length=ps.length)
  (hbody:∀ (A:Around) (outer:List Env) (s:Shared) (H:Hp) (vs:List V) (Q:VK) (E:XK),bq k (A.deeper (envOfC qual (ag st) s.heap.objs.size f (.ref c)))->sp vs H Q E →
   ∃ t,PSs (iq (CX1 P w) P w K mg base N qual (ag st) f (.ref c) A outer s H E) (az st) t/\t { nx:=fun _ H'=>Q .non H',rt:=Q } (start N vs) H):aW P w K mg base (CX1 P w) (k + 1) f fd ps sp:=by
 obtain ⟨oc,od,dV,kV,doc,pm,an,cdv,ct,osl,rfl,lk,hcd⟩:=F.ex
 have e:cdv=.ref c:=hc
 subst e
 exact rg lk hcd S len fun A outer s H vs Q E hr hsp=>hbody A outer s H vs Q E hr hsp
end
structure Cd (P:Program) (w:World) (K:PySem.W.Frag) (mg:Str->Option Value) (base:Heap) (CX:CXT) (C:Addr) (m:Str) (k:Nat) (ps:List Str) (sp:Sp):Prop where
 ex:∃ (f:Addr) (fd:FuncData),aW P w K mg base CX k f fd ps sp/\Meth K C m f/\Binds K fd ps [.none]
 cl:Cls K C
def spD (sp:Sp):Sp:=fun vs H Q E=>sp (vs++[.non]) H Q E
theorem yi {sp:Sp}{vs:List V}{H:Hp}{Q:VK}{E:XK}:spD sp vs H Q E=sp (vs++[.non]) H Q E:=propext Iff.rfl
section
variable {X:Cx}{CX:CXT}{E:St->XK}
theorem ze {pl:Sem Bool}{C:Addr}{m:Str}{k:Nat}{ps:List Str}{sp:Sp}{o e:Expr}{es:List Expr}{ta:TE}{t:TA}{apos pos:Pos} (M:Cd X.prog X.w X.K X.mg X.base CX C m k ps sp) (hx:Passes CX X E) (hr:bq k X.A) (he:PE X o ta) (ha:PA X (e::es) t)
  (hs:bw (e::es)=true:=by kernel_rfl)
  (ht:eval (.Call (.Attribute o m apos) (e::es) [] pos) X.env=(do
   let ov ← eval o X.env
   standAt apos.atName
   let (f,first) ← holding [ov] (getMethod ov m pl)
   callWith pos f first (backTo pos (starEach (e::es) X.env)) (backToKw pos (keywordEach [] X.env))):=by rfl) :
  PE X (.Call (.Attribute o m apos) (e::es) [] pos) (nt C m (spD sp) E ta t):=by
 obtain ⟨f,fd,F,hm,hb⟩:=M.ex
 intro pins s σ H Q I h
 refine vB (ta:=up ta) (t:=t) he.up M.cl hm F hr hb (.cons (show RelV .non .none from rfl) .nil) hx ha (aA (aC hs).1) (bf (aC hs).2) ht pins s σ H Q I ⟨_,h,fun x H1 q=>?_⟩
 cases x with
 | ref a =>
  obtain ⟨dx,fs,h1,h2,h3⟩:=q
  exact ⟨a,dx,fs,rfl,h1,h2,h3⟩
 | _=>exact False.elim q
end
section
variable {X:Cx}{pins:List (Addr × Obj)}{σ:St}{H:Hp}{s:Shared}
abbrev m4 (q:Str) (params:Arguments) (body:Expr) (scope:Scope) (cl:List (Str × Addr)) (pm cd ctv:Value):Obj :=
 { cls:=.type "function",data:=.func (PySem.W.kla_fn "<lambda>" q params body scope cl pm cd ctv) }
theorem oC {A:Around}{E:Value->Shared->Prop}{Q:Value->Shared->Prop}{P c:Addr}{q:Str}{params:Arguments}{body:Expr}{scope:Scope}{lpos:Pos}{cl:List (Str × Addr)} (I:Inv X pins σ H s) (e:H P=some (da q))
  (hcd:X.env.code=.ref c) (hC:PySem.W.codeHdIn X.K c P=true) (hq:X.env.qual++"<lambda>"=q) (hd:defaultsOf params X.env=([],[])) (hcl:clo X.env.cells scope.names []=some cl)
  (k:∀ f c' ctv H' s',Inv X pins σ H' s'->ao H H'->H f=none->H' f=some (.frz (m4 q params body scope cl ((X.mg "__name__").getD .none) (.ref c') ctv) (.own P))->iQ H' P q c'->Q (.ref f) s') :
  wpAny (model X.prog X.w) A (eval (.Lambda params body scope lpos) X.env) Q E s:=by
 refine PySem.W.kla_eval hd ?_
 rw [hq]
 have C:=PySem.W.codeHd_of_K I.kIn hC
 obtain ⟨qs,g1,g2,g3⟩:=tab_of I e
 have hg:=I.mod.glob.keeps I.bk
 obtain ⟨bm,ob,b1,b2,b3,b4,b5,b6⟩:=I.mod.bmn
 have hgP:mainGlobals≠P:=fun z=>by
  obtain ⟨o,es,ep,w1,w2,_⟩:=I.mod.glob
  have:=(I.bs _ _ w1).2
  rw [z,e] at this;cases this
 have hbP:bm≠P:=fun z=>by
  have:=(I.bs _ _ b3).2
  rw [z,e] at this;cases this
 have hbG:bm≠mainGlobals:=fun z=>by
  obtain ⟨o,es,ep,w1,w2,_⟩:=I.mod.glob
  rw [z,w1] at b3;cases b3;rw [w2] at b6;cases b6
 have hb:s.heap.BuiltinsAt X.mg P:=⟨bm,ob,b1,b2,hbG,hbP,I.bk _ _ b3,b4,b5,b6⟩
 have hcl':=fM hcl
 cases hf:codeAmong lpos qs.toList with
 | none =>
  refine PySem.W.kla_makeFunction (mg:=X.mg) hcl' I.ok.glob hg hcd C g1 g2 hf hgP hb fun c' ctv h' tk hx hge hlt hrec htb=>?_
  obtain ⟨c2,oc,vs,t,z1,z2,z3,z4⟩:=id hrec
  cases z1
  have I1:Inv X pins σ (upd H c' (.frz oc (.own P))) { s with heap:=h',toks:=tk }:=I.tabled (ps:=qs) e (fun b o hb z=>hx b o hb z) hge htb (by simpa using TriplesOk_snoc _ _ _ _ g2) (fun pos x z=>sL qs.toList g2 x (by simpa using z)) g1 z2 z3 z4
  have hn:=I.hok.fresh hge
  have kp:∀ b o,h'.get? b=some o->(h'.push (PySem.W.kla_obj "<lambda>" q params body scope cl ((X.mg "__name__").getD .none) c' ctv)).get? b=some o:=fun b o z=>Heap.get?_push_of_some _ z
  have hf1:=I1.hok.fresh (Nat.le_refl h'.objs.size)
  have hfH:H h'.objs.size=none:=I.hok.fresh (Nat.le_of_lt (Nat.lt_of_le_of_lt hge hlt))
  refine k h'.objs.size c' ctv _ _ (I1.laid (a:=h'.objs.size) (o:=.frz (m4 q params body scope cl ((X.mg "__name__").getD .none) (.ref c') ctv) (.own P)) (t':=tk) kp (Nat.le_refl _) ⟨Heap.get?_push_size _ rfl,_,Heap.get?_push_size _ rfl⟩) ((cg hn).trans (cg hf1)) hfH ay ?_
  exact iQ.same ⟨oc,vs,t,ay,z3,z4⟩ (cg hf1)
 | some cv =>
  obtain ⟨c',oc,vs,t,a1,a2,a3,a4,a5⟩:=g3 lpos cv hf
  subst a1
  refine PySem.W.kla_makeFunctionHit (mg:=X.mg) hcl' I.ok.glob hg hcd C g1 g2 hf hb fun ctv h' tk hx hsz=>?_
  have kp:∀ b o,s.heap.get? b=some o->(h'.push { cls:=.type "function",data:=.func (PySem.W.kla_fn "<lambda>" q params body scope cl ((X.mg "__name__").getD .none) (.ref c') ctv) }).get? b=some o:=fun b o z=>Heap.get?_push_of_some _ (hx b o z)
  have hf1:=I.hok.fresh hsz
  refine k h'.objs.size c' ctv _ _ (I.laid (a:=h'.objs.size) (o:=.frz (m4 q params body scope cl ((X.mg "__name__").getD .none) (.ref c') ctv) (.own P)) (t':=tk) kp hsz ⟨Heap.get?_push_size _ rfl,_,Heap.get?_push_size _ rfl⟩) (cg hf1) hf1 ay ?_
  exact iQ.same ⟨oc,vs,t,a2,a4,a5⟩ (cg hf1)
def jW (q:Str) (Pt:Addr) (H:Hp) (f:Addr):Prop:=∃ (pm ctv:Value) (c':Addr) (params:Arguments) (scope:Scope) (x:Str) (j:Nat) (p:Pos),
 H f=some (.frz (m4 q params (.Constant (.bool false) j p) scope [] pm (.ref c') ctv) (.own Pt))/\iQ H Pt q c' ∧
 (∀ u:Value,bindArgs (PySem.W.kla_fn "<lambda>" q params (.Constant (.bool false) j p) scope [] pm (.ref c') ctv) ⟨[u],[]⟩=pure [(x,u)]) ∧
 scope.isCoroutine=false/\scope.isGenerator=false/\scope.kind=.function/\(∀ y∈scope.names,y.2≠.cell)/\scope.names.lookup x=some .local
theorem jW.same {q:Str}{Pt f:Addr}{H H':Hp} (h:jW q Pt H f) (s:ao H H'):jW q Pt H' f:=by
 obtain ⟨pm,ctv,c',params,scope,x,j,p,h1,h2,h3⟩:=h
 exact ⟨pm,ctv,c',params,scope,x,j,p,s _ _ h1,h2.same s,h3⟩
theorem xT {A:Around}{R:Value->Shared->Prop}{E:Value->Shared->Prop}{q:Str}{Pt f:Addr}{u:Value} (I:Inv X pins σ H s) (hr:A.depth < recursionLimit) (B:jW q Pt H f) (k:∀ s',Inv X pins σ H s'->R (.bool false) s') :
  wpAny (model X.prog X.w) A (call (.ref f) [u]) R E s:=by
 obtain ⟨pm,ctv,c',params,scope,x,j,p,hf,hc,hbind,hco,hgen,hk,hcell,hx⟩:=B
 have hf':=(I.hok f _ hf).1
 refine wpAny_call (PySem.W.kla_callFunE hr hf' rfl hco hgen rfl (hc.rec I) ?_)
 rw [hbind]
 refine wpAny_pure (wpAny_newFunctionEnv hcell (fun y hy=>by rw [List.mem_singleton.mp hy];exact hx) (fun h₁ hns hsb=>⟨(I.nolimit).fresh _ hsb,?_⟩) hk)
 show codeAny _ _ (.expr _ (PySem.W.envX q scope s.heap.objs.size f (.ref c') [])) _ _
 have k1:∀ b o,s.heap.get? b=some o->h₁.get? b=some o:=fun b o z=>hsb.extBut b o (Nat.ne_of_lt (Heap.lt_size z)) (Heap.get?_push_of_some _ z)
 have I1:Inv X pins σ H { s with heap:=h₁,toks:=s.toks + 1 }:=I.kept (t':=s.toks + 1) k1
 refine PySem.W.kla_codeExpr ?_
 exact Constant_bool (k _ I1)
end
def BQ (q:Str) (Pt:Addr):TE:=fun _ H Q=>H Pt=some (da q)/\∀ f H',H f=none->ao H H'->jW q Pt H' f->Q (.ref f) H'
theorem uC {q:Str}{Pt:Addr}{σ:St}{H:Hp}{Q:VK}:BQ q Pt σ H Q=(H Pt=some (da q)/\∀ f H',H f=none->ao H H'->jW q Pt H' f->Q (.ref f) H'):=propext Iff.rfl
def zB (q:Str) (Pt:Addr) (tv:TE) (t:TA):TE:=fun σ H Q=>tv σ H fun x H1=>∃ f,x=.ref f/\jW q Pt H1 f/\t σ H1 fun vs H2=>jW q Pt H2 f/\vs.length=1/\Q (.bl false) H2
theorem q0 {q:Str}{Pt:Addr}{tv:TE}{t:TA}{σ:St}{H:Hp}{Q:VK}:zB q Pt tv t σ H Q=tv σ H fun x H1=>∃ f,x=.ref f/\jW q Pt H1 f/\t σ H1 fun vs H2=>jW q Pt H2 f/\vs.length=1/\Q (.bl false) H2:=propext Iff.rfl
section
variable {X:Cx}
theorem AB {Pt c:Addr}{q x:Str}{params:Arguments}{scope:Scope}{j:Nat}{p lpos:Pos} (hcd:X.env.code=.ref c) (hC:PySem.W.codeHdIn X.K c Pt=true) (hq:X.env.qual++"<lambda>"=q) (hcl:clo X.env.cells scope.names []=some [])
  (hx:scope.names.lookup x=some .local)
  (hbind:∀ (pm ctv:Value) (c':Addr) (u:Value),bindArgs (PySem.W.kla_fn "<lambda>" q params (.Constant (.bool false) j p) scope [] pm (.ref c') ctv) ⟨[u],[]⟩=pure [(x,u)])
  (hd:defaultsOf params X.env=([],[]):=by rfl)
  (hco:scope.isCoroutine=false:=by rfl) (hgen:scope.isGenerator=false:=by rfl) (hk:scope.kind=.function:=by rfl) (hcell:∀ y∈scope.names,y.2≠.cell:=by decide +kernel) :
  PE X (.Lambda params (.Constant (.bool false) j p) scope lpos) (BQ q Pt):=by
 intro pins s σ H Q I h
 obtain ⟨h1,h2⟩:=h
 exact oC I h1 hcd hC hq hd hcl fun f c' ctv H' s' I' sm hn hf hc=>⟨.ref f,H',I',rfl,h2 f H' hn sm ⟨_,ctv,c',params,scope,x,j,p,hf,hc,fun u=>hbind _ _ _ u,hco,hgen,hk,hcell,hx⟩⟩
theorem mP {Pt:Addr}{q x:Str}{e:Expr}{tv:TE}{t:TA}{p pos:Pos}{k:Nat} (hv:PE X (.Name x p) tv) (hr:bq k X.A) (ha:PA X [e] t) (hs:bw [e]=true:=by kernel_rfl):PE X (.Call (.Name x p) [e] [] pos) (zB q Pt tv t):=by
 intro pins s σ H Q I h
 refine wpAny_Call_Name_kw (thn (hv pins s σ H _ I h) fun u s1 ⟨v,H1,I1,r,f,ev,B1,q1⟩=>?_)
 subst ev
 cases r
 have fnA:∀ {H:Hp}{s:Shared},Inv X pins σ H s->jW q Pt H f->PySem.W.FnAt f s.heap:=fun I B=>by
  obtain ⟨pm,ctv,c',params,scope,x,j,p,hf,_⟩:=B
  exact ⟨_,_,_,_,(I.hok f _ hf).1⟩
 refine PySem.W.callWith_F (fnA I1 B1) (thn (ha pos pins s1 σ H1 _ I1 q1) fun us s2 ⟨vs,H2,I2,r2,B2,l2,q2⟩=>⟨fnA I2 B2,?_⟩) (aA (aC hs).1) (bf (aC hs).2)
 obtain ⟨u,rfl⟩:∃ u,us=[u]:=by
  have:=r2.length
  rw [l2] at this
  match us,this with
  | [u],_=>exact ⟨u,rfl⟩
 exact xT I2 hr.depth B2 fun s3 I3=>⟨.bl false,H2,I3,rfl,q2⟩
end
def zm:List V->Hp->VK->Prop:=fun vs H Q=>match vs with
 | [.ref a]=>∃ kvs,Rd H a (.dK kvs)/\Q (.int kvs.length) H
 | _=>False
theorem qV {a:Addr}{H:Hp}{Q:VK}:zm [.ref a] H Q=(∃ kvs,Rd H a (.dK kvs)/\Q (.int kvs.length) H):=propext Iff.rfl
theorem vY {X:Cx}:bE X (.builtin "len") zm:=by
 intro pins s σ H xs us Q I r h
 match xs,h with
 | [.ref a],h =>
  obtain ⟨kvs,ha,q⟩:=h
  obtain ⟨u,rfl,r2⟩:=vals1 r
  cases r2
  exact DC I ha fun t s' I'=>⟨.int kvs.length,H,I',⟨t,rfl⟩,q⟩
def zu:List V->Hp->VK->Prop:=fun vs H Q=>match vs with
 | [.ref a]=>∃ kvs:List (Int × V),Rd H a (.dK (kvs.map fun q=>(.inl q.1,q.2)))/\kvs.length < 64/\∀ ns:List Int,ns.Perm (kvs.map (·.1))->ns.Pairwise (·<=·)->nw H (.lst (ns.map V.int)) Q
 | _=>False
theorem oo {a:Addr}{H:Hp}{Q:VK}:zu [.ref a] H Q=(∃ kvs:List (Int × V),Rd H a (.dK (kvs.map fun q=>(.inl q.1,q.2)))/\kvs.length < 64/\∀ ns:List Int,ns.Perm (kvs.map (·.1))->ns.Pairwise (·<=·)->nw H (.lst (ns.map V.int)) Q):=propext Iff.rfl
theorem rl:∀ {vs:List Value}{ns:List Int},vs.length=ns.length->(∀ (i:Nat) v,vs[i]?=some v->∃ n t,ns[i]?=some n/\v=.int n t)->IntsAre vs ns
 | [],[],_,_=>.nil
 | v::vs,n::ns,hl,h=>by
  obtain ⟨m,t,e,rfl⟩:=h 0 v rfl
  cases e
  exact .cons _ t (rl (by simpa using hl) fun i v e=>h (i + 1) v (by simpa using e))
theorem jU:∀ {ns:List Int}{us:List Value},IntsAre us ns->Vals (ns.map V.int) us
 | _,_,.nil=>.nil
 | _,_,.cons z t h=>.cons ⟨t,rfl⟩ (jU h)
section
variable {prog:Program}{w:World}{A:Around}{E:Value->Shared->Prop}{s:Shared}
theorem z9 {T:String}{r d:Addr}{n:Nat}{Pv:Nat->Value->Prop}{OK:Heap->Prop}{ns:List Int}{Q:Value->Shared->Prop} (K:PySem.W.KdlSrc prog w T r d n Pv OK) (hh:A.handled=none) (hok:OK s.heap) (hn:n < 64) (hl:ns.length=n)
  (hv:∀ (i:Nat) v,i < n->Pv i v->∃ m t,ns[i]?=some m/\v=.int m t)
  (k:∀ (h1 h':Heap) (tk:Nat) (out:Array Value) (ms:List Int) (c:Nat),(∀ b o,s.heap.get? b=some o->h1.get? b=some o)->(∀ b o,h1.get? b=some o->h'.get? b=some o)->h'.get? h1.objs.size=some (seqObj "list" out c)->IntsAre out.toList ms->ms.Perm ns->ms.Pairwise (·<=·)->Q (.ref h1.objs.size) { s with heap:=h',toks:=tk }) :
  wpAny (model prog w) A (call (.builtin "sorted") [.ref r]) Q E s:=by
 refine Calls.call_function_entry kind_sorted plain_sorted entry_sorted (args_sorted1 _) ?_
 unfold Builtin.«sorted»
 have hz:n<=sizeLine:=Nat.le_of_lt (Nat.lt_of_lt_of_le hn (by rw [sizeLine_eq];omega))
 refine wpAny_bind (m:=checkCount "sorted" 1 1 _) (wpAny_pure (wpAny_bind (PySem.W.kdu_collect (A:=A.in1) K hh hok hz fun h1 tk acc k1 hacc=>?_)))
 have la:acc.toList.length=n:=by rw [Array.length_toList];exact hacc.1
 have hI:IntsAre acc.toList ns:=rl (by rw [la,hl]) fun i v e=>hv i v (by rw [← la];exact (List.getElem?_eq_some_iff.mp e).1) (hacc.2 i v (by rw [← Array.getElem?_toList];exact e))
 generalize acc.toList=vs at hI la
 refine wpAny_bind (wpAny_newList ?_ (by rw [la];exact hz))
 have gL:(h1.push (seqObj "list" vs.toArray 0)).get? h1.objs.size=some (seqObj "list" vs.toArray 0):=Heap.get?_push_size _ rfl
 refine wpAny_bind (wpAny_holding (wpAny_call_entry slot_list_sort ⟨_,gL,rfl⟩ entry_list_sort (list_sort_tree gL hI (by omega) fun out ms b1 b2 b3=>⟨_,rfl,wpAny_pure ⟨_,rfl,?_⟩⟩) (args_list_sort _)))
 obtain ⟨e1,g1⟩:∃ e1,((h1.push (seqObj "list" vs.toArray 0)).update h1.objs.size (Obj.mapSeq fun _=>#[])).get? h1.objs.size=some (seqObj "list" #[] e1):=⟨_,get?_update_seq gL fun _=>#[]⟩
 have g2:((((h1.push (seqObj "list" vs.toArray 0)).update h1.objs.size (Obj.mapSeq fun _=>#[])).push (seqObj "tuple" vs.toArray 0)).push (seqObj "list" #[] 0)).get? h1.objs.size=some (seqObj "list" #[] e1):=Heap.get?_push_of_some _ (Heap.get?_push_of_some _ g1)
 refine show Q (.ref h1.objs.size) { s with heap:=sortedHeap (h1.push (seqObj "list" vs.toArray 0)) h1.objs.size vs out,toks:=tk } from ?_
 obtain ⟨c3,g3⟩:∃ c3,(sortedHeap (h1.push (seqObj "list" vs.toArray 0)) h1.objs.size vs out).get? h1.objs.size=some (seqObj "list" out c3):=⟨_,get?_update_seq g2 fun _=>out⟩
 refine k h1 _ tk out ms c3 k1 (fun b o z=>?_) g3 b1 b2 b3
 have hb:h1.objs.size≠b:=Nat.ne_of_gt (Heap.lt_size z)
 exact (Heap.get?_update_other _ _ hb).trans (Heap.get?_push_of_some _ (Heap.get?_push_of_some _ ((Heap.get?_update_other _ _ hb).trans (Heap.get?_push_of_some _ z))))
end
theorem sR {X:Cx} (hc:X.calm=true):bE X (.builtin "sorted") zu:=by
 intro pins s σ H xs us Q I r h
 match xs,h with
 | [.ref a],h =>
  obtain ⟨kvs,ha,h64,k⟩:=h
  obtain ⟨u,rfl,r2⟩:=vals1 r
  cases r2
  obtain ⟨z,hd,vs,rel,dd⟩:=jw I.hok ha
  obtain ⟨ep,hat⟩:=dd.dictAt
  have lv:(kvs.map fun q=>((.inl q.1,q.2):Key × V)).length=vs.length:=Paired.length rel
  rw [List.length_map] at lv
  refine z9 (ns:=kvs.map (·.1)) (PySem.W.kdl_dict (knd:=aP X.prog X.w) (kvs:=vs) (ep:=ep) hd) (I.ok.hd hc) hat (by omega) (by rw [List.length_map];omega) (fun i v hi hP=>?_) fun h1 h' tk out ms c k1 k2 hg hS hp hs=>?_
  ·obtain ⟨kk,x,e,hk⟩:=hP
   have e1:kvs[i]?=some (kvs[i]'(by omega)):=List.getElem?_eq_getElem _
   have e2:(kvs.map fun q=>((.inl q.1,q.2):Key × V))[i]?=some (.inl (kvs[i]'(by omega)).1,(kvs[i]'(by omega)).2):=by rw [List.getElem?_map,e1];rfl
   obtain ⟨y,ey,f1,f2⟩:=eh rel e2
   rw [e] at ey
   cases ey
   have f1':kk=.inl (kvs[i]'(by omega)).1:=f1.symm
   subst f1'
   obtain ⟨t,et⟩:∃ t,v=.int (kvs[i]'(by omega)).1 t:=by
    have hk':j5 (Sum.inl (kvs[i]'(by omega)).1) v=true:=hk
    rcases bF hk' with ⟨n,t,e3,e4⟩ | ⟨y,t,e3,e4⟩
    ·rw [Sum.inl.inj e3];exact ⟨t,e4⟩
    ·cases e3
   exact ⟨_,t,by rw [List.getElem?_map,e1];rfl,et⟩
  ·have I1:Inv X pins σ H { s with heap:=h1,toks:=tk }:=I.kept (t':=tk) k1
   have hn:=I1.hok.fresh (Nat.le_refl h1.objs.size)
   have lw:=hp.length_eq
   rw [List.length_map] at lw
   exact ⟨.ref h1.objs.size,upd H h1.objs.size (.lst (ms.map V.int)),I1.laid (t':=tk) (o:=.lst (ms.map V.int)) k2 (Nat.le_refl _) ⟨by rw [List.length_map,lw];exact Nat.le_of_lt (Nat.lt_of_lt_of_le h64 (by rw [sizeLine_eq];omega)),out.toList,c,jU hS,by rw [Array.toArray_toList];exact hg⟩,rfl,k ms hp hs _ _ hn (cg hn) ay⟩
end L2

namespace L2
open PySem PySem.Spec PyProof.Rows
def A4 {κ:Type} [DecidableEq κ] (kvs:List (κ × V)) (k:κ):List (κ × V):=kvs.filter fun q=>decide (q.1≠k)
theorem KV.out {kvs:List (Key × V)}{xs:List (Key × Value)} (r:KV kvs xs) (k:Key):KV (A4 kvs k) (without xs k):=by
 induction r with
 | nil=>exact .nil
 | @cons a b l₁ l₂ f t ih =>
  obtain ⟨e,rv⟩:=f
  unfold A4 without at *
  by_cases h:a.1=k
  ·rw [List.filter_cons_of_neg (by simp [h]),List.filter_cons_of_neg (by simp [← e,h])];exact ih
  ·rw [List.filter_cons_of_pos (by simp [h]),List.filter_cons_of_pos (by simp [← e,h])];exact .cons ⟨e,rv⟩ ih
section
variable {prog:Program}{w:World}{K:Type} [DecidableEq K] {knd:HeapKind prog w K}{A:Around}{E:Value->Shared->Prop}{s:Shared}{d a:Addr}{xs:List (K × Addr × Value)}{k:K}
def DO (xs:List (K × Addr × Value)) (k:K):List (K × Addr × Value):=xs.filter fun q=>decide (q.1≠k)
end
theorem KT.out {H:Hp}{kvs:List (List Key × V)}{xs:List (List Key × Addr × Value)} (r:KT H kvs xs) (k:List Key):KT H (A4 kvs k) (DO xs k):=by
 unfold KT at *
 induction r with
 | nil=>exact .nil
 | @cons a b l₁ l₂ f t ih =>
  have e:a.1=b.1:=f.1
  unfold A4 DO at *
  by_cases h:a.1=k
  ·rw [List.filter_cons_of_neg (by simp [h]),List.filter_cons_of_neg (by simp [← e,h])];exact ih
  ·rw [List.filter_cons_of_pos (by simp [h]),List.filter_cons_of_pos (by simp [← e,h])];exact .cons f ih
end L2

namespace L2
open PySem PySem.Spec PyProof.Rows
section
variable {prog:Program}{w:World}{A:Around}{E:Value->Shared->Prop}{s:Shared}
end
section
variable {prog:Program}{w:World}{A:Around}{E:Value->Shared->Prop}{s:Shared}
end
section
variable {X:Cx}
end
end L2

namespace L2
open PySem PySem.Spec PyProof.Rows
def UnX (H H':Hp) (h h':Heap):Prop:=∃ fs,Un fs [] H H' h h'
theorem Un.BZ {fs fs':List Addr}{H H':Hp}{h h':Heap} (u:Un fs [] H H' h h') (hs:∀ b∈fs,b∈fs'):Un fs' [] H H' h h' where
 keep:=fun b o e n hb he=>u.keep b o e n (fun z=>hb (hs b z)) he
 slot:=fun b o e n _ he=>u.any e n he
 free:=u.free
 there:=u.there
 tups:=u.tups
 frzs:=u.frzs
 tbls:=u.tbls
theorem UnX.trans {H H1 H2:Hp}{h h1 h2:Heap} (a:UnX H H1 h h1) (b:UnX H1 H2 h1 h2):UnX H H2 h h2:=by
 obtain ⟨f,a⟩:=a
 obtain ⟨g,b⟩:=b
 exact ⟨f++g,(a.BZ fun x hx=>List.mem_append_left _ hx).trans (b.BZ fun x hx=>List.mem_append_right _ hx)⟩
def gd (H:Hp) (f:Addr):Prop:=∃ (q:Str) (params:Arguments) (body:Expr) (scope:Scope) (cl:List (Str × Addr)) (pm cd ctv:Value) (u:HO),H f=some (.frz (m4 q params body scope cl pm cd ctv) u)
theorem gd.same {H H':Hp}{f:Addr} (h:gd H f) (s:ao H H'):gd H' f:=by
 obtain ⟨q,a,b,c,d,e,g,i,u,h⟩:=h
 exact ⟨q,a,b,c,d,e,g,i,u,s _ _ h⟩
theorem gd.fn {X:Cx}{pins:List (Addr × Obj)}{σ:St}{H:Hp}{s:Shared}{f:Addr} (I:Inv X pins σ H s) (h:gd H f):PySem.W.FnAt f s.heap:=by
 obtain ⟨q,a,b,c,d,e,g,i,u,h⟩:=h
 exact ⟨_,_,_,_,(I.hok f _ h).1⟩
abbrev XF:XK:=fun _ _ _=>False
section
variable {P:Program}{w:World}{K:PySem.W.Frag}{mg:Str->Option Value}{base:Heap}
def lG (P:Program) (w:World) (K:PySem.W.Frag) (mg:Str->Option Value) (base:Heap) (k n:Nat) (f:Addr) (sp:Sp) (s₀:Shared) (H₀:Hp):Prop :=
 ∀ (A:Around) (outer:List Env) (s:Shared) (H:Hp) (us:List Value) (vs:List V) (Q:VK),bq k A->jq P w K mg base A outer s H->UnX H₀ H s₀.heap s.heap->Vals vs us->vs.length=n->sp vs H Q XF →
  codeAny (model P w) A (.call (.ref f) ⟨us,[]⟩) (CR (CX1 P w) outer P w H s Q XF) s
structure uq (P:Program) (w:World) (K:PySem.W.Frag) (mg:Str->Option Value) (base:Heap) (CX:CXT) (k:Nat) (f:Addr) (fd:FuncData) (ps:List Str) (sp:Shared->Sp):Prop where
 len:∀ s vs H Q E,sp s vs H Q E->vs.length=ps.length
 run:∀ (A:Around) (outer:List Env) (s:Shared) (H:Hp) (args:Args) (us:List Value) (vs:List V) (Q:VK) (E:XK),bq k A->jq P w K mg base A outer s H->BindsTo s fd args (ps.zip us)->Vals vs us->sp s vs H Q E →
  codeAny (model P w) A (.call (.ref f) args) (CR CX outer P w H s Q E) s
end
theorem Cr {CX:CXT}{P:Program}{w:World}{K:PySem.W.Frag}{mg:Str->Option Value}{base:Heap}{k:Nat}{f:Addr}{name qual:Str}{params:Arguments}{body:List Stmt}{scope:Scope}{dV kV doc pm cdv ct oc:Value}{an od:Option Addr}
  {osl:Array (Option Value)}{N ps:List Str}{sp:Shared->Sp} (lk:K.lookup f=some ⟨oc,od,.func (PySem.W.fnOf name qual params body scope dV kV doc pm an cdv ct),osl⟩) (hcd:PySem.W.codeIn K cdv qual=true) (S:aD N ps scope)
  (len:∀ s vs H Q E,sp s vs H Q E->vs.length=ps.length)
  (hbody:∀ (A:Around) (outer:List Env) (s:Shared) (H:Hp) (vs:List V) (Q:VK) (E:XK),bq k (A.deeper (envOfC qual scope s.heap.objs.size f cdv))->sp s vs H Q E →
   ∃ t,PSs (iq CX P w K mg base N qual scope f cdv A outer s H E) body t/\t { nx:=fun _ H'=>Q .non H',rt:=Q } (start N vs) H) :
  uq P w K mg base CX (k + 1) f (PySem.W.fnOf name qual params body scope dV kV doc pm an cdv ct) ps sp:=by
 refine ⟨len,fun A outer s H args us vs Q E hr e0 hb r hsp=>?_⟩
 have hl:=len _ _ _ _ _ hsp
 have KX:K.In s.heap:=e0.mod.kin.keeps fun b o e=>(e0.bs b o e).1
 have lim:s.heap.NoLimit:=e0.mod.nolimit.keeps fun b o e=>(e0.bs b o e).1
 have hkind:∀ y∈ps.zip us,scope.names.lookup y.1=some .local ∨ (scope.names.lookup y.1=some .cell/\((cellsFrom (s.heap.objs.size + 1) scope.names []).lookup y.1).isSome=true):=fun ⟨n,v⟩ hy=>by
  rcases S.par n (List.of_mem_zip hy).1 with q | q
  ·exact .inl q
  ·exact .inr ⟨q,PySem.W.cellsFrom_some _ _ _ (.inl q)⟩
 refine codeAny_call_function hr.depth (KX _ _ lk) rfl S.co S.gen rfl (PySem.W.codeRec_of KX hcd) (hb _ _ _ _ ?_)
 refine wpAny_newFunctionEnv_cells S.kind hkind fun env he s1 x=>?_
 subst he
 refine ⟨lim.keeps x.toInCall.keep,codeAny_func ?_⟩
 obtain ⟨t,ht,hq⟩:=hbody A outer s H vs Q E (hr.deeper _) hsp
 have I:Inv (iq CX P w K mg base N qual scope f cdv A outer s H E) [] (start N vs) H s1:=ou S hr.hd e0 hl r x
 refine wpAny_mono (ht [] s1 (start N vs) H _ I hq) (fun fl s' hs=>?_) fun e s' hs=>hs
 have fin:∀ {σ':St}{H':Hp}{v:V}{u:Value},Inv (iq CX P w K mg base N qual scope f cdv A outer s H E) [] σ' H' s'->RelV v u->Q v H'->CE outer P w H s Q u s' :=
  fun {σ' H' v u} J rv q=>⟨v,H',J.os,J.bare,J.base,J.hok,rv,q⟩
 cases fl with
 | ret u =>
  obtain ⟨v,σ',H',J,rv,q⟩:=hs
  exact fin J rv q
 | next =>
  obtain ⟨σ',H',J,q⟩:=hs
  exact fin (v:=V.non) (u:=Value.none) J rfl q
 | brk =>
  obtain ⟨_,_,_,q⟩:=hs
  exact False.elim q
 | cont =>
  obtain ⟨_,_,_,q⟩:=hs
  exact False.elim q
def uV (P:Program) (w:World) (K:PySem.W.Frag) (mg:Str->Option Value) (base:Heap) (N:List Str) (q:Str) (scope:Scope) (f:Addr) (cd:Value) (cl:List (Str × Addr)) (A:Around) (outer:List Env) (s:Shared) (H:Hp):Cx where
 prog:=P
 w:=w
 K:=K
 mg:=mg
 base:=base
 A:=A.deeper (PySem.W.envX q scope s.heap.objs.size f cd cl)
 N:=N
 s₀:=s
 H₀:=H
 env:=PySem.W.envX q scope s.heap.objs.size f cd cl
 outer:=outer
 stack:=PySem.W.envX q scope s.heap.objs.size f cd cl::outer
 ex:=[]
 calm:=true
 fn:=fun _=>false
 pn:=[]
 xe:=fun _ _=>False
theorem oG {x:Str}{u:Value}:∀ {l:List (Str × Value)},(l.map (·.1)).Nodup->(x,u)∈l->l.lookup x=some u
 | [],_,h=>by cases h
 | (y,v)::l,hn,h=>by
  rw [List.lookup_cons]
  rcases List.mem_cons.mp h with e | e
  ·cases e
   simp
  ·have hne:x≠y:=fun z=>(List.nodup_cons.mp hn).1 (by rw [← z];exact List.mem_map.mpr ⟨_,e,rfl⟩)
   rw [show (x == y)=false by simpa using hne]
   exact oG (List.nodup_cons.mp hn).2 e
theorem IsCell.on {H H':Hp}{h h':Heap}{c:Addr}{v:Option Value} (u:UnX H H' h h') (n:H c=none) (e:h.IsCell c v):h'.IsCell c v:=by
 obtain ⟨fs,u⟩:=u
 obtain ⟨o,e1,e2⟩:=e
 obtain ⟨sl,z⟩:=u.any e1 n (by simp)
 exact ⟨_,z,e2⟩
def zT (X:Cx) (scope:Scope) (fr:List Str) (js:List Nat):Prop:=Paired (fun (x:Str) (j:Nat)=>X.N[j]?=some x/\Vis X.env.scope x/\scope.names.lookup x=some .free/\(x,NameKind.free)∈scope.names/\X.env.kindOf x=some .cell) fr js
abbrev qL (js:List Nat) (σ:St):St:=js.map fun j=>σ[j]?.join
theorem uR {X:Cx}{scope:Scope}:∀ {fr:List Str}{js:List Nat},zT X scope fr js->∀ {i:Nat}{x:Str},fr[i]?=some x->∃ j,js[i]?=some j/\X.N[j]?=some x/\Vis X.env.scope x/\scope.names.lookup x=some .free/\(x,NameKind.free)∈scope.names/\X.env.kindOf x=some .cell
 | _,_,.nil,i,x,e=>by simp at e
 | _,_,.cons h r,0,x,e=>by simp at e;subst e;exact ⟨_,rfl,h⟩
 | _,_,.cons h r,i + 1,x,e=>uR r (by simpa using e)
theorem qM {X:Cx}{scope:Scope}:∀ {fr:List Str}{js:List Nat},zT X scope fr js->fr.length=js.length
 | _,_,.nil=>rfl
 | _,_,.cons h r=>congrArg (· + 1) (qM r)
theorem yF {X:Cx}{pins:List (Addr × Obj)}{σ:St}{H:Hp}{s:Shared}{ps fr:List Str}{js:List Nat}{q:Str}{params:Arguments}{body:Expr}{scope:Scope}{cl:List (Str × Addr)}{pm ctv:Value}{c' Pt f:Addr}{te:TE}{k:Nat}
  (I:Inv X pins σ H s) (hf:H f=some (.frz (m4 q params body scope cl pm (.ref c') ctv) (.own Pt))) (hc:iQ H Pt q c') (hcl:clo X.env.cells scope.names []=some cl)
  (hbind:∀ us:List Value,us.length=ps.length->bindArgs (PySem.W.kla_fn "<lambda>" q params body scope cl pm (.ref c') ctv) ⟨us,[]⟩=pure (ps.zip us))
  (hco:scope.isCoroutine=false) (hgen:scope.isGenerator=false) (hk:scope.kind=.function) (hcell:∀ y∈scope.names,y.2≠.cell) (hps:∀ x∈ps,scope.names.lookup x=some .local) (hnd:ps.Nodup) (hcap:zT X scope fr js)
  (hbody:∀ (A:Around) (outer:List Env) (s:Shared) (H:Hp),bq k (A.deeper (PySem.W.envX q scope s.heap.objs.size f (.ref c') cl))->PE (uV X.prog X.w X.K X.mg X.base (ps++fr) q scope f (.ref c') cl A outer s H) body te) :
  lG X.prog X.w X.K X.mg X.base (k + 1) ps.length f (fun vs H Q _=>te (vs.map some++qL js σ) H Q) s H:=by
 intro A outer s' H' us vs Q hr e0 u r hl hq
 have hf':H' f=some (.frz (m4 q params body scope cl pm (.ref c') ctv) (.own Pt)):=by obtain ⟨fs,u⟩:=u;exact u.frzs _ _ _ hf
 have lus:us.length=ps.length:=by rw [← r.length];exact hl
 have hrec:s'.heap.CodeRec (.ref c') q:=by
  obtain ⟨oc,vs',t,h1,h2,h3⟩:=hc
  obtain ⟨fs,u⟩:=u
  exact ⟨c',oc,vs',t,rfl,(e0.hok c' _ (u.frzs _ _ _ h1)).1,h2,h3⟩
 have sub:=jv scope.names [] cl hcl (fun x c e=>by cases e)
 have cells:∀ x c,cl.lookup x=some c->(∀ v,s.heap.IsCell c v->s'.heap.IsCell c v)/\H' c=none:=fun x c e=>by
  have n:=I.freeC x c (sub x c e)
  obtain ⟨v,o,o1,o2⟩:=I.cell x c (sub x c e)
  refine ⟨fun v hv=>IsCell.on u n hv,?_⟩
  obtain ⟨fs,u⟩:=u
  exact u.free c o o1 n (by simp)
 refine PySem.W.kla_callFunE hr.depth (e0.hok f _ hf').1 rfl hco hgen rfl hrec ?_
 rw [hbind us lus]
 refine wpAny_pure (wpAny_newFunctionEnv hcell (fun y hy=>?_) (fun h₁ hns hsb=>⟨?_,?_⟩) hk)
 ·exact hps _ (List.of_mem_zip hy).1
 ·exact (e0.mod.nolimit.keeps fun b o e=>(e0.bs b o e).1).fresh _ hsb
 show codeAny _ _ (.expr _ (PySem.W.envX q scope s'.heap.objs.size f (.ref c') cl)) _ _
 have k1:∀ b o,s'.heap.get? b=some o->h₁.get? b=some o:=fun b o z=>hsb.extBut b o (Nat.ne_of_lt (Heap.lt_size z)) (Heap.get?_push_of_some _ z)
 have noA:∀ b:Addr,b ∉ (uV X.prog X.w X.K X.mg X.base (ps++fr) q scope f (.ref c') cl A outer s' H').ex:=fun b z=>absurd (show b∈([]:List Addr) from z) (by simp)
 have cl1:∀ c v,s'.heap.IsCell c v->h₁.IsCell c v:=fun c v ⟨o,z1,z2⟩=>⟨o,k1 _ _ z1,z2⟩
 have J:Inv (uV X.prog X.w X.K X.mg X.base (ps++fr) q scope f (.ref c') cl A outer s' H') [] (vs.map some++qL js σ) H' { heap:=h₁,gens:=s'.gens,drawn:=s'.drawn,toks:=s'.toks + (ps.zip us).length,os:=s'.os }:=by
  refine ⟨⟨e0.mod,hk,rfl,rfl,Nat.le_refl _,fun y z c h1 h2=>I.ok.inj y z c (sub y c h1) (sub z c h2),fun y hy=>?_,fun y c z h=>?_,fun _=>hr.hd,Around.frames_deeper e0.frames,.inr ⟨rfl,rfl⟩,fun b z=>absurd z (noA b),e0.bs,e0.bsz,fun b _ _=>noA b,fun b z=>absurd z (noA b),e0.ik,e0.frf⟩,
   rfl,e0.bare,Un.kept k1,⟨_,hns,fun i y v h1 h2 h3=>?_⟩,fun y c h=>?_,e0.hok.fresh (Nat.le_refl _),fun y c h=>(cells y c h).2,fun p hp=>absurd (show p∈([]:List (Addr × Obj)) from hp) (by simp),e0.hok.kept k1,?_⟩
  ·have hy:scope.names.lookup y=some .cell ∨ scope.names.lookup y=some .free:=hy
   rcases hy with hy | hy
   ·exact absurd rfl (hcell _ (PySem.mem_of_lookup hy))
   ·exact iG scope.names [] cl hcl y (PySem.mem_of_lookup hy)
  ·cases z
  ·have h1':(ps++fr)[i]?=some y:=h1
   by_cases hi:i < ps.length
   ·rw [List.getElem?_append_left hi] at h1'
    rw [List.getElem?_append_left (by rw [List.length_map];omega),List.getElem?_map] at h2
    cases ev:vs[i]? with
    | none=>rw [ev] at h2;cases h2
    | some a =>
     rw [ev] at h2
     cases h2
     obtain ⟨u',hu',rv⟩:=r.get ev
     refine ⟨u',rv,.inl ⟨hps y (List.mem_of_getElem? h1'),?_⟩⟩
     have hz:(ps.zip us)[i]?=some (y,u'):=by rw [List.getElem?_zip_eq_some];exact ⟨h1',hu'⟩
     refine oG ?_ (List.mem_reverse.mpr (List.mem_of_getElem? hz))
     rw [List.map_reverse]
     refine List.pairwise_reverse.mpr ?_
     rw [show (fun x:Str × Value=>x.1)=Prod.fst from rfl,List.map_fst_zip (by omega)]
     exact hnd.imp fun h=>h.symm
   ·rw [List.getElem?_append_right (by omega)] at h1'
    rw [List.getElem?_append_right (by rw [List.length_map];omega),List.length_map,hl] at h2
    obtain ⟨j,hj,hN,hv,hfree,hmem,hkd⟩:=uR hcap h1'
    unfold qL at h2
    rw [List.getElem?_map,hj] at h2
    have h2':σ[j]?=some (some v):=by
     have h2:some (σ[j]?.join)=some (some v):=h2
     cases es:σ[j]? with
     | none=>rw [es] at h2;cases h2
     | some o=>rw [es] at h2;cases o with
      | none=>cases h2
      | some v'=>cases h2;rfl
    obtain ⟨m,_,hlk⟩:=I.loc
    obtain ⟨u',rv,lk⟩:=hlk j y v hN h2' hv
    refine ⟨u',rv,.inr ⟨.inr hfree,?_⟩⟩
    obtain ⟨c,hcy⟩:=iG scope.names [] cl hcl y hmem
    refine ⟨c,hcy,?_⟩
    rcases lk with ⟨z,_⟩ | ⟨_,c2,z1,z2⟩
    ·rw [hkd] at z;cases z
    ·rw [sub y c hcy] at z1
     cases z1
     exact cl1 _ _ ((cells y c hcy).1 _ z2)
  ·obtain ⟨v,hv⟩:=I.cell y c (sub y c h)
   exact ⟨v,cl1 _ _ ((cells y c h).1 _ hv)⟩
  ·show _=(ps++fr).length
   rw [List.length_append,List.length_map,List.length_append,hl,List.length_map,qM hcap]
 refine PySem.W.kla_codeExpr (wpAny_mono (hbody A outer s' H' (hr.deeper _) [] _ _ _ Q J hq) (fun u2 s2 h2=>?_) fun _ _ z=>z.elim)
 obtain ⟨v,H2,J2,rv,q2⟩:=h2
 exact ⟨v,H2,J2.os,J2.bare,J2.base,J2.hok,rv,q2⟩
def zC (f:Addr) (n:Nat) (sp:Sp) (tv:TE) (t:TA):TE:=fun σ H Q=>tv σ H fun x H1=>x=.ref f/\gd H1 f/\t σ H1 fun vs H2=>gd H2 f/\vs.length=n/\sp vs H2 Q XF
theorem q8 {f:Addr}{n:Nat}{sp:Sp}{tv:TE}{t:TA}{σ:St}{H:Hp}{Q:VK}:zC f n sp tv t σ H Q=tv σ H fun x H1=>x=.ref f/\gd H1 f/\t σ H1 fun vs H2=>gd H2 f/\vs.length=n/\sp vs H2 Q XF:=propext Iff.rfl
section
variable {X:Cx}
theorem pvF (i:Nat) {x:Str}{pos:Pos} (hN:X.N[i]?=some x:=by kernel_rfl) (hv:X.env.scope.names.lookup x=some .free:=by kernel_rfl) (hd:(x == ("__debug__":Str))=false:=by kernel_rfl)
  (hcd:(x == ("__classdict__":Str))=false:=by kernel_rfl):PE X (.Name x pos) (nv i):=qf hN (.inr (.inr hv)) hd hcd
theorem z0 {pins:List (Addr × Obj)}{σ:St}{H:Hp}{s:Shared}{k n:Nat}{f:Addr}{sp:Sp}{Q:VK}{us:List Value}{vs:List V} (S:lG X.prog X.w X.K X.mg X.base k n f sp X.s₀ X.H₀) (hex:X.ex=[]) (hr:bq k X.A) (I:Inv X pins σ H s) (r:Vals vs us) (hl:vs.length=n) (h:sp vs H Q XF) :
  wpAny (model X.prog X.w) X.A (call (.ref f) us) (EP X pins σ Q) X.xe s:=by
 have u:=I.base
 rw [hex] at u
 refine wpAny_call (codeAny_mono (S X.A X.stack s H us vs Q hr I.wB ⟨_,u⟩ r hl h) fun r s' hq=>?_)
 cases r with
 | error e=>exact (kg hq).elim
 | ok fl =>
  cases fl with
  | ret u=>exact I.after hq
  | next=>exact False.elim hq
  | brk=>exact False.elim hq
  | cont=>exact False.elim hq
theorem rP {k n:Nat}{f:Addr}{sp:Sp}{x:Str}{e:Expr}{es:List Expr}{tv:TE}{t:TA}{p pos:Pos} (S:lG X.prog X.w X.K X.mg X.base k n f sp X.s₀ X.H₀) (hex:X.ex=[]) (hr:bq k X.A) (hv:PE X (.Name x p) tv) (ha:PA X (e::es) t) (hs:bw (e::es)=true:=by kernel_rfl) :
  PE X (.Call (.Name x p) (e::es) [] pos) (zC f n sp tv t):=by
 intro pins s σ H Q I h
 refine wpAny_Call_Name_kw (thn (hv pins s σ H _ I h) fun u s1 ⟨v,H1,I1,r,ev,B1,q1⟩=>?_)
 subst ev
 cases r
 refine PySem.W.callWith_F (B1.fn I1) (thn (ha pos pins s1 σ H1 _ I1 q1) fun us s2 ⟨vs,H2,I2,r2,B2,l2,q2⟩=>⟨B2.fn I2,?_⟩) (aA (aC hs).1) (bf (aC hs).2)
 exact z0 S hex hr I2 r2 l2 q2
end
def Dq (P:Program) (w:World) (K:PySem.W.Frag) (mg:Str->Option Value) (base:Heap) (k n:Nat) (spA:Sp->Sp):Shared->Sp:=fun s vs H Q E=>∃ (f:Addr) (spf:Sp),vs.getLast?=some (.ref f)/\gd H f/\lG P w K mg base k n f spf s H/\spA spf vs H Q E
structure ur (P:Program) (w:World) (K:PySem.W.Frag) (mg:Str->Option Value) (base:Heap) (CX:CXT) (n:Nat) (x:Str) (ps:List Str) (spA:Sp->Sp):Prop where
 ex:∃ (f:Addr) (fd:FuncData),(∀ k,uq P w K mg base CX (k + 1) f fd ps (Dq P w K mg base k n spA))/\mg x=some (.ref f)/\PySem.W.keepIn K (.ref f)=true/\Binds K fd ps []
theorem Fun.okS {P:Program}{w:World}{K:PySem.W.Frag}{mg:Str->Option Value}{base:Heap}{x qual:Str}{st:Stmt}{f:Addr}{fd:FuncData}{N ps:List Str}{k n:Nat}{spA:Sp->Sp} (F:Fun K x qual st f fd) (S:aD N ps (ag st)) (len:∀ spf vs H Q E,spA spf vs H Q E->vs.length=ps.length)
  (hbody:∀ (cdv:Value) (A:Around) (outer:List Env) (s:Shared) (H:Hp) (vs:List V) (Q:VK) (E:XK),bq k (A.deeper (envOfC qual (ag st) s.heap.objs.size f cdv))->∀ (lf:Addr) (spf:Sp),vs.getLast?=some (.ref lf)->gd H lf->lG P w K mg base k n lf spf s H->spA spf vs H Q E →
   ∃ t,PSs (iq (CX1 P w) P w K mg base N qual (ag st) f cdv A outer s H E) (az st) t/\t { nx:=fun _ H'=>Q .non H',rt:=Q } (start N vs) H):uq P w K mg base (CX1 P w) (k + 1) f fd ps (Dq P w K mg base k n spA):=by
 obtain ⟨oc,od,kV,doc,pm,an,cdv,ct,osl,rfl,lk,hcd⟩:=F.ex
 exact Cr lk hcd S (fun s vs H Q E ⟨_,_,_,_,_,h⟩=>len _ _ _ _ _ h) fun A outer s H vs Q E hr ⟨lf,spf,h1,h2,h3,h4⟩=>hbody cdv A outer s H vs Q E hr lf spf h1 h2 h3 h4
def vN (spA:Sp->Sp) (q:Str) (Pt:Addr) (js:List Nat) (te:TE) (E:St->XK) (t1 t2:TE):TE:=fun σ H Q=>t1 σ H fun x H1=>t2 σ H1 fun y H2=>H2 Pt=some (da q)/\∀ f H',H2 f=none->ao H2 H'->gd H' f->spA (fun vs H Q _=>te (vs.map some++qL js σ) H Q) [x,y,.ref f] H' Q (E σ)
theorem nI {spA:Sp->Sp}{q:Str}{Pt:Addr}{js:List Nat}{te:TE}{E:St->XK}{t1 t2:TE}{σ:St}{H:Hp}{Q:VK}:vN spA q Pt js te E t1 t2 σ H Q=t1 σ H fun x H1=>t2 σ H1 fun y H2=>H2 Pt=some (da q)/\∀ f H',H2 f=none->ao H2 H'->gd H' f->spA (fun vs H Q _=>te (vs.map some++qL js σ) H Q) [x,y,.ref f] H' Q (E σ):=propext Iff.rfl
section
variable {X:Cx}
theorem oK {E:St->XK}{k n:Nat}{x q:Str}{gps ps fr:List Str}{js:List Nat}{spA:Sp->Sp}{e1 e2:Expr}{t1 t2 te:TE}{p pos lpos:Pos}{params:Arguments}{body:Expr}{scope:Scope}{cl:List (Str × Addr)}{c Pt:Addr}
  (C:ur X.prog X.w X.K X.mg X.base (CX1 X.prog X.w) n x gps spA) (hn:ps.length=n) (hg3:gps.length=3) (hx:Passes (CX1 X.prog X.w) X E) (hr:bq (k + 2) X.A) (h1:PE X e1 t1) (h2:PE X e2 t2)
  (hcd:X.env.code=.ref c) (hC:PySem.W.codeHdIn X.K c Pt=true) (hq:X.env.qual++"<lambda>"=q) (hcl:clo X.env.cells scope.names []=some cl) (hcap:zT X scope fr js)
  (hbind:∀ (pm ctv:Value) (c':Addr) (us:List Value),us.length=ps.length->bindArgs (PySem.W.kla_fn "<lambda>" q params body scope cl pm (.ref c') ctv) ⟨us,[]⟩=pure (ps.zip us))
  (hbody:∀ (f c':Addr) (A:Around) (outer:List Env) (s:Shared) (H:Hp),bq k (A.deeper (PySem.W.envX q scope s.heap.objs.size f (.ref c') cl))->PE (uV X.prog X.w X.K X.mg X.base (ps++fr) q scope f (.ref c') cl A outer s H) body te)
  (hps:∀ y∈ps,scope.names.lookup y=some .local) (hnd:ps.Nodup)
  (hd:defaultsOf params X.env=([],[]):=by rfl)
  (hco:scope.isCoroutine=false:=by rfl) (hgen:scope.isGenerator=false:=by rfl) (hk:scope.kind=.function:=by rfl) (hcell:∀ y∈scope.names,y.2≠.cell:=by decide +kernel)
  (hg:X.env.kindOf x=some .globalImplicit:=by kernel_rfl) (hdb:(x == ("__debug__":Str))=false:=by kernel_rfl) (hs:bw [e1,e2,.Lambda params body scope lpos]=true:=by kernel_rfl) :
  PE X (.Call (.Name x p) [e1,e2,.Lambda params body scope lpos] [] pos) (vN spA q Pt js te E t1 t2):=by
 obtain ⟨g,fd,F,hm,hkp,hb⟩:=C.ex
 have s1:=aC hs
 have s2:=aC s1.2
 have s3:=aC s2.2
 intro pins s σ H Q I h
 refine wpAny_Call_Name_kw (eP I hg hm ?_ hdb)
 refine PySem.W.callWith_K (h₀:=X.base) I.ok.mod.kin hkp ?_ (aA s1.1) (bf s1.2)
 rw [aA s1.1,aA s2.1,aA s3.1]
 refine Calls.spliced_cons (thn (h1 pins s σ H _ I h) fun u1 sa ⟨x1,Ha,Ia,ra,qa⟩=>?_)
 refine Calls.spliced_cons (thn (h2 pins sa σ Ha _ Ia qa) fun u2 sb ⟨x2,Hb,Ib,rb,hP,qb⟩=>?_)
 refine Calls.spliced_cons (oC Ib hP hcd hC hq hd hcl fun f c' ctv H' s' I' sm hn' hf hc=>?_)
 refine Calls.spliced_nil ⟨I'.kIn,?_⟩
 have la:gd H' f:=⟨_,_,_,_,_,_,_,_,_,hf⟩
 have st:=yF (k:=k) I' hf hc hcl (hbind _ _ _) hco hgen hk hcell hps hnd hcap (fun A outer s H hr=>hbody f c' A outer s H hr)
 rw [hn] at st
 have r:Vals [x1,x2,.ref f] [u1,u2,.ref f]:=.cons ra (.cons rb (.cons rfl .nil))
 refine wpAny_call (codeAny_mono ((F (k + 1)).run X.A X.stack s' H' ⟨[u1,u2,.ref f],[]⟩ [u1,u2,.ref f] [x1,x2,.ref f] Q (E σ) hr I'.wB (by have:=hb s' [u1,u2,.ref f] I'.kIn (by rw [hg3];rfl);simpa using this) r ⟨f,_,rfl,la,st,qb f H' hn' sm la⟩) fun r s'' hq=>?_)
 cases r with
 | error e=>exact hx pins σ H' s' e s'' I' hq
 | ok fl =>
  cases fl with
  | ret u=>exact I'.after hq
  | next=>exact False.elim hq
  | brk=>exact False.elim hq
  | cont=>exact False.elim hq
end
def iD (ts:List (Addr × Str)):Hp:=fun b=>(ts.lookup b).map da
theorem qu:∀ {ts:List (Addr × Str)},(ts.map (·.1)).Nodup->∀ p∈ts,iD ts p.1=some (da p.2)
 | [],_,p,h=>by cases h
 | t::r,hn,p,h=>by
  unfold iD
  rw [List.lookup_cons]
  rcases List.mem_cons.mp h with e | e
  ·subst e;simp
  ·have hne:p.1≠t.1:=fun z=>(List.nodup_cons.mp hn).1 (List.mem_map.mpr ⟨_,e,z⟩)
   rw [show (p.1 == t.1)=false by simpa using hne]
   exact qu (List.nodup_cons.mp hn).2 p e
theorem yL {b:Addr}{q:Str}:∀ {ts:List (Addr × Str)},ts.lookup b=some q->(b,q)∈ts
 | [],h=>by cases h
 | (c,r)::ts,h=>by
  rw [List.lookup_cons] at h
  by_cases e:b=c
  ·subst e
   simp at h
   subst h
   exact List.mem_cons_self
  ·rw [show (b == c)=false by simpa using e] at h
   exact List.mem_cons_of_mem _ (yL h)
theorem jS {ts:List (Addr × Str)}{b:Addr}{o:HO} (h:iD ts b=some o):∃ p∈ts,p.1=b/\o=da p.2:=by
 unfold iD at h
 obtain ⟨q,e,rfl⟩:=Option.map_eq_some_iff.mp h
 exact ⟨(b,q),yL e,rfl,rfl⟩
theorem ti {P:Program}{w:World}{K:PySem.W.Frag}{mg mb:Str->Option Value}{CX:CXT}{k:Nat}{fa a:Addr}{ts:List (Addr × Str)}{fd:FuncData}{x:Str}{sp:Sp}{s₁:Shared}{vs:List Value}{ns:List Int}
  (KX:K.In s₁.heap) (hns:s₁.heap.Ns mainGlobals mg) (hb:s₁.heap.Ns builtinsNs mb) (hbb:∀ x:Str,x≠"__name__"->mb x=bootBuiltins x) (hlim:s₁.heap.NoLimit)
  (hbm:∃ bm ob,mg "__builtins__"=some (.ref bm)/\bm≠builtinsNs/\s₁.heap.get? bm=some ob/\ob.cls=.type "module"/\ob.dict=some builtinsNs/\ob.data=.plain) (hg:s₁.gens=#[])
  (ha:s₁.heap.get? a=some { cls:=.type "list",data:=.seq vs.toArray }) (hi:IntsAre vs ns) (hl:ns.length<=sizeLine) (hr:bq k callerA) (hnd:(ts.map (·.1)).Nodup) (hC:∀ p∈ts,∃ c,PySem.W.codeHdIn K c p.1=true) (hPt:∀ p∈ts,s₁.heap.get? p.1=some { cls:=.none,data:=.fields #[] }) (hKP:∀ p∈ts,K.lookup p.1=none)
  (F:∀ base:Heap,K.In base->base.Ns mainGlobals mg->aW P w K mg base CX k fa fd [x] sp) (hbind:∀ (s:Shared) (u:Value),BindsTo s fd ⟨[u],[]⟩ [(x,u)])
  (hsp:∀ H:Hp,SqL K H a (ns.map V.int)->(∀ p∈ts,H p.1=some (da p.2))->sp [.ref a] H (fun v _=>v=.bl true) fun _ _ _=>False)
  (hCX:∀ H e s',CX [] H s₁ (fun _ _ _=>False) e s'->False) :
  codeAny (model P w) callerA (.call (.ref fa) ⟨[.ref a],[]⟩) (fun r s'=>r=.ok (.ret (.bool true))/\OldK s₁.heap s'.heap/\s'.os=s₁.os/\AllBare s'.gens) s₁:=by
 have rv:=oX hi
 have lenV:=hi.length
 have nPa:∀ p∈ts,p.1≠a:=fun p hp z=>by have:=hPt p hp;rw [z,ha] at this;cases this
 have core:∀ H:Hp,SqL K H a (ns.map V.int)->HOk P w H s₁.heap->(∀ p∈ts,H p.1=some (da p.2))->(∀ b,H b≠none->(∃ p∈ts,b=p.1) ∨ (b=a/\∃ o xs,H b=some (.frz o (.lst xs))))->(H a≠none->K.lookup a=none) →
   codeAny (model P w) callerA (.call (.ref fa) ⟨[.ref a],[]⟩) (fun r s'=>r=.ok (.ret (.bool true))/\OldK s₁.heap s'.heap/\s'.os=s₁.os/\AllBare s'.gens) s₁:=by
  intro H hS hok hT hA hK
  have base_of:∀ {b:Addr}{o:Obj},s₁.heap.get? b=some o->H b=none->(pB s₁.heap H).get? b=some o:=fun e n=>yx e n
  have noO:∀ {b:Addr}{o:Obj},s₁.heap.get? b=some o->(∀ xs n,o.data≠.seq xs n)->(∀ xs,o.data≠.fields xs)->H b=none:=fun {b o} e d1 d2=>by
   cases qb:H b with
   | none=>rfl
   | some u =>
    rcases hA b (by rw [qb];simp) with ⟨p,hp,z⟩ | ⟨z,_⟩
    ·subst z
     rw [hPt p hp] at e;cases e
     exact absurd rfl (d2 _)
    ·subst z
     rw [ha] at e;cases e
     exact absurd rfl (d1 _ _)
  have nsK:∀ {b:Addr}{m:Str->Option Value},s₁.heap.Ns b m->(pB s₁.heap H).Ns b m:=fun {b m} ⟨o,es,ep,e,d,r⟩=>⟨o,es,ep,base_of e (noO e (fun _ _ z=>by rw [d] at z;cases z) fun _ z=>by rw [d] at z;cases z),d,r⟩
  have hKb:K.In (pB s₁.heap H):=fun b o e=>base_of (KX b o e) (by
   cases qb:H b with
   | none=>rfl
   | some u =>
    rcases hA b (by rw [qb];simp) with ⟨p,hp,z⟩ | ⟨z,_⟩
    ·subst z
     rw [hKP p hp] at e;cases e
    ·subst z
     rw [hK (by rw [qb];simp)] at e;cases e)
  have hM:Mod K mg (pB s₁.heap H):=⟨hKb,nsK hns,⟨mb,nsK hb,hbb⟩,let ⟨mc,h1,h2⟩:=hlim;⟨mc,nsK h1,h2⟩,let ⟨bm,ob,b1,b2,b3,b4,b5,b6⟩:=hbm;⟨bm,ob,b1,b2,base_of b3 (noO b3 (fun _ _ z=>by rw [b6] at z;cases z) fun _ z=>by rw [b6] at z;cases z),b4,b5,b6⟩⟩
  have e0:jq P w K mg (pB s₁.heap H) callerA [] s₁ H:=⟨rfl,hM,fun b o e=>Av e,Nat.le_of_eq (wI _ _),trivial,fun b hb=>absurd (show b∈([]:List Addr) from hb) (by simp),hok,.of_eq hg⟩
  refine codeAny_mono ((F _ hKb (nsK hns)).run callerA [] s₁ H ⟨[.ref a],[]⟩ [.ref a] [.ref a] _ _ hr e0 (hbind s₁ (.ref a)) (.cons rfl .nil) (hsp H hS hT)) fun r s' h=>?_
  cases r with
  | error e=>exact (hCX H e s' h).elim
  | ok fl =>
   cases fl with
   | next=>exact False.elim h
   | brk=>exact False.elim h
   | cont=>exact False.elim h
   | ret u =>
    obtain ⟨v,H',os,bare,un,hok',r',qv⟩:=h
    have qv':v=.bl true:=qv
    subst qv'
    obtain rfl:u=Value.bool true:=r'
    refine ⟨rfl,⟨fun b o e=>?_,fun b o e=>un.there b o e (by simp)⟩,os,bare⟩
    cases qb:H b with
    | none=>exact .inl (un.keep b o e qb (by intro z;exact absurd (show b∈([]:List Addr) from z) (by simp)) (by simp))
    | some u =>
     rcases hA b (by rw [qb];simp) with ⟨p,hp,z⟩ | ⟨z,ob,xs,z1⟩
     ·subst z
      obtain ⟨c,hc⟩:=hC p hp
      have hCd:=PySem.W.codeHd_of_K KX hc
      rw [hPt p hp] at e;cases e
      obtain ⟨more,z2⟩:=un.tbls p.1 _ (hT p hp)
      obtain ⟨qs,z3,_⟩:=(show aX P w H' s'.heap p.1 _ from hok' p.1 _ z2)
      exact .inr (.inl ⟨(hCd.tab (hPt p hp)).isCodeTable,rfl,#[],qs,rfl,by simpa using z3⟩)
     ·have z2:=un.frzs b ob _ z1
      obtain ⟨e1,_⟩:=hok b _ z1
      obtain ⟨e2,_⟩:=hok' b _ z2
      rw [e] at e1;cases e1
      exact .inl e2
 have okT:∀ (H:Hp),∀ p∈ts,aX P w H s₁.heap p.1 (da p.2):=fun H p hp=>⟨#[],hPt p hp,trivial,fun pos c z=>by simp [codeAmong] at z⟩
 have noa:iD ts a=none:=by
  cases q:iD ts a with
  | none=>rfl
  | some o =>
   obtain ⟨p,hp,z,_⟩:=jS q
   exact absurd z (nPa p hp)
 cases hk:K.lookup a with
 | some o =>
  have e:=KX a o hk
  rw [ha] at e
  cases e
  refine core (iD ts) (.inr ⟨_,vs.toArray,_,hk,rfl,rfl,rfl,by rw [List.size_toArray,lenV];exact hl,by simpa using rv⟩) (fun b u z=>?_) (qu hnd) (fun b z=>?_) fun z=>absurd noa z
  ·obtain ⟨p,hp,rfl,rfl⟩:=jS z
   exact okT _ p hp
  ·cases q:iD ts b with
   | none=>exact absurd q z
   | some o =>
    obtain ⟨p,hp,e,_⟩:=jS q
    exact .inl ⟨p,hp,e.symm⟩
 | none =>
  have hT:∀ p∈ts,upd (iD ts) a (.frz { cls:=.type "list",data:=.seq vs.toArray } (.lst (ns.map V.int))) p.1=some (da p.2):=fun p hp=>(av (nPa p hp)).trans (qu hnd p hp)
  refine core (upd (iD ts) a (.frz { cls:=.type "list",data:=.seq vs.toArray } (.lst (ns.map V.int)))) (.inl (.inr ⟨{ cls:=.type "list",data:=.seq vs.toArray },ay⟩)) (fun b u z=>?_) hT (fun b z=>?_) fun _=>hk
  ·by_cases hb2:b=a
   ·subst hb2
    rw [ay] at z
    cases z
    exact ⟨ha,by rw [List.length_map];exact hl,vs,_,rv,ha⟩
   ·rw [av hb2] at z
    obtain ⟨p,hp,rfl,rfl⟩:=jS z
    exact okT _ p hp
  ·by_cases hb2:b=a
   ·exact .inr ⟨hb2,_,_,by rw [hb2];exact ay⟩
   ·rw [av hb2] at z
    cases q:iD ts b with
    | none=>exact absurd q z
    | some o =>
     obtain ⟨p,hp,e,_⟩:=jS q
     exact .inl ⟨p,hp,e.symm⟩
theorem xA {l:PySem.W.OpenLaw}{n k:Nat}{qq:Program}{loose:List Str}{XP:(Str->Option Value)->Heap->Prop}{YP:World->Heap->Prop}{d:DefRec}{K:Params->PySem.W.Frag}{CX:World->CXT}{sp:World->Sp}{x:Str} (ts:List (Addr × Str))
  (hn:l.most=some n) (hn2:n<=sizeLine) (hdf:d.params.defaults=[]) (hr:bq k callerA) (hnd:(ts.map (·.1)).Nodup)
  (hY:∀ (w:World) (h:Heap),YP w h->(K w.params).In h/\∀ p∈ts,h.get? p.1=some { cls:=.none,data:=.fields #[] })
  (F:∀ (w:World) (mg:Str->Option Value) (fa:Addr) (h:Heap),(K w.params).In h->h.Ns mainGlobals mg->mg d.name=some (.ref fa) →
   (∀ p∈ts,∃ c,PySem.W.codeHdIn (K w.params) c p.1=true)/\∃ fd:FuncData,(∀ (s:Shared) (u:Value),BindsTo s fd ⟨[u],[]⟩ [(x,u)]) ∧
    ∀ base:Heap,(K w.params).In base->base.Ns mainGlobals mg->aW l.prog w (K w.params) mg base (CX w) k fa fd [x] (sp w))
  (hKP:∀ w:World,∀ p∈ts,(K w.params).lookup p.1=none)
  (hsp:∀ (w:World) (H:Hp) (a:Addr) (ns:List Int),ns.length<=n->SqL (K w.params) H a (ns.map V.int)->(∀ p∈ts,H p.1=some (da p.2))->sp w [.ref a] H (fun v _=>v=.bl true) fun _ _ _=>False)
  (hCX:∀ (w:World) (H:Hp) (s:Shared) (e:Value) (s':Shared),CX w [] H s (fun _ _ _=>False) e s'->False) :
  PySem.W.WalkO qq loose XP YP l.row.toRowW d [] (fun f vs=>PySem.call f vs):=by
 refine Att.qK hn hdf fun w s₀ s₁ mg mb fa o pm cd doc a vs ns G Y ho hd hcd hmg hobj hints hlen hg=>?_
 obtain ⟨KX,hPt⟩:=hY w _ Y
 obtain ⟨hC,fd,hb,hF⟩:=F w mg fa _ KX G.T.g hmg
 exact ti KX G.T.g G.T.b G.T.builtins G.T.nolimit G.T.bmain hg hobj hints (Nat.le_trans hlen hn2) hr hnd hC hPt (hKP w) hF hb (fun H hS hT=>hsp w H a ns hlen hS hT) fun H e s'=>hCX w H s₁ e s'
end L2

namespace L2
open PySem PySem.Spec PyProof.Rows
section
variable {prog:Program}{w:World}{A:Around}{E:Value->Shared->Prop}{h:Heap}{g:Array GenState}{d:Drawn}{t:Nat}{os:OsState}
variable {nm q:Str}{C N:Addr}{bs bm bmB:List Value}{hdct:Bool}{sn:List Str}{sub:List Value}{ab:Bool}{col:Option Bool}{dd:Option Addr}{k0 k1 k2 k3 k5:Option Value}{B newId initId:String}
abbrev dr (C t:Addr) (dx:Option Addr):Obj:={ cls:=.ref C,dict:=dx,data:=.fields #[.ref t,.none,.none,.none,.bool false,.none] }
abbrev jt (vs:List Value):Obj:={ cls:=.type "tuple",data:=.seq vs.toArray }
theorem AS (F:ExcBaseFacts B newId initId bmB) (T:OwnTail h bmB bm) {mN:Str->Option Value}{rest:List Value}{fI:Addr}{oI:Obj}{Q:Fin->Shared->Prop}
  (hC:h.get? C=some (excClassObj nm q C N bs bm hdct sn sub ab col dd k0 k1 k2 k3 k5 newId)) (hn:h.Ns N mN) (hi:mN "__init__"=some (.ref fI)) (hfI:h.get? fI=some oI) (hfc:oI.cls=.type "function") (hz:rest.length<=sizeLine)
  (k:wpAny (model prog w) A (call (.ref fI) (.ref (h.objs.size + 1)::rest)) (fun r s'=>r=.none/\Q (.done (.ret (.ref (h.objs.size + 1)))) s') E ⟨(h.push (jt rest)).push (dr C h.objs.size none),g,d,t,os⟩) :
  wpAny (model prog w) A (Builtin.«type.__call__» ⟨.ref C::rest,[]⟩) Q E ⟨h,g,d,t,os⟩:=by
 have up:∀ b o,h.get? b=some o->((h.push (jt rest)).push (dr C h.objs.size none)).get? b=some o:=fun b o e=>Heap.get?_push_of_some _ (Heap.get?_push_of_some _ e)
 have hC':=up _ _ hC
 have he:((h.push (jt rest)).push (dr C h.objs.size none)).get? (h.objs.size + 1)=some (dr C h.objs.size none):=by heap_get
 have own:(Value.ref C::bm).contains (.ref C)=true:=by simp
 repeat (first | with_reducible refine wpAny_loadPart_at hC ?_ | with_reducible refine wpAny_madeBy_exc hC ?_ | wp_step)
 refine codeAny_call_builtin_code (Code.quiet_builtin _ F.quiet) (wpAny_check_new_subT F T hC (codeAny_exc_new_subT F T hC ?_ hz))
 show wpAny _ _ _ _ _ _
 unfold isInstance
 repeat (first | with_reducible refine wpAny_loadPart_at he ?_ | (with_reducible refine wpAny_isSubtype_exc hC' ?_;rw [own]) | wp_step)
 show wpAny _ _ (typeLookup (.ref C) _) _ _ _
 refine wpAny_typeLookup_tail hC' (hn.keeps up) (T.keeps up) F.mroIs F.init.lookup ?_
 rw [hi]
 refine wpAny_holding (wpAny_bind ?_)
 unfold bindSpecial
 refine wpAny_bind (wpAny_typeOf (T:="function") ⟨_,up _ _ hfI,hfc⟩ ?_)
 rw [if_pos (by decide)]
 refine wpAny_pure (wpAny_bind (wpAny_mono k (fun r s' z=>?_) fun _ _ z=>z))
 obtain ⟨rfl,z⟩:=z
 wp_walk
 exact z
theorem AR (F:ExcBaseFacts B newId initId bmB) (T:OwnTail h bmB bm) {mN:Str->Option Value}{rest:List Value}{fI:Addr}{oI:Obj}{Q:Value->Shared->Prop}
  (hC:h.get? C=some (excClassObj nm q C N bs bm hdct sn sub ab col dd k0 k1 k2 k3 k5 newId)) (hn:h.Ns N mN) (hi:mN "__init__"=some (.ref fI)) (hfI:h.get? fI=some oI) (hfc:oI.cls=.type "function") (hz:rest.length<=sizeLine)
  (k:wpAny (model prog w) (A.under (.builtin "type.__call__" ⟨.ref C::rest,[]⟩)) (call (.ref fI) (.ref (h.objs.size + 1)::rest)) (fun r s'=>r=.none/\Q (.ref (h.objs.size + 1)) s') E ⟨(h.push (jt rest)).push (dr C h.objs.size none),g,d,t,os⟩) :
  wpAny (model prog w) A (call (.ref C) rest) Q E ⟨h,g,d,t,os⟩:=by
 have f1:=tc_lookup
 have f2:=tc_bind (.ref C)
 have ty:(⟨h,g,d,t,os⟩:Shared).TypeIs (.ref C) "type":=⟨_,hC,rfl⟩
 refine wpAny_call (codeAny_of_tree ?_)
 show wpAny _ _ (callAny (.ref C) _) _ _ _
 repeat (any_goals (first | assumption | with_reducible refine wpAny_loadPart_at hC ?_ | wp_step))
 exact ⟨rfl,codeAny_call_builtin_at (Code.quiet_builtin _ (by decide +kernel)) entry_typeCall (wpAny_check_type_call_sub hC (AS F T hC hn hi hfI hfc hz k))⟩
theorem zy {M:Model}{env:Env}{s:Shared}{x:Sem Value}{Q:Flow->Shared->Prop} (hbase:bm.contains (.type "BaseException")=true) (hh:A.handled=none)
  (k:wpAny M A x (fun v s₁=>∃ e t dx,v=.ref e/\s₁.heap.get? C=some (excClassObj nm q C N bs bm hdct sn sub ab col dd k0 k1 k2 k3 k5 newId)/\s₁.heap.get? e=some (dr C t dx)/\E (.ref e) s₁) E s) :
  wpAny M A (raiseStmt env (some x) none) Q E s:=by
 have has:(Value.ref C::bm).contains (.type "BaseException")=true:=by rw [List.contains_cons,hbase,Bool.or_true]
 unfold raiseStmt
 refine wpAny_bind (wpAny_mono k (fun v s₁ z=>?_) fun _ _ z=>z)
 obtain ⟨e,t,dx,rfl,hC,he,hE⟩:=z
 obtain ⟨hp,g,d,tk,os⟩:=s₁
 repeat (first | with_reducible refine wpAny_loadPart_at he ?_ | with_reducible refine wpAny_loadPart_at hC ?_ | (with_reducible refine wpAny_isSubtype_exc hC ?_;rw [has]) | wp_step)
 exact wpAny_raiseNew_none hh hE
end
def jb:List Value->Bool
 | .ref _::r=>jb r
 | l=>l == [.type "ValueError",.type "Exception",.type "BaseException",.type "object"]
theorem sV:∀ (l:List Value),jb l=true->l.contains (.type "object")=true/\∀ self,refuseLoop self "__setattr__" l=pure ():=by
 intro l
 induction l with
 | nil=>intro e;cases (beq_iff_eq.mp e:([]:List Value)=_)
 | cons v r ih =>
  intro e
  unfold jb at e
  split at e
  ·rename_i c r' z
   cases z
   obtain ⟨h1,h2⟩:=ih e
   refine ⟨by rw [List.contains_cons,h1,Bool.or_true],fun self=>?_⟩
   rw [refuseLoop_ref]
   exact h2 self
  ·have e':=beq_iff_eq.mp e
   rw [e']
   exact ⟨by decide +kernel,fun self=>by kernel_rfl⟩
section
variable {prog:Program}{w:World}{A:Around}{E:Value->Shared->Prop}{s:Shared}{K:PySem.W.Frag}{x C t:Addr}{name:Str}{v:Value}
theorem Dn {Q:Unit->Shared->Prop} (X:K.In s.heap) (hx:s.heap.get? x=some (dr C t none)) (hs:PySem.W.findIn K (.ref C) "__setattr__"=some (some (.builtin "object.__setattr__")))
  (hp:((PySem.W.clsIn K C).any fun cd=>jb cd.mro)=true) (ht:PySem.W.takerIn K C name=some none) (hh:PySem.W.hasDictIn K C=true)
  (k:∀ h',h'.get? x=some (dr C t (some s.heap.objs.size))->h'.Ns1 s.heap.objs.size (fun y=>if y=name then some v else none)->(∀ b o,b≠x->s.heap.get? b=some o->h'.get? b=some o)->Q () { s with heap:=h',toks:=s.toks + 2 }) :
  wpAny (model prog w) A (setAttr (.ref x) name v) Q E s:=by
 have J:PySem.W.InstAt s.heap x (dr C t none) C none:=⟨hx,rfl,rfl,trivial⟩
 refine PySem.W.set_plain X J hs ?_
 have SF:=PySem.F.store_object
 obtain ⟨cd,hc,ho⟩:=PySem.W.any_some hp
 obtain ⟨o1,o2⟩:=sV _ ho
 have ne:cd.mro.isEmpty=false:=by cases q:cd.mro with | nil=>rw [q] at o1;cases o1 | cons _ _=>rfl
 have sub:PySem.W.Looks (model prog w) s.heap (isInstance (.ref x) (.type "object")) true:=J.type.andThen (PySem.W.looks_mroIn X (by unfold PySem.W.mroIn;rw [hc,Option.bind_some,if_neg (by rw [ne];decide),o1]))
 refine codeAny_call_builtin SF.slot.plain SF.entry (@PySem.W.check_slot (model prog w) _ _ { s with toks:=s.toks + 1 } "object.__setattr__" "object" "__setattr__" (.ref x) [.str name s.toks,v] [] _ SF.kind SF.split sub (SF.args (.ref x) (.str name s.toks) v) ?_)
 obtain ⟨attr,ha,hr⟩:=Option.bind_eq_some_iff.mp ht
 have hm:PySem.W.Looks (model prog w) s.heap (mroOf (.ref C)) cd.mro:=(PySem.W.looks_clsIn X hc).andThen .now
 have L3:PySem.W.Looks (model prog w) s.heap (Builtin.ObjectAttr.storeTaker? attr) none:=by
  cases attr with
  | none=>exact .now
  | some a =>
   obtain ⟨b,hb,e⟩:=Option.map_eq_some_iff.mp hr
   refine (PySem.W.looks_takesIn X hb).andThen ?_
   cases b with
   | false=>exact .now
   | true=>cases e
 rw [PySem.W.osa_eq,refuse_eq]
 refine wpAny_bind (wpAny_bind (J.type.here (s:={ s with toks:=s.toks + 1 }) (wpAny_bind (hm.here (s:={ s with toks:=s.toks + 1 }) ?_))))
 rw [o2]
 refine wpAny_pure (wpAny_bind (J.type.here (s:={ s with toks:=s.toks + 1 }) (wpAny_bind ((PySem.W.looks_findIn X ha).here (s:={ s with toks:=s.toks + 1 }) (wpAny_bind (L3.here (s:={ s with toks:=s.toks + 1 }) ?_))))))
 obtain ⟨cd',hc',hd'⟩:=PySem.W.any_some hh
 refine wpAny_bind (wpAny_pure (wpAny_bind (wpAny_bind (wpAny_loadPart (s:={ s with toks:=s.toks + 1 }) hx (wpAny_bind (PySem.W.Looks.here (s:={ s with toks:=s.toks + 1 }) (PySem.W.looks_clsIn X hc') ?_))))))
 rw [hd']
 rw [if_neg (by decide)]
 refine wpAny_bind (m:=alloc PySem.W.emptyDict) (wpAny_alloc ?_)
 have e0:(s.heap.push PySem.W.emptyDict).get? x=some (dr C t none):=Heap.get?_push_of_some _ hx
 have ed:(s.heap.push PySem.W.emptyDict).get? s.heap.objs.size=some PySem.W.emptyDict:=Heap.get?_push_size s.heap rfl
 have nx:x≠s.heap.objs.size:=Nat.ne_of_lt (Heap.lt_size hx)
 refine wpAny_bind (wpAny_update (s:=⟨s.heap.push PySem.W.emptyDict,s.gens,s.drawn,s.toks + 1,s.os⟩) e0 ?_)
 have upx:((s.heap.push PySem.W.emptyDict).update x fun o=>{ o with dict:=some s.heap.objs.size }).get? x=some (dr C t (some s.heap.objs.size)):=Heap.get?_update_self _ e0 rfl
 have upo:∀ b o,b≠x->(s.heap.push PySem.W.emptyDict).get? b=some o->((s.heap.push PySem.W.emptyDict).update x fun o=>{ o with dict:=some s.heap.objs.size }).get? b=some o:=fun b o hb q=>(Heap.get?_update_other _ _ (Ne.symm hb)).trans q
 refine wpAny_pure (a:=some s.heap.objs.size) (wpAny_bind (wpAny_pure (wpAny_bind ?_)))
 have n0:((s.heap.push PySem.W.emptyDict).update x fun o=>{ o with dict:=some s.heap.objs.size }).Ns s.heap.objs.size (fun _=>none):=⟨PySem.W.emptyDict,#[],_,upo _ _ (Ne.symm nx) ed,rfl,(fun e he=>absurd he (by simp)),fun _=>rfl⟩
 refine wpAny_nsSet1 (s:=⟨(s.heap.push PySem.W.emptyDict).update x fun o=>{ o with dict:=some s.heap.objs.size },s.gens,s.drawn,s.toks + 1,s.os⟩) (Heap.Ns1.of_empty n0) fun h' hn2 hs2=>?_
 obtain ⟨oD,esD,epD,hoD,hdD,hcD⟩:=hn2.count (ns:=[name]) (fun y hy=>by
  by_cases z:y=name
  ·rw [z];simp
  ·exact absurd (if_neg z) hy)
 refine wpAny_bind (wpAny_lookBehind hoD (by rw [hdD];exact pastItsLine_dict (Nat.le_trans hcD (by rw [List.length_cons];exact Nat.succ_le_succ (Nat.zero_le _)))) ?_)
 exact wpAny_pure (k _ ((hs2.2 _ nx).trans upx) hn2 fun b o hb q=>(hs2.2 _ (Nat.ne_of_lt (Heap.lt_size q))).trans (upo b o hb (Heap.get?_push_of_some _ q)))
end
abbrev Af:List Value:=[.type "ValueError",.type "Exception",.type "BaseException",.type "object"]
theorem CG {K:PySem.W.Frag}{h:Heap}{N:Addr}{m:Str->Option Value}{x:Str}{v:Value} (X:K.In h) (G:h.Ns N m) (q:PySem.W.nsIn K N x=some (some v)):m x=some v:=by
 obtain ⟨ob,ents,pp,h1,h2,_,h3⟩:=G
 unfold PySem.W.nsIn at q
 split at q
 next c d l n sl e1 =>
  have e2:=(X _ _ e1).symm.trans h1
  cases e2
  cases h2
  split at q
  next u e3 =>
   cases q
   rw [← h3]
   unfold nsFind findBy
   rw [← Array.find?_toList,e3]
   rfl
  next=>split at q <;> cases q
 next=>cases q
structure vU (K:PySem.W.Frag) (C f:Addr):Prop where
 ex:∃ nm q N bs bm hdct sn sub ab col dd k0 k1 k2 k3 k5,K.lookup C=some (excClassObj nm q C N bs bm hdct sn sub ab col dd k0 k1 k2 k3 k5 "ValueError.__new__")/\PySem.W.nsOkIn K N=true/\PySem.W.nsIn K N "__init__"=some (some (.ref f))/\PySem.W.tailIn K Af bm=true
 fn:PySem.W.isFn K (.ref f)=true
 kp:PySem.W.keepIn K (.ref C)=true
theorem vU.at {K:PySem.W.Frag}{C f:Addr}{h:Heap} (O:vU K C f) (X:K.In h) :
  ∃ nm q N bs bm hdct sn sub ab col dd k0 k1 k2 k3 k5 mN oI,h.get? C=some (excClassObj nm q C N bs bm hdct sn sub ab col dd k0 k1 k2 k3 k5 "ValueError.__new__")/\h.Ns N mN/\mN "__init__"=some (.ref f)/\OwnTail h Af bm/\h.get? f=some oI/\oI.cls=.type "function":=by
 obtain ⟨nm,q,N,bs,bm,hdct,sn,sub,ab,col,dd,k0,k1,k2,k3,k5,h1,h2,h3,h4⟩:=O.ex
 have hns:h.Ns N _:=.of_isNs (PySem.W.isNs_of_in X h2)
 have hf:PySem.W.typeIn K (.ref f)=some (.type "function"):=beq_iff_eq.mp O.fn
 have:∃ oI,h.get? f=some oI/\oI.cls=.type "function":=by
  have hf':(K.lookup f).map (fun o=>o.cls)=some (.type "function"):=hf
  obtain ⟨o,q1,q2⟩:=Option.map_eq_some_iff.mp hf'
  exact ⟨o,X _ _ q1,q2⟩
 obtain ⟨oI,i1,i2⟩:=this
 exact ⟨nm,q,N,bs,bm,hdct,sn,sub,ab,col,dd,k0,k1,k2,k3,k5,_,oI,X _ _ h1,hns,CG X hns h3,PySem.W.tail_of_in X h4,i1,i2⟩
def xiO (e C:Addr) (dx:Option Addr):HO:=.ext fun h=>∃ t,h.get? e=some (dr C t dx)
theorem um {P:Program}{w:World}{H:Hp}{h:Heap}{e C t:Addr}{dx:Option Addr} (q:h.get? e=some (dr C t dx)):aX P w H h e (xiO e C dx):=⟨⟨t,q⟩,⟨_,q⟩,fun _ _ ⟨t,q⟩ k=>⟨t,k _ q⟩⟩
def hid (e:Addr) (H:Hp):Hp:=fun b=>if b=e then none else H b
theorem my {e:Addr}{H:Hp}:hid e H e=none:=by unfold hid;rw [if_pos rfl]
theorem fg {e b:Addr}{H:Hp} (h:b≠e):hid e H b=H b:=by unfold hid;rw [if_neg h]
structure xB (P:Program) (w:World) (K:PySem.W.Frag) (mg:Str->Option Value) (base:Heap) (CX:CXT) (C:Addr) (x:Str) (k:Nat) (ps:List Str) (sp:Sp):Prop where
 ex:∃ (f:Addr) (fd:FuncData),aW P w K mg base CX k f fd ps sp/\vU K C f/\Binds K fd ps []
 mg:mg x=some (.ref C)
section
variable {X:Cx}{pins:List (Addr × Obj)}{σ:St}{H:Hp}{s:Shared}
theorem Inv.hid {e:Addr}{φ:Heap->Prop} (I:Inv X pins σ H s) (h0:X.s₀.heap.objs.size<=e) (he:H e=some (.ext φ)):Inv X pins σ (L2.hid e H) s:=by
 have ne:∀ b u,X.s₀.heap.get? b=some u->b≠e:=fun b u q z=>absurd (Heap.lt_size q) (by rw [z];exact Nat.not_lt.mpr h0)
 have no:∀ b,H b=none->L2.hid e H b=none:=fun b q=>by unfold L2.hid;split;rfl;exact q
 refine ⟨I.ok,I.os,I.bare,⟨I.base.keep,I.base.slot,fun b o q n hx=>no b (I.base.free b o q n hx),I.base.there,fun b xs q=>?_,fun b ob u q=>?_,fun b ps q=>?_⟩,I.loc,I.cell,no _ I.free,fun x c q=>no _ (I.freeC x c q),fun p hp=>?_,fun b u q=>?_,I.len⟩
 ·have z:=I.base.tups b xs q
  rw [fg (fun y=>by rw [y,he] at z;cases z)];exact z
 ·have z:=I.base.frzs b ob u q
  rw [fg (fun y=>by rw [y,he] at z;cases z)];exact z
 ·obtain ⟨m,z⟩:=I.base.tbls b ps q
  exact ⟨m,by rw [fg (fun y=>by rw [y,he] at z;cases z)];exact z⟩
 ·obtain ⟨q1,q2,q3⟩:=I.pin p hp
  exact ⟨q1,no _ q2,q3⟩
 ·have hb:b≠e:=fun z=>by rw [z,my] at q;cases q
  rw [fg hb] at q
  refine (I.hok b u q).iP (fun _ _ _ z=>z) (fun c z=>?_) (fun c xs z=>?_) fun c ob u' z=>?_
  ·rw [fg (fun y=>by rw [y,he] at z;cases z)];exact z
  ·rw [fg (fun y=>by rw [y,he] at z;cases z)];exact z
  ·rw [fg (fun y=>by rw [y,he] at z;cases z)];exact z
def uu (X:Cx) (E:St->XK):Prop:=∀ (pins:List (Addr × Obj)) (σ:St) (H:Hp) (s:Shared) (e C t dx:Addr),Inv X pins σ H s->X.s₀.heap.objs.size<=e->s.heap.get? e=some (dr C t (some dx))->H e=none->(∃ fs,H dx=some (.xd fs))->E σ (.ref C) (some dx) H->X.xe (.ref e) s
end
section
variable {P:Program}{w:World}{K:PySem.W.Frag}{mg:Str->Option Value}{base:Heap}{N:List Str}{qual:Str}{scope:Scope}{f:Addr}{cd:Value}{A:Around}{outer:List Env}{s:Shared}{H:Hp}{E:XK}
theorem jk:uu (iq (CX1 P w) P w K mg base N qual scope f cd A outer s H E) (fun _=>E):=by
 intro pins σ H1 s1 e C t dx I h0 het hn hdx hE
 show wpAny _ _ _ _ _ _
 have hin:∀ env∈(envOfC qual scope s.heap.objs.size f cd::outer),∀ b,env.frame=some b->b∈e::frs (envOfC qual scope s.heap.objs.size f cd::outer):=fun env he b hb=>List.mem_cons_of_mem _ (List.mem_filterMap.mpr ⟨env,he,hb⟩)
 have st:(PySem.W.hideAll s1.heap (e::frs (envOfC qual scope s.heap.objs.size f cd::outer))).StaysIn s1.heap:=fun b o q=>PySem.W.of_hideAll _ q
 have ff:s1.heap.FunFrames (PySem.W.hideAll s1.heap (e::frs (envOfC qual scope s.heap.objs.size f cd::outer))) (envOfC qual scope s.heap.objs.size f cd::outer):=PySem.W.funFrames_hide I.stack hin
 have hen:(PySem.W.hideAll s1.heap (e::frs (envOfC qual scope s.heap.objs.size f cd::outer))).get? e=none:=PySem.W.hideAll_none _ List.mem_cons_self
 refine wpAny_mono (KD.any (E:=fun _ _=>False) (jc _ _) (wpAny_leaving_firstW (a0:=.ref t) (oe:=dr C t (some dx)) (Q:=fun _ s''=>∃ h',s''={ s1 with heap:=h' }/\Heap.FlyingW (PySem.W.hideAll s1.heap (e::frs (envOfC qual scope s.heap.objs.size f cd::outer))) outer e (.ref C) (.ref t) h'/\s1.heap.UpToSlots h') I.ok.frames ff rfl het st hen rfl rfl rfl fun h' hL=>?_)) ?_ (fun _ _ z=>False.elim z.1)
 ·obtain ⟨k1,⟨_,_,k2⟩,k3,k4⟩:=hL
  exact ⟨h',rfl,⟨k1,hen,k2,k3⟩,k4⟩
 rintro _ s'' ⟨⟨h',rfl,x1,x4⟩,dk⟩
 obtain ⟨u1,u2,u3⟩:=lM (h':=h') I rfl rfl rfl x1.1 x4 (fun b o e1 e2 e3=>PySem.W.hideAll_get _ e1 (fun z=>by
  rcases List.mem_cons.mp z with z | z
  ·subst z
   rcases e3 with q | ⟨u,q⟩
   ·exact q hn
   ·exact absurd (Heap.lt_size q) (Nat.not_lt.mpr h0)
  ·exact e2 z))
 obtain ⟨oe',hoe',_,hd',_⟩:=dk e _ het
 exact ⟨e,C,t,_,H1,some dx,rfl,I.os,I.bare,u1,u2,x1,⟨oe',hoe',hd'⟩,(fun dx' z=>by cases z;exact hdx),u3,hE⟩
end
def vM (C:Addr) (sp:Sp) (E:St->XK) (t:TA):TS:=fun _ σ H=>t σ H fun vs H1=>vs.length<=sizeLine/\∀ e H2,H1 e=none->ao H1 H2->H2 e=some (xiO e C none) →
 sp (.ref e::vs) H2 (fun v H3=>v=.non/\∃ dx fs,H3 e=some (xiO e C (some dx))/\H3 dx=some (.xd fs)/\E σ (.ref C) (some dx) (hid e H3)) (fun _ _ _=>False)
theorem nK {C:Addr}{sp:Sp}{E:St->XK}{t:TA}{D:Ends}{σ:St}{H:Hp}:vM C sp E t D σ H=t σ H fun vs H1=>vs.length<=sizeLine/\∀ e H2,H1 e=none->ao H1 H2->H2 e=some (xiO e C none) →
 sp (.ref e::vs) H2 (fun v H3=>v=.non/\∃ dx fs,H3 e=some (xiO e C (some dx))/\H3 dx=some (.xd fs)/\E σ (.ref C) (some dx) (hid e H3)) (fun _ _ _=>False):=propext Iff.rfl
section
variable {X:Cx}
theorem kq {x:Str}{C:Addr}{k:Nat}{ps:List Str}{sp:Sp}{E:St->XK}{e₀:Expr}{rest:List Expr}{t:TA}{np cpos pos:Pos} (M:xB X.prog X.w X.K X.mg X.base (CX1 X.prog X.w) C x k ps sp)
  (hrx:uu X E) (hc:X.calm=true) (hr:bq (k + 1) X.A) (ha:PA X (e₀::rest) t) (hg:X.env.kindOf x=some .globalImplicit:=by kernel_rfl) (hd:(x == ("__debug__":Str))=false:=by kernel_rfl) (hs:bw (e₀::rest)=true:=by kernel_rfl) :
  PS X (.Raise (some (.Call (.Name x np) (e₀::rest) [] cpos)) none pos) (vM C sp E t):=by
 intro pins s σ H D I h
 obtain ⟨f,fd,F,O,hb⟩:=M.ex
 obtain ⟨nm,q,N,bs,bm,hdct,sn,sub,ab,col,dd,k0,k1,k2,k3,k5,mN,oI,g1,g2,g3,g4,g5,g6⟩:=O.at I.ok.mod.kin
 have FB:=PySem.F.excBase_ValueError
 rw [arm_exec_Raise]
 refine wpAny_bind (wpAny_standAt ?_)
 refine zy (C:=C) (nm:=nm) (q:=q) (N:=N) (bs:=bs) (bm:=bm) (hdct:=hdct) (sn:=sn) (sub:=sub) (ab:=ab) (col:=col) (dd:=dd) (k0:=k0) (k1:=k1) (k2:=k2) (k3:=k3) (k5:=k5) (newId:="ValueError.__new__") (g4.hasType FB.hasBase) (I.ok.hd hc) ?_
 refine wpAny_bind (wpAny_Call_Name_kw (eP I hg M.mg ?_ hd))
 refine PySem.W.callWith_K (h₀:=X.base) I.ok.mod.kin O.kp (thn (ha cpos pins s σ H _ I h) fun us s1 ⟨vs,H1,I1,r,hz,q1⟩=>⟨I1.kIn,?_⟩) (aA (aC hs).1) (bf (aC hs).2)
 obtain ⟨hh,gg,d1,tt,os⟩:=s1
 have e2:((hh.push (jt us)).push (dr C hh.objs.size none)).get? (hh.objs.size + 1)=some (dr C hh.objs.size none):=by heap_get
 have J1:Inv X pins σ H1 ⟨hh.push (jt us),gg,d1,tt,os⟩:=I1.kept (t':=tt) (h':=hh.push (jt us)) fun b u z=>Heap.get?_push_of_some _ z
 have J2:=J1.laid (a:=hh.objs.size + 1) (o:=xiO (hh.objs.size + 1) C none) (h':=(hh.push (jt us)).push (dr C hh.objs.size none)) (t':=tt) (fun b u z=>Heap.get?_push_of_some _ z) (Nat.le_of_eq (Heap.size_push _ _)) (um e2)
 have fr:H1 (hh.objs.size + 1)=none:=I1.hok.fresh (Nat.le_succ _)
 have hq:=q1 (hh.objs.size + 1) _ fr (cg fr) ay
 have r2:Vals (V.ref (hh.objs.size + 1)::vs) (Value.ref (hh.objs.size + 1)::us):=.cons rfl r
 have hl:(Value.ref (hh.objs.size + 1)::us++[]).length=ps.length:=by
  rw [List.append_nil,← r2.length];exact F.len _ _ _ _ hq
 refine AR FB (g4.keeps I1.bk) (I1.bk _ _ g1) (g2.keeps I1.bk) g3 (I1.bk _ _ g5) g6 (show us.length<=_ by rw [← r.length];exact hz) ?_
 have hbb:=hb ⟨(hh.push (jt us)).push (dr C hh.objs.size none),gg,d1,tt,os⟩ (Value.ref (hh.objs.size + 1)::us) J2.kIn hl
 rw [List.append_nil] at hbb
 refine wpAny_call (codeAny_mono (F.run _ X.stack _ _ ⟨Value.ref (hh.objs.size + 1)::us,[]⟩ (Value.ref (hh.objs.size + 1)::us) _ _ (fun _ _ _=>False) (hr.make C us []) (J2.wB.make C us []) hbb r2 hq) fun r s' hq'=>?_)
 cases r with
 | error e=>exact (kg hq').elim
 | ok fl =>
  cases fl with
  | ret u =>
   obtain ⟨v,H',I3,rv,ev,dx,fs,q3,q4,q5⟩:=J2.after hq'
   subst ev
   refine ⟨rv,?_⟩
   obtain ⟨⟨t',e3⟩,_⟩:=(show aX X.prog X.w H' s'.heap _ (xiO (hh.objs.size + 1) C (some dx)) from I3.hok _ _ q3)
   have h0:X.s₀.heap.objs.size<=hh.objs.size + 1:=Nat.le_succ_of_le I1.sz
   have hne:dx≠hh.objs.size + 1:=fun z=>by rw [z,q3] at q4;cases q4
   refine wpAny_bind (wpAny_standAt (wpAny_pure ?_))
   exact ⟨_,t',some dx,rfl,I3.bk _ _ g1,e3,hrx pins σ _ s' _ C t' dx (I3.hid h0 q3) h0 e3 my ⟨fs,by rw [fg hne];exact q4⟩ q5⟩
  | next=>exact False.elim hq'
  | brk=>exact False.elim hq'
  | cont=>exact False.elim hq'
end
def rFS:V->Hp->VK->Prop:=fun v H Q=>match v with
 | .int n=>0<=n/\n < 1000000/\∀ y,Q (.str y) H
 | _=>False
def tFS (te:TE):TE:=fun σ H Q=>te σ H fun v H1=>rFS v H1 Q
theorem Bj {te:TE}{σ:St}{H:Hp}{Q:VK}:tFS te σ H Q=te σ H fun v H1=>rFS v H1 Q:=propext Iff.rfl
section
variable {X:Cx}
theorem Bv {lit:Str}{e:Expr}{te:TE}{k:Nat}{p1 p2 pos:Pos} (he:PE X e te) (hz:lit.length<=1000:=by decide) :
  PE X (.JoinedStr [.Constant (.str lit) k p1,.FormattedValue e (-1) none p2] pos) (tFS te):=by
 intro pins s σ H Q I h
 refine PyProof.Rows.JoinedStr_many (PyProof.Rows.joinParts_cons (Calls.Constant_str ⟨?_,PyProof.Rows.joinParts_cons (PyProof.Rows.FormattedValue_plain (thn (he pins _ σ H _ (I.tok _) h) fun u s1 ⟨x,H1,I1,rx,q⟩=>?_))⟩))
 ·show (Str.empty++lit).length<=sizeLine
  rw [strLen_append]
  exact Nat.le_trans (Nat.add_le_add (Nat.le_refl _) hz) (by decide)
 replace q:rFS x H1 Q:=q
 unfold rFS at q
 split at q
 next n =>
  obtain ⟨n0,n1,q⟩:=q
  obtain ⟨tk,rfl⟩:=(show ∃ t,u=Value.int n t from rx)
  have hl:n.natAbs.log2 < 1920:=by
   by_cases h0:n.natAbs=0
   ·rw [h0];decide
   ·exact (Nat.log2_lt h0).mpr (Nat.lt_of_lt_of_le (by omega:n.natAbs < 2 ^ 20) (Nat.pow_le_pow_right (by decide) (by decide)))
  have hl2:=int_text_length_le (a:=n) (k:=1920) (by decide) hl
  have hz2:((Str.empty++lit)++Str.ofString (toString n)).length<=sizeLine:=by
   rw [strLen_append,strLen_append,PySem.ofString_length,sizeLine_eq]
   have:Str.empty.length=0:=rfl
   omega
  exact PyProof.Rows.formatField_int_small hl ⟨hz2,PyProof.Rows.joinParts_nil ⟨.str _,H1,I1.tok _,⟨_,rfl⟩,q _⟩ hz2⟩
 next=>exact q.elim
end
structure Be (K:PySem.W.Frag) (B:Addr):Prop where
 ga:PySem.W.specialIn K (.ref B) "__getattribute__"=some (some (.builtin "type.__getattribute__"))
 rd:PySem.W.readsIn K B (.type "type")=true
 fc:PySem.W.findCls K (.ref B) (.type "type") "__init__"=some (.val (.builtin "ValueError.__init__"))
def rBI (K:PySem.W.Frag):List V->Hp->VK->Prop:=fun vs H Q=>match vs with
 | [.ref e,_]=>∃ C,H e=some (xiO e C none)/\(∃ f,vU K C f)/\Q .non H
 | _=>False
def tBI (K:PySem.W.Frag) (t:TA):TE:=fun σ H Q=>t σ H fun vs H1=>rBI K vs H1 Q
theorem Bg {K:PySem.W.Frag}{t:TA}{σ:St}{H:Hp}{Q:VK}:tBI K t σ H Q=t σ H fun vs H1=>rBI K vs H1 Q:=propext Iff.rfl
section
variable {X:Cx}
theorem kS {K:PySem.W.Frag}{pl:Sem Bool}{x:Str}{B:Addr}{e₀:Expr}{rest:List Expr}{t:TA}{np apos pos:Pos} (hK:X.K=K) (BI:Be K B) (hm:X.mg x=some (.ref B)) (ha:PA X (e₀::rest) t)
  (hg:X.env.kindOf x=some .globalImplicit:=by kernel_rfl) (hd:(x == ("__debug__":Str))=false:=by kernel_rfl) (hs:bw (e₀::rest)=true:=by kernel_rfl)
  (ht:eval (.Call (.Attribute (.Name x np) "__init__" apos) (e₀::rest) [] pos) X.env=(do
   let ov ← eval (.Name x np) X.env
   standAt apos.atName
   let (f,first) ← holding [ov] (getMethod ov "__init__" pl)
   callWith pos f first (backTo pos (starEach (e₀::rest) X.env)) (backToKw pos (keywordEach [] X.env))):=by rfl) :
  PE X (.Call (.Attribute (.Name x np) "__init__" apos) (e₀::rest) [] pos) (tBI K t):=by
 subst hK
 intro pins s σ H Q I h
 have FB:=PySem.F.excBase_ValueError
 refine PySem.W.methodCall_KW (pl:=pl) (eP I hg hm (PySem.W.method_cls I.kIn BI.ga (PySem.W.cls_value I.kIn BI.rd BI.fc (by decide +kernel) ?_)) hd) ht
 refine PyProof.Rows.callWith_builtin1 (thn (ha pos pins _ σ H _ (I.tok _) h) fun us s1 ⟨vs,H1,I1,r,q⟩=>?_) (aA (aC hs).1) (bf (aC hs).2)
 replace q:rBI X.K vs H1 Q:=q
 unfold rBI at q
 split at q
 next e y =>
  obtain ⟨C,he,⟨f,O⟩,hQ⟩:=q
  obtain ⟨u1,u2,rfl,r1,r2⟩:=vals2 r
  cases (show u1=Value.ref e from r1)
  obtain ⟨nm,qn,N,bs,bm,hdct,sn,sub,ab,col,dd,k0,k1,k2,k3,k5,mN,oI,g1,g2,g3,g4,g5,g6⟩:=O.at I1.kIn
  obtain ⟨⟨t',e3⟩,_⟩:=(show aX X.prog X.w H1 s1.heap _ (xiO e C none) from I1.hok _ _ he)
  obtain ⟨hh,gg,d1,tt,os⟩:=s1
  refine wpAny_call (codeAny_call_builtin FB.init.plain FB.initEntry (wpAny_check_init_subT FB g4 g1 e3 rfl ?_))
  wp_walk
  have e4:(hh.push { cls:=.type "tuple",data:=.seq #[u2] }).get? e=some (dr C t' none):=Heap.get?_push_of_some _ e3
  refine ⟨.non,H1,?_,rfl,hQ⟩
  have J:=(I1.kept (t':=tt) (h':=hh.push { cls:=.type "tuple",data:=.seq #[u2] }) fun b u z=>Heap.get?_push_of_some _ z)
  have W:=J.write (x:=e) (e:=e) (o:=xiO e C none) (t':=tt) (h':=(hh.push { cls:=.type "tuple",data:=.seq #[u2] }).update e (Obj.mapFields fun x=>x.setIfInBounds 0 (Value.ref hh.objs.size))) (by rw [he];trivial) (.inl rfl)
   (fun b u hb z=>(Heap.get?_update_other _ _ (Ne.symm hb)).trans z) ⟨_,Heap.get?_update_self _ e4 rfl⟩ (um (t:=hh.objs.size) (Heap.get?_update_self _ e4 rfl))
  have same:upd H1 e (xiO e C none)=H1:=by
   funext b
   by_cases z:b=e
   ·rw [z,ay,he]
   ·exact av z
  rw [same] at W
  exact W
 next=>exact q.elim
structure zW (K:PySem.W.Frag) (C:Addr) (f:Str):Prop where
 sa:PySem.W.findIn K (.ref C) "__setattr__"=some (some (.builtin "object.__setattr__"))
 mr:((PySem.W.clsIn K C).any fun cd=>jb cd.mro)=true
 tk:PySem.W.takerIn K C f=some none
 hd:PySem.W.hasDictIn K C=true
def vK (K:PySem.W.Frag) (f:Str) (x v:V) (H:Hp) (Q:Hp->Prop):Prop:=match x with
 | .ref e=>∃ C,H e=some (xiO e C none)/\zW K C f/\∀ dx H',H dx=none->dx≠e->H' e=some (xiO e C (some dx))->H' dx=some (.xd [(f,v)])->ao (hid e H) (hid e H')->Q H'
 | _=>False
def BK (K:PySem.W.Frag) (ta tv:TE) (f:Str):TS:=fun D σ H=>tv σ H fun y H1=>ta σ H1 fun x H2=>vK K f x y H2 fun H3=>D.nx σ H3
theorem uI {K:PySem.W.Frag}{ta tv:TE}{f:Str}{D:Ends}{σ:St}{H:Hp}:BK K ta tv f D σ H=tv σ H fun y H1=>ta σ H1 fun x H2=>vK K f x y H2 fun H3=>D.nx σ H3:=propext Iff.rfl
theorem vE {K:PySem.W.Frag}{o value:Expr}{ta tv:TE}{f:Str}{pos pos':Pos} (hK:X.K=K) (ha:PE X o ta) (hv:PE X value tv) (hs:swapsWith value (some (.Attribute o f pos')) pos.line X.env=pure false:=by kernel_rfl) :
  PS X (.Assign [.Attribute o f pos'] value pos) (BK K ta tv f):=by
 subst hK
 intro pins s σ H D I h
 refine plainObj_wpAny_Assign_Attribute (thn (hv pins s σ H _ I h) fun u s1 ⟨y,H1,I1,ry,q⟩=>thn (ha pins s1 σ H1 _ I1 q) fun ov s2 ⟨x,H2,I2,rx,q2⟩=>?_) hs
 replace q2:vK X.K f x y H2 (fun H3=>D.nx σ H3):=q2
 unfold vK at q2
 split at q2
 next e =>
  obtain ⟨C,he,SC,q3⟩:=q2
  cases (show ov=Value.ref e from rx)
  obtain ⟨⟨t',e3⟩,_⟩:=(show aX X.prog X.w H2 s2.heap _ (xiO e C none) from I2.hok _ _ he)
  refine Dn I2.kIn e3 SC.sa SC.mr SC.tk SC.hd fun h' h1 h2 h3=>?_
  have hn:H2 s2.heap.objs.size=none:=I2.fresh
  have ne:s2.heap.objs.size≠e:=fun z=>by rw [z,he] at hn;cases hn
  have J:=I2.write (x:=e) (e:=e) (o:=xiO e C (some s2.heap.objs.size)) (h':=h') (t':=s2.toks + 2) (by rw [he];trivial) (.inl rfl) (fun b u' hb z=>h3 b u' hb z) ⟨_,h1⟩ (um h1)
  have hn':upd H2 e (xiO e C (some s2.heap.objs.size)) s2.heap.objs.size=none:=by rw [av ne];exact hn
  have J2:=J.zL (a:=s2.heap.objs.size) (o:=.xd [(f,y)]) hn' (Heap.get?_none_of_le I2.sz) (fun z=>absurd I2.lt (by rw [z];exact Nat.lt_irrefl _))
   (fun yy c hc z=>by
    obtain ⟨w9,o9,e9,_⟩:=I2.cell yy c hc
    rw [z] at e9
    exact absurd (Heap.lt_size e9) (Nat.lt_irrefl _))
   (fun p hp z=>by
    have e9:=(I2.pin p hp).1
    rw [z] at e9
    exact absurd (Heap.lt_size e9) (Nat.lt_irrefl _))
   ⟨_,h2,fun g=>by
    by_cases z:g=f
    ·subst z
     rw [if_pos rfl]
     simp only [List.lookup,beq_self_eq_true]
     exact ry
    ·rw [if_neg z]
     have hb:(g == f)=false:=beq_eq_false_iff_ne.mpr z
     simp only [List.lookup,hb]
     exact True.intro⟩
  refine ⟨σ,_,J2,q3 s2.heap.objs.size _ hn ne (by rw [av (Ne.symm ne),ay]) ay fun b o hb=>?_⟩
  by_cases z:b=e
  ·rw [z,my] at hb;cases hb
  ·rw [fg z] at hb ⊢
   have hb2:b≠s2.heap.objs.size:=fun y=>by rw [y,hn] at hb;cases hb
   rw [av hb2,av z]
   exact hb
 next=>exact q2.elim
end
def vH (K:PySem.W.Frag) (f:Str) (x:V) (H:Hp) (Q:VK):Prop:=match x with
 | .ref a=>∃ C dx fs v,H a=some (ij a (.ref C) (some dx))/\H dx=some (.xd fs)/\oZ K C/\zW K C f/\PySem.W.findIn K (.ref C) f=some none/\fs.lookup f=some v/\Q v H
 | _=>False
def BP (K:PySem.W.Frag) (ta:TE) (f:Str):TE:=fun σ H Q=>ta σ H fun x H1=>vH K f x H1 Q
theorem u7 {K:PySem.W.Frag}{ta:TE}{f:Str}{σ:St}{H:Hp}{Q:VK}:BP K ta f σ H Q=ta σ H fun x H1=>vH K f x H1 Q:=propext Iff.rfl
theorem Ah {prog:Program}{w:World}{A:Around}{E:Value->Shared->Prop}{s:Shared}{K:PySem.W.Frag}{x D:Addr}{ox:Obj}{odo:Option Obj}{name:Str}{v:Value}{ex:Bool}{Q:Value->Shared->Prop}
  (X:K.In s.heap) (I:PySem.W.InstAt s.heap x ox D odo) (C:oZ K D) (hf:PySem.W.findObj K D odo name=some (.value v)) (hv:PySem.W.handedIn v=true) (h:Q v { s with toks:=s.toks + 1 }) :
  wpAny (model prog w) A (getAttr (.ref x) name ex) Q E s:=by
 obtain ⟨hh,gg,dd,tt,os⟩:=s
 have L0:∀ {M},PySem.W.Looks M hh (typeOf (.ref x)) (.ref D):=I.type
 have L1:∀ {M},PySem.W.Looks M hh (typeLookup (.ref D) "__getattribute__") _:=PySem.W.looks_findIn X C.ga
 have L2:∀ {M},PySem.W.Looks M hh (typeLookup (.ref D) "__getattr__") _:=PySem.W.looks_findIn X C.gn
 have L3:∀ {M},PySem.W.Looks M hh (isSubtype (.ref D) (.type "BaseException")) _:=PySem.W.looks_subIn X C.sb
 have L4:∀ {M},PySem.W.Looks M hh (Builtin.ObjectAttr.find (.ref x) (.ref D) name) _:=PySem.W.looks_find X I hf
 have L5:∀ {M},PySem.W.Looks M hh (isInstance (.ref x) (.type "BaseException")) true:=by
  intro M;unfold isInstance;exact PySem.W.Looks.andThen (f:=fun t=>isSubtype t (.type "BaseException")) L0 L3
 have f3:=F.excAttr_ValueError.ga.bind (Value.ref x)
 unfold getAttr
 refine wpAny_bind (wpAny_mkText ?_)
 unfold getAttrBy
 refine wpAny_holding (wpAny_bind (L0.at (wpAny_bind (L1.at ?_))))
 refine wpAny_ite_false rfl ?_
 unfold getAttrByItsOwn
 refine wpAny_bind ?_
 unfold hookBefore
 refine wpAny_ite_true rfl (L2.at ?_)
 refine wpAny_bind (wpAny_attempt (wpAny_holding ?_))
 unfold callGetattribute
 refine wpAny_ite_false (by cases ex <;> rfl) ?_
 unfold boundAndCalled
 refine wpAny_bind (wpAny_of_eq f3 ?_)
 refine wpAny_call (codeAny_call_builtin F.excAttr_ValueError.ga.plain F.entry_bexc_ga ?_)
 refine ri L5 ?_
 show wpAny _ _ (Builtin.«object.__getattribute__» { pos:=[Value.ref x,Value.str name _] }) _ _ _
 unfold Builtin.«object.__getattribute__»
 refine wpAny_bind ?_
 unfold slotArgs
 refine wpAny_ite_false rfl (wpAny_ite_false rfl (wpAny_pure ?_))
 refine wpAny_bind (wpAny_pure ?_)
 refine wpAny_bind (L0.at (wpAny_bind (L4.at ?_)))
 refine wpAny_pure ?_
 show wpAny _ _ (handedOut v) _ _ _
 rw [PySem.W.handedOut_of hv]
 exact wpAny_pure h
theorem sX {v:V}{u:Value} (r:RelV v u):PySem.W.handedIn u=true:=by
 cases v <;> first | (obtain ⟨t,rfl⟩:=r;rfl) | (cases r;rfl)
section
variable {X:Cx}
theorem Es {P:Program}{w:World}{H:Hp}{h:Heap}{dx:Addr}{fs:List (Str × V)}{f:Str}{v:V} (x:HOk P w H h) (e:H dx=some (.xd fs)) (l:fs.lookup f=some v):∃ od u,h.get? dx=some od/\PySem.W.lookIn f od=some (some u)/\RelV v u:=by
 obtain ⟨mA,n1,r⟩:=(show aX P w H h dx (.xd fs) from x dx _ e)
 have rf:=r f
 rw [l] at rf
 obtain ⟨od,ho,hl⟩:=oF n1
 cases hm:mA f with
 | none=>rw [hm] at rf;exact rf.elim
 | some u=>rw [hm] at rf;exact ⟨od,u,ho,by rw [hl,hm],rf⟩
theorem AA {K:PySem.W.Frag}{e:Expr}{ta:TE}{f:Str}{pos:Pos} (hK:X.K=K) (he:PE X e ta) (hb:attributeBase e f X.env (eval e X.env)=eval e X.env:=by kernel_rfl):PE X (.Attribute e f pos) (BP K ta f):=by
 subst hK
 intro pins s σ H Q I h
 refine uN hb (thn (he pins s σ H _ I h) fun u s1 ⟨x,H1,I1,rx,q⟩=>?_)
 replace q:vH X.K f x H1 Q:=q
 unfold vH at q
 split at q
 next a =>
  obtain ⟨C,dx,fs,v,q1,q2,q3,q3',q4,q5,q6⟩:=q
  cases (show u=Value.ref a from rx)
  obtain ⟨⟨o,e1,e2,e3,vs,e4⟩,_⟩:=(show aX X.prog X.w H1 s1.heap a (ij a (.ref C) (some dx)) from I1.hok a _ q1)
  obtain ⟨od,uv,d1,d2,d3⟩:=Es I1.hok q2 q5
  have J:PySem.W.InstAt s1.heap a o C (some od):=⟨e1,e2,(by unfold PySem.W.notCls;rw [e4]),(by rw [e3];exact d1)⟩
  refine Ah I1.kIn J q3 ?_ (sX d3) ⟨v,H1,I1.tok _,d3,q6⟩
  obtain ⟨cd,hc⟩:=Option.isSome_iff_exists.mp q3.cl
  unfold PySem.W.findObj
  rw [hc,Option.bind_some,q4,Option.bind_some]
  have hdd:cd.hasDict=true:=by
   obtain ⟨cd',hc',hd'⟩:=PySem.W.any_some q3'.hd
   rw [hc] at hc'
   cases hc'
   exact hd'
  show (PySem.W.ownOf cd (some od) f).bind _=_
  have ow:PySem.W.ownOf cd (some od) f=some (some uv):=by
   unfold PySem.W.ownOf
   rw [if_pos hdd]
   exact d2
  rw [ow]
  rfl
 next=>exact q.elim
end
def zl (K:PySem.W.Frag):List V->Hp->VK->Prop:=fun vs H Q=>match vs with
 | [.ref a,.ref c]=>∃ C d b,H a=some (ij a (.ref C) d)/\(∀ dx,d=some dx->∃ fs,H dx=some (.xd fs))/\oZ K C/\PySem.W.kitOne K (.ref C) (.ref c)=some b/\Q (.bl b) H
 | [.ref a,.ty n]=>∃ C d b,H a=some (ij a (.ref C) d)/\(∀ dx,d=some dx->∃ fs,H dx=some (.xd fs))/\oZ K C/\PySem.W.kitOne K (.ref C) (.type n)=some b/\Q (.bl b) H
 | _=>False
theorem oq {P:Program}{w:World}{H:Hp}{h:Heap}{a C:Addr}{d:Option Addr} (x:HOk P w H h) (e:H a=some (ij a (.ref C) d)) (hd:∀ dx,d=some dx->∃ fs,H dx=some (.xd fs)):ExcAt a C h:=by
 obtain ⟨⟨o,e1,e2,e3,vs,e4⟩,_⟩:=(show aX P w H h a (ij a (.ref C) d) from x a _ e)
 cases d with
 | none =>
  refine ⟨o,none,e1,e2,?_,?_⟩
  ·unfold PySem.W.notCls;rw [e4]
  ·rw [e3];trivial
 | some dx =>
  obtain ⟨fs,q⟩:=hd dx rfl
  obtain ⟨od,ho⟩:=mD (x dx _ q)
  refine ⟨o,some od,e1,e2,?_,?_⟩
  ·unfold PySem.W.notCls;rw [e4]
  ·rw [e3];exact ho
theorem bj {X:Cx}{K:PySem.W.Frag} (hK:X.K=K):bE X (.builtin "isinstance") (zl K):=by
 subst hK
 intro pins s σ H xs us Q I r h
 match xs,h with
 | [.ref a,.ref c],h =>
  obtain ⟨C,d,b,h1,h2,h3,h4,q⟩:=h
  obtain ⟨u,v,rfl,r1,r2⟩:=vals2 r
  cases (show v=Value.ref c from r2)
  cases (show u=Value.ref a from r1)
  exact PySem.W.kia_one (rp h3) I.kIn (oq I.hok h1 h2) h4 (fun z=>by cases z) fun tk=>⟨.bl b,H,I.tok _,rfl,q⟩
 | [.ref a,.ty n],h =>
  obtain ⟨C,d,b,h1,h2,h3,h4,q⟩:=h
  obtain ⟨u,v,rfl,r1,r2⟩:=vals2 r
  cases (show v=Value.type n from r2)
  cases (show u=Value.ref a from r1)
  exact PySem.W.kia_one (rp h3) I.kIn (oq I.hok h1 h2) h4 (fun z=>by cases z) fun tk=>⟨.bl b,H,I.tok _,rfl,q⟩
theorem rZ {e:Addr}{H1 H2 H3:Hp} (n:H1 e=none) (a:ao H1 H2) (b:ao (hid e H2) (hid e H3)):ao H1 (hid e H3):=fun c o q=>by
 have hc:c≠e:=fun z=>by rw [z,n] at q;cases q
 exact b c o (by rw [fg hc];exact a c o q)
abbrev TH:=Value->Addr->TS
structure Cc (X:Cx) (pins:List (Addr × Obj)) (σ:St) (H:Hp) (s:Shared) (ea C t:Addr) (B:Heap) (d:Option Addr):Prop where
 mkI:∀ h6,Heap.FlyingW B X.stack ea (.ref C) (.ref t) h6->s.heap.UpToSlots h6->(∃ o6,h6.get? ea=some o6/\o6.dict=d)->Inv X pins σ (upd H ea (ij ea (.ref C) d)) { s with heap:=h6 }
 fl:Heap.FlyingW B X.stack ea (.ref C) (.ref t) s.heap
 obj:∃ oe,s.heap.get? ea=some oe/\oe.dict=d
def PH (X:Cx) (hs:List ExceptHandler) (th:TH):Prop:=∀ (pins:List (Addr × Obj)) (s:Shared) (σ:St) (H:Hp) (D:Ends) (ea C t:Addr) (B:Heap) (d:Option Addr),X.Ok->Cc X pins σ H s ea C t B d->th (.ref C) ea D σ (upd H ea (ij ea (.ref C) d)) →
 wpAny (model X.prog X.w) X.A (handleBy (.ref ea) X.env hs) (SP X pins D) X.xe s
theorem zP (h:Heap):h.UpToSlots h:=Heap.UpToSlots.of_keeps fun _ _ e=>e
def BX:TH:=fun _ _ _ _ _=>False
def Eg (K:PySem.W.Frag) (CE:Addr) (i:Nat) (t1:TS) (r:TH):TH:=fun c ea D σ H=>∃ b,PySem.W.exmOne K c (.ref CE)=some b/\if b=true then t1 (D.un i) (σ.set i (some (.ref ea))) H else r c ea D σ H
theorem qJ {c:Value}{ea:Addr}{D:Ends}{σ:St}{H:Hp}:BX c ea D σ H=False:=propext Iff.rfl
theorem uL {K:PySem.W.Frag}{CE:Addr}{i:Nat}{t1:TS}{r:TH}{c:Value}{ea:Addr}{D:Ends}{σ:St}{H:Hp}:Eg K CE i t1 r c ea D σ H=(∃ b,PySem.W.exmOne K c (.ref CE)=some b/\if b=true then t1 (D.un i) (σ.set i (some (.ref ea))) H else r c ea D σ H):=propext Iff.rfl
section
variable {X:Cx}
theorem Df:PH X [] BX:=fun _ _ _ _ _ _ _ _ _ _ _ _ h=>h.elim
theorem Bw {x n:Str}{i:Nat}{CE:Addr}{np hpos:Pos}{b₀:Stmt}{suite:List Stmt}{hs:List ExceptHandler}{t1:TS}{r:TH} (hN:X.N.Nodup) (hm:X.mg x=some (.ref CE))
  (hh:∀ ea:Addr,PSs { X with A:=X.A.mark (some (.ref ea)),calm:=false,xe:=fun _ _=>False } (b₀::suite) t1) (hr:PH X hs r)
  (hi:X.N[i]?=some n:=by kernel_rfl) (hn:X.env.scope.names.lookup n=some .local:=by kernel_rfl) (hg:X.env.kindOf x=some .globalImplicit:=by kernel_rfl) (hd:(x == ("__debug__":Str))=false:=by kernel_rfl) :
  PH X (.ExceptHandler (some (.Name x np)) (some n) (b₀::suite) hpos::hs) (Eg X.K CE i t1 r):=by
 intro pins s σ H D ea C t B d ok L h
 obtain ⟨bb,hb,q⟩:=h
 obtain ⟨oe,hoe,hdo⟩:=L.obj
 have I5:=L.mkI s.heap L.fl (zP _) ⟨oe,hoe,hdo⟩
 obtain ⟨o5',v5,e5',c5,t5,_⟩:=L.fl.first
 rw [hoe] at e5'
 cases e5'
 refine wpAny_handleBy_cons (codeAny_handlers_test ?_) (by intro q;cases q)
 refine eP (X:={ X with A:=X.A.mark (some (.ref ea)),calm:=false,xe:=fun _ _=>False }) I5.pH hg hm ?_ hd
 have LT:PySem.W.Looks (model X.prog X.w) s.heap (typeOf (.ref ea)) (.ref C):=c5 ▸ (PySem.W.Looks.ld hoe).andThen .now
 refine PySem.W.exm_one I5.kIn LT hb _ _ _ _ (fun _ _ e=>e) ?_
 cases bb with
 | false=>exact hr pins s σ H D ea C t B d ok L (by simpa using q)
 | true =>
 rw [if_pos rfl] at q
 refine codeAny_handlers_suite_as ?_
 refine wpAny_mono (KD.any (E:=fun _ _=>False) (gJ _ _) (lands_againW (s:=s) (Q:=fun _ s''=>∃ h6,s''={ s with heap:=h6 }/\Heap.FlyingW B X.stack ea (.ref C) (.ref t) h6/\s.heap.UpToSlots h6) L.fl fun h6 x1 x2=>⟨h6,rfl,x1,x2⟩)) ?_ (fun _ _ z=>False.elim z.1)
 rintro _ _ ⟨⟨h6,rfl,f6,sm6⟩,dk6⟩
 obtain ⟨o6,e6,_,d6,_⟩:=dk6 ea oe hoe
 have I6:=L.mkI h6 f6 sm6 ⟨o6,e6,d6.trans hdo⟩
 refine gb (X:={ X with A:=X.A.mark (some (.ref ea)),calm:=false,xe:=fun _ _=>False }) (v:=.ref ea) I6.pH hN hi (.inl hn) rfl (fun s7 I7=>?_) (.inr hn)
 refine wpAny_mono (hh ea pins s7 _ _ (D.un i) I7 q) (fun f s8 hsp=>?_) (fun _ _ z=>False.elim z)
 cases f with
 | next =>
  obtain ⟨σ9,H9,I9,q9⟩:=hsp
  exact dE (Inv.markFrom ok I9) hN hi hn fun s9 J=>⟨_,H9,J,q9⟩
 | brk =>
  obtain ⟨σ9,H9,I9,q9⟩:=hsp
  exact dE (Inv.markFrom ok I9) hN hi hn fun s9 J=>⟨_,H9,J,q9⟩
 | cont =>
  obtain ⟨σ9,H9,I9,q9⟩:=hsp
  exact dE (Inv.markFrom ok I9) hN hi hn fun s9 J=>⟨_,H9,J,q9⟩
 | ret u =>
  obtain ⟨v9,σ9,H9,I9,r9,q9⟩:=hsp
  exact dE (Inv.markFrom ok I9) hN hi hn fun s9 J=>⟨v9,_,H9,J,r9,q9⟩
def BL (tb:(St->XK)->TS) (th:TH):TS:=fun D σ H=>tb (fun σ' c d H'=>∀ ea H2,H' ea=none->ao H' H2->H2 ea=some (ij ea c d)->(∀ dx,d=some dx->∃ fs,H2 dx=some (.xd fs))->th c ea D σ' H2) D σ H
theorem uM {tb:(St->XK)->TS}{th:TH}{D:Ends}{σ:St}{H:Hp}:BL tb th D σ H=tb (fun σ' c d H'=>∀ ea H2,H' ea=none->ao H' H2->H2 ea=some (ij ea c d)->(∀ dx,d=some dx->∃ fs,H2 dx=some (.xd fs))->th c ea D σ' H2) D σ H:=propext Iff.rfl
theorem AK {body:List Stmt}{h₀:ExceptHandler}{hs:List ExceptHandler}{pos:Pos}{tb:(St->XK)->TS}{th:TH} (hst:X.stack=X.env::X.outer) (hf:X.env.frame=some X.env.locals) (hex:X.ex=[])
  (hb:∀ (pn:List (Addr × Obj)) (xe:Value->Shared->Prop) (E:St->XK),PassesOwn (model X.prog X.w) X.A X.env xe->Passes (CX1 X.prog X.w) { X with pn:=pn,xe:=xe } E->PSs { X with pn:=pn,xe:=xe } body (tb E))
  (hh:PH X (h₀::hs) th):PS X (.Try body (h₀::hs) [] [] pos) (BL tb th):=by
 intro pins s σ H D I h
 refine wpAny_Try_except ?_
 refine wpAny_mono (hb (X.pn++pins) _ _ PassesOwn.looking ?_ [] s σ H D I.DR h) ?_ (fun e s1 he=>he)
 ·intro pins' σ' H1 s1 e s' I' hcx
  obtain ⟨ea,C,t,B,H',d,rfl,os,bare,un,hok,fl,⟨oe,hoe,hdo⟩,hdx,hkb,hE⟩:=hcx
  have IX:Inv X pins σ' H1 s1:=I'.gx
  have I2:Inv X pins σ' H' s':=IX.nQ (ch:=[]) os un hok bare (fun b z=>absurd z (by simp))
  have hfr:∀ b∈frs X.stack,∃ o,s'.heap.get? b=some o/\∀ vs,o.data≠.fields vs:=fun b hb=>(I2.stack.mem hb).2
  have hff:∀ b∈frs X.stack,H' b=none:=I2.jR
  obtain ⟨oe0,vs0,hoe0,_,hdat0,_⟩:=fl.first
  have nfr:ea ∉ frs X.stack:=fun z=>by
   obtain ⟨o,e1,e2⟩:=hfr ea z
   rw [hoe0] at e1;cases e1;exact e2 _ hdat0
  have hea:H' ea=none:=by
   cases q:H' ea with
   | none=>rfl
   | some o=>have:=hkb ea oe hoe nfr (.inl (by rw [q];simp));rw [fl.2.1] at this;cases this
  have new1:s1.heap.get? ea=none:=by
   cases q:s1.heap.get? ea with
   | none=>rfl
   | some o=>have:=hkb ea oe hoe nfr (.inr ⟨o,q⟩);rw [fl.2.1] at this;cases this
  have new0:X.s₀.heap.get? ea=none:=by
   cases q:X.s₀.heap.get? ea with
   | none=>rfl
   | some o =>
    obtain ⟨o2,e2⟩:=IX.base.there ea o q (by rw [hex];simp)
    rw [new1] at e2;cases e2
  have mk:∀ h6,Heap.FlyingW B X.stack ea (.ref C) (.ref t) h6->s'.heap.UpToSlots h6->(∃ o6,h6.get? ea=some o6/\o6.dict=d)->Inv X pins σ' (upd H' ea (ij ea (.ref C) d)) { s' with heap:=h6 }:=by
   intro h6 f6 sm6 ⟨o6,e6,d6⟩
   have J:Inv X pins σ' H' { s' with heap:=h6 }:=IX.nQ (s':={ s' with heap:=h6 }) (ch:=[]) os (vR un hkb f6.1 sm6 hfr) (rj hok hkb f6.1 hff) bare (fun b z=>absurd z (by simp))
   obtain ⟨o7,v7,e7,c7,t7,_⟩:=f6.first
   rw [e6] at e7
   cases e7
   refine J.zL hea new0 (fun z=>?_) (fun y c e z=>?_) (fun p hp z=>?_) (vm e6 c7 d6 t7)
   ·obtain ⟨m,⟨ob,_,_,e9,_⟩,_⟩:=IX.loc
    rw [← z,new1] at e9;cases e9
   ·obtain ⟨w9,o9,e9,_⟩:=IX.cell y c e
    rw [z,new1] at e9;cases e9
   ·have e9:=(IX.pin p hp).1
    rw [z,new1] at e9;cases e9
  refine wpAny_mono (KD.any (E:=fun _ _=>False) (pF _ _) (wpAny_looks_onW (Q:=fun _ s''=>∃ h4,s''={ s' with heap:=h4 }/\Heap.HeldW B X.stack ea (.ref C) (.ref t) X.env.locals h4/\s'.heap.UpToSlots h4) (by rw [← hst];exact I.ok.frames) hf (by rw [← hst];exact fl) fun h4 x1 x2=>⟨h4,rfl,by rw [hst];exact x1,x2⟩)) ?_ (fun _ _ z=>False.elim z.1)
  rintro _ _ ⟨⟨h4,rfl,l4,sm4⟩,dk4⟩
  refine wpAny_mono (KD.any (E:=fun _ _=>False) (gJ _ _) (wpAny_landsW (s:={ s' with heap:=h4 }) (Q:=fun _ s''=>∃ h5,s''={ s' with heap:=h5 }/\Heap.FlyingW B X.stack ea (.ref C) (.ref t) h5/\h4.UpToSlots h5) l4 fun h5 x1 x2=>⟨h5,rfl,x1,x2⟩)) ?_ (fun _ _ z=>False.elim z.1)
  rintro _ _ ⟨⟨h5,rfl,f5,sm5⟩,dk5⟩
  obtain ⟨o5,e5,_,d5,_⟩:=(dk4.trans dk5) ea oe hoe
  have hne:∀ dx,d=some dx->dx≠ea:=fun dx z y=>by
   obtain ⟨fs,q⟩:=hdx dx z
   rw [y,hea] at q;cases q
  exact hh pins { s' with heap:=h5 } σ' H' D ea C t B d I.ok ⟨fun h6 x1 x2 x3=>mk h6 x1 ((sm4.trans sm5).trans x2) x3,f5,⟨o5,e5,d5.trans hdo⟩⟩ (hE ea _ hea (cg hea) ay (fun dx z=>by
   obtain ⟨fs,q⟩:=hdx dx z
   exact ⟨fs,by rw [av (hne dx z)];exact q⟩))
 ·intro f s1 hsp
  cases f with
  | next =>
   obtain ⟨σ9,H9,I9,q9⟩:=hsp
   exact wpAny_execs_nil ⟨σ9,H9,I9.gx,q9⟩
  | brk =>
   obtain ⟨σ9,H9,I9,q9⟩:=hsp
   exact ⟨σ9,H9,I9.gx,q9⟩
  | cont =>
   obtain ⟨σ9,H9,I9,q9⟩:=hsp
   exact ⟨σ9,H9,I9.gx,q9⟩
  | ret u =>
   obtain ⟨v9,σ9,H9,I9,r9,q9⟩:=hsp
   exact ⟨v9,σ9,H9,I9.gx,r9,q9⟩
end
def B0:List V->Hp->VK->Prop:=fun vs H Q=>match vs with
 | [.ref a]=>∃ ns:List Int,H a=some (.lst (ns.map V.int))/\ns≠[]/\∀ m∈ns,(∀ x∈ns,x<=m)->Q (.int m) H
 | _=>False
theorem qW {a:Addr}{H:Hp}{Q:VK}:B0 [.ref a] H Q=(∃ ns:List Int,H a=some (.lst (ns.map V.int))/\ns≠[]/\∀ m∈ns,(∀ x∈ns,x<=m)->Q (.int m) H):=propext Iff.rfl
theorem nR {X:Cx} (hc:X.calm=true):bE X (.builtin "max") B0:=by
 intro pins s σ H xs us Q I r h
 match xs,h with
 | [.ref a],h =>
  obtain ⟨ns,h1,h2,h3⟩:=h
  obtain ⟨u,rfl,r2⟩:=vals1 r
  cases r2
  obtain ⟨its,rv,pl,hz⟩:=I.list (.of h1)
  have hi:IntsAre its ns:=j3 rv
  obtain ⟨xs,e⟩:=hi.allInts.items
  have hl:=pl.isList
  rw [e] at hl
  have hns:ns=xs.toList.map (·.1):=by rw [← hi.numsOf,← nums_intItems,← e]
  have hsz:0 < xs.size:=by
   have h5:=List.length_pos_iff.mpr h2
   rw [hns,List.length_map,Array.length_toList] at h5;exact h5
  refine max_intList (I.ok.hd hc) hl hsz fun v h' tk hv hk=>?_
  obtain ⟨t,rfl⟩:=intItems_at hv
  obtain ⟨b1,b2⟩:=argBest_gt (numAt xs) (xs.size - 1)
  refine ⟨.int _,H,I.kept hk,⟨t,rfl⟩,h3 _ ?_ fun x hx=>?_⟩
  ·rw [hns,numAt_eq];exact getD_mem (by rw [List.length_map,Array.length_toList];omega)
  ·rw [hns] at hx
   obtain ⟨j,hj,rfl⟩:=mem_getD hx
   rw [List.length_map,Array.length_toList] at hj
   rw [← numAt_eq];exact b2 j (by omega)
def B8:R2:=fun x y H Q=>match x,y with
 | .str z,.int n=>∃ l:List Nat,z=tx l/\2<=n/\n<=1000/\1<=l.length/\l.length<=100/\Q (.str (tx (List.replicate n.toNat l).flatten)) H
 | _,_=>False
theorem qX {z:Str}{n:Int}{H:Hp}{Q:VK}:B8 (.str z) (.int n) H Q=(∃ l:List Nat,z=tx l/\2<=n/\n<=1000/\1<=l.length/\l.length<=100/\Q (.str (tx (List.replicate n.toNat l).flatten)) H):=propext Iff.rfl
theorem oO (l:List Nat):∀ (n:Nat) (a:Array Nat),(List.replicate n l.toArray).foldl (·++·) a=a++(List.replicate n l).flatten.toArray
 | 0,a=>by simp
 | n + 1,a=>by
  rw [List.replicate_succ,List.foldl_cons,oO l n,List.replicate_succ]
  apply Array.ext'
  simp
theorem pX {X:Cx}:OpR X (binaryOp .Mult) B8:=by
 intro pins s σ H x y v u Q I rx ry h
 match x,y,h with
 | .str z,.int n,h =>
  obtain ⟨l,rfl,h1,h2,h3,h4,q⟩:=h
  obtain ⟨t,rfl⟩:=rx
  obtain ⟨t2,rfl⟩:=ry
  have e:(⟨(List.replicate n.toNat (tx l).cps).foldl (·++·) #[]⟩:Str)=tx (List.replicate n.toNat l).flatten:=by
   show (⟨(List.replicate n.toNat l.toArray).foldl (·++·) #[]⟩:Str)=_
   rw [oO]
   simp [tx]
  have l1:(tx l).length=l.length:=aY l
  have fl:(List.replicate n.toNat l).flatten.length=n.toNat * l.length:=by simp [List.length_flatten]
  have nl:n.toNat * l.length<=1000 * 100:=Nat.mul_le_mul (by omega) h4
  have dv:(100:Int)<=(2 ^ 63 - 1) / n:=(Int.le_ediv_iff_mul_le (by omega)).mpr (by omega)
  refine P.mul_str (by rw [decide_eq_false (by omega),decide_eq_false (by omega)];rfl) (fun _ _=>by rw [l1];show ¬ (l.length:Int) > _;omega) (fun _ _=>by rw [l1];unfold Builtin.Str.tooLong;rw [sizeLine_eq];exact decide_eq_false (by rw [Nat.mul_comm];omega)) ?_
  rw [if_neg (by omega)]
  split
  ·rename_i hn
   rw [l1,Bool.or_eq_true] at hn
   rcases hn with z | z
   ·have:=beq_iff_eq.mp z;omega
   ·have:=beq_iff_eq.mp z;omega
  ·rw [e]
   exact ⟨by rw [aY,fl,sizeLine_eq];omega,⟨.str _,H,I.tok _,⟨_,rfl⟩,q⟩⟩
theorem yG {K:PySem.W.Frag}{a:Addr}{H1:Hp}{xs:List V}{js:List Nat}{σ:St}{tc:TT}{te:TE}{Q:VK} (hx:SqL K H1 a xs) (hl:xs.length < sizeLine) (pr:Nat->Bool) (g:Nat->V)
  (hc:∀ (i:Nat) x,xs[i]?=some x->∀ H,ao H1 H->∀ R:Bool->Hp->Prop,(∀ H',ao H H'->R (pr i) H')->tc (some (.int (i:Int))::some x::js.map fun j=>(σ[j]?).join) H R)
  (he:∀ (i:Nat) x,xs[i]?=some x->pr i=true->∀ H,ao H1 H->∀ R:VK,(∀ H',ao H H'->R (g i) H')->te (some (.int (i:Int))::some x::js.map fun j=>(σ[j]?).join) H R)
  (q:∀ D H,H1 D=none->ao H1 H->H D=some (.lst (((List.range xs.length).filter pr).map g))->Q (.ref D) H):dh (yt K 2 (kI (dH 0) (kI (dH 1) yr))) tc te (fL 2 js σ) (Ite K a) H1 Q:=by
 intro D hD
 refine ⟨fun i m ys σ1 H=>m=xs.length - i/\i<=xs.length/\(∃ o1 o2,σ1=o1::o2::js.map fun j=>(σ[j]?).join)/\ys=((List.range i).filter pr).map g/\ao H1 H/\H D=some (.lst ys),
  ⟨xs.length,by simp,Nat.zero_le _,⟨none,none,rfl⟩,by simp,(ao.refl H1).bD hD,ay⟩,?_⟩
 rintro i m ys σ1 H ⟨rfl,hi,⟨o1,o2,rfl⟩,rfl,sH,hL⟩
 have hyn:(((List.range i).filter pr).map g).length<=i:=by
  rw [List.length_map]
  have:=List.length_filter_le pr (List.range i)
  rwa [List.length_range] at this
 refine ⟨hL,by omega,?_⟩
 by_cases hlt:i < xs.length
 ·have e:xs[i]?=some xs[i]:=List.getElem?_eq_getElem hlt
  refine .inr ⟨⟨xs,xs[i],sH.seq hx,e⟩,fun v H' hyl=>?_⟩
  obtain ⟨x,p,hx',rfl,hp,rfl⟩:=hyl
  have ex:=hx' xs (sH.seq hx)
  have hpD:D≠p:=aO hL hp
  refine ⟨p,[.int (i:Int),x],rfl,SqT.of ay,rfl,.int (i:Int),[x],rfl,x,[],rfl,rfl,?_⟩
  have s1:ao H1 (upd H p (.tup [.int (i:Int),x])):=sH.bD (sH.free hp)
  have hL1:upd H p (.tup [.int (i:Int),x]) D=some (.lst (((List.range i).filter pr).map g)):=by rw [av hpD];exact hL
  have rs:List.range (i + 1)=List.range i++[i]:=List.range_succ
  show tc (some (.int (i:Int))::some x::js.map fun j=>(σ[j]?).join) _ _
  refine hc i x ex _ s1 _ fun H4 s4=>?_
  have hL4:=s4 _ _ hL1
  cases hpr:pr i with
  | false =>
   rw [if_neg Bool.false_ne_true]
   exact ⟨xs.length - (i + 1),by omega,rfl,hlt,⟨_,_,rfl⟩,by rw [rs,List.filter_append];simp [hpr],s1.trans s4,hL4⟩
  | true =>
   rw [if_pos rfl]
   refine he i x ex hpr _ (s1.trans s4) _ fun H5 s5=>⟨s5 _ _ hL4,xs.length - (i + 1),by omega,rfl,hlt,⟨_,_,rfl⟩,?_,((s1.trans s4).trans s5).bD hD,ay⟩
   rw [rs,List.filter_append,List.map_append];simp [hpr]
 ·have e:i=xs.length:=by omega
  subst e
  exact .inl ⟨⟨xs,sH.seq hx,Nat.le_refl _⟩,q D H hD sH hL⟩
end L2

namespace Kb
open PySem L2
seal L2.PE L2.PA L2.PS L2.PSs L2.PT L2.PW L2.PG L2.PGs L2.PI L2.PO L2.Eu L2.PIf
def top (i:Nat):Stmt:=PySem.Challenge.pw_cablehouse_k19_whole_set_and_said.main.body.getD i (.Pass ⟨0,0,0,0⟩)
abbrev bG:Stmt:=inClass (top 11) 0
abbrev bH:Stmt:=inClass (top 12) 0
abbrev eG:Stmt:=top 19
abbrev bI:Stmt:=top 20
abbrev eD:Stmt:=top 21
abbrev cC:Stmt:=top 24
abbrev eE:Stmt:=top 25
abbrev cB:Stmt:=top 26
abbrev dw:Stmt:=inClass (top 32) 0
abbrev dy:Stmt:=inClass (top 32) 4
abbrev cA:Stmt:=top 35
abbrev dz:Stmt:=top 36
abbrev eF:Stmt:=top 41
abbrev du:Stmt:=inClass (top 42) 0
abbrev bB:Stmt:=inClass (top 42) 2
abbrev cy:Stmt:=inClass (top 42) 3
abbrev bz:Stmt:=inClass (top 42) 4
abbrev cR:Stmt:=inClass (top 42) 6
abbrev cz:Stmt:=inClass (top 42) 7
abbrev cb:Stmt:=inClass (top 42) 8
abbrev fF:Stmt:=top 45
abbrev d0:Stmt:=top 46
abbrev kr:Stmt:=top 47
abbrev gN:Stmt:=top 49
abbrev cU:Stmt:=top 50
abbrev cG:Stmt:=top 51
abbrev dA:Stmt:=top 52
abbrev cF:Stmt:=top 53
abbrev cf:Stmt:=top 54
abbrev cV:Stmt:=top 55
abbrev cD:Stmt:=top 57
abbrev d8:Stmt:=top 58
abbrev cE:Stmt:=top 60
abbrev cT:Stmt:=top 61
abbrev eI:Stmt:=top 62
abbrev eM:Stmt:=top 63
abbrev bJ:Stmt:=top 64
abbrev d4:Stmt:=top 65
abbrev cS:Stmt:=top 66
abbrev d9:Stmt:=top 67
abbrev d7:Stmt:=top 68
abbrev eK:Stmt:=top 69
abbrev cc:Stmt:=top 70
abbrev eJ:Stmt:=top 71
abbrev fG:Stmt:=top 72
abbrev jK:Stmt:=top 73
structure Bl (mg:Str->Option Value):Prop where
 isinstance:mg "isinstance"=none
 bool:mg "bool"=none
 int:mg "int"=none
 abs:mg "abs"=none
 all:mg "all"=none
 zip:mg "zip"=none
 len:mg "len"=none
 set:mg "set"=none
 str:mg "str"=none
 list:mg "list"=none
 tuple:mg "tuple"=none
 sorted:mg "sorted"=none
 enumerate:mg "enumerate"=none
 range:mg "range"=none
 max:mg "max"=none
 ValueError:mg "ValueError"=none
structure Ads where
 Code:Addr
 Book:Addr
 CableError:Addr
 NoCode:Addr
 NoNumber:Addr
 NoWord:Addr
 NoEntry:Addr
 Twice:Addr
 TooMany:Addr
 NoBook:Addr
 NoText:Addr
 NoReading:Addr
 NoSetting:Addr
 TooGarbled:Addr
 NoNet:Addr
 NoOffice:Addr
 NoDay:Addr
 NoRow:Addr
 cd:Addr
 tb:Addr
 cd1:Addr
 tb1:Addr
 cd2:Addr
 tb2:Addr
 none:Unit:=()
def Ads.Ag (Ad:Ads):List Addr:=[Ad.NoCode,Ad.NoNumber,Ad.NoWord,Ad.NoEntry,Ad.Twice,Ad.TooMany,Ad.NoBook,Ad.NoText,Ad.NoReading,Ad.NoSetting,Ad.TooGarbled,Ad.NoNet,Ad.NoOffice,Ad.NoDay,Ad.NoRow]
structure AdF (K:PySem.W.Frag) (mg:Str->Option Value) (Ad:Ads):Prop where
 g_Code:mg "Code"=some (.ref Ad.Code)
 g_Book:mg "Book"=some (.ref Ad.Book)
 g_CableError:mg "CableError"=some (.ref Ad.CableError)
 g_NoCode:mg "NoCode"=some (.ref Ad.NoCode)
 g_NoNumber:mg "NoNumber"=some (.ref Ad.NoNumber)
 g_NoWord:mg "NoWord"=some (.ref Ad.NoWord)
 g_NoEntry:mg "NoEntry"=some (.ref Ad.NoEntry)
 g_Twice:mg "Twice"=some (.ref Ad.Twice)
 g_TooMany:mg "TooMany"=some (.ref Ad.TooMany)
 g_NoBook:mg "NoBook"=some (.ref Ad.NoBook)
 g_NoText:mg "NoText"=some (.ref Ad.NoText)
 g_NoReading:mg "NoReading"=some (.ref Ad.NoReading)
 g_NoSetting:mg "NoSetting"=some (.ref Ad.NoSetting)
 g_TooGarbled:mg "TooGarbled"=some (.ref Ad.TooGarbled)
 g_NoNet:mg "NoNet"=some (.ref Ad.NoNet)
 g_NoOffice:mg "NoOffice"=some (.ref Ad.NoOffice)
 g_NoDay:mg "NoDay"=some (.ref Ad.NoDay)
 g_NoRow:mg "NoRow"=some (.ref Ad.NoRow)
 c_Code:Cls K Ad.Code
 n_Code_letters:dF K Ad.Code "letters"
 n_Code_factors:dF K Ad.Code "factors"
 n_Code_remainder:dF K Ad.Code "remainder"
 c_Book:Cls K Ad.Book
 n_Book_basis:dF K Ad.Book "basis"
 n_Book_by_number:dF K Ad.Book "by_number"
 n_Book_by_entry:dF K Ad.Book "by_entry"
 q_NoCode:PySem.W.excIn K Ad.NoCode [.type "ValueError",.type "Exception",.type "BaseException",.type "object"] "ValueError.__new__"=true
 q_NoNumber:PySem.W.excIn K Ad.NoNumber [.type "ValueError",.type "Exception",.type "BaseException",.type "object"] "ValueError.__new__"=true
 q_NoWord:PySem.W.excIn K Ad.NoWord [.type "ValueError",.type "Exception",.type "BaseException",.type "object"] "ValueError.__new__"=true
 q_NoEntry:PySem.W.excIn K Ad.NoEntry [.type "ValueError",.type "Exception",.type "BaseException",.type "object"] "ValueError.__new__"=true
 q_Twice:PySem.W.excIn K Ad.Twice [.type "ValueError",.type "Exception",.type "BaseException",.type "object"] "ValueError.__new__"=true
 q_TooMany:PySem.W.excIn K Ad.TooMany [.type "ValueError",.type "Exception",.type "BaseException",.type "object"] "ValueError.__new__"=true
 q_NoBook:PySem.W.excIn K Ad.NoBook [.type "ValueError",.type "Exception",.type "BaseException",.type "object"] "ValueError.__new__"=true
 q_NoText:PySem.W.excIn K Ad.NoText [.type "ValueError",.type "Exception",.type "BaseException",.type "object"] "ValueError.__new__"=true
 q_NoNet:PySem.W.excIn K Ad.NoNet [.type "ValueError",.type "Exception",.type "BaseException",.type "object"] "ValueError.__new__"=true
 q_NoOffice:PySem.W.excIn K Ad.NoOffice [.type "ValueError",.type "Exception",.type "BaseException",.type "object"] "ValueError.__new__"=true
 q_NoDay:PySem.W.excIn K Ad.NoDay [.type "ValueError",.type "Exception",.type "BaseException",.type "object"] "ValueError.__new__"=true
 q_NoRow:PySem.W.excIn K Ad.NoRow [.type "ValueError",.type "Exception",.type "BaseException",.type "object"] "ValueError.__new__"=true
 bi:Be K Ad.CableError
 o_NoReading:∃ f,vU K Ad.NoReading f
 s_NoReading:zW K Ad.NoReading "at"
 f_NoReading:PySem.W.findIn K (.ref Ad.NoReading) "at"=some none
 o_NoSetting:∃ f,vU K Ad.NoSetting f
 s_NoSetting:zW K Ad.NoSetting "at"
 f_NoSetting:PySem.W.findIn K (.ref Ad.NoSetting) "at"=some none
 x_NoSetting:PySem.W.exmOne K (.ref Ad.NoSetting) (.ref Ad.NoSetting)=some true
 x_NoText:PySem.W.exmOne K (.ref Ad.NoText) (.ref Ad.NoText)=some true
 y_NoText_NoSetting:PySem.W.exmOne K (.ref Ad.NoText) (.ref Ad.NoSetting)=some false
 t_tab:PySem.W.codeHdIn K Ad.cd Ad.tb=true
 t_tab1:PySem.W.codeHdIn K Ad.cd1 Ad.tb1=true
 t_tab2:PySem.W.codeHdIn K Ad.cd2 Ad.tb2=true
 err:pA K Ad.CableError Ad.Ag=true
 nd:ndB Ad.Ag=true
 v_SMALL_LETTERS:∃ u,mg "SMALL_LETTERS"=some u/\RelV (.str "abcdefghijklmnopqrstuvwxyz") u
 v_LONGEST_WORD:∃ u,mg "LONGEST_WORD"=some u/\RelV (.int 20) u
 v_MOST_ENTRIES:∃ u,mg "MOST_ENTRIES"=some u/\RelV (.int 300) u
 v_MOST_PHRASE_WORDS:∃ u,mg "MOST_PHRASE_WORDS"=some u/\RelV (.int 6) u
 v_MOST_PART_LETTERS:∃ u,mg "MOST_PART_LETTERS"=some u/\RelV (.int 6) u
 v_MOST_WORDS:∃ u,mg "MOST_WORDS"=some u/\RelV (.int 60) u
section
variable {P:Program}{w:World}{K:PySem.W.Frag}{mg:Str->Option Value}{base:Heap}{Ad:Ads}
local macro_rules | `(tactic| and_intros) => `(tactic| try simp only [xG, vI, uJ, vL, uE, qh, uD, qI, xP, xR, qD, u9, Bz, Ends.un, gS, xE, qE, xS, D9, Bn, Bq, Bi, uy, xK, ux, xO, Bk, uF, u6, uK, D8, xM, xD, Bo, uw, uG, xI, xJ, xQ, u4, nw, Bm, Bp, nJ, uH, uA, qG, qH, uB, xH, xN, Bh, xF, qA, yj, sT, sU, vh, vi, vj, yk, vk, qF, uz, qB, nV, qC, u5, qY, tQ, isV, cP, gB, Tg.sub, Tg.name, rU, xn, Option.join_some, Int.toNat_natCast, List.getElem?_cons_zero, List.getElem?_cons_succ, List.set_cons_zero, List.set_cons_succ, sk, List.map_cons, List.map_nil, List.cons_append, List.nil_append, List.length_cons, List.length_nil, List.replicate_succ, List.replicate_zero, Nat.reduceAdd, Nat.reduceSub, Nat.zero_add, bne_self_eq_false, Bool.true_bne, Bool.false_bne, Bool.not_true, Bool.not_false, if_true, if_false, Bool.false_eq_true, Bool.true_eq_false, reduceIte, lU, lV, lW, mq, mi, kD, mf, mj, lX, nY, nW, nX, og, oh, oi, nZ, oa, ma, md, lT, me, kG, lY, oj, om, kF, kH, mh, mm, lZ, lR, lS, vg, q8, nI, uC, q0, yi, qV, oo, nK, Bj, Bg, uI, u7, uM, uL, qJ, qW, qX])
local macro_rules | `(tactic| ac_nf) => `(tactic| try simp only [cY, xG, vI, uJ, vL, uE, qh, uD, qI, xP, xR, qD, u9, Bz, Ends.un, gS, xE, qE, xS, D9, Bn, Bq, Bi, uy, xK, ux, xO, Bk, uF, u6, uK, D8, xM, xD, Bo, uw, uG, xI, xJ, xQ, u4, nw, Bm, Bp, nJ, uH, uA, qG, qH, uB, xH, xN, Bh, xF, qA, yj, sT, sU, vh, vi, vj, yk, vk, qF, uz, qB, nV, qC, u5, qY, tQ, isV, cP, gB, Tg.sub, Tg.name, rU, xn, Option.join_some, Int.toNat_natCast, List.getElem?_cons_zero, List.getElem?_cons_succ, List.set_cons_zero, List.set_cons_succ, sk, List.map_cons, List.map_nil, List.cons_append, List.nil_append, List.length_cons, List.length_nil, List.replicate_succ, List.replicate_zero, Nat.reduceAdd, Nat.reduceSub, Nat.zero_add, bne_self_eq_false, Bool.true_bne, Bool.false_bne, Bool.not_true, Bool.not_false, if_true, if_false, Bool.false_eq_true, Bool.true_eq_false, reduceIte, lU, lV, lW, mq, mi, kD, mf, mj, lX, nY, nW, nX, og, oh, oi, nZ, oa, ma, md, lT, me, kG, lY, oj, om, kF, kH, mh, mm, lZ, lR, lS, vg, q8, nI, uC, q0, yi, qV, oo, nK, Bj, Bg, uI, u7, uM, uL, qJ, qW, qX])
local macro_rules | `(tactic| bv_omega) => `(tactic| try simp only [yj, sT, sU, Bool.not_false, Bool.not_true, if_true, if_false, Bool.false_eq_true, Bool.true_eq_false, true_and, and_true])
structure fH (al:List Nat) (ws:List Int) (r:Int):Prop where
 a3:3<=al.length
 a26:al.length<=26
 nd:al.Nodup
 abc:∀ c∈al,97<=c/\c < 123
 w3:3<=ws.length
 w8:ws.length<=8
 wm:∀ x∈ws,0<=x/\x < (al.length:Int)
 safe:Mk.safe al.length ws=true
 rm:0<=r/\r < (al.length:Int)
def lK (al:List Nat) (q:Addr) (r:Int):List (Str × V):=[("letters",.str (tx al)),("factors",.ref q),("remainder",.int r)]
theorem n8 (al:List Nat) (q:Addr) (r:Int):(lK al q r).lookup ("letters":Str)=some (V.str (tx al)):=rfl
theorem n6 (al:List Nat) (q:Addr) (r:Int):(lK al q r).lookup ("factors":Str)=some (V.ref q):=rfl
theorem fN {m:Str} (h1:m≠("letters":Str)) (h2:m≠("factors":Str)) (h3:m≠("remainder":Str)) (al:List Nat) (q:Addr) (r:Int):(lK al q r).lookup m=none:=by
 unfold lK
 rw [List.lookup_cons,List.lookup_cons,List.lookup_cons,beq_false_of_ne h1,beq_false_of_ne h2,beq_false_of_ne h3]
 rfl
def dZ (Ad:Ads) (H:Hp) (a:Addr) (al:List Nat) (ws:List Int) (r:Int):Prop:=∃ dx q,H a=some (.ins Ad.Code dx (lK al q r))/\H q=some (.lst (ws.map V.int))
theorem dZ.same {Ad:Ads}{H H':Hp}{a:Addr}{al:List Nat}{ws:List Int}{r:Int} (h:dZ Ad H a al ws r) (s:ao H H'):dZ Ad H' a al ws r:=by
 obtain ⟨dx,q,h1,h2⟩:=h
 exact ⟨dx,q,s _ _ h1,s _ _ h2⟩
def lL (H:Hp) (xa xw xr:V) (al:List Nat) (p:Addr) (ws:List Int) (r:Int):Prop:=xa=.str (tx al)/\xw=.ref p/\H p=some (.lst (ws.map V.int))/\xr=.int r/\fH al ws r
def Aa (H:Hp) (xa xw xr:V):Prop:=∀ al p ws r,¬ lL H xa xw xr al p ws r

theorem iz {α β:Type}{F:α->β->Prop}:∀ {a:List α}{b:List β}{c:List α}{d:List β},Paired F a b->Paired F c d->Paired F (a++c) (b++d)
 | _,_,_,_,.nil,h=>h
 | _,_,_,_,.cons r t,h=>.cons r (iz t h)
theorem kO {α β:Type}{F G:α->β->Prop} (f:∀ x y,F x y->G x y):∀ {a:List α}{b:List β},Paired F a b->Paired G a b
 | _,_,.nil=>.nil
 | _,_,.cons r t=>.cons (f _ _ r) (kO f t)
theorem iF {α:Type}{l:List α}{v:α} (h:l.getLast?=some v):atI l (-1)=some v:=by
 have hne:l≠[]:=fun e=>by subst e;cases h
 have hl:=List.length_pos_iff.mpr hne
 unfold atI ixN
 rw [if_neg (by decide),if_pos (by omega)]
 show l[_]?=some v
 rw [List.getLast?_eq_getElem?] at h
 rw [← h]
 congr 1
 omega
theorem eA {α β:Type}{F:α->β->Prop}:∀ {l₁:List α}{l₂:List β},Paired F l₁ l₂->l₁.length=l₂.length
 | _,_,.nil=>rfl
 | _,_,.cons _ r=>by rw [List.length_cons,List.length_cons,eA r]
theorem rA {β γ:Type}{f:β->γ}{xs:List β}{i:Nat}{v:γ} (h:(xs.map f)[i]?=some v):∃ x,xs[i]?=some x/\f x=v:=by
 rw [List.getElem?_map] at h
 exact Option.map_eq_some_iff.mp h
theorem pI (c:Int):0<=c * 69621 % 2147483629 + 2147483629 * (c % 10 ^ 60):=by
 have h1:=Int.emod_nonneg (c * 69621) (b:=2147483629) (by decide)
 have h2:=Int.emod_nonneg c (b:=10 ^ 60) (by decide)
 omega
def bL (n:Nat) (l:List Nat):Bool:=decide (1<=l.length) && decide (l.length<=n) && l.all fun c=>decide (97<=c/\c < 123)
def dG (n:Nat):V->Bool
 | .str z=>bL n z.cps.toList
 | _=>false
def dm (n:Nat) (l:List Nat):Bool:=decide ((Mk.aQ 32 l).length<=n) && (Mk.aQ 32 l).all (bL 20)
def bP (n:Nat):V->Bool
 | .str z=>dm n z.cps.toList
 | _=>false
def dJ:List V->Bool
 | [.str z]=>decide (z=("end":Str))
 | [.str z,y]=>if z=("phrase":Str) then bP 6 y else if z=("part":Str) then dG 6 y else false
 | _=>false
def kj (H:Hp):V->Bool
 | .ref p=>match H p with
  | some (.tup xs)=>dJ xs
  | _=>false
 | _=>false
theorem nL {n:Nat}{l:List Nat} (h1:1<=l.length) (h2:l.length<=n) (h3:∀ c∈l,97<=c/\c < 123):bL n l=true:=by
 unfold bL
 rw [decide_eq_true h1,decide_eq_true h2,Bool.true_and,Bool.true_and,List.all_eq_true]
 exact fun c hc=>decide_eq_true (h3 c hc)
theorem jY {n:Nat}{ws:List (List Nat)} (h1:1<=ws.length) (h2:ws.length<=n) (h3:∀ w∈ws,1<=w.length/\w.length<=20/\∀ c∈w,97<=c/\c < 123):dm n (Mk.br 32 ws)=true:=by
 unfold dm
 rw [Mk.fe ws (fun e=>by rw [e] at h1;simp at h1) fun w hw hc=>by have:=(h3 w hw).2.2 32 hc;omega,decide_eq_true h2,Bool.true_and,List.all_eq_true]
 exact fun w hw=>nL (h3 w hw).1 (h3 w hw).2.1 (h3 w hw).2.2
theorem rn {n:Nat}{ws:List (List Nat)} (h2:ws.length<=n) (h3:∀ w∈ws,w.length<=20):(Mk.br 32 ws).length<=21 * n/\(ws.map fun w=>w.length + 1).sum<=21 * n:=by
 have h:=Mk.o8 (c:=32) ws
 have:(ws.map fun w=>w.length + 1).sum<=21 * ws.length:=by
  clear h2 h
  induction ws with
  | nil=>simp
  | cons w r ih =>
   have h1:=ih fun x hx=>h3 x (List.mem_cons_of_mem _ hx)
   have h2:=h3 w List.mem_cons_self
   simp only [List.map_cons,List.sum_cons,List.length_cons]
   omega
 omega
theorem pE {l:List Nat} (h:dm 6 l=true):dJ [.str ("phrase":Str),.str (tx l)]=true:=by
 show (if ("phrase":Str)=("phrase":Str) then dm 6 (tx l).cps.toList else if ("phrase":Str)=("part":Str) then bL 6 (tx l).cps.toList else false)=true
 rw [if_pos rfl,df];exact h
theorem sZ {l:List Nat} (h:bL 6 l=true):dJ [.str ("part":Str),.str (tx l)]=true:=by
 show (if ("part":Str)=("phrase":Str) then dm 6 (tx l).cps.toList else if ("part":Str)=("part":Str) then bL 6 (tx l).cps.toList else false)=true
 rw [if_neg (by decide),if_pos rfl,df];exact h
def n9:Str:="Book.put.<locals>.<lambda>"
structure Ben where
 num:Int
 key:List Key
 adr:Addr
def lH (ca dn de:Addr):List (Str × V):=[("basis",.ref ca),("by_number",.ref dn),("by_entry",.ref de)]
theorem ip (p q r:Addr):(lH p q r).lookup ("basis":Str)=some (V.ref p):=rfl
theorem ef (p q r:Addr):(lH p q r).lookup ("by_number":Str)=some (V.ref q):=rfl
theorem kc (p q r:Addr):(lH p q r).lookup ("by_entry":Str)=some (V.ref r):=rfl
theorem cm {m:Str} (h1:m≠("basis":Str)) (h2:m≠("by_number":Str)) (h3:m≠("by_entry":Str)) (p q r:Addr):(lH p q r).lookup m=none:=by
 unfold lH
 rw [List.lookup_cons,List.lookup_cons,List.lookup_cons,beq_false_of_ne h1,beq_false_of_ne h2,beq_false_of_ne h3]
 rfl
def ix (es:List Ben):List (Key × V):=(es.map fun e=>(e.num,V.ref e.adr)).map fun q=>(.inl q.1,q.2)
def jx (es:List Ben):List (List Key × V):=es.map fun e=>(e.key,V.int e.num)
structure bK (Ad:Ads) (H:Hp) (b ca dn de:Addr) (es:List Ben):Prop where
 bk:∃ dx,H b=some (.ins Ad.Book dx (lH ca dn de))
 hn:H dn=some (.dK (ix es))
 he:H de=some (.dT (jx es))
 en:∀ e∈es,H e.adr=some (.tup (e.key.map kV))
 nn:(es.map (·.num)).Nodup
 nk:(es.map (·.key)).Nodup
theorem bK.same {Ad:Ads}{H H':Hp}{b ca dn de:Addr}{es:List Ben} (h:bK Ad H b ca dn de es) (s:ao H H'):bK Ad H' b ca dn de es:=by
 obtain ⟨⟨dx,h1⟩,h2,h3,h4,h5,h6⟩:=h
 exact ⟨⟨dx,s _ _ h1⟩,s _ _ h2,s _ _ h3,fun e he=>s _ _ (h4 e he),h5,h6⟩
theorem qx {α κ:Type} [DecidableEq κ] {f:α->κ}{g:α->V}:∀ {es:List α}{e:α},(es.map f).Nodup->e∈es->gc (es.map fun x=>(f x,g x)) (f e)=some (g e)
 | x::r,e,hn,he=>by
  obtain ⟨h1,h2⟩:=List.nodup_cons.mp hn
  unfold gc
  rw [List.map_cons,List.find?_cons]
  by_cases h:f x=f e
  ·rw [decide_eq_true h]
   rcases List.mem_cons.mp he with rfl | he
   ·rfl
   ·exact absurd (List.mem_map_of_mem (f:=f) he) (by rw [← h];exact h1)
  ·rw [decide_eq_false h]
   rcases List.mem_cons.mp he with rfl | he
   ·exact absurd rfl h
   ·exact qx h2 he
theorem uj {α κ:Type} [DecidableEq κ] {f:α->κ}{g:α->V}{k:κ}:∀ {es:List α},k ∉ es.map f->gc (es.map fun x=>(f x,g x)) k=none
 | [],_=>rfl
 | x::r,h=>by
  rw [List.map_cons,List.mem_cons,not_or] at h
  unfold gc
  rw [List.map_cons,List.find?_cons,decide_eq_false (show ¬ f x=k from fun e=>h.1 e.symm)]
  exact uj h.2
theorem vz (es:List Ben):ix es=es.map fun e=>(.inl e.num,V.ref e.adr):=by unfold ix;rw [List.map_map];rfl
theorem Ct {es:List Ben} (h:(es.map (·.num)).Nodup):(es.map fun e=>(.inl e.num:Key)).Nodup:=by
 have e:(es.map fun e=>(.inl e.num:Key))=(es.map (·.num)).map Sum.inl:=by rw [List.map_map];rfl
 rw [e]
 exact List.Pairwise.map _ (fun a b (h:a≠b) z=>h (Sum.inl.inj z)) h
theorem pL {es:List Ben}{e:Ben} (hn:(es.map (·.num)).Nodup) (he:e∈es):gc (ix es) (.inl e.num)=some (.ref e.adr):=by
 rw [vz];exact qx (f:=fun e:Ben=>(.inl e.num:Key)) (Ct hn) he
theorem pK {es:List Ben}{k:Int} (h:k ∉ es.map (·.num)):gc (ix es) (.inl k)=none:=by
 rw [vz]
 refine uj (f:=fun e:Ben=>(.inl e.num:Key)) fun m=>h ?_
 obtain ⟨e,he,ee⟩:=List.mem_map.mp m
 exact List.mem_map.mpr ⟨e,he,Sum.inl.inj ee⟩
theorem CH {es:List Ben}{k:Int} (hn:(es.map (·.num)).Nodup):(gc (ix es) (.inl k)).isSome=decide (k∈es.map (·.num)):=by
 by_cases h:k∈es.map (·.num)
 ·obtain ⟨e,he,rfl⟩:=List.mem_map.mp h
  rw [pL hn he,decide_eq_true h];rfl
 ·rw [pK h,decide_eq_false h];rfl
theorem Ae {es:List Ben}{e:Ben} (hn:(es.map (·.key)).Nodup) (he:e∈es):gc (jx es) e.key=some (.int e.num):=qx (f:=fun e:Ben=>e.key) hn he
theorem sS {es:List Ben}{k:List Key} (h:k ∉ es.map (·.key)):gc (jx es) k=none:=uj (f:=fun e:Ben=>e.key) h
theorem vF {κ:Type} [DecidableEq κ] {kvs:List (κ × V)}{k:κ}{v:V} (h:gc kvs k=none):putK kvs k v=kvs++[(k,v)]:=by
 unfold putK
 rw [ny,h]
 rfl
theorem wU (es:List Ben) (e:Ben):ix (es++[e])=ix es++[(.inl e.num,.ref e.adr)]:=by unfold ix;simp
theorem wA (es:List Ben) (e:Ben):jx (es++[e])=jx es++[(e.key,.int e.num)]:=by unfold jx;simp
theorem rE (es:List Ben):(ix es).length=es.length:=by unfold ix;simp
def lF (ns:List Int) (n:Int):Prop:=0<=n/\n ∉ ns/\∀ m,0<=m->m < n->m∈ns
theorem yJ (ns:List Int):∃ n:Nat,lF ns n/\n<=ns.length:=by
 have key:∀ k:Nat,(∀ m:Int,0<=m->m < k->m∈ns) ∨ ∃ n:Nat,n < k/\lF ns n:=by
  intro k
  induction k with
  | zero=>exact .inl fun m h1 h2=>by omega
  | succ k ih =>
   rcases ih with h | ⟨n,h1,h2⟩
   ·by_cases hk:(k:Int)∈ns
    ·exact .inl fun m h1 h2=>by
      by_cases e:m=k
      ·rw [e];exact hk
      ·exact h m h1 (by omega)
    ·exact .inr ⟨k,Nat.lt_succ_self _,by omega,hk,h⟩
   ·exact .inr ⟨n,by omega,h2⟩
 rcases key (ns.length + 1) with h | ⟨n,h1,h2⟩
 ·exfalso
  have hs:∀ c∈(List.range (ns.length + 1)).map (fun i:Nat=>(i:Int)),c∈ns:=fun c hc=>by
   obtain ⟨i,hi,rfl⟩:=List.mem_map.mp hc
   have:=List.mem_range.mp hi
   exact h _ (by omega) (by omega)
  have nd:((List.range (ns.length + 1)).map (fun i:Nat=>(i:Int))).Nodup:=List.Pairwise.map _ (fun a b (h:a≠b) z=>h (by omega)) List.nodup_range
  have:=List.Nodup.length_le_of_subset nd hs
  rw [List.length_map,List.length_range] at this
  omega
 ·exact ⟨n,h2,by omega⟩
structure gF (key:List Key):Prop where
 is:dJ (key.map kV)=true
 few:key.length<=2
 short:∀ z,V.str z∈key.map kV->z.length<=10000
def eV (al:List Nat) (ws:List Int):Int:=(al.length:Int) ^ (ws.length - 1)
theorem pz {H:Hp}{t:Addr}{key:List Key} (ht:H t=some (.tup (key.map kV))) (ok:gF key):kj H (.ref t)=true:=by
 show (match H t with | some (.tup xs)=>dJ xs | _=>false)=true
 rw [ht];exact ok.is
theorem Ck {es:List Ben}{ns:List Int} (hp:ns.Perm ((es.map fun e=>(e.num,V.ref e.adr)).map (·.1))) (hs:ns.Pairwise (·<=·)) (hn:(es.map (·.num)).Nodup):∃ ms:List Ben,ms.Perm es/\ms.map (·.num)=ns/\(ms.map (·.num)).Pairwise (· < ·):=by
 rw [List.map_map] at hp
 have p1:(es.mergeSort fun a b=>decide (a.num<=b.num)).Perm es:=List.mergeSort_perm _ _
 have p2:=List.pairwise_mergeSort (le:=fun a b:Ben=>decide (a.num<=b.num)) (fun a b c h1 h2=>by simp only [decide_eq_true_eq] at *;omega) (fun a b=>by simp only [Bool.or_eq_true,decide_eq_true_eq];omega) es
 generalize es.mergeSort (fun a b=>decide (a.num<=b.num))=ms at p1 p2
 have p3:(ms.map (·.num)).Pairwise (·<=·):=List.pairwise_map.mpr (List.Pairwise.imp (fun h=>by simpa using h) p2)
 have e:ms.map (·.num)=ns:=PySem.W.ksm_same ((p1.map _).trans hp.symm) p3 hs
 refine ⟨ms,p1,e,?_⟩
 have nd:(ms.map (·.num)).Nodup:=(p1.map _).nodup_iff.mpr hn
 exact List.Pairwise.imp (fun {a b} (h:a<=b/\a≠b)=>by omega) (p3.and nd)
def Bf (H:Hp) (vs:List V) (tss:List (List V)):Prop:=Paired (fun v ts=>∃ p,v=V.ref p/\H p=some (.tup ts)) vs tss
theorem kP {α β γ:Type}{F:α->γ->Prop}{f:β->γ}:∀ {l₁:List α}{l₂:List β},Paired F l₁ (l₂.map f)->Paired (fun a b=>F a (f b)) l₁ l₂
 | [],[],_=>.nil
 | _::_,_::_,.cons r t=>.cons r (kP t)
theorem vw {J:It}{H1:Hp}{xs:List V}{js:List Nat}{σ:St}{te:TE}{Q:VK} (hJ:J.Seq H1 xs) (hl:xs.length < sizeLine) (tss:List (List V)) (hn:tss.length=xs.length)
  (he:∀ (i:Nat) x ts,xs[i]?=some x->tss[i]?=some ts->∀ H,ao H1 H->∀ R:VK,(∀ p H',H p=none->ao H H'->H' p=some (.tup ts)->R (.ref p) H')->te (some x::js.map fun j=>(σ[j]?).join) H R)
  (q:∀ D vs H,H1 D=none->ao H1 H->H D=some (.lst vs)->Bf H vs tss->Q (.ref D) H):dh (dH 0) xv te (fL 1 js σ) J H1 Q:=by
 intro D hD
 refine ⟨fun i m ys σ1 H=>m=xs.length - i/\i<=xs.length/\(∃ o,σ1=o::js.map fun j=>(σ[j]?).join)/\ys.length=i/\Bf H ys (tss.take i)/\ao H1 H/\H D=some (.lst ys),
  ⟨xs.length,by simp,Nat.zero_le _,⟨none,rfl⟩,rfl,.nil,(ao.refl H1).bD hD,ay⟩,?_⟩
 rintro i m ys σ1 H ⟨rfl,hi,⟨o,rfl⟩,hy,hg,sH,hL⟩
 refine ⟨hL,by omega,?_⟩
 by_cases hlt:i < xs.length
 ·have e:xs[i]?=some xs[i]:=List.getElem?_eq_getElem hlt
  have e2:tss[i]?=some (tss[i]'(by omega)):=List.getElem?_eq_getElem _
  obtain ⟨go,yl⟩:=(hJ H sH).1 i xs[i] e
  refine .inr ⟨go,fun x H' y=>?_⟩
  obtain ⟨q1,q2⟩:=yl x H' y
  subst q1 q2
  show te (some xs[i]::js.map fun j=>(σ[j]?).join) H' _
  refine he i _ _ e e2 H' sH _ fun p H4 w4 s4 hp=>?_
  have hL4:=s4 _ _ hL
  have pD:p≠D:=(aO hL w4).symm
  refine ⟨hL4,xs.length - (i + 1),by omega,rfl,hlt,⟨_,rfl⟩,by rw [List.length_append,hy];rfl,?_,(sH.trans s4).bD hD,ay⟩
  rw [List.take_add_one,e2]
  refine iz (kO (fun v ts ⟨b,eb,hb⟩=>⟨b,eb,?_⟩) hg) (.cons ⟨p,rfl,by rw [av pD];exact hp⟩ .nil)
  have h4:=s4 _ _ hb
  rw [av (kM h4 hL4 (by intro z;cases z))];exact h4
 ·have e:i=xs.length:=by omega
  subst e
  rw [List.take_of_length_le (by omega)] at hg
  exact .inl ⟨(hJ H sH).2 _ (Nat.le_refl _),q D ys H hD sH hL hg⟩
theorem yB (H:Hp) (z:Key):∃ t,cP H (kV z)=some t:=by
 cases z with
 | inl i=>exact ⟨.int,rfl⟩
 | inr s=>exact ⟨.str,rfl⟩
def qz (H:Hp) (p:Addr):Prop:=∃ (ks:List Key),H p=some (.tup (ks.map kV))/\dJ (ks.map kV)=true/\1<=ks.length/\ks.length<=2/\∀ z∈ks,∃ l:List Nat,z=.inr (tx l)/\l.length<=1000
theorem qz.same {H H':Hp}{p:Addr} (s:ao H H') (h:qz H p):qz H' p:=by
 obtain ⟨ks,e1,e2⟩:=h
 exact ⟨ks,s _ _ e1,e2⟩
theorem y7 {α:Type}{f:Ben->α}{es:List Ben}{x e:Ben} (hn:(es.map f).Nodup) (hx:x∈es) (he:e∈es) (h:f x=f e):x=e:=by
 obtain ⟨i,hi,rfl⟩:=List.getElem_of_mem hx
 obtain ⟨j,hj,rfl⟩:=List.getElem_of_mem he
 have:=List.pairwise_iff_getElem.mp hn
 rcases Nat.lt_trichotomy i j with l | l | l
 ·exact absurd (by rw [List.getElem_map,List.getElem_map];exact h) (this i j (by rw [List.length_map];exact hi) (by rw [List.length_map];exact hj) l)
 ·subst l;rfl
 ·exact absurd (by rw [List.getElem_map,List.getElem_map];exact h.symm) (this j i (by rw [List.length_map];exact hj) (by rw [List.length_map];exact hi) l)
theorem Cp {H:Hp}{p:Addr} (h:qz H p):∃ ks:List Key,H p=some (.tup (ks.map kV))/\gF ks:=by
 obtain ⟨ks,h1,h2,h3,h4,h5⟩:=h
 refine ⟨ks,h1,h2,h4,fun z hz=>?_⟩
 obtain ⟨u,hu,e⟩:=List.mem_map.mp hz
 obtain ⟨l,el,ll⟩:=h5 u hu
 rw [el] at e
 have e':tx l=z:=V.str.inj e
 rw [← e',aY];omega
theorem vd {H:Hp}{p:Addr}{ks:List Key} (hp:H p=some (.tup (ks.map kV))) (ok:gF ks):cP H (.ref p)=some Tg.tup/\∀ q xs,V.ref p=.ref q->H q=some (.tup xs)->xs.length<=1000/\∀ y∈xs,(∃ t,cP H y=some t)/\∀ z,y=.str z->z.length<=10000:=by
 refine ⟨by show gB (H p)=_;rw [hp];rfl,fun q xs e e2=>?_⟩
 cases e
 rw [hp] at e2
 cases e2
 refine ⟨by rw [List.length_map];have:=ok.few;omega,fun y hy=>⟨?_,fun z ez=>ok.short z (by rw [← ez];exact hy)⟩⟩
 obtain ⟨x,_,rfl⟩:=List.mem_map.mp hy
 exact yB H x
abbrev SSt:=List (List Nat) × List Nat
def DG:Key->List Nat
 | .inr z=>z.cps.toList
 | .inl _=>[]
def qp (w:List Nat) (s:SSt):Option SSt:=if s.2=[]/\s.1.length + (Mk.aQ 32 w).length<=60 then some (s.1++Mk.aQ 32 w,[]) else none
def qr (w:List Nat) (s:SSt):Option SSt:=if s.1.length < 60/\s.2.length + w.length<=20 then some (s.1,s.2++w) else none
def Dr (s:SSt):Option SSt:=if s.2=[] then none else some (s.1++[s.2],[])
def stepK (key:List Key) (s:SSt):Option SSt :=
 match key with
 | [.inr z,y]=>if z=("phrase":Str) then qp (DG y) s else qr (DG y) s
 | _=>Dr s
def runK:List (List Key)->SSt->Option SSt
 | [],s=>some s
 | k::r,s=>match stepK k s with
  | none=>none
  | some s'=>runK r s'
theorem mV:∀ (a b:List (List Key)) (s:SSt),runK (a++b) s=match runK a s with | none=>none | some s'=>runK b s'
 | [],b,s=>rfl
 | k::a,b,s=>by
  show (match stepK k s with | none=>none | some s'=>runK (a++b) s')=match (match stepK k s with | none=>none | some s'=>runK a s') with | none=>none | some s'=>runK b s'
  cases stepK k s with
  | none=>rfl
  | some s'=>exact mV a b s'
theorem lO {key:List Key} (ok:gF key):(∃ l,key=[.inr ("phrase":Str),.inr (tx l)]/\dm 6 l=true) ∨ (∃ l,key=[.inr ("part":Str),.inr (tx l)]/\bL 6 l=true) ∨ key=[.inr ("end":Str)]:=by
 have h:=ok.is
 cases key with
 | nil=>cases h
 | cons a r =>
  cases a with
  | inl i=>cases h
  | inr z =>
   cases r with
   | nil =>
    have h':decide (z=("end":Str))=true:=h
    exact .inr (.inr (by rw [of_decide_eq_true h']))
   | cons y r2 =>
    cases r2 with
    | cons _ _=>cases h
    | nil =>
     have h':(if z=("phrase":Str) then bP 6 (kV y) else if z=("part":Str) then dG 6 (kV y) else false)=true:=h
     cases y with
     | inl i =>
      exfalso
      split at h'
      ·cases h'
      ·split at h' <;> cases h'
     | inr y =>
      have ey:y=tx y.cps.toList:=by cases y;simp [tx]
      split at h'
      ·rename_i hz
       exact .inl ⟨y.cps.toList,by rw [hz,← ey],h'⟩
      ·split at h'
       ·rename_i hz
        exact .inr (.inl ⟨y.cps.toList,by rw [hz,← ey],h'⟩)
       ·cases h'
theorem gp (l:List Nat) (s:SSt):stepK [.inr ("phrase":Str),.inr (tx l)] s=if s.2=[]/\s.1.length + (Mk.aQ 32 l).length<=60 then some (s.1++Mk.aQ 32 l,[]) else none:=by
 show (if ("phrase":Str)=("phrase":Str) then qp (tx l).cps.toList s else qr (tx l).cps.toList s)=qp l s
 rw [if_pos rfl,df]
theorem iM (l:List Nat) (s:SSt):stepK [.inr ("part":Str),.inr (tx l)] s=if s.1.length < 60/\s.2.length + l.length<=20 then some (s.1,s.2++l) else none:=by
 show (if ("part":Str)=("phrase":Str) then qp (tx l).cps.toList s else qr (tx l).cps.toList s)=qr l s
 rw [if_neg (by decide),df]
theorem jQ (s:SSt):stepK [.inr ("end":Str)] s=if s.2=[] then none else some (s.1++[s.2],[]):=rfl
def fJ (w:List Nat):Prop:=1<=w.length/\w.length<=20/\∀ c∈w,97<=c/\c < 123
structure iR (s:SSt):Prop where
 few:s.1.length<=60
 wds:∀ w∈s.1,fJ w
 len:s.2.length<=20
 let_:∀ c∈s.2,97<=c/\c < 123
 sp:s.2≠[]->s.1.length < 60
theorem EK:iR ([],[]):=⟨by decide,(fun w h=>by cases h),by decide,(fun c h=>by cases h),fun h=>absurd rfl h⟩
theorem pG {n:Nat}{l:List Nat} (h:bL n l=true):1<=l.length/\l.length<=n/\∀ c∈l,97<=c/\c < 123:=by
 unfold bL at h
 rw [Bool.and_eq_true,Bool.and_eq_true,decide_eq_true_eq,decide_eq_true_eq,List.all_eq_true] at h
 exact ⟨h.1.1,h.1.2,fun c hc=>of_decide_eq_true (h.2 c hc)⟩
theorem zR {n:Nat}{l:List Nat} (h:dm n l=true):(Mk.aQ 32 l).length<=n/\∀ w∈Mk.aQ 32 l,fJ w:=by
 unfold dm at h
 rw [Bool.and_eq_true,decide_eq_true_eq,List.all_eq_true] at h
 exact ⟨h.1,fun w hw=>pG (h.2 w hw)⟩
theorem iR.step {key:List Key}{s s':SSt} (ok:gF key) (h:iR s) (e:stepK key s=some s'):iR s':=by
 rcases lO ok with ⟨l,rfl,hl⟩ | ⟨l,rfl,hl⟩ | rfl
 ·rw [gp] at e
  split at e
  ·rename_i hc
   cases e
   obtain ⟨_,hw⟩:=zR hl
   exact ⟨by rw [List.length_append];exact hc.2,fun w hw'=>(List.mem_append.mp hw').elim (h.wds w) (hw w),by simp,(fun c hc=>by cases hc),fun hh=>absurd rfl hh⟩
  ·cases e
 ·rw [iM] at e
  split at e
  ·rename_i hc
   cases e
   obtain ⟨_,_,hw⟩:=pG hl
   exact ⟨h.few,h.wds,by rw [List.length_append];exact hc.2,fun c hc'=>(List.mem_append.mp hc').elim (h.let_ c) (hw c),fun _=>hc.1⟩
  ·cases e
 ·rw [jQ] at e
  split at e
  ·cases e
  ·rename_i hc
   cases e
   have:=h.sp hc
   have l1:1<=s.2.length:=by
    cases hs:s.2 with
    | nil=>exact absurd hs hc
    | cons _ _=>simp
   exact ⟨by rw [List.length_append];exact this,fun w hw=>(List.mem_append.mp hw).elim (h.wds w) fun hw=>by rw [List.mem_singleton.mp hw];exact ⟨l1,h.len,h.let_⟩,by simp,(fun c hc=>by cases hc),fun hh=>absurd rfl hh⟩
theorem iR.run:∀ {ks:List (List Key)}{s s':SSt},(∀ k∈ks,gF k)->iR s->runK ks s=some s'->iR s'
 | [],s,s',_,h,e=>by cases e;exact h
 | k::r,s,s',ok,h,e=>by
  have e':(match stepK k s with | none=>none | some t=>runK r t)=some s':=e
  cases hs:stepK k s with
  | none=>rw [hs] at e';cases e'
  | some t =>
   rw [hs] at e'
   exact iR.run (fun x hx=>ok x (List.mem_cons_of_mem _ hx)) (h.step (ok k List.mem_cons_self) hs) e'
theorem yd:gF [.inr ("end":Str)]:=⟨rfl,by decide,fun z hz=>by
 have:V.str z=V.str ("end":Str):=List.mem_singleton.mp hz
 cases this;decide⟩
theorem vc {l:List Nat} (h:bL 6 l=true):gF [.inr ("part":Str),.inr (tx l)]:=⟨by
 show bL 6 (tx l).cps.toList=true
 rw [df];exact h,Nat.le_refl 2,fun z hz=>by
 have hz':V.str z∈[V.str ("part":Str),V.str (tx l)]:=hz
 have:=(pG h).2.1
 rcases List.mem_cons.mp hz' with e | e
 ·cases e;decide
 ·have e2:V.str z=V.str (tx l):=List.mem_singleton.mp e
  cases e2
  rw [aY];omega⟩
theorem j4 {ws:List (List Nat)} (h60:ws.length<=60) (hw:∀ w∈ws,fJ w):(Mk.br 32 ws).length<=1260/\(ws.map fun w=>w.length + 1).sum<=1260:=by
 obtain ⟨a,b⟩:=rn (n:=60) h60 fun w h=>(hw w h).2.1
 exact ⟨by omega,by omega⟩
theorem mW {ks:List (List Key)}{k:List Key}{s s':SSt}{s0:SSt} (h:runK ks s0=some s) (e:stepK k s=some s'):runK (ks++[k]) s0=some s':=by
 rw [mV,h]
 show (match stepK k s with | none=>none | some t=>runK [] t)=some s'
 rw [e];rfl
theorem qP (ns:List Int) (a b:Nat):∃ l:List Int,gq (ns.map V.int) (some (a:Int)) (some (b:Int))=l.map V.int/\l.length<=b - a:=by
 refine ⟨(ns.drop (min a ns.length)).take (min b ns.length - min a ns.length),?_,?_⟩
 ·unfold gq
  rw [HT.eR,HT.eR,List.length_map,List.map_take,List.map_drop]
 ·rw [List.length_take,List.length_drop]
  omega
def ir:Str:="spelling_of.<locals>.<lambda>"
def j6:Str:="settings_of.<locals>.<lambda>"
abbrev OG:=Option (List Int)
def gP (best:List OG) (F:Nat->Nat->OG) (b:Nat) (found:OG) (i:Nat):OG :=
 match best.getD i none,F i b with
 | some p,some a=>match found with
  | none=>some (p++a)
  | some f=>if p.length + a.length < f.length then some (p++a) else some f
 | _,_=>found
def gr (best:List OG) (F:Nat->Nat->OG) (b lo:Nat):Nat->OG
 | 0=>none
 | t + 1=>gP best F b (gr best F b lo t) (lo + t)
def fwB (F:Nat->Nat->OG) (lg:Nat):Nat->List OG
 | 0=>[some []]
 | n + 1=>fwB F lg n++[gr (fwB F lg n) F (n + 1) (n + 1 - lg) (n + 1 - (n + 1 - lg))]
theorem bX (F:Nat->Nat->OG) (lg:Nat):∀ n,(fwB F lg n).length=n + 1
 | 0=>rfl
 | n + 1=>by show (fwB F lg n++[_]).length=_;rw [List.length_append,bX F lg n];rfl
def fK (H:Hp) (v:V) (o:OG):Prop:=match o with
 | none=>v=.non
 | some l=>∃ a,v=.ref a/\H a=some (.lst (l.map V.int))
theorem fK.same {H H':Hp}{v:V}{o:OG} (h:fK H v o) (s:ao H H'):fK H' v o:=by
 cases o with
 | none=>exact h
 | some l=>obtain ⟨a,e,h⟩:=h;exact ⟨a,e,s _ _ h⟩
theorem fK.keep {H H':Hp}{v:V}{o:OG}{p:Addr} (h:fK H v o) (hv:v≠.ref p) (s:∀ x u,x≠p->H x=some u->H' x=some u):fK H' v o:=by
 cases o with
 | none=>exact h
 | some l=>obtain ⟨a,rfl,h⟩:=h;exact ⟨a,rfl,s _ _ (fun e=>hv (by rw [e])) h⟩
def D5 (m:Nat) (best:List OG):Prop:=∀ i l,best[i]?=some (some l)->l.length<=m * i
theorem vq {m:Nat}{best:List OG}{F:Nat->Nat->OG}{b lo:Nat} (h:D5 m best) (hF:∀ i j l,F i j=some l->l.length<=m):∀ t l,lo + t<=b->gr best F b lo t=some l->l.length<=m * b
 | 0,l,_,e=>by cases e
 | t + 1,l,hb,e=>by
  have ih:=vq (b:=b) (lo:=lo) h hF t
  have e':gP best F b (gr best F b lo t) (lo + t)=some l:=e
  unfold gP at e'
  have hm:m * (lo + t) + m<=m * b:=by rw [← Nat.mul_succ];exact Nat.mul_le_mul_left m (by omega)
  cases hp:best.getD (lo + t) none with
  | none=>rw [hp] at e';exact ih l (by omega) e'
  | some p =>
   have hp':best[lo + t]?=some (some p):=by
    rw [List.getD_eq_getElem?_getD] at hp
    cases hq:best[lo + t]? with
    | none=>rw [hq] at hp;cases hp
    | some o=>rw [hq] at hp;exact congrArg some hp
   cases ha:F (lo + t) b with
   | none=>rw [hp,ha] at e';exact ih l (by omega) e'
   | some a =>
    rw [hp,ha] at e'
    have l1:=h _ _ hp'
    have l2:=hF _ _ _ ha
    cases hf:gr best F b lo t with
    | none =>
     rw [hf] at e'
     cases e'
     rw [List.length_append];omega
    | some f =>
     rw [hf] at e'
     have e2:(if p.length + a.length < f.length then some (p++a) else some f)=some l:=e'
     split at e2
     ·cases e2;rw [List.length_append];omega
     ·cases e2;exact ih _ (by omega) hf
theorem ki {m lg:Nat}{F:Nat->Nat->OG} (hF:∀ i j l,F i j=some l->l.length<=m):∀ n,D5 m (fwB F lg n)
 | 0,i,l,e=>by
  have e':([some []]:List OG)[i]?=some (some l):=e
  cases i with
  | zero=>cases e';simp
  | succ i=>simp at e'
 | n + 1,i,l,e=>by
  have e':(fwB F lg n++[gr (fwB F lg n) F (n + 1) (n + 1 - lg) (n + 1 - (n + 1 - lg))])[i]?=some (some l):=e
  rcases Nat.lt_trichotomy i (n + 1) with h | h | h
  ·rw [List.getElem?_append_left (by rw [bX];exact h)] at e'
   exact ki hF n i l e'
  ·rw [List.getElem?_append_right (by rw [bX];omega),bX,h,Nat.sub_self] at e'
   have e2:gr (fwB F lg n) F (n + 1) (n + 1 - lg) (n + 1 - (n + 1 - lg))=some l:=Option.some.inj e'
   rw [h]
   exact vq (ki hF n) hF _ l (by omega) e2
  ·rw [List.getElem?_eq_none (by rw [List.length_append,bX];show n + 1 + 1<=i;omega)] at e'
   cases e'
theorem jE {H H':Hp}{p:Addr}:∀ {vs:List V}{os:List OG},Paired (fK H) vs os->(∀ v∈vs,v≠V.ref p)->(∀ v o,v≠V.ref p->fK H v o->fK H' v o)->Paired (fK H') vs os
 | _,_,.nil,_,_=>.nil
 | _,_,.cons h r,hn,k=>.cons (k _ _ (hn _ List.mem_cons_self) h) (jE r (fun v hv=>hn v (List.mem_cons_of_mem _ hv)) k)
def lgV (o:OG):V:=match o with
 | none=>.non
 | some l=>.int l.length
def wj (best:List OG) (F:Nat->Nat->OG) (b i:Nat):Option Nat:=match best.getD i none,F i b with
 | some p,some a=>some (p.length + a.length)
 | _,_=>none
theorem mw (F:Nat->Nat->OG) (lg:Nat):∀ n m,m<=n->(fwB F lg n).take (m + 1)=fwB F lg m
 | 0,m,h=>by
  have:m=0:=by omega
  subst this;rfl
 | n + 1,m,h=>by
  by_cases e:m=n + 1
  ·subst e
   exact List.take_of_length_le (by rw [bX];exact Nat.le_refl _)
  ·show (fwB F lg n++[_]).take (m + 1)=_
   rw [List.take_append_of_le_length (by rw [bX];omega)]
   exact mw F lg n m (by omega)
theorem yq (F:Nat->Nat->OG) (lg:Nat):∀ n m,m + 1<=n->(fwB F lg n)[m + 1]?=some (gr (fwB F lg m) F (m + 1) (m + 1 - lg) (m + 1 - (m + 1 - lg)))
 | 0,m,h=>by omega
 | n + 1,m,h=>by
  show (fwB F lg n++[_])[m + 1]?=_
  by_cases e:m=n
  ·subst e
   rw [List.getElem?_append_right (by rw [bX];omega),bX,Nat.sub_self];rfl
  ·rw [List.getElem?_append_left (by rw [bX];omega)]
   exact yq F lg n m (by omega)
theorem Bt (F:Nat->Nat->OG) (lg n:Nat):(fwB F lg n)[0]?=some (some []):=by
 have h:=mw F lg n 0 (Nat.zero_le _)
 have e:((fwB F lg n).take (0 + 1))[0]?=(fwB F lg n)[0]?:=by rw [List.getElem?_take_of_lt (by decide)]
 rw [← e,h];rfl
def gu (es:List Ben) (key:List Key):Option Int:=(es.find? fun e=>decide (e.key=key)).map (·.num)
theorem wV {es:List Ben}{key:List Key} (h:key ∉ es.map (·.key)):gu es key=none:=by
 unfold gu
 rw [List.find?_eq_none.mpr fun e he=>by simpa using fun z=>h (List.mem_map.mpr ⟨e,he,z⟩)]
 rfl
theorem wW {es:List Ben}{e:Ben} (hn:(es.map (·.key)).Nodup) (he:e∈es):gu es e.key=some e.num:=by
 unfold gu
 cases hf:es.find? fun x=>decide (x.key=e.key) with
 | none=>exact absurd (List.find?_eq_none.mp hf e he) (by simp)
 | some x =>
  have h1:=List.find?_some hf
  have:x=e:=y7 hn (List.mem_of_find?_eq_some hf) he (of_decide_eq_true h1)
  rw [this];rfl
def wz:List Key:=[.inr ("end":Str)]
def kR (l:List Nat):List Key:=[.inr ("part":Str),.inr (tx l)]
def rS (l:List Nat):List Key:=[.inr ("phrase":Str),.inr (tx l)]
def dY {α:Type} (w:List α) (i j:Nat):List α:=(w.drop i).take (j - i)
theorem jV {α:Type}{w:List α}{i j:Nat} (h:i<=j) (hj:j<=w.length):(dY w i j).length=j - i:=by
 unfold dY
 rw [List.length_take,List.length_drop];omega
theorem iE {α:Type}{w:List α}{i j:Nat}{x:α} (h:x∈dY w i j):x∈w:=List.mem_of_mem_drop (List.mem_of_mem_take h)
theorem xZ {l:List Nat}{i j:Nat} (h:i<=j) (hj:j<=l.length):iO l (some (i:Int)) (some (j:Int))=dY l i j:=by
 unfold iO dY
 rw [HT.eR,HT.eR,Nat.min_eq_left hj,Nat.min_eq_left (by omega)]
theorem wu {α:Type}{f:α->V}{l:List α}{i j:Nat} (h:i<=j) (hj:j<=l.length):gq (l.map f) (some (i:Int)) (some (j:Int))=(dY l i j).map f:=by
 unfold gq dY
 rw [HT.eR,HT.eR,List.length_map,Nat.min_eq_left hj,Nat.min_eq_left (by omega),List.map_take,List.map_drop]
theorem Co {ws:List (List Nat)} (w1:1<=ws.length) (w6:ws.length<=6) (hw:∀ w∈ws,fJ w):gF (rS (Mk.br 32 ws)):=⟨by
 show dm 6 (tx (Mk.br 32 ws)).cps.toList=true
 rw [df]
 exact jY w1 w6 hw,Nat.le_refl 2,fun z hz=>by
 have hz':V.str z∈[V.str ("phrase":Str),V.str (tx (Mk.br 32 ws))]:=hz
 obtain ⟨j1,j2⟩:=j4 (ws:=ws) (by omega) hw
 rcases List.mem_cons.mp hz' with e | e
 ·cases e;decide
 ·have e2:V.str z=V.str (tx (Mk.br 32 ws)):=List.mem_singleton.mp e
  cases e2
  rw [aY];omega⟩
def one (o:Option Int):OG:=o.map fun n=>[n]
def iS (es:List Ben) (w:List Nat):List OG:=fwB (fun i j=>one (gu es (kR (dY w i j)))) 6 w.length
def eO (es:List Ben) (w:List Nat):OG:=match gu es wz with
 | none=>none
 | some e=>match (iS es w).getD w.length none with
  | none=>none
  | some l=>some (l++[e])
def iC (es:List Ben) (ws:List (List Nat)):OG:=match gu es (rS (Mk.br 32 ws)) with
 | some n=>some [n]
 | none=>if ws.length=1 then eO es (ws.getD 0 []) else none
def setB (es:List Ben) (ws:List (List Nat)):List OG:=fwB (fun i j=>iC es (dY ws i j)) 6 ws.length
theorem pW {o:Option Int}{l:List Int} (h:one o=some l):l.length<=1:=by
 cases o with
 | none=>cases h
 | some n=>cases h;exact Nat.le_refl _
theorem oR {es:List Ben}{w:List Nat}{l:List Int} (hw:w.length<=20) (h:eO es w=some l):l.length<=21:=by
 unfold eO at h
 cases he:gu es wz with
 | none=>rw [he] at h;cases h
 | some e =>
  rw [he] at h
  cases hp:(iS es w).getD w.length none with
  | none=>rw [hp] at h;cases h
  | some p =>
   rw [hp] at h
   cases h
   have hp':(iS es w)[w.length]?=some (some p):=by
    rw [List.getD_eq_getElem?_getD] at hp
    cases hq:(iS es w)[w.length]? with
    | none=>rw [hq] at hp;cases hp
    | some o=>rw [hq] at hp;exact congrArg some hp
   have:=ki (m:=1) (lg:=6) (F:=fun i j=>one (gu es (kR (dY w i j)))) (fun i j l h=>pW h) w.length w.length p hp'
   rw [List.length_append]
   show p.length + 1<=21
   omega
theorem sq {es:List Ben}{ws:List (List Nat)}{l:List Int} (hw:∀ w∈ws,w.length<=20) (h:iC es ws=some l):l.length<=21:=by
 unfold iC at h
 cases hn:gu es (rS (Mk.br 32 ws)) with
 | some n=>rw [hn] at h;cases h;show 1<=21;decide
 | none =>
  rw [hn] at h
  have h':(if ws.length=1 then eO es (ws.getD 0 []) else none)=some l:=h
  split at h'
  ·rename_i h1
   refine oR (hw _ ?_) h'
   rw [List.getD_eq_getElem?_getD,List.getElem?_eq_getElem (by omega)]
   exact List.getElem_mem _
  ·cases h'
theorem ot {best:List OG}{F:Nat->Nat->OG}{b lo:Nat}:∀ t l,gr best F b lo t=some l->∃ s p a,s < t/\best.getD (lo + s) none=some p/\F (lo + s) b=some a/\l=p++a
 | 0,l,h=>by cases h
 | t + 1,l,h=>by
  have ih:=ot (best:=best) (F:=F) (b:=b) (lo:=lo) t
  have up:(∃ s p a,s < t/\best.getD (lo + s) none=some p/\F (lo + s) b=some a/\l=p++a)->∃ s p a,s < t + 1/\best.getD (lo + s) none=some p/\F (lo + s) b=some a/\l=p++a:=fun ⟨s,p,a,h1,h2⟩=>⟨s,p,a,by omega,h2⟩
  have h':gP best F b (gr best F b lo t) (lo + t)=some l:=h
  unfold gP at h'
  cases hp:best.getD (lo + t) none with
  | none=>rw [hp] at h';exact up (ih l h')
  | some p =>
   cases ha:F (lo + t) b with
   | none=>rw [hp,ha] at h';exact up (ih l h')
   | some a =>
    rw [hp,ha] at h'
    cases hf:gr best F b lo t with
    | none=>rw [hf] at h';cases h';exact ⟨t,p,a,by omega,hp,ha,rfl⟩
    | some f =>
     rw [hf] at h'
     have h2:(if p.length + a.length < f.length then some (p++a) else some f)=some l:=h'
     split at h2
     ·cases h2;exact ⟨t,p,a,by omega,hp,ha,rfl⟩
     ·cases h2;exact up (ih _ hf)
theorem Aj {F:Nat->Nat->OG}{lg n m i:Nat} (h:i<=m) (hm:m<=n):(fwB F lg m)[i]?=(fwB F lg n)[i]?:=by
 rw [← mw F lg n m hm,List.getElem?_take_of_lt (by omega)]
theorem v8 {best:List OG}{i:Nat}{p:List Int} (h:best.getD i none=some p):best[i]?=some (some p):=by
 rw [List.getD_eq_getElem?_getD] at h
 cases hq:best[i]? with
 | none=>rw [hq] at h;cases h
 | some o=>rw [hq] at h;exact congrArg some h
theorem vp {F:Nat->Nat->OG}{lg n:Nat} (g1:1<=lg) {P:Nat->List Int->Prop} (h0:P 0 []) (hs:∀ i j p a,i < j->j<=n->j<=i + lg->P i p->F i j=some a->P j (p++a)):∀ m l,m<=n->(fwB F lg n)[m]?=some (some l)->P m l:=by
 intro m
 induction m using Nat.strongRecOn with
 | _ m ih =>
  intro l hm h
  cases m with
  | zero=>rw [Bt] at h;cases h;exact h0
  | succ m =>
   rw [yq F lg n m hm] at h
   obtain ⟨s,p,a,h1,h2,h3,rfl⟩:=ot _ l (Option.some.inj h)
   have hp:=v8 h2
   rw [Aj (n:=n) (by omega) (by omega)] at hp
   exact hs _ _ p a (by omega) hm (by omega) (ih _ (by omega) p (by omega) hp) h3
theorem mC {es:List Ben}{key:List Key}{n:Int} (h:gu es key=some n):∃ e∈es,e.key=key/\e.num=n:=by
 unfold gu at h
 obtain ⟨e,he,rfl⟩:=Option.map_eq_some_iff.mp h
 have hd:decide (e.key=key)=true:=List.find?_some (p:=fun e:Ben=>decide (e.key=key)) he
 exact ⟨e,List.mem_of_find?_eq_some he,of_decide_eq_true hd,rfl⟩
theorem kx {α:Type}{l:List α}{i j:Nat} (h:i<=j):l.take i++dY l i j=l.take j:=by
 unfold dY
 rw [show j=i + (j - i) by omega,List.take_add,show i + (j - i) - i=j - i by omega]
theorem xh {es:List Ben}{w:List Nat}{W:List (List Nat)} (hw:w.length<=20) (hW:W.length < 60):∀ m l,m<=w.length->(iS es w)[m]?=some (some l)->∃ grp:List Ben,(∀ e∈grp,e∈es)/\grp.map (·.num)=l/\runK (grp.map (·.key)) (W,[])=some (W,w.take m):=by
 refine vp (by decide) (P:=fun m l=>∃ grp:List Ben,(∀ e∈grp,e∈es)/\grp.map (·.num)=l/\runK (grp.map (·.key)) (W,[])=some (W,w.take m)) ⟨[],(fun e h=>by cases h),rfl,rfl⟩ ?_
 rintro i j p a hij hj hl ⟨grp,h1,rfl,h3⟩ ha
 have ha':one (gu es (kR (dY w i j)))=some a:=ha
 cases hn:gu es (kR (dY w i j)) with
 | none=>rw [hn] at ha';cases ha'
 | some n =>
  rw [hn] at ha'
  cases ha'
  obtain ⟨e,he,ek,rfl⟩:=mC hn
  refine ⟨grp++[e],(fun x hx=>(List.mem_append.mp hx).elim (h1 x) fun h=>by rw [List.mem_singleton.mp h];exact he),by rw [List.map_append];rfl,?_⟩
  rw [List.map_append]
  refine mW h3 ?_
  show stepK e.key _=_
  rw [ek]
  unfold kR
  have hc:W.length < 60/\(w.take i).length + (dY w i j).length<=20:=⟨hW,by rw [List.length_take,jV (by omega) hj];omega⟩
  rw [iM]
  exact (if_pos hc).trans (congrArg (fun z=>some (W,z)) (kx (by omega)))
theorem z7 {es:List Ben}{wd:List (List Nat)} (h60:wd.length<=60) (hw:∀ w∈wd,fJ w):∀ m l,m<=wd.length->(setB es wd)[m]?=some (some l)->∃ grp:List Ben,(∀ e∈grp,e∈es)/\grp.map (·.num)=l/\runK (grp.map (·.key)) ([],[])=some (wd.take m,[]):=by
 refine vp (by decide) (P:=fun m l=>∃ grp:List Ben,(∀ e∈grp,e∈es)/\grp.map (·.num)=l/\runK (grp.map (·.key)) ([],[])=some (wd.take m,[])) ⟨[],(fun e h=>by cases h),rfl,rfl⟩ ?_
 rintro i j p a hij hj hl ⟨grp,h1,rfl,h3⟩ ha
 have ha':iC es (dY wd i j)=some a:=ha
 have lc:=jV (w:=wd) (i:=i) (j:=j) (by omega) hj
 unfold iC at ha'
 cases hn:gu es (rS (Mk.br 32 (dY wd i j))) with
 | some n =>
  rw [hn] at ha'
  cases ha'
  obtain ⟨e,he,ek,rfl⟩:=mC hn
  refine ⟨grp++[e],(fun x hx=>(List.mem_append.mp hx).elim (h1 x) fun h=>by rw [List.mem_singleton.mp h];exact he),by rw [List.map_append];rfl,?_⟩
  rw [List.map_append]
  refine mW h3 ?_
  show stepK e.key _=_
  rw [ek]
  unfold rS
  have hc:([]:List Nat)=[]/\(wd.take i).length + (dY wd i j).length<=60:=⟨rfl,by rw [List.length_take,lc];omega⟩
  rw [gp,Mk.fe _ (fun z=>by rw [z] at lc;simp at lc;omega) fun w hw' hc=>by have:=(hw w (iE hw')).2.2 32 hc;omega]
  exact (if_pos hc).trans (congrArg (fun z=>some (z,[])) (kx (by omega)))
 | none =>
  rw [hn] at ha'
  have ha2:(if (dY wd i j).length=1 then eO es ((dY wd i j).getD 0 []) else none)=some a:=ha'
  split at ha2
  ·rename_i h1'
   have hji:j=i + 1:=by omega
   subst hji
   have hi:i < wd.length:=by omega
   have hcut:dY wd i (i + 1)=[wd.getD i []]:=by
    unfold dY
    rw [show i + 1 - i=1 by omega,List.drop_eq_getElem_cons hi,List.getD_eq_getElem?_getD,List.getElem?_eq_getElem hi]
    rfl
   rw [hcut] at ha2
   have ha3:eO es (wd.getD i [])=some a:=ha2
   have hwi:fJ (wd.getD i []):=hw _ (by rw [List.getD_eq_getElem?_getD,List.getElem?_eq_getElem hi];exact List.getElem_mem hi)
   have htk:wd.take (i + 1)=wd.take i++[wd.getD i []]:=by rw [← hcut,kx (by omega)]
   generalize wd.getD i []=w at ha3 hwi htk
   unfold eO at ha3
   cases he:gu es wz with
   | none=>rw [he] at ha3;cases ha3
   | some ne =>
    rw [he] at ha3
    cases hp:(iS es w).getD w.length none with
    | none=>rw [hp] at ha3;cases ha3
    | some lp =>
     rw [hp] at ha3
     cases ha3
     obtain ⟨g2,q1,q2,q3⟩:=xh (es:=es) (w:=w) (W:=wd.take i) hwi.2.1 (by rw [List.length_take];omega) w.length lp (Nat.le_refl _) (v8 hp)
     obtain ⟨e,he',ek,rfl⟩:=mC he
     refine ⟨grp++(g2++[e]),(fun x hx=>(List.mem_append.mp hx).elim (h1 x) fun h=>(List.mem_append.mp h).elim (q1 x) fun h=>by rw [List.mem_singleton.mp h];exact he'),by rw [List.map_append,List.map_append,q2];rfl,?_⟩
     rw [List.map_append,mV,h3]
     show runK ((g2++[e]).map (·.key)) (wd.take i,[])=_
     rw [List.map_append]
     refine mW q3 ?_
     show stepK e.key _=_
     rw [ek,List.take_length]
     unfold wz
     rw [jQ,htk]
     refine if_neg fun z=>?_
     have z':w=[]:=z
     have:=hwi.1
     rw [z'] at this
     simp at this
  ·cases ha2
def kOf (es:List Ben) (x:V):Option (List Key):=match x with
 | .int n=>(es.find? fun e=>decide (e.num=n)).map (·.key)
 | _=>none
def lj:List (Option (List Key))->SSt->Nat->Nat ⊕ SSt
 | [],s,_=>.inr s
 | none::_,_,i=>.inl i
 | some k::r,s,i=>match stepK k s with
  | none=>.inl i
  | some s'=>lj r s' (i + 1)
def sd (ks:List (Option (List Key))):Nat ⊕ List (List Nat):=match lj ks ([],[]) 0 with
 | .inl i=>.inl i
 | .inr s=>if s.2=[]/\s.1≠[] then .inr s.1 else .inl ks.length
theorem y9 {es:List Ben} (nn:(es.map (·.num)).Nodup) {e:Ben} (h:e∈es):kOf es (.int e.num)=some e.key:=by
 unfold kOf
 have:∃ u,es.find? (fun u=>decide (u.num=e.num))=some u:=by
  cases q:es.find? (fun u=>decide (u.num=e.num)) with
  | some u=>exact ⟨u,rfl⟩
  | none=>exact absurd (decide_eq_true rfl) (List.find?_eq_none.mp q e h)
 obtain ⟨u,q⟩:=this
 have hu:=List.mem_of_find?_eq_some q
 have en:u.num=e.num:=by
  have z:=List.find?_some q
  simpa using z
 show Option.map _ (es.find? fun u=>decide (u.num=e.num))=_
 rw [q,y7 nn hu h en]
 rfl
theorem yA {es:List Ben}{n:Int} (h:n ∉ es.map (·.num)):kOf es (.int n)=none:=by
 show Option.map _ (es.find? fun u=>decide (u.num=n))=_
 rw [List.find?_eq_none.mpr fun u hu=>by
  rw [decide_eq_true_eq]
  exact fun z=>h (List.mem_map.mpr ⟨u,hu,z⟩)]
 rfl
theorem rW {es:List Ben} (nn:(es.map (·.num)).Nodup):∀ {grp:List Ben}{s s':SSt}{i:Nat},(∀ e∈grp,e∈es)->runK (grp.map (·.key)) s=some s'->lj (grp.map fun e:Ben=>kOf es (.int e.num)) s i=.inr s'
 | [],s,s',i,_,h=>by
  have h':some s=some s':=h
  cases h'
  rfl
 | e::r,s,s',i,hm,h=>by
  rw [List.map_cons,y9 nn (hm e List.mem_cons_self)]
  have h':(match stepK e.key s with | none=>none | some t=>runK (r.map (·.key)) t)=some s':=h
  show (match stepK e.key s with | none=>Sum.inl i | some t=>lj (r.map fun e:Ben=>kOf es (.int e.num)) t (i + 1))=_
  cases hs:stepK e.key s with
  | none=>rw [hs] at h';cases h'
  | some t=>rw [hs] at h';exact rW nn (fun e he=>hm e (List.mem_cons_of_mem _ he)) h'
theorem AV {es:List Ben} (nn:(es.map (·.num)).Nodup) {grp:List Ben}{l:List Int}{ws:List (List Nat)} (hm:∀ e∈grp,e∈es) (hl:grp.map (·.num)=l) (h:runK (grp.map (·.key)) ([],[])=some (ws,[])) (hw:ws≠[]):sd ((l.map V.int).map (kOf es))=.inr ws:=by
 subst hl
 unfold sd
 rw [List.map_map,List.map_map,show ((kOf es ∘ V.int) ∘ fun e:Ben=>e.num)=fun e:Ben=>kOf es (.int e.num) from rfl,rW nn hm h]
 exact if_pos ⟨rfl,hw⟩
def Cf (Ad:Ads) (vs:List V) (H:Hp) (E:XK):Prop:=∃ (b:Addr) (x:V) (t:Tg),vs=[.ref b,x]/\cP H x=some t/\(∀ z,x=.str z->z.length<=10000)/\bP 60 x=false/\∀ H',ao H H'->E (.ref Ad.NoText) none H'
def cL (Ad:Ads):Sp:=fun vs H Q _=>∃ (e:Addr) (n:Int),vs=[.ref e,.int n]/\H e=some (xiO e Ad.NoReading none)/\0<=n/\n < 1000000/\∀ dx H',H dx=none->dx≠e->H' e=some (xiO e Ad.NoReading (some dx))->H' dx=some (.xd [("at",.int n)])->ao (hid e H) (hid e H')->Q .non H'
theorem gU {Ad:Ads}{n:Int}{H1:Hp}{E':XK} (n0:0<=n) (n1:n < 1000000) (k:∀ dx H',ao H1 H'->H' dx=some (.xd [("at",.int n)])->E' (.ref Ad.NoReading) (some dx) H') (e:Addr) (H2:Hp) (z:H1 e=none) (s:ao H1 H2) (he:H2 e=some (xiO e Ad.NoReading none)) :
  cL Ad [.ref e,.int n] H2 (fun v H3=>v=.non/\∃ dx fs,H3 e=some (xiO e Ad.NoReading (some dx))/\H3 dx=some (.xd fs)/\E' (.ref Ad.NoReading) (some dx) (hid e H3)) (fun _ _ _=>False) :=
 ⟨e,n,rfl,he,n0,n1,fun dx H' _ q1 q2 q3 q4=>⟨rfl,dx,_,q2,q3,k dx _ (rZ z s q4) (by rw [fg q1];exact q3)⟩⟩
theorem jM:aD ["self","at"] ["self","at"] (ag bG):=⟨rfl,rfl,rfl,by decide +kernel,rfl,by decide +kernel,by decide +kernel⟩
theorem jA {f:Addr}{fd:FuncData} (F:Fun K "__init__" "NoReading.__init__" bG f fd) (T:Bl mg) (AF:AdF K mg Ad) :aW P w K mg base (CX1 P w) 1 f fd ["self","at"] (cL Ad):=by
 refine F.okX (k:=0) jM (fun vs H Q E h=>?_) (fun cdv A outer s H vs Q E hr h=>?_)
 ·obtain ⟨e,n,rfl,_⟩:=h
  rfl
 ·obtain ⟨e,n,rfl,he,n0,n1,k⟩:=h
  have hu:=hr.aM
  have hu1:=aZ hr
  refine ⟨_,af (di (kS (K:=K) rfl AF.bi AF.g_CableError (ah (pvL 0) (ah (Bv (pvL 1)) (ae))))) (ai (vE (K:=K) rfl (pvL 0) (pvL 1))),?_⟩
  ac_nf
  exact ⟨n0,n1,fun y=>⟨_,he,AF.o_NoReading,_,he,AF.s_NoReading,fun dx H' q1 q2 q3 q4 q5=>k dx H' q1 q2 q3 q4 q5⟩⟩
def cM (Ad:Ads):Sp:=fun vs H Q _=>∃ (e:Addr) (n:Int),vs=[.ref e,.int n]/\H e=some (xiO e Ad.NoSetting none)/\0<=n/\n < 1000000/\∀ dx H',H dx=none->dx≠e->H' e=some (xiO e Ad.NoSetting (some dx))->H' dx=some (.xd [("at",.int n)])->ao (hid e H) (hid e H')->Q .non H'
theorem xo {Ad:Ads}{n:Int}{H1:Hp}{E':XK} (n0:0<=n) (n1:n < 1000000) (k:∀ dx H',ao H1 H'->H' dx=some (.xd [("at",.int n)])->E' (.ref Ad.NoSetting) (some dx) H') (e:Addr) (H2:Hp) (z:H1 e=none) (s:ao H1 H2) (he:H2 e=some (xiO e Ad.NoSetting none)) :
  cM Ad [.ref e,.int n] H2 (fun v H3=>v=.non/\∃ dx fs,H3 e=some (xiO e Ad.NoSetting (some dx))/\H3 dx=some (.xd fs)/\E' (.ref Ad.NoSetting) (some dx) (hid e H3)) (fun _ _ _=>False) :=
 ⟨e,n,rfl,he,n0,n1,fun dx H' _ q1 q2 q3 q4=>⟨rfl,dx,_,q2,q3,k dx _ (rZ z s q4) (by rw [fg q1];exact q3)⟩⟩
theorem jN:aD ["self","at"] ["self","at"] (ag bH):=⟨rfl,rfl,rfl,by decide +kernel,rfl,by decide +kernel,by decide +kernel⟩
theorem jB {f:Addr}{fd:FuncData} (F:Fun K "__init__" "NoSetting.__init__" bH f fd) (T:Bl mg) (AF:AdF K mg Ad) :aW P w K mg base (CX1 P w) 1 f fd ["self","at"] (cM Ad):=by
 refine F.okX (k:=0) jN (fun vs H Q E h=>?_) (fun cdv A outer s H vs Q E hr h=>?_)
 ·obtain ⟨e,n,rfl,_⟩:=h
  rfl
 ·obtain ⟨e,n,rfl,he,n0,n1,k⟩:=h
  have hu:=hr.aM
  have hu1:=aZ hr
  refine ⟨_,af (di (kS (K:=K) rfl AF.bi AF.g_CableError (ah (pvL 0) (ah (Bv (pvL 1)) (ae))))) (ai (vE (K:=K) rfl (pvL 0) (pvL 1))),?_⟩
  ac_nf
  exact ⟨n0,n1,fun y=>⟨_,he,AF.o_NoSetting,_,he,AF.s_NoSetting,fun dx H' q1 q2 q3 q4 q5=>k dx H' q1 q2 q3 q4 q5⟩⟩
def i7:Sp:=fun vs H Q _=>∃ x t,vs=[x]/\cP H x=some t/\Q (.bl (decide (t=Tg.int))) H
theorem sh:aD ["thing"] ["thing"] (ag eG):=⟨rfl,rfl,rfl,by decide +kernel,rfl,by decide +kernel,by decide +kernel⟩
theorem rJ {f:Addr}{fd:FuncData} (F:Fun K "is_whole" "is_whole" eG f fd) (T:Bl mg) (AF:AdF K mg Ad) :aW P w K mg base (CX1 P w) 1 f fd ["thing"] i7:=by
 refine F.okX (k:=0) sh (fun vs H Q E h=>?_) (fun cdv A outer s H vs Q E hr h=>?_)
 ·obtain ⟨x,t,rfl,_⟩:=h
  rfl
 ·obtain ⟨x,t,rfl,ht,k⟩:=h
  have hu:=hr.aM
  have hu1:=aZ hr
  refine ⟨_,ai (aF (fO (aj (bY .int) T.isinstance bt_isinstance (ah (pvL 0) (ah (fi T.int xU) (ae)))) (fQ (qe (aj (bY .bl) T.isinstance bt_isinstance (ah (pvL 0) (ah (fi T.bool uQ) (ae)))))))),?_⟩
  ac_nf
  refine ⟨trivial,t,ht,?_⟩
  cases t <;> (simp only [Tg.sub,if_true,if_false,Bool.false_eq_true,reduceCtorEq];first | exact k | exact ⟨trivial,_,ht,k⟩)
def dR:Sp:=fun vs H Q _=>∃ a b:Int,vs=[.int a,.int b]/\Q (.int ((Int.gcd a b:Nat):Int)) H
theorem bA:aD ["one","other","left","right","over"] ["one","other"] (ag bI):=⟨rfl,rfl,rfl,by decide +kernel,rfl,by decide +kernel,by decide +kernel⟩
theorem jC {f:Addr}{fd:FuncData} (F:Fun K "common_divisor" "common_divisor" bI f fd) (T:Bl mg) (AF:AdF K mg Ad) :aW P w K mg base (CX1 P w) 1 f fd ["one","other"] dR:=by
 refine F.okX (k:=0) bA (fun vs H Q E h=>?_) (fun cdv A outer s H vs Q E hr h=>?_)
 ·obtain ⟨a,b,rfl,_⟩:=h
  rfl
 ·obtain ⟨a,b,rfl,k⟩:=h
  have hu:=hr.aM
  have hu1:=aZ hr
  refine ⟨_,af (aw (i:=2) bA.nd (aj kf T.abs sM (ah (pvL 0) (ae)))) (af (aw (i:=3) bA.nd (aj kf T.abs sM (ah (pvL 1) (ae)))) (af (mT PassesOwn.leaving (aE (iy (K:=K) rfl hu) (pvL 3) (ak) (aH _)) (af (aw (i:=4) bA.nd (aI bc (pvL 2) (pvL 3))) (af (aw (i:=2) bA.nd (pvL 3)) (ai (aw (i:=3) bA.nd (pvL 4)))))) (ai (aF (pvL 2))))),?_⟩
  ac_nf
  refine qy (fun σ H'=>H'=H/\∃ (l r:Nat) (o:Option V),σ=[some (.int a),some (.int b),some (.int l),some (.int r),o]/\Nat.gcd l r=Int.gcd a b)
   (fun σ _=>match σ with | [_,_,_,some (.int r),_]=>r.toNat | _=>0) ⟨rfl,a.natAbs,b.natAbs,none,rfl,rfl⟩ ?_
  rintro σ H' ⟨rfl,l,r,o,rfl,hg⟩
  ac_nf
  by_cases hr0:r=0
  ·subst hr0
   rw [Nat.gcd_zero_right] at hg
   subst hg
   exact k
  ·have e:(!decide ((r:Int)=0))=true:=by simp [hr0]
   rw [if_pos e]
   refine ⟨_,fun _ _ h=>h,by omega,⟨rfl,r,l % r,some (.int ((l % r:Nat):Int)),?_,?_⟩,?_⟩
   ·rw [Int.natCast_emod]
   ·rw [← hg,Nat.gcd_comm l r,Nat.gcd_rec r l,Nat.gcd_comm]
   ·show ((l:Int) % (r:Int)).toNat < ((r:Int)).toNat
    have h1:(l:Int) % (r:Int) < r:=Int.emod_lt_of_pos _ (by omega)
    have h2:0<=(l:Int) % (r:Int):=Int.emod_nonneg _ (by omega)
    omega
def dI (z:List Nat):Bool:=decide (3<=z.length) && decide (z.length<=26) && decide z.Nodup && z.all fun c=>decide (97<=c/\c < 123)
def eX:V->Bool
 | .str z=>dI z.cps.toList
 | _=>false
def fX:Sp:=fun vs H Q _=>∃ (x:V) (t:Tg),vs=[x]/\cP H x=some t/\(∀ z,x=.str z->z.length<=4000)/\∀ H',ao H H'->Q (.bl (eX x)) H'
theorem ng:aD ["thing"] ["thing"] (ag cC):=⟨rfl,rfl,rfl,by decide +kernel,rfl,by decide +kernel,by decide +kernel⟩
theorem mI {f:Addr}{fd:FuncData} (F:Fun K "is_alphabet" "is_alphabet" cC f fd) (T:Bl mg) (AF:AdF K mg Ad) :aW P w K mg base (CX1 P w) 1 f fd ["thing"] fX:=by
 refine F.okX (k:=0) ng (fun vs H Q E h=>?_) (fun cdv A outer s H vs Q E hr h=>?_)
 ·obtain ⟨x,t,rfl,_⟩:=h
  rfl
 ·obtain ⟨x,t,rfl,ht,hz,k⟩:=h
  have hu:=hr.aM
  have hu1:=aZ hr
  refine ⟨_,af (aS ((gM (bO (bT (aj (bY .str) T.isinstance bt_isinstance (ah (pvL 0) (ah (fi T.str pf) (ae)))))) (fR (bO (mU gv gv (ak) (aj (aJ (K:=K) rfl) T.len aU (ah (pvL 0) (ae))) (ak))))).pt) (ai (aF (dg))) (aK)) (ai (aF (fO (bC (bS (K:=K) rfl hu) (aj (sO (P:=P) (w:=w) rfl rfl) T.len aU (ah (mQ (we (P:=P) (w:=w) rfl rfl rfl) T.set Cj (ah (pvL 0) (ae))) (ae))) (aj (aJ (K:=K) rfl) T.len aU (ah (pvL 0) (ae))) (aH _)) (fQ (aj (fB (K:=K) rfl rfl) T.all ke (ah (iT ["sign"] rfl ⟨rfl,by decide +kernel,rfl,by decide +kernel⟩ (.nil) (by decide +kernel) (dN (K:=K) rfl (pvL 0)) (fun _ _ _ _=>aL (i:=0) (show (["sign"]:List Str).Nodup from by decide +kernel)) (fun _ _ _ _=>fq) (fun _ _ _ _=>bC (jg (K:=K) rfl hu1) (pvL 0) (cx AF.v_SMALL_LETTERS) (by kernel_rfl))) (ae))))))),?_⟩
  by_cases hs:∃ z,x=.str z
  ·obtain ⟨z,rfl⟩:=hs
   cases ht
   have hl:=hz z rfl
   have hc:=eQ z
   have ek:eX (.str z)=dI z.cps.toList:=rfl
   ac_nf
   refine ⟨trivial,Tg.str,rfl,?_⟩
   ac_nf
   refine ⟨Nat.le_of_lt (aq (by omega)),?_⟩
   by_cases h3:3<=z.length/\z.length<=26
   ·have d1:decide ((3:Int)<=(z.length:Int))=true:=decide_eq_true (by omega)
    have d2:decide ((z.length:Int)<=26)=true:=decide_eq_true (by omega)
    rw [d1]
    bv_omega
    rw [d2]
    bv_omega
    refine ⟨by omega,fun p H1 hp s1 h1=>?_⟩
    refine ⟨_,h1,Nat.le_of_lt (aq (by omega)),?_⟩
    by_cases hn:z.cps.toList.Nodup
    ·have e1:=(oJ z).mpr hn
     rw [e1,decide_eq_true rfl]
     bv_omega
     refine wO (fun c:Nat=>V.str ⟨#[c]⟩) y8 (z6 z) (aq (by omega)) (fun c=>.bl (decide (97<=c/\c < 123))) ?_ ?_
     ·intro c hc H2 s2 R hR
      ac_nf
      rw [y6,jX]
      have e2:decide (c∈List.range' 97 26)=decide (97<=c/\c < 123):=decide_eq_decide.mpr (by rw [List.mem_range'_1])
      rw [e2]
      exact hR H2 (ao.refl _)
     ·intro D H2 hD s2 h2
      refine ⟨D,z.cps.toList.map fun c=>decide (97<=c/\c < 123),rfl,.of (by rw [h2,List.map_map];rfl),?_⟩
      have e:(z.cps.toList.map fun c=>decide (97<=c/\c < 123)).all id=eX (.str z):=by
       rw [ek]
       unfold dI
       rw [decide_eq_true (show 3<=z.cps.toList.length by omega),decide_eq_true (show z.cps.toList.length<=26 by omega),decide_eq_true hn,List.all_map];rfl
      rw [e]
      exact k H2 (s1.trans s2)
    ·have e1:decide (((bR (gE z) z.length).length:Int)=(z.length:Int))=false:=decide_eq_false fun e=>hn ((oJ z).mp (by omega))
     rw [e1]
     bv_omega
     have e:eX (.str z)=false:=by rw [ek];unfold dI;rw [decide_eq_false hn];simp
     rw [e] at k
     exact k H1 s1
   ·have e:eX (.str z)=false:=by
     rw [ek]
     unfold dI
     by_cases h4:3<=z.length
     ·rw [decide_eq_false (show ¬ z.cps.toList.length<=26 by omega)];simp
     ·rw [decide_eq_false (show ¬ 3<=z.cps.toList.length by omega)];simp
    rw [e] at k
    by_cases h4:3<=z.length
    ·have d1:decide ((3:Int)<=(z.length:Int))=true:=decide_eq_true (by omega)
     have d2:decide ((z.length:Int)<=26)=false:=decide_eq_false (by omega)
     rw [d1]
     bv_omega
     rw [d2]
     bv_omega
     exact k H (ao.refl _)
    ·have d1:decide ((3:Int)<=(z.length:Int))=false:=decide_eq_false (by omega)
     rw [d1]
     bv_omega
     exact k H (ao.refl _)
  ·have hv:eX x=false:=by
    cases x with
    | str z=>exact absurd ⟨z,rfl⟩ hs
    | _=>rfl
   have hne:=lD ht fun z e=>hs ⟨z,e⟩
   rw [hv] at k
   ac_nf
   refine ⟨trivial,t,ht,?_⟩
   cases t <;> first
    | exact absurd rfl hne
    | exact k H (ao.refl _)
def cW (Ad:Ads):Sp:=fun vs H Q _=>∃ (a:Addr) (al:List Nat) (ws:List Int) (r:Int),vs=[.ref a]/\dZ Ad H a al ws r/\al.length<=26/\1<=ws.length/\ws.length<=8/\∀ H',ao H H'->Q (.int ((al.length:Int) ^ (ws.length - 1))) H'
theorem ft:aD ["self","product","weight"] ["self"] (ag dy):=⟨rfl,rfl,rfl,by decide +kernel,rfl,by decide +kernel,by decide +kernel⟩
theorem pO {f:Addr}{fd:FuncData} (F:Fun K "many" "Code.many" dy f fd) (T:Bl mg) (AF:AdF K mg Ad) :aW P w K mg base (CX1 P w) 1 f fd ["self"] (cW Ad):=by
 refine F.okX (k:=0) ft (fun vs H Q E h=>?_) (fun cdv A outer s H vs Q E hr h=>?_)
 ·obtain ⟨a,al,ws,r,rfl,_⟩:=h
  rfl
 ·obtain ⟨a,al,ws,r,rfl,⟨dx,q,h1,h2⟩,h26,hw1,hw8,k⟩:=h
  have hu:=hr.aM
  have hu1:=aZ hr
  refine ⟨_,af (aw (i:=1) ft.nd (ak)) (af (fj PassesOwn.leaving rfl (dN (K:=K) rfl (cN (iW (K:=K) rfl) (cn (K:=K) rfl (pvL 0)) (cp (ak)) (gR))) (aL (i:=2) ft.nd) (ai (aw (i:=1) ft.nd (aI Ay (pvL 1) (aj (aJ (K:=K) rfl) T.len aU (ah (cn (K:=K) rfl (pvL 0)) (ae))))))) (ai (aF (pvL 1)))),?_⟩
  and_intros
  rw [cY]
  and_intros
  rw [cY]
  and_intros
  refine ⟨_,dx,_,_,h1,AF.c_Code,AF.n_Code_factors,n6 al q r,?_⟩
  and_intros
  refine ⟨_,.of h2,fun p H1 hp s1 h3=>.inl ⟨⟨_,.of h3⟩,?_⟩⟩
  rw [show (1:Int)=((1:Nat):Int) from rfl,nT,← List.map_drop] at h3
  refine vn (xs:=(ws.drop 1).map V.int) (fun i σ H'=>H'=H1/\∃ o,σ=[some (.ref a),some (.int ((al.length:Int) ^ i)),o]) ?_ ?_ ?_ ?_
  ·exact ⟨rfl,none,by simp⟩
  ·rintro i σ H' _ ⟨rfl,_⟩
   exact .of h3
  ·rintro i x σ H' hx ⟨rfl,o,rfl⟩
   have hi:i < ws.length - 1:=by
    have:=(List.getElem?_eq_some_iff.mp hx).1
    rw [List.length_map,List.length_drop] at this
    exact this
   ac_nf
   refine ⟨_,dx,_,_,s1 _ _ h1,AF.c_Code,AF.n_Code_letters,n8 al q r,?_⟩
   ac_nf
   rw [aY]
   refine ⟨Nat.le_of_lt (aq (by omega)),⟨?_,Nat.lt_of_lt_of_le (show ((al.length:Int)).natAbs < 1000 by omega) (by decide)⟩,trivial,some x,?_⟩
   ·have e:(((al.length:Int)) ^ i).natAbs=al.length ^ i:=by rw [Int.natAbs_pow];rfl
    rw [e]
    refine Nat.lt_of_le_of_lt (Nat.pow_le_pow_left h26 i) (Nat.lt_of_le_of_lt (Nat.pow_le_pow_right (by decide) (show i<=8 by omega)) (by decide))
   ·rw [← Int.pow_succ]
  ·rintro σ H' ⟨rfl,o,rfl⟩
   rw [List.length_map,List.length_drop]
   ac_nf
   exact k _ s1
def dQ:Sp:=fun vs H Q _=>∃ (x:V) (t:Tg) (n:Nat),vs=[x,.int n]/\cP H x=some t/\(∀ z,x=.str z->z.length<=100000)/\n<=1000/\∀ H',ao H H'->Q (.bl (dG n x)) H'
theorem mZ:aD ["thing","most"] ["thing","most"] (ag cA):=⟨rfl,rfl,rfl,by decide +kernel,rfl,by decide +kernel,by decide +kernel⟩
theorem mG {f:Addr}{fd:FuncData} (F:Fun K "are_letters" "are_letters" cA f fd) (T:Bl mg) (AF:AdF K mg Ad) :aW P w K mg base (CX1 P w) 1 f fd ["thing","most"] dQ:=by
 refine F.okX (k:=0) mZ (fun vs H Q E h=>?_) (fun cdv A outer s H vs Q E hr h=>?_)
 ·obtain ⟨x,t,n,rfl,_⟩:=h
  rfl
 ·obtain ⟨x,t,n,rfl,ht,hz,hn,k⟩:=h
  have hu:=hr.aM
  have hu1:=aZ hr
  refine ⟨_,af (aS ((gM (bO (bT (aj (bY .str) T.isinstance bt_isinstance (ah (pvL 0) (ah (fi T.str pf) (ae)))))) (fR (bO (mU gv gv (ak) (aj (aJ (K:=K) rfl) T.len aU (ah (pvL 0) (ae))) (pvL 1))))).pt) (ai (aF (dg))) (aK)) (ai (aF (aj (fB (K:=K) rfl rfl) T.all ke (ah (iT ["sign"] rfl ⟨rfl,by decide +kernel,rfl,by decide +kernel⟩ (.nil) (by decide +kernel) (dN (K:=K) rfl (pvL 0)) (fun _ _ _ _=>aL (i:=0) (show (["sign"]:List Str).Nodup from by decide +kernel)) (fun _ _ _ _=>fq) (fun _ _ _ _=>bC (jg (K:=K) rfl hu1) (pvL 0) (cx AF.v_SMALL_LETTERS) (by kernel_rfl))) (ae))))),?_⟩
  by_cases hs:∃ z,x=.str z
  ·obtain ⟨z,rfl⟩:=hs
   cases ht
   have hl:=hz z rfl
   have hc:=eQ z
   have ek:dG n (.str z)=bL n z.cps.toList:=rfl
   ac_nf
   refine ⟨trivial,Tg.str,rfl,?_⟩
   ac_nf
   refine ⟨Nat.le_of_lt (aq (by omega)),?_⟩
   by_cases h1:1<=z.length
   ·rw [decide_eq_true (show (1:Int)<=(z.length:Int) by omega)]
    bv_omega
    by_cases h2:z.length<=n
    ·rw [decide_eq_true (show (z.length:Int)<=(n:Int) by omega)]
     bv_omega
     refine wO (fun c:Nat=>V.str ⟨#[c]⟩) y8 (z6 z) (aq (by omega)) (fun c=>.bl (decide (97<=c/\c < 123))) ?_ ?_
     ·intro c hc H2 s2 R hR
      ac_nf
      rw [y6,jX]
      have e2:decide (c∈List.range' 97 26)=decide (97<=c/\c < 123):=decide_eq_decide.mpr (by rw [List.mem_range'_1])
      rw [e2]
      exact hR H2 (ao.refl _)
     ·intro D H2 hD s2 h2'
      refine ⟨D,z.cps.toList.map fun c=>decide (97<=c/\c < 123),rfl,.of (by rw [h2',List.map_map];rfl),?_⟩
      have e:(z.cps.toList.map fun c=>decide (97<=c/\c < 123)).all id=dG n (.str z):=by
       rw [ek]
       unfold bL
       rw [decide_eq_true (show 1<=z.cps.toList.length by omega),decide_eq_true (show z.cps.toList.length<=n by omega),List.all_map];rfl
      rw [e]
      exact k H2 s2
    ·have e:dG n (.str z)=false:=by rw [ek];unfold bL;rw [decide_eq_false (show ¬ z.cps.toList.length<=n by omega)];simp
     rw [e] at k
     rw [decide_eq_false (show ¬ (z.length:Int)<=(n:Int) by omega)]
     bv_omega
     exact k H (ao.refl _)
   ·have e:dG n (.str z)=false:=by rw [ek];unfold bL;rw [decide_eq_false (show ¬ 1<=z.cps.toList.length by omega)];simp
    rw [e] at k
    rw [decide_eq_false (show ¬ (1:Int)<=(z.length:Int) by omega)]
    bv_omega
    exact k H (ao.refl _)
  ·have hv:dG n x=false:=by
    cases x with
    | str z=>exact absurd ⟨z,rfl⟩ hs
    | _=>rfl
   have hne:=lD ht fun z e=>hs ⟨z,e⟩
   rw [hv] at k
   ac_nf
   refine ⟨trivial,t,ht,?_⟩
   cases t <;> first
    | exact absurd rfl hne
    | exact k H (ao.refl _)
def gY (Ad:Ads):Sp:=fun vs H Q _=>∃ (b dx ca:Addr),vs=[.ref b,.ref ca]/\H b=some (.ins Ad.Book dx [])/\∀ dn de H',H dn=none->H de=none->dn≠de->dn≠b->de≠b->(∀ c u,c≠b->H c=some u->H' c=some u)->H' b=some (.ins Ad.Book dx (lH ca dn de))->H' dn=some (.dK [])->H' de=some (.dT [])->Q .non H'
theorem qj:aD ["self","code"] ["self","code"] (ag du):=⟨rfl,rfl,rfl,by decide +kernel,rfl,by decide +kernel,by decide +kernel⟩
theorem pM {f:Addr}{fd:FuncData} (F:Fun K "__init__" "Book.__init__" du f fd) (T:Bl mg) (AF:AdF K mg Ad) :aW P w K mg base (CX1 P w) 1 f fd ["self","code"] (gY Ad):=by
 refine F.okX (k:=0) qj (fun vs H Q E h=>?_) (fun cdv A outer s H vs Q E hr h=>?_)
 ·obtain ⟨b,dx,ca,rfl,_⟩:=h
  rfl
 ·obtain ⟨b,dx,ca,rfl,hb,k⟩:=h
  have hu:=hr.aM
  have hu1:=aZ hr
  refine ⟨_,af (iK (K:=K) rfl (pvL 0) (pvL 1)) (af (iK (K:=K) rfl (pvL 0) (rQ)) (ai (iK (K:=K) rfl (pvL 0) (xj)))),?_⟩
  ac_nf
  refine ⟨_,_,_,hb,AF.c_Book,AF.n_Book_basis,by decide,fun p G1 z1 t1 g1=>?_⟩
  have np1:p≠b:=fun e=>by rw [e,ay] at z1;cases z1
  have hb1:=t1 b _ ay
  refine ⟨_,_,_,hb1,AF.c_Book,AF.n_Book_by_number,Nat.lt_of_le_of_lt (Nat.le_refl 1) (by decide),fun p2 G2 z2 t2 g2=>?_⟩
  have np2:p2≠b:=fun e=>by rw [e,ay] at z2;cases z2
  have hb2:=t2 b _ ay
  have k1:∀ c u,c≠b->H c=some u->G1 c=some u:=fun c u hc h=>t1 c u (by rw [av hc];exact h)
  have k2:∀ c u,c≠b->G1 c=some u->G2 c=some u:=fun c u hc h=>t2 c u (by rw [av hc];exact h)
  have ne:p≠p2:=fun e=>by rw [← e,av np1,g1] at z2;cases z2
  refine ⟨_,_,_,hb2,AF.c_Book,AF.n_Book_by_entry,Nat.lt_of_le_of_lt (Nat.le_refl 2) (by decide),k p p2 _ ?_ ?_ ne np1 np2 (fun c u hc h=>by rw [av hc];exact k2 c u hc (k1 c u hc h)) (by rw [ay];rfl) (by rw [av np1];exact k2 _ _ np1 g1) (by rw [av np2];exact g2)⟩
  ·cases e:H p with
   | none=>rfl
   | some o=>rw [av np1,e] at z1;cases z1
  ·cases e:H p2 with
   | none=>rfl
   | some o=>rw [av np2,k1 p2 o np2 e] at z2;cases z2
def fk (Ad:Ads):Sp:=fun vs H Q _=>∃ (b ca dn de:Addr) (es:List Ben),vs=[.ref b]/\bK Ad H b ca dn de es/\es.length < 64/\∀ D ws (ms:List Ben) H',H D=none->ao H H'->H' D=some (.lst ws)->ms.Perm es->(ms.map (·.num)).Pairwise (· < ·)->Paired (fun v (m:Ben)=>∃ p,v=V.ref p/\H' p=some (.tup [.int m.num,.ref m.adr])) ws ms->Q (.ref D) H'
theorem lq:aD ["self"] ["self"] (ag cb):=⟨rfl,rfl,rfl,by decide +kernel,rfl,by decide +kernel,by decide +kernel⟩
theorem kZ {f:Addr}{fd:FuncData} (F:Fun K "entries" "Book.entries" cb f fd) (T:Bl mg) (AF:AdF K mg Ad) :aW P w K mg base (CX1 P w) 1 f fd ["self"] (fk Ad):=by
 refine F.okX (k:=0) lq (fun vs H Q E h=>?_) (fun cdv A outer s H vs Q E hr h=>?_)
 ·obtain ⟨b,ca,dn,de,es,rfl,_⟩:=h
  rfl
 ·obtain ⟨b,ca,dn,de,es,rfl,B,h64,k⟩:=h
  obtain ⟨dx,h1⟩:=B.bk
  have hu:=hr.aM
  have hu1:=aZ hr
  refine ⟨_,ai (aF (iT ["number"] rfl ⟨rfl,by decide +kernel,rfl,by decide +kernel⟩ (.cons (j:=0) rfl (.inl (by kernel_rfl)) (.nil)) (by decide +kernel) (dN (K:=K) rfl (aj (sR rfl) T.sorted vW (ah (cn (K:=K) rfl (pvC 0)) (ae)))) (fun _ _ _ _=>aL (i:=0) (show (["number","self"]:List Str).Nodup from by decide +kernel)) (fun _ _ _ _=>fq) (fun _ _ _ _=>cK (ah (pvL 0) (ah (za hu1 (cn (K:=K) rfl (pvC 1)) (pvL 0)) (ae)))))),?_⟩
  ac_nf
  refine ⟨_,dx,_,_,h1,AF.c_Book,AF.n_Book_by_number,ef ca dn de,?_⟩
  ac_nf
  refine ⟨es.map fun e:Ben=>(e.num,V.ref e.adr),.inl B.hn,by rw [List.length_map];exact h64,fun ns hp hs p G1 z1 t1 g1=>?_⟩
  ac_nf
  obtain ⟨ms,mp,mn,ml⟩:=Ck hp hs B.nn
  have nl:(ns.map V.int).length < sizeLine:=aq (by rw [List.length_map,hp.length_eq,List.length_map,List.length_map];omega)
  refine .inl ⟨⟨_,.of g1⟩,vw (fU (.of g1)) nl (ms.map fun m=>[V.int m.num,V.ref m.adr]) (by rw [List.length_map,List.length_map,← mn,List.length_map]) ?_ ?_⟩
  ·intro i x ts hx hts G2 t2 R hR
   rw [List.getElem?_map] at hx hts
   obtain ⟨m,hm,rfl⟩:=Option.map_eq_some_iff.mp hts
   have:ns[i]?=some m.num:=by rw [← mn,List.getElem?_map,hm];rfl
   rw [this] at hx
   cases hx
   have B2:=B.same (t1.trans t2)
   obtain ⟨dx2,h2⟩:=B2.bk
   ac_nf
   exact ⟨_,dx2,_,_,h2,AF.c_Book,AF.n_Book_by_number,ef ca dn de,_,_,rfl,.inl ⟨_,.inl m.num,.inl B2.hn,rfl,(pL B2.nn (mp.mem_iff.mp (List.mem_of_getElem? hm))).symm⟩,Nat.le_of_lt (aq (by decide)),fun p2 G3 z3 t3 g3=>hR p2 G3 z3 t3 g3⟩
  ·intro D ws G2 hD t2 g2 hT
   refine k D ws ms G2 (t1.free hD) (t1.trans t2) g2 mp ml (kP hT)
def gZ:Sp:=fun vs H Q _=>∃ (t:Addr) (key:List Key) (s:SSt),vs=[.ref t,.int s.1.length,.str (tx s.2)]/\H t=some (.tup (key.map kV))/\gF key/\iR s/\∀ H',ao H H'->Q (.bl (stepK key s).isSome) H'
theorem qk:aD ["entry","many","spelling"] ["entry","many","spelling"] (ag d0):=⟨rfl,rfl,rfl,by decide +kernel,rfl,by decide +kernel,by decide +kernel⟩
theorem pQ {f:Addr}{fd:FuncData} (F:Fun K "can_stand" "can_stand" d0 f fd) (T:Bl mg) (AF:AdF K mg Ad) :aW P w K mg base (CX1 P w) 1 f fd ["entry","many","spelling"] gZ:=by
 refine F.okX (k:=0) qk (fun vs H Q E h=>?_) (fun cdv A outer s H vs Q E hr h=>?_)
 ·obtain ⟨t,key,s,rfl,_⟩:=h
  rfl
 ·obtain ⟨t,key,s,rfl,ht,ok,say,k⟩:=h
  have hu:=hr.aM
  have hu1:=aZ hr
  refine ⟨_,af (aS (aE (bS (K:=K) rfl hu) (bp (cH (K:=K) rfl) (pvL 0) (ak) (fun _ _=>rfl)) (aB) (aH _)) (ai (aF (fO (bC (bS (K:=K) rfl hu) (pvL 2) (aB) (aH _)) (fQ (bC gv (aI aR (pvL 1) (aj (aJ (K:=K) rfl) T.len aU (ah (cI (K:=K) rfl PySem.F.plainAttrs_str PySem.F.slot_str_split PySem.F.type_str_split j9 (bp (cH (K:=K) rfl) (pvL 0) (ak) (fun _ _=>rfl)) (ah (aB) (ae))) (ae)))) (cx AF.v_MOST_WORDS) (aH _)))))) (aK)) (af (aS (aE (bS (K:=K) rfl hu) (bp (cH (K:=K) rfl) (pvL 0) (ak) (fun _ _=>rfl)) (aB) (aH _)) (ai (aF (fO (bC jh (pvL 1) (cx AF.v_MOST_WORDS) (aH _)) (fQ (bC gv (aI aR (aj (aJ (K:=K) rfl) T.len aU (ah (pvL 2) (ae))) (aj (aJ (K:=K) rfl) T.len aU (ah (bp (cH (K:=K) rfl) (pvL 0) (ak) (fun _ _=>rfl)) (ae)))) (cx AF.v_LONGEST_WORD) (aH _)))))) (aK)) (ai (aF (bC (iy (K:=K) rfl hu) (pvL 2) (aB) (aH _))))),?_⟩
  have big:∀ {u:Nat},u<=10000->u<=sizeLine:=fun hu=>Nat.le_of_lt (aq (by omega))
  have l2:=say.len
  have few:=say.few
  have e0:Str.ofString ""=tx []:=rfl
  have de:decide (tx s.2=Str.ofString "")=decide (s.2=[]):=by rw [e0,zN]
  rcases lO ok with ⟨l,rfl,hl⟩ | ⟨l,rfl,hl⟩ | rfl
  ·have ht':H t=some (.tup [.str ("phrase":Str),.str (tx l)]):=ht
   have hs:l.length<=10000:=by
    have:=ok.short (tx l) (by simp [kV])
    rwa [aY] at this
   obtain ⟨w6,_⟩:=zR hl
   refine ar fun nn hN=>?_
   and_intros
   refine ⟨_,_,.inr (.of ht'),bM (by decide) rfl,?_⟩
   and_intros
   rw [if_pos (by rfl),de]
   rw [gp] at k
   by_cases h2:s.2=[]
   ·rw [if_pos (decide_eq_true h2)]
    refine ⟨_,_,.inr (.of ht'),bM (by decide) rfl,rfl,?_⟩
    and_intros
    refine ⟨by rw [aY];omega,32,rfl,fun p H1 hp s1 h1=>?_⟩
    rw [df] at h1
    and_intros
    refine ⟨_,.inl (.of h1),?_⟩
    rw [List.length_map]
    and_intros
    have e:(some (s.1++Mk.aQ 32 l,([]:List Nat))).isSome=true:=rfl
    by_cases hc:s.1.length + (Mk.aQ 32 l).length<=60
    ·rw [if_pos ⟨h2,hc⟩] at k
     rw [decide_eq_true (show (s.1.length:Int) + ((Mk.aQ 32 l).length:Int)<=60 by omega)]
     exact k H1 s1
    ·rw [if_neg (fun z=>hc z.2)] at k
     rw [decide_eq_false (show ¬ (s.1.length:Int) + ((Mk.aQ 32 l).length:Int)<=60 by omega)]
     exact k H1 s1
   ·rw [if_neg (by rw [decide_eq_false h2];decide)]
    rw [if_neg (fun z=>h2 z.1)] at k
    exact k H (ao.refl _)
  ·have ht':H t=some (.tup [.str ("part":Str),.str (tx l)]):=ht
   obtain ⟨w1,w6,_⟩:=pG hl
   refine ar fun nn hN=>?_
   and_intros
   refine ⟨_,_,.inr (.of ht'),bM (by decide) rfl,?_⟩
   and_intros
   rw [if_neg (by decide)]
   show nn _ _ _
   rw [hN]
   clear hN nn
   refine ar fun nn hN=>?_
   and_intros
   refine ⟨_,_,.inr (.of ht'),bM (by decide) rfl,?_⟩
   and_intros
   rw [if_pos (by rfl)]
   rw [iM] at k
   by_cases h1:s.1.length < 60
   ·rw [if_pos (decide_eq_true (by omega))]
    rw [aY]
    refine ⟨big (by omega),_,_,.inr (.of ht'),bM (by decide) rfl,?_⟩
    and_intros
    rw [aY]
    refine ⟨big (by omega),?_⟩
    by_cases hc:s.2.length + l.length<=20
    ·rw [if_pos ⟨h1,hc⟩] at k
     rw [decide_eq_true (show (s.2.length:Int) + (l.length:Int)<=20 by omega)]
     exact k H (ao.refl _)
    ·rw [if_neg (fun z=>hc z.2)] at k
     rw [decide_eq_false (show ¬ (s.2.length:Int) + (l.length:Int)<=20 by omega)]
     exact k H (ao.refl _)
   ·rw [if_neg (by rw [decide_eq_false (by omega)];decide)]
    rw [if_neg (fun z=>h1 z.1)] at k
    exact k H (ao.refl _)
  ·have ht':H t=some (.tup [.str ("end":Str)]):=ht
   refine ar fun nn hN=>?_
   and_intros
   refine ⟨_,_,.inr (.of ht'),bM (by decide) rfl,?_⟩
   and_intros
   rw [if_neg (by decide)]
   show nn _ _ _
   rw [hN]
   clear hN nn
   refine ar fun nn hN=>?_
   and_intros
   refine ⟨_,_,.inr (.of ht'),bM (by decide) rfl,?_⟩
   and_intros
   rw [if_neg (by decide)]
   show nn _ _ _
   rw [hN]
   clear hN nn
   and_intros
   rw [de]
   rw [jQ] at k
   by_cases h2:s.2=[]
   ·rw [if_pos h2] at k
    rw [decide_eq_true h2]
    exact k H (ao.refl _)
   ·rw [if_neg h2] at k
    rw [decide_eq_false h2]
    exact k H (ao.refl _)
def iL (spf:Sp):Sp:=fun vs H Q _=>∃ (n lg:Nat) (f:Addr) (F:Nat->Nat->OG),vs=[.int n,.int lg,.ref f]/\n<=100/\1<=lg/\lg<=100/\(∀ i j l,F i j=some l->l.length<=100) ∧
 (∀ i j:Nat,i < j->j<=n->j<=i + lg->∀ H' Q',ao H H'->(∀ v H'',ao H' H''->fK H'' v (F i j)->Q' v H'')->spf [.int i,.int j] H' Q' XF) ∧
 ∀ p svs H',H p=none->ao H H'->H' p=some (.lst svs)->Paired (fK H') svs (fwB F lg n)->(∀ v∈svs,∀ a,v=V.ref a->H a=none)->Q (.ref p) H'
theorem eN:aD ["many","longest","step","best","behind","found","begin","added"] ["many","longest","step"] (ag gN):=⟨rfl,rfl,rfl,by decide +kernel,rfl,by decide +kernel,by decide +kernel⟩
theorem wY {f:Addr}{fd:FuncData}{k:Nat} (F:Fun K "fewest" "fewest" gN f fd) (T:Bl mg) (AF:AdF K mg Ad) :uq P w K mg base (CX1 P w) (k + 1) f fd ["many","longest","step"] (Dq P w K mg base k 2 iL):=by
 refine F.okS (k:=k) (n:=2) eN (fun spf vs H Q E h=>?_) (fun cdv A outer s H vs Q E hr lf spf hlf lam step h=>?_)
 ·obtain ⟨n,lg,f,F,rfl,_⟩:=h
  rfl
 ·obtain ⟨n,lg,f,F,rfl,n100,g1,g100,hF,hs,k⟩:=h
  cases hlf
  have hu:=hr.aM
  have hu1:=aZ hr
  refine ⟨_,af (aw (i:=3) eN.nd (bh (ah (bh (ae)) (ae)))) (af (fj PassesOwn.leaving rfl (ji T.range (ah (ak) (ah (aI aR (pvL 0) (ak)) (ae)))) (aL (i:=4) eN.nd) (af (aw (i:=5) eN.nd (bg)) (af (fj PassesOwn.leaving rfl (ji T.range (ah (aj (wc rfl) T.max sN (ah (ak) (ah (aI qd (pvL 4) (pvL 1)) (ae)))) (ah (pvL 4) (ae)))) (aL (i:=6) eN.nd) (af (aw (i:=7) eN.nd (i3 (aE cZ (bp (cH (K:=K) rfl) (pvL 3) (pvL 6) (fun _ _=>rfl)) (bg) (aH _)) (bg) (rP step rfl hr (pvL 2) (ah (pvL 6) (ah (pvL 4) (ae)))))) (ai (aS ((jj (aE gK (pvL 7) (bg) (aH _)) (gT ((gM (aE cZ (pvL 5) (bg) (aH _)) (fR (aE jh (aI aR (aj (aJ (K:=K) rfl) T.len aU (ah (bp (cH (K:=K) rfl) (pvL 3) (pvL 6) (fun _ _=>rfl)) (ae))) (aj (aJ (K:=K) rfl) T.len aU (ah (pvL 7) (ae)))) (aj (aJ (K:=K) rfl) T.len aU (ah (pvL 5) (ae))) (aH _)))).pt))).pt) (ai (aw (i:=5) eN.nd (aI aR (bp (cH (K:=K) rfl) (pvL 3) (pvL 6) (fun _ _=>rfl)) (pvL 7)))) (aK))))) (ai (di (cI (K:=K) rfl PySem.F.plainAttrs_list PySem.F.slot_list_append PySem.F.type_list_append fD (pvL 3) (ah (pvL 5) (ae)))))))) (ai (aF (pvL 3)))),?_⟩
  have big:∀ {u:Nat},u<=90000->u<=sizeLine:=fun hu=>Nat.le_of_lt (aq (by omega))
  have fo:=ki (lg:=lg) hF
  refine ar fun nn hN=>?_
  and_intros
  refine ⟨Nat.zero_le _,fun p0 H1 hp0 s1 h1=>⟨big (by decide),fun bst H2 hb s2 h2=>?_⟩⟩
  have hbH:H bst=none:=s1.free hb
  rw [hN]
  clear hN nn
  refine ar fun nn hN=>?_
  and_intros
  refine ⟨⟨by decide,by decide,by omega,by omega⟩,?_⟩
  rw [show ((n:Int) + 1 - 1).toNat=n by omega]
  refine gH (fun b σ H'=>∃ (svs:List V) (o4 o5 o6 o7:Option V),σ=[some (V.int n),some (V.int lg),some (V.ref lf),some (V.ref bst),o4,o5,o6,o7]/\ao H H'/\H' bst=some (.lst svs)/\(∀ v∈svs,v≠V.ref bst/\∀ a,v=V.ref a->H a=none)/\Paired (fK H') svs (fwB F lg b)) ?_ ?_ ?_
  ·refine ⟨[V.ref p0],_,_,_,_,rfl,s1.trans s2,h2,(fun v hv=>?_),.cons ⟨p0,rfl,s2 _ _ h1⟩ .nil⟩
   rw [List.mem_singleton.mp hv]
   refine ⟨fun z=>?_,fun a z=>by cases z;exact hp0⟩
   cases z
   rw [h1] at hb
   cases hb
  ·rintro b σ A1 hbn ⟨svs,o4,o5,o6,o7,rfl,sA,hA,hne,hP⟩ N hNx
   clear hN
   have lsv:svs.length=b + 1:=by rw [eA hP,bX]
   have e1:(1:Int) + (b:Int)=((b + 1:Nat):Int):=by omega
   and_intros
   rw [e1]
   refine ar fun n2 hM=>?_
   and_intros
   rw [hM]
   clear hM n2
   refine ar fun n2 hM=>?_
   and_intros
   have em:max (0:Int) (((b + 1:Nat):Int) - (lg:Int))=((b + 1 - lg:Nat):Int):=by omega
   rw [em]
   refine ⟨⟨by omega,by omega,by omega,by omega⟩,?_⟩
   rw [show (((b + 1:Nat):Int) - ((b + 1 - lg:Nat):Int)).toNat=b + 1 - (b + 1 - lg) by omega]
   have lo_le:b + 1 - lg<=b:=by omega
   have lo_lg:b + 1<=b + 1 - lg + lg:=by omega
   have fin:fwB F lg (b + 1)=fwB F lg b++[gr (fwB F lg b) F (b + 1) (b + 1 - lg) (b + 1 - (b + 1 - lg))]:=rfl
   generalize b + 1 - lg=lo at *
   refine gH (fun t σ G=>∃ (vf:V) (o6 o7:Option V),σ=[some (V.int n),some (V.int lg),some (V.ref lf),some (V.ref bst),some (V.int ((b + 1:Nat):Int)),some vf,o6,o7]/\ao A1 G/\fK G vf (gr (fwB F lg b) F (b + 1) lo t)/\(vf≠.ref bst/\∀ a,vf=V.ref a->H a=none)) ?_ ?_ ?_
   ·exact ⟨.non,_,_,rfl,ao.refl _,rfl,(fun z=>by cases z),fun a z=>by cases z⟩
   ·rintro t σ G1 ht ⟨vf,o6,o7,rfl,tG,hvf,hvn⟩ N2 hN2
    clear hM hNx
    have hi:lo + t < b + 1:=by omega
    have hbG:=tG _ _ hA
    have hsv:svs[lo + t]?=some (svs[lo + t]'(by omega)):=List.getElem?_eq_getElem _
    generalize svs[lo + t]'(by omega)=v at hsv
    obtain ⟨o,ho,hvo⟩:=eh hP hsv
    have e2:(lo:Int) + (t:Int)=((lo + t:Nat):Int):=by omega
    have hgo:gr (fwB F lg b) F (b + 1) lo (t + 1)=gP (fwB F lg b) F (b + 1) (gr (fwB F lg b) F (b + 1) lo t) (lo + t):=rfl
    have hgd:(fwB F lg b).getD (lo + t) none=o:=by rw [List.getD_eq_getElem?_getD,ho];rfl
    have hat:atI svs (((lo + t:Nat):Int))=some v:=bM (by omega) (by rw [Int.toNat_natCast];exact hsv)
    and_intros
    rw [e2]
    refine ar fun n3 hM=>?_
    and_intros
    refine ⟨_,_,.inl (.of hbG),hat,?_⟩
    cases o with
    | none =>
     have hv0:v=.non:=hvo
     subst hv0
     and_intros
     rw [hM]
     clear hM n3
     and_intros
     refine hN2 _ _ ⟨vf,_,_,rfl,tG,?_,hvn⟩
     rw [hgo];unfold gP;rw [hgd];exact hvf
    | some p =>
     obtain ⟨pa,rfl,hpa⟩:=hvo
     have l1:=fo b _ _ ho
     have l1':p.length<=100 * 100:=Nat.le_trans l1 (Nat.mul_le_mul_left _ (by omega))
     and_intros
     refine ⟨trivial,lam.same (sA.trans tG),lam.same (sA.trans tG),trivial,hs (lo + t) (b + 1) (by omega) (by omega) (by omega) G1 _ (sA.trans tG) fun v2 G2 t2 hv2=>?_⟩
     rw [hM]
     clear hM n3
     have tG2:=tG.trans t2
     cases ha:F (lo + t) (b + 1) with
     | none =>
      rw [ha] at hv2
      have hv0:v2=.non:=hv2
      subst hv0
      and_intros
      refine hN2 _ _ ⟨vf,_,_,rfl,tG2,?_,hvn⟩
      rw [hgo];unfold gP;rw [hgd,ha];exact hvf.same t2
     | some a =>
      rw [ha] at hv2
      obtain ⟨aa,rfl,haa⟩:=hv2
      have l2:=hF _ _ _ ha
      have hb2:=tG2 _ _ hA
      have put:∀ (G3:Hp) (D:Addr),ao G2 G3->G2 D=none->G3 D=some (.lst (p.map V.int++a.map V.int))->gr (fwB F lg b) F (b + 1) lo (t + 1)=some (p++a)->N2 [some (V.int n),some (V.int lg),some (V.ref lf),some (V.ref bst),some (V.int ((b + 1:Nat):Int)),some (V.ref D),some (V.int ((lo + t:Nat):Int)),some (V.ref aa)] G3:=fun G3 D t3 hD gD hg=>by
       refine hN2 _ _ ⟨.ref D,_,_,rfl,tG2.trans t3,?_,fun z=>?_,fun a z=>by cases z;exact (sA.trans tG2).free hD⟩
       ·rw [hg];exact ⟨D,rfl,by rw [gD,List.map_append]⟩
       ·cases z;rw [hb2] at hD;cases hD
      have hpa2:=tG2 _ _ hpa
      have hstep:gr (fwB F lg b) F (b + 1) lo (t + 1)=match gr (fwB F lg b) F (b + 1) lo t with | none=>some (p++a) | some f=>if p.length + a.length < f.length then some (p++a) else some f:=by rw [hgo];unfold gP;rw [hgd,ha]
      have lpa:(p.map V.int).length + (a.map V.int).length<=sizeLine:=big (by rw [List.length_map,List.length_map];omega)
      cases hf:gr (fwB F lg b) F (b + 1) lo t with
      | none =>
       rw [hf] at hvf hstep
       have hv0:vf=.non:=hvf
       subst hv0
       and_intros
       refine ⟨_,_,.inl (.of hb2),hat,?_⟩
       and_intros
       refine ⟨_,_,hpa2,haa,lpa,fun D G3 hD t3 gD=>put G3 D t3 hD gD hstep⟩
      | some fl =>
       rw [hf] at hvf hstep
       obtain ⟨fa,rfl,hfa⟩:=hvf
       and_intros
       refine ⟨_,_,.inl (.of hb2),hat,?_⟩
       and_intros
       refine ⟨_,.inl (.of hpa2),_,.inl (.of haa),_,.inl (.of (t2 _ _ hfa)),?_⟩
       rw [List.length_map,List.length_map,List.length_map]
       by_cases hlt:p.length + a.length < fl.length
       ·have hs2:gr (fwB F lg b) F (b + 1) lo (t + 1)=some (p++a):=hstep.trans (if_pos hlt)
        rw [if_pos (decide_eq_true (by omega))]
        refine ⟨_,_,.inl (.of hb2),hat,?_⟩
        and_intros
        exact ⟨_,_,hpa2,haa,lpa,fun D G3 hD t3 gD=>put G3 D t3 hD gD hs2⟩
       ·have hs2:gr (fwB F lg b) F (b + 1) lo (t + 1)=some fl:=hstep.trans (if_neg hlt)
        rw [if_neg (by rw [decide_eq_false (by omega)];decide)]
        refine hN2 _ _ ⟨.ref fa,_,_,rfl,tG2,?_,hvn⟩
        rw [hs2]
        exact ⟨fa,rfl,t2 _ _ hfa⟩
   rintro σ G1 ⟨vf,o6,o7,rfl,tG,hvf,hvn⟩
   show n2 _ _ _
   rw [hM]
   clear hM n2
   and_intros
   have hbG:=tG _ _ hA
   refine ⟨.inl ⟨rfl,_,.of hbG⟩,bst,_,_,rfl,rfl,hbG,aq (by omega),?_⟩
   refine hNx _ _ ⟨svs++[vf],_,_,_,_,rfl,(sA.trans tG).bD hbH,ay,(fun v hv=>(List.mem_append.mp hv).elim (hne v) fun h=>by rw [List.mem_singleton.mp h];exact hvn),?_⟩
   have kp:∀ x u,x≠bst->G1 x=some u->upd G1 bst (.lst (svs++[vf])) x=some u:=fun x u hx e=>by rw [av hx];exact e
   rw [fin]
   refine iz ?_ (.cons (hvf.keep hvn.1 kp) .nil)
   exact jE hP (fun v hv=>(hne v hv).1) fun v o hv h=>(h.same tG).keep hv kp
  rintro σ H3 ⟨svs,o4,o5,o6,o7,rfl,s3,h3,hne,hP⟩
  show nn _ _ _
  rw [hN]
  clear hN nn
  and_intros
  exact k bst svs H3 hbH s3 h3 hP fun v hv=>(hne v hv).2
def dS (K:PySem.W.Frag):Sp:=fun vs H Q _=>∃ (a:Addr) (ns:List Int) (k:Int),vs=[.ref a,.int k]/\SqL K H a (ns.map V.int)/\0<=k/\Q (.int (ns.getD k.toNat 0)) H
theorem nh:aD ["_law_script","_law_k"] ["_law_script","_law_k"] (ag cD):=⟨rfl,rfl,rfl,by decide +kernel,rfl,by decide +kernel,by decide +kernel⟩
theorem mJ {f:Addr}{fd:FuncData} (F:Fun K "_law_cell_at" "_law_cell_at" cD f fd) (T:Bl mg) (AF:AdF K mg Ad) :aW P w K mg base (CX1 P w) 1 f fd ["_law_script","_law_k"] (dS K):=by
 refine F.okX (k:=0) nh (fun vs H Q E h=>?_) (fun cdv A outer s H vs Q E hr h=>?_)
 ·obtain ⟨a,ns,k,rfl,_⟩:=h
  rfl
 ·obtain ⟨a,ns,i,rfl,hS,hi,k⟩:=h
  have hu:=hr.aM
  have hu1:=aZ hr
  refine ⟨_,af (aS (aE jh (pvL 1) (aj (aJ (K:=K) rfl) T.len aU (ah (pvL 0) (ae))) (aH _)) (ai (aF (bp (cH (K:=K) rfl) (pvL 0) (pvL 1) (fun _ _=>rfl)))) (aK)) (ai (aF (ak))),?_⟩
  ac_nf
  refine ⟨_,.inl hS,?_⟩
  rw [List.length_map]
  by_cases hlt:i < (ns.length:Int)
  ·rw [if_pos (decide_eq_true hlt)]
   refine ⟨_,.int (ns.getD i.toNat 0),.inl hS,?_,k⟩
   have e:(ns.map V.int)[i.toNat]?=some (.int (ns.getD i.toNat 0)):=by
    rw [List.getElem?_map,List.getD_eq_getElem?_getD,List.getElem?_eq_getElem (by omega)];rfl
   have:=gO e
   rwa [Int.toNat_of_nonneg hi] at this
  ·rw [if_neg (by rw [decide_eq_true_eq];exact hlt)]
   have e:ns.getD i.toNat 0=0:=by rw [List.getD_eq_getElem?_getD,List.getElem?_eq_none (by omega)];rfl
   rw [e] at k
   exact k
def m9 (c:Int):Int:=c * 69621 % 2147483629 + 2147483629 * (c % 10 ^ 60)
def cX:Sp:=fun vs H Q _=>∃ c:Int,vs=[.int c]/\Q (.int (m9 c)) H
theorem ql:aD ["_law_cell"] ["_law_cell"] (ag d8):=⟨rfl,rfl,rfl,by decide +kernel,rfl,by decide +kernel,by decide +kernel⟩
theorem pT {f:Addr}{fd:FuncData} (F:Fun K "_law_mixed" "_law_mixed" d8 f fd) (T:Bl mg) (AF:AdF K mg Ad) :aW P w K mg base (CX1 P w) 1 f fd ["_law_cell"] cX:=by
 refine F.okX (k:=0) ql (fun vs H Q E h=>?_) (fun cdv A outer s H vs Q E hr h=>?_)
 ·obtain ⟨c,rfl,_⟩:=h
  rfl
 ·obtain ⟨c,rfl,k⟩:=h
  have hu:=hr.aM
  have hu1:=aZ hr
  refine ⟨_,ai (aF (aI aR (aI bc (aI iJ (pvL 0) (ak)) (ak)) (aI iJ (ak) (aI bc (pvL 0) (aI A3 (ak) (ak)))))),?_⟩
  ac_nf
  exact ⟨.inr (by decide),by decide,⟨by decide,by decide,by decide⟩,by decide,.inl (by decide),k⟩
def fY:Sp:=fun vs H Q _=>∃ (a:Int) (b:Nat),vs=[.int a,.int b]/\Q (.int ((Nat.gcd a.natAbs b:Nat):Int)) H
theorem fS:aD ["_law_one","_law_other"] ["_law_one","_law_other"] (ag cE):=⟨rfl,rfl,rfl,by decide +kernel,rfl,by decide +kernel,by decide +kernel⟩
theorem mK {f:Addr}{fd:FuncData} (F:Fun K "_law_divisor" "_law_divisor" cE f fd) (T:Bl mg) (AF:AdF K mg Ad) :aW P w K mg base (CX1 P w) 1 f fd ["_law_one","_law_other"] fY:=by
 refine F.okX (k:=0) fS (fun vs H Q E h=>?_) (fun cdv A outer s H vs Q E hr h=>?_)
 ·obtain ⟨a,b,rfl,_⟩:=h
  rfl
 ·obtain ⟨a,b,rfl,k⟩:=h
  have hu:=hr.aM
  have hu1:=aZ hr
  refine ⟨_,af (aw (i:=0) fS.nd (aj kf T.abs sM (ah (pvL 0) (ae)))) (af (mT PassesOwn.leaving (aE mO (pvL 1) (ak) (aH _)) (ai (Dj (i:=0) (j:=1) rfl fS.nd rfl rfl (by decide) rfl rfl (ah (pvL 1) (ah (aI bc (pvL 0) (pvL 1)) (ae))) rfl))) (ai (aF (pvL 0)))),?_⟩
  ac_nf
  refine qy (fun σ H'=>H'=H/\∃ l r:Nat,σ=[some (.int l),some (.int r)]/\Nat.gcd l r=Nat.gcd a.natAbs b) (fun σ _=>match σ with | [_,some (.int r)]=>r.toNat | _=>0) ⟨rfl,a.natAbs,b,rfl,rfl⟩ ?_
  rintro σ H' ⟨rfl,l,r,rfl,hg⟩
  ac_nf
  by_cases hr0:r=0
  ·subst hr0
   rw [Nat.gcd_zero_right] at hg
   subst hg
   rw [if_neg (by decide)]
   exact k
  ·have e:decide ((0:Int) < (r:Int))=true:=decide_eq_true (by omega)
   rw [if_pos e]
   refine ⟨_,fun _ _ h=>h,by omega,⟨rfl,r,l % r,by rw [Int.natCast_emod],?_⟩,?_⟩
   ·rw [← hg,Nat.gcd_comm l r,Nat.gcd_rec r l,Nat.gcd_comm]
   ·show ((l:Int) % (r:Int)).toNat < r
    have h1:(l:Int) % (r:Int) < r:=Int.emod_lt_of_pos _ (by omega)
    have h2:0<=(l:Int) % (r:Int):=Int.emod_nonneg _ (by omega)
    omega
def lets:Nat->Int->List Nat
 | 0,_=>[]
 | n + 1,k=>(97 + (k % 26).toNat)::lets n (k / 26)
theorem j7:∀ (n:Nat) (k:Int),(lets n k).length=n
 | 0,_=>rfl
 | n + 1,k=>by show (lets n (k / 26)).length + 1=_;rw [j7]
theorem rq:∀ (n:Nat) (k:Int),∀ c∈lets n k,97<=c/\c < 123
 | 0,_,c,h=>nomatch h
 | n + 1,k,c,h=>by
  rcases List.mem_cons.mp h with rfl | h
  ·omega
  ·exact rq n _ c h
theorem oE:∀ (n:Nat) (k:Int),lets (n + 1) k=lets n k++[97 + (k / 26 ^ n % 26).toNat]
 | 0,k=>by simp [lets]
 | n + 1,k=>by
  show (97 + (k % 26).toNat)::lets (n + 1) (k / 26)=(97 + (k % 26).toNat)::(lets n (k / 26)++_)
  rw [oE n (k / 26),Int.ediv_ediv_of_nonneg (by decide),← Int.pow_succ']
theorem ua:∀ j:Nat,j < 8->∃ w:List Nat,[V.str ("a":Str),.str ("ab":Str),.str ("abc":Str),.str ("b":Str),.str ("ba":Str),.str ("cab":Str),.str ("bb":Str),.str ("c":Str)][j]?=some (.str (tx w))/\1<=w.length/\w.length<=20/\∀ c∈w,97<=c/\c < 123
 | 0,_=>⟨[97],rfl,by decide,by decide,by decide⟩
 | 1,_=>⟨[97,98],rfl,by decide,by decide,by decide⟩
 | 2,_=>⟨[97,98,99],rfl,by decide,by decide,by decide⟩
 | 3,_=>⟨[98],rfl,by decide,by decide,by decide⟩
 | 4,_=>⟨[98,97],rfl,by decide,by decide,by decide⟩
 | 5,_=>⟨[99,97,98],rfl,by decide,by decide,by decide⟩
 | 6,_=>⟨[98,98],rfl,by decide,by decide,by decide⟩
 | 7,_=>⟨[99],rfl,by decide,by decide,by decide⟩
 | _ + 8,h=>absurd h (by omega)
def fb:Sp:=fun vs H Q _=>∃ n:Int,vs=[.int n]/\0<=n/\∀ p (w:List Nat) (n':Int) H',1<=w.length->w.length<=20->(∀ c∈w,97<=c/\c < 123)->0<=n'->H p=none->ao H H'->H' p=some (.lst [.str (tx w),.int n'])->Q (.ref p) H'
theorem bW:aD ["_law_number","_law_letters","_law_some","_law_size","_law_word_here","_law_k"] ["_law_number"] (ag eM):=⟨rfl,rfl,rfl,by decide +kernel,rfl,by decide +kernel,by decide +kernel⟩
theorem rN {f:Addr}{fd:FuncData} (F:Fun K "_law_word" "_law_word" eM f fd) (T:Bl mg) (AF:AdF K mg Ad) :aW P w K mg base (CX1 P w) 1 f fd ["_law_number"] fb:=by
 refine F.okX (k:=0) bW (fun vs H Q E h=>?_) (fun cdv A outer s H vs Q E hr h=>?_)
 ·obtain ⟨n,rfl,_⟩:=h
  rfl
 ·obtain ⟨n,rfl,hn,k⟩:=h
  have hu:=hr.aM
  have hu1:=aZ hr
  refine ⟨_,af (aw (i:=1) bW.nd (aB)) (af (aw (i:=2) bW.nd (bh (ah (aB) (ah (aB) (ah (aB) (ah (aB) (ah (aB) (ah (aB) (ah (aB) (ah (aB) (ae))))))))))) (af (aS (aE jh (aI bc (pvL 0) (ak)) (ak) (aH _)) (ai (aF (bh (ah (bp (cH (K:=K) rfl) (pvL 2) (aI bc (aI bU (pvL 0) (ak)) (ak)) (fun _ _=>rfl)) (ah (aI bU (pvL 0) (ak)) (ae)))))) (aK)) (af (aw (i:=3) bW.nd (aI aR (ak) (aI bc (aI bU (pvL 0) (ak)) (ak)))) (af (aw (i:=0) bW.nd (aI bU (pvL 0) (ak))) (af (aw (i:=4) bW.nd (aB)) (af (fj PassesOwn.leaving rfl (eB T.range (ah (pvL 3) (ae))) (aL (i:=5) bW.nd) (af (aw (i:=4) bW.nd (aI aR (pvL 4) (bp (cH (K:=K) rfl) (pvL 1) (aI bc (pvL 0) (ak)) (fun _ _=>rfl)))) (ai (aw (i:=0) bW.nd (aI bU (pvL 0) (ak)))))) (ai (aF (bh (ah (pvL 4) (ah (pvL 0) (ae)))))))))))),?_⟩
  refine ar fun nn hN=>?_
  and_intros
  rw [hN]
  clear hN nn
  refine ar fun nn hN=>?_
  and_intros
  refine ⟨Nat.le_of_lt (aq (by decide)),fun p0 H1 hp0 s1 h1=>?_⟩
  rw [hN]
  clear hN nn
  refine ar fun nn hN=>?_
  and_intros
  refine ⟨by decide,?_⟩
  by_cases h3:n % 4 < 3
  ·rw [if_pos (decide_eq_true h3)]
   and_intros
   obtain ⟨j,hj⟩:=Int.eq_ofNat_of_zero_le (show 0<=n / 4 % 8 by omega)
   obtain ⟨w,e1,e2,e3,e4⟩:=ua j (by omega)
   rw [hj]
   refine ⟨⟨by decide,by decide⟩,by decide,_,_,.l h1,gO e1,⟨by decide,by decide⟩,Nat.le_of_lt (aq (by decide)),fun p H2 hp s2 h2=>?_⟩
   exact k p w _ H2 e2 e3 e4 (by omega) (by cases e:H p with | none=>rfl | some o=>rw [s1 _ _ e] at hp;cases hp) (s1.trans s2) h2
  ·rw [if_neg (by simpa using h3),hN]
   clear hN nn
   refine ar fun nn hN=>?_
   and_intros
   refine ⟨⟨by decide,by decide⟩,by decide,?_⟩
   rw [hN]
   clear hN nn
   refine ar fun nn hN=>?_
   and_intros
   refine ⟨⟨by decide,by decide⟩,?_⟩
   rw [hN]
   clear hN nn
   refine ar fun nn hN=>?_
   and_intros
   rw [hN]
   clear hN nn
   obtain ⟨sz,hsz⟩:=Int.eq_ofNat_of_zero_le (show 0<=1 + n / 4 % 20 by omega)
   have hs1:1<=sz/\sz<=20:=by omega
   have hm0:0<=n / 80:=by omega
   generalize n / 80=m at hm0
   rw [hsz]
   refine ar fun nn hN=>?_
   and_intros
   refine ⟨by omega,by omega,?_⟩
   refine vo (n:=sz) (fun i σ H'=>H'=H1/\∃ o,σ=[some (.int (m / 26 ^ i)),some (.str ("abcdefghijklmnopqrstuvwxyz":Str)),some (.ref p0),some (.int (sz:Int)),some (.str (tx (lets i m))),o]) ?_ ?_ ?_
   ·exact ⟨rfl,none,by rw [Int.pow_zero,Int.ediv_one];rfl⟩
   ·rintro i σ H' hi ⟨rfl,o,rfl⟩
    have hd:0<=m / 26 ^ i:=Int.ediv_nonneg hm0 (Int.pow_nonneg (by decide))
    have hsn:=oE i m
    have hq:m / 26 ^ (i + 1)=m / 26 ^ i / 26:=by rw [Int.pow_succ,Int.ediv_ediv_of_nonneg (Int.pow_nonneg (by decide))]
    rw [hsn,hq]
    have hll:=j7 i m
    generalize m / 26 ^ i=d at hd
    generalize lets i m=wd at hll
    and_intros
    rw [cY]
    and_intros
    have hc:atI ("abcdefghijklmnopqrstuvwxyz":Str).cps.toList (d % 26)=some (97 + (d % 26).toNat):=by
     refine bM (by omega) ?_
     rw [jX,List.getElem?_range' (by omega)]
     simp
    refine ⟨by decide,Nat.le_of_lt (aq (by decide)),_,hc,?_⟩
    rw [show (⟨#[97 + (d % 26).toNat]⟩:Str)=tx [97 + (d % 26).toNat] from rfl,ky,aY,aY]
    and_intros
    exact ⟨Nat.le_of_lt (aq (by omega)),⟨by decide,by decide⟩,trivial,_,rfl⟩
   ·rintro σ H' ⟨rfl,o,rfl⟩
    show nn _ _ _
    rw [hN]
    and_intros
    refine ⟨Nat.le_of_lt (aq (by decide)),fun p H2 hp s2 h2=>?_⟩
    refine k p (lets sz m) _ H2 (by rw [j7];exact hs1.1) (by rw [j7];exact hs1.2) (rq sz m) ?_ (by cases e:H p with | none=>rfl | some o=>rw [s1 _ _ e] at hp;cases hp) (s1.trans s2) h2
    exact Int.ediv_nonneg hm0 (Int.pow_nonneg (by decide))
def fA (Ad:Ads):Sp:=fun vs H Q _=>∃ (ea C:Addr) (d:Option Addr),vs=[.ref ea]/\H ea=some (ij ea (.ref C) d)/\(∀ dx,d=some dx->∃ fs,H dx=some (.xd fs))/\(C=Ad.NoSetting ∨ C=Ad.NoText)/\∀ p H',ao H H'->H' p=some (.lst (List.replicate 15 (.bl false)))->Q (.ref p) H'
theorem fu:aD ["_law_e","_law_some"] ["_law_e"] (ag d7):=⟨rfl,rfl,rfl,by decide +kernel,rfl,by decide +kernel,by decide +kernel⟩
theorem pS {f:Addr}{fd:FuncData} (F:Fun K "_law_kinds" "_law_kinds" d7 f fd) (T:Bl mg) (AF:AdF K mg Ad) :kz P w K mg base (CX1 P w) 1 f fd ["_law_e"] (fA Ad):=by
 refine F.okN (k:=0) fu (fun vs H Q E h=>?_) (fun cdv A outer s H vs Q E hr h=>?_)
 ·obtain ⟨ea,C,d,rfl,_⟩:=h
  rfl
 ·obtain ⟨ea,C,d,rfl,he,hd,hC,k⟩:=h
  have hu:=hr.aM
  have hu1:=hr.Dz
  refine ⟨_,af (aw (i:=1) fu.nd (bh (ah (aj (bj (K:=K) rfl) T.isinstance bt_isinstance (ah (pvL 0) (ah (bN AF.g_NoEntry) (ae)))) (ah (aj (bj (K:=K) rfl) T.isinstance bt_isinstance (ah (pvL 0) (ah (bN AF.g_Twice) (ae)))) (ah (aj (bj (K:=K) rfl) T.isinstance bt_isinstance (ah (pvL 0) (ah (bN AF.g_NoNumber) (ae)))) (ah (aj (bj (K:=K) rfl) T.isinstance bt_isinstance (ah (pvL 0) (ah (bN AF.g_TooMany) (ae)))) (ae))))))) (af (aw (i:=1) fu.nd (aI aR (pvL 1) (bh (ah (aj (bj (K:=K) rfl) T.isinstance bt_isinstance (ah (pvL 0) (ah (bN AF.g_NoBook) (ae)))) (ah (aj (bj (K:=K) rfl) T.isinstance bt_isinstance (ah (pvL 0) (ah (bN AF.g_NoReading) (ae)))) (ah (aj (bj (K:=K) rfl) T.isinstance bt_isinstance (ah (pvL 0) (ah (bN AF.g_NoCode) (ae)))) (ah (aj (bj (K:=K) rfl) T.isinstance bt_isinstance (ah (pvL 0) (ah (bN AF.g_NoWord) (ae)))) (ae)))))))) (af (aw (i:=1) fu.nd (aI aR (pvL 1) (bh (ah (aj (bj (K:=K) rfl) T.isinstance bt_isinstance (ah (pvL 0) (ah (bN AF.g_TooGarbled) (ae)))) (ah (aj (bj (K:=K) rfl) T.isinstance bt_isinstance (ah (pvL 0) (ah (bN AF.g_NoRow) (ae)))) (ah (aj (bj (K:=K) rfl) T.isinstance bt_isinstance (ah (pvL 0) (ah (bN AF.g_NoNet) (ae)))) (ah (aj (bj (K:=K) rfl) T.isinstance bt_isinstance (ah (pvL 0) (ah (bN AF.g_NoOffice) (ae)))) (ae)))))))) (ai (aF (aI aR (pvL 1) (bh (ah (aj (bj (K:=K) rfl) T.isinstance bt_isinstance (ah (pvL 0) (ah (bN AF.g_NoDay) (ae)))) (ah (qe (aj (bj (K:=K) rfl) T.isinstance bt_isinstance (ah (pvL 0) (ah (bN AF.g_CableError) (ae))))) (ah (qe (aj (bj (K:=K) rfl) T.isinstance bt_isinstance (ah (pvL 0) (ah (fi T.ValueError n5) (ae))))) (ae)))))))))),?_⟩
  have big:∀ {u:Nat},u<=10000->u<=sizeLine:=fun hu=>Nat.le_of_lt (aq (by omega))
  obtain ⟨i0,hi0,hi7⟩:∃ i0:Nat,Ad.Ag[i0]?=some C/\(i0=7 ∨ i0=9):=by
   rcases hC with rfl | rfl
   ·exact ⟨9,rfl,.inr rfl⟩
   ·exact ⟨7,rfl,.inl rfl⟩
  have eC:=yh AF.err (c:=C) (List.mem_of_getElem? hi0)
  have isiA:∀ {H':Hp}{c:Addr}{bb:Bool}{Q':VK},ao H H'->PySem.W.kitOne K (.ref C) (.ref c)=some bb->Q' (.bl bb) H'->zl K [V.ref ea,V.ref c] H' Q':=fun {H' c bb Q'} sH hk q=>⟨_,_,bb,sH _ _ he,(fun dx' z=>by obtain ⟨fs,q⟩:=hd dx' z;exact ⟨fs,sH _ _ q⟩),eC.ex,hk,q⟩
  have isiT:∀ {H':Hp}{Q':VK},ao H H'->Q' (.bl true) H'->zl K [V.ref ea,V.ty "ValueError"] H' Q':=fun {H' Q'} sH q=>⟨_,_,true,sH _ _ he,(fun dx' z=>by obtain ⟨fs,q⟩:=hd dx' z;exact ⟨fs,sH _ _ q⟩),eC.ex,eC.ve,q⟩
  have kd:∀ {j:Nat}{d:Addr},Ad.Ag[j]?=some d->j≠7->j≠9->PySem.W.kitOne K (.ref C) (.ref d)=some false:=fun {j d} hd h7 h9=>by rw [eC.kd d (List.mem_of_getElem? hd),yO AF.nd (i:=i0) hi0 hd,decide_eq_false (by rcases hi7 with rfl | rfl <;> omega)]
  have r0:=ao.refl H
  refine ar fun nn hN=>?_
  and_intros
  refine isiA r0 (kd (j:=3) rfl (by decide) (by decide)) (isiA r0 (kd (j:=4) rfl (by decide) (by decide)) (isiA r0 (kd (j:=1) rfl (by decide) (by decide)) (isiA r0 (kd (j:=5) rfl (by decide) (by decide)) ⟨big (by decide),fun p3 H3 hp3 s3 h3=>?_⟩)))
  rw [hN]
  clear hN nn
  refine ar fun nn hN=>?_
  and_intros
  refine isiA s3 (kd (j:=6) rfl (by decide) (by decide)) (isiA s3 (kd (j:=8) rfl (by decide) (by decide)) (isiA s3 (kd (j:=0) rfl (by decide) (by decide)) (isiA s3 (kd (j:=2) rfl (by decide) (by decide)) ⟨big (by decide),fun p4 H4 hp4 s4 h4=>?_⟩)))
  refine ⟨_,_,s4 _ _ h3,h4,big (by decide),fun p5 H5 hp5 s5 h5=>?_⟩
  rw [hN]
  clear hN nn
  have S5:=s3.trans (s4.trans s5)
  refine ar fun nn hN=>?_
  and_intros
  refine isiA S5 (kd (j:=10) rfl (by decide) (by decide)) (isiA S5 (kd (j:=14) rfl (by decide) (by decide)) (isiA S5 (kd (j:=11) rfl (by decide) (by decide)) (isiA S5 (kd (j:=12) rfl (by decide) (by decide)) ⟨big (by decide),fun p6 H6 hp6 s6 h6=>?_⟩)))
  refine ⟨_,_,s6 _ _ h5,h6,big (by decide),fun p7 H7 hp7 s7 h7=>?_⟩
  rw [hN]
  clear hN nn
  have S7:=S5.trans (s6.trans s7)
  and_intros
  refine isiA S7 (kd (j:=13) rfl (by decide) (by decide)) (isiA S7 eC.ba ?_)
  and_intros
  refine isiT S7 ?_
  and_intros
  refine ⟨big (by decide),fun p8 H8 hp8 s8 h8=>⟨_,_,s8 _ _ h7,h8,big (by decide),fun p9 H9 hp9 s9 h9=>?_⟩⟩
  exact k p9 H9 (S7.trans (s8.trans s9)) (h9.trans rfl)
def Cg (H:Hp) (x:V):Prop:=(∃ t,cP H x=some t)/\(∀ z,x=.str z->z.length<=10000)/\bP 60 x=false
def jo:Sp:=fun vs H Q _=>∃ n:Int,vs=[.int n]/\∀ x H',ao H H'->Cg H' x->Q x H'
theorem gX:aD ["_law_number","_law_long","_law_some"] ["_law_number"] (ag fG):=⟨rfl,rfl,rfl,by decide +kernel,rfl,by decide +kernel,by decide +kernel⟩
theorem tJ {f:Addr}{fd:FuncData} (F:Fun K "_law_odd" "_law_odd" fG f fd) (T:Bl mg) (AF:AdF K mg Ad) :aW P w K mg base (CX1 P w) 1 f fd ["_law_number"] jo:=by
 refine F.okX (k:=0) gX (fun vs H Q E h=>?_) (fun cdv A outer s H vs Q E hr h=>?_)
 ·obtain ⟨n,rfl,_⟩:=h
  rfl
 ·obtain ⟨n,rfl,k⟩:=h
  have hu:=hr.aM
  have hu1:=aZ hr
  refine ⟨_,af (aw (i:=1) gX.nd (aB)) (af (aw (i:=2) gX.nd (bh (ah (aB) (ah (aB) (ah (aB) (ah (aB) (ah (aB) (ah (aB) (ah (aB) (ah (aB) (ah (pvL 1) (ah (aI aR (aB) (pvL 1)) (ah (aI aR (aB) (aI pX (aB) (ak))) (ah (aB) (ah (aB) (ae)))))))))))))))) (af (aw (i:=2) gX.nd (aI aR (pvL 2) (bh (ah (bg) (ah (dg) (ah (aI bc (pvL 0) (ak)) (ah (bh (ah (aB) (ae))) (ah (cK (ah (aB) (ae))) (ah (rQ) (ah (aI aR (aB) (aI pX (aB) (ak))) (ah (aB) (ae)))))))))))) (ai (aF (bp (cH (K:=K) rfl) (pvL 2) (aI bc (pvL 0) (aj (aJ (K:=K) rfl) T.len aU (ah (pvL 2) (ae)))) (fun _ _=>rfl)))))),?_⟩
  have big:∀ {u:Nat},u<=10000->u<=sizeLine:=fun hu=>Nat.le_of_lt (aq (by omega))
  refine ar fun nn hN=>?_
  and_intros
  rw [hN]
  clear hN nn
  refine ar fun nn hN=>?_
  and_intros
  refine ⟨big (by decide),[32,97],rfl,by decide,by decide,by decide,by decide,big (by decide +kernel),big (by decide),fun p1 H1 hp1 s1 h1=>?_⟩
  rw [hN]
  clear hN nn
  refine ar fun nn hN=>?_
  and_intros
  refine ⟨by decide,big (by decide),fun p2 H2 hp2 s2 h2=>⟨big (by decide),fun p3 H3 hp3 s3 h3 p4 H4 hp4 s4 h4=>⟨[32],rfl,by decide,by decide,by decide,by decide,big (by decide +kernel),big (by decide),fun p5 H5 hp5 s5 h5=>⟨_,_,s5 _ _ (s4 _ _ (s3 _ _ (s2 _ _ h1))),h5,big (show 13 + 8<=10000 by decide),fun p6 H6 hp6 s6 h6=>?_⟩⟩⟩⟩
  rw [hN]
  clear hN nn
  have oddAll:∀ v∈[V.str (Str.ofString ""),V.str (Str.ofString " "),V.str (Str.ofString "a "),V.str (Str.ofString " a"),V.str (Str.ofString "a  b"),V.str (Str.ofString "A"),V.str (Str.ofString "a1"),V.str (Str.ofString "a\nb"),V.str (Str.ofString "abcdefghijklmnopqrstu"),V.str (Str.ofString "a "++Str.ofString "abcdefghijklmnopqrstu"),V.str (Str.ofString "a"++tx (List.replicate (Int.toNat 60) [32,97]).flatten),V.str (Str.ofString "a-b"),V.str (Str.ofString "a,b")]++[V.non,V.bl true,V.int (n % 99),V.ref p2,V.ref p3,V.ref p4,V.str (Str.ofString "ab"++tx (List.replicate (Int.toNat 2) [32]).flatten),V.str (Str.ofString "\n")],Cg H6 v:=by
   have r2:H6 p2=some (.lst [V.str (Str.ofString "a")]):=s6 _ _ (s5 _ _ (s4 _ _ (s3 _ _ h2)))
   have r3:H6 p3=some (.tup [V.str (Str.ofString "a")]):=s6 _ _ (s5 _ _ (s4 _ _ h3))
   have r4:H6 p4=some (.dK []):=s6 _ _ (s5 _ _ h4)
   have tS:∀ z:Str,z.length<=10000->bP 60 (.str z)=false->Cg H6 (.str z):=fun z hz ha=>⟨⟨.str,rfl⟩,(fun z' e=>by cases e;exact hz),ha⟩
   intro v hv
   simp only [List.cons_append,List.nil_append,List.mem_cons,List.not_mem_nil,or_false] at hv
   rcases hv with rfl | rfl | rfl | rfl | rfl | rfl | rfl | rfl | rfl | rfl | rfl | rfl | rfl | rfl | rfl | rfl | rfl | rfl | rfl | rfl | rfl
   iterate 13 exact tS _ (by decide +kernel) (by decide +kernel)
   ·exact ⟨⟨_,rfl⟩,(fun z e=>by cases e),rfl⟩
   ·exact ⟨⟨_,rfl⟩,(fun z e=>by cases e),rfl⟩
   ·exact ⟨⟨_,rfl⟩,(fun z e=>by cases e),rfl⟩
   ·exact ⟨⟨.lst,by show gB (H6 _)=_;rw [r2];rfl⟩,(fun z e=>by cases e),rfl⟩
   ·exact ⟨⟨.tup,by show gB (H6 _)=_;rw [r3];rfl⟩,(fun z e=>by cases e),rfl⟩
   ·exact ⟨⟨.dct,by show gB (H6 _)=_;rw [r4];rfl⟩,(fun z e=>by cases e),rfl⟩
   ·exact tS _ (by decide +kernel) (by decide +kernel)
   ·exact tS _ (by decide +kernel) (by decide +kernel)
  generalize hL:([V.str (Str.ofString ""),V.str (Str.ofString " "),V.str (Str.ofString "a "),V.str (Str.ofString " a"),V.str (Str.ofString "a  b"),V.str (Str.ofString "A"),V.str (Str.ofString "a1"),V.str (Str.ofString "a\nb"),V.str (Str.ofString "abcdefghijklmnopqrstu"),V.str (Str.ofString "a "++Str.ofString "abcdefghijklmnopqrstu"),V.str (Str.ofString "a"++tx (List.replicate (Int.toNat 60) [32,97]).flatten),V.str (Str.ofString "a-b"),V.str (Str.ofString "a,b")]++[V.non,V.bl true,V.int (n % 99),V.ref p2,V.ref p3,V.ref p4,V.str (Str.ofString "ab"++tx (List.replicate (Int.toNat 2) [32]).flatten),V.str (Str.ofString "\n")])=L at h6 oddAll
  have hl:L.length=21:=by rw [← hL];rfl
  and_intros
  have i0:=Int.emod_nonneg n (b:=(L.length:Int)) (by omega)
  have i1:=Int.emod_lt_of_pos n (b:=(L.length:Int)) (by omega)
  have hat:L[(n % (L.length:Int)).toNat]?=some (L[(n % (L.length:Int)).toNat]'(by omega)):=List.getElem?_eq_getElem _
  generalize L[(n % (L.length:Int)).toNat]'(by omega)=v at hat
  exact ⟨_,.inl (.of h6),by omega,_,v,.inl (.of h6),bM i0 hat,k v H6 (s1.trans (s2.trans (s3.trans (s4.trans (s5.trans s6))))) (oddAll v (List.mem_of_getElem? hat))⟩
def i6:Sp:=fun vs H Q _=>∃ (p:Addr) (ws:List Int) (m:Int),vs=[.ref p,.int m]/\H p=some (.lst (ws.map V.int))/\ws.length<=1000/\∀ H',ao H H'->Q (.bl (Mk.safe m ws)) H'
theorem kU:aD ["weights","m","differences"] ["weights","m"] (ag eD):=⟨rfl,rfl,rfl,by decide +kernel,rfl,by decide +kernel,by decide +kernel⟩
theorem rF {f:Addr}{fd:FuncData} (F:Fun K "are_safe" "are_safe" eD f fd) (T:Bl mg) (AF:AdF K mg Ad) (C_common_divisor:Fnc P w K mg base (CX1 P w) 1 "common_divisor" ["one","other"] dR):aW P w K mg base (CX1 P w) 2 f fd ["weights","m"] i6:=by
 refine F.okX (k:=1) kU (fun vs H Q E h=>?_) (fun cdv A outer s H vs Q E hr h=>?_)
 ·obtain ⟨p,ws,m,rfl,_⟩:=h
  rfl
 ·obtain ⟨p,ws,m,rfl,hp,hl,k⟩:=h
  have hu:=hr.aM
  have hu1:=aZ hr
  refine ⟨_,af (mS (i:=2) ["ahead","behind"] kU.nd rfl (Or.inl rfl) rfl ⟨rfl,by decide +kernel,rfl,by decide +kernel⟩ (.nil) (by decide +kernel) (AH (K:=K) rfl T.zip (ah (pvL 0) (ah (cN (iW (K:=K) rfl) (pvL 0) (cp (ak)) (gR)) (ae)))) (fun _ _ _ _=>jG (K:=K) (n:=2) rfl rfl (bu (aL (i:=0) (show (["ahead","behind"]:List Str).Nodup from by decide +kernel)) (bu (aL (i:=1) (show (["ahead","behind"]:List Str).Nodup from by decide +kernel)) (gf)))) (fun _ _ _ _=>fq) (fun _ _ _ _=>aI qd (pvL 1) (pvL 0))) (ai (aF (aj (fB (K:=K) rfl rfl) T.all ke (ah (iT ["number"] rfl ⟨rfl,by decide +kernel,rfl,by decide +kernel⟩ (.cons (j:=1) rfl (.inl (by kernel_rfl)) (.nil)) (by decide +kernel) (dN (K:=K) rfl (aI aR (pvL 0) (pvL 2))) (fun _ _ _ _=>aL (i:=0) (show (["number","m"]:List Str).Nodup from by decide +kernel)) (fun _ _ _ _=>fq) (fun _ _ _ _=>bC (bS (K:=K) rfl hu) (ax C_common_divisor gw (hr.mono (by decide)) (ah (pvL 0) (ah (pvC 1) (ae)))) (ak) (aH _))) (ae))))),?_⟩
  ac_nf
  refine ⟨_,.of hp,fun q H1 hq s1 h1=>?_⟩
  have hp1:H1 p=some (.lst (ws.map V.int)):=s1 _ _ hp
  have ec:gq (ws.map V.int) (some 1) none=(ws.drop 1).map V.int:=by rw [show (1:Int)=((1:Nat):Int) from rfl,nT,List.map_drop]
  rw [ec] at h1
  refine ⟨⟨_,.of hp1⟩,⟨_,.of h1⟩,E4 V.int V.int iH iH (.of hp1) (.of h1) (aq (by omega)) (fun a b=>.int (b - a)) ?_ ?_⟩
  ·intro a b hab H' s' R hR
   ac_nf
   exact hR H' (ao.refl _)
  ·intro D H2 hD s2 h2
   have e2:H2 D=some (.lst ((Mk.dif ws).map V.int)):=by rw [h2];unfold Mk.dif;rw [List.map_map];rfl
   have hp2:H2 p=some (.lst (ws.map V.int)):=s2 _ _ hp1
   have ldif:(Mk.dif ws).length<=1000:=by unfold Mk.dif;rw [List.length_map,List.length_zip];omega
   ac_nf
   refine ⟨_,_,hp2,e2,?_,fun r H3 hr s3 h3=>.inl ⟨⟨_,.of h3⟩,?_⟩⟩
   ·rw [List.length_map,List.length_map];exact Nat.le_of_lt (aq (by omega))
   ·rw [← List.map_append] at h3
    refine wO (xs:=ws++Mk.dif ws) V.int iH (fU (.of h3)) (by rw [List.length_append];exact aq (by omega)) (fun n=>.bl (Mk.cop m n)) ?_ ?_
    ·intro n hn H' s' R hR
     ac_nf
     refine ⟨n,m,rfl,?_⟩
     have e:decide (((Int.gcd n m:Nat):Int)=1)=Mk.cop m n:=by
      unfold Mk.cop
      by_cases h:Int.gcd n m=1
      ·rw [decide_eq_true h];exact decide_eq_true (by omega)
      ·rw [decide_eq_false h];exact decide_eq_false (by omega)
     show R (V.bl (decide (((Int.gcd n m:Nat):Int)=1))) H'
     rw [e]
     exact hR H' (ao.refl _)
    ·intro D' H4 hD' s4 h4
     refine ⟨D',(ws++Mk.dif ws).map (Mk.cop m),rfl,.of (by rw [h4,List.map_map];rfl),?_⟩
     have ea:(((ws++Mk.dif ws).map (Mk.cop m)).all id)=Mk.safe m ws:=by unfold Mk.safe;rw [List.all_map];rfl
     rw [ea]
     exact k H4 (s1.trans (s2.trans (s3.trans s4)))
def bo (b:Int):V->Bool
 | .int i=>decide (0<=i) && decide (i < b)
 | _=>false
def dD:Sp:=fun vs H Q _=>∃ (x:V) (t:Tg) (b:Int),vs=[x,.int b]/\cP H x=some t/\Q (.bl (bo b x)) H
theorem se:aD ["thing","bound"] ["thing","bound"] (ag eE):=⟨rfl,rfl,rfl,by decide +kernel,rfl,by decide +kernel,by decide +kernel⟩
theorem rG {f:Addr}{fd:FuncData} (F:Fun K "is_below" "is_below" eE f fd) (T:Bl mg) (AF:AdF K mg Ad) (C_is_whole:Fnc P w K mg base (CX1 P w) 1 "is_whole" ["thing"] i7):aW P w K mg base (CX1 P w) 2 f fd ["thing","bound"] dD:=by
 refine F.okX (k:=1) se (fun vs H Q E h=>?_) (fun cdv A outer s H vs Q E hr h=>?_)
 ·obtain ⟨x,t,b,rfl,_⟩:=h
  rfl
 ·obtain ⟨x,t,b,rfl,ht,k⟩:=h
  have hu:=hr.aM
  have hu1:=aZ hr
  refine ⟨_,ai (aF (fO (ax C_is_whole au (hr.mono (by decide)) (ah (pvL 0) (ae))) (fQ (yY gv jh (ak) (pvL 0) (pvL 1))))),?_⟩
  by_cases hs:∃ i,x=.int i
  ·obtain ⟨i,rfl⟩:=hs
   cases ht
   ac_nf
   refine ⟨_,Tg.int,rfl,rfl,?_⟩
   ac_nf
   have ek:bo b (.int i)=(decide (0<=i) && decide (i < b)):=rfl
   rw [ek] at k
   rw [if_pos (by simp)]
   cases h0:decide (0<=i) with
   | false=>rw [h0,Bool.false_and] at k;bv_omega;exact k
   | true=>rw [h0,Bool.true_and] at k;bv_omega;exact k
  ·have hv:bo b x=false:=by
    cases x with
    | int i=>exact absurd ⟨i,rfl⟩ hs
    | _=>rfl
   have hne:t≠Tg.int:=fun e=>by
    subst e
    cases x with
    | int i=>exact hs ⟨i,rfl⟩
    | ref a =>
     have h':gB (H a)=some .int:=ht
     cases e:H a with
     | none=>rw [e] at h';cases h'
     | some o=>rw [e] at h';cases o with
      | frz ob u=>cases u <;> cases h'
      | _=>cases h'
    | _=>cases ht
   rw [hv] at k
   ac_nf
   refine ⟨x,t,rfl,ht,?_⟩
   ac_nf
   rw [decide_eq_false hne]
   bv_omega
   exact k
def fz:Sp:=fun vs H Q _=>∃ (x:V) (t:Tg) (n:Nat),vs=[x,.int n]/\cP H x=some t/\(∀ z,x=.str z->z.length<=10000)/\n<=1000/\∀ H',ao H H'->Q (.bl (bP n x)) H'
theorem jO:aD ["thing","most","words"] ["thing","most"] (ag dz):=⟨rfl,rfl,rfl,by decide +kernel,rfl,by decide +kernel,by decide +kernel⟩
theorem pP {f:Addr}{fd:FuncData} (F:Fun K "are_words" "are_words" dz f fd) (T:Bl mg) (AF:AdF K mg Ad) (C_are_letters:Fnc P w K mg base (CX1 P w) 1 "are_letters" ["thing","most"] dQ):aW P w K mg base (CX1 P w) 2 f fd ["thing","most"] fz:=by
 refine F.okX (k:=1) jO (fun vs H Q E h=>?_) (fun cdv A outer s H vs Q E hr h=>?_)
 ·obtain ⟨x,t,n,rfl,_⟩:=h
  rfl
 ·obtain ⟨x,t,n,rfl,ht,hz,hn,k⟩:=h
  have hu:=hr.aM
  have hu1:=aZ hr
  refine ⟨_,af (aS (bO (bT (aj (bY .str) T.isinstance bt_isinstance (ah (pvL 0) (ah (fi T.str pf) (ae)))))) (ai (aF (dg))) (aK)) (af (aw (i:=2) jO.nd (cI (K:=K) rfl PySem.F.plainAttrs_str PySem.F.slot_str_split PySem.F.type_str_split j9 (pvL 0) (ah (aB) (ae)))) (ai (aF (fO (bC gv (aj (aJ (K:=K) rfl) T.len aU (ah (pvL 2) (ae))) (pvL 1) (aH _)) (fQ (aj (fB (K:=K) rfl rfl) T.all ke (ah (iT ["word"] rfl ⟨rfl,by decide +kernel,rfl,by decide +kernel⟩ (.nil) (by decide +kernel) (dN (K:=K) rfl (pvL 2)) (fun _ _ _ _=>aL (i:=0) (show (["word"]:List Str).Nodup from by decide +kernel)) (fun _ _ _ _=>fq) (fun _ _ _ _=>ax C_are_letters gw (hr.mono (by decide)) (ah (pvL 0) (ah (cx AF.v_LONGEST_WORD) (ae))))) (ae)))))))),?_⟩
  by_cases hs:∃ z,x=.str z
  ·obtain ⟨z,rfl⟩:=hs
   cases ht
   have hl:=hz z rfl
   have hc:=eQ z
   have ek:bP n (.str z)=dm n z.cps.toList:=rfl
   ac_nf
   refine ⟨trivial,Tg.str,rfl,?_⟩
   ac_nf
   obtain ⟨sl1,sl2⟩:=Mk.nj (c:=32) z.cps.toList
   refine ⟨rfl,by omega,32,rfl,fun p H1 hp s1 h1=>⟨_,.l h1,?_⟩⟩
   rw [List.length_map]
   by_cases h2:(Mk.aQ 32 z.cps.toList).length<=n
   ·rw [decide_eq_true (show ((Mk.aQ 32 z.cps.toList).length:Int)<=(n:Int) by omega)]
    bv_omega
    refine .inl ⟨⟨_,.of h1⟩,wO (fun w:List Nat=>V.str (tx w)) (fun a b e=>qw (V.str.inj e)) (fU (.of h1)) (aq (by omega)) (fun w=>.bl (bL 20 w)) ?_ ?_⟩
    ·intro w hw H2 s2 R hR
     have hwl:=sl2 w hw
     ac_nf
     refine ⟨_,Tg.str,20,rfl,rfl,(fun y e=>by cases e;rw [aY];omega),by decide,fun H3 s3=>?_⟩
     have e:dG 20 (.str (tx w))=bL 20 w:=by show bL 20 (tx w).cps.toList=_;rw [df]
     rw [e]
     exact hR H3 s3
    ·intro D H2 hD s2 h2'
     refine ⟨D,(Mk.aQ 32 z.cps.toList).map (bL 20),rfl,.of (by rw [h2',List.map_map];rfl),?_⟩
     have e:((Mk.aQ 32 z.cps.toList).map (bL 20)).all id=bP n (.str z):=by
      rw [ek]
      unfold dm
      rw [decide_eq_true h2,List.all_map];rfl
     rw [e]
     exact k H2 (s1.trans s2)
   ·have e:bP n (.str z)=false:=by rw [ek];unfold dm;rw [decide_eq_false h2];rfl
    rw [e] at k
    rw [decide_eq_false (show ¬ ((Mk.aQ 32 z.cps.toList).length:Int)<=(n:Int) by omega)]
    bv_omega
    exact k H1 s1
  ·have hv:bP n x=false:=by
    cases x with
    | str z=>exact absurd ⟨z,rfl⟩ hs
    | _=>rfl
   have hne:=lD ht fun z e=>hs ⟨z,e⟩
   rw [hv] at k
   ac_nf
   refine ⟨trivial,t,ht,?_⟩
   cases t <;> first
    | exact absurd rfl hne
    | exact k H (ao.refl _)
def cq (Ad:Ads):Sp:=fun vs H Q _=>∃ (b ca dn de f:Addr) (es:List Ben) (al:List Nat) (ws:List Int) (r n:Int),vs=[.ref b,.ref f]/\bK Ad H b ca dn de es/\dZ Ad H ca al ws r/\fH al ws r/\jW n9 Ad.tb H f/\lF (es.map (·.num)) n/\n < eV al ws/\∀ H',ao H H'->Q (.int n) H'
theorem dq:aD ["self","is_barred","k"] ["self","is_barred"] (ag bz):=⟨rfl,rfl,rfl,by decide +kernel,rfl,by decide +kernel,by decide +kernel⟩
theorem jf {f:Addr}{fd:FuncData} (F:Fun K "least_free" "Book.least_free" bz f fd) (T:Bl mg) (AF:AdF K mg Ad) (M_Code_many:Mtd P w K mg base (CX1 P w) Ad.Code "many" 1 ["self"] (cW Ad)):aW P w K mg base (CX1 P w) 2 f fd ["self","is_barred"] (cq Ad):=by
 refine F.okX (k:=1) dq (fun vs H Q E h=>?_) (fun cdv A outer s H vs Q E hr h=>?_)
 ·obtain ⟨b,ca,dn,de,f,es,al,ws,r,n,rfl,_⟩:=h
  rfl
 ·obtain ⟨b,ca,dn,de,f,es,al,ws,r,n,rfl,B,C,ok,Fb,Lf,hn,k⟩:=h
  obtain ⟨dx,h1⟩:=B.bk
  have hu:=hr.aM
  have hu1:=aZ hr
  refine ⟨_,af (aw (i:=2) dq.nd (ak)) (af (mT PassesOwn.leaving ((gM (aE (jg (K:=K) rfl hu1) (pvL 2) (cn (K:=K) rfl (pvL 0)) (by kernel_rfl)) (fR (bT (mP (q:=n9) (Pt:=Ad.tb) (pvL 1) hr (ah (pvL 2) (ae)))))).pt) (ai (aw (i:=2) dq.nd (aI aR (pvL 2) (ak))))) (af (aS (aE (yS (K:=K) rfl hu) (pvL 2) (fE M_Code_many au (hr.mono (by decide)) (cn (K:=K) rfl (pvL 0))) (aH _)) (ai (cO PySem.F.excBase_ValueError AF.q_TooMany AF.g_TooMany bZ rfl (ah (aB) (ae)))) (aK)) (ai (aF (pvL 2))))),?_⟩
  refine ar fun nn hN=>?_
  and_intros
  rw [hN]
  clear hN nn
  refine ar fun nn hN=>?_
  and_intros
  refine qy (fun σ H'=>∃ k:Int,0<=k/\k<=n/\σ=[some (V.ref b),some (V.ref f),some (V.int k)]/\H'=H) (fun σ _=>match σ with | [_,_,some (V.int k)]=>(n - k).toNat | _=>0) ⟨0,by decide,Lf.1,rfl,rfl⟩ ?_
  rintro σ H' ⟨j,j0,jn,rfl,rfl⟩
  and_intros
  refine ⟨_,dx,_,_,h1,AF.c_Book,AF.n_Book_by_number,ef ca dn de,?_⟩
  refine .inr ⟨_,.inl ⟨_,.inl j,.inl B.hn,rfl,rfl⟩,?_⟩
  rw [CH B.nn]
  by_cases hm:j∈es.map (·.num)
  ·rw [decide_eq_true hm,if_pos rfl]
   have jl:j≠n:=fun e=>Lf.2.1 (by rw [← e];exact hm)
   refine ⟨fun σ G=>σ=[some (V.ref b),some (V.ref f),some (V.int (j + 1))]/\G=H',?_,rfl,rfl⟩
   rintro σ G ⟨rfl,rfl⟩
   exact ⟨⟨j + 1,by omega,by omega,rfl,rfl⟩,show (n - (j + 1)).toNat < (n - j).toNat by omega⟩
  ·rw [decide_eq_false hm,if_neg (by decide)]
   have je:j=n:=by
    rcases Int.lt_or_eq_of_le jn with h | h
    ·exact absurd (Lf.2.2 j j0 h) hm
    ·exact h
   subst je
   refine ⟨Fb,Fb,trivial,?_⟩
   rw [hN]
   clear hN nn
   obtain ⟨dc,qc,hc1,hc2⟩:=id C
   refine ar fun nn hN=>?_
   and_intros
   refine ⟨_,dx,_,_,h1,AF.c_Book,AF.n_Book_basis,ip ca dn de,?_⟩
   refine ⟨dc,_,hc1,fN (by decide) (by decide) (by decide) al qc r,ca,al,ws,r,rfl,C,ok.a26,by have:=ok.w3;omega,ok.w8,fun G1 t1=>?_⟩
   and_intros
   rw [decide_eq_false (show ¬ (al.length:Int) ^ (ws.length - 1)<=j by have:j < (al.length:Int) ^ (ws.length - 1):=hn;omega)]
   bv_omega
   show nn _ _ _
   rw [hN]
   clear hN nn
   and_intros
   exact k G1 t1
theorem uU {m:Nat}{a:Int}:decide (((Nat.gcd a.natAbs m:Nat):Int)=1)=Mk.cop m a:=by
 unfold Mk.cop
 rw [decide_eq_decide]
 show ((Nat.gcd a.natAbs m:Nat):Int)=1 ↔ Nat.gcd a.natAbs m=1
 omega
theorem Ab {m a b:Int}:Mk.cop m (a - b)=Mk.cop m (b - a):=by
 unfold Mk.cop
 congr 1
 rw [show b - a=-(a - b) by omega]
 simp
def gA:Sp:=fun vs H Q _=>∃ (p:Addr) (fnd:List Int) (m:Nat) (n:Int),vs=[.ref p,.int m,.int n]/\H p=some (.lst (fnd.map V.int))/\fnd.length<=8/\3<=m/\m<=26/\m % 2=1/\0<=n/\(∀ x∈fnd,0<=x/\x < (m:Int))/\Mk.safe m fnd=true ∧
 ∀ q (x n':Int) H',H q=none->ao H H'->H' q=some (.lst [.int x,.int n'])->0<=x/\x < (m:Int)->Mk.safe m (fnd++[x])=true->0<=n'->Q (.ref q) H'
theorem gy:aD ["_law_weights","_law_m","_law_number","_law_some"] ["_law_weights","_law_m","_law_number"] (ag cT):=⟨rfl,rfl,rfl,by decide +kernel,rfl,by decide +kernel,by decide +kernel⟩
theorem nC {f:Addr}{fd:FuncData} (F:Fun K "_law_weight" "_law_weight" cT f fd) (T:Bl mg) (AF:AdF K mg Ad) (C_law_divisor:Fnc P w K mg base (CX1 P w) 1 "_law_divisor" ["_law_one","_law_other"] fY):aW P w K mg base (CX1 P w) 2 f fd ["_law_weights","_law_m","_law_number"] gA:=by
 refine F.okX (k:=1) gy (fun vs H Q E h=>?_) (fun cdv A outer s H vs Q E hr h=>?_)
 ·obtain ⟨p,fnd,m,n,rfl,_⟩:=h
  rfl
 ·obtain ⟨p,fnd,m,n,rfl,hp,f8,m3,m26,mo,hn,hb,hs,k⟩:=h
  have hu:=hr.aM
  have hu1:=aZ hr
  refine ⟨_,af (mS (i:=3) ["_law_weight_here"] gy.nd rfl (Or.inl rfl) rfl ⟨rfl,by decide +kernel,rfl,by decide +kernel⟩ (.cons (j:=1) rfl (.inl (by kernel_rfl)) (.nil)) (by decide +kernel) (ji T.range (ah (ak) (ah (pvC 1) (ae)))) (fun _ _ _ _=>aL (i:=0) (show (["_law_weight_here","_law_m"]:List Str).Nodup from by decide +kernel)) (fun _ _ _ _=>lC (aE (bS (K:=K) rfl hu) (ax C_law_divisor gw (hr.mono (by decide)) (ah (pvL 0) (ah (pvC 1) (ae)))) (ak) (aH _))) (fun _ _ _ _=>pvL 0)) (af (aS (aE (iy (K:=K) rfl hu) (pvC 0) (bh (ae)) (aH _)) (ai (mS (i:=3) ["_law_weight_here"] gy.nd rfl (Or.inl rfl) rfl ⟨rfl,by decide +kernel,rfl,by decide +kernel⟩ (.cons (j:=1) rfl (.inl (by kernel_rfl)) (.cons (j:=0) rfl (.inl (by kernel_rfl)) (.nil))) (by decide +kernel) (dN (K:=K) rfl (pvL 3)) (fun _ _ _ _=>aL (i:=0) (show (["_law_weight_here","_law_m","_law_weights"]:List Str).Nodup from by decide +kernel)) (fun _ _ _ _=>lC (aE (bS (K:=K) rfl hu) (ax C_law_divisor gw (hr.mono (by decide)) (ah (aI qd (bp (cH (K:=K) rfl) (pvC 2) (jF ia (ak)) (fun _ _=>rfl)) (pvL 0)) (ah (pvC 1) (ae)))) (ak) (aH _))) (fun _ _ _ _=>pvL 0))) (aK)) (ai (aF (bh (ah (bp (cH (K:=K) rfl) (pvL 3) (aI bc (pvL 2) (aj (aJ (K:=K) rfl) T.len aU (ah (pvL 3) (ae)))) (fun _ _=>rfl)) (ah (aI bU (pvL 2) (aj (aJ (K:=K) rfl) T.len aU (ah (pvL 3) (ae)))) (ae))))))),?_⟩
  have big:∀ {u:Nat},u<=1000->u<=sizeLine:=fun hu=>Nat.le_of_lt (aq (by omega))
  have fin:∀ (D:Addr) (S:List Int) (H':Hp),ao H H'->H' D=some (.lst (S.map V.int))->S.length<=26->(∀ w,w∈S ↔ (0<=w/\w < (m:Int))/\Mk.cop m w=true/\(fnd=[] ∨ Mk.cop m (w - fnd.getLastD 0)=true))->∃ x∈S,S.length≠0/\∀ y∈S,(0<=y/\y < (m:Int))/\Mk.safe m (fnd++[y])=true:=by
   intro D S H' _ _ _ hm
   have hne:=Mk.xY (m:=(m:Int)) (by omega) (by omega) (by omega) hb (Mk.rY.mp hs).1
   obtain ⟨x,hx⟩:=List.exists_mem_of_ne_nil _ hne
   have hx':x∈S:=by
    unfold Mk.wj at hx
    obtain ⟨h1,h2⟩:=List.mem_filter.mp hx
    rw [Bool.and_eq_true,Bool.or_eq_true] at h2
    exact (hm x).mpr ⟨Mk.iI.mp h1,h2.1,h2.2.imp (fun e=>List.isEmpty_iff.mp e) id⟩
   refine ⟨x,hx',fun e=>?_,fun y hy=>?_⟩
   ·rw [List.length_eq_zero_iff.mp e] at hx';cases hx'
   ·obtain ⟨h1,h2,h3⟩:=(hm y).mp hy
    exact ⟨h1,Mk.xq hs h2 h3⟩
  refine ar fun nn hN=>?_
  and_intros
  refine ⟨⟨by decide,by decide,by omega,by omega⟩,As (fun k:Nat=>V.int (1 + (k:Int))) (fun x y e=>by have:=V.int.inj e;omega) oP (by rw [List.length_range];exact aq (by omega)) (fun k=>Mk.cop m (1 + (k:Int))) (fun k=>V.int (1 + (k:Int))) ?_ ?_ ?_⟩
  ·intro x hx H5 t5 R hR
   and_intros
   refine ⟨1 + (x:Int),m,rfl,?_⟩
   and_intros
   rw [uU]
   exact hR H5 (ao.refl _)
  ·intro x hx hpr H5 t5 R hR
   and_intros
   exact hR H5 (ao.refl _)
  intro D H1 hD s1 h1
  have h1':H1 D=some (.lst ((((List.range ((m:Int) - 1).toNat).filter fun (k:Nat)=>Mk.cop m (1 + (k:Int))).map fun (k:Nat)=>1 + (k:Int)).map V.int)):=by rw [h1,List.map_map];rfl
  have hm1:∀ w,w∈((List.range ((m:Int) - 1).toNat).filter fun (k:Nat)=>Mk.cop m (1 + (k:Int))).map (fun (k:Nat)=>1 + (k:Int)) ↔ (0<=w/\w < (m:Int))/\Mk.cop m w=true:=by
   intro w
   constructor
   ·intro h
    obtain ⟨k,hk,rfl⟩:=List.mem_map.mp h
    obtain ⟨h1,h2⟩:=List.mem_filter.mp hk
    have:=List.mem_range.mp h1
    exact ⟨by omega,h2⟩
   ·rintro ⟨h1,h2⟩
    have h0:w≠0:=fun e=>by
     subst e
     have h2':decide (Int.gcd 0 (m:Int)=1)=true:=h2
     rw [Int.zero_gcd] at h2'
     have:=of_decide_eq_true h2'
     omega
    have hw:1 + (((w - 1).toNat:Nat):Int)=w:=by omega
    exact List.mem_map.mpr ⟨(w - 1).toNat,List.mem_filter.mpr ⟨List.mem_range.mpr (by omega),by rw [hw];exact h2⟩,hw⟩
  have hl1:(((List.range ((m:Int) - 1).toNat).filter fun (k:Nat)=>Mk.cop m (1 + (k:Int))).map (fun (k:Nat)=>1 + (k:Int))).length<=26:=by
   rw [List.length_map]
   refine Nat.le_trans (List.length_filter_le _ _) ?_
   rw [List.length_range];omega
  clear h1
  generalize ((List.range ((m:Int) - 1).toNat).filter fun (k:Nat)=>Mk.cop m (1 + (k:Int))).map (fun (k:Nat)=>1 + (k:Int))=S at h1' hm1 hl1
  rw [hN]
  clear hN nn
  refine ly (fun σ H'=>∃ (D:Addr) (S:List Int),σ=[some (V.ref p),some (V.int m),some (V.int n),some (V.ref D)]/\ao H H'/\H' D=some (.lst (S.map V.int))/\S.length<=26/\(∀ w,w∈S ↔ (0<=w/\w < (m:Int))/\Mk.cop m w=true/\(fnd=[] ∨ Mk.cop m (w - fnd.getLastD 0)=true))) ?_ ?_
  ·rintro σ H2 ⟨D2,S2,rfl,s2,h2,l2,m2⟩
   obtain ⟨x,hx,hne,hall⟩:=fin D2 S2 H2 s2 h2 l2 m2
   have i0:=Int.emod_nonneg n (b:=(S2.length:Int)) (by omega)
   have i1:=Int.emod_lt_of_pos n (b:=(S2.length:Int)) (by omega)
   have hat:S2[(n % (S2.length:Int)).toNat]?=some (S2[(n % (S2.length:Int)).toNat]'(by omega)):=List.getElem?_eq_getElem _
   generalize S2[(n % (S2.length:Int)).toNat]'(by omega)=y at hat
   obtain ⟨y1,y2⟩:=hall y (List.mem_of_getElem? hat)
   and_intros
   refine ⟨_,.inl (.of h2),?_⟩
   rw [List.length_map]
   refine ⟨by omega,_,_,.inl (.of h2),bM i0 (by rw [List.getElem?_map,hat];rfl),_,.inl (.of h2),?_⟩
   rw [List.length_map]
   refine ⟨⟨by omega,Int.lt_trans (show (S2.length:Int) < 1000 by omega) (by decide)⟩,big (by decide),fun q H3 hq s3 h3=>k q y _ H3 (s2.free hq) (s2.trans s3) h3 y1 y2 (Int.ediv_nonneg hn (by omega))⟩
  ·intro U hU
   and_intros
   refine ⟨Nat.zero_le _,fun p1 H2 hp1 s2 h2=>⟨_,_,.of ((s1.trans s2) _ _ hp),.of h2,wF fnd,rfl,?_⟩⟩
   have s12:=s1.trans s2
   cases hf:fnd with
   | nil =>
    rw [if_neg (by rw [show kX (([]:List Int).map V.int) []=true from rfl];decide)]
    exact hU _ _ ⟨D,S,rfl,s12,s2 _ _ h1',hl1,fun w=>by rw [hm1 w];exact ⟨fun ⟨a,b⟩=>⟨a,b,.inl hf⟩,fun ⟨a,b,_⟩=>⟨a,b⟩⟩⟩
   | cons x y =>
    have hlast:(fnd.map V.int).getLast?=some (.int (fnd.getLastD 0)):=by
     rw [List.getLast?_map,List.getLastD_eq_getLast?,hf,List.getLast?_cons];rfl
    have hne:fnd≠[]:=by rw [hf];simp
    rw [if_pos (by simp [kX])]
    refine .inl ⟨⟨_,.of (s2 _ _ h1')⟩,As V.int iH (fU (.of (s2 _ _ h1'))) (aq (by omega)) (fun w=>Mk.cop m (w - fnd.getLastD 0)) V.int ?_ ?_ ?_⟩
    ·intro x hx H5 t5 R hR
     and_intros
     refine ⟨_,_,.inl (.of (t5 _ _ (s12 _ _ hp))),iF hlast,?_⟩
     and_intros
     refine ⟨fnd.getLastD 0 - x,m,rfl,?_⟩
     and_intros
     rw [uU,Ab]
     exact hR H5 (ao.refl _)
    ·intro x hx hpr H5 t5 R hR
     and_intros
     exact hR H5 (ao.refl _)
    intro D3 H3 hD3 s3 h3
    refine hU _ _ ⟨D3,_,rfl,s12.trans s3,h3,Nat.le_trans (List.length_filter_le _ _) hl1,fun w=>?_⟩
    rw [List.mem_filter,hm1 w]
    constructor
    ·rintro ⟨⟨a,b⟩,c⟩
     exact ⟨a,b,.inr c⟩
    ·rintro ⟨a,b,c⟩
     exact ⟨⟨a,b⟩,c.resolve_left hne⟩
def dU:Sp:=fun vs H Q _=>∃ (n:Int) (j:Nat),vs=[.int n,.int j]/\0<=n/\j<=6/\∀ p (ws:List (List Nat)) H',ws.length=j->(∀ w∈ws,1<=w.length/\w.length<=20/\∀ c∈w,97<=c/\c < 123)->H p=none->ao H H'->H' p=some (.lst (ws.map fun w=>.str (tx w)))->Q (.ref p) H'
theorem bV:aD ["_law_number","_law_many","_law_words_here","_law_k","_law_word_here"] ["_law_number","_law_many"] (ag bJ):=⟨rfl,rfl,rfl,by decide +kernel,rfl,by decide +kernel,by decide +kernel⟩
theorem jD {f:Addr}{fd:FuncData} (F:Fun K "_law_some_words" "_law_some_words" bJ f fd) (T:Bl mg) (AF:AdF K mg Ad) (C_law_word:Fnc P w K mg base (CX1 P w) 1 "_law_word" ["_law_number"] fb):aW P w K mg base (CX1 P w) 2 f fd ["_law_number","_law_many"] dU:=by
 refine F.okX (k:=1) bV (fun vs H Q E h=>?_) (fun cdv A outer s H vs Q E hr h=>?_)
 ·obtain ⟨n,j,rfl,_⟩:=h
  rfl
 ·obtain ⟨n,j,rfl,hn,hj,k⟩:=h
  have hu:=hr.aM
  have hu1:=aZ hr
  refine ⟨_,af (aw (i:=2) bV.nd (bh (ae))) (af (fj PassesOwn.leaving rfl (eB T.range (ah (pvL 1) (ae))) (aL (i:=3) bV.nd) (af (tO (ax C_law_word au (hr.mono (by decide)) (ah (pvL 0) (ae))) (qg (K:=K) (n:=2) rfl rfl (bu (aL (i:=4) bV.nd) (bu (aL (i:=0) bV.nd) (gf))))) (ai (di (cI (K:=K) rfl PySem.F.plainAttrs_list PySem.F.slot_list_append PySem.F.type_list_append fD (pvL 2) (ah (pvL 4) (ae))))))) (ai (aF (pvL 2)))),?_⟩
  refine ar fun nn hN=>?_
  and_intros
  refine ⟨Nat.zero_le _,fun p H1 hp s1 h1=>?_⟩
  rw [hN]
  clear hN nn
  refine ar fun nn hN=>?_
  and_intros
  refine ⟨by omega,by omega,?_⟩
  refine gH (n:=j) (fun i σ H'=>∃ (ws:List (List Nat)) (n':Int) (o3 o4:Option V),σ=[some (.int n'),some (.int (j:Int)),some (.ref p),o3,o4]/\0<=n'/\ws.length=i/\(∀ w∈ws,1<=w.length/\w.length<=20/\∀ c∈w,97<=c/\c < 123)/\(∀ b o,b≠p->H1 b=some o->H' b=some o)/\H' p=some (.lst (ws.map fun w=>.str (tx w)))) ?_ ?_ ?_
  ·exact ⟨[],n,none,none,rfl,hn,rfl,(fun _ h=>nomatch h),fun _ _ _ h=>h,h1⟩
  ·rintro i σ H2 hi ⟨ws,n',o3,o4,rfl,hn',hwl,hw,f1,f2⟩ N hNx
   clear hN
   and_intros
   rw [cY]
   and_intros
   refine ⟨n',rfl,hn',fun q w n2 H3 w1 w2 w3 hn2 hq s3 h3=>?_⟩
   and_intros
   refine ⟨_,.l h3,rfl,?_⟩
   have f2':=s3 _ _ f2
   and_intros
   refine ⟨.inl ⟨rfl,_,.of f2'⟩,p,_,_,rfl,rfl,f2',?_,hNx _ _ ⟨ws++[w],n2,_,_,rfl,hn2,?_,?_,fun b o hb e=>?_,?_⟩⟩
   ·rw [List.length_map];exact aq (by omega)
   ·rw [List.length_append,List.length_singleton];omega
   ·intro w' hw'
    rcases List.mem_append.mp hw' with hw' | hw'
    ·exact hw w' hw'
    ·rw [List.mem_singleton.mp hw'];exact ⟨w1,w2,w3⟩
   ·rw [av hb];exact s3 _ _ (f1 b o hb e)
   ·rw [ay,List.map_append];rfl
  ·rintro σ H2 ⟨ws,n',o3,o4,rfl,hn',hwl,hw,f1,f2⟩
   show nn _ _ _
   rw [hN]
   and_intros
   refine k p ws H2 hwl hw hp (fun b o e=>f1 b o (fun e2=>by rw [← e2,e] at hp;cases hp) (s1 b o e)) f2
def hX (K:PySem.W.Frag):Sp:=fun vs H Q _=>∃ (cl:Addr) (ns:List Int) (st:Int),vs=[.ref cl,.int st]/\SqL K H cl (ns.map V.int)/\ns.length<=60/\∀ p (ws:List (List Nat)) H',H p=none->ao H H'->H' p=some (.lst (ws.map fun w=>V.str (tx w)))->ws.length=ns.length->(∀ w∈ws,fJ w)->Q (.ref p) H'
theorem fv:aD ["_law_cells","_law_start","_law_words_here","_law_k","_law_cell"] ["_law_cells","_law_start"] (ag d9):=⟨rfl,rfl,rfl,by decide +kernel,rfl,by decide +kernel,by decide +kernel⟩
theorem pU {f:Addr}{fd:FuncData} (F:Fun K "_law_words" "_law_words" d9 f fd) (T:Bl mg) (AF:AdF K mg Ad) (C_law_word:Fnc P w K mg base (CX1 P w) 1 "_law_word" ["_law_number"] fb) (C_law_mixed:Fnc P w K mg base (CX1 P w) 1 "_law_mixed" ["_law_cell"] cX):aW P w K mg base (CX1 P w) 2 f fd ["_law_cells","_law_start"] (hX K):=by
 refine F.okX (k:=1) fv (fun vs H Q E h=>?_) (fun cdv A outer s H vs Q E hr h=>?_)
 ·obtain ⟨cl,ns,st,rfl,_⟩:=h
  rfl
 ·obtain ⟨cl,ns,st,rfl,hS,hlen,k⟩:=h
  have hu:=hr.aM
  have hu1:=aZ hr
  refine ⟨_,af (aw (i:=2) fv.nd (bh (ae))) (af (fj PassesOwn.leaving rfl (jH (K:=K) rfl T.enumerate (ah (pvL 0) (ae))) (jG (K:=K) (n:=2) rfl rfl (bu (aL (i:=3) fv.nd) (bu (aL (i:=4) fv.nd) (gf)))) (ai (di (cI (K:=K) rfl PySem.F.plainAttrs_list PySem.F.slot_list_append PySem.F.type_list_append fD (pvL 2) (ah (bp (cH (K:=K) rfl) (ax C_law_word au (hr.mono (by decide)) (ah (ax C_law_mixed au (hr.mono (by decide)) (ah (aI aR (aI aR (aI iJ (ak) (pvL 4)) (pvL 1)) (pvL 3)) (ae))) (ae))) (ak) (fun _ _=>rfl)) (ae)))))) (ai (aF (pvL 2)))),?_⟩
  refine ar fun nn hN=>?_
  and_intros
  refine ⟨Nat.zero_le _,fun D H1 hD s1 h1=>?_⟩
  rw [hN]
  clear hN nn
  refine ar fun nn hN=>?_
  and_intros
  refine ⟨cl,rfl,⟨_,s1.seq hS⟩,?_⟩
  refine kh (xs:=ns.map V.int) (fun i σ H'=>∃ (ws:List (List Nat)) (o3 o4:Option V),σ=[some (V.ref cl),some (V.int st),some (V.ref D),o3,o4]/\ao H H'/\H' D=some (.lst (ws.map fun w=>V.str (tx w)))/\ws.length=i/\∀ w∈ws,fJ w) ?_ ?_ ?_ ?_
  ·exact ⟨[],_,_,rfl,s1,h1,rfl,fun w h=>by cases h⟩
  ·rintro i σ H' _ ⟨ws,o3,o4,_,sH,_⟩
   exact sH.seq hS
  ·rintro i x σ A1 hx ⟨ws,o3,o4,rfl,sA,hA,lw,hw⟩ N hNx p A2 zp t2 h2
   clear hN
   obtain ⟨c1,hci,rfl⟩:=rA hx
   have hi:i < ns.length:=(List.getElem?_eq_some_iff.mp hci).1
   refine ⟨p,_,rfl,.of h2,rfl,?_⟩
   clear zp h2
   have hA2:=t2 _ _ hA
   and_intros
   refine ⟨.inl ⟨rfl,_,.of hA2⟩,.inl (by decide),_,rfl,?_⟩
   have hmx:0<=m9 (64 * c1 + st + (i:Int)):=pI _
   generalize m9 (64 * c1 + st + (i:Int))=nu at hmx
   refine ⟨nu,rfl,hmx,fun q w n' G1 l1 l2 l3 n0 hq t3 g3=>⟨_,_,.inl (.of g3),bM (by decide) rfl,D,_,_,rfl,rfl,t3 _ _ hA2,by rw [List.length_map];exact aq (by omega),?_⟩⟩
   rw [show (ws.map fun w=>V.str (tx w))++[V.str (tx w)]=(ws++[w]).map fun w=>V.str (tx w) by rw [List.map_append];rfl]
   exact hNx _ _ ⟨ws++[w],_,_,rfl,(sA.trans (t2.trans t3)).bD hD,ay,by rw [List.length_append];show ws.length + 1=_;omega,fun u hu=>(List.mem_append.mp hu).elim (hw u) fun h=>by rw [List.mem_singleton.mp h];exact ⟨l1,l2,l3⟩⟩
  rintro σ H2 ⟨ws,o3,o4,rfl,s2,h2,lw,hw⟩
  show nn _ _ _
  rw [hN]
  clear hN nn
  and_intros
  exact k D ws H2 hD s2 h2 (by rw [List.length_map] at lw;exact lw) hw
def ck (H:Hp) (m:Int):V->Bool
 | .ref p=>match H p with
  | some (.lst xs)=>decide (3<=xs.length) && decide (xs.length<=8) && xs.all (bo m)
  | _=>false
 | _=>false
def fW:Sp:=fun vs H Q _=>∃ (x:V) (t:Tg) (m:Int),vs=[x,.int m]/\cP H x=some t/\(∀ p o u,x=.ref p->H p≠some (.frz o u))/\(∀ p xs,x=.ref p->H p=some (.lst xs)->xs.length<=1000/\∀ y∈xs,∃ t,cP H y=some t) ∧
 ∀ H',ao H H'->Q (.bl (ck H m x)) H'
theorem nc:aD ["thing","m"] ["thing","m"] (ag cB):=⟨rfl,rfl,rfl,by decide +kernel,rfl,by decide +kernel,by decide +kernel⟩
theorem mH {f:Addr}{fd:FuncData} (F:Fun K "are_weights" "are_weights" cB f fd) (T:Bl mg) (AF:AdF K mg Ad) (C_is_below:Fnc P w K mg base (CX1 P w) 2 "is_below" ["thing","bound"] dD):aW P w K mg base (CX1 P w) 3 f fd ["thing","m"] fW:=by
 refine F.okX (k:=2) nc (fun vs H Q E h=>?_) (fun cdv A outer s H vs Q E hr h=>?_)
 ·obtain ⟨x,t,m,rfl,_⟩:=h
  rfl
 ·obtain ⟨x,t,m,rfl,ht,hfz,hit,k⟩:=h
  have hu:=hr.aM
  have hu1:=aZ hr
  refine ⟨_,af (aS ((gM (bO (bT (aj (bY .lst) T.isinstance bt_isinstance (ah (pvL 0) (ah (fi T.list pe) (ae)))))) (fR (bO (mU gv gv (ak) (aj (aJ (K:=K) rfl) T.len aU (ah (pvL 0) (ae))) (ak))))).pt) (ai (aF (dg))) (aK)) (ai (aF (aj (fB (K:=K) rfl rfl) T.all ke (ah (iT ["weight"] rfl ⟨rfl,by decide +kernel,rfl,by decide +kernel⟩ (.cons (j:=1) rfl (.inl (by kernel_rfl)) (.nil)) (by decide +kernel) (dN (K:=K) rfl (pvL 0)) (fun _ _ _ _=>aL (i:=0) (show (["weight","m"]:List Str).Nodup from by decide +kernel)) (fun _ _ _ _=>fq) (fun _ _ _ _=>ax C_is_below gw (hr.mono (by decide)) (ah (pvL 0) (ah (pvC 1) (ae))))) (ae))))),?_⟩
  by_cases hs:∃ p xs,x=.ref p/\H p=some (.lst xs)
  ·obtain ⟨p,xs,rfl,hp⟩:=hs
   obtain ⟨hl,hty⟩:=hit p xs rfl hp
   have et:t=Tg.lst:=by
    have:gB (H p)=some t:=ht
    rw [hp] at this;cases this;rfl
   subst et
   have ek:ck H m (.ref p)=(decide (3<=xs.length) && decide (xs.length<=8) && xs.all (bo m)):=by
    show (match H p with | some (.lst xs)=>_ | _=>false)=_
    rw [hp]
   rw [ek] at k
   ac_nf
   refine ⟨trivial,Tg.lst,ht,?_⟩
   ac_nf
   refine ⟨_,.l hp,?_⟩
   by_cases h3:3<=xs.length
   ·rw [decide_eq_true h3,Bool.true_and] at k
    rw [decide_eq_true (show (3:Int)<=(xs.length:Int) by omega)]
    bv_omega
    by_cases h8:xs.length<=8
    ·rw [decide_eq_true h8,Bool.true_and] at k
     rw [decide_eq_true (show (xs.length:Int)<=8 by omega)]
     bv_omega
     refine .inl ⟨⟨_,.of hp⟩,CA (xs:=xs) (fU (.of hp)) (aq (by omega)) (fun y=>.bl (bo m y)) ?_ ?_⟩
     ·intro y hy H2 s2 R hR
      obtain ⟨ty,hty⟩:=hty y hy
      have hty2:cP H2 y=some ty:=dX s2 hty
      ac_nf
      refine ⟨y,ty,m,rfl,hty2,?_⟩
      exact hR H2 (ao.refl _)
     ·intro D H2 hD s2 h2
      refine ⟨D,xs.map (bo m),rfl,.of (by rw [h2,List.map_map];rfl),?_⟩
      have e:(xs.map (bo m)).all id=xs.all (bo m):=by rw [List.all_map];rfl
      rw [e]
      exact k H2 s2
    ·rw [decide_eq_false h8,Bool.false_and] at k
     rw [decide_eq_false (show ¬ (xs.length:Int)<=8 by omega)]
     bv_omega
     exact k H (ao.refl _)
   ·rw [decide_eq_false h3,Bool.false_and,Bool.false_and] at k
    rw [decide_eq_false (show ¬ (3:Int)<=(xs.length:Int) by omega)]
    bv_omega
    exact k H (ao.refl _)
  ·have hv:ck H m x=false:=by
    cases x with
    | ref p =>
     show (match H p with | some (.lst xs)=>_ | _=>false)=_
     split
     ·rename_i xs hp;exact absurd ⟨p,xs,rfl,hp⟩ hs
     ·rfl
    | _=>rfl
   have hne:t≠Tg.lst:=fun e=>by
    subst e
    cases x with
    | ref a =>
     have h':gB (H a)=some .lst:=ht
     cases e:H a with
     | none=>rw [e] at h';cases h'
     | some o=>rw [e] at h';cases o with
      | lst xs=>exact hs ⟨a,xs,rfl,e⟩
      | frz ob u=>exact hfz a ob u rfl e
      | _=>cases h'
    | _=>cases ht
   rw [hv] at k
   ac_nf
   refine ⟨trivial,t,ht,?_⟩
   cases t <;> first
    | exact absurd rfl hne
    | exact k H (ao.refl _)
def gj:Sp:=fun vs H Q _=>∃ (x:V) (t:Tg),vs=[x]/\cP H x=some t/\(∀ p xs,x=.ref p->H p=some (.tup xs)->xs.length<=1000/\∀ y∈xs,(∃ t,cP H y=some t)/\∀ z,y=.str z->z.length<=10000)/\∀ H',ao H H'->Q (.bl (kj H x)) H'
theorem sf:aD ["thing"] ["thing"] (ag eF):=⟨rfl,rfl,rfl,by decide +kernel,rfl,by decide +kernel,by decide +kernel⟩
theorem rH {f:Addr}{fd:FuncData} (F:Fun K "is_entry" "is_entry" eF f fd) (T:Bl mg) (AF:AdF K mg Ad) (C_are_letters:Fnc P w K mg base (CX1 P w) 1 "are_letters" ["thing","most"] dQ) (C_are_words:Fnc P w K mg base (CX1 P w) 2 "are_words" ["thing","most"] fz):aW P w K mg base (CX1 P w) 3 f fd ["thing"] gj:=by
 refine F.okX (k:=2) sf (fun vs H Q E h=>?_) (fun cdv A outer s H vs Q E hr h=>?_)
 ·obtain ⟨x,t,rfl,_⟩:=h
  rfl
 ·obtain ⟨x,t,rfl,ht,hit,k⟩:=h
  have hu:=hr.aM
  have hu1:=aZ hr
  refine ⟨_,af (aS ((gM (bO (bT (aj (bY .tup) T.isinstance bt_isinstance (ah (pvL 0) (ah (fi T.tuple xV) (ae)))))) (gM (aE (bS (K:=K) rfl hu) (aj (aJ (K:=K) rfl) T.len aU (ah (pvL 0) (ae))) (ak) (aH _)) (fR (bO (bT (aj (bY .str) T.isinstance bt_isinstance (ah (bp (cH (K:=K) rfl) (pvL 0) (ak) (fun _ _=>rfl)) (ah (fi T.str pf) (ae))))))))).pt) (ai (aF (dg))) (aK)) (af (aS (aE (bS (K:=K) rfl hu) (aj (aJ (K:=K) rfl) T.len aU (ah (pvL 0) (ae))) (ak) (aH _)) (ai (aF (bC (bS (K:=K) rfl hu) (bp (cH (K:=K) rfl) (pvL 0) (ak) (fun _ _=>rfl)) (aB) (aH _)))) (aK)) (af (aS (aE (iy (K:=K) rfl hu) (aj (aJ (K:=K) rfl) T.len aU (ah (pvL 0) (ae))) (ak) (aH _)) (ai (aF (dg))) (aK)) (af (aS (aE (bS (K:=K) rfl hu) (bp (cH (K:=K) rfl) (pvL 0) (ak) (fun _ _=>rfl)) (aB) (aH _)) (ai (aF (ax C_are_words au (hr.mono (by decide)) (ah (bp (cH (K:=K) rfl) (pvL 0) (ak) (fun _ _=>rfl)) (ah (cx AF.v_MOST_PHRASE_WORDS) (ae)))))) (aK)) (ai (aF (fO (bC (bS (K:=K) rfl hu) (bp (cH (K:=K) rfl) (pvL 0) (ak) (fun _ _=>rfl)) (aB) (aH _)) (fQ (ax C_are_letters au (hr.mono (by decide)) (ah (bp (cH (K:=K) rfl) (pvL 0) (ak) (fun _ _=>rfl)) (ah (cx AF.v_MOST_PART_LETTERS) (ae))))))))))),?_⟩
  by_cases hs:∃ p xs,x=.ref p/\H p=some (.tup xs)
  ·obtain ⟨p,xs,rfl,hp⟩:=hs
   obtain ⟨hl,hty⟩:=hit p xs rfl hp
   have et:t=Tg.tup:=by
    have:gB (H p)=some t:=ht
    rw [hp] at this;cases this;rfl
   subst et
   have ek:kj H (.ref p)=dJ xs:=by
    show (match H p with | some (.tup xs)=>dJ xs | _=>false)=_
    rw [hp]
   rw [ek] at k
   have hT:Sq K H p xs:=.t hp
   rw [cY]
   and_intros
   refine ⟨trivial,Tg.tup,ht,?_⟩
   and_intros
   refine ⟨_,hT,?_⟩
   match xs,hT,hty,hl,k with
   | [],hT,hty,hl,k =>
    and_intros
    exact k H (ao.refl _)
   | v::r,hT,hty,hl,k =>
    rw [decide_eq_false (show ¬ (((v::r).length:Nat):Int)=0 by rw [List.length_cons];omega)]
    bv_omega
    have a0:atI (v::r) 0=some v:=gO (xs:=v::r) (j:=0) rfl
    refine ⟨_,v,hT,a0,?_⟩
    obtain ⟨⟨tv,htv⟩,hzv⟩:=hty v List.mem_cons_self
    by_cases hvs:∃ z,v=.str z
    ·obtain ⟨z,rfl⟩:=hvs
     refine ⟨Tg.str,rfl,?_⟩
     and_intros
     rw [cY]
     and_intros
     refine ⟨_,hT,?_⟩
     match r,hT,hty,hl,k with
     | [],hT,hty,hl,k =>
      and_intros
      rw [if_pos (by rfl)]
      refine ⟨_,_,hT,gO (xs:=[V.str z]) (j:=0) rfl,k H (ao.refl _)⟩
     | [y],hT,hty,hl,k =>
      rw [decide_eq_false (show ¬ ((([V.str z,y]:List V).length:Nat):Int)=1 by show ¬ (2:Int)=1;decide)]
      bv_omega
      obtain ⟨⟨ty,hty1⟩,hzy⟩:=hty y (List.mem_cons_of_mem _ List.mem_cons_self)
      have a0:atI [V.str z,y] 0=some (.str z):=gO (xs:=[V.str z,y]) (j:=0) rfl
      have a1:atI [V.str z,y] 1=some y:=gO (xs:=[V.str z,y]) (j:=1) rfl
      rw [cY]
      and_intros
      refine ⟨_,hT,?_⟩
      rw [if_neg (show ¬ (!decide ((([V.str z,y].length:Nat):Int)=2))=true by rw [show [V.str z,y].length=2 from rfl];decide)]
      rw [cY]
      and_intros
      refine ⟨_,_,hT,a0,?_⟩
      and_intros
      have ek2:dJ [.str z,y]=if z=("phrase":Str) then bP 6 y else if z=("part":Str) then dG 6 y else false:=rfl
      rw [ek2] at k
      by_cases e1:z=("phrase":Str)
      ·rw [if_pos e1] at k
       rw [decide_eq_true e1]
       bv_omega
       refine ⟨_,_,hT,a1,?_⟩
       exact ⟨y,ty,6,rfl,hty1,hzy,by decide,k⟩
      ·rw [if_neg e1] at k
       rw [decide_eq_false e1]
       bv_omega
       and_intros
       refine ⟨_,_,hT,a0,?_⟩
       and_intros
       by_cases e2:z=("part":Str)
       ·rw [if_pos e2] at k
        rw [decide_eq_true e2]
        bv_omega
        refine ⟨_,_,hT,a1,?_⟩
        exact ⟨y,ty,6,rfl,hty1,(fun w e=>by have:=hzy w e;omega),by decide,k⟩
       ·rw [if_neg e2] at k
        rw [decide_eq_false e2]
        bv_omega
        exact k H (ao.refl _)
     | y::y2::r,hT,hty,hl,k =>
      have hlen:(V.str z::y::y2::r).length=r.length + 3:=rfl
      rw [hlen,decide_eq_false (show ¬ (((r.length + 3:Nat)):Int)=1 by omega)]
      bv_omega
      rw [cY]
      and_intros
      refine ⟨_,hT,?_⟩
      rw [hlen,decide_eq_false (show ¬ (((r.length + 3:Nat)):Int)=2 by omega)]
      bv_omega
      exact k H (ao.refl _)
    ·have hv:dJ (v::r)=false:=by
      cases v with
      | str z=>exact absurd ⟨z,rfl⟩ hvs
      | _=>cases r with
       | nil=>rfl
       | cons y r=>cases r <;> rfl
     have hne:=lD htv fun z e=>hvs ⟨z,e⟩
     rw [hv] at k
     refine ⟨tv,htv,?_⟩
     cases tv <;> first
      | exact absurd rfl hne
      | exact k H (ao.refl _)
  ·have hv:kj H x=false:=by
    cases x with
    | ref p =>
     show (match H p with | some (.tup xs)=>dJ xs | _=>false)=_
     split
     ·rename_i xs hp;exact absurd ⟨p,xs,rfl,hp⟩ hs
     ·rfl
    | _=>rfl
   have hne:t≠Tg.tup:=fun e=>by
    subst e
    cases x with
    | ref a =>
     have h':gB (H a)=some .tup:=ht
     cases e:H a with
     | none=>rw [e] at h';cases h'
     | some o=>rw [e] at h';cases o with
      | tup xs=>exact hs ⟨a,xs,rfl,e⟩
      | frz ob u=>cases u <;> cases h'
      | _=>cases h'
    | _=>cases ht
   rw [hv] at k
   rw [cY]
   and_intros
   refine ⟨trivial,t,ht,?_⟩
   cases t <;> first
    | exact absurd rfl hne
    | exact k H (ao.refl _)
theorem jZ {b k:Int} (h0:0<=k) (h1:k < b):bo b (.int k)=true:=by
 show (decide (0<=k) && decide (k < b))=true
 rw [decide_eq_true h0,decide_eq_true h1];rfl
theorem vV {b:Int}{x:V} (h:bo b x=true):∃ k,x=.int k/\0<=k/\k < b:=by
 cases x with
 | int k =>
  have h':(decide (0<=k) && decide (k < b))=true:=h
  rw [Bool.and_eq_true,decide_eq_true_eq,decide_eq_true_eq] at h'
  exact ⟨k,rfl,h'⟩
 | _=>cases h
def eS (Ad:Ads):Sp:=fun vs H Q _=>∃ (b ca dn de:Addr) (es:List Ben) (al:List Nat) (ws:List Int) (r:Int) (x:V) (t:Tg),vs=[.ref b,x]/\bK Ad H b ca dn de es/\dZ Ad H ca al ws r/\fH al ws r/\cP H x=some t ∧
 (bo (eV al ws) x=false->∀ H',ao H H'->Q .non H')/\(∀ n,x=.int n->0<=n->n < eV al ws->n ∉ es.map (·.num)->∀ H',ao H H'->Q .non H')/\(∀ n,x=.int n->0<=n->n < eV al ws->∀ e∈es,e.num=n->∀ H',ao H H'->Q (.ref e.adr) H')
theorem nG:aD ["self","number"] ["self","number"] (ag cR):=⟨rfl,rfl,rfl,by decide +kernel,rfl,by decide +kernel,by decide +kernel⟩
theorem nA {f:Addr}{fd:FuncData} (F:Fun K "entry" "Book.entry" cR f fd) (T:Bl mg) (AF:AdF K mg Ad) (C_is_below:Fnc P w K mg base (CX1 P w) 2 "is_below" ["thing","bound"] dD) (M_Code_many:Mtd P w K mg base (CX1 P w) Ad.Code "many" 1 ["self"] (cW Ad)):aW P w K mg base (CX1 P w) 3 f fd ["self","number"] (eS Ad):=by
 refine F.okX (k:=2) nG (fun vs H Q E h=>?_) (fun cdv A outer s H vs Q E hr h=>?_)
 ·obtain ⟨b,ca,dn,de,es,al,ws,r,x,t,rfl,_⟩:=h
  rfl
 ·obtain ⟨b,ca,dn,de,es,al,ws,r,x,t,rfl,B,C,ok,ht,k1,k2,k3⟩:=h
  obtain ⟨dx,h1⟩:=B.bk
  have hu:=hr.aM
  have hu1:=aZ hr
  refine ⟨_,af (aS (bO (bT (ax C_is_below au (hr.mono (by decide)) (ah (pvL 1) (ah (fE M_Code_many au (hr.mono (by decide)) (cn (K:=K) rfl (pvL 0))) (ae)))))) (ai (aF (bg))) (aK)) (ai (aF (oM hu1 (cn (K:=K) rfl (pvL 0)) (pvL 1)))),?_⟩
  refine ar fun nn hN=>?_
  and_intros
  refine ⟨_,dx,_,_,h1,AF.c_Book,AF.n_Book_basis,ip ca dn de,?_⟩
  obtain ⟨dc,qc,hc1,hc2⟩:=id C
  refine ⟨dc,_,hc1,fN (by decide) (by decide) (by decide) al qc r,ca,al,ws,r,rfl,C,ok.a26,by have:=ok.w3;omega,ok.w8,fun G1 t1=>?_⟩
  refine ⟨x,t,_,rfl,dX t1 ht,?_⟩
  cases hb:bo ((al.length:Int) ^ (ws.length - 1)) x with
  | false =>
   and_intros
   exact k1 hb G1 t1
  | true =>
   and_intros
   rw [hN]
   clear hN nn
   obtain ⟨n,rfl,n0,n1⟩:=vV hb
   have B1:=B.same t1
   obtain ⟨dx1,h11⟩:=B1.bk
   and_intros
   refine ⟨_,dx1,_,_,h11,AF.c_Book,AF.n_Book_by_number,ef ca dn de,dn,rfl,.inl ⟨_,.inl B1.hn⟩,_,.inl ⟨_,.inl n,.inl B1.hn,rfl,rfl⟩,?_⟩
   by_cases hm:n∈es.map (·.num)
   ·obtain ⟨e,he,ee⟩:=List.mem_map.mp hm
    rw [← ee,pL B.nn he]
    exact k3 n rfl n0 n1 e he ee G1 t1
   ·rw [pK hm]
    exact k2 n rfl n0 n1 hm G1 t1
def hO:Sp:=fun vs H Q _=>∃ (x:V) (t:Tg),vs=[x]/\cP H x=some t/\(∀ z,x=.str z->z.length<=10000)/\∀ H',ao H H'->Q (.bl (bP 60 x)) H'
theorem tX:aD ["thing"] ["thing"] (ag fF):=⟨rfl,rfl,rfl,by decide +kernel,rfl,by decide +kernel,by decide +kernel⟩
theorem tI {f:Addr}{fd:FuncData} (F:Fun K "is_text" "is_text" fF f fd) (T:Bl mg) (AF:AdF K mg Ad) (C_are_words:Fnc P w K mg base (CX1 P w) 2 "are_words" ["thing","most"] fz):aW P w K mg base (CX1 P w) 3 f fd ["thing"] hO:=by
 refine F.okX (k:=2) tX (fun vs H Q E h=>?_) (fun cdv A outer s H vs Q E hr h=>?_)
 ·obtain ⟨x,t,rfl,_⟩:=h
  rfl
 ·obtain ⟨x,t,rfl,ht,hl,k⟩:=h
  have hu:=hr.aM
  have hu1:=aZ hr
  refine ⟨_,ai (aF (ax C_are_words au (hr.mono (by decide)) (ah (pvL 0) (ah (cx AF.v_MOST_WORDS) (ae))))),?_⟩
  ac_nf
  exact ⟨x,t,60,rfl,ht,hl,by decide,k⟩
def hV:Sp:=fun vs H Q _=>∃ n:Int,vs=[.int n]/\0<=n/\∀ p H',H p=none->ao H H'->qz H' p->Q (.ref p) H'
theorem dO:aD ["_law_number","_law_turn","_law_many"] ["_law_number"] (ag d4):=⟨rfl,rfl,rfl,by decide +kernel,rfl,by decide +kernel,by decide +kernel⟩
theorem pR {f:Addr}{fd:FuncData} (F:Fun K "_law_entry" "_law_entry" d4 f fd) (T:Bl mg) (AF:AdF K mg Ad) (C_law_some_words:Fnc P w K mg base (CX1 P w) 2 "_law_some_words" ["_law_number","_law_many"] dU) (C_law_word:Fnc P w K mg base (CX1 P w) 1 "_law_word" ["_law_number"] fb):aW P w K mg base (CX1 P w) 3 f fd ["_law_number"] hV:=by
 refine F.okX (k:=2) dO (fun vs H Q E h=>?_) (fun cdv A outer s H vs Q E hr h=>?_)
 ·obtain ⟨n,rfl,_⟩:=h
  rfl
 ·obtain ⟨n,rfl,hn,k⟩:=h
  have hu:=hr.aM
  have hu1:=aZ hr
  refine ⟨_,af (aw (i:=1) dO.nd (aI bc (pvL 0) (ak))) (af (aw (i:=0) dO.nd (aI bU (pvL 0) (ak))) (af (aS (aE (bS (K:=K) rfl hu) (pvL 1) (ak) (aH _)) (ai (aF (cK (ah (aB) (ae))))) (aK)) (af (aS (aE mO (pvL 1) (ak) (aH _)) (ai (aF (cK (ah (aB) (ah (cN (iW (K:=K) rfl) (bp (cH (K:=K) rfl) (ax C_law_word au (hr.mono (by decide)) (ah (pvL 0) (ae))) (ak) (fun _ _=>rfl)) (gR) (cp (ak))) (ae)))))) (aK)) (af (aw (i:=2) dO.nd (aI aR (ak) (aI bc (pvL 0) (ak)))) (af (aS (aE mO (pvL 1) (ak) (aH _)) (ai (aw (i:=2) dO.nd (aI aR (ak) (aI bc (pvL 0) (ak))))) (aK)) (ai (aF (cK (ah (aB) (ah (cI (K:=K) rfl PySem.F.plainAttrs_str PySem.F.slot_str_join PySem.F.type_str_join (eZ (K:=K) rfl) (aB) (ah (ax C_law_some_words au (hr.mono (by decide)) (ah (aI bU (pvL 0) (ak)) (ah (pvL 2) (ae)))) (ae))) (ae))))))))))),?_⟩
  refine ar fun nn hN=>?_
  and_intros
  refine ⟨by decide,?_⟩
  rw [hN]
  clear hN nn
  refine ar fun nn hN=>?_
  and_intros
  refine ⟨⟨by decide,by decide⟩,?_⟩
  have ht0:0<=n % 9/\n % 9 < 9:=by omega
  have hm0:0<=n / 9:=by omega
  generalize n % 9=tn at ht0
  generalize n / 9=m at hm0
  rw [hN]
  clear hN nn
  refine ar fun nn hN=>?_
  and_intros
  by_cases e8:tn=8
  ·rw [decide_eq_true e8]
   bv_omega
   refine ⟨Nat.le_of_lt (aq (by decide)),fun p H1 hp s1 h1=>k p H1 hp s1 ⟨[.inr ("end":Str)],h1,rfl,by decide,by decide,fun z hz=>?_⟩⟩
   rw [List.mem_singleton.mp hz]
   exact ⟨[101,110,100],rfl,by decide⟩
  rw [decide_eq_false e8]
  bv_omega
  rw [hN]
  clear hN nn
  refine ar fun nn hN=>?_
  and_intros
  by_cases e4:4 < tn
  ·rw [decide_eq_true e4]
   bv_omega
   refine ⟨m,rfl,hm0,fun q w n2 H1 w1 w2 w3 hn2 hq s1 h1=>?_⟩
   and_intros
   refine ⟨_,_,.l h1,rfl,?_⟩
   and_intros
   rw [aY,df,show (6:Int)=((6:Nat):Int) from rfl,nS]
   have l6:(w.take 6).length=min 6 w.length:=List.length_take
   refine ⟨Nat.le_of_lt (aq (by omega)),Nat.le_of_lt (aq (by decide)),fun p H2 hp s2 h2=>k p H2 (by cases e:H p with | none=>rfl | some o=>rw [s1 _ _ e] at hp;cases hp) (s1.trans s2) ⟨[.inr ("part":Str),.inr (tx (w.take 6))],h2,sZ (nL (by omega) (by omega) fun c hc=>w3 c (List.mem_of_mem_take hc)),by simp,by simp,fun z hz=>?_⟩⟩
   rcases List.mem_cons.mp hz with rfl | hz
   ·exact ⟨[112,97,114,116],rfl,by decide⟩
   ·rw [List.mem_singleton.mp hz]
    exact ⟨_,rfl,by omega⟩
  rw [decide_eq_false e4]
  bv_omega
  rw [hN]
  clear hN nn
  refine ar fun nn hN=>?_
  and_intros
  refine ⟨by decide,?_⟩
  rw [hN]
  clear hN nn
  refine ly (fun σ H'=>H'=H/\∃ j:Nat,1<=j/\j<=6/\σ=[some (.int m),some (.int tn),some (.int (j:Int))]) ?_ ?_
  ·rintro σ H' ⟨rfl,j,hj1,hj6,rfl⟩
   and_intros
   refine ⟨rfl,⟨by decide,by decide⟩,m / 6,j,rfl,by omega,hj6,fun q ws H1 hwl hw hq s1 h1=>?_⟩
   obtain ⟨jl1,jl2⟩:=rn (n:=6) (ws:=ws) (by omega) fun w hx=>(hw w hx).2.1
   have ejs:(ws.map fun w=>V.str (tx w))=(ws.map tx).map V.str:=by rw [List.map_map];rfl
   refine ⟨ws.map tx,.of (by rw [h1,ejs]),?_,?_⟩
   ·rw [List.map_map,List.length_map]
    have:(ws.map ((fun z:Str=>z.length) ∘ tx)).sum<=(ws.map fun w=>w.length + 1).sum:=by
     have e:ws.map ((fun z:Str=>z.length) ∘ tx)=ws.map fun w=>w.length:=List.map_congr_left fun w _=>aY w
     rw [e]
     clear e jl1 jl2 ejs h1 hw hwl
     induction ws with
     | nil=>simp
     | cons w r ih=>simp only [List.map_cons,List.sum_cons];omega
    have e1:(Str.ofString " ").length=1:=rfl
    rw [e1]
    omega
   ·rw [show (Str.ofString " ")=tx [32] from rfl,iN]
    refine ⟨Nat.le_of_lt (aq (by decide)),fun p H2 hp s2 h2=>k p H2 (by cases e:H' p with | none=>rfl | some o=>rw [s1 _ _ e] at hp;cases hp) (s1.trans s2) ⟨[.inr ("phrase":Str),.inr (tx (Mk.br 32 ws))],h2,pE (jY (by omega) (by omega) hw),by simp,by simp,fun z hz=>?_⟩⟩
    rcases List.mem_cons.mp hz with rfl | hz
    ·exact ⟨[112,104,114,97,115,101],rfl,by decide⟩
    ·rw [List.mem_singleton.mp hz]
     exact ⟨_,rfl,by omega⟩
  ·intro U hU
   and_intros
   by_cases e1:1 < tn
   ·rw [if_pos (decide_eq_true e1)]
    obtain ⟨j,hj⟩:=Int.eq_ofNat_of_zero_le (show 0<=1 + m % 2 by omega)
    refine ⟨by decide,hU _ _ ⟨rfl,j,by omega,by omega,by rw [hj]⟩⟩
   ·rw [if_neg (by simpa using e1)]
    obtain ⟨j,hj⟩:=Int.eq_ofNat_of_zero_le (show 0<=1 + m % 6 by omega)
    exact hU _ _ ⟨rfl,j,by omega,by omega,by rw [hj]⟩
theorem nM {b:Int}:∀ {xs:List V},xs.all (bo b)=true->∃ ws:List Int,xs=ws.map V.int/\∀ x∈ws,0<=x/\x < b
 | [],_=>⟨[],rfl,fun _ h=>nomatch h⟩
 | y::ys,h=>by
  rw [List.all_cons,Bool.and_eq_true] at h
  obtain ⟨ws,e,hw⟩:=nM h.2
  cases y with
  | int i =>
   have h1:(decide (0<=i) && decide (i < b))=true:=h.1
   rw [Bool.and_eq_true,decide_eq_true_eq,decide_eq_true_eq] at h1
   refine ⟨i::ws,by rw [e];rfl,fun x hx=>?_⟩
   cases hx with
   | head=>exact h1
   | tail _ hx=>exact hw x hx
  | _=>cases h.1
theorem zZ {H:Hp}{b:Int}{x:V} (h:ck H b x=true):∃ (p:Addr) (ws:List Int),x=.ref p/\H p=some (.lst (ws.map V.int))/\3<=ws.length/\ws.length<=8/\∀ y∈ws,0<=y/\y < b:=by
 cases x with
 | ref p =>
  have h1:(match H p with | some (.lst xs)=>decide (3<=xs.length) && decide (xs.length<=8) && xs.all (bo b) | _=>false)=true:=h
  split at h1
  ·rename_i xs e
   simp only [Bool.and_eq_true,decide_eq_true_eq] at h1
   obtain ⟨ws,e1,hw⟩:=nM h1.2
   subst e1
   rw [List.length_map] at h1
   exact ⟨p,ws,rfl,e,h1.1.1,h1.1.2,hw⟩
  ·cases h1
 | _=>cases h
def fw (Ad:Ads):Sp:=fun vs H Q E=>∃ (a dx:Addr) (xa xw xr:V) (ta tw tr:Tg),vs=[.ref a,xa,xw,xr]/\H a=some (.ins Ad.Code dx [])/\cP H xa=some ta/\cP H xw=some tw/\cP H xr=some tr ∧
 (∀ z,xa=.str z->z.length<=4000)/\(∀ p o u,xw=.ref p->H p≠some (.frz o u))/\(∀ p xs,xw=.ref p->H p=some (.lst xs)->xs.length<=1000/\∀ y∈xs,∃ t,cP H y=some t) ∧
 (Aa H xa xw xr->∀ H',ao H H'->E (.ref Ad.NoCode) none H') ∧
 (∀ al p ws r,lL H xa xw xr al p ws r->∀ q H',H q=none->(∀ b o,b≠a->H b=some o->H' b=some o)->H' a=some (.ins Ad.Code dx (lK al q r))->H' q=some (.lst (ws.map V.int))->Q .non H')
theorem wJ {Ad:Ads}{H:Hp}{ca cd qn:Addr}{al:List Nat}{ws:List Int}{r:Int}{Q:VK}{E:XK} (ha:H ca=some (.ins Ad.Code cd [])) (hq:H qn=some (.lst (ws.map V.int))) (ok:fH al ws r)
  (k:∀ H',(∀ b o,b≠ca->H b=some o->H' b=some o)->dZ Ad H' ca al ws r->Q .non H'):fw Ad [.ref ca,.str (tx al),.ref qn,.int r] H Q E:=by
 have g26:=ok.a26
 have w8:=ok.w8
 refine ⟨ca,cd,.str (tx al),.ref qn,.int r,Tg.str,Tg.lst,Tg.int,rfl,ha,rfl,?_,rfl,?_,?_,?_,?_,?_⟩
 ·show gB (H qn)=_
  rw [hq];rfl
 ·intro z e
  cases e
  rw [aY];omega
 ·intro p o u e e2
  cases e
  rw [hq] at e2;cases e2
 ·intro p xs e e2
  cases e
  rw [hq] at e2
  cases e2
  refine ⟨by rw [List.length_map];omega,fun y hy=>?_⟩
  obtain ⟨x,_,rfl⟩:=List.mem_map.mp hy
  exact ⟨Tg.int,rfl⟩
 ·intro hb
  exact absurd ⟨rfl,rfl,hq,rfl,ok⟩ (hb al qn ws r)
 ·intro al' p ws' r' hm q H' hq' hs h1 h2
  obtain ⟨e1,e2,e3,e4,_⟩:=hm
  have ea:al=al':=by injection e1 with e1;exact qw e1
  have er:r=r':=by injection e4
  have ep:qn=p:=by injection e2
  subst ea er ep
  rw [hq] at e3
  have e6:ws.map V.int=ws'.map V.int:=by injection e3 with e3;injection e3
  have ew:ws=ws':=(List.map_inj_right (fun x y h=>by injection h)).mp e6
  subst ew
  exact k H' hs ⟨cd,q,h1,h2⟩
theorem jL:aD ["self","alphabet","weights","rest","m"] ["self","alphabet","weights","rest"] (ag dw):=⟨rfl,rfl,rfl,by decide +kernel,rfl,by decide +kernel,by decide +kernel⟩
theorem pN {f:Addr}{fd:FuncData} (F:Fun K "__init__" "Code.__init__" dw f fd) (T:Bl mg) (AF:AdF K mg Ad) (C_are_safe:Fnc P w K mg base (CX1 P w) 2 "are_safe" ["weights","m"] i6) (C_is_below:Fnc P w K mg base (CX1 P w) 2 "is_below" ["thing","bound"] dD) (C_are_weights:Fnc P w K mg base (CX1 P w) 3 "are_weights" ["thing","m"] fW) (C_is_alphabet:Fnc P w K mg base (CX1 P w) 1 "is_alphabet" ["thing"] fX):aW P w K mg base (CX1 P w) 4 f fd ["self","alphabet","weights","rest"] (fw Ad):=by
 refine F.okX (k:=3) jL (fun vs H Q E h=>?_) (fun cdv A outer s H vs Q E hr h=>?_)
 ·obtain ⟨a,dx,xa,xw,xr,ta,tw,tr,rfl,_⟩:=h
  rfl
 ·obtain ⟨a,dx,xa,xw,xr,ta,tw,tr,rfl,ha,hta,htw,htr,hza,hfz,hit,kE,kQ⟩:=h
  have hu:=hr.aM
  have hu1:=aZ hr
  refine ⟨_,af (aS (bO (bT (ax C_is_alphabet au (hr.mono (by decide)) (ah (pvL 1) (ae))))) (ai (cO PySem.F.excBase_ValueError AF.q_NoCode AF.g_NoCode bZ rfl (ah (aB) (ae)))) (aK)) (af (aw (i:=4) jL.nd (aj (aJ (K:=K) rfl) T.len aU (ah (pvL 1) (ae)))) (af (aS (bO (bT (ax C_are_weights au (hr.mono (by decide)) (ah (pvL 2) (ah (pvL 4) (ae)))))) (ai (cO PySem.F.excBase_ValueError AF.q_NoCode AF.g_NoCode bZ rfl (ah (aB) (ae)))) (aK)) (af (aS (bO (bT (ax C_is_below au (hr.mono (by decide)) (ah (pvL 3) (ah (pvL 4) (ae)))))) (ai (cO PySem.F.excBase_ValueError AF.q_NoCode AF.g_NoCode bZ rfl (ah (aB) (ae)))) (aK)) (af (aS (bO (bT (ax C_are_safe au (hr.mono (by decide)) (ah (pvL 2) (ah (pvL 4) (ae)))))) (ai (cO PySem.F.excBase_ValueError AF.q_NoCode AF.g_NoCode bZ rfl (ah (aB) (ae)))) (aK)) (af (iK (K:=K) rfl (pvL 0) (pvL 1)) (af (iK (K:=K) rfl (pvL 0) (mQ (sP (K:=K) rfl rfl) T.list pe (ah (pvL 2) (ae)))) (ai (iK (K:=K) rfl (pvL 0) (pvL 3))))))))),?_⟩
  rw [cY]
  and_intros
  refine ⟨xa,ta,rfl,hta,hza,fun H1 s1=>?_⟩
  and_intros
  cases hA:eX xa with
  | false =>
   bv_omega
   refine ⟨by decide,kE (fun al p ws r ⟨e1,_,_,_,e5⟩=>?_) H1 s1⟩
   have:eX xa=true:=by
    rw [e1]
    show dI (tx al).cps.toList=true
    rw [df]
    unfold dI
    rw [decide_eq_true e5.a3,decide_eq_true e5.a26,decide_eq_true e5.nd,List.all_eq_true.mpr fun c hc=>decide_eq_true (e5.abc c hc)];rfl
   rw [hA] at this;cases this
  | true =>
   bv_omega
   obtain ⟨z,rfl⟩:∃ z,xa=.str z:=by
    cases xa with
    | str z=>exact ⟨z,rfl⟩
    | _=>cases hA
   have hA':dI z.cps.toList=true:=hA
   have hz:=eQ z
   unfold dI at hA'
   simp only [Bool.and_eq_true,decide_eq_true_eq,List.all_eq_true] at hA'
   obtain ⟨⟨⟨g3,g26⟩,gnd⟩,gabc⟩:=hA'
   rw [cY]
   and_intros
   refine ⟨Nat.le_of_lt (aq (by omega)),?_⟩
   and_intros
   rw [cY]
   and_intros
   refine ⟨xw,tw,_,rfl,dX s1 htw,fun p o u e e2=>?_,fun p xs e e2=>?_,fun H2 s2=>?_⟩
   ·subst e
    have:gB (H p)=some tw:=htw
    cases e3:H p with
    | none=>rw [e3] at this;cases this
    | some ob =>
     have e4:=s1 p ob e3
     rw [e2] at e4
     cases e4
     exact hfz p o u rfl e3
   ·subst e
    have:gB (H p)=some tw:=htw
    cases e3:H p with
    | none=>rw [e3] at this;cases this
    | some ob =>
     have e4:=s1 p ob e3
     rw [e2] at e4
     cases e4
     obtain ⟨i1,i2⟩:=hit p xs rfl e3
     exact ⟨i1,fun y hy=>by obtain ⟨ty,hty⟩:=i2 y hy;exact ⟨ty,dX s1 hty⟩⟩
   and_intros
   have eW:ck H1 (z.length:Int) xw=ck H (z.length:Int) xw:=by
    cases xw with
    | ref p =>
     have:gB (H p)=some tw:=htw
     cases e3:H p with
     | none=>rw [e3] at this;cases this
     | some ob =>
      show (match H1 p with | some (.lst xs)=>_ | _=>false)=(match H p with | some (.lst xs)=>_ | _=>false)
      rw [s1 p ob e3,e3]
    | _=>rfl
   rw [eW]
   cases hW:ck H (z.length:Int) xw with
   | false =>
    bv_omega
    refine ⟨by decide,kE (fun al p ws r ⟨e1,e2,e3,_,e5⟩=>?_) H2 (s1.trans s2)⟩
    have hal:z=tx al:=by cases e1;rfl
    have:ck H (z.length:Int) xw=true:=by
     rw [e2,hal,aY]
     show (match H p with | some (.lst xs)=>decide (3<=xs.length) && decide (xs.length<=8) && xs.all (bo (al.length:Int)) | _=>false)=true
     rw [e3]
     simp only [List.length_map]
     rw [decide_eq_true e5.w3,decide_eq_true e5.w8,List.all_map,List.all_eq_true.mpr];rfl
     intro x hx
     have:=e5.wm x hx
     show (decide (0<=x) && decide (x < (al.length:Int)))=true
     rw [decide_eq_true this.1,decide_eq_true this.2];rfl
    rw [hW] at this;cases this
   | true =>
    bv_omega
    rw [cY]
    and_intros
    refine ⟨xr,tr,_,rfl,dX (s1.trans s2) htr,?_⟩
    and_intros
    cases hB:bo (z.length:Int) xr with
    | false =>
     bv_omega
     refine ⟨by decide,kE (fun al p ws r ⟨e1,e2,e3,e4,e5⟩=>?_) H2 (s1.trans s2)⟩
     have hal:z=tx al:=by cases e1;rfl
     have:bo (z.length:Int) xr=true:=by
      rw [e4,hal,aY]
      show (decide (0<=r) && decide (r < (al.length:Int)))=true
      rw [decide_eq_true e5.rm.1,decide_eq_true e5.rm.2];rfl
     rw [hB] at this;cases this
    | true =>
     bv_omega
     obtain ⟨r,rfl⟩:∃ r,xr=.int r:=by
      cases xr with
      | int r=>exact ⟨r,rfl⟩
      | _=>cases hB
     have hB':(decide (0<=r) && decide (r < (z.length:Int)))=true:=hB
     rw [Bool.and_eq_true,decide_eq_true_eq,decide_eq_true_eq] at hB'
     obtain ⟨p,ws,rfl,hp,w3,w8,wm⟩:=zZ hW
     have hp2:H2 p=some (.lst (ws.map V.int)):=s2 _ _ (s1 _ _ hp)
     rw [cY]
     and_intros
     refine ⟨p,ws,_,rfl,hp2,by omega,fun H3 s3=>?_⟩
     and_intros
     have s03:ao H H3:=(s1.trans s2).trans s3
     have el:(z.length:Int)=(z.cps.toList.length:Int):=by rw [hz]
     cases hS:Mk.safe (z.length:Int) ws with
     | false =>
      bv_omega
      refine ⟨by decide,kE (fun al p' ws' r' ⟨e1,e2,e3,e4,e5⟩=>?_) H3 s03⟩
      have hal:z=tx al:=by cases e1;rfl
      have hpp:p'=p:=by cases e2;rfl
      subst hpp
      have hww:ws'=ws:=by
       rw [hp] at e3
       have e6:ws.map V.int=ws'.map V.int:=by injection e3 with e3;injection e3
       exact (List.map_inj_right (fun x y h=>by injection h)).mp e6.symm
      subst hww
      have:=e5.safe
      rw [hal,aY] at hS
      rw [hS] at this;cases this
     | true =>
      bv_omega
      have ha3:=s03 _ _ ha
      have hp3:H3 p=some (.lst (ws.map V.int)):=s03 _ _ hp
      have hne:p≠a:=fun e=>by rw [e,ha] at hp;cases hp
      have hM:lL H (.str z) (.ref p) (.int r) z.cps.toList p ws r:=⟨by rw [oW],rfl,hp,rfl,⟨g3,g26,gnd,gabc,w3,w8,by rw [← el];exact wm,by rw [← el];exact hS,by rw [← el];exact hB'⟩⟩
      ac_nf
      refine ⟨_,_,_,ha3,AF.c_Code,AF.n_Code_letters,by decide,ws.map V.int,.inl (.inl (.of (by rw [av hne];exact hp3))),fun q H4 hq s4 h4=>?_⟩
      have ha4:=s4 a _ ay
      refine ⟨_,_,_,ha4,AF.c_Code,AF.n_Code_factors,Nat.lt_of_le_of_lt (Nat.le_refl 1) (by decide),_,_,_,ay,AF.c_Code,AF.n_Code_remainder,Nat.lt_of_le_of_lt (Nat.le_refl 2) (by decide),?_⟩
      have hqa:q≠a:=fun e=>by rw [e,ay] at hq;cases hq
      rw [av hqa] at hq
      have hq0:H q=none:=by
       cases e:H q with
       | none=>rfl
       | some o=>rw [s03 q o e] at hq;cases hq
      refine kQ z.cps.toList p ws r hM q _ hq0 (fun b o hb e=>?_) ?_ ?_
      ·rw [av hb,av hb]
       exact s4 b o (by rw [av hb];exact s03 b o e)
      ·rw [ay]
       unfold lK
       rw [oW]
       rfl
      ·rw [av hqa,av hqa];exact h4
def fV (Ad:Ads):Sp:=fun vs H Q _=>∃ (b ca dn de f t:Addr) (es:List Ben) (al:List Nat) (ws:List Int) (r n:Int) (key:List Key) (y:V),vs=[.ref b,.ref t,y,.ref f]/\bK Ad H b ca dn de es/\dZ Ad H ca al ws r/\fH al ws r/\jW n9 Ad.tb H f/\H t=some (.tup (key.map kV))/\gF key/\key ∉ es.map (·.key)/\es.length < 300 ∧
 0<=n/\n < eV al ws/\n ∉ es.map (·.num)/\(y=.int n ∨ (y=.non/\lF (es.map (·.num)) n))/\∀ H',ao H H'->Q (.int n) H'
theorem mX:aD ["self","entry","number","is_barred"] ["self","entry","number","is_barred"] (ag cy):=⟨rfl,rfl,rfl,by decide +kernel,rfl,by decide +kernel,by decide +kernel⟩
theorem mE {f:Addr}{fd:FuncData} (F:Fun K "choose" "Book.choose" cy f fd) (T:Bl mg) (AF:AdF K mg Ad) (C_is_below:Fnc P w K mg base (CX1 P w) 2 "is_below" ["thing","bound"] dD) (C_is_entry:Fnc P w K mg base (CX1 P w) 3 "is_entry" ["thing"] gj) (M_Book_least_free:Mtd P w K mg base (CX1 P w) Ad.Book "least_free" 2 ["self","is_barred"] (cq Ad)) (M_Code_many:Mtd P w K mg base (CX1 P w) Ad.Code "many" 1 ["self"] (cW Ad)):aW P w K mg base (CX1 P w) 4 f fd ["self","entry","number","is_barred"] (fV Ad):=by
 refine F.okX (k:=3) mX (fun vs H Q E h=>?_) (fun cdv A outer s H vs Q E hr h=>?_)
 ·obtain ⟨b,ca,dn,de,f,t,es,al,ws,r,n,key,y,rfl,_⟩:=h
  rfl
 ·obtain ⟨b,ca,dn,de,f,t,es,al,ws,r,n,key,y,rfl,B,C,ok,Fb,ht,eo,hk,h300,n0,n1,hnn,hy,k⟩:=h
  obtain ⟨dx,h1⟩:=B.bk
  have hu:=hr.aM
  have hu1:=aZ hr
  refine ⟨_,af (aS (bO (bT (ax C_is_entry au (hr.mono (by decide)) (ah (pvL 1) (ae))))) (ai (cO PySem.F.excBase_ValueError AF.q_NoEntry AF.g_NoEntry bZ rfl (ah (aB) (ae)))) (aK)) (af (aS (aE (jg (K:=K) rfl hu1) (pvL 1) (cn (K:=K) rfl (pvL 0)) (by kernel_rfl)) (ai (cO PySem.F.excBase_ValueError AF.q_Twice AF.g_Twice bZ rfl (ah (aB) (ae)))) (aK)) (af (aS (aE gK (pvL 2) (bg) (aH _)) (af (aS (bO (bT (ax C_is_below au (hr.mono (by decide)) (ah (pvL 2) (ah (fE M_Code_many au (hr.mono (by decide)) (cn (K:=K) rfl (pvL 0))) (ae)))))) (ai (cO PySem.F.excBase_ValueError AF.q_NoNumber AF.g_NoNumber bZ rfl (ah (aB) (ae)))) (aK)) (ai (aS ((gM (aE (jg (K:=K) rfl hu1) (pvL 2) (cn (K:=K) rfl (pvL 0)) (by kernel_rfl)) (fR (bT (mP (q:=n9) (Pt:=Ad.tb) (pvL 3) hr (ah (pvL 2) (ae)))))).pt) (ai (cO PySem.F.excBase_ValueError AF.q_NoNumber AF.g_NoNumber bZ rfl (ah (aB) (ae)))) (aK)))) (aK)) (af (aS (aE (yS (K:=K) rfl hu) (aj vY T.len aU (ah (cn (K:=K) rfl (pvL 0)) (ae))) (cx AF.v_MOST_ENTRIES) (aH _)) (ai (cO PySem.F.excBase_ValueError AF.q_TooMany AF.g_TooMany bZ rfl (ah (aB) (ae)))) (aK)) (ai (aF (i3 (aE cZ (pvL 2) (bg) (aH _)) (fP M_Book_least_free au (hr.mono (by decide)) (pvL 0) (ah (pvL 3) (ae))) (pvL 2))))))),?_⟩
  refine ar fun nn hN=>?_
  and_intros
  refine ⟨_,.tup,rfl,(show gB (H t)=_ by rw [ht];rfl),(fun p xs ep hp=>?_),fun G1 t1=>?_⟩
  ·cases ep
   rw [ht] at hp
   cases hp
   refine ⟨by rw [List.length_map];have:=eo.few;omega,fun v hv=>?_⟩
   obtain ⟨z,hz,rfl⟩:=List.mem_map.mp hv
   exact ⟨yB H z,fun s es=>eo.short s (by rw [← es];exact hv)⟩
  rw [pz ht eo]
  and_intros
  rw [hN]
  clear hN nn
  have B1:=B.same t1
  obtain ⟨dx1,h11⟩:=B1.bk
  refine ar fun nn hN=>?_
  and_intros
  refine ⟨_,dx1,_,_,h11,AF.c_Book,AF.n_Book_by_entry,kc ca dn de,?_⟩
  refine .inr ⟨_,.inr ⟨_,key,t,.inl B1.he,rfl,t1 _ _ ht,rfl⟩,?_⟩
  rw [sS hk]
  bv_omega
  show nn _ _ _
  rw [hN]
  clear hN nn
  have rest:∀ (G2:Hp),ao H G2->(zJ
       (Dv
        (sr
         (tOp (Dl K) (tCB zm (oV (zG K (nv 0) (Str.ofString "by_number")) uf)) (tC (V.int 300))))
        (tW Ad.TooMany (fun x=>E) (oV (tC (V.str (Str.ofString "a book has at most 300 entries"))) uf))
        zI)
       (Dw
        (tIf (sr (tOp (tQ false) (nv 2) (tC V.non)))
         (nt Ad.Book (Str.ofString "least_free") (cq Ad) (fun x=>E) (nv 0)
          (oV (nv 3) uf))
         (nv 2)))) { nx:=fun x H'=>Q V.non H',rt:=Q } [some (V.ref b),some (V.ref t),some y,some (V.ref f)] G2:=by
   intro G2 t2
   have B2:=B.same t2
   obtain ⟨dx2,h12⟩:=B2.bk
   refine ar fun nn hN=>?_
   and_intros
   refine ⟨_,dx2,_,_,h12,AF.c_Book,AF.n_Book_by_number,ef ca dn de,?_⟩
   and_intros
   refine ⟨_,.inl B2.hn,?_⟩
   rw [rE,decide_eq_false (show ¬ (300:Int)<=(es.length:Int) by omega)]
   bv_omega
   show nn _ _ _
   rw [hN]
   clear hN nn
   rcases hy with rfl | ⟨rfl,Lf⟩
   ·and_intros
    exact k G2 t2
   ·and_intros
    exact ⟨dx2,_,h12,cm (by decide) (by decide) (by decide) ca dn de,b,ca,dn,de,f,es,al,ws,r,n,rfl,B2,C.same t2,ok,Fb.same t2,Lf,n1,fun G3 t3=>k G3 (t2.trans t3)⟩
  refine ar fun nn hN=>?_
  and_intros
  rcases id hy with rfl | ⟨rfl,Lf⟩
  ·and_intros
   have C1:=C.same t1
   obtain ⟨dc,qc,hc1,hc2⟩:=id C1
   refine ar fun n2 hM=>?_
   and_intros
   refine ⟨_,dx1,_,_,h11,AF.c_Book,AF.n_Book_basis,ip ca dn de,?_⟩
   refine ⟨dc,_,hc1,fN (by decide) (by decide) (by decide) al qc r,ca,al,ws,r,rfl,C1,ok.a26,by have:=ok.w3;omega,ok.w8,fun G2 t2=>?_⟩
   refine ⟨_,.int,_,rfl,rfl,?_⟩
   rw [jZ (b:=(al.length:Int) ^ (ws.length - 1)) n0 n1]
   and_intros
   rw [hM]
   clear hM n2
   have t02:=t1.trans t2
   have B2:=B.same t02
   obtain ⟨dx2,h12⟩:=B2.bk
   and_intros
   refine ⟨_,dx2,_,_,h12,AF.c_Book,AF.n_Book_by_number,ef ca dn de,?_⟩
   refine .inr ⟨_,.inl ⟨_,.inl n,.inl B2.hn,rfl,rfl⟩,?_⟩
   rw [pK hnn]
   bv_omega
   refine ⟨Fb.same t02,Fb.same t02,?_⟩
   show nn _ _ _
   rw [hN]
   exact rest G2 t02
  ·and_intros
   show nn _ _ _
   rw [hN]
   exact rest G1 t1
theorem ye {xs:List V} (h:dJ xs=true):∃ key:List Key,xs=key.map kV:=by
 cases xs with
 | nil=>cases h
 | cons a r =>
  cases a with
  | str z =>
   cases r with
   | nil=>exact ⟨[.inr z],rfl⟩
   | cons y r2 =>
    cases r2 with
    | cons _ _=>cases h
    | nil =>
     have h':(if z=("phrase":Str) then bP 6 y else if z=("part":Str) then dG 6 y else false)=true:=h
     cases y with
     | str y=>exact ⟨[.inr z,.inr y],rfl⟩
     | _ =>
      exfalso
      split at h'
      ·cases h'
      ·split at h'
       ·cases h'
       ·cases h'
  | _=>cases h
def dP (Ad:Ads):Sp:=fun vs H Q _=>∃ (b ca dn de:Addr) (es:List Ben) (x:V) (t:Tg),vs=[.ref b,x]/\bK Ad H b ca dn de es/\cP H x=some t/\(∀ p xs,x=.ref p->H p=some (.tup xs)->xs.length<=1000/\∀ y∈xs,(∃ t,cP H y=some t)/\∀ z,y=.str z->z.length<=10000) ∧
 (kj H x=false->∀ H',ao H H'->Q .non H') ∧
 (∀ p key,x=.ref p->H p=some (.tup (key.map kV))->dJ (key.map kV)=true->(∀ e∈es,e.key=key->∀ H',ao H H'->Q (.int e.num) H')/\(key ∉ es.map (·.key)->∀ H',ao H H'->Q .non H'))
theorem mY:aD ["self","entry"] ["self","entry"] (ag cz):=⟨rfl,rfl,rfl,by decide +kernel,rfl,by decide +kernel,by decide +kernel⟩
theorem mF {f:Addr}{fd:FuncData} (F:Fun K "number" "Book.number" cz f fd) (T:Bl mg) (AF:AdF K mg Ad) (C_is_entry:Fnc P w K mg base (CX1 P w) 3 "is_entry" ["thing"] gj):aW P w K mg base (CX1 P w) 4 f fd ["self","entry"] (dP Ad):=by
 refine F.okX (k:=3) mY (fun vs H Q E h=>?_) (fun cdv A outer s H vs Q E hr h=>?_)
 ·obtain ⟨b,ca,dn,de,es,x,t,rfl,_⟩:=h
  rfl
 ·obtain ⟨b,ca,dn,de,es,x,t,rfl,B,ht,hx,k1,k2⟩:=h
  have hu:=hr.aM
  have hu1:=aZ hr
  refine ⟨_,af (aS (bO (bT (ax C_is_entry au (hr.mono (by decide)) (ah (pvL 1) (ae))))) (ai (aF (bg))) (aK)) (ai (aF (oM hu1 (cn (K:=K) rfl (pvL 0)) (pvL 1)))),?_⟩
  refine ar fun nn hN=>?_
  and_intros
  refine ⟨x,t,rfl,ht,hx,fun H1 s1=>⟨_,rfl,?_⟩⟩
  cases hv:kj H x with
  | false =>
   bv_omega
   exact k1 hv H1 s1
  | true =>
   bv_omega
   show nn _ _ _
   rw [hN]
   clear hN nn
   cases x with
   | ref p =>
    have hv':(match H p with | some (.tup xs)=>dJ xs | _=>false)=true:=hv
    cases hp:H p with
    | none=>rw [hp] at hv';cases hv'
    | some o =>
     rw [hp] at hv'
     cases o with
     | tup xs =>
      obtain ⟨key,rfl⟩:=ye hv'
      obtain ⟨q1,q2⟩:=k2 p key rfl hp hv'
      have B1:=B.same s1
      obtain ⟨dx1,h11⟩:=B1.bk
      and_intros
      refine ⟨_,dx1,_,_,h11,AF.c_Book,AF.n_Book_by_entry,kc ca dn de,de,rfl,.inr ⟨_,.inl B1.he⟩,_,ie.t (k:=key) B1.he (s1 _ _ hp),?_⟩
      by_cases hm:key∈es.map (·.key)
      ·obtain ⟨e,he,ee⟩:=List.mem_map.mp hm
       rw [← ee,Ae B.nk he]
       exact q1 e he ee H1 s1
      ·rw [sS hm]
       exact q2 hm H1 s1
     | _=>cases hv'
   | _=>cases hv
def qo (Ad:Ads):Sp:=fun vs H Q E=>∃ (b ca dn de g:Addr) (es:List Ben) (xs:List V) (al:List Nat) (ws:List Int) (r:Int),vs=[.ref b,.ref g]/\bK Ad H b ca dn de es/\dZ Ad H ca al ws r/\fH al ws r/\(∀ e∈es,gF e.key/\0<=e.num/\e.num < eV al ws)/\H g=some (.lst xs)/\xs.length<=1000/\(∀ x∈xs,∃ t,cP H x=some t) ∧
 (∀ wd,sd (xs.map (kOf es))=.inr wd->∀ H',ao H H'->Q (.str (tx (Mk.br 32 wd))) H')/\∀ n,sd (xs.map (kOf es))=.inl n->∀ dx H',ao H H'->H' dx=some (.xd [("at",.int n)])->E (.ref Ad.NoReading) (some dx) H'
theorem gi:aD ["book","groups","words","spelling","at","group","entry"] ["book","groups"] (ag kr):=⟨rfl,rfl,rfl,by decide +kernel,rfl,by decide +kernel,by decide +kernel⟩
theorem Aw {f:Addr}{fd:FuncData} (F:Fun K "said" "said" kr f fd) (T:Bl mg) (AF:AdF K mg Ad) (C_can_stand:Fnc P w K mg base (CX1 P w) 1 "can_stand" ["entry","many","spelling"] gZ) (M_Book_entry:Mtd P w K mg base (CX1 P w) Ad.Book "entry" 3 ["self","number"] (eS Ad)) (K_NoReading:xB P w K mg base (CX1 P w) Ad.NoReading "NoReading" 1 ["self","at"] (cL Ad)):aW P w K mg base (CX1 P w) 4 f fd ["book","groups"] (qo Ad):=by
 refine F.okX (k:=3) gi (fun vs H Q E h=>?_) (fun cdv A outer s H vs Q E hr h=>?_)
 ·obtain ⟨b,ca,dn,de,g,es,xs,al,ws,r,rfl,_⟩:=h
  rfl
 ·obtain ⟨b,ca,dn,de,g,es,xs,al,ws,r,rfl,B,C,ok,hes,hg,gl,htg,k1,k2⟩:=h
  have hu:=hr.aM
  have hu1:=aZ hr
  refine ⟨_,af (aw (i:=2) gi.nd (bh (ae))) (af (aw (i:=3) gi.nd (aB)) (af (fj PassesOwn.leaving rfl (jH (K:=K) rfl T.enumerate (ah (pvL 1) (ae))) (jG (K:=K) (n:=2) rfl rfl (bu (aL (i:=4) gi.nd) (bu (aL (i:=5) gi.nd) (gf)))) (af (aw (i:=6) gi.nd (fP M_Book_entry au (hr.mono (by decide)) (pvL 0) (ah (pvL 5) (ae)))) (af (aS ((gM (aE cZ (pvL 6) (bg) (aH _)) (fR (bO (bT (ax C_can_stand au (hr.mono (by decide)) (ah (pvL 6) (ah (aj (aJ (K:=K) rfl) T.len aU (ah (pvL 2) (ae))) (ah (pvL 3) (ae))))))))).pt) (ai (kq K_NoReading jk rfl (hr.mono (by decide)) (ah (pvL 4) (ae)))) (aK)) (ai (aS (aE (bS (K:=K) rfl hu) (bp (cH (K:=K) rfl) (pvL 6) (ak) (fun _ _=>rfl)) (aB) (aH _)) (ai (di (cI (K:=K) rfl PySem.F.plainAttrs_list PySem.F.slot_list_extend PySem.F.type_list_extend wR (pvL 2) (ah (cI (K:=K) rfl PySem.F.plainAttrs_str PySem.F.slot_str_split PySem.F.type_str_split j9 (bp (cH (K:=K) rfl) (pvL 6) (ak) (fun _ _=>rfl)) (ah (aB) (ae))) (ae))))) (ai (aS (aE (bS (K:=K) rfl hu) (bp (cH (K:=K) rfl) (pvL 6) (ak) (fun _ _=>rfl)) (aB) (aH _)) (ai (aw (i:=3) gi.nd (aI aR (pvL 3) (bp (cH (K:=K) rfl) (pvL 6) (ak) (fun _ _=>rfl))))) (af (di (cI (K:=K) rfl PySem.F.plainAttrs_list PySem.F.slot_list_append PySem.F.type_list_append fD (pvL 2) (ah (pvL 3) (ae)))) (ai (aw (i:=3) gi.nd (aB))))))))))) (af (aS ((gM (aE (iy (K:=K) rfl hu) (pvL 3) (aB) (aH _)) (fR (aE (bS (K:=K) rfl hu) (aj (aJ (K:=K) rfl) T.len aU (ah (pvL 2) (ae))) (ak) (aH _)))).pt) (ai (kq K_NoReading jk rfl (hr.mono (by decide)) (ah (aj (aJ (K:=K) rfl) T.len aU (ah (pvL 1) (ae))) (ae)))) (aK)) (ai (aF (cI (K:=K) rfl PySem.F.plainAttrs_str PySem.F.slot_str_join PySem.F.type_str_join (eZ (K:=K) rfl) (aB) (ah (pvL 2) (ae)))))))),?_⟩
  have big:∀ {u:Nat},u<=10000->u<=sizeLine:=fun hu=>Nat.le_of_lt (aq (by omega))
  generalize hks:xs.map (kOf es)=ks at k1 k2
  have kl:ks.length=xs.length:=by rw [← hks,List.length_map]
  refine ar fun nn hN=>?_
  and_intros
  refine ⟨Nat.zero_le _,fun D H1 hD s1 h1=>?_⟩
  rw [hN]
  clear hN nn
  refine ar fun nn hN=>?_
  and_intros
  rw [hN]
  clear hN nn
  refine ar fun nn hN=>?_
  and_intros
  refine ⟨g,rfl,⟨_,.of (s1 _ _ hg)⟩,?_⟩
  refine kh (xs:=xs) (fun i σ H'=>∃ (s:SSt) (o4 o5 o6:Option V),σ=[some (V.ref b),some (V.ref g),some (V.ref D),some (V.str (tx s.2)),o4,o5,o6]/\ao H H'/\H' D=some (.lst (s.1.map fun w=>V.str (tx w)))/\iR s/\lj ks ([],[]) 0=lj (ks.drop i) s i) ?_ ?_ ?_ ?_
  ·exact ⟨([],[]),_,_,_,rfl,s1,h1,EK,rfl⟩
  ·rintro i σ H' _ ⟨s,o4,o5,o6,_,sH,_⟩
   exact .of (sH _ _ hg)
  ·rintro i x σ A1 hx ⟨s,o4,o5,o6,rfl,sA,hDA,say,hrs⟩ N hNx p A2 zp t2 h2
   clear hN
   refine ⟨p,_,rfl,.of h2,rfl,?_⟩
   have S2:=sA.trans t2
   have hD2:=t2 _ _ hDA
   clear zp h2
   have hi:i < xs.length:=(List.getElem?_eq_some_iff.mp hx).1
   obtain ⟨tx1,htx⟩:=htg x (List.mem_of_getElem? hx)
   have hk:ks[i]?=some (kOf es x):=by rw [← hks,List.getElem?_map,hx];rfl
   have hcut:lj ks ([],[]) 0=lj (kOf es x::ks.drop (i + 1)) s i:=by
    rw [hrs,List.drop_eq_getElem_cons (by rw [kl];exact hi),(List.getElem?_eq_some_iff.mp hk).2]
   have raised:∀ G,ao H G->lj ks ([],[]) 0=.inl i->∀ dx H',ao G H'->H' dx=some (.xd [("at",.int (i:Int))])->E (.ref Ad.NoReading) (some dx) H':=fun G sG hr dx H' sH hd=>k2 i (by unfold sd;rw [hr]) dx H' (sG.trans sH) hd
   have few:=say.few
   have len:=say.len
   have B2:=B.same S2
   obtain ⟨dx2,h12⟩:=B2.bk
   and_intros
   refine ar fun n2 hM=>?_
   and_intros
   have none1:kOf es x=none->∀ D' G,ao A2 G->n2 D' [some (V.ref b),some (V.ref g),some (V.ref D),some (V.str (tx s.2)),some (V.int (i:Int)),some x,some V.non] G:=fun hno D' G tG=>by
    rw [hM]
    clear hM n2
    refine ar fun n2 hM=>?_
    and_intros
    exact ⟨big (by decide),gU (by omega) (by omega) (raised G (S2.trans tG) (by rw [hcut,hno];rfl))⟩
   refine ⟨dx2,_,h12,cm (by decide) (by decide) (by decide) ca dn de,b,ca,dn,de,es,al,ws,r,x,tx1,rfl,B2,C.same S2,ok,dX S2 htx,fun hb G tG=>none1 ?_ _ G tG,fun n' en _ _ hno G tG=>?_,fun n' en _ _ u hu eu G tG=>?_⟩
   ·cases x with
    | int n =>
     refine yA fun hm=>?_
     obtain ⟨u,hu,eu⟩:=List.mem_map.mp hm
     obtain ⟨_,u0,u1⟩:=hes u hu
     rw [← eu,jZ u0 u1] at hb
     cases hb
    | _=>rfl
   ·subst en
    exact none1 (yA hno) _ G tG
   subst en
   have hem:=hu
   obtain ⟨eo,en0,en1⟩:=hes u hu
   have hkk:kOf es (.int n')=some u.key:=by rw [← eu];exact y9 B.nn hu
   rw [hkk] at hcut
   clear none1
   rw [hM]
   clear hM n2
   have hG:=S2.trans tG
   have htG:=(B.same hG).en u hem
   have hDG:=tG _ _ hD2
   refine ar fun n2 hM=>?_
   and_intros
   refine ⟨_,.inl (.of hDG),?_⟩
   rw [List.length_map]
   refine ⟨u.adr,u.key,s,rfl,htG,eo,say,fun G3 t3=>⟨_,rfl,?_⟩⟩
   cases hst:stepK u.key s with
   | none =>
    and_intros
    rw [if_pos (by rfl)]
    and_intros
    exact ⟨big (by decide),gU (by omega) (by omega) (raised G3 (hG.trans t3) (by rw [hcut];show (match stepK u.key s with | none=>_ | some s'=>_)=_;rw [hst]))⟩
   | some s' =>
   have hrs':lj ks ([],[]) 0=lj (ks.drop (i + 1)) s' (i + 1):=by
    rw [hcut]
    show (match stepK u.key s with | none=>_ | some s'=>_)=_
    rw [hst]
   have say':=say.step eo hst
   rw [if_neg (by show ¬ (!true)=true;decide)]
   show n2 _ _ _
   rw [hM]
   clear hM n2
   have SG:=hG.trans t3
   have htG3:=t3 _ _ htG
   have hDG3:=t3 _ _ hDG
   have hNN:∀ G,ao H G->G D=some (.lst (s'.1.map fun w=>V.str (tx w)))->N [some (V.ref b),some (V.ref g),some (V.ref D),some (V.str (tx s'.2)),some (V.int (i:Int)),some (V.int n'),some (V.ref u.adr)] G:=fun G sG hDG'=>hNx _ _ ⟨s',_,_,_,rfl,sG,hDG',say',hrs'⟩
   rcases lO eo with ⟨l,ek,hl⟩ | ⟨l,ek,hl⟩ | ek
   ·rw [ek] at htG3 hst eo
    have ht':G3 u.adr=some (.tup [.str ("phrase":Str),.str (tx l)]):=htG3
    have hs:l.length<=10000:=by
     have:=eo.short (tx l) (by simp [kV])
     rwa [aY] at this
    rw [gp] at hst
    split at hst
    ·rename_i hc
     cases hst
     and_intros
     refine ⟨_,_,.inr (.of ht'),bM (by decide) rfl,?_⟩
     and_intros
     rw [if_pos (by rfl)]
     refine ⟨.inl ⟨rfl,_,.of hDG3⟩,_,_,.inr (.of ht'),bM (by decide) rfl,rfl,?_⟩
     and_intros
     refine ⟨by rw [aY];omega,32,rfl,fun p4 G4 hp4 t4 g4=>?_⟩
     rw [df] at g4
     refine ⟨D,p4,_,_,rfl,rfl,t4 _ _ hDG3,g4,by rw [List.length_map,List.length_map];exact big (by omega),?_⟩
     rw [← List.map_append]
     have e2:s.2=[]:=hc.1
     rw [e2]
     exact hNN _ ((SG.trans t4).bD hD) ay
    ·cases hst
   ·rw [ek] at htG3 hst eo
    have ht':G3 u.adr=some (.tup [.str ("part":Str),.str (tx l)]):=htG3
    rw [iM] at hst
    split at hst
    ·rename_i hc
     cases hst
     and_intros
     refine ⟨_,_,.inr (.of ht'),bM (by decide) rfl,?_⟩
     and_intros
     rw [if_neg (by decide)]
     refine ⟨_,_,.inr (.of ht'),bM (by decide) rfl,?_⟩
     and_intros
     rw [if_pos (by rfl)]
     refine ⟨_,_,.inr (.of ht'),bM (by decide) rfl,?_⟩
     and_intros
     simp only [aY,ky]
     exact ⟨big (by omega),hNN _ SG hDG3⟩
    ·cases hst
   ·rw [ek] at htG3 hst eo
    have ht':G3 u.adr=some (.tup [.str ("end":Str)]):=htG3
    rw [jQ] at hst
    split at hst
    ·cases hst
    ·rename_i hc
     cases hst
     and_intros
     refine ⟨_,_,.inr (.of ht'),bM (by decide) rfl,?_⟩
     and_intros
     rw [if_neg (by decide)]
     refine ⟨_,_,.inr (.of ht'),bM (by decide) rfl,?_⟩
     and_intros
     rw [if_neg (by decide)]
     refine ar fun n2 hM=>?_
     and_intros
     refine ⟨.inl ⟨rfl,_,.of hDG3⟩,D,_,_,rfl,rfl,hDG3,by rw [List.length_map];exact aq (by omega),?_⟩
     rw [hM]
     clear hM n2
     and_intros
     rw [show (s.1.map fun w=>V.str (tx w))++[V.str (tx s.2)]=(s.1++[s.2]).map fun w=>V.str (tx w) by rw [List.map_append];rfl]
     exact hNN _ (SG.bD hD) ay
  rintro σ H2 ⟨s,o4,o5,o6,rfl,s2,h2,say,hrs⟩
  show nn _ _ _
  rw [hN]
  clear hN nn
  have hfin:lj ks ([],[]) 0=.inr s:=by
   rw [hrs,List.drop_eq_nil_of_le (by omega)];rfl
  clear hrs
  obtain ⟨wd,sp⟩:=s
  have few:wd.length<=60:=say.few
  have ended:¬ (sp=[]/\wd≠[])->∀ dx H',ao H2 H'->H' dx=some (.xd [("at",.int (xs.length:Int))])->E (.ref Ad.NoReading) (some dx) H':=fun hno dx H' sH hd=>k2 xs.length (by unfold sd;rw [hfin];show (if _ then _ else _)=_;rw [if_neg hno,kl]) dx H' (s2.trans sH) hd
  refine ar fun nn hN=>?_
  and_intros
  have e0:Str.ofString ""=tx []:=rfl
  rw [e0,zN]
  by_cases hsp:sp=[]
  ·subst hsp
   rw [if_neg (by decide)]
   refine ⟨_,.inl (.of h2),?_⟩
   rw [List.length_map]
   show (if decide ((wd.length:Int)=0)=true then _ else _)
   by_cases hwne:wd=[]
   ·subst hwne
    rw [if_pos (by decide)]
    and_intros
    refine ⟨_,.inl (.of (s2 _ _ hg)),big (by decide),gU (by omega) (by omega) (ended (fun z=>z.2 rfl))⟩
   have hl0:wd.length≠0:=fun z=>hwne (List.length_eq_zero_iff.mp z)
   obtain ⟨j1,j2⟩:=j4 (ws:=wd) few say.wds
   rw [if_neg (by rw [decide_eq_false (by omega)];decide)]
   show nn _ _ _
   rw [hN]
   clear hN nn
   and_intros
   have ejs:(wd.map fun w=>V.str (tx w))=(wd.map tx).map V.str:=by rw [List.map_map];rfl
   refine ⟨rfl,wd.map tx,.of (by rw [h2,ejs]),?_,?_⟩
   ·rw [List.map_map,List.length_map]
    have:(wd.map ((fun z:Str=>z.length) ∘ tx)).sum<=(wd.map fun w=>w.length + 1).sum:=by
     have e:wd.map ((fun z:Str=>z.length) ∘ tx)=wd.map fun w=>w.length:=List.map_congr_left fun w _=>aY w
     rw [e]
     clear e j1 j2 ejs h2 say hfin hwne few hl0 ended
     induction wd with
     | nil=>simp
     | cons w r ih=>simp only [List.map_cons,List.sum_cons];omega
    have e1:(Str.ofString " ").length=1:=rfl
    rw [e1]
    omega
   ·rw [show (Str.ofString " ")=tx [32] from rfl,iN]
    exact k1 wd (by unfold sd;rw [hfin];exact if_pos ⟨rfl,hwne⟩) H2 s2
  ·rw [if_pos (by rw [decide_eq_false hsp];rfl)]
   and_intros
   refine ⟨_,.inl (.of (s2 _ _ hg)),big (by decide),gU (by omega) (by omega) (ended (fun z=>hsp z.1))⟩
def dC (Ad:Ads):Sp:=fun vs H Q _=>∃ (b ca dn de t:Addr) (es:List Ben) (al:List Nat) (ws:List Int) (r n:Int) (key:List Key) (y:V),vs=[.ref b,.ref t,y]/\bK Ad H b ca dn de es/\dZ Ad H ca al ws r/\fH al ws r/\H Ad.tb=some (da n9)/\H t=some (.tup (key.map kV))/\gF key/\key ∉ es.map (·.key)/\es.length < 300 ∧
 0<=n/\n < eV al ws/\n ∉ es.map (·.num)/\(y=.int n ∨ (y=.non/\lF (es.map (·.num)) n))/\∀ H',(∀ c o,c≠dn->c≠de->H c=some o->H' c=some o)->bK Ad H' b ca dn de (es++[⟨n,key,t⟩])->Q (.int n) H'
theorem kT:aD ["self","entry","number","given"] ["self","entry","number"] (ag bB):=⟨rfl,rfl,rfl,by decide +kernel,rfl,by decide +kernel,by decide +kernel⟩
theorem kN {f:Addr}{fd:FuncData} (F:vT K "put" "Book.put" bB f fd) (T:Bl mg) (AF:AdF K mg Ad) (CD:fd.code=.ref Ad.cd) (M_Book_choose:Mtd P w K mg base (CX1 P w) Ad.Book "choose" 4 ["self","entry","number","is_barred"] (fV Ad)):aW P w K mg base (CX1 P w) 5 f fd ["self","entry","number"] (dC Ad):=by
 refine F.okT (k:=4) CD kT (fun vs H Q E h=>?_) (fun A outer s H vs Q E hr h=>?_)
 ·obtain ⟨b,ca,dn,de,t,es,al,ws,r,n,key,y,rfl,_⟩:=h
  rfl
 ·obtain ⟨b,ca,dn,de,t,es,al,ws,r,n,key,y,rfl,B,C,ok,Tb,ht,eo,hk,h300,n0,n1,hnn,hy,k⟩:=h
  obtain ⟨dx,h1⟩:=B.bk
  have hu:=hr.aM
  have hu1:=aZ hr
  refine ⟨_,af (aw (i:=3) kT.nd (fP M_Book_choose au (hr.mono (by decide)) (pvL 0) (ah (pvL 1) (ah (pvL 2) (ah (AB (q:=n9) (x:="k") rfl AF.t_tab (by kernel_rfl) rfl rfl (fun _ _ _ _=>rfl)) (ae)))))) (af (rT hu1 (cn (K:=K) rfl (pvL 0)) (pvL 3) (pvL 1)) (af (rT hu1 (cn (K:=K) rfl (pvL 0)) (pvL 1) (pvL 3)) (ai (aF (pvL 3))))),?_⟩
  refine ar fun nn hN=>?_
  and_intros
  refine ⟨dx,_,h1,cm (by decide) (by decide) (by decide) ca dn de,Tb,fun f G1 z1 t1 Fb=>?_⟩
  refine ⟨b,ca,dn,de,f,t,es,al,ws,r,n,key,y,rfl,B.same t1,C.same t1,ok,Fb,t1 _ _ ht,eo,hk,h300,n0,n1,hnn,hy,fun G2 t2=>?_⟩
  have t02:=t1.trans t2
  have B2:=B.same t02
  obtain ⟨dx2,h12⟩:=B2.bk
  rw [hN]
  clear hN nn
  refine ar fun nn hN=>?_
  and_intros
  refine ⟨_,dx2,_,_,h12,AF.c_Book,AF.n_Book_by_number,ef ca dn de,dn,_,rfl,.inl ⟨_,.inl n,B2.hn,rfl,by rw [rE];exact aq (by omega),rfl⟩,?_⟩
  rw [vF (pK hnn),show ix es++[((.inl n:Key),V.ref t)]=ix (es++[⟨n,key,t⟩]) from (wU es ⟨n,key,t⟩).symm]
  have hnb:dn≠b:=kM B2.hn h12 (by intro z;cases z)
  have heb:de≠b:=kM B2.he h12 (by intro z;cases z)
  have hne:dn≠de:=kM B2.hn B2.he (by intro z;cases z)
  have hdt:∀ {c:Addr}{xs:List V},G2 c=some (.tup xs)->c≠dn/\c≠de:=fun h=>⟨kM h B2.hn (by intro z;cases z),kM h B2.he (by intro z;cases z)⟩
  have k3:∀ c o,c≠dn->G2 c=some o->upd G2 dn (.dK (ix (es++[⟨n,key,t⟩]))) c=some o:=fun c o hc h=>by rw [av hc];exact h
  have g3:upd G2 dn (.dK (ix (es++[⟨n,key,t⟩]))) dn=some (.dK (ix (es++[⟨n,key,t⟩]))):=ay
  generalize upd G2 dn (.dK (ix (es++[⟨n,key,t⟩])))=G3 at k3 g3
  rw [hN]
  clear hN nn
  have ht2:=t02 _ _ ht
  have hb3:=k3 _ _ hnb.symm h12
  refine ar fun nn hN=>?_
  and_intros
  refine ⟨_,dx2,_,_,hb3,AF.c_Book,AF.n_Book_by_entry,kc ca dn de,de,_,rfl,.inr ⟨_,key,t,k3 _ _ hne.symm B2.he,rfl,k3 _ _ (hdt ht2).1 ht2,by show (jx es).length < _;unfold jx;rw [List.length_map];exact aq (by omega),rfl⟩,?_⟩
  rw [vF (sS hk),show jx es++[(key,V.int n)]=jx (es++[⟨n,key,t⟩]) from (wA es ⟨n,key,t⟩).symm]
  have k4:∀ c o,c≠de->G3 c=some o->upd G3 de (.dT (jx (es++[⟨n,key,t⟩]))) c=some o:=fun c o hc h=>by rw [av hc];exact h
  have g4:upd G3 de (.dT (jx (es++[⟨n,key,t⟩]))) de=some (.dT (jx (es++[⟨n,key,t⟩]))):=ay
  generalize upd G3 de (.dT (jx (es++[⟨n,key,t⟩])))=G4 at k4 g4
  rw [hN]
  clear hN nn
  and_intros
  refine k G4 (fun c o h1 h2 h=>k4 _ _ h2 (k3 _ _ h1 (t02 _ _ h))) ⟨⟨dx2,k4 _ _ heb.symm hb3⟩,k4 _ _ hne g3,g4,fun e he=>?_,?_,?_⟩
  ·rcases List.mem_append.mp he with he | he
   ·have:=B2.en e he
    exact k4 _ _ (hdt this).2 (k3 _ _ (hdt this).1 this)
   ·rw [List.mem_singleton.mp he]
    exact k4 _ _ (hdt ht2).2 (k3 _ _ (hdt ht2).1 ht2)
  ·rw [List.map_append];exact pJ B.nn hnn
  ·rw [List.map_append];exact pJ B.nk hk
def eT (Ad:Ads):Sp:=fun vs H Q _=>∃ (b ca dn de t:Addr) (es:List Ben) (key:List Key),vs=[.ref b,.ref t]/\bK Ad H b ca dn de es/\H t=some (.tup (key.map kV))/\gF key/\∀ v H',ao H H'->fK H' v (one (gu es key))->Q v H'
theorem iU:aD ["book","entry","number"] ["book","entry"] (ag cU):=⟨rfl,rfl,rfl,by decide +kernel,rfl,by decide +kernel,by decide +kernel⟩
theorem nE {f:Addr}{fd:FuncData} (F:Fun K "lone_group" "lone_group" cU f fd) (T:Bl mg) (AF:AdF K mg Ad) (M_Book_number:Mtd P w K mg base (CX1 P w) Ad.Book "number" 4 ["self","entry"] (dP Ad)):aW P w K mg base (CX1 P w) 5 f fd ["book","entry"] (eT Ad):=by
 refine F.okX (k:=4) iU (fun vs H Q E h=>?_) (fun cdv A outer s H vs Q E hr h=>?_)
 ·obtain ⟨b,ca,dn,de,t,es,key,rfl,_⟩:=h
  rfl
 ·obtain ⟨b,ca,dn,de,t,es,key,rfl,B,ht,eok,k⟩:=h
  have hu:=hr.aM
  have hu1:=aZ hr
  refine ⟨_,af (aw (i:=2) iU.nd (fP M_Book_number au (hr.mono (by decide)) (pvL 0) (ah (pvL 1) (ae)))) (ai (aF (i3 (aE cZ (pvL 2) (bg) (aH _)) (bg) (bh (ah (pvL 2) (ae)))))),?_⟩
  obtain ⟨dx,h1⟩:=B.bk
  obtain ⟨tt1,tt2⟩:=vd ht eok
  refine ar fun nn hN=>?_
  and_intros
  refine ⟨dx,_,h1,cm (by decide) (by decide) (by decide) ca dn de,b,ca,dn,de,es,.ref t,.tup,rfl,B,tt1,tt2,fun hv=>?_,fun q' key' e1 e2 e3=>⟨fun u hu ek G5 t5=>?_,fun hno G5 t5=>?_⟩⟩
  ·rw [pz ht eok] at hv;cases hv
  ·cases e1
   have ekk:key=key':=lA (by rw [ht] at e2;injection e2 with e2;injection e2)
   subst ekk
   rw [hN]
   clear hN nn
   and_intros
   refine ⟨Nat.le_of_lt (aq (by decide)),fun p H2 hp s2 h2=>k _ H2 (t5.trans s2) ?_⟩
   rw [← ek,wW B.nk hu]
   exact ⟨p,rfl,h2⟩
  ·cases e1
   have ekk:key=key':=lA (by rw [ht] at e2;injection e2 with e2;injection e2)
   subst ekk
   rw [hN]
   clear hN nn
   and_intros
   refine k _ G5 t5 ?_
   rw [wV hno]
   rfl
theorem zX {S L:List Nat}{j:Nat}{c:Nat} (h:(S++L).Perm (List.range' 97 26)) (hj:L[j]?=some c):((S++[c])++(L.take j++L.drop (j + 1))).Perm (List.range' 97 26):=by
 have e:L=L.take j++c::L.drop (j + 1):=by
  obtain ⟨hl,e⟩:=List.getElem?_eq_some_iff.mp hj
  rw [← e,List.getElem_cons_drop,List.take_append_drop]
 refine List.Perm.trans ?_ h
 conv=>rhs;rw [e]
 rw [List.append_assoc]
 exact List.Perm.append_left S (by
  rw [List.singleton_append]
  exact List.perm_middle.symm)
def iA (K:PySem.W.Frag) (Ad:Ads):Sp:=fun vs H Q _=>∃ (a:Addr) (ns:List Int),vs=[.ref a]/\SqL K H a (ns.map V.int)/\∀ ca al ws r H',ao H H'->dZ Ad H' ca al ws r->fH al ws r->Q (.ref ca) H'
theorem aT:aD ["_law_script","_law_left","_law_number","_law_m","_law_size","_law_signs","_law_k","_law_at","_law_weights","_law_one"] ["_law_script"] (ag eI):=⟨rfl,rfl,rfl,by decide +kernel,rfl,by decide +kernel,by decide +kernel⟩
theorem rK {f:Addr}{fd:FuncData} (F:Fun K "_law_code" "_law_code" eI f fd) (T:Bl mg) (AF:AdF K mg Ad) (C_law_weight:Fnc P w K mg base (CX1 P w) 2 "_law_weight" ["_law_weights","_law_m","_law_number"] gA) (C_law_mixed:Fnc P w K mg base (CX1 P w) 1 "_law_mixed" ["_law_cell"] cX) (C_law_cell_at:Fnc P w K mg base (CX1 P w) 1 "_law_cell_at" ["_law_script","_law_k"] (dS K)) (K_Code:Mak P w K mg base (CX1 P w) Ad.Code "Code" 4 ["self","alphabet","weights","rest"] (fw Ad)):aW P w K mg base (CX1 P w) 6 f fd ["_law_script"] (iA K Ad):=by
 refine F.okX (k:=5) aT (fun vs H Q E h=>?_) (fun cdv A outer s H vs Q E hr h=>?_)
 ·obtain ⟨a,ns,rfl,_⟩:=h
  rfl
 ·obtain ⟨a,ns,rfl,hS,k⟩:=h
  have hu:=hr.aM
  have hu1:=aZ hr
  refine ⟨_,af (aw (i:=1) aT.nd (aB)) (af (aw (i:=2) aT.nd (ax C_law_mixed au (hr.mono (by decide)) (ah (ax C_law_cell_at au (hr.mono (by decide)) (ah (pvL 0) (ah (ak) (ae)))) (ae)))) (af (aw (i:=3) aT.nd (aI aR (ak) (aI iJ (ak) (aI bc (pvL 2) (ak))))) (af (aw (i:=4) aT.nd (aI aR (ak) (aI bc (aI bU (pvL 2) (ak)) (ak)))) (af (aw (i:=2) aT.nd (aI bU (pvL 2) (ak))) (af (aw (i:=5) aT.nd (aB)) (af (fj PassesOwn.leaving rfl (eB T.range (ah (pvL 3) (ae))) (aL (i:=6) aT.nd) (af (aw (i:=7) aT.nd (aI bc (pvL 2) (aj (aJ (K:=K) rfl) T.len aU (ah (pvL 1) (ae))))) (af (aw (i:=2) aT.nd (aI bU (pvL 2) (aj (aJ (K:=K) rfl) T.len aU (ah (pvL 1) (ae))))) (af (aw (i:=5) aT.nd (aI aR (pvL 5) (bp (cH (K:=K) rfl) (pvL 1) (pvL 7) (fun _ _=>rfl)))) (ai (aw (i:=1) aT.nd (aI aR (cN (iW (K:=K) rfl) (pvL 1) (gR) (cp (pvL 7))) (cN (iW (K:=K) rfl) (pvL 1) (cp (aI aR (pvL 7) (ak))) (gR))))))))) (af (aw (i:=8) aT.nd (bh (ae))) (af (fj PassesOwn.leaving rfl (eB T.range (ah (pvL 4) (ae))) (aL (i:=6) aT.nd) (af (tO (ax C_law_weight au (hr.mono (by decide)) (ah (pvL 8) (ah (pvL 3) (ah (pvL 2) (ae))))) (qg (K:=K) (n:=2) rfl rfl (bu (aL (i:=9) aT.nd) (bu (aL (i:=2) aT.nd) (gf))))) (ai (di (cI (K:=K) rfl PySem.F.plainAttrs_list PySem.F.slot_list_append PySem.F.type_list_append fD (pvL 8) (ah (pvL 9) (ae))))))) (ai (aF (rR K_Code au (hr.mono (by decide)) (ah (pvL 5) (ah (pvL 8) (ah (aI bc (pvL 2) (pvL 3)) (ae))))))))))))))),?_⟩
  have big:∀ {u:Nat},u<=1000->u<=sizeLine:=fun hu=>Nat.le_of_lt (aq (by omega))
  refine ar fun nn hN=>?_
  and_intros
  rw [hN]
  clear hN nn
  refine ar fun nn hN=>?_
  and_intros
  refine ⟨a,ns,0,rfl,hS,by decide,?_⟩
  generalize ns.getD (0:Int).toNat 0=c0
  refine ⟨c0,rfl,?_⟩
  have n0:0<=m9 c0:=pI c0
  generalize m9 c0=num at n0
  rw [hN]
  clear hN nn
  refine ar fun nn hN=>?_
  and_intros
  refine ⟨by decide,.inl (by decide),?_⟩
  obtain ⟨m,em⟩:=Int.eq_ofNat_of_zero_le (a:=3 + 2 * (num % 12)) (by omega)
  have m3:3<=m:=by omega
  have m25:m<=25:=by omega
  have mo:m % 2=1:=by omega
  rw [em]
  rw [hN]
  clear hN nn
  refine ar fun nn hN=>?_
  and_intros
  refine ⟨⟨by decide,by decide⟩,by decide,?_⟩
  obtain ⟨z,ez⟩:=Int.eq_ofNat_of_zero_le (a:=3 + num / 12 % 6) (by omega)
  have z3:3<=z:=by omega
  have z8:z<=8:=by omega
  rw [ez]
  rw [hN]
  clear hN nn
  refine ar fun nn hN=>?_
  and_intros
  refine ⟨⟨by decide,by decide⟩,?_⟩
  have n1:0<=num / 72:=by omega
  generalize num / 72=nu at n1
  clear em ez n0
  rw [hN]
  clear hN nn
  refine ar fun nn hN=>?_
  and_intros
  rw [hN]
  clear hN nn
  refine ar fun nn hN=>?_
  and_intros
  refine ⟨by omega,by omega,gH (fun i σ H'=>H'=H/\∃ (L S:List Nat) (n:Int) (o6 o7:Option V),σ=[some (V.ref a),some (V.str (tx L)),some (V.int n),some (V.int m),some (V.int z),some (V.str (tx S)),o6,o7,none,none]/\0<=n/\S.length=i/\(S++L).Perm (List.range' 97 26)) ?_ ?_ ?_⟩
  ·exact ⟨rfl,List.range' 97 26,[],nu,_,_,rfl,n1,rfl,List.Perm.refl _⟩
  ·rintro i σ _ hi ⟨rfl,L,S,n,o6,o7,rfl,hn,hSl,hpm⟩ N hNx
   clear hN
   have hi':i < m:=by omega
   have ll:S.length + L.length=26:=by have:=hpm.length_eq;rw [List.length_append,List.length_range'] at this;exact this
   have i0:=Int.emod_nonneg n (b:=(L.length:Int)) (by omega)
   have i1:=Int.emod_lt_of_pos n (b:=(L.length:Int)) (by omega)
   obtain ⟨j,ej⟩:=Int.eq_ofNat_of_zero_le i0
   have hat:L[j]?=some (L[j]'(by omega)):=List.getElem?_eq_getElem _
   generalize L[j]'(by omega)=c at hat
   refine ar fun n2 hM=>?_
   and_intros
   rw [aY]
   refine ⟨big (by omega),by omega,?_⟩
   rw [ej]
   rw [hM]
   clear hM n2
   refine ar fun n2 hM=>?_
   and_intros
   rw [aY]
   refine ⟨big (by omega),⟨by omega,Int.lt_trans (show (L.length:Int) < 1000 by omega) (by decide)⟩,?_⟩
   rw [hM]
   clear hM n2
   refine ar fun n2 hM=>?_
   and_intros
   simp only [aY,df]
   refine ⟨big (by omega),c,bM (by omega) (by rw [Int.toNat_natCast];exact hat),?_⟩
   rw [show (⟨#[c]⟩:Str)=tx [c] from rfl]
   simp only [aY,ky]
   refine ⟨big (by simp;omega),?_⟩
   rw [hM]
   clear hM n2
   and_intros
   have e1:(j:Int) + 1=((j + 1:Nat):Int):=rfl
   simp only [aY,df,e1,nS,wq,ky]
   refine ⟨big (by omega),big (by omega),big (by simp;omega),hNx _ _ ⟨rfl,_,_,_,_,_,rfl,Int.ediv_nonneg hn (by omega),by rw [List.length_append,hSl];rfl,zX hpm hat⟩⟩
  rintro σ H ⟨rfl,L,S,n,o6,o7,rfl,hn,hSl,hpm⟩
  show nn _ _ _
  rw [hN]
  clear hN nn
  have snd:S.Nodup:=(List.nodup_append.mp (hpm.nodup_iff.mpr List.nodup_range')).1
  have smem:∀ c∈S,97<=c/\c < 123:=fun c hc=>by
   have:=hpm.mem_iff.mp (List.mem_append_left L hc)
   rw [List.mem_range'] at this
   obtain ⟨i,hi,rfl⟩:=this
   omega
  have sl:S.length=m:=by omega
  clear hpm
  refine ar fun nn hN=>?_
  and_intros
  refine ⟨Nat.zero_le _,fun D H1 hD s1 h1=>?_⟩
  rw [hN]
  clear hN nn
  refine ar fun nn hN=>?_
  and_intros
  refine ⟨by omega,by omega,gH (fun i σ H'=>∃ (fnd:List Int) (n:Int) (o6 o9:Option V),σ=[some (V.ref a),some (V.str (tx L)),some (V.int n),some (V.int m),some (V.int z),some (V.str (tx S)),o6,o7,some (V.ref D),o9]/\ao H H'/\H' D=some (.lst (fnd.map V.int))/\fnd.length=i/\0<=n/\(∀ x∈fnd,0<=x/\x < (m:Int))/\Mk.safe m fnd=true) ?_ ?_ ?_⟩
  ·exact ⟨[],n,_,_,rfl,s1,h1,rfl,hn,(fun x hx=>by cases hx),rfl⟩
  ·rintro i σ H2 hi ⟨fnd,n,o6,o9,rfl,s2,h2,fl,hn2,hb,hs⟩ N hNx
   clear hN
   have hi':i < z:=by omega
   refine ar fun n2 hM=>?_
   and_intros
   refine ⟨D,fnd,m,n,rfl,h2,by omega,m3,by omega,mo,hn2,hb,hs,fun q x n' H3 hq s3 h3 x1 x2 n'0=>?_⟩
   and_intros
   refine ⟨_,.inl (.of h3),rfl,?_⟩
   and_intros
   rw [hM]
   clear hM n2
   have h23:=s3 _ _ h2
   and_intros
   refine ⟨.inl ⟨rfl,_,.of h23⟩,D,_,_,rfl,rfl,h23,by rw [List.length_map];exact aq (by omega),hNx _ _ ⟨fnd++[x],_,_,_,rfl,(s2.trans s3).bD hD,by rw [ay,List.map_append];rfl,by rw [List.length_append,fl];rfl,n'0,fun y hy=>?_,x2⟩⟩
   rcases List.mem_append.mp hy with hy | hy
   ·exact hb y hy
   ·rw [List.mem_singleton.mp hy];exact x1
  rintro σ H2 ⟨fnd,n,o6,o9,rfl,s2,h2,fl,hn2,hb,hs⟩
  show nn _ _ _
  rw [hN]
  clear hN nn
  have r0:=Int.emod_nonneg n (b:=(m:Int)) (by omega)
  have r1:=Int.emod_lt_of_pos n (b:=(m:Int)) (by omega)
  have ok:fH S fnd (n % (m:Int)):=⟨by omega,by omega,snd,smem,by omega,by omega,by rw [sl];exact hb,by rw [sl];exact hs,r0,by rw [sl];exact r1⟩
  and_intros
  refine ⟨by omega,fun ca cd H3 hca hcd hcc s3 h3a h3d=>?_⟩
  refine wJ h3a (s3 _ _ h2) ok fun H4 s4 c4=>⟨rfl,k ca S fnd _ H4 (fun b o e=>?_) c4 ok⟩
  have hb:b≠ca:=fun e2=>by rw [← e2,s2 _ _ e] at hca;cases hca
  exact s4 b o hb (s3 _ _ (s2 _ _ e))
def gz (K:PySem.W.Frag) (Ad:Ads):Sp:=fun vs H Q _=>∃ (ca cl:Addr) (al:List Nat) (ws:List Int) (r:Int) (ns:List Int),vs=[.ref ca,.ref cl]/\dZ Ad H ca al ws r/\fH al ws r/\H Ad.tb=some (da n9)/\SqL K H cl (ns.map V.int)/\ns.length<=40 ∧
 ∀ b dn de es H',ao H H'->bK Ad H' b ca dn de es->es.length<=ns.length->(∀ e∈es,gF e.key/\0<=e.num/\e.num < eV al ws)->Q (.ref b) H'
theorem bt:aD ["_law_code_here","_law_cells","_law_book","_law_k","_law_cell","_law_number","_law_entry_here","_law_place"] ["_law_code_here","_law_cells"] (ag cS):=⟨rfl,rfl,rfl,by decide +kernel,rfl,by decide +kernel,by decide +kernel⟩
theorem nB {f:Addr}{fd:FuncData} (F:Fun K "_law_filled" "_law_filled" cS f fd) (T:Bl mg) (AF:AdF K mg Ad) (C_law_entry:Fnc P w K mg base (CX1 P w) 3 "_law_entry" ["_law_number"] hV) (C_law_mixed:Fnc P w K mg base (CX1 P w) 1 "_law_mixed" ["_law_cell"] cX) (M_Book_entries:Mtd P w K mg base (CX1 P w) Ad.Book "entries" 1 ["self"] (fk Ad)) (M_Code_many:Mtd P w K mg base (CX1 P w) Ad.Code "many" 1 ["self"] (cW Ad)) (M_Book_number:Mtd P w K mg base (CX1 P w) Ad.Book "number" 4 ["self","entry"] (dP Ad)) (M_Book_entry:Mtd P w K mg base (CX1 P w) Ad.Book "entry" 3 ["self","number"] (eS Ad)) (M_Book_put:Mtd P w K mg base (CX1 P w) Ad.Book "put" 5 ["self","entry","number"] (dC Ad)) (D_Book_put:Cd P w K mg base (CX1 P w) Ad.Book "put" 5 ["self","entry","number"] (dC Ad)) (K_Book:Mak P w K mg base (CX1 P w) Ad.Book "Book" 1 ["self","code"] (gY Ad)):aW P w K mg base (CX1 P w) 6 f fd ["_law_code_here","_law_cells"] (gz K Ad):=by
 refine F.okX (k:=5) bt (fun vs H Q E h=>?_) (fun cdv A outer s H vs Q E hr h=>?_)
 ·obtain ⟨ca,cl,al,ws,r,ns,rfl,_⟩:=h
  rfl
 ·obtain ⟨ca,cl,al,ws,r,ns,rfl,C,ok,Tb,hS,hlen,k⟩:=h
  have hu:=hr.aM
  have hu1:=aZ hr
  refine ⟨_,af (aw (i:=2) bt.nd (rR K_Book au (hr.mono (by decide)) (ah (pvL 0) (ae)))) (af (fj PassesOwn.leaving rfl (jH (K:=K) rfl T.enumerate (ah (pvL 1) (ae))) (jG (K:=K) (n:=2) rfl rfl (bu (aL (i:=3) bt.nd) (bu (aL (i:=4) bt.nd) (gf)))) (af (aw (i:=5) bt.nd (ax C_law_mixed au (hr.mono (by decide)) (ah (aI aR (aI iJ (ak) (pvL 4)) (pvL 3)) (ae)))) (af (aw (i:=6) bt.nd (ax C_law_entry au (hr.mono (by decide)) (ah (aI bU (pvL 5) (ak)) (ae)))) (af (aS ((jj (aE (bS (K:=K) rfl hu) (pvL 3) (ak) (aH _)) (gT (aE jh (aI bc (pvL 4) (ak)) (ak) (aH _)))).pt) (ai (aw (i:=6) bt.nd (cK (ah (aB) (ae))))) (aK)) (af (aS ((jj (aE mO (pvL 3) (ak) (aH _)) (gT (aE (bS (K:=K) rfl hu) (aI bc (pvL 4) (ak)) (ak) (aH _)))).pt) (ai (aw (i:=6) bt.nd (cK (ah (aB) (ah (bp (cH (K:=K) rfl) (aB) (aI bc (pvL 5) (ak)) (fun _ _=>rfl)) (ae)))))) (aK)) (ai (aS ((jj (aE cZ (fP M_Book_number au (hr.mono (by decide)) (pvL 2) (ah (pvL 6) (ae))) (bg) (aH _)) (gT (aE jh (aj (aJ (K:=K) rfl) T.len aU (ah (fE M_Book_entries au (hr.mono (by decide)) (pvL 2)) (ae))) (fE M_Code_many au (hr.mono (by decide)) (pvL 0)) (aH _)))).pt) (af (aw (i:=7) bt.nd (aI bc (bp (cH (K:=K) rfl) (bh (ah (aI bU (pvL 5) (ak)) (ah (aI bc (aI bU (pvL 5) (ak)) (ak)) (ae)))) (aI bc (pvL 5) (ak)) (fun _ _=>rfl)) (fE M_Code_many au (hr.mono (by decide)) (pvL 0)))) (ai (aS ((jj (aE cZ (fP M_Book_entry au (hr.mono (by decide)) (pvL 2) (ah (pvL 7) (ae))) (bg) (aH _)) (gT (aE mO (aI bc (pvL 5) (ak)) (ak) (aH _)))).pt) (ai (di (fP M_Book_put au (hr.mono (by decide)) (pvL 2) (ah (pvL 6) (ah (pvL 7) (ae)))))) (ai (di (ze D_Book_put au (hr.mono (by decide)) (pvL 2) (ah (pvL 6) (ae)))))))) (aK)))))))) (ai (aF (pvL 2)))),?_⟩
  have big:∀ {u:Nat},u<=1000->u<=sizeLine:=fun hu=>Nat.le_of_lt (aq (by omega))
  have a3:=ok.a3
  have a26:=ok.a26
  have w3:=ok.w3
  have w8:=ok.w8
  have hpos:0 < eV al ws:=Int.pow_pos (by omega)
  refine ar fun nn hN=>?_
  and_intros
  intro b bx G0 hb hbx hbb t0 g0 g0x
  refine ⟨b,bx,ca,rfl,g0,fun dn de G1 hdn hde ne1 ne2 ne3 k1 g1 gn ge=>⟨rfl,?_⟩⟩
  have s1:ao H G1:=fun x o e=>k1 x o (fun z=>by rw [z,hb] at e;cases e) (t0 _ _ e)
  have B1:bK Ad G1 b ca dn de []:=⟨⟨bx,g1⟩,gn,ge,(fun e he=>by cases he),.nil,.nil⟩
  have hdn0:H dn=none:=t0.free hdn
  have hde0:H de=none:=t0.free hde
  rw [hN]
  clear hN nn
  refine ar fun nn hN=>?_
  and_intros
  refine ⟨cl,rfl,⟨_,s1.seq hS⟩,?_⟩
  refine kh (xs:=ns.map V.int) (fun i σ H'=>(∃ o3 o4 o5 o6 o7,σ=[some (V.ref ca),some (V.ref cl),some (V.ref b),o3,o4,o5,o6,o7])/\ao H H'/\∃ es,bK Ad H' b ca dn de es/\es.length<=i/\∀ e∈es,gF e.key/\0<=e.num/\e.num < eV al ws) ?_ ?_ ?_ ?_
  ·exact ⟨⟨_,_,_,_,_,rfl⟩,s1,[],B1,Nat.le_refl _,fun e he=>by cases he⟩
  ·rintro i σ H' _ ⟨_,sH,_⟩
   exact sH.seq hS
  ·rintro i x σ A1 hx ⟨⟨o3,o4,o5,o6,o7,rfl⟩,sA,es,BA,el,hes⟩ N hNx p A2 zp t2 h2
   clear hN
   obtain ⟨c1,hci,rfl⟩:=rA hx
   have hi:i < ns.length:=(List.getElem?_eq_some_iff.mp hci).1
   refine ⟨p,_,rfl,.of h2,rfl,?_⟩
   have S2:=sA.trans t2
   have B2:=BA.same t2
   clear zp h2
   and_intros
   refine ar fun n2 hM=>?_
   and_intros
   refine ⟨.inl (by decide),_,rfl,?_⟩
   have hmx:0<=m9 (64 * c1 + (i:Int)):=pI _
   generalize m9 (64 * c1 + (i:Int))=nu at hmx
   rw [hM]
   clear hM n2
   refine ar fun n2 hM=>?_
   and_intros
   refine ⟨by decide,nu / 3,rfl,by omega,fun q G2 hq t3 ent=>?_⟩
   obtain ⟨ks,hq2,eok⟩:=Cp ent
   rw [hM]
   clear hM n2 ent
   have S3:=S2.trans t3
   refine ly (fun σ G=>∃ (q:Addr) (ks:List Key),σ=[some (V.ref ca),some (V.ref cl),some (V.ref b),some (V.int (i:Int)),some (V.int c1),some (V.int nu),some (V.ref q),o7]/\ao A2 G/\G q=some (.tup (ks.map kV))/\gF ks) ?_ ?_
   ·rintro σ G ⟨q,ks,rfl,tG,hqG,eok⟩
    clear hq2 hq t3 S3 G2
    refine ly (fun σ G=>∃ (q:Addr) (ks:List Key),σ=[some (V.ref ca),some (V.ref cl),some (V.ref b),some (V.int (i:Int)),some (V.int c1),some (V.int nu),some (V.ref q),o7]/\ao A2 G/\G q=some (.tup (ks.map kV))/\gF ks) ?_ ?_
    ·rintro σ G4 ⟨q,ks,rfl,t4,hq4,eok⟩
     have S4:=S2.trans t4
     have B4:=B2.same t4
     obtain ⟨dx4,h14⟩:=B4.bk
     obtain ⟨tt1,tt2⟩:=vd hq4 eok
     have keep:∀ G o,ao A2 G->N [some (V.ref ca),some (V.ref cl),some (V.ref b),some (V.int (i:Int)),some (V.int c1),some (V.int nu),some (V.ref q),o] G:=fun G o tG=>hNx _ _ ⟨⟨_,_,_,_,_,rfl⟩,S2.trans tG,es,B2.same tG,by omega,hes⟩
     and_intros
     refine ⟨dx4,_,h14,cm (by decide) (by decide) (by decide) ca dn de,b,ca,dn,de,es,.ref q,.tup,rfl,B4,tt1,tt2,fun hv=>?_,fun q' key e1 e2 e3=>⟨fun u hu ek G5 t5=>?_,fun hno G5 t5=>?_⟩⟩
     ·rw [pz hq4 eok] at hv;cases hv
     ·exact keep G5 _ (t4.trans t5)
     cases e1
     have ekk:ks=key:=lA (by rw [hq4] at e2;injection e2 with e2;injection e2)
     subst ekk
     have S5:=S4.trans t5
     have B5:=B4.same t5
     obtain ⟨dx5,h15⟩:=B5.bk
     show (if (true != false)=true then _ else _)
     rw [if_pos (by decide)]
     refine ⟨dx5,_,h15,cm (by decide) (by decide) (by decide) ca dn de,b,ca,dn,de,es,rfl,B5,by omega,fun D6 ws6 ms G6 hD6 t6 g6 mp ml hp=>?_⟩
     have C6:=C.same (S5.trans t6)
     obtain ⟨dc6,qc6,hc61,hc62⟩:=id C6
     refine ⟨_,.l g6,dc6,_,hc61,fN (by decide) (by decide) (by decide) al qc6 r,ca,al,ws,r,rfl,C6,a26,by omega,w8,fun G7 t7=>?_⟩
     have em:(al.length:Int) ^ (ws.length - 1)=eV al ws:=rfl
     rw [em,eA hp,mp.length_eq]
     have t57:=t5.trans (t6.trans t7)
     by_cases hl:(es.length:Int) < eV al ws
     ·and_intros
      rw [decide_eq_true hl,if_pos rfl]
      refine ar fun n2 hM=>?_
      and_intros
      refine ⟨⟨by decide,by decide⟩,⟨by decide,by decide⟩,by decide,big (by decide),fun p8 G8 z8 t8 g8=>⟨by decide,?_⟩⟩
      obtain ⟨v,hv⟩:∃ v:Int,atI [V.int (nu / 5),V.int (nu / 5 % 40)] (nu % 2)=some (.int v):=by
       rcases (show nu % 2=0 ∨ nu % 2=1 by omega) with e | e
       ·exact ⟨_,by rw [e];rfl⟩
       ·exact ⟨_,by rw [e];rfl⟩
      have t48:=t4.trans (t57.trans t8)
      have C8:=C.same (S2.trans t48)
      obtain ⟨dc8,qc8,hc81,hc82⟩:=id C8
      refine ⟨_,_,.inl (.of g8),hv,dc8,_,hc81,fN (by decide) (by decide) (by decide) al qc8 r,ca,al,ws,r,rfl,C8,a26,by omega,w8,fun G9 t9=>?_⟩
      rw [em]
      and_intros
      refine ⟨by omega,?_⟩
      have u0:=Int.emod_nonneg v (b:=eV al ws) (by omega)
      have u1:=Int.emod_lt_of_pos v (b:=eV al ws) (by omega)
      generalize v % eV al ws=pl at u0 u1
      clear hv g8
      rw [hM]
      clear hM n2
      have t49:=t48.trans t9
      have B9:=B2.same t49
      have C9:=C.same (S2.trans t49)
      have hq9:=(t57.trans (t8.trans t9)) _ _ hq4
      obtain ⟨dx9,h19⟩:=B9.bk
      have fin:∀ (n:Int) (G G':Hp),ao A2 G->0<=n->n < eV al ws->(∀ c o,c≠dn->c≠de->G c=some o->G' c=some o)->bK Ad G' b ca dn de (es++[⟨n,ks,q⟩])->N [some (V.ref ca),some (V.ref cl),some (V.ref b),some (V.int (i:Int)),some (V.int c1),some (V.int nu),some (V.ref q),some (V.int pl)] G':=fun n G G' tG n0 n1 hs BG=>hNx _ _ ⟨⟨_,_,_,_,_,rfl⟩,fun x o e=>hs x o (fun z=>by rw [z,hdn0] at e;cases e) (fun z=>by rw [z,hde0] at e;cases e) ((S2.trans tG) _ _ e),es++[⟨n,ks,q⟩],BG,by rw [List.length_append];show es.length + 1<=_;omega,fun e he=>(List.mem_append.mp he).elim (hes e) fun h=>by rw [List.mem_singleton.mp h];exact ⟨eok,n0,n1⟩⟩
      have els:∀ (G:Hp),ao G9 G->∃ dx fs,G b=some (HO.ins Ad.Book dx fs)/\List.lookup (Str.ofString "put") fs=none/\spD (dC Ad) [V.ref b,V.ref q] G (fun x H1=>N [some (V.ref ca),some (V.ref cl),some (V.ref b),some (V.int (i:Int)),some (V.int c1),some (V.int nu),some (V.ref q),some (V.int pl)] H1) E:=fun G tG=>by
       have BG:=B9.same tG
       obtain ⟨dxG,h1G⟩:=BG.bk
       obtain ⟨n,Lf,hn⟩:=yJ (es.map (·.num))
       rw [List.length_map] at hn
       refine ⟨dxG,_,h1G,cm (by decide) (by decide) (by decide) ca dn de,?_⟩
       refine ⟨b,ca,dn,de,q,es,al,ws,r,n,ks,.non,rfl,BG,C9.same tG,ok,(S2.trans (t49.trans tG)) _ _ Tb,tG _ _ hq9,eok,hno,by omega,by omega,by omega,Lf.2.1,.inr ⟨rfl,Lf⟩,fun GA kA BA=>?_⟩
       exact fin n G GA (t49.trans tG) (by omega) (by omega) kA BA
      and_intros
      refine ⟨dx9,_,h19,cm (by decide) (by decide) (by decide) ca dn de,b,ca,dn,de,es,al,ws,r,.int pl,.int,rfl,B9,C9,ok,rfl,(fun h=>by rw [jZ u0 u1] at h;cases h),(fun n e _ _ hn GA tA=>?_),fun n e _ _ x hx ex GA tA=>?_⟩
      ·cases e
       show (if (true != false)=true then _ else _)
       rw [if_pos (by decide)]
       refine ⟨by decide,?_⟩
       by_cases h3:0 < nu % 3
       ·rw [if_pos (decide_eq_true h3)]
        have BA:=B9.same tA
        obtain ⟨dxA,h1A⟩:=BA.bk
        refine ⟨dxA,_,h1A,cm (by decide) (by decide) (by decide) ca dn de,b,ca,dn,de,q,es,al,ws,r,pl,ks,.int pl,rfl,BA,C9.same tA,ok,(S2.trans (t49.trans tA)) _ _ Tb,tA _ _ hq9,eok,hno,by omega,u0,u1,hn,.inl rfl,fun GB kB BB=>?_⟩
        exact fin pl GA GB (t49.trans tA) u0 u1 kB BB
       ·rw [if_neg (by rw [decide_eq_false h3];decide)]
        exact els GA tA
      ·exact els GA tA
     ·and_intros
      rw [decide_eq_false hl,if_neg (by decide)]
      exact keep G7 _ (t4.trans t57)
    ·intro U hU
     and_intros
     by_cases h0:i > 0
     ·rw [if_pos (decide_eq_true (by omega))]
      refine ⟨by decide,?_⟩
      by_cases h7:c1 % 7=0
      ·rw [if_pos (decide_eq_true h7)]
       have ht:∀ n:Int,0<=n->n < 3->∃ c:Nat,atI (Str.ofString "abc").cps.toList n=some c/\97<=c/\c < 123:=fun n h0 h3=>by
        rcases (show n=0 ∨ n=1 ∨ n=2 by omega) with rfl | rfl | rfl
        ·exact ⟨97,rfl,by decide,by decide⟩
        ·exact ⟨98,rfl,by decide,by decide⟩
        ·exact ⟨99,rfl,by decide,by decide⟩
       obtain ⟨c,hc,c1',c2'⟩:=ht (nu % 3) (by omega) (by omega)
       refine ⟨by decide,big (by decide),c,hc,big (by decide),fun q5 G5 w5 t5 g5=>?_⟩
       refine hU _ _ ⟨q5,[.inr ("part":Str),.inr (tx [c])],rfl,tG.trans t5,g5,vc ?_⟩
       unfold bL
       simp [c1',c2']
      ·rw [if_neg (by rw [decide_eq_false h7];decide)]
       exact hU _ _ ⟨q,ks,rfl,tG,hqG,eok⟩
     ·rw [if_neg (by rw [decide_eq_false (by omega)];decide)]
      exact hU _ _ ⟨q,ks,rfl,tG,hqG,eok⟩
   ·intro U hU
    and_intros
    by_cases h0:i=0
    ·rw [if_pos (decide_eq_true (by omega))]
     refine ⟨by decide,?_⟩
     by_cases h7:c1 % 4 < 3
     ·rw [if_pos (decide_eq_true h7)]
      refine ⟨big (by decide),fun q5 G5 w5 t5 g5=>?_⟩
      exact hU _ _ ⟨q5,[.inr ("end":Str)],rfl,t3.trans t5,g5,yd⟩
     ·rw [if_neg (by rw [decide_eq_false h7];decide)]
      exact hU _ _ ⟨q,ks,rfl,t3,hq2,eok⟩
    ·rw [if_neg (by rw [decide_eq_false (by omega)];decide)]
     exact hU _ _ ⟨q,ks,rfl,t3,hq2,eok⟩
  rintro σ H2 ⟨⟨o3,o4,o5,o6,o7,rfl⟩,s2,es,B2,el,hes⟩
  show nn _ _ _
  rw [hN]
  clear hN nn
  and_intros
  exact k b dn de es H2 s2 B2 (by rw [List.length_map] at el;exact el) hes
def fZ (Ad:Ads):Sp:=fun vs H Q _=>∃ (b ca dn de:Addr) (es:List Ben) (w:List Nat),vs=[.ref b,.str (tx w)]/\bK Ad H b ca dn de es/\fJ w/\H Ad.tb1=some (da ir)/\∀ v H',ao H H'->fK H' v (eO es w)->Q v H'
theorem fT:aD ["book","word","close","parts"] ["book","word"] (ag cG):=⟨rfl,rfl,rfl,by decide +kernel,rfl,by decide +kernel,by decide +kernel⟩
theorem mM {f:Addr}{fd:FuncData} (F:Fun K "spelling_of" "spelling_of" cG f fd) (T:Bl mg) (AF:AdF K mg Ad) (CD:fd.code=.ref Ad.cd1) (C_fewest:ur P w K mg base (CX1 P w) 2 "fewest" ["many","longest","step"] iL) (C_lone_group:Fnc P w K mg base (CX1 P w) 5 "lone_group" ["book","entry"] (eT Ad)):aW P w K mg base (CX1 P w) 8 f fd ["book","word"] (fZ Ad):=by
 refine F.okT (k:=7) CD fT (fun vs H Q E h=>?_) (fun A outer s H vs Q E hr h=>?_)
 ·obtain ⟨b,ca,dn,de,es,w,rfl,_⟩:=h
  rfl
 ·obtain ⟨b,ca,dn,de,es,w,rfl,B,⟨w1,w20,wl⟩,Tb,k⟩:=h
  have hu:=hr.aM
  have hu1:=aZ hr
  refine ⟨_,af (aw (i:=2) fT.nd (ax C_lone_group au (hr.mono (by decide)) (ah (pvC 0) (ah (cK (ah (aB) (ae))) (ae))))) (af (aS (aE cZ (pvL 2) (bg) (aH _)) (ai (aF (bg))) (aK)) (af (aw (i:=3) fT.nd (bp (cH (K:=K) rfl) (oK (k:=5) (ps:=["begin","behind"]) (fr:=["book","word"]) (js:=[0,1]) (q:=ir) C_fewest rfl rfl au (hr.mono (by decide)) (aj (aJ (K:=K) rfl) T.len aU (ah (pvC 1) (ae))) (cx AF.v_MOST_PART_LETTERS) rfl AF.t_tab1 (by kernel_rfl) rfl (.cons ⟨rfl,.inr (.inl rfl),rfl,by decide +kernel,rfl⟩ (.cons ⟨rfl,.inr (.inl rfl),rfl,by decide +kernel,rfl⟩ (.nil))) (fun _ _ _=>L2.bQ fun _ _=>rfl) (fun _ _ _ _ _ _ hr=>ax C_lone_group gw (hr.mono (by decide)) (ah (pvF 2) (ah (cK (ah (aB) (ah (cN (iW (K:=K) rfl) (pvF 3) (cp (pvL 0)) (cp (pvL 1))) (ae)))) (ae)))) (by decide +kernel) (by decide +kernel)) (jF ia (ak)) (fun _ _=>rfl))) (ai (aF (i3 (aE cZ (pvL 3) (bg) (aH _)) (bg) (aI aR (pvL 3) (pvL 2))))))),?_⟩
  have big:∀ {u:Nat},u<=90000->u<=sizeLine:=fun hu=>Nat.le_of_lt (aq (by omega))
  refine ar fun nn hN=>?_
  and_intros
  refine ⟨big (by decide),fun p1 H1 hp1 s1 h1=>⟨b,ca,dn,de,p1,es,wz,rfl,B.same s1,h1,yd,fun v H2 s2 hv=>?_⟩⟩
  rw [hN]
  clear hN nn
  have s12:=s1.trans s2
  cases he:gu es wz with
  | none =>
   rw [he] at hv
   have hv0:v=.non:=hv
   subst hv0
   refine ar fun nn hN=>?_
   and_intros
   refine k _ H2 s12 ?_
   unfold eO;rw [he];rfl
  | some e =>
   rw [he] at hv
   obtain ⟨pc,rfl,hpc⟩:=hv
   refine ar fun nn hN=>?_
   and_intros
   rw [hN]
   clear hN nn
   refine ar fun nn hN=>?_
   and_intros
   rw [aY]
   refine ⟨big (by omega),s12 _ _ Tb,fun f H3 hf s3 lam=>?_⟩
   have s13:=s12.trans s3
   refine ⟨w.length,6,f,fun i j=>one (gu es (kR (dY w i j))),rfl,by omega,by decide,by decide,(fun i j l h=>Nat.le_trans (pW h) (by decide)),fun i j hij hjn hlg G Q' tG hQ=>?_,fun p svs H4 hp s4 h4 hP _=>?_⟩
   ·refine ⟨_,rfl,_,rfl,_,rfl,_,rfl,_,rfl,_,rfl,?_⟩
    and_intros
    rw [aY,df,xZ (by omega) hjn]
    have hl:=jV (w:=w) (i:=i) (j:=j) (by omega) hjn
    refine ⟨big (by omega),big (by decide),fun pt G1 hpt t1 g1=>⟨b,ca,dn,de,pt,es,kR (dY w i j),rfl,B.same (s13.trans (tG.trans t1)),g1,vc ?_,fun v G2 t2 hv=>hQ v G2 (t1.trans t2) hv⟩⟩
    unfold bL
    rw [hl,Bool.and_eq_true,Bool.and_eq_true,decide_eq_true_eq,decide_eq_true_eq,List.all_eq_true]
    exact ⟨⟨by omega,by omega⟩,fun c hc=>decide_eq_true (wl c (iE hc))⟩
   have lsv:svs.length=w.length + 1:=by rw [eA hP,bX]
   have hsv:svs[w.length]?=some (svs[w.length]'(by omega)):=List.getElem?_eq_getElem _
   generalize svs[w.length]'(by omega)=v at hsv
   obtain ⟨o,ho,hvo⟩:=eh hP hsv
   have hgd:(iS es w).getD w.length none=o:=by rw [List.getD_eq_getElem?_getD,show (iS es w)[w.length]?=some o from ho];rfl
   have hpc4:=(s3.trans s4) _ _ hpc
   and_intros
   refine ⟨_,_,.inl (.of h4),iF (v:=v) (by rw [List.getLast?_eq_getElem?,lsv];exact hsv),?_⟩
   rw [hN]
   clear hN nn
   cases o with
   | none =>
    have hv0:v=.non:=hvo
    subst hv0
    and_intros
    refine k _ H4 (s13.trans s4) ?_
    unfold eO;rw [he]
    show fK H4 V.non (match (iS es w).getD w.length none with | none=>none | some l=>some (l++[e]))
    rw [hgd]
    rfl
   | some l =>
    obtain ⟨pl,rfl,hpl⟩:=hvo
    have ll:l.length<=1 * w.length:=ki (m:=1) (lg:=6) (F:=fun i j=>one (gu es (kR (dY w i j)))) (fun i j l h=>pW h) w.length w.length l ho
    and_intros
    refine ⟨_,_,hpl,hpc4,big (by rw [List.length_map];show _ + 1<=_;omega),fun D H5 hD s5 h5=>k _ H5 (s13.trans (s4.trans s5)) ?_⟩
    unfold eO;rw [he]
    show fK H5 (V.ref D) (match (iS es w).getD w.length none with | none=>none | some l=>some (l++[e]))
    rw [hgd]
    refine ⟨D,rfl,?_⟩
    rw [h5,List.map_append]
    try rfl
def hZ (Ad:Ads):Sp:=fun vs H Q _=>∃ (b ca dn de q:Addr) (es:List Ben) (ws:List (List Nat)),vs=[.ref b,.ref q]/\bK Ad H b ca dn de es/\H q=some (.lst (ws.map fun w=>V.str (tx w)))/\1<=ws.length/\ws.length<=6/\(∀ w∈ws,fJ w)/\H Ad.tb1=some (da ir)/\∀ v H',ao H H'->fK H' v (iC es ws)->Q v H'
theorem jP:aD ["book","words","phrase"] ["book","words"] (ag dA):=⟨rfl,rfl,rfl,by decide +kernel,rfl,by decide +kernel,by decide +kernel⟩
theorem pV {f:Addr}{fd:FuncData} (F:Fun K "step_over" "step_over" dA f fd) (T:Bl mg) (AF:AdF K mg Ad) (C_spelling_of:Fnc P w K mg base (CX1 P w) 8 "spelling_of" ["book","word"] (fZ Ad)) (C_lone_group:Fnc P w K mg base (CX1 P w) 5 "lone_group" ["book","entry"] (eT Ad)):aW P w K mg base (CX1 P w) 9 f fd ["book","words"] (hZ Ad):=by
 refine F.okX (k:=8) jP (fun vs H Q E h=>?_) (fun cdv A outer s H vs Q E hr h=>?_)
 ·obtain ⟨b,ca,dn,de,q,es,ws,rfl,_⟩:=h
  rfl
 ·obtain ⟨b,ca,dn,de,q,es,ws,rfl,B,hq,w1,w6,hw,Tb,k⟩:=h
  have hu:=hr.aM
  have hu1:=aZ hr
  refine ⟨_,af (aw (i:=2) jP.nd (ax C_lone_group au (hr.mono (by decide)) (ah (pvL 0) (ah (cK (ah (aB) (ah (cI (K:=K) rfl PySem.F.plainAttrs_str PySem.F.slot_str_join PySem.F.type_str_join (eZ (K:=K) rfl) (aB) (ah (pvL 1) (ae))) (ae)))) (ae))))) (af (aS ((jj (aE cZ (pvL 2) (bg) (aH _)) (gT (aE (bS (K:=K) rfl hu) (aj (aJ (K:=K) rfl) T.len aU (ah (pvL 1) (ae))) (ak) (aH _)))).pt) (ai (aF (ax C_spelling_of au (hr.mono (by decide)) (ah (pvL 0) (ah (bp (cH (K:=K) rfl) (pvL 1) (ak) (fun _ _=>rfl)) (ae)))))) (aK)) (ai (aF (pvL 2)))),?_⟩
  have big:∀ {u:Nat},u<=90000->u<=sizeLine:=fun hu=>Nat.le_of_lt (aq (by omega))
  obtain ⟨j1,j2⟩:=j4 (ws:=ws) (by omega) hw
  refine ar fun nn hN=>?_
  and_intros
  have ejs:(ws.map fun w=>V.str (tx w))=(ws.map tx).map V.str:=by rw [List.map_map];rfl
  have lsum:((ws.map tx).map fun x=>x.length).sum<=(ws.map fun w=>w.length + 1).sum:=by
   rw [List.map_map]
   have e:ws.map ((fun z:Str=>z.length) ∘ tx)=ws.map fun w=>w.length:=List.map_congr_left fun w _=>aY w
   rw [e]
   clear e j1 j2 ejs hq k hN w1 w6 hw
   induction ws with
   | nil=>simp
   | cons w r ih=>simp only [List.map_cons,List.sum_cons];omega
  have e1:(Str.ofString " ").length=1:=rfl
  refine ⟨rfl,ws.map tx,.of (by rw [hq,ejs]),by rw [e1,List.length_map];omega,big (by decide),fun p1 H1 hp1 s1 h1=>?_⟩
  rw [show (Str.ofString " ")=tx [32] from rfl,iN] at h1
  have pok:gF (rS (Mk.br 32 ws)):=Co w1 w6 hw
  refine ⟨b,ca,dn,de,p1,es,rS (Mk.br 32 ws),rfl,B.same s1,h1,pok,fun v H2 s2 hv=>?_⟩
  have s12:=s1.trans s2
  rw [hN]
  clear hN nn
  cases hn:gu es (rS (Mk.br 32 ws)) with
  | some n =>
   rw [hn] at hv
   obtain ⟨pp,rfl,hpp⟩:=hv
   refine ar fun nn hN=>?_
   and_intros
   rw [hN]
   clear hN nn
   and_intros
   refine k _ H2 s12 ?_
   unfold iC;rw [hn]
   exact ⟨pp,rfl,hpp⟩
  | none =>
   rw [hn] at hv
   have hv0:v=.non:=hv
   subst hv0
   refine ar fun nn hN=>?_
   and_intros
   refine ⟨_,.inl (.of (s12 _ _ hq)),?_⟩
   rw [List.length_map]
   by_cases hl:ws.length=1
   ·rw [if_pos (decide_eq_true (by omega))]
    have hg:ws[0]?=some (ws.getD 0 []):=by rw [List.getD_eq_getElem?_getD,List.getElem?_eq_getElem (by omega)];rfl
    refine ⟨_,_,.inl (.of (s12 _ _ hq)),bM (by decide) (by rw [List.getElem?_map];show (ws[0]?).map _=_;rw [hg];rfl),b,ca,dn,de,es,ws.getD 0 [],rfl,B.same s12,hw _ (List.mem_of_getElem? hg),s12 _ _ Tb,fun v H3 s3 hv=>k v H3 (s12.trans s3) ?_⟩
    unfold iC;rw [hn]
    show fK H3 v (if ws.length=1 then eO es (ws.getD 0 []) else none)
    rw [if_pos hl];exact hv
   ·rw [if_neg (by rw [decide_eq_false (by omega)];decide)]
    show nn _ _ _
    rw [hN]
    clear hN nn
    and_intros
    refine k _ H2 s12 ?_
    unfold iC;rw [hn]
    show fK H2 V.non (if ws.length=1 then eO es (ws.getD 0 []) else none)
    rw [if_neg hl];rfl
def dW (Ad:Ads):Sp:=fun vs H Q E=>(∃ (b ca dn de:Addr) (es:List Ben) (ws:List (List Nat)),vs=[.ref b,.str (tx (Mk.br 32 ws))]/\bK Ad H b ca dn de es/\1<=ws.length/\ws.length<=60/\(∀ w∈ws,fJ w)/\H Ad.tb1=some (da ir)/\H Ad.tb2=some (da j6)/\∀ p svs H',H p=none->ao H H'->H' p=some (.lst svs)->Paired (fK H') svs (setB es ws)->(∀ v∈svs,∀ a,v=V.ref a->H a=none)->Q (.ref p) H') ∨ Cf Ad vs H E
theorem i5:aD ["book","text","words"] ["book","text"] (ag cF):=⟨rfl,rfl,rfl,by decide +kernel,rfl,by decide +kernel,by decide +kernel⟩
theorem mL {f:Addr}{fd:FuncData} (F:Fun K "settings_of" "settings_of" cF f fd) (T:Bl mg) (AF:AdF K mg Ad) (CD:fd.code=.ref Ad.cd2) (C_fewest:ur P w K mg base (CX1 P w) 2 "fewest" ["many","longest","step"] iL) (C_step_over:Fnc P w K mg base (CX1 P w) 9 "step_over" ["book","words"] (hZ Ad)) (C_is_text:Fnc P w K mg base (CX1 P w) 3 "is_text" ["thing"] hO):aW P w K mg base (CX1 P w) 12 f fd ["book","text"] (dW Ad):=by
 refine F.okT (k:=11) CD i5 (fun vs H Q E h=>?_) (fun A outer s H vs Q E hr h=>?_)
 ·rcases h with ⟨b,ca,dn,de,es,ws,rfl,_⟩ | ⟨b,x,t,rfl,_⟩
  ·rfl
  rfl
 ·have hu:=hr.aM
  have hu1:=aZ hr
  refine ⟨_,af (aS (bO (bT (ax C_is_text au (hr.mono (by decide)) (ah (pvL 1) (ae))))) (ai (cO PySem.F.excBase_ValueError AF.q_NoText AF.g_NoText bZ rfl (ah (aB) (ae)))) (aK)) (af (vD (i:=2) i5.nd (cI (K:=K) rfl PySem.F.plainAttrs_str PySem.F.slot_str_split PySem.F.type_str_split j9 (pvL 1) (ah (aB) (ae)))) (ai (aF (oK (k:=9) (ps:=["begin","behind"]) (fr:=["book","words"]) (js:=[0,2]) (q:=j6) C_fewest rfl rfl au (hr.mono (by decide)) (aj (aJ (K:=K) rfl) T.len aU (ah (pvC 2) (ae))) (cx AF.v_MOST_PHRASE_WORDS) rfl AF.t_tab2 (by kernel_rfl) rfl (.cons ⟨rfl,.inr (.inl rfl),rfl,by decide +kernel,rfl⟩ (.cons ⟨rfl,.inr (.inl rfl),rfl,by decide +kernel,rfl⟩ (.nil))) (fun _ _ _=>L2.bQ fun _ _=>rfl) (fun _ _ _ _ _ _ hr=>ax C_step_over gw (hr.mono (by decide)) (ah (pvF 2) (ah (cN (iW (K:=K) rfl) (pvF 3) (cp (pvL 0)) (cp (pvL 1))) (ae)))) (by decide +kernel) (by decide +kernel))))),?_⟩
  have big:∀ {u:Nat},u<=90000->u<=sizeLine:=fun hu=>Nat.le_of_lt (aq (by omega))
  rcases h with ⟨b,ca,dn,de,es,ws,rfl,B,w1,w60,hw,Tb,Tb2,k⟩ | ⟨b,x,t,rfl,ht,hz,hno,k⟩
  rotate_left
  ·refine ar fun nn hN=>?_
   and_intros
   refine ⟨x,t,rfl,ht,hz,fun H1 s1=>⟨_,rfl,?_⟩⟩
   rw [hno]
   bv_omega
   and_intros
   exact ⟨big (by decide),k H1 s1⟩
  obtain ⟨j1,j2⟩:=j4 (ws:=ws) (by omega) hw
  have isT:dm 60 (Mk.br 32 ws)=true:=jY w1 w60 hw
  refine ar fun nn hN=>?_
  and_intros
  refine ⟨_,.str,rfl,rfl,(fun z ez=>by cases ez;rw [aY];omega),fun H1 s1=>⟨_,rfl,?_⟩⟩
  rw [show bP 60 (.str (tx (Mk.br 32 ws)))=true by show dm 60 (tx _).cps.toList=_;rw [df];exact isT]
  bv_omega
  show nn _ _ _
  rw [hN]
  clear hN nn
  refine ar fun nn hN=>?_
  and_intros
  refine ⟨rfl,by rw [aY];omega,32,rfl,fun pw H2 hpw s2 h2=>?_⟩
  rw [df,Mk.fe ws (fun e=>by rw [e] at w1;simp at w1) fun w hw' hc=>by have:=(hw w hw').2.2 32 hc;omega] at h2
  have s12:=s1.trans s2
  rw [hN]
  clear hN nn
  and_intros
  refine ⟨_,.inl (.of h2),?_⟩
  rw [List.length_map]
  refine ⟨s12 _ _ Tb2,fun f H3 hf s3 lam=>?_⟩
  have s13:=s12.trans s3
  refine ⟨ws.length,6,f,fun i j=>iC es (dY ws i j),rfl,by omega,by decide,by decide,(fun i j l h=>Nat.le_trans (sq (fun w hw'=>(hw w (iE hw')).2.1) h) (by decide)),fun i j hij hjn hlg G Q' tG hQ=>?_,fun p svs H4 hp s4 h4 hP hfr=>k p svs H4 (s13.free hp) (s13.trans s4) h4 hP fun v hv a z=>s13.free (hfr v hv a z)⟩
  refine ⟨_,rfl,_,rfl,_,rfl,_,rfl,_,rfl,_,rfl,?_⟩
  and_intros
  have hl:=jV (w:=ws) (i:=i) (j:=j) (by omega) hjn
  have hpwG:=(s3.trans tG) _ _ h2
  refine ⟨_,.of hpwG,fun pc G1 hpc t1 g1=>?_⟩
  rw [wu (by omega) hjn] at g1
  have sG1:=s13.trans (tG.trans t1)
  exact ⟨b,ca,dn,de,pc,es,dY ws i j,rfl,B.same sG1,g1,by omega,by omega,(fun w hw'=>hw w (iE hw')),sG1 _ _ Tb,fun v G2 t2 hv=>hQ v G2 (t1.trans t2) hv⟩
def lgF (H:Hp) (v:V):V:=match v with
 | .ref a=>match H a with
  | some (.lst xs)=>.int xs.length
  | _=>.non
 | _=>.non
theorem vy {H:Hp}{a:Addr}{xs:List V} (h:H a=some (.lst xs)):lgF H (.ref a)=.int xs.length:=by
 show (match H a with | some (.lst xs)=>V.int xs.length | _=>V.non)=_
 rw [h]
theorem vx {H:Hp}:∀ {vs:List V}{os:List OG},Paired (fK H) vs os->vs.map (lgF H)=os.map lgV
 | _,_,.nil=>rfl
 | v::vs,o::os,.cons h r=>by
  rw [List.map_cons,List.map_cons,vx r]
  congr 1
  cases o with
  | none=>have h:v=.non:=h;rw [h];rfl
  | some l =>
   obtain ⟨a,rfl,h⟩:=h
   rw [vy h,List.length_map]
   rfl
def dj (Ad:Ads):Sp:=fun vs H Q E=>(∃ (b ca dn de:Addr) (es:List Ben) (ws:List (List Nat)),vs=[.ref b,.str (tx (Mk.br 32 ws))]/\bK Ad H b ca dn de es/\1<=ws.length/\ws.length<=60/\(∀ w∈ws,fJ w)/\H Ad.tb1=some (da ir)/\H Ad.tb2=some (da j6)/\∀ p H',H p=none->ao H H'->H' p=some (.lst ((setB es ws).map lgV))->Q (.ref p) H') ∨ Cf Ad vs H E
theorem lr:aD ["book","text"] ["book","text"] (ag cf):=⟨rfl,rfl,rfl,by decide +kernel,rfl,by decide +kernel,by decide +kernel⟩
theorem lh {f:Addr}{fd:FuncData} (F:Fun K "least_groups" "least_groups" cf f fd) (T:Bl mg) (AF:AdF K mg Ad) (C_settings_of:Fnc P w K mg base (CX1 P w) 12 "settings_of" ["book","text"] (dW Ad)):aW P w K mg base (CX1 P w) 13 f fd ["book","text"] (dj Ad):=by
 refine F.okX (k:=12) lr (fun vs H Q E h=>?_) (fun cdv A outer s H vs Q E hr h=>?_)
 ·rcases h with ⟨b,ca,dn,de,es,ws,rfl,_⟩ | ⟨b,x,t,rfl,_⟩
  ·rfl
  rfl
 ·have hu:=hr.aM
  have hu1:=aZ hr
  refine ⟨_,ai (aF (iT ["groups"] rfl ⟨rfl,by decide +kernel,rfl,by decide +kernel⟩ (.nil) (by decide +kernel) (dN (K:=K) rfl (ax C_settings_of au (hr.mono (by decide)) (ah (pvL 0) (ah (pvL 1) (ae))))) (fun _ _ _ _=>aL (i:=0) (show (["groups"]:List Str).Nodup from by decide +kernel)) (fun _ _ _ _=>fq) (fun _ _ _ _=>i3 (aE cZ (pvL 0) (bg) (aH _)) (bg) (aj (aJ (K:=K) rfl) T.len aU (ah (pvL 0) (ae)))))),?_⟩
  rcases h with ⟨b,ca,dn,de,es,ws,rfl,B,w1,w60,hw,Tb,Tb2,k⟩ | hno
  rotate_left
  ·obtain ⟨b,x,t,rfl,ht,hz,hno,k⟩:=hno
   and_intros
   exact .inr ⟨b,x,t,rfl,ht,hz,hno,k⟩
  and_intros
  refine .inl ⟨b,ca,dn,de,es,ws,rfl,B,w1,w60,hw,Tb,Tb2,fun p svs H1 hp s1 h1 hP hfr=>?_⟩
  and_intros
  have lsv:svs.length=ws.length + 1:=by rw [eA hP];exact bX _ _ _
  refine .inl ⟨⟨_,.of h1⟩,wO (α:=V) id (fun a b h=>h) (by rw [List.map_id];exact fU (.of h1)) (aq (by omega)) (lgF H1) ?_ ?_⟩
  ·intro v hv H2 s2 R hR
   obtain ⟨i,hi,ei⟩:=List.getElem_of_mem hv
   obtain ⟨o,ho,hvo⟩:=eh hP (by rw [List.getElem?_eq_getElem hi,ei])
   cases o with
   | none =>
    have hv0:v=.non:=hvo
    subst hv0
    and_intros
    exact hR H2 (ao.refl _)
   | some l =>
    obtain ⟨a,rfl,ha⟩:=hvo
    and_intros
    refine ⟨_,.inl (.of (s2 _ _ ha)),?_⟩
    have:lgF H1 (V.ref a)=.int (l.map V.int).length:=vy ha
    rw [← this]
    exact hR H2 (ao.refl _)
  ·intro D H2 hD s2 h2
   rw [vx hP] at h2
   exact k D H2 (s1.free hD) (s1.trans s2) h2
def cj (os:List OG) (i:Nat):Bool:=match os[i]? with
 | some (some _)=>true
 | _=>false
theorem oQ {os:List OG}{i:Nat} (h:cj os i=true):∃ l,os[i]?=some (some l):=by
 unfold cj at h
 split at h
 ·rename_i l e;exact ⟨l,e⟩
 ·cases h
theorem EL (es:List Ben) (ws:List (List Nat)):cj (setB es ws) 0=true:=by
 unfold cj setB
 rw [Bt]
def Bu (os:List OG) (n:Int):Prop:=(∃ i:Nat,n=i/\∃ l,os[i]?=some (some l))/\∀ (j:Nat) l,os[j]?=some (some l)->(j:Int)<=n
def eU (Ad:Ads):Sp:=fun vs H Q E=>(∃ (b ca dn de:Addr) (es:List Ben) (ws:List (List Nat)),vs=[.ref b,.str (tx (Mk.br 32 ws))]/\bK Ad H b ca dn de es/\1<=ws.length/\ws.length<=60/\(∀ w∈ws,fJ w)/\H Ad.tb1=some (da ir)/\H Ad.tb2=some (da j6) ∧
 (∀ l,(setB es ws)[ws.length]?=some (some l)->∀ p H',H p=none->ao H H'->H' p=some (.lst (l.map V.int))->Q (.ref p) H')/\((setB es ws)[ws.length]?=some none->∀ n,Bu (setB es ws) n->0<=n->n < 100->∀ dx H',ao H H'->H' dx=some (.xd [("at",.int n)])->E (.ref Ad.NoSetting) (some dx) H')) ∨ Cf Ad vs H E
theorem iV:aD ["book","text","settings"] ["book","text"] (ag cV):=⟨rfl,rfl,rfl,by decide +kernel,rfl,by decide +kernel,by decide +kernel⟩
theorem nF {f:Addr}{fd:FuncData} (F:Fun K "set_groups" "set_groups" cV f fd) (T:Bl mg) (AF:AdF K mg Ad) (C_settings_of:Fnc P w K mg base (CX1 P w) 12 "settings_of" ["book","text"] (dW Ad)) (K_NoSetting:xB P w K mg base (CX1 P w) Ad.NoSetting "NoSetting" 1 ["self","at"] (cM Ad)):aW P w K mg base (CX1 P w) 13 f fd ["book","text"] (eU Ad):=by
 refine F.okX (k:=12) iV (fun vs H Q E h=>?_) (fun cdv A outer s H vs Q E hr h=>?_)
 ·rcases h with ⟨b,ca,dn,de,es,ws,rfl,_⟩ | ⟨b,x,t,rfl,_⟩
  ·rfl
  rfl
 ·have hu:=hr.aM
  have hu1:=aZ hr
  refine ⟨_,af (aw (i:=2) iV.nd (ax C_settings_of au (hr.mono (by decide)) (ah (pvL 0) (ah (pvL 1) (ae))))) (af (aS (aE cZ (bp (cH (K:=K) rfl) (pvL 2) (jF ia (ak)) (fun _ _=>rfl)) (bg) (aH _)) (ai (kq K_NoSetting jk rfl (hr.mono (by decide)) (ah (aj (nR rfl) T.max sN (ah (iT ["many","groups"] rfl ⟨rfl,by decide +kernel,rfl,by decide +kernel⟩ (.nil) (by decide +kernel) (jH (K:=K) rfl T.enumerate (ah (pvL 2) (ae))) (fun _ _ _ _=>jG (K:=K) (n:=2) rfl rfl (bu (aL (i:=0) (show (["many","groups"]:List Str).Nodup from by decide +kernel)) (bu (aL (i:=1) (show (["many","groups"]:List Str).Nodup from by decide +kernel)) (gf)))) (fun _ _ _ _=>lC (aE gK (pvL 1) (bg) (aH _))) (fun _ _ _ _=>pvL 0)) (ae))) (ae)))) (aK)) (ai (aF (bp (cH (K:=K) rfl) (pvL 2) (jF ia (ak)) (fun _ _=>rfl))))),?_⟩
  have big:∀ {u:Nat},u<=90000->u<=sizeLine:=fun hu=>Nat.le_of_lt (aq (by omega))
  rcases h with ⟨b,ca,dn,de,es,ws,rfl,B,w1,w60,hw,Tb,Tb2,k1,k2⟩ | hno
  rotate_left
  ·obtain ⟨b,x,t,rfl,ht,hz,hno,k⟩:=hno
   refine ar fun nn hN=>?_
   and_intros
   exact .inr ⟨b,x,t,rfl,ht,hz,hno,k⟩
  refine ar fun nn hN=>?_
  and_intros
  refine .inl ⟨b,ca,dn,de,es,ws,rfl,B,w1,w60,hw,Tb,Tb2,fun p svs H1 hp s1 h1 hP hfr=>?_⟩
  rw [hN]
  clear hN nn
  have lsv:svs.length=ws.length + 1:=by rw [eA hP];exact bX _ _ _
  have hsv:svs[ws.length]?=some (svs[ws.length]'(by omega)):=List.getElem?_eq_getElem _
  generalize svs[ws.length]'(by omega)=v at hsv
  obtain ⟨o,ho,hvo⟩:=eh hP hsv
  have hat:atI svs (-1)=some v:=iF (by rw [List.getLast?_eq_getElem?,lsv];exact hsv)
  cases o with
  | some l =>
   obtain ⟨a,rfl,ha⟩:=hvo
   refine ar fun nn hN=>?_
   and_intros
   refine ⟨_,_,.inl (.of h1),hat,?_⟩
   and_intros
   rw [hN]
   clear hN nn
   and_intros
   exact ⟨_,_,.inl (.of h1),hat,k1 l ho a H1 (hfr _ (List.mem_of_getElem? hsv) a rfl) s1 ha⟩
  | none =>
   have hv0:v=.non:=hvo
   subst hv0
   refine ar fun nn hN=>?_
   and_intros
   refine ⟨_,_,.inl (.of h1),hat,?_⟩
   and_intros
   have ll:(setB es ws).length=ws.length + 1:=bX _ _ _
   refine ⟨p,rfl,⟨_,.of h1⟩,yG (.of h1) (aq (by omega)) (cj (setB es ws)) (fun i=>.int (i:Int)) (fun i x hx G tG R hR=>?_) (fun i x hx _ G tG R hR=>?_) fun D G hD tG hG=>?_⟩
   ·obtain ⟨o,ho',hxo⟩:=eh hP hx
    cases o with
    | none =>
     have hx0:x=.non:=hxo
     subst hx0
     and_intros
     have e0:cj (setB es ws) i=false:=by unfold cj;rw [ho']
     rw [e0] at hR
     exact hR G (ao.refl _)
    | some l =>
     obtain ⟨a,rfl,ha⟩:=hxo
     and_intros
     have e0:cj (setB es ws) i=true:=by unfold cj;rw [ho']
     rw [e0] at hR
     exact hR G (ao.refl _)
   ·and_intros
    exact hR G (ao.refl _)
   have eL:((List.range svs.length).filter (cj (setB es ws))).map (fun i:Nat=>V.int (i:Int))=(((List.range svs.length).filter (cj (setB es ws))).map fun i:Nat=>(i:Int)).map V.int:=by rw [List.map_map];rfl
   rw [eL] at hG
   and_intros
   refine ⟨_,hG,?_,fun m hm hmx=>?_⟩
   ·intro z
    have:(0:Nat)∈(List.range svs.length).filter (cj (setB es ws)):=List.mem_filter.mpr ⟨List.mem_range.mpr (by omega),EL es ws⟩
    rw [List.map_eq_nil_iff] at z
    rw [z] at this
    cases this
   obtain ⟨i,hi,rfl⟩:=List.mem_map.mp hm
   obtain ⟨hi1,hi2⟩:=List.mem_filter.mp hi
   have hi1:=List.mem_range.mp hi1
   exact ⟨big (by decide),xo (by omega) (by omega) fun dx H' sH hdx=>k2 ho _ ⟨⟨i,rfl,oQ hi2⟩,fun j l hj=>hmx _ (List.mem_map.mpr ⟨j,List.mem_filter.mpr ⟨List.mem_range.mpr (by have:=(List.getElem?_eq_some_iff.mp hj).1;omega),by unfold cj;rw [hj]⟩,rfl⟩)⟩ (by omega) (by omega) dx H' (s1.trans (tG.trans sH)) hdx⟩
def gk (Ad:Ads):Sp:=fun vs H Q _=>(∃ (b ca dn de:Addr) (es:List Ben) (ws:List (List Nat)),vs=[.ref b,.str (tx (Mk.br 32 ws))]/\bK Ad H b ca dn de es/\1<=ws.length/\ws.length<=60/\(∀ w∈ws,fJ w)/\H Ad.tb1=some (da ir)/\H Ad.tb2=some (da j6) ∧
 (∀ l,(setB es ws)[ws.length]?=some (some l)->∀ p q g H',H g=none->ao H H'->H' p=some (.tup [.ref g,.non,.ref q])->H' g=some (.lst (l.map V.int))->H' q=some (.lst [])->Q (.ref p) H')/\((setB es ws)[ws.length]?=some none->∀ n,Bu (setB es ws) n->0<=n->n < 100->∀ p q H',ao H H'->H' p=some (.tup [.non,.int n,.ref q])->H' q=some (.lst (List.replicate 16 (.bl false)))->Q (.ref p) H')) ∨
 ∃ (b:Addr) (x:V) (t:Tg),vs=[.ref b,x]/\cP H x=some t/\(∀ z,x=.str z->z.length<=10000)/\bP 60 x=false/\∀ p q H',ao H H'->H' p=some (.tup [.non,.int (-1),.ref q])->H' q=some (.lst (List.replicate 15 (.bl false)))->Q (.ref p) H'
theorem i4:aD ["_law_book","_law_thing","_law_e"] ["_law_book","_law_thing"] (ag eK):=⟨rfl,rfl,rfl,by decide +kernel,rfl,by decide +kernel,by decide +kernel⟩
theorem rM {f:Addr}{fd:FuncData} (F:Fun K "_law_told" "_law_told" eK f fd) (T:Bl mg) (AF:AdF K mg Ad) (C_set_groups:Fnc P w K mg base (CX1 P w) 13 "set_groups" ["book","text"] (eU Ad)) (C_law_kinds:zU P w K mg base (CX1 P w) 1 "_law_kinds" ["_law_e"] (fA Ad)):aW P w K mg base (CX1 P w) 14 f fd ["_law_book","_law_thing"] (gk Ad):=by
 refine F.okX (k:=13) i4 (fun vs H Q E h=>?_) (fun cdv A outer s H vs Q E hr h=>?_)
 ·rcases h with ⟨b,ca,dn,de,es,ws,rfl,_⟩ | ⟨b,x,t,rfl,_⟩
  ·rfl
  rfl
 ·have hu:=hr.aM
  have hu1:=aZ hr
  refine ⟨_,ai (AK rfl rfl rfl (fun pn xe E1 po px=>ai (aF (cK (ah (ax C_set_groups px (hr.mono (by decide)) (ah (pvL 0) (ah (pvL 1) (ae)))) (ah (bg) (ah (bh (ae)) (ae))))))) (Bw (i:=2) i4.nd AF.g_NoSetting (fun _=>ai (aF (cK (ah (bg) (ah (AA (K:=K) rfl (pvL 2)) (ah (aI aR (ko C_law_kinds gw (hr.n.mark.mono (by decide)) (ah (pvL 2) (ae))) (bh (ah (aj (bj (K:=K) rfl) T.isinstance bt_isinstance (ah (pvL 2) (ah (bN AF.g_NoText) (ae)))) (ae)))) (ae))))))) (Bw (i:=2) i4.nd AF.g_NoText (fun _=>ai (aF (cK (ah (bg) (ah (jF ia (ak)) (ah (ko C_law_kinds gw (hr.n.mark.mono (by decide)) (ah (pvL 2) (ae))) (ae))))))) (Df)))),?_⟩
  have big:∀ {u:Nat},u<=10000->u<=sizeLine:=fun hu=>Nat.le_of_lt (aq (by omega))
  rcases h with ⟨b,ca,dn,de,es,ws,rfl,B,w1,w60,hw,Tb,Tb2,k1,k2⟩ | ⟨b,x,t,rfl,ht,hz,hno,k⟩
  ·and_intros
   refine .inl ⟨b,ca,dn,de,es,ws,rfl,B,w1,w60,hw,Tb,Tb2,fun l hl g H1 zg s1 hg=>⟨Nat.zero_le _,fun q H2 hq s2 h2=>⟨big (by decide),fun p H3 hp s3 h3=>k1 l hl p q g H3 zg (s1.trans (s2.trans s3)) h3 (s3 _ _ (s2 _ _ hg)) (s3 _ _ h2)⟩⟩,fun hl n hn n0 n1 dx H1 s1 hdx ea H2 hea s2 h2 hxd=>⟨true,AF.x_NoSetting,?_⟩⟩
   rw [if_pos rfl]
   have eC:=yh AF.err (c:=Ad.NoSetting) (List.mem_of_getElem? (i:=9) rfl)
   and_intros
   refine ⟨_,dx,_,_,h2,s2 _ _ hdx,eC.ex,AF.s_NoSetting,AF.f_NoSetting,rz,?_⟩
   refine ⟨ea,_,_,rfl,h2,hxd,.inl rfl,fun p3 H3 s3 h3=>?_⟩
   refine ⟨_,_,false,s3 _ _ h2,(fun dx' z=>by obtain ⟨fs,q⟩:=hxd dx' z;exact ⟨fs,s3 _ _ q⟩),eC.ex,(by rw [eC.kd _ (List.mem_of_getElem? (i:=7) rfl),yO AF.nd (i:=9) (j:=7) rfl rfl];rfl),big (by decide),fun p4 H4 hp4 s4 h4=>?_⟩
   and_intros
   refine ⟨_,_,s4 _ _ h3,h4,big (by decide),fun p5 H5 hp5 s5 h5=>⟨big (by decide),fun p6 H6 hp6 s6 h6=>?_⟩⟩
   exact k2 hl n hn n0 n1 p6 p5 H6 (s1.trans (s2.trans (s3.trans (s4.trans (s5.trans s6))))) h6 (s6 _ _ (h5.trans rfl))
  ·and_intros
   refine .inr ⟨b,x,t,rfl,ht,hz,hno,fun H1 s1 ea H2 hea s2 h2 hxd=>⟨false,AF.y_NoText_NoSetting,?_⟩⟩
   rw [if_neg (by decide)]
   refine ⟨true,AF.x_NoText,?_⟩
   rw [if_pos rfl]
   and_intros
   refine ⟨ea,_,_,rfl,h2,hxd,.inr rfl,fun p3 H3 s3 h3=>⟨big (by decide),fun p4 H4 hp4 s4 h4=>?_⟩⟩
   exact k p4 p3 H4 (s1.trans (s2.trans (s3.trans s4))) h4 (s4 _ _ h3)
def fm (Ad:Ads):Sp:=fun vs H Q _=>∃ (b:Addr) (x:V) (t:Tg),vs=[.ref b,x]/\cP H x=some t/\(∀ z,x=.str z->z.length<=10000)/\bP 60 x=false/\∀ H',ao H H'->Q (.bl true) H'
theorem ib:aD ["_law_book","_law_thing","_law_e"] ["_law_book","_law_thing"] (ag cc):=⟨rfl,rfl,rfl,by decide +kernel,rfl,by decide +kernel,by decide +kernel⟩
theorem lb {f:Addr}{fd:FuncData} (F:Fun K "_law_no_least" "_law_no_least" cc f fd) (T:Bl mg) (AF:AdF K mg Ad) (C_least_groups:Fnc P w K mg base (CX1 P w) 13 "least_groups" ["book","text"] (dj Ad)) (C_law_kinds:zU P w K mg base (CX1 P w) 1 "_law_kinds" ["_law_e"] (fA Ad)):aW P w K mg base (CX1 P w) 14 f fd ["_law_book","_law_thing"] (fm Ad):=by
 refine F.okX (k:=13) ib (fun vs H Q E h=>?_) (fun cdv A outer s H vs Q E hr h=>?_)
 ·obtain ⟨b,x,t,rfl,_⟩:=h
  rfl
 ·obtain ⟨b,x,t,rfl,ht,hz,hno,k⟩:=h
  have hu:=hr.aM
  have hu1:=aZ hr
  refine ⟨_,af (Dk (i:=2) rfl rfl rfl ib.nd AF.g_NoText (fun pn xe E1 po px=>ai (di (ax C_least_groups px (hr.mono (by decide)) (ah (pvL 0) (ah (pvL 1) (ae)))))) (fun _=>ai (aF (bC (xc (K:=K) rfl hu1) (dg) (ko C_law_kinds gw (hr.n.mark.mono (by decide)) (ah (pvL 2) (ae))) (by kernel_rfl))))) (ai (aF (dg))),?_⟩
  have big:∀ {u:Nat},u<=10000->u<=sizeLine:=fun hu=>Nat.le_of_lt (aq (by omega))
  refine ar fun nn hN=>?_
  and_intros
  refine .inr ⟨b,x,t,rfl,ht,hz,hno,fun H1 s1=>⟨AF.x_NoText,fun ea H2 hea s2 h2=>?_⟩⟩
  and_intros
  refine ⟨ea,_,none,rfl,h2,(fun dx z=>by cases z),.inr rfl,fun p3 H3 s3 h3=>?_⟩
  and_intros
  exact .inl ⟨_,.inl (.of h3),rfl,rfl,k H3 (s1.trans (s2.trans s3))⟩
def iB (Ad:Ads):Sp:=fun vs H Q _=>∃ (b ca dn de g:Addr) (es:List Ben) (al:List Nat) (cw:List Int) (r:Int) (ws:List (List Nat)),vs=[.ref b,.ref g]/\bK Ad H b ca dn de es/\dZ Ad H ca al cw r/\fH al cw r/\(∀ e∈es,gF e.key/\0<=e.num/\e.num < eV al cw)/\H g=some (.lst (ws.map fun w=>V.str (tx w)))/\1<=ws.length/\ws.length<=32/\(∀ w∈ws,fJ w)/\H Ad.tb1=some (da ir)/\H Ad.tb2=some (da j6)/\∀ H',ao H H'->Q (.bl true) H'
theorem dB:aD ["_law_book","_law_words_here","_law_least","_law_groups","_law_at","_law_some","_law_again"] ["_law_book","_law_words_here"] (ag eJ):=⟨rfl,rfl,rfl,by decide +kernel,rfl,by decide +kernel,by decide +kernel⟩
theorem rL {f:Addr}{fd:FuncData} (F:Fun K "_law_good" "_law_good" eJ f fd) (T:Bl mg) (AF:AdF K mg Ad) (C_said:Fnc P w K mg base (CX1 P w) 4 "said" ["book","groups"] (qo Ad)) (C_set_groups:Fnc P w K mg base (CX1 P w) 13 "set_groups" ["book","text"] (eU Ad)) (C_law_told:Fnc P w K mg base (CX1 P w) 14 "_law_told" ["_law_book","_law_thing"] (gk Ad)) (C_least_groups:Fnc P w K mg base (CX1 P w) 13 "least_groups" ["book","text"] (dj Ad)):aW P w K mg base (CX1 P w) 15 f fd ["_law_book","_law_words_here"] (iB Ad):=by
 refine F.okX (k:=14) dB (fun vs H Q E h=>?_) (fun cdv A outer s H vs Q E hr h=>?_)
 ·obtain ⟨b,ca,dn,de,g,es,al,cw,r,ws,rfl,_⟩:=h
  rfl
 ·obtain ⟨b,ca,dn,de,g,es,al,cw,r,ws,rfl,B,C,ok,hes,hg,w1,w32,hw,Tb,Tb2,k⟩:=h
  have w60:ws.length<=60:=by omega
  have hu:=hr.aM
  have hu1:=aZ hr
  refine ⟨_,af (vD (i:=2) dB.nd (ax C_least_groups au (hr.mono (by decide)) (ah (pvL 0) (ah (cI (K:=K) rfl PySem.F.plainAttrs_str PySem.F.slot_str_join PySem.F.type_str_join (eZ (K:=K) rfl) (aB) (ah (pvL 1) (ae))) (ae))))) (af (tO (ax C_law_told au (hr.mono (by decide)) (ah (pvL 0) (ah (cI (K:=K) rfl PySem.F.plainAttrs_str PySem.F.slot_str_join PySem.F.type_str_join (eZ (K:=K) rfl) (aB) (ah (pvL 1) (ae))) (ae)))) (qg (K:=K) (n:=3) rfl rfl (bu (aL (i:=3) dB.nd) (bu (aL (i:=4) dB.nd) (bu (aL (i:=5) dB.nd) (gf)))))) (af (aS (aE (jg (K:=K) rfl hu1) (dg) (pvL 5) (by kernel_rfl)) (ai (aF (dg))) (aK)) (af (aS (aE cZ (bp (cH (K:=K) rfl) (pvC 2) (jF ia (ak)) (fun _ _=>rfl)) (bg) (aH _)) (ai (aF (fO (bC cZ (pvL 3) (bg) (aH _)) (fQ (bC (bS (K:=K) rfl hu) (pvL 4) (aj (nR rfl) T.max sN (ah (iT ["_law_k"] rfl ⟨rfl,by decide +kernel,rfl,by decide +kernel⟩ (.cons (j:=2) rfl (.inl (by kernel_rfl)) (.nil)) (by decide +kernel) (eB T.range (ah (aj (aJ (K:=K) rfl) T.len aU (ah (pvC 2) (ae))) (ae))) (fun _ _ _ _=>aL (i:=0) (show (["_law_k","_law_least"]:List Str).Nodup from by decide +kernel)) (fun _ _ _ _=>lC (aE gK (bp (cH (K:=K) rfl) (pvC 1) (pvL 0) (fun _ _=>rfl)) (bg) (aH _))) (fun _ _ _ _=>pvL 0)) (ae))) (aH _)))))) (aK)) (af (aS ((gM (bO (bT (aj (bY .lst) T.isinstance bt_isinstance (ah (pvL 3) (ah (fi T.list pe) (ae)))))) (fR (aE (iy (K:=K) rfl hu) (aj (aJ (K:=K) rfl) T.len aU (ah (pvL 3) (ae))) (bp (cH (K:=K) rfl) (pvC 2) (jF ia (ak)) (fun _ _=>rfl)) (aH _)))).pt) (ai (aF (dg))) (aK)) (af (aS (bO (bT (aj (fB (K:=K) rfl rfl) T.all ke (ah (iT ["_law_one"] rfl ⟨rfl,by decide +kernel,rfl,by decide +kernel⟩ (.nil) (by decide +kernel) (dN (K:=K) rfl (pvL 3)) (fun _ _ _ _=>aL (i:=0) (show (["_law_one"]:List Str).Nodup from by decide +kernel)) (fun _ _ _ _=>fq) (fun _ _ _ _=>fO (aj (bY .int) T.isinstance bt_isinstance (ah (pvL 0) (ah (fi T.int xU) (ae)))) (fQ (qe (aj (bY .bl) T.isinstance bt_isinstance (ah (pvL 0) (ah (fi T.bool uQ) (ae)))))))) (ae))))) (ai (aF (dg))) (aK)) (af (aS (aE (iy (K:=K) rfl hu) (ax C_said au (hr.mono (by decide)) (ah (pvL 0) (ah (pvL 3) (ae)))) (cI (K:=K) rfl PySem.F.plainAttrs_str PySem.F.slot_str_join PySem.F.type_str_join (eZ (K:=K) rfl) (aB) (ah (pvL 1) (ae))) (aH _)) (ai (aF (dg))) (aK)) (af (di (A7 (K:=K) rfl PySem.F.plainAttrs_list PySem.F.slot_list_clear PySem.F.type_list_clear yM (pvL 3))) (af (aw (i:=6) dB.nd (ax C_set_groups au (hr.mono (by decide)) (ah (pvL 0) (ah (cI (K:=K) rfl PySem.F.plainAttrs_str PySem.F.slot_str_join PySem.F.type_str_join (eZ (K:=K) rfl) (aB) (ah (pvL 1) (ae))) (ae))))) (ai (aF (fO (bC (bS (K:=K) rfl hu) (aj (aJ (K:=K) rfl) T.len aU (ah (pvL 6) (ae))) (bp (cH (K:=K) rfl) (pvC 2) (jF ia (ak)) (fun _ _=>rfl)) (aH _)) (fQ (bC (bS (K:=K) rfl hu) (ax C_said au (hr.mono (by decide)) (ah (pvL 0) (ah (pvL 6) (ae)))) (cI (K:=K) rfl PySem.F.plainAttrs_str PySem.F.slot_str_join PySem.F.type_str_join (eZ (K:=K) rfl) (aB) (ah (pvL 1) (ae))) (aH _)))))))))))))),?_⟩
  have big:∀ {u:Nat},u<=10000->u<=sizeLine:=fun hu=>Nat.le_of_lt (aq (by omega))
  refine ar fun nn hN=>?_
  and_intros
  obtain ⟨j1,j2⟩:=j4 (ws:=ws) w60 hw
  have ejs:(ws.map fun w=>V.str (tx w))=(ws.map tx).map V.str:=by rw [List.map_map];rfl
  have jsum:((ws.map tx).map (fun x=>x.length)).sum + (ws.map tx).length * (Str.ofString " ").length<=16777216:=by
   rw [List.map_map,List.length_map]
   have:(ws.map ((fun z:Str=>z.length) ∘ tx)).sum<=(ws.map fun w=>w.length + 1).sum:=by
    have e:ws.map ((fun z:Str=>z.length) ∘ tx)=ws.map fun w=>w.length:=List.map_congr_left fun w _=>aY w
    rw [e]
    clear e j1 j2 ejs hw hg w1 w60 w32
    induction ws with
    | nil=>simp
    | cons w r ih=>simp only [List.map_cons,List.sum_cons];omega
   have e1:(Str.ofString " ").length=1:=rfl
   rw [e1]
   omega
  have ejn:Txt.join (Str.ofString " ") (ws.map tx)=tx (Mk.br 32 ws):=by rw [show (Str.ofString " ")=tx [32] from rfl,iN]
  refine ⟨rfl,ws.map tx,.of (by rw [hg,ejs]),jsum,?_⟩
  rw [ejn]
  refine .inl ⟨b,ca,dn,de,es,ws,rfl,B,w1,w60,hw,Tb,Tb2,fun pl H1 hpl s1 h1=>?_⟩
  rw [hN]
  clear hN nn
  have hg1:=s1 _ _ hg
  refine ar fun nn hN=>?_
  and_intros
  refine ⟨rfl,ws.map tx,.of (by rw [hg1,ejs]),jsum,?_⟩
  rw [ejn]
  have ll:(setB es ws).length=ws.length + 1:=bX _ _ _
  have mapL:∀ i:Nat,((setB es ws).map lgV)[i]?=((setB es ws)[i]?).map lgV:=fun i=>List.getElem?_map
  have hlast:∃ o,(setB es ws)[ws.length]?=some o:=⟨(setB es ws)[ws.length]'(by omega),List.getElem?_eq_getElem _⟩
  obtain ⟨o,ho⟩:=hlast
  have hatL:atI ((setB es ws).map lgV) (-1)=some (lgV o):=iF (by rw [List.getLast?_eq_getElem?,List.length_map,ll];show ((setB es ws).map lgV)[ws.length]?=_;rw [mapL,ho];rfl)
  refine .inl ⟨b,ca,dn,de,es,ws,rfl,B.same s1,w1,w60,hw,s1 _ _ Tb,s1 _ _ Tb2,fun l hl p q gg H2 zg s2 hp hgg hq=>?_,fun hl n hn n0 n1 p q H2 s2 hp hq=>?_⟩
  ·have eo:o=some l:=by rw [hl] at ho;exact (Option.some.inj ho).symm
   subst eo
   and_intros
   refine ⟨_,.inr (.of hp),rfl,?_⟩
   and_intros
   rw [hN]
   clear hN nn
   refine ar fun nn hN=>?_
   and_intros
   refine .inl ⟨_,.inl (.of hq),rfl,rfl,?_⟩
   rw [if_neg (by decide)]
   rw [hN]
   clear hN nn
   refine ar fun nn hN=>?_
   and_intros
   refine ⟨_,_,.inl (.of (s2 _ _ h1)),hatL,?_⟩
   and_intros
   show (if (false != false)=true then _ else _)
   rw [if_neg (by decide)]
   rw [hN]
   clear hN nn
   refine ar fun nn hN=>?_
   and_intros
   refine ⟨trivial,.lst,(by rw [hgg]),?_⟩
   rw [if_neg (by decide)]
   refine ⟨_,.inl (.of hgg),_,_,.inl (.of (s2 _ _ h1)),hatL,?_⟩
   rw [List.length_map,show lgV (some l)=.int (l.length:Int) from rfl]
   and_intros
   rw [if_neg (by decide)]
   show nn _ _ _
   rw [hN]
   clear hN nn
   have ll21:l.length<=21 * ws.length:=ki (m:=21) (lg:=6) (F:=fun i j=>iC es (dY ws i j)) (fun i j l h=>sq (fun w hw'=>(hw w (iE hw')).2.1) h) ws.length ws.length l hl
   obtain ⟨grp,gm,gn,hrun⟩:=z7 w60 hw ws.length l (Nat.le_refl _) hl
   rw [List.take_length] at hrun
   refine ar fun nn hN=>?_
   and_intros
   refine .inl ⟨⟨_,.of hgg⟩,wO V.int iH (fU (.of hgg)) (aq (by omega)) (fun _=>.bl true) (fun x hx G tG R hR=>?_) fun D G hD tG hG=>?_⟩
   ·and_intros
    refine ⟨trivial,.int,rfl,?_⟩
    rw [if_pos (by decide)]
    exact ⟨trivial,.int,rfl,hR G (ao.refl _)⟩
   refine ⟨D,l.map (fun _=>true),rfl,.of (by rw [hG,List.map_map];rfl),_,rfl,?_⟩
   rw [show (l.map fun _=>true).all id=true by simp,if_neg (by decide)]
   show nn _ _ _
   rw [hN]
   clear hN nn
   have sG:=s1.trans (s2.trans tG)
   have enum:∀ {G':Hp},ao G G'->∀ x∈l.map V.int,∃ t,cP G' x=some t:=fun {G'} _ x hx=>by
    obtain ⟨y,_,rfl⟩:=List.mem_map.mp hx
    exact ⟨.int,rfl⟩
   have says:sd ((l.map V.int).map (kOf es))=.inr ws:=AV B.nn gm gn hrun (fun z=>by rw [z] at w1;exact absurd w1 (by decide))
   refine ar fun nn hN=>?_
   and_intros
   refine ⟨b,ca,dn,de,gg,es,l.map V.int,al,cw,r,rfl,B.same sG,C.same sG,ok,hes,tG _ _ hgg,by rw [List.length_map];omega,enum (ao.refl _),fun wd hwd G1 t1=>?_,fun n hn=>by rw [says] at hn;cases hn⟩
   rw [says] at hwd
   cases hwd
   have sG1:=sG.trans t1
   refine ⟨rfl,ws.map tx,.of (by rw [sG1 _ _ hg,ejs]),jsum,?_⟩
   rw [ejn]
   and_intros
   rw [if_neg (by decide)]
   show nn _ _ _
   rw [hN]
   clear hN nn
   refine ar fun nn hN=>?_
   and_intros
   have hggG:=t1 _ _ (tG _ _ hgg)
   refine ⟨.inl ⟨rfl,_,.of hggG⟩,_,hggG,?_⟩
   have sHC:ao H1 (upd G1 gg (.lst [])):=(s2.trans (tG.trans t1)).bD zg
   generalize upd G1 gg (.lst [])=GC at sHC
   have sC:=s1.trans sHC
   rw [hN]
   clear hN nn
   refine ar fun nn hN=>?_
   and_intros
   refine ⟨rfl,ws.map tx,.of (by rw [sC _ _ hg,ejs]),jsum,?_⟩
   rw [ejn]
   refine .inl ⟨b,ca,dn,de,es,ws,rfl,B.same sC,w1,w60,hw,sC _ _ Tb,sC _ _ Tb2,fun l' hl' pa GD zD tD hpa=>?_,fun hl'=>by rw [hl] at hl';cases hl'⟩
   rw [hl] at hl'
   cases hl'
   have sD:=sC.trans tD
   rw [hN]
   clear hN nn
   and_intros
   refine ⟨_,.inl (.of hpa),_,_,.inl (.of (tD _ _ (sHC _ _ h1))),hatL,?_⟩
   rw [List.length_map,show lgV (some l)=.int (l.length:Int) from rfl]
   and_intros
   rw [if_pos (by decide)]
   refine ⟨b,ca,dn,de,pa,es,l.map V.int,al,cw,r,rfl,B.same sD,C.same sD,ok,hes,hpa,by rw [List.length_map];omega,(fun x hx=>by obtain ⟨y,_,rfl⟩:=List.mem_map.mp hx;exact ⟨.int,rfl⟩),fun wd hwd GE tE=>?_,fun n hn=>by rw [says] at hn;cases hn⟩
   rw [says] at hwd
   cases hwd
   have sE:=sD.trans tE
   refine ⟨rfl,ws.map tx,.of (by rw [sE _ _ hg,ejs]),jsum,?_⟩
   rw [ejn]
   and_intros
   exact k GE sE
  ·have eo:o=none:=by rw [hl] at ho;exact (Option.some.inj ho).symm
   subst eo
   and_intros
   refine ⟨_,.inr (.of hp),rfl,?_⟩
   and_intros
   rw [hN]
   clear hN nn
   refine ar fun nn hN=>?_
   and_intros
   refine .inl ⟨_,.inl (.of hq),rfl,rfl,?_⟩
   rw [if_neg (by decide)]
   rw [hN]
   clear hN nn
   refine ar fun nn hN=>?_
   and_intros
   refine ⟨_,_,.inl (.of (s2 _ _ h1)),hatL,?_⟩
   and_intros
   show (if (true != false)=true then _ else _)
   rw [if_pos (by decide)]
   have hpl2:=s2 _ _ h1
   refine ⟨_,.inl (.of hpl2),by omega,by rw [List.length_map];omega,?_⟩
   rw [List.length_map]
   refine As V.int iH (AW _) (by rw [Mk.Au];exact aq (by omega)) (fun x=>cj (setB es ws) x.toNat) V.int (fun x hx G tG R hR=>?_) (fun x hx _ G tG R hR=>?_) fun D G hD tG hG=>?_
   ·obtain ⟨x0,x1⟩:=Mk.iI.mp hx
    have hxl:x.toNat < (setB es ws).length:=by omega
    have hox:(setB es ws)[x.toNat]?=some ((setB es ws)[x.toNat]'hxl):=List.getElem?_eq_getElem _
    generalize (setB es ws)[x.toNat]'hxl=ox at hox
    and_intros
    refine ⟨_,_,.inl (.of (tG _ _ hpl2)),bM x0 (by rw [mapL,hox];rfl),?_⟩
    cases ox with
    | none =>
     have e0:cj (setB es ws) x.toNat=false:=by unfold cj;rw [hox]
     rw [e0] at hR
     and_intros
     exact hR G (ao.refl _)
    | some l =>
     have e0:cj (setB es ws) x.toNat=true:=by unfold cj;rw [hox]
     rw [e0] at hR
     and_intros
     exact hR G (ao.refl _)
   ·and_intros
    exact hR G (ao.refl _)
   and_intros
   obtain ⟨⟨i,ei,hi⟩,hmost⟩:=hn
   obtain ⟨li,hli⟩:=hi
   have il:i < (setB es ws).length:=(List.getElem?_eq_some_iff.mp hli).1
   have hin:n∈(Mk.ofN (setB es ws).length).filter fun x=>cj (setB es ws) x.toNat:=List.mem_filter.mpr ⟨Mk.iI.mpr ⟨by omega,by omega⟩,by unfold cj;rw [show n.toNat=i by omega,hli]⟩
   refine ⟨_,hG,List.ne_nil_of_mem hin,fun m hm hmx=>?_⟩
   have hnm:=hmx n hin
   obtain ⟨hm1,hm2⟩:=List.mem_filter.mp hm
   obtain ⟨m0,m1⟩:=Mk.iI.mp hm1
   obtain ⟨lm,hlm⟩:=oQ hm2
   have hmn:=hmost _ _ hlm
   have enm:n=m:=by omega
   rw [decide_eq_true enm]
   exact k G (s1.trans (s2.trans tG))
def ub (K:PySem.W.Frag) (tb tb1 tb2:Addr):Sp:=fun vs H Q _=>∃ (a:Addr) (ns:List Int),vs=[.ref a]/\SqL K H a (ns.map V.int)/\ns.length<=63/\H tb=some (da n9)/\H tb1=some (da ir)/\H tb2=some (da j6)/\∀ H',Q (.bl true) H'
theorem jm:aD ["_law_script","_law_code_here","_law_book","_law_words_here","_law_many","_law_k","_law_odd_here"] ["_law_script"] (ag jK):=⟨rfl,rfl,rfl,by decide +kernel,rfl,by decide +kernel,by decide +kernel⟩
theorem CI {f:Addr}{fd:FuncData} (F:Fun K "law" "law" jK f fd) (T:Bl mg) (AF:AdF K mg Ad) (C_is_text:Fnc P w K mg base (CX1 P w) 3 "is_text" ["thing"] hO) (C_law_told:Fnc P w K mg base (CX1 P w) 14 "_law_told" ["_law_book","_law_thing"] (gk Ad)) (C_law_no_least:Fnc P w K mg base (CX1 P w) 14 "_law_no_least" ["_law_book","_law_thing"] (fm Ad)) (C_law_odd:Fnc P w K mg base (CX1 P w) 1 "_law_odd" ["_law_number"] jo) (C_law_mixed:Fnc P w K mg base (CX1 P w) 1 "_law_mixed" ["_law_cell"] cX) (C_law_cell_at:Fnc P w K mg base (CX1 P w) 1 "_law_cell_at" ["_law_script","_law_k"] (dS K)) (C_law_good:Fnc P w K mg base (CX1 P w) 15 "_law_good" ["_law_book","_law_words_here"] (iB Ad)) (C_law_words:Fnc P w K mg base (CX1 P w) 2 "_law_words" ["_law_cells","_law_start"] (hX K)) (C_law_filled:Fnc P w K mg base (CX1 P w) 6 "_law_filled" ["_law_code_here","_law_cells"] (gz K Ad)) (C_law_code:Fnc P w K mg base (CX1 P w) 6 "_law_code" ["_law_script"] (iA K Ad)):aW P w K mg base (CX1 P w) 16 f fd ["_law_script"] (ub K Ad.tb Ad.tb1 Ad.tb2):=by
 refine F.okX (k:=15) jm (fun vs H Q E h=>?_) (fun cdv A outer s H vs Q E hr h=>?_)
 ·obtain ⟨a,ns,rfl,_⟩:=h
  rfl
 ·obtain ⟨a,ns,rfl,hS,hlen,Tb,Tb1,Tb2,k⟩:=h
  have hu:=hr.aM
  have hu1:=aZ hr
  have hu9:=hr.hu9
  refine ⟨_,af (aw (i:=1) jm.nd (ax C_law_code au (hr.mono (by decide)) (ah (pvL 0) (ae)))) (af (aw (i:=2) jm.nd (ax C_law_filled au (hr.mono (by decide)) (ah (pvL 1) (ah (cN (iW (K:=K) rfl) (pvL 0) (cp (ak)) (cp (ak))) (ae))))) (af (aw (i:=3) jm.nd (ax C_law_words au (hr.mono (by decide)) (ah (cN (iW (K:=K) rfl) (pvL 0) (cp (ak)) (cp (ak))) (ah (ak) (ae))))) (af (fj PassesOwn.leaving rfl (dN (K:=K) rfl (bh (ah (ak) (ah (ak) (ah (ak) (ah (ak) (ah (aj (aJ (K:=K) rfl) T.len aU (ah (pvL 3) (ae))) (ae)))))))) (aL (i:=4) jm.nd) (ai (aS ((jj (aE (iy (K:=K) rfl hu) (pvL 3) (bh (ae)) (aH _)) (gT (bO (bT (ax C_law_good au (hr.mono (by decide)) (ah (pvL 2) (ah (cN (iW (K:=K) rfl) (pvL 3) (gR) (cp (pvL 4))) (ae)))))))).pt) (ai (aF (dg))) (aK)))) (af (fj PassesOwn.leaving rfl (eB T.range (ah (ak) (ae))) (aL (i:=5) jm.nd) (af (aw (i:=6) jm.nd (ax C_law_odd au (hr.mono (by decide)) (ah (ax C_law_mixed au (hr.mono (by decide)) (ah (aI aR (aI iJ (ak) (ax C_law_cell_at au (hr.mono (by decide)) (ah (pvL 0) (ah (pvL 5) (ae))))) (pvL 5)) (ae))) (ae)))) (af (aS ((gM (aE (CT (K:=K) rfl hu9) (cN (DY (K:=K) rfl) (ax C_law_told au (hr.mono (by decide)) (ah (pvL 2) (ah (pvL 6) (ae)))) (gR) (cp (ak))) (cK (ah (bg) (ah (jF ia (ak)) (ae)))) (aH _)) (gM (bO (bT (ax C_law_no_least au (hr.mono (by decide)) (ah (pvL 2) (ah (pvL 6) (ae)))))) (fR (aE gK (ax C_is_text au (hr.mono (by decide)) (ah (pvL 6) (ae))) (dg) (aH _))))).pt) (ai (aF (dg))) (aK)) (ai (aS (aE (jg (K:=K) rfl hu1) (dg) (bp (cH (K:=K) rfl) (ax C_law_told au (hr.mono (by decide)) (ah (pvL 2) (ah (pvL 6) (ae)))) (ak) (fun _ _=>rfl)) (by kernel_rfl)) (ai (aF (dg))) (aK)))))) (ai (aF (fO (bC cZ (ax C_is_text au (hr.mono (by decide)) (ah (aI aR (aB) (aI pX (aB) (ak))) (ae))) (dg) (aH _)) (fQ (bC cZ (ax C_is_text au (hr.mono (by decide)) (ah (aB) (ae))) (dg) (aH _)))))))))),?_⟩
  have big:∀ {u:Nat},u<=10000->u<=sizeLine:=fun hu=>Nat.le_of_lt (aq (by omega))
  refine ar fun nn hN=>?_
  and_intros
  refine ⟨a,ns,rfl,hS,fun ca al ws r H1 s1 C ok=>?_⟩
  have hS1:=s1.seq hS
  rw [hN]
  clear hN nn
  refine ar fun nn hN=>?_
  and_intros
  obtain ⟨l1,c1,z1⟩:=qP ns 1 31
  refine ⟨_,hS1,fun p1 G1 w1 t1 g1=>?_⟩
  rw [show gq (ns.map V.int) (some 1) (some 31)=l1.map V.int from c1] at g1
  refine ⟨ca,p1,al,ws,r,l1,rfl,C.same t1,ok,t1 _ _ (s1 _ _ Tb),.of g1,by omega,fun b dn de es H2 s2 B el hes=>?_⟩
  have S2:=s1.trans (t1.trans s2)
  have C2:=C.same (t1.trans s2)
  rw [hN]
  clear hN nn
  refine ar fun nn hN=>?_
  and_intros
  obtain ⟨l2,c2,z2⟩:=qP ns 31 63
  refine ⟨_,S2.seq hS,fun p3 G3 w3 t3 g3=>?_⟩
  rw [show gq (ns.map V.int) (some 31) (some 63)=l2.map V.int from c2] at g3
  refine ⟨p3,l2,31,rfl,.of g3,by omega,fun pw wd G4 zw t4 hwd wl hok=>?_⟩
  have S4:=t3.trans t4
  have B4:=B.same S4
  have C4:=C2.same S4
  have SH4:=S2.trans S4
  rw [hN]
  clear hN nn
  refine ar fun nn hN=>?_
  and_intros
  refine ⟨_,.inl (.of hwd),big (by decide),fun pm G5 w5 t5 g5=>.inl ⟨⟨_,.of g5⟩,?_⟩⟩
  rw [List.length_map] at g5
  have hall:∀ v∈[V.int 1,V.int 2,V.int 5,V.int 12,V.int (wd.length:Int)],∃ m:Nat,v=.int (m:Int)/\(wd≠[]->1<=m):=fun v hv=>by
   simp only [List.mem_cons,List.not_mem_nil,or_false] at hv
   rcases hv with rfl | rfl | rfl | rfl | rfl
   ·exact ⟨1,rfl,fun _=>by decide⟩
   ·exact ⟨2,rfl,fun _=>by decide⟩
   ·exact ⟨5,rfl,fun _=>by decide⟩
   ·exact ⟨12,rfl,fun _=>by decide⟩
   ·exact ⟨wd.length,rfl,fun h=>List.length_pos_iff.mpr h⟩
  generalize [V.int 1,V.int 2,V.int 5,V.int 12,V.int (wd.length:Int)]=ms at g5 hall
  refine yp (xs:=ms) (fun i σ H'=>∃ o4:Option V,σ=[some (V.ref a),some (V.ref ca),some (V.ref b),some (V.ref pw),o4,none,none]/\ao G5 H') ?_ ?_ ?_ ?_
  ·exact ⟨_,rfl,ao.refl _⟩
  ·rintro i σ H' _ ⟨o4,_,sH⟩
   exact .of (sH _ _ g5)
  ·rintro i v σ A1 hv ⟨o4,rfl,sA⟩ N hNx
   clear hN
   obtain ⟨m,rfl,hm1⟩:=hall v (List.mem_of_getElem? hv)
   have sA5:=t5.trans sA
   have hwA:=sA5 _ _ hwd
   and_intros
   refine ⟨Nat.zero_le _,fun q1 F1 v1 r1 f1=>⟨_,_,.of (r1 _ _ hwA),.of f1,?_,rfl,?_⟩⟩
   ·rw [List.all_eq_true]
    intro x hx
    obtain ⟨w,_,rfl⟩:=List.mem_map.mp hx
    rfl
   by_cases hne:wd=[]
   ·subst hne
    rw [if_neg (by decide)]
    and_intros
    exact hNx _ _ ⟨_,rfl,sA.trans r1⟩
   rw [if_pos (by
    cases wd with
    | nil=>exact absurd rfl hne
    | cons _ _=>rfl)]
   refine ⟨_,.of (r1 _ _ hwA),fun q2 F2 v2 r2 f2=>?_⟩
   rw [wt,← List.map_take] at f2
   have sF:=SH4.trans (sA5.trans (r1.trans r2))
   have sF4:=sA5.trans (r1.trans r2)
   have lt:(wd.take m).length=min m wd.length:=List.length_take
   have l0:1<=wd.length:=List.length_pos_iff.mpr hne
   have m1:=hm1 hne
   refine ⟨b,ca,dn,de,q2,es,al,ws,r,wd.take m,rfl,B4.same sF4,C4.same sF4,ok,hes,f2,by omega,by omega,(fun w hw=>hok w (List.mem_of_mem_take hw)),sF _ _ Tb1,sF _ _ Tb2,fun F3 r3=>?_⟩
   and_intros
   exact hNx _ _ ⟨_,rfl,sA.trans (r1.trans (r2.trans r3))⟩
  rintro σ H6 ⟨o4,rfl,s6⟩
  show nn _ _ _
  rw [hN]
  clear hN nn
  have S6:=t5.trans s6
  have SH6:=SH4.trans S6
  refine ar fun nn hN=>?_
  and_intros
  refine ⟨by decide,by decide,gH (fun i σ H'=>∃ o5 o6:Option V,σ=[some (V.ref a),some (V.ref ca),some (V.ref b),some (V.ref pw),o4,o5,o6]/\ao H6 H') ?_ ?_ ?_⟩
  ·exact ⟨_,_,rfl,ao.refl _⟩
  ·rintro i σ A1 hi ⟨o5,o6,rfl,sA⟩ N hNx
   clear hN
   refine ar fun n2 hM=>?_
   and_intros
   refine ⟨a,ns,_,rfl,(SH6.trans sA).seq hS,by omega,?_⟩
   generalize ns.getD (0 + (i:Int)).toNat 0=c0
   and_intros
   refine ⟨.inl (by decide),_,rfl,?_⟩
   refine ⟨_,rfl,fun x F1 r1 hodd=>?_⟩
   obtain ⟨⟨tx1,htx⟩,hz,hno⟩:=hodd
   rw [hM]
   clear hM n2
   refine ar fun n2 hM=>?_
   and_intros
   refine .inr ⟨b,x,tx1,rfl,htx,hz,hno,fun p2 q2 F2 r2 f2 g2=>?_⟩
   and_intros
   refine ⟨_,.of f2,(by show ¬ (HT.sIx 3 0 none=0/\HT.sIx 3 3 (some 2)=3);decide),fun p3 F3 v3 r3 f3=>⟨big (by decide),fun p4 F4 v4 r4 f4=>⟨0,true,by decide,⟨p3,p4,rfl,rfl,.inr ⟨[.non,.int (-1)],[.non,.int (-1)],.of (r4 _ _ (f3.trans rfl)),.of f4,fun _=>true,fun j x y hx hy=>?_,rfl⟩⟩,?_⟩⟩⟩
   ·rw [hx] at hy
    cases hy
    exact .same (List.all_eq_true.mp (show [V.non,V.int (-1)].all yI=true from rfl) x (List.mem_of_getElem? hx))
   rw [if_neg (by decide)]
   have s14:=r2.trans (r3.trans r4)
   refine ⟨b,x,tx1,rfl,dX s14 htx,hz,hno,fun F5 r5=>⟨_,rfl,?_⟩⟩
   rw [if_neg (by decide)]
   have s15:=s14.trans r5
   refine ⟨x,tx1,rfl,dX s15 htx,hz,fun F6 r6=>?_⟩
   rw [hno]
   show (if ((false == false) != true)=true then _ else _)
   rw [if_neg (by decide)]
   show n2 _ _ _
   rw [hM]
   clear hM n2
   have s16:=s15.trans r6
   and_intros
   refine .inr ⟨b,x,tx1,rfl,dX s16 htx,hz,hno,fun p7 q7 F7 r7 f7 g7=>?_⟩
   and_intros
   refine ⟨_,_,.inr (.of f7),bM (by decide) rfl,.inl ⟨_,.inl (.of g7),rfl,rfl,?_⟩⟩
   rw [if_neg (by decide)]
   exact hNx _ _ ⟨_,_,rfl,sA.trans (r1.trans (s16.trans r7))⟩
  rintro σ H7 ⟨o5,o6,rfl,s7⟩
  show nn _ _ _
  rw [hN]
  clear hN nn
  and_intros
  refine ⟨[32,97],rfl,by decide,by decide,by decide,by decide,big (by decide +kernel),_,.str,rfl,rfl,(fun z ez=>by cases ez;decide +kernel),fun F1 r1=>?_⟩
  rw [show bP 60 (.str (Str.ofString "a"++tx (List.replicate (Int.toNat 59) [32,97]).flatten))=true by decide +kernel]
  show (if ((true == true) != false)=true then _ else _)
  rw [if_pos (by decide)]
  refine ⟨_,.str,rfl,rfl,(fun z ez=>by cases ez;decide +kernel),fun F2 r2=>?_⟩
  rw [show bP 60 (.str (Str.ofString "abcdefghijklmnopqrst"))=true by decide +kernel]
  exact k F2
end
theorem all_mk {l : PySem.W.OpenLaw} {w : World} {K : PySem.W.Frag} {h : Heap} {mg : Str → Option Value} {fa : Addr} {k_Code k_Book k_CableError k_NoCode k_NoNumber k_NoWord k_NoEntry k_Twice k_TooMany k_NoBook k_NoText k_NoReading k_NoSetting k_TooGarbled k_NoNet k_NoOffice k_NoDay k_NoRow k_cd k_tb k_cd1 k_tb1 k_cd2 k_tb2 : Addr} {f0 f1 f2 f3 f4 f5 f6 f7 f8 f9 f10 f11 f12 f13 f14 f15 f16 f17 f18 f19 f20 f21 f22 f23 f24 f25 f26 f27 f28 f29 f30 f31 f32 f33 f34 f35 f36 f37 f38 f39 f40 f41 f42 f43 f44 f45 : Addr} (X : K.In h) (G : h.Ns mainGlobals mg) (hfa : mg "law" = some (.ref fa))
    {od0 an0 od1 an1 od2 an2 od3 an3 od4 an4 od5 an5 od6 an6 od7 an7 od8 an8 od9 an9 od10 an10 od11 an11 od12 an12 od13 an13 od14 an14 od15 an15 od16 an16 od17 an17 od18 an18 od19 an19 od20 an20 od21 an21 od22 an22 od23 an23 od24 an24 od25 an25 od26 an26 od27 an27 od28 an28 od29 an29 od30 an30 od31 an31 od32 an32 od33 an33 od34 an34 od35 an35 od36 an36 od37 an37 od38 an38 od39 an39 od40 an40 od41 an41 od42 an42 od43 an43 od44 an44 od45 an45 : Option Addr} {sl0 sl1 sl2 sl3 sl4 sl5 sl6 sl7 sl8 sl9 sl10 sl11 sl12 sl13 sl14 sl15 sl16 sl17 sl18 sl19 sl20 sl21 sl22 sl23 sl24 sl25 sl26 sl27 sl28 sl29 sl30 sl31 sl32 sl33 sl34 sl35 sl36 sl37 sl38 sl39 sl40 sl41 sl42 sl43 sl44 sl45 : Array (Option Value)} {oc0 kV0 dc0 pm0 cd0 ct0 oc1 kV1 dc1 pm1 cd1 ct1 oc2 kV2 dc2 pm2 cd2 ct2 oc3 kV3 dc3 pm3 cd3 ct3 oc4 kV4 dc4 pm4 cd4 ct4 oc5 kV5 dc5 pm5 cd5 ct5 oc6 kV6 dc6 pm6 cd6 ct6 oc7 kV7 dc7 pm7 cd7 ct7 oc8 kV8 dc8 pm8 cd8 ct8 oc9 kV9 dc9 pm9 cd9 ct9 oc10 kV10 dc10 pm10 cd10 ct10 oc11 kV11 dc11 pm11 cd11 ct11 oc12 kV12 dc12 pm12 cd12 ct12 oc13 kV13 dc13 pm13 cd13 ct13 oc14 kV14 dc14 pm14 ct14 oc15 kV15 dc15 pm15 cd15 ct15 oc16 kV16 dc16 pm16 cd16 ct16 oc17 kV17 dc17 pm17 cd17 ct17 oc18 kV18 dc18 pm18 cd18 ct18 oc19 kV19 dc19 pm19 cd19 ct19 oc20 kV20 dc20 pm20 cd20 ct20 oc21 kV21 dc21 pm21 cd21 ct21 oc22 kV22 dc22 pm22 cd22 ct22 oc23 kV23 dc23 pm23 cd23 ct23 oc24 kV24 dc24 pm24 cd24 ct24 oc25 kV25 dc25 pm25 ct25 oc26 kV26 dc26 pm26 cd26 ct26 oc27 kV27 dc27 pm27 ct27 oc28 kV28 dc28 pm28 cd28 ct28 oc29 kV29 dc29 pm29 cd29 ct29 oc30 kV30 dc30 pm30 cd30 ct30 oc31 kV31 dc31 pm31 cd31 ct31 oc32 kV32 dc32 pm32 cd32 ct32 oc33 kV33 dc33 pm33 cd33 ct33 oc34 kV34 dc34 pm34 cd34 ct34 oc35 kV35 dc35 pm35 cd35 ct35 oc36 kV36 dc36 pm36 cd36 ct36 oc37 kV37 dc37 pm37 cd37 ct37 oc38 kV38 dc38 pm38 cd38 ct38 oc39 kV39 dc39 pm39 cd39 ct39 oc40 kV40 dc40 pm40 cd40 ct40 oc41 kV41 dc41 pm41 cd41 ct41 oc42 kV42 dc42 pm42 cd42 ct42 oc43 kV43 dc43 pm43 cd43 ct43 oc44 kV44 dc44 pm44 cd44 ct44 oc45 kV45 dc45 pm45 cd45 ct45 : Value}
    (g_Code : PySem.W.nsIn K mainGlobals "Code" = some (some (.ref k_Code)))
    (g_Book : PySem.W.nsIn K mainGlobals "Book" = some (some (.ref k_Book)))
    (g_CableError : PySem.W.nsIn K mainGlobals "CableError" = some (some (.ref k_CableError)))
    (g_NoCode : PySem.W.nsIn K mainGlobals "NoCode" = some (some (.ref k_NoCode)))
    (g_NoNumber : PySem.W.nsIn K mainGlobals "NoNumber" = some (some (.ref k_NoNumber)))
    (g_NoWord : PySem.W.nsIn K mainGlobals "NoWord" = some (some (.ref k_NoWord)))
    (g_NoEntry : PySem.W.nsIn K mainGlobals "NoEntry" = some (some (.ref k_NoEntry)))
    (g_Twice : PySem.W.nsIn K mainGlobals "Twice" = some (some (.ref k_Twice)))
    (g_TooMany : PySem.W.nsIn K mainGlobals "TooMany" = some (some (.ref k_TooMany)))
    (g_NoBook : PySem.W.nsIn K mainGlobals "NoBook" = some (some (.ref k_NoBook)))
    (g_NoText : PySem.W.nsIn K mainGlobals "NoText" = some (some (.ref k_NoText)))
    (g_NoReading : PySem.W.nsIn K mainGlobals "NoReading" = some (some (.ref k_NoReading)))
    (g_NoSetting : PySem.W.nsIn K mainGlobals "NoSetting" = some (some (.ref k_NoSetting)))
    (g_TooGarbled : PySem.W.nsIn K mainGlobals "TooGarbled" = some (some (.ref k_TooGarbled)))
    (g_NoNet : PySem.W.nsIn K mainGlobals "NoNet" = some (some (.ref k_NoNet)))
    (g_NoOffice : PySem.W.nsIn K mainGlobals "NoOffice" = some (some (.ref k_NoOffice)))
    (g_NoDay : PySem.W.nsIn K mainGlobals "NoDay" = some (some (.ref k_NoDay)))
    (g_NoRow : PySem.W.nsIn K mainGlobals "NoRow" = some (some (.ref k_NoRow)))
    (a0 : PySem.W.findIn K (.ref k_NoReading) "__init__" = some (some (.ref f0)))
    (i0 : PySem.W.isFn K (.ref f0) = true)
    (l0 : K.lookup f0 = some ⟨oc0, od0, .func (PySem.W.fnOf "__init__" "NoReading.__init__" (aG bG) (az bG) (ag bG) .none kV0 dc0 pm0 an0 cd0 ct0), sl0⟩)
    (c0 : PySem.W.codeIn K cd0 "NoReading.__init__" = true)
    (k0 : PySem.W.keepIn K (.ref f0) = true)
    (a1 : PySem.W.findIn K (.ref k_NoSetting) "__init__" = some (some (.ref f1)))
    (i1 : PySem.W.isFn K (.ref f1) = true)
    (l1 : K.lookup f1 = some ⟨oc1, od1, .func (PySem.W.fnOf "__init__" "NoSetting.__init__" (aG bH) (az bH) (ag bH) .none kV1 dc1 pm1 an1 cd1 ct1), sl1⟩)
    (c1 : PySem.W.codeIn K cd1 "NoSetting.__init__" = true)
    (k1 : PySem.W.keepIn K (.ref f1) = true)
    (a2 : PySem.W.nsIn K mainGlobals "is_whole" = some (some (.ref f2)))
    (l2 : K.lookup f2 = some ⟨oc2, od2, .func (PySem.W.fnOf "is_whole" "is_whole" (aG eG) (az eG) (ag eG) .none kV2 dc2 pm2 an2 cd2 ct2), sl2⟩)
    (c2 : PySem.W.codeIn K cd2 "is_whole" = true)
    (k2 : PySem.W.keepIn K (.ref f2) = true)
    (a3 : PySem.W.nsIn K mainGlobals "common_divisor" = some (some (.ref f3)))
    (l3 : K.lookup f3 = some ⟨oc3, od3, .func (PySem.W.fnOf "common_divisor" "common_divisor" (aG bI) (az bI) (ag bI) .none kV3 dc3 pm3 an3 cd3 ct3), sl3⟩)
    (c3 : PySem.W.codeIn K cd3 "common_divisor" = true)
    (k3 : PySem.W.keepIn K (.ref f3) = true)
    (a4 : PySem.W.nsIn K mainGlobals "are_safe" = some (some (.ref f4)))
    (l4 : K.lookup f4 = some ⟨oc4, od4, .func (PySem.W.fnOf "are_safe" "are_safe" (aG eD) (az eD) (ag eD) .none kV4 dc4 pm4 an4 cd4 ct4), sl4⟩)
    (c4 : PySem.W.codeIn K cd4 "are_safe" = true)
    (k4 : PySem.W.keepIn K (.ref f4) = true)
    (a5 : PySem.W.nsIn K mainGlobals "is_alphabet" = some (some (.ref f5)))
    (l5 : K.lookup f5 = some ⟨oc5, od5, .func (PySem.W.fnOf "is_alphabet" "is_alphabet" (aG cC) (az cC) (ag cC) .none kV5 dc5 pm5 an5 cd5 ct5), sl5⟩)
    (c5 : PySem.W.codeIn K cd5 "is_alphabet" = true)
    (k5 : PySem.W.keepIn K (.ref f5) = true)
    (a6 : PySem.W.nsIn K mainGlobals "is_below" = some (some (.ref f6)))
    (l6 : K.lookup f6 = some ⟨oc6, od6, .func (PySem.W.fnOf "is_below" "is_below" (aG eE) (az eE) (ag eE) .none kV6 dc6 pm6 an6 cd6 ct6), sl6⟩)
    (c6 : PySem.W.codeIn K cd6 "is_below" = true)
    (k6 : PySem.W.keepIn K (.ref f6) = true)
    (a7 : PySem.W.nsIn K mainGlobals "are_weights" = some (some (.ref f7)))
    (l7 : K.lookup f7 = some ⟨oc7, od7, .func (PySem.W.fnOf "are_weights" "are_weights" (aG cB) (az cB) (ag cB) .none kV7 dc7 pm7 an7 cd7 ct7), sl7⟩)
    (c7 : PySem.W.codeIn K cd7 "are_weights" = true)
    (k7 : PySem.W.keepIn K (.ref f7) = true)
    (a8 : PySem.W.findIn K (.ref k_Code) "__init__" = some (some (.ref f8)))
    (i8 : PySem.W.isFn K (.ref f8) = true)
    (l8 : K.lookup f8 = some ⟨oc8, od8, .func (PySem.W.fnOf "__init__" "Code.__init__" (aG dw) (az dw) (ag dw) .none kV8 dc8 pm8 an8 cd8 ct8), sl8⟩)
    (c8 : PySem.W.codeIn K cd8 "Code.__init__" = true)
    (k8 : PySem.W.keepIn K (.ref f8) = true)
    (a9 : PySem.W.findIn K (.ref k_Code) "many" = some (some (.ref f9)))
    (i9 : PySem.W.isFn K (.ref f9) = true)
    (l9 : K.lookup f9 = some ⟨oc9, od9, .func (PySem.W.fnOf "many" "Code.many" (aG dy) (az dy) (ag dy) .none kV9 dc9 pm9 an9 cd9 ct9), sl9⟩)
    (c9 : PySem.W.codeIn K cd9 "Code.many" = true)
    (k9 : PySem.W.keepIn K (.ref f9) = true)
    (a10 : PySem.W.nsIn K mainGlobals "are_letters" = some (some (.ref f10)))
    (l10 : K.lookup f10 = some ⟨oc10, od10, .func (PySem.W.fnOf "are_letters" "are_letters" (aG cA) (az cA) (ag cA) .none kV10 dc10 pm10 an10 cd10 ct10), sl10⟩)
    (c10 : PySem.W.codeIn K cd10 "are_letters" = true)
    (k10 : PySem.W.keepIn K (.ref f10) = true)
    (a11 : PySem.W.nsIn K mainGlobals "are_words" = some (some (.ref f11)))
    (l11 : K.lookup f11 = some ⟨oc11, od11, .func (PySem.W.fnOf "are_words" "are_words" (aG dz) (az dz) (ag dz) .none kV11 dc11 pm11 an11 cd11 ct11), sl11⟩)
    (c11 : PySem.W.codeIn K cd11 "are_words" = true)
    (k11 : PySem.W.keepIn K (.ref f11) = true)
    (a12 : PySem.W.nsIn K mainGlobals "is_entry" = some (some (.ref f12)))
    (l12 : K.lookup f12 = some ⟨oc12, od12, .func (PySem.W.fnOf "is_entry" "is_entry" (aG eF) (az eF) (ag eF) .none kV12 dc12 pm12 an12 cd12 ct12), sl12⟩)
    (c12 : PySem.W.codeIn K cd12 "is_entry" = true)
    (k12 : PySem.W.keepIn K (.ref f12) = true)
    (a13 : PySem.W.findIn K (.ref k_Book) "__init__" = some (some (.ref f13)))
    (i13 : PySem.W.isFn K (.ref f13) = true)
    (l13 : K.lookup f13 = some ⟨oc13, od13, .func (PySem.W.fnOf "__init__" "Book.__init__" (aG du) (az du) (ag du) .none kV13 dc13 pm13 an13 cd13 ct13), sl13⟩)
    (c13 : PySem.W.codeIn K cd13 "Book.__init__" = true)
    (k13 : PySem.W.keepIn K (.ref f13) = true)
    (a14 : PySem.W.findIn K (.ref k_Book) "put" = some (some (.ref f14)))
    (i14 : PySem.W.isFn K (.ref f14) = true)
    {dt14 : Addr} {tc14 : Value} {td14 : Option Addr} {tn14 : Nat} {ts14 : Array (Option Value)}
    (l14 : K.lookup f14 = some ⟨oc14, od14, .func (PySem.W.fnOf "put" "Book.put" (aG bB) (az bB) (ag bB) (.ref dt14) kV14 dc14 pm14 an14 (.ref k_cd) ct14), sl14⟩)
    (t14 : K.lookup dt14 = some ⟨tc14, td14, .seq #[.none] tn14, ts14⟩)
    (c14 : PySem.W.codeIn K (.ref k_cd) "Book.put" = true)
    (k14 : PySem.W.keepIn K (.ref f14) = true)
    (a15 : PySem.W.findIn K (.ref k_Book) "choose" = some (some (.ref f15)))
    (i15 : PySem.W.isFn K (.ref f15) = true)
    (l15 : K.lookup f15 = some ⟨oc15, od15, .func (PySem.W.fnOf "choose" "Book.choose" (aG cy) (az cy) (ag cy) .none kV15 dc15 pm15 an15 cd15 ct15), sl15⟩)
    (c15 : PySem.W.codeIn K cd15 "Book.choose" = true)
    (k15 : PySem.W.keepIn K (.ref f15) = true)
    (a16 : PySem.W.findIn K (.ref k_Book) "least_free" = some (some (.ref f16)))
    (i16 : PySem.W.isFn K (.ref f16) = true)
    (l16 : K.lookup f16 = some ⟨oc16, od16, .func (PySem.W.fnOf "least_free" "Book.least_free" (aG bz) (az bz) (ag bz) .none kV16 dc16 pm16 an16 cd16 ct16), sl16⟩)
    (c16 : PySem.W.codeIn K cd16 "Book.least_free" = true)
    (k16 : PySem.W.keepIn K (.ref f16) = true)
    (a17 : PySem.W.findIn K (.ref k_Book) "entry" = some (some (.ref f17)))
    (i17 : PySem.W.isFn K (.ref f17) = true)
    (l17 : K.lookup f17 = some ⟨oc17, od17, .func (PySem.W.fnOf "entry" "Book.entry" (aG cR) (az cR) (ag cR) .none kV17 dc17 pm17 an17 cd17 ct17), sl17⟩)
    (c17 : PySem.W.codeIn K cd17 "Book.entry" = true)
    (k17 : PySem.W.keepIn K (.ref f17) = true)
    (a18 : PySem.W.findIn K (.ref k_Book) "number" = some (some (.ref f18)))
    (i18 : PySem.W.isFn K (.ref f18) = true)
    (l18 : K.lookup f18 = some ⟨oc18, od18, .func (PySem.W.fnOf "number" "Book.number" (aG cz) (az cz) (ag cz) .none kV18 dc18 pm18 an18 cd18 ct18), sl18⟩)
    (c18 : PySem.W.codeIn K cd18 "Book.number" = true)
    (k18 : PySem.W.keepIn K (.ref f18) = true)
    (a19 : PySem.W.findIn K (.ref k_Book) "entries" = some (some (.ref f19)))
    (i19 : PySem.W.isFn K (.ref f19) = true)
    (l19 : K.lookup f19 = some ⟨oc19, od19, .func (PySem.W.fnOf "entries" "Book.entries" (aG cb) (az cb) (ag cb) .none kV19 dc19 pm19 an19 cd19 ct19), sl19⟩)
    (c19 : PySem.W.codeIn K cd19 "Book.entries" = true)
    (k19 : PySem.W.keepIn K (.ref f19) = true)
    (a20 : PySem.W.nsIn K mainGlobals "is_text" = some (some (.ref f20)))
    (l20 : K.lookup f20 = some ⟨oc20, od20, .func (PySem.W.fnOf "is_text" "is_text" (aG fF) (az fF) (ag fF) .none kV20 dc20 pm20 an20 cd20 ct20), sl20⟩)
    (c20 : PySem.W.codeIn K cd20 "is_text" = true)
    (k20 : PySem.W.keepIn K (.ref f20) = true)
    (a21 : PySem.W.nsIn K mainGlobals "can_stand" = some (some (.ref f21)))
    (l21 : K.lookup f21 = some ⟨oc21, od21, .func (PySem.W.fnOf "can_stand" "can_stand" (aG d0) (az d0) (ag d0) .none kV21 dc21 pm21 an21 cd21 ct21), sl21⟩)
    (c21 : PySem.W.codeIn K cd21 "can_stand" = true)
    (k21 : PySem.W.keepIn K (.ref f21) = true)
    (a22 : PySem.W.nsIn K mainGlobals "said" = some (some (.ref f22)))
    (l22 : K.lookup f22 = some ⟨oc22, od22, .func (PySem.W.fnOf "said" "said" (aG kr) (az kr) (ag kr) .none kV22 dc22 pm22 an22 cd22 ct22), sl22⟩)
    (c22 : PySem.W.codeIn K cd22 "said" = true)
    (k22 : PySem.W.keepIn K (.ref f22) = true)
    (a23 : PySem.W.nsIn K mainGlobals "fewest" = some (some (.ref f23)))
    (l23 : K.lookup f23 = some ⟨oc23, od23, .func (PySem.W.fnOf "fewest" "fewest" (aG gN) (az gN) (ag gN) .none kV23 dc23 pm23 an23 cd23 ct23), sl23⟩)
    (c23 : PySem.W.codeIn K cd23 "fewest" = true)
    (k23 : PySem.W.keepIn K (.ref f23) = true)
    (a24 : PySem.W.nsIn K mainGlobals "lone_group" = some (some (.ref f24)))
    (l24 : K.lookup f24 = some ⟨oc24, od24, .func (PySem.W.fnOf "lone_group" "lone_group" (aG cU) (az cU) (ag cU) .none kV24 dc24 pm24 an24 cd24 ct24), sl24⟩)
    (c24 : PySem.W.codeIn K cd24 "lone_group" = true)
    (k24 : PySem.W.keepIn K (.ref f24) = true)
    (a25 : PySem.W.nsIn K mainGlobals "spelling_of" = some (some (.ref f25)))
    (l25 : K.lookup f25 = some ⟨oc25, od25, .func (PySem.W.fnOf "spelling_of" "spelling_of" (aG cG) (az cG) (ag cG) .none kV25 dc25 pm25 an25 (.ref k_cd1) ct25), sl25⟩)
    (c25 : PySem.W.codeIn K (.ref k_cd1) "spelling_of" = true)
    (k25 : PySem.W.keepIn K (.ref f25) = true)
    (a26 : PySem.W.nsIn K mainGlobals "step_over" = some (some (.ref f26)))
    (l26 : K.lookup f26 = some ⟨oc26, od26, .func (PySem.W.fnOf "step_over" "step_over" (aG dA) (az dA) (ag dA) .none kV26 dc26 pm26 an26 cd26 ct26), sl26⟩)
    (c26 : PySem.W.codeIn K cd26 "step_over" = true)
    (k26 : PySem.W.keepIn K (.ref f26) = true)
    (a27 : PySem.W.nsIn K mainGlobals "settings_of" = some (some (.ref f27)))
    (l27 : K.lookup f27 = some ⟨oc27, od27, .func (PySem.W.fnOf "settings_of" "settings_of" (aG cF) (az cF) (ag cF) .none kV27 dc27 pm27 an27 (.ref k_cd2) ct27), sl27⟩)
    (c27 : PySem.W.codeIn K (.ref k_cd2) "settings_of" = true)
    (k27 : PySem.W.keepIn K (.ref f27) = true)
    (a28 : PySem.W.nsIn K mainGlobals "least_groups" = some (some (.ref f28)))
    (l28 : K.lookup f28 = some ⟨oc28, od28, .func (PySem.W.fnOf "least_groups" "least_groups" (aG cf) (az cf) (ag cf) .none kV28 dc28 pm28 an28 cd28 ct28), sl28⟩)
    (c28 : PySem.W.codeIn K cd28 "least_groups" = true)
    (k28 : PySem.W.keepIn K (.ref f28) = true)
    (a29 : PySem.W.nsIn K mainGlobals "set_groups" = some (some (.ref f29)))
    (l29 : K.lookup f29 = some ⟨oc29, od29, .func (PySem.W.fnOf "set_groups" "set_groups" (aG cV) (az cV) (ag cV) .none kV29 dc29 pm29 an29 cd29 ct29), sl29⟩)
    (c29 : PySem.W.codeIn K cd29 "set_groups" = true)
    (k29 : PySem.W.keepIn K (.ref f29) = true)
    (a30 : PySem.W.nsIn K mainGlobals "_law_cell_at" = some (some (.ref f30)))
    (l30 : K.lookup f30 = some ⟨oc30, od30, .func (PySem.W.fnOf "_law_cell_at" "_law_cell_at" (aG cD) (az cD) (ag cD) .none kV30 dc30 pm30 an30 cd30 ct30), sl30⟩)
    (c30 : PySem.W.codeIn K cd30 "_law_cell_at" = true)
    (k30 : PySem.W.keepIn K (.ref f30) = true)
    (a31 : PySem.W.nsIn K mainGlobals "_law_mixed" = some (some (.ref f31)))
    (l31 : K.lookup f31 = some ⟨oc31, od31, .func (PySem.W.fnOf "_law_mixed" "_law_mixed" (aG d8) (az d8) (ag d8) .none kV31 dc31 pm31 an31 cd31 ct31), sl31⟩)
    (c31 : PySem.W.codeIn K cd31 "_law_mixed" = true)
    (k31 : PySem.W.keepIn K (.ref f31) = true)
    (a32 : PySem.W.nsIn K mainGlobals "_law_divisor" = some (some (.ref f32)))
    (l32 : K.lookup f32 = some ⟨oc32, od32, .func (PySem.W.fnOf "_law_divisor" "_law_divisor" (aG cE) (az cE) (ag cE) .none kV32 dc32 pm32 an32 cd32 ct32), sl32⟩)
    (c32 : PySem.W.codeIn K cd32 "_law_divisor" = true)
    (k32 : PySem.W.keepIn K (.ref f32) = true)
    (a33 : PySem.W.nsIn K mainGlobals "_law_weight" = some (some (.ref f33)))
    (l33 : K.lookup f33 = some ⟨oc33, od33, .func (PySem.W.fnOf "_law_weight" "_law_weight" (aG cT) (az cT) (ag cT) .none kV33 dc33 pm33 an33 cd33 ct33), sl33⟩)
    (c33 : PySem.W.codeIn K cd33 "_law_weight" = true)
    (k33 : PySem.W.keepIn K (.ref f33) = true)
    (a34 : PySem.W.nsIn K mainGlobals "_law_code" = some (some (.ref f34)))
    (l34 : K.lookup f34 = some ⟨oc34, od34, .func (PySem.W.fnOf "_law_code" "_law_code" (aG eI) (az eI) (ag eI) .none kV34 dc34 pm34 an34 cd34 ct34), sl34⟩)
    (c34 : PySem.W.codeIn K cd34 "_law_code" = true)
    (k34 : PySem.W.keepIn K (.ref f34) = true)
    (a35 : PySem.W.nsIn K mainGlobals "_law_word" = some (some (.ref f35)))
    (l35 : K.lookup f35 = some ⟨oc35, od35, .func (PySem.W.fnOf "_law_word" "_law_word" (aG eM) (az eM) (ag eM) .none kV35 dc35 pm35 an35 cd35 ct35), sl35⟩)
    (c35 : PySem.W.codeIn K cd35 "_law_word" = true)
    (k35 : PySem.W.keepIn K (.ref f35) = true)
    (a36 : PySem.W.nsIn K mainGlobals "_law_some_words" = some (some (.ref f36)))
    (l36 : K.lookup f36 = some ⟨oc36, od36, .func (PySem.W.fnOf "_law_some_words" "_law_some_words" (aG bJ) (az bJ) (ag bJ) .none kV36 dc36 pm36 an36 cd36 ct36), sl36⟩)
    (c36 : PySem.W.codeIn K cd36 "_law_some_words" = true)
    (k36 : PySem.W.keepIn K (.ref f36) = true)
    (a37 : PySem.W.nsIn K mainGlobals "_law_entry" = some (some (.ref f37)))
    (l37 : K.lookup f37 = some ⟨oc37, od37, .func (PySem.W.fnOf "_law_entry" "_law_entry" (aG d4) (az d4) (ag d4) .none kV37 dc37 pm37 an37 cd37 ct37), sl37⟩)
    (c37 : PySem.W.codeIn K cd37 "_law_entry" = true)
    (k37 : PySem.W.keepIn K (.ref f37) = true)
    (a38 : PySem.W.nsIn K mainGlobals "_law_filled" = some (some (.ref f38)))
    (l38 : K.lookup f38 = some ⟨oc38, od38, .func (PySem.W.fnOf "_law_filled" "_law_filled" (aG cS) (az cS) (ag cS) .none kV38 dc38 pm38 an38 cd38 ct38), sl38⟩)
    (c38 : PySem.W.codeIn K cd38 "_law_filled" = true)
    (k38 : PySem.W.keepIn K (.ref f38) = true)
    (a39 : PySem.W.nsIn K mainGlobals "_law_words" = some (some (.ref f39)))
    (l39 : K.lookup f39 = some ⟨oc39, od39, .func (PySem.W.fnOf "_law_words" "_law_words" (aG d9) (az d9) (ag d9) .none kV39 dc39 pm39 an39 cd39 ct39), sl39⟩)
    (c39 : PySem.W.codeIn K cd39 "_law_words" = true)
    (k39 : PySem.W.keepIn K (.ref f39) = true)
    (a40 : PySem.W.nsIn K mainGlobals "_law_kinds" = some (some (.ref f40)))
    (l40 : K.lookup f40 = some ⟨oc40, od40, .func (PySem.W.fnOf "_law_kinds" "_law_kinds" (aG d7) (az d7) (ag d7) .none kV40 dc40 pm40 an40 cd40 ct40), sl40⟩)
    (c40 : PySem.W.codeIn K cd40 "_law_kinds" = true)
    (k40 : PySem.W.keepIn K (.ref f40) = true)
    (a41 : PySem.W.nsIn K mainGlobals "_law_told" = some (some (.ref f41)))
    (l41 : K.lookup f41 = some ⟨oc41, od41, .func (PySem.W.fnOf "_law_told" "_law_told" (aG eK) (az eK) (ag eK) .none kV41 dc41 pm41 an41 cd41 ct41), sl41⟩)
    (c41 : PySem.W.codeIn K cd41 "_law_told" = true)
    (k41 : PySem.W.keepIn K (.ref f41) = true)
    (a42 : PySem.W.nsIn K mainGlobals "_law_no_least" = some (some (.ref f42)))
    (l42 : K.lookup f42 = some ⟨oc42, od42, .func (PySem.W.fnOf "_law_no_least" "_law_no_least" (aG cc) (az cc) (ag cc) .none kV42 dc42 pm42 an42 cd42 ct42), sl42⟩)
    (c42 : PySem.W.codeIn K cd42 "_law_no_least" = true)
    (k42 : PySem.W.keepIn K (.ref f42) = true)
    (a43 : PySem.W.nsIn K mainGlobals "_law_good" = some (some (.ref f43)))
    (l43 : K.lookup f43 = some ⟨oc43, od43, .func (PySem.W.fnOf "_law_good" "_law_good" (aG eJ) (az eJ) (ag eJ) .none kV43 dc43 pm43 an43 cd43 ct43), sl43⟩)
    (c43 : PySem.W.codeIn K cd43 "_law_good" = true)
    (k43 : PySem.W.keepIn K (.ref f43) = true)
    (a44 : PySem.W.nsIn K mainGlobals "_law_odd" = some (some (.ref f44)))
    (l44 : K.lookup f44 = some ⟨oc44, od44, .func (PySem.W.fnOf "_law_odd" "_law_odd" (aG fG) (az fG) (ag fG) .none kV44 dc44 pm44 an44 cd44 ct44), sl44⟩)
    (c44 : PySem.W.codeIn K cd44 "_law_odd" = true)
    (k44 : PySem.W.keepIn K (.ref f44) = true)
    (a45 : PySem.W.nsIn K mainGlobals "law" = some (some (.ref f45)))
    (l45 : K.lookup f45 = some ⟨oc45, od45, .func (PySem.W.fnOf "law" "law" (aG jK) (az jK) (ag jK) .none kV45 dc45 pm45 an45 cd45 ct45), sl45⟩)
    (c45 : PySem.W.codeIn K cd45 "law" = true)
    (k45 : PySem.W.keepIn K (.ref f45) = true)
    (pg_Code : PySem.W.plainGet K k_Code Str.empty = true)
    (hd_Code : PySem.W.hasDictIn K k_Code = true)
    (po_Code : PySem.W.plainOver K k_Code = true)
    (sa_Code : PySem.W.findIn K (.ref k_Code) "__setattr__" = some (some (.builtin "object.__setattr__")))
    (mk_Code : PySem.W.makesIn K k_Code = true)
    (kc_Code : PySem.W.keepIn K (.ref k_Code) = true)
    (n_Code_letters : PySem.W.findIn K (.ref k_Code) "letters" = some none)
    (n_Code_factors : PySem.W.findIn K (.ref k_Code) "factors" = some none)
    (n_Code_remainder : PySem.W.findIn K (.ref k_Code) "remainder" = some none)
    (pg_Book : PySem.W.plainGet K k_Book Str.empty = true)
    (hd_Book : PySem.W.hasDictIn K k_Book = true)
    (po_Book : PySem.W.plainOver K k_Book = true)
    (sa_Book : PySem.W.findIn K (.ref k_Book) "__setattr__" = some (some (.builtin "object.__setattr__")))
    (mk_Book : PySem.W.makesIn K k_Book = true)
    (kc_Book : PySem.W.keepIn K (.ref k_Book) = true)
    (n_Book_basis : PySem.W.findIn K (.ref k_Book) "basis" = some none)
    (n_Book_by_number : PySem.W.findIn K (.ref k_Book) "by_number" = some none)
    (n_Book_by_entry : PySem.W.findIn K (.ref k_Book) "by_entry" = some none)
    (q_NoCode : PySem.W.excIn K k_NoCode [.type "ValueError", .type "Exception", .type "BaseException", .type "object"] "ValueError.__new__" = true)
    (q_NoNumber : PySem.W.excIn K k_NoNumber [.type "ValueError", .type "Exception", .type "BaseException", .type "object"] "ValueError.__new__" = true)
    (q_NoWord : PySem.W.excIn K k_NoWord [.type "ValueError", .type "Exception", .type "BaseException", .type "object"] "ValueError.__new__" = true)
    (q_NoEntry : PySem.W.excIn K k_NoEntry [.type "ValueError", .type "Exception", .type "BaseException", .type "object"] "ValueError.__new__" = true)
    (q_Twice : PySem.W.excIn K k_Twice [.type "ValueError", .type "Exception", .type "BaseException", .type "object"] "ValueError.__new__" = true)
    (q_TooMany : PySem.W.excIn K k_TooMany [.type "ValueError", .type "Exception", .type "BaseException", .type "object"] "ValueError.__new__" = true)
    (q_NoBook : PySem.W.excIn K k_NoBook [.type "ValueError", .type "Exception", .type "BaseException", .type "object"] "ValueError.__new__" = true)
    (q_NoText : PySem.W.excIn K k_NoText [.type "ValueError", .type "Exception", .type "BaseException", .type "object"] "ValueError.__new__" = true)
    (q_NoNet : PySem.W.excIn K k_NoNet [.type "ValueError", .type "Exception", .type "BaseException", .type "object"] "ValueError.__new__" = true)
    (q_NoOffice : PySem.W.excIn K k_NoOffice [.type "ValueError", .type "Exception", .type "BaseException", .type "object"] "ValueError.__new__" = true)
    (q_NoDay : PySem.W.excIn K k_NoDay [.type "ValueError", .type "Exception", .type "BaseException", .type "object"] "ValueError.__new__" = true)
    (q_NoRow : PySem.W.excIn K k_NoRow [.type "ValueError", .type "Exception", .type "BaseException", .type "object"] "ValueError.__new__" = true)
    (bi_ga : PySem.W.specialIn K (.ref k_CableError) "__getattribute__" = some (some (.builtin "type.__getattribute__")))
    (bi_rd : PySem.W.readsIn K k_CableError (.type "type") = true)
    (bi_fc : PySem.W.findCls K (.ref k_CableError) (.type "type") "__init__" = some (.val (.builtin "ValueError.__init__")))
    {nm_NoReading nq_NoReading : Str} {nN_NoReading : Addr} {nb_NoReading nr_NoReading nu_NoReading : List Value} {nh_NoReading na_NoReading : Bool} {ns_NoReading : List Str} {nc_NoReading : Option Bool} {nd_NoReading : Option Addr} {n0_NoReading n1_NoReading n2_NoReading n3_NoReading n5_NoReading : Option Value}
    (oc_NoReading : K.lookup k_NoReading = some (excClassObj nm_NoReading nq_NoReading k_NoReading nN_NoReading nb_NoReading nr_NoReading nh_NoReading ns_NoReading nu_NoReading na_NoReading nc_NoReading nd_NoReading n0_NoReading n1_NoReading n2_NoReading n3_NoReading n5_NoReading "ValueError.__new__"))
    (on_NoReading : PySem.W.nsOkIn K nN_NoReading = true)
    (oi_NoReading : PySem.W.nsIn K nN_NoReading "__init__" = some (some (.ref f0)))
    (ot_NoReading : PySem.W.tailIn K Af nr_NoReading = true)
    (ok_NoReading : PySem.W.keepIn K (.ref k_NoReading) = true)
    (sa_NoReading : PySem.W.findIn K (.ref k_NoReading) "__setattr__" = some (some (.builtin "object.__setattr__")))
    (sm_NoReading : ((PySem.W.clsIn K k_NoReading).any fun cd => jb cd.mro) = true)
    (st_NoReading : PySem.W.takerIn K k_NoReading "at" = some none)
    (sh_NoReading : PySem.W.hasDictIn K k_NoReading = true)
    (sf_NoReading : PySem.W.findIn K (.ref k_NoReading) "at" = some none)
    {nm_NoSetting nq_NoSetting : Str} {nN_NoSetting : Addr} {nb_NoSetting nr_NoSetting nu_NoSetting : List Value} {nh_NoSetting na_NoSetting : Bool} {ns_NoSetting : List Str} {nc_NoSetting : Option Bool} {nd_NoSetting : Option Addr} {n0_NoSetting n1_NoSetting n2_NoSetting n3_NoSetting n5_NoSetting : Option Value}
    (oc_NoSetting : K.lookup k_NoSetting = some (excClassObj nm_NoSetting nq_NoSetting k_NoSetting nN_NoSetting nb_NoSetting nr_NoSetting nh_NoSetting ns_NoSetting nu_NoSetting na_NoSetting nc_NoSetting nd_NoSetting n0_NoSetting n1_NoSetting n2_NoSetting n3_NoSetting n5_NoSetting "ValueError.__new__"))
    (on_NoSetting : PySem.W.nsOkIn K nN_NoSetting = true)
    (oi_NoSetting : PySem.W.nsIn K nN_NoSetting "__init__" = some (some (.ref f1)))
    (ot_NoSetting : PySem.W.tailIn K Af nr_NoSetting = true)
    (ok_NoSetting : PySem.W.keepIn K (.ref k_NoSetting) = true)
    (sa_NoSetting : PySem.W.findIn K (.ref k_NoSetting) "__setattr__" = some (some (.builtin "object.__setattr__")))
    (sm_NoSetting : ((PySem.W.clsIn K k_NoSetting).any fun cd => jb cd.mro) = true)
    (st_NoSetting : PySem.W.takerIn K k_NoSetting "at" = some none)
    (sh_NoSetting : PySem.W.hasDictIn K k_NoSetting = true)
    (sf_NoSetting : PySem.W.findIn K (.ref k_NoSetting) "at" = some none)
    (x_NoSetting : PySem.W.exmOne K (.ref k_NoSetting) (.ref k_NoSetting) = some true)
    (x_NoText : PySem.W.exmOne K (.ref k_NoText) (.ref k_NoText) = some true)
    (y_NoText_NoSetting : PySem.W.exmOne K (.ref k_NoText) (.ref k_NoSetting) = some false)
    (tab : PySem.W.codeHdIn K k_cd k_tb = true)
    (tab1 : PySem.W.codeHdIn K k_cd1 k_tb1 = true)
    (tab2 : PySem.W.codeHdIn K k_cd2 k_tb2 = true)
    (err : pA K k_CableError [k_NoCode, k_NoNumber, k_NoWord, k_NoEntry, k_Twice, k_TooMany, k_NoBook, k_NoText, k_NoReading, k_NoSetting, k_TooGarbled, k_NoNet, k_NoOffice, k_NoDay, k_NoRow] = true)
    (ndx : ndB [k_NoCode, k_NoNumber, k_NoWord, k_NoEntry, k_Twice, k_TooMany, k_NoBook, k_NoText, k_NoReading, k_NoSetting, k_TooGarbled, k_NoNet, k_NoOffice, k_NoDay, k_NoRow] = true)
    {u_SMALL_LETTERS : Value}
    (v_SMALL_LETTERS : PySem.W.nsIn K mainGlobals "SMALL_LETTERS" = some (some u_SMALL_LETTERS))
    (r_SMALL_LETTERS : RelV (.str "abcdefghijklmnopqrstuvwxyz") u_SMALL_LETTERS)
    {u_LONGEST_WORD : Value}
    (v_LONGEST_WORD : PySem.W.nsIn K mainGlobals "LONGEST_WORD" = some (some u_LONGEST_WORD))
    (r_LONGEST_WORD : RelV (.int 20) u_LONGEST_WORD)
    {u_MOST_ENTRIES : Value}
    (v_MOST_ENTRIES : PySem.W.nsIn K mainGlobals "MOST_ENTRIES" = some (some u_MOST_ENTRIES))
    (r_MOST_ENTRIES : RelV (.int 300) u_MOST_ENTRIES)
    {u_MOST_PHRASE_WORDS : Value}
    (v_MOST_PHRASE_WORDS : PySem.W.nsIn K mainGlobals "MOST_PHRASE_WORDS" = some (some u_MOST_PHRASE_WORDS))
    (r_MOST_PHRASE_WORDS : RelV (.int 6) u_MOST_PHRASE_WORDS)
    {u_MOST_PART_LETTERS : Value}
    (v_MOST_PART_LETTERS : PySem.W.nsIn K mainGlobals "MOST_PART_LETTERS" = some (some u_MOST_PART_LETTERS))
    (r_MOST_PART_LETTERS : RelV (.int 6) u_MOST_PART_LETTERS)
    {u_MOST_WORDS : Value}
    (v_MOST_WORDS : PySem.W.nsIn K mainGlobals "MOST_WORDS" = some (some u_MOST_WORDS))
    (r_MOST_WORDS : RelV (.int 60) u_MOST_WORDS)
    (z_isinstance : PySem.W.nsIn K mainGlobals "isinstance" = some none)
    (z_bool : PySem.W.nsIn K mainGlobals "bool" = some none)
    (z_int : PySem.W.nsIn K mainGlobals "int" = some none)
    (z_abs : PySem.W.nsIn K mainGlobals "abs" = some none)
    (z_all : PySem.W.nsIn K mainGlobals "all" = some none)
    (z_zip : PySem.W.nsIn K mainGlobals "zip" = some none)
    (z_len : PySem.W.nsIn K mainGlobals "len" = some none)
    (z_set : PySem.W.nsIn K mainGlobals "set" = some none)
    (z_str : PySem.W.nsIn K mainGlobals "str" = some none)
    (z_list : PySem.W.nsIn K mainGlobals "list" = some none)
    (z_tuple : PySem.W.nsIn K mainGlobals "tuple" = some none)
    (z_sorted : PySem.W.nsIn K mainGlobals "sorted" = some none)
    (z_enumerate : PySem.W.nsIn K mainGlobals "enumerate" = some none)
    (z_range : PySem.W.nsIn K mainGlobals "range" = some none)
    (z_max : PySem.W.nsIn K mainGlobals "max" = some none)
    (z_ValueError : PySem.W.nsIn K mainGlobals "ValueError" = some none)
    : (∀ p ∈ [(k_tb, n9), (k_tb1, ir), (k_tb2, j6)], ∃ c, PySem.W.codeHdIn K c p.1 = true) ∧ ∃ fd : FuncData, (∀ (s : Shared) (v : Value), BindsTo s fd ⟨[v], []⟩ [("_law_script", v)]) ∧ ∀ base : Heap, K.In base → base.Ns mainGlobals mg → aW l.prog w K mg base (CX1 l.prog w) 16 fa fd ["_law_script"] (ub K k_tb k_tb1 k_tb2) := by
  have e := hfa.symm.trans (PySem.W.mg_of X G a45)
  cases e
  have T : Bl mg := ⟨PySem.W.mg_none_of X G z_isinstance, PySem.W.mg_none_of X G z_bool, PySem.W.mg_none_of X G z_int, PySem.W.mg_none_of X G z_abs, PySem.W.mg_none_of X G z_all, PySem.W.mg_none_of X G z_zip, PySem.W.mg_none_of X G z_len, PySem.W.mg_none_of X G z_set, PySem.W.mg_none_of X G z_str, PySem.W.mg_none_of X G z_list, PySem.W.mg_none_of X G z_tuple, PySem.W.mg_none_of X G z_sorted, PySem.W.mg_none_of X G z_enumerate, PySem.W.mg_none_of X G z_range, PySem.W.mg_none_of X G z_max, PySem.W.mg_none_of X G z_ValueError⟩
  have AF : AdF K mg ⟨k_Code, k_Book, k_CableError, k_NoCode, k_NoNumber, k_NoWord, k_NoEntry, k_Twice, k_TooMany, k_NoBook, k_NoText, k_NoReading, k_NoSetting, k_TooGarbled, k_NoNet, k_NoOffice, k_NoDay, k_NoRow, k_cd, k_tb, k_cd1, k_tb1, k_cd2, k_tb2, ()⟩ := ⟨PySem.W.mg_of X G g_Code, PySem.W.mg_of X G g_Book, PySem.W.mg_of X G g_CableError, PySem.W.mg_of X G g_NoCode, PySem.W.mg_of X G g_NoNumber, PySem.W.mg_of X G g_NoWord, PySem.W.mg_of X G g_NoEntry, PySem.W.mg_of X G g_Twice, PySem.W.mg_of X G g_TooMany, PySem.W.mg_of X G g_NoBook, PySem.W.mg_of X G g_NoText, PySem.W.mg_of X G g_NoReading, PySem.W.mg_of X G g_NoSetting, PySem.W.mg_of X G g_TooGarbled, PySem.W.mg_of X G g_NoNet, PySem.W.mg_of X G g_NoOffice, PySem.W.mg_of X G g_NoDay, PySem.W.mg_of X G g_NoRow, ⟨pg_Code, hd_Code, po_Code, sa_Code⟩, n_Code_letters, n_Code_factors, n_Code_remainder, ⟨pg_Book, hd_Book, po_Book, sa_Book⟩, n_Book_basis, n_Book_by_number, n_Book_by_entry, q_NoCode, q_NoNumber, q_NoWord, q_NoEntry, q_Twice, q_TooMany, q_NoBook, q_NoText, q_NoNet, q_NoOffice, q_NoDay, q_NoRow, ⟨bi_ga, bi_rd, bi_fc⟩, ⟨_, ⟨⟨_, _, _, _, _, _, _, _, _, _, _, _, _, _, _, _, oc_NoReading, on_NoReading, oi_NoReading, ot_NoReading⟩, i0, ok_NoReading⟩⟩, ⟨sa_NoReading, sm_NoReading, st_NoReading, sh_NoReading⟩, sf_NoReading, ⟨_, ⟨⟨_, _, _, _, _, _, _, _, _, _, _, _, _, _, _, _, oc_NoSetting, on_NoSetting, oi_NoSetting, ot_NoSetting⟩, i1, ok_NoSetting⟩⟩, ⟨sa_NoSetting, sm_NoSetting, st_NoSetting, sh_NoSetting⟩, sf_NoSetting, x_NoSetting, x_NoText, y_NoText_NoSetting, tab, tab1, tab2, err, ndx, ⟨_, PySem.W.mg_of X G v_SMALL_LETTERS, r_SMALL_LETTERS⟩, ⟨_, PySem.W.mg_of X G v_LONGEST_WORD, r_LONGEST_WORD⟩, ⟨_, PySem.W.mg_of X G v_MOST_ENTRIES, r_MOST_ENTRIES⟩, ⟨_, PySem.W.mg_of X G v_MOST_PHRASE_WORDS, r_MOST_PHRASE_WORDS⟩, ⟨_, PySem.W.mg_of X G v_MOST_PART_LETTERS, r_MOST_PART_LETTERS⟩, ⟨_, PySem.W.mg_of X G v_MOST_WORDS, r_MOST_WORDS⟩⟩
  have F0 := aN (st := bG) l0 c0 k0
  have F1 := aN (st := bH) l1 c1 k1
  have F2 := aN (st := eG) l2 c2 k2
  have F3 := aN (st := bI) l3 c3 k3
  have F4 := aN (st := eD) l4 c4 k4
  have F5 := aN (st := cC) l5 c5 k5
  have F6 := aN (st := eE) l6 c6 k6
  have F7 := aN (st := cB) l7 c7 k7
  have F8 := aN (st := dw) l8 c8 k8
  have F9 := aN (st := dy) l9 c9 k9
  have F10 := aN (st := cA) l10 c10 k10
  have F11 := aN (st := dz) l11 c11 k11
  have F12 := aN (st := eF) l12 c12 k12
  have F13 := aN (st := du) l13 c13 k13
  have F14 := Ai (st := bB) l14 c14 k14
  have F15 := aN (st := cy) l15 c15 k15
  have F16 := aN (st := bz) l16 c16 k16
  have F17 := aN (st := cR) l17 c17 k17
  have F18 := aN (st := cz) l18 c18 k18
  have F19 := aN (st := cb) l19 c19 k19
  have F20 := aN (st := fF) l20 c20 k20
  have F21 := aN (st := d0) l21 c21 k21
  have F22 := aN (st := kr) l22 c22 k22
  have F23 := aN (st := gN) l23 c23 k23
  have F24 := aN (st := cU) l24 c24 k24
  have F25 := aN (st := cG) l25 c25 k25
  have F26 := aN (st := dA) l26 c26 k26
  have F27 := aN (st := cF) l27 c27 k27
  have F28 := aN (st := cf) l28 c28 k28
  have F29 := aN (st := cV) l29 c29 k29
  have F30 := aN (st := cD) l30 c30 k30
  have F31 := aN (st := d8) l31 c31 k31
  have F32 := aN (st := cE) l32 c32 k32
  have F33 := aN (st := cT) l33 c33 k33
  have F34 := aN (st := eI) l34 c34 k34
  have F35 := aN (st := eM) l35 c35 k35
  have F36 := aN (st := bJ) l36 c36 k36
  have F37 := aN (st := d4) l37 c37 k37
  have F38 := aN (st := cS) l38 c38 k38
  have F39 := aN (st := d9) l39 c39 k39
  have F40 := aN (st := d7) l40 c40 k40
  have F41 := aN (st := eK) l41 c41 k41
  have F42 := aN (st := cc) l42 c42 k42
  have F43 := aN (st := eJ) l43 c43 k43
  have F44 := aN (st := fG) l44 c44 k44
  have F45 := aN (st := jK) l45 c45 k45
  refine ⟨List.forall_mem_cons.mpr ⟨⟨_, tab⟩, List.forall_mem_cons.mpr ⟨⟨_, tab1⟩, List.forall_mem_cons.mpr ⟨⟨_, tab2⟩, fun _ h => nomatch h⟩⟩⟩, PySem.W.fnOf "law" "law" (aG jK) (az jK) (ag jK) .none kV45 dc45 pm45 an45 cd45 ct45, fun s v => .of_eq rfl, fun base _ _ => ?_⟩
  have b0 := F0.binds (ps := ["self", "at"]) fun _ _ _ _ _ _ => L2.bQ fun _ _ => rfl
  have K_NoReading : xB l.prog w K mg base (CX1 l.prog w) k_NoReading "NoReading" 1 ["self", "at"] (cL (⟨k_Code, k_Book, k_CableError, k_NoCode, k_NoNumber, k_NoWord, k_NoEntry, k_Twice, k_TooMany, k_NoBook, k_NoText, k_NoReading, k_NoSetting, k_TooGarbled, k_NoNet, k_NoOffice, k_NoDay, k_NoRow, k_cd, k_tb, k_cd1, k_tb1, k_cd2, k_tb2, ()⟩ : Ads)) := ⟨⟨f0, _, jA F0 T AF , ⟨⟨_, _, _, _, _, _, _, _, _, _, _, _, _, _, _, _, oc_NoReading, on_NoReading, oi_NoReading, ot_NoReading⟩, i0, ok_NoReading⟩, b0⟩, AF.g_NoReading⟩
  have b1 := F1.binds (ps := ["self", "at"]) fun _ _ _ _ _ _ => L2.bQ fun _ _ => rfl
  have K_NoSetting : xB l.prog w K mg base (CX1 l.prog w) k_NoSetting "NoSetting" 1 ["self", "at"] (cM (⟨k_Code, k_Book, k_CableError, k_NoCode, k_NoNumber, k_NoWord, k_NoEntry, k_Twice, k_TooMany, k_NoBook, k_NoText, k_NoReading, k_NoSetting, k_TooGarbled, k_NoNet, k_NoOffice, k_NoDay, k_NoRow, k_cd, k_tb, k_cd1, k_tb1, k_cd2, k_tb2, ()⟩ : Ads)) := ⟨⟨f1, _, jB F1 T AF , ⟨⟨_, _, _, _, _, _, _, _, _, _, _, _, _, _, _, _, oc_NoSetting, on_NoSetting, oi_NoSetting, ot_NoSetting⟩, i1, ok_NoSetting⟩, b1⟩, AF.g_NoSetting⟩
  have b2 := F2.binds (ps := ["thing"]) fun _ _ _ _ _ _ => L2.bind1 fun _ => rfl
  have C_is_whole : Fnc l.prog w K mg base (CX1 l.prog w) 1 "is_whole" ["thing"] i7 := ⟨f2, _, rJ F2 T AF , PySem.W.mg_of X G a2, k2, b2⟩
  have b3 := F3.binds (ps := ["one", "other"]) fun _ _ _ _ _ _ => L2.bQ fun _ _ => rfl
  have C_common_divisor : Fnc l.prog w K mg base (CX1 l.prog w) 1 "common_divisor" ["one", "other"] dR := ⟨f3, _, jC F3 T AF , PySem.W.mg_of X G a3, k3, b3⟩
  have b5 := F5.binds (ps := ["thing"]) fun _ _ _ _ _ _ => L2.bind1 fun _ => rfl
  have C_is_alphabet : Fnc l.prog w K mg base (CX1 l.prog w) 1 "is_alphabet" ["thing"] fX := ⟨f5, _, mI F5 T AF , PySem.W.mg_of X G a5, k5, b5⟩
  have b9 := F9.binds (ps := ["self"]) fun _ _ _ _ _ _ => L2.bind1 fun _ => rfl
  have M_Code_many : Mtd l.prog w K mg base (CX1 l.prog w) k_Code "many" 1 ["self"] (cW (⟨k_Code, k_Book, k_CableError, k_NoCode, k_NoNumber, k_NoWord, k_NoEntry, k_Twice, k_TooMany, k_NoBook, k_NoText, k_NoReading, k_NoSetting, k_TooGarbled, k_NoNet, k_NoOffice, k_NoDay, k_NoRow, k_cd, k_tb, k_cd1, k_tb1, k_cd2, k_tb2, ()⟩ : Ads)) := ⟨⟨f9, _, pO F9 T AF , ⟨a9, i9, k9⟩, b9⟩, AF.c_Code⟩
  have b10 := F10.binds (ps := ["thing", "most"]) fun _ _ _ _ _ _ => L2.bQ fun _ _ => rfl
  have C_are_letters : Fnc l.prog w K mg base (CX1 l.prog w) 1 "are_letters" ["thing", "most"] dQ := ⟨f10, _, mG F10 T AF , PySem.W.mg_of X G a10, k10, b10⟩
  have b13 := F13.binds (ps := ["self", "code"]) fun _ _ _ _ _ _ => L2.bQ fun _ _ => rfl
  have K_Book : Mak l.prog w K mg base (CX1 l.prog w) k_Book "Book" 1 ["self", "code"] (gY (⟨k_Code, k_Book, k_CableError, k_NoCode, k_NoNumber, k_NoWord, k_NoEntry, k_Twice, k_TooMany, k_NoBook, k_NoText, k_NoReading, k_NoSetting, k_TooGarbled, k_NoNet, k_NoOffice, k_NoDay, k_NoRow, k_cd, k_tb, k_cd1, k_tb1, k_cd2, k_tb2, ()⟩ : Ads)) := ⟨⟨f13, _, pM F13 T AF , ⟨mk_Book, a13, i13, kc_Book⟩, b13⟩, AF.g_Book⟩
  have b19 := F19.binds (ps := ["self"]) fun _ _ _ _ _ _ => L2.bind1 fun _ => rfl
  have M_Book_entries : Mtd l.prog w K mg base (CX1 l.prog w) k_Book "entries" 1 ["self"] (fk (⟨k_Code, k_Book, k_CableError, k_NoCode, k_NoNumber, k_NoWord, k_NoEntry, k_Twice, k_TooMany, k_NoBook, k_NoText, k_NoReading, k_NoSetting, k_TooGarbled, k_NoNet, k_NoOffice, k_NoDay, k_NoRow, k_cd, k_tb, k_cd1, k_tb1, k_cd2, k_tb2, ()⟩ : Ads)) := ⟨⟨f19, _, kZ F19 T AF , ⟨a19, i19, k19⟩, b19⟩, AF.c_Book⟩
  have b21 := F21.binds (ps := ["entry", "many", "spelling"]) fun _ _ _ _ _ _ => L2.uO fun _ _ _ => rfl
  have C_can_stand : Fnc l.prog w K mg base (CX1 l.prog w) 1 "can_stand" ["entry", "many", "spelling"] gZ := ⟨f21, _, pQ F21 T AF , PySem.W.mg_of X G a21, k21, b21⟩
  have b23 := F23.binds (ps := ["many", "longest", "step"]) fun _ _ _ _ _ _ => L2.uO fun _ _ _ => rfl
  have C_fewest : ur l.prog w K mg base (CX1 l.prog w) 2 "fewest" ["many", "longest", "step"] iL := ⟨f23, _, fun k => wY (k := k) F23 T AF , PySem.W.mg_of X G a23, k23, b23⟩
  have b30 := F30.binds (ps := ["_law_script", "_law_k"]) fun _ _ _ _ _ _ => L2.bQ fun _ _ => rfl
  have C_law_cell_at : Fnc l.prog w K mg base (CX1 l.prog w) 1 "_law_cell_at" ["_law_script", "_law_k"] (dS K) := ⟨f30, _, mJ F30 T AF , PySem.W.mg_of X G a30, k30, b30⟩
  have b31 := F31.binds (ps := ["_law_cell"]) fun _ _ _ _ _ _ => L2.bind1 fun _ => rfl
  have C_law_mixed : Fnc l.prog w K mg base (CX1 l.prog w) 1 "_law_mixed" ["_law_cell"] cX := ⟨f31, _, pT F31 T AF , PySem.W.mg_of X G a31, k31, b31⟩
  have b32 := F32.binds (ps := ["_law_one", "_law_other"]) fun _ _ _ _ _ _ => L2.bQ fun _ _ => rfl
  have C_law_divisor : Fnc l.prog w K mg base (CX1 l.prog w) 1 "_law_divisor" ["_law_one", "_law_other"] fY := ⟨f32, _, mK F32 T AF , PySem.W.mg_of X G a32, k32, b32⟩
  have b35 := F35.binds (ps := ["_law_number"]) fun _ _ _ _ _ _ => L2.bind1 fun _ => rfl
  have C_law_word : Fnc l.prog w K mg base (CX1 l.prog w) 1 "_law_word" ["_law_number"] fb := ⟨f35, _, rN F35 T AF , PySem.W.mg_of X G a35, k35, b35⟩
  have b40 := F40.binds (ps := ["_law_e"]) fun _ _ _ _ _ _ => L2.bind1 fun _ => rfl
  have C_law_kinds : zU l.prog w K mg base (CX1 l.prog w) 1 "_law_kinds" ["_law_e"] (fA (⟨k_Code, k_Book, k_CableError, k_NoCode, k_NoNumber, k_NoWord, k_NoEntry, k_Twice, k_TooMany, k_NoBook, k_NoText, k_NoReading, k_NoSetting, k_TooGarbled, k_NoNet, k_NoOffice, k_NoDay, k_NoRow, k_cd, k_tb, k_cd1, k_tb1, k_cd2, k_tb2, ()⟩ : Ads)) := ⟨f40, _, pS F40 T AF , PySem.W.mg_of X G a40, k40, b40⟩
  have b44 := F44.binds (ps := ["_law_number"]) fun _ _ _ _ _ _ => L2.bind1 fun _ => rfl
  have C_law_odd : Fnc l.prog w K mg base (CX1 l.prog w) 1 "_law_odd" ["_law_number"] jo := ⟨f44, _, tJ F44 T AF , PySem.W.mg_of X G a44, k44, b44⟩
  have b4 := F4.binds (ps := ["weights", "m"]) fun _ _ _ _ _ _ => L2.bQ fun _ _ => rfl
  have C_are_safe : Fnc l.prog w K mg base (CX1 l.prog w) 2 "are_safe" ["weights", "m"] i6 := ⟨f4, _, rF F4 T AF C_common_divisor, PySem.W.mg_of X G a4, k4, b4⟩
  have b6 := F6.binds (ps := ["thing", "bound"]) fun _ _ _ _ _ _ => L2.bQ fun _ _ => rfl
  have C_is_below : Fnc l.prog w K mg base (CX1 l.prog w) 2 "is_below" ["thing", "bound"] dD := ⟨f6, _, rG F6 T AF C_is_whole, PySem.W.mg_of X G a6, k6, b6⟩
  have b11 := F11.binds (ps := ["thing", "most"]) fun _ _ _ _ _ _ => L2.bQ fun _ _ => rfl
  have C_are_words : Fnc l.prog w K mg base (CX1 l.prog w) 2 "are_words" ["thing", "most"] fz := ⟨f11, _, pP F11 T AF C_are_letters, PySem.W.mg_of X G a11, k11, b11⟩
  have b16 := F16.binds (ps := ["self", "is_barred"]) fun _ _ _ _ _ _ => L2.bQ fun _ _ => rfl
  have M_Book_least_free : Mtd l.prog w K mg base (CX1 l.prog w) k_Book "least_free" 2 ["self", "is_barred"] (cq (⟨k_Code, k_Book, k_CableError, k_NoCode, k_NoNumber, k_NoWord, k_NoEntry, k_Twice, k_TooMany, k_NoBook, k_NoText, k_NoReading, k_NoSetting, k_TooGarbled, k_NoNet, k_NoOffice, k_NoDay, k_NoRow, k_cd, k_tb, k_cd1, k_tb1, k_cd2, k_tb2, ()⟩ : Ads)) := ⟨⟨f16, _, jf F16 T AF M_Code_many, ⟨a16, i16, k16⟩, b16⟩, AF.c_Book⟩
  have b33 := F33.binds (ps := ["_law_weights", "_law_m", "_law_number"]) fun _ _ _ _ _ _ => L2.uO fun _ _ _ => rfl
  have C_law_weight : Fnc l.prog w K mg base (CX1 l.prog w) 2 "_law_weight" ["_law_weights", "_law_m", "_law_number"] gA := ⟨f33, _, nC F33 T AF C_law_divisor, PySem.W.mg_of X G a33, k33, b33⟩
  have b36 := F36.binds (ps := ["_law_number", "_law_many"]) fun _ _ _ _ _ _ => L2.bQ fun _ _ => rfl
  have C_law_some_words : Fnc l.prog w K mg base (CX1 l.prog w) 2 "_law_some_words" ["_law_number", "_law_many"] dU := ⟨f36, _, jD F36 T AF C_law_word, PySem.W.mg_of X G a36, k36, b36⟩
  have b39 := F39.binds (ps := ["_law_cells", "_law_start"]) fun _ _ _ _ _ _ => L2.bQ fun _ _ => rfl
  have C_law_words : Fnc l.prog w K mg base (CX1 l.prog w) 2 "_law_words" ["_law_cells", "_law_start"] (hX K) := ⟨f39, _, pU F39 T AF C_law_word C_law_mixed, PySem.W.mg_of X G a39, k39, b39⟩
  have b7 := F7.binds (ps := ["thing", "m"]) fun _ _ _ _ _ _ => L2.bQ fun _ _ => rfl
  have C_are_weights : Fnc l.prog w K mg base (CX1 l.prog w) 3 "are_weights" ["thing", "m"] fW := ⟨f7, _, mH F7 T AF C_is_below, PySem.W.mg_of X G a7, k7, b7⟩
  have b12 := F12.binds (ps := ["thing"]) fun _ _ _ _ _ _ => L2.bind1 fun _ => rfl
  have C_is_entry : Fnc l.prog w K mg base (CX1 l.prog w) 3 "is_entry" ["thing"] gj := ⟨f12, _, rH F12 T AF C_are_letters C_are_words, PySem.W.mg_of X G a12, k12, b12⟩
  have b17 := F17.binds (ps := ["self", "number"]) fun _ _ _ _ _ _ => L2.bQ fun _ _ => rfl
  have M_Book_entry : Mtd l.prog w K mg base (CX1 l.prog w) k_Book "entry" 3 ["self", "number"] (eS (⟨k_Code, k_Book, k_CableError, k_NoCode, k_NoNumber, k_NoWord, k_NoEntry, k_Twice, k_TooMany, k_NoBook, k_NoText, k_NoReading, k_NoSetting, k_TooGarbled, k_NoNet, k_NoOffice, k_NoDay, k_NoRow, k_cd, k_tb, k_cd1, k_tb1, k_cd2, k_tb2, ()⟩ : Ads)) := ⟨⟨f17, _, nA F17 T AF C_is_below M_Code_many, ⟨a17, i17, k17⟩, b17⟩, AF.c_Book⟩
  have b20 := F20.binds (ps := ["thing"]) fun _ _ _ _ _ _ => L2.bind1 fun _ => rfl
  have C_is_text : Fnc l.prog w K mg base (CX1 l.prog w) 3 "is_text" ["thing"] hO := ⟨f20, _, tI F20 T AF C_are_words, PySem.W.mg_of X G a20, k20, b20⟩
  have b37 := F37.binds (ps := ["_law_number"]) fun _ _ _ _ _ _ => L2.bind1 fun _ => rfl
  have C_law_entry : Fnc l.prog w K mg base (CX1 l.prog w) 3 "_law_entry" ["_law_number"] hV := ⟨f37, _, pR F37 T AF C_law_some_words C_law_word, PySem.W.mg_of X G a37, k37, b37⟩
  have b8 := F8.binds (ps := ["self", "alphabet", "weights", "rest"]) fun _ _ _ _ _ _ => L2.Br fun _ _ _ _ => rfl
  have K_Code : Mak l.prog w K mg base (CX1 l.prog w) k_Code "Code" 4 ["self", "alphabet", "weights", "rest"] (fw (⟨k_Code, k_Book, k_CableError, k_NoCode, k_NoNumber, k_NoWord, k_NoEntry, k_Twice, k_TooMany, k_NoBook, k_NoText, k_NoReading, k_NoSetting, k_TooGarbled, k_NoNet, k_NoOffice, k_NoDay, k_NoRow, k_cd, k_tb, k_cd1, k_tb1, k_cd2, k_tb2, ()⟩ : Ads)) := ⟨⟨f8, _, pN F8 T AF C_are_safe C_is_below C_are_weights C_is_alphabet, ⟨mk_Code, a8, i8, kc_Code⟩, b8⟩, AF.g_Code⟩
  have b15 := F15.binds (ps := ["self", "entry", "number", "is_barred"]) fun _ _ _ _ _ _ => L2.Br fun _ _ _ _ => rfl
  have M_Book_choose : Mtd l.prog w K mg base (CX1 l.prog w) k_Book "choose" 4 ["self", "entry", "number", "is_barred"] (fV (⟨k_Code, k_Book, k_CableError, k_NoCode, k_NoNumber, k_NoWord, k_NoEntry, k_Twice, k_TooMany, k_NoBook, k_NoText, k_NoReading, k_NoSetting, k_TooGarbled, k_NoNet, k_NoOffice, k_NoDay, k_NoRow, k_cd, k_tb, k_cd1, k_tb1, k_cd2, k_tb2, ()⟩ : Ads)) := ⟨⟨f15, _, mE F15 T AF C_is_below C_is_entry M_Book_least_free M_Code_many, ⟨a15, i15, k15⟩, b15⟩, AF.c_Book⟩
  have b18 := F18.binds (ps := ["self", "entry"]) fun _ _ _ _ _ _ => L2.bQ fun _ _ => rfl
  have M_Book_number : Mtd l.prog w K mg base (CX1 l.prog w) k_Book "number" 4 ["self", "entry"] (dP (⟨k_Code, k_Book, k_CableError, k_NoCode, k_NoNumber, k_NoWord, k_NoEntry, k_Twice, k_TooMany, k_NoBook, k_NoText, k_NoReading, k_NoSetting, k_TooGarbled, k_NoNet, k_NoOffice, k_NoDay, k_NoRow, k_cd, k_tb, k_cd1, k_tb1, k_cd2, k_tb2, ()⟩ : Ads)) := ⟨⟨f18, _, mF F18 T AF C_is_entry, ⟨a18, i18, k18⟩, b18⟩, AF.c_Book⟩
  have b22 := F22.binds (ps := ["book", "groups"]) fun _ _ _ _ _ _ => L2.bQ fun _ _ => rfl
  have C_said : Fnc l.prog w K mg base (CX1 l.prog w) 4 "said" ["book", "groups"] (qo (⟨k_Code, k_Book, k_CableError, k_NoCode, k_NoNumber, k_NoWord, k_NoEntry, k_Twice, k_TooMany, k_NoBook, k_NoText, k_NoReading, k_NoSetting, k_TooGarbled, k_NoNet, k_NoOffice, k_NoDay, k_NoRow, k_cd, k_tb, k_cd1, k_tb1, k_cd2, k_tb2, ()⟩ : Ads)) := ⟨f22, _, Aw F22 T AF C_can_stand M_Book_entry K_NoReading, PySem.W.mg_of X G a22, k22, b22⟩
  have b14 : Binds K (PySem.W.fnOf "put" "Book.put" (aG bB) (az bB) (ag bB) (.ref dt14) kV14 dc14 pm14 an14 (.ref k_cd) ct14) ["self", "entry", "number"] [] := fun s us hK hl => match us, (show us.length = 3 by simpa using hl) with | [_, _, _], _ => .of_defaults rfl (hK _ _ t14) rfl rfl rfl
  have bd14 : Binds K (PySem.W.fnOf "put" "Book.put" (aG bB) (az bB) (ag bB) (.ref dt14) kV14 dc14 pm14 an14 (.ref k_cd) ct14) ["self", "entry", "number"] [.none] := fun s us hK hl => match us, (show us.length = 2 by simpa using hl) with | [_, _], _ => .of_defaults rfl (hK _ _ t14) rfl rfl rfl
  have M_Book_put : Mtd l.prog w K mg base (CX1 l.prog w) k_Book "put" 5 ["self", "entry", "number"] (dC (⟨k_Code, k_Book, k_CableError, k_NoCode, k_NoNumber, k_NoWord, k_NoEntry, k_Twice, k_TooMany, k_NoBook, k_NoText, k_NoReading, k_NoSetting, k_TooGarbled, k_NoNet, k_NoOffice, k_NoDay, k_NoRow, k_cd, k_tb, k_cd1, k_tb1, k_cd2, k_tb2, ()⟩ : Ads)) := ⟨⟨f14, _, kN F14 T AF rfl M_Book_choose, ⟨a14, i14, k14⟩, b14⟩, AF.c_Book⟩
  have D_Book_put : Cd l.prog w K mg base (CX1 l.prog w) k_Book "put" 5 ["self", "entry", "number"] (dC (⟨k_Code, k_Book, k_CableError, k_NoCode, k_NoNumber, k_NoWord, k_NoEntry, k_Twice, k_TooMany, k_NoBook, k_NoText, k_NoReading, k_NoSetting, k_TooGarbled, k_NoNet, k_NoOffice, k_NoDay, k_NoRow, k_cd, k_tb, k_cd1, k_tb1, k_cd2, k_tb2, ()⟩ : Ads)) := ⟨⟨f14, _, kN F14 T AF rfl M_Book_choose, ⟨a14, i14, k14⟩, bd14⟩, AF.c_Book⟩
  have b24 := F24.binds (ps := ["book", "entry"]) fun _ _ _ _ _ _ => L2.bQ fun _ _ => rfl
  have C_lone_group : Fnc l.prog w K mg base (CX1 l.prog w) 5 "lone_group" ["book", "entry"] (eT (⟨k_Code, k_Book, k_CableError, k_NoCode, k_NoNumber, k_NoWord, k_NoEntry, k_Twice, k_TooMany, k_NoBook, k_NoText, k_NoReading, k_NoSetting, k_TooGarbled, k_NoNet, k_NoOffice, k_NoDay, k_NoRow, k_cd, k_tb, k_cd1, k_tb1, k_cd2, k_tb2, ()⟩ : Ads)) := ⟨f24, _, nE F24 T AF M_Book_number, PySem.W.mg_of X G a24, k24, b24⟩
  have b34 := F34.binds (ps := ["_law_script"]) fun _ _ _ _ _ _ => L2.bind1 fun _ => rfl
  have C_law_code : Fnc l.prog w K mg base (CX1 l.prog w) 6 "_law_code" ["_law_script"] (iA K (⟨k_Code, k_Book, k_CableError, k_NoCode, k_NoNumber, k_NoWord, k_NoEntry, k_Twice, k_TooMany, k_NoBook, k_NoText, k_NoReading, k_NoSetting, k_TooGarbled, k_NoNet, k_NoOffice, k_NoDay, k_NoRow, k_cd, k_tb, k_cd1, k_tb1, k_cd2, k_tb2, ()⟩ : Ads)) := ⟨f34, _, rK F34 T AF C_law_weight C_law_mixed C_law_cell_at K_Code, PySem.W.mg_of X G a34, k34, b34⟩
  have b38 := F38.binds (ps := ["_law_code_here", "_law_cells"]) fun _ _ _ _ _ _ => L2.bQ fun _ _ => rfl
  have C_law_filled : Fnc l.prog w K mg base (CX1 l.prog w) 6 "_law_filled" ["_law_code_here", "_law_cells"] (gz K (⟨k_Code, k_Book, k_CableError, k_NoCode, k_NoNumber, k_NoWord, k_NoEntry, k_Twice, k_TooMany, k_NoBook, k_NoText, k_NoReading, k_NoSetting, k_TooGarbled, k_NoNet, k_NoOffice, k_NoDay, k_NoRow, k_cd, k_tb, k_cd1, k_tb1, k_cd2, k_tb2, ()⟩ : Ads)) := ⟨f38, _, nB F38 T AF C_law_entry C_law_mixed M_Book_entries M_Code_many M_Book_number M_Book_entry M_Book_put D_Book_put K_Book, PySem.W.mg_of X G a38, k38, b38⟩
  have b25 := F25.binds (ps := ["book", "word"]) fun _ _ _ _ _ _ => L2.bQ fun _ _ => rfl
  have C_spelling_of : Fnc l.prog w K mg base (CX1 l.prog w) 8 "spelling_of" ["book", "word"] (fZ (⟨k_Code, k_Book, k_CableError, k_NoCode, k_NoNumber, k_NoWord, k_NoEntry, k_Twice, k_TooMany, k_NoBook, k_NoText, k_NoReading, k_NoSetting, k_TooGarbled, k_NoNet, k_NoOffice, k_NoDay, k_NoRow, k_cd, k_tb, k_cd1, k_tb1, k_cd2, k_tb2, ()⟩ : Ads)) := ⟨f25, _, mM F25 T AF rfl C_fewest C_lone_group, PySem.W.mg_of X G a25, k25, b25⟩
  have b26 := F26.binds (ps := ["book", "words"]) fun _ _ _ _ _ _ => L2.bQ fun _ _ => rfl
  have C_step_over : Fnc l.prog w K mg base (CX1 l.prog w) 9 "step_over" ["book", "words"] (hZ (⟨k_Code, k_Book, k_CableError, k_NoCode, k_NoNumber, k_NoWord, k_NoEntry, k_Twice, k_TooMany, k_NoBook, k_NoText, k_NoReading, k_NoSetting, k_TooGarbled, k_NoNet, k_NoOffice, k_NoDay, k_NoRow, k_cd, k_tb, k_cd1, k_tb1, k_cd2, k_tb2, ()⟩ : Ads)) := ⟨f26, _, pV F26 T AF C_spelling_of C_lone_group, PySem.W.mg_of X G a26, k26, b26⟩
  have b27 := F27.binds (ps := ["book", "text"]) fun _ _ _ _ _ _ => L2.bQ fun _ _ => rfl
  have C_settings_of : Fnc l.prog w K mg base (CX1 l.prog w) 12 "settings_of" ["book", "text"] (dW (⟨k_Code, k_Book, k_CableError, k_NoCode, k_NoNumber, k_NoWord, k_NoEntry, k_Twice, k_TooMany, k_NoBook, k_NoText, k_NoReading, k_NoSetting, k_TooGarbled, k_NoNet, k_NoOffice, k_NoDay, k_NoRow, k_cd, k_tb, k_cd1, k_tb1, k_cd2, k_tb2, ()⟩ : Ads)) := ⟨f27, _, mL F27 T AF rfl C_fewest C_step_over C_is_text, PySem.W.mg_of X G a27, k27, b27⟩
  have b28 := F28.binds (ps := ["book", "text"]) fun _ _ _ _ _ _ => L2.bQ fun _ _ => rfl
  have C_least_groups : Fnc l.prog w K mg base (CX1 l.prog w) 13 "least_groups" ["book", "text"] (dj (⟨k_Code, k_Book, k_CableError, k_NoCode, k_NoNumber, k_NoWord, k_NoEntry, k_Twice, k_TooMany, k_NoBook, k_NoText, k_NoReading, k_NoSetting, k_TooGarbled, k_NoNet, k_NoOffice, k_NoDay, k_NoRow, k_cd, k_tb, k_cd1, k_tb1, k_cd2, k_tb2, ()⟩ : Ads)) := ⟨f28, _, lh F28 T AF C_settings_of, PySem.W.mg_of X G a28, k28, b28⟩
  have b29 := F29.binds (ps := ["book", "text"]) fun _ _ _ _ _ _ => L2.bQ fun _ _ => rfl
  have C_set_groups : Fnc l.prog w K mg base (CX1 l.prog w) 13 "set_groups" ["book", "text"] (eU (⟨k_Code, k_Book, k_CableError, k_NoCode, k_NoNumber, k_NoWord, k_NoEntry, k_Twice, k_TooMany, k_NoBook, k_NoText, k_NoReading, k_NoSetting, k_TooGarbled, k_NoNet, k_NoOffice, k_NoDay, k_NoRow, k_cd, k_tb, k_cd1, k_tb1, k_cd2, k_tb2, ()⟩ : Ads)) := ⟨f29, _, nF F29 T AF C_settings_of K_NoSetting, PySem.W.mg_of X G a29, k29, b29⟩
  have b41 := F41.binds (ps := ["_law_book", "_law_thing"]) fun _ _ _ _ _ _ => L2.bQ fun _ _ => rfl
  have C_law_told : Fnc l.prog w K mg base (CX1 l.prog w) 14 "_law_told" ["_law_book", "_law_thing"] (gk (⟨k_Code, k_Book, k_CableError, k_NoCode, k_NoNumber, k_NoWord, k_NoEntry, k_Twice, k_TooMany, k_NoBook, k_NoText, k_NoReading, k_NoSetting, k_TooGarbled, k_NoNet, k_NoOffice, k_NoDay, k_NoRow, k_cd, k_tb, k_cd1, k_tb1, k_cd2, k_tb2, ()⟩ : Ads)) := ⟨f41, _, rM F41 T AF C_set_groups C_law_kinds, PySem.W.mg_of X G a41, k41, b41⟩
  have b42 := F42.binds (ps := ["_law_book", "_law_thing"]) fun _ _ _ _ _ _ => L2.bQ fun _ _ => rfl
  have C_law_no_least : Fnc l.prog w K mg base (CX1 l.prog w) 14 "_law_no_least" ["_law_book", "_law_thing"] (fm (⟨k_Code, k_Book, k_CableError, k_NoCode, k_NoNumber, k_NoWord, k_NoEntry, k_Twice, k_TooMany, k_NoBook, k_NoText, k_NoReading, k_NoSetting, k_TooGarbled, k_NoNet, k_NoOffice, k_NoDay, k_NoRow, k_cd, k_tb, k_cd1, k_tb1, k_cd2, k_tb2, ()⟩ : Ads)) := ⟨f42, _, lb F42 T AF C_least_groups C_law_kinds, PySem.W.mg_of X G a42, k42, b42⟩
  have b43 := F43.binds (ps := ["_law_book", "_law_words_here"]) fun _ _ _ _ _ _ => L2.bQ fun _ _ => rfl
  have C_law_good : Fnc l.prog w K mg base (CX1 l.prog w) 15 "_law_good" ["_law_book", "_law_words_here"] (iB (⟨k_Code, k_Book, k_CableError, k_NoCode, k_NoNumber, k_NoWord, k_NoEntry, k_Twice, k_TooMany, k_NoBook, k_NoText, k_NoReading, k_NoSetting, k_TooGarbled, k_NoNet, k_NoOffice, k_NoDay, k_NoRow, k_cd, k_tb, k_cd1, k_tb1, k_cd2, k_tb2, ()⟩ : Ads)) := ⟨f43, _, rL F43 T AF C_said C_set_groups C_law_told C_least_groups, PySem.W.mg_of X G a43, k43, b43⟩
  exact CI F45 T AF C_is_text C_law_told C_law_no_least C_law_odd C_law_mixed C_law_cell_at C_law_good C_law_words C_law_filled C_law_code
end Kb
open PySem PySem.W PyProof.Rows
set_option maxRecDepth 100000 in
set_option maxHeartbeats 0 in
theorem Hk.Ep : Hk.top.c := by
  delta Hk.top
  dsimp only
  k_fill
  refine L2.xA (l := PySem.Challenge.rw_cablehouse_k19_whole_set_and_said) (n := 63) (k := 16) (x := "_law_script") (CX := fun w => L2.CX1 PySem.Challenge.rw_cablehouse_k19_whole_set_and_said.prog w) (sp := fun w => Kb.ub _ _ _ _) [(_, Kb.n9), (_, Kb.ir), (_, Kb.j6)] rfl (by decide) rfl ⟨rfl, by decide, by decide⟩ (by decide +kernel) (fun w h Y => ⟨PySem.W.km_in_of Y, List.forall_mem_cons.mpr ⟨PySem.W.km_tabs_of Y _ (.tail _ (.tail _ (.head _))), List.forall_mem_cons.mpr ⟨PySem.W.km_tabs_of Y _ (.head _), List.forall_mem_cons.mpr ⟨PySem.W.km_tabs_of Y _ (.tail _ (.head _)), fun _ h => nomatch h⟩⟩⟩⟩) ?F (fun w => List.forall_mem_cons.mpr ⟨by kernel_rfl, List.forall_mem_cons.mpr ⟨by kernel_rfl, List.forall_mem_cons.mpr ⟨by kernel_rfl, fun _ h => nomatch h⟩⟩⟩) (fun _ _ a ns hl hS hT => ⟨a, ns, rfl, hS, hl, hT _ (.head _), hT _ (.tail _ (.head _)), hT _ (.tail _ (.tail _ (.head _))), fun _ => rfl⟩) fun _ _ _ _ _ z => L2.kg z
  case F =>
    intro w mg fa h KX G hmg
    refine' Kb.all_mk KX G hmg ?g_Code ?g_Book ?g_CableError ?g_NoCode ?g_NoNumber ?g_NoWord ?g_NoEntry ?g_Twice ?g_TooMany ?g_NoBook ?g_NoText ?g_NoReading ?g_NoSetting ?g_TooGarbled ?g_NoNet ?g_NoOffice ?g_NoDay ?g_NoRow ?a0 ?i0 ?l0 ?c0 ?k0 ?a1 ?i1 ?l1 ?c1 ?k1 ?a2 ?l2 ?c2 ?k2 ?a3 ?l3 ?c3 ?k3 ?a4 ?l4 ?c4 ?k4 ?a5 ?l5 ?c5 ?k5 ?a6 ?l6 ?c6 ?k6 ?a7 ?l7 ?c7 ?k7 ?a8 ?i8 ?l8 ?c8 ?k8 ?a9 ?i9 ?l9 ?c9 ?k9 ?a10 ?l10 ?c10 ?k10 ?a11 ?l11 ?c11 ?k11 ?a12 ?l12 ?c12 ?k12 ?a13 ?i13 ?l13 ?c13 ?k13 ?a14 ?i14 ?l14 ?t14 ?c14 ?k14 ?a15 ?i15 ?l15 ?c15 ?k15 ?a16 ?i16 ?l16 ?c16 ?k16 ?a17 ?i17 ?l17 ?c17 ?k17 ?a18 ?i18 ?l18 ?c18 ?k18 ?a19 ?i19 ?l19 ?c19 ?k19 ?a20 ?l20 ?c20 ?k20 ?a21 ?l21 ?c21 ?k21 ?a22 ?l22 ?c22 ?k22 ?a23 ?l23 ?c23 ?k23 ?a24 ?l24 ?c24 ?k24 ?a25 ?l25 ?c25 ?k25 ?a26 ?l26 ?c26 ?k26 ?a27 ?l27 ?c27 ?k27 ?a28 ?l28 ?c28 ?k28 ?a29 ?l29 ?c29 ?k29 ?a30 ?l30 ?c30 ?k30 ?a31 ?l31 ?c31 ?k31 ?a32 ?l32 ?c32 ?k32 ?a33 ?l33 ?c33 ?k33 ?a34 ?l34 ?c34 ?k34 ?a35 ?l35 ?c35 ?k35 ?a36 ?l36 ?c36 ?k36 ?a37 ?l37 ?c37 ?k37 ?a38 ?l38 ?c38 ?k38 ?a39 ?l39 ?c39 ?k39 ?a40 ?l40 ?c40 ?k40 ?a41 ?l41 ?c41 ?k41 ?a42 ?l42 ?c42 ?k42 ?a43 ?l43 ?c43 ?k43 ?a44 ?l44 ?c44 ?k44 ?a45 ?l45 ?c45 ?k45 ?pg_Code ?hd_Code ?po_Code ?sa_Code ?mk_Code ?kc_Code ?n_Code_letters ?n_Code_factors ?n_Code_remainder ?pg_Book ?hd_Book ?po_Book ?sa_Book ?mk_Book ?kc_Book ?n_Book_basis ?n_Book_by_number ?n_Book_by_entry ?q_NoCode ?q_NoNumber ?q_NoWord ?q_NoEntry ?q_Twice ?q_TooMany ?q_NoBook ?q_NoText ?q_NoNet ?q_NoOffice ?q_NoDay ?q_NoRow ?bi_ga ?bi_rd ?bi_fc ?oc_NoReading ?on_NoReading ?oi_NoReading ?ot_NoReading ?ok_NoReading ?sa_NoReading ?sm_NoReading ?st_NoReading ?sh_NoReading ?sf_NoReading ?oc_NoSetting ?on_NoSetting ?oi_NoSetting ?ot_NoSetting ?ok_NoSetting ?sa_NoSetting ?sm_NoSetting ?st_NoSetting ?sh_NoSetting ?sf_NoSetting ?x_NoSetting ?x_NoText ?y_NoText_NoSetting ?tab ?tab1 ?tab2 ?err ?ndx ?v_SMALL_LETTERS ?r_SMALL_LETTERS ?v_LONGEST_WORD ?r_LONGEST_WORD ?v_MOST_ENTRIES ?r_MOST_ENTRIES ?v_MOST_PHRASE_WORDS ?r_MOST_PHRASE_WORDS ?v_MOST_PART_LETTERS ?r_MOST_PART_LETTERS ?v_MOST_WORDS ?r_MOST_WORDS ?z_isinstance ?z_bool ?z_int ?z_abs ?z_all ?z_zip ?z_len ?z_set ?z_str ?z_list ?z_tuple ?z_sorted ?z_enumerate ?z_range ?z_max ?z_ValueError
    (case g_Code => k_is)
    (case g_Book => k_is)
    (case g_CableError => k_is)
    (case g_NoCode => k_is)
    (case g_NoNumber => k_is)
    (case g_NoWord => k_is)
    (case g_NoEntry => k_is)
    (case g_Twice => k_is)
    (case g_TooMany => k_is)
    (case g_NoBook => k_is)
    (case g_NoText => k_is)
    (case g_NoReading => k_is)
    (case g_NoSetting => k_is)
    (case g_TooGarbled => k_is)
    (case g_NoNet => k_is)
    (case g_NoOffice => k_is)
    (case g_NoDay => k_is)
    (case g_NoRow => k_is)
    (case a0 => k_is)
    (case i0 => k_is)
    (case l0 => k_is)
    (case c0 => k_is)
    (case k0 => k_is)
    (case a1 => k_is)
    (case i1 => k_is)
    (case l1 => k_is)
    (case c1 => k_is)
    (case k1 => k_is)
    (case a2 => k_is)
    (case l2 => k_is)
    (case c2 => k_is)
    (case k2 => k_is)
    (case a3 => k_is)
    (case l3 => k_is)
    (case c3 => k_is)
    (case k3 => k_is)
    (case a4 => k_is)
    (case l4 => k_is)
    (case c4 => k_is)
    (case k4 => k_is)
    (case a5 => k_is)
    (case l5 => k_is)
    (case c5 => k_is)
    (case k5 => k_is)
    (case a6 => k_is)
    (case l6 => k_is)
    (case c6 => k_is)
    (case k6 => k_is)
    (case a7 => k_is)
    (case l7 => k_is)
    (case c7 => k_is)
    (case k7 => k_is)
    (case a8 => k_is)
    (case i8 => k_is)
    (case l8 => k_is)
    (case c8 => k_is)
    (case k8 => k_is)
    (case a9 => k_is)
    (case i9 => k_is)
    (case l9 => k_is)
    (case c9 => k_is)
    (case k9 => k_is)
    (case a10 => k_is)
    (case l10 => k_is)
    (case c10 => k_is)
    (case k10 => k_is)
    (case a11 => k_is)
    (case l11 => k_is)
    (case c11 => k_is)
    (case k11 => k_is)
    (case a12 => k_is)
    (case l12 => k_is)
    (case c12 => k_is)
    (case k12 => k_is)
    (case a13 => k_is)
    (case i13 => k_is)
    (case l13 => k_is)
    (case c13 => k_is)
    (case k13 => k_is)
    (case a14 => k_is)
    (case i14 => k_is)
    (case l14 => k_is)
    (case t14 => k_is)
    (case c14 => k_is)
    (case k14 => k_is)
    (case a15 => k_is)
    (case i15 => k_is)
    (case l15 => k_is)
    (case c15 => k_is)
    (case k15 => k_is)
    (case a16 => k_is)
    (case i16 => k_is)
    (case l16 => k_is)
    (case c16 => k_is)
    (case k16 => k_is)
    (case a17 => k_is)
    (case i17 => k_is)
    (case l17 => k_is)
    (case c17 => k_is)
    (case k17 => k_is)
    (case a18 => k_is)
    (case i18 => k_is)
    (case l18 => k_is)
    (case c18 => k_is)
    (case k18 => k_is)
    (case a19 => k_is)
    (case i19 => k_is)
    (case l19 => k_is)
    (case c19 => k_is)
    (case k19 => k_is)
    (case a20 => k_is)
    (case l20 => k_is)
    (case c20 => k_is)
    (case k20 => k_is)
    (case a21 => k_is)
    (case l21 => k_is)
    (case c21 => k_is)
    (case k21 => k_is)
    (case a22 => k_is)
    (case l22 => k_is)
    (case c22 => k_is)
    (case k22 => k_is)
    (case a23 => k_is)
    (case l23 => k_is)
    (case c23 => k_is)
    (case k23 => k_is)
    (case a24 => k_is)
    (case l24 => k_is)
    (case c24 => k_is)
    (case k24 => k_is)
    (case a25 => k_is)
    (case l25 => k_is)
    (case c25 => k_is)
    (case k25 => k_is)
    (case a26 => k_is)
    (case l26 => k_is)
    (case c26 => k_is)
    (case k26 => k_is)
    (case a27 => k_is)
    (case l27 => k_is)
    (case c27 => k_is)
    (case k27 => k_is)
    (case a28 => k_is)
    (case l28 => k_is)
    (case c28 => k_is)
    (case k28 => k_is)
    (case a29 => k_is)
    (case l29 => k_is)
    (case c29 => k_is)
    (case k29 => k_is)
    (case a30 => k_is)
    (case l30 => k_is)
    (case c30 => k_is)
    (case k30 => k_is)
    (case a31 => k_is)
    (case l31 => k_is)
    (case c31 => k_is)
    (case k31 => k_is)
    (case a32 => k_is)
    (case l32 => k_is)
    (case c32 => k_is)
    (case k32 => k_is)
    (case a33 => k_is)
    (case l33 => k_is)
    (case c33 => k_is)
    (case k33 => k_is)
    (case a34 => k_is)
    (case l34 => k_is)
    (case c34 => k_is)
    (case k34 => k_is)
    (case a35 => k_is)
    (case l35 => k_is)
    (case c35 => k_is)
    (case k35 => k_is)
    (case a36 => k_is)
    (case l36 => k_is)
    (case c36 => k_is)
    (case k36 => k_is)
    (case a37 => k_is)
    (case l37 => k_is)
    (case c37 => k_is)
    (case k37 => k_is)
    (case a38 => k_is)
    (case l38 => k_is)
    (case c38 => k_is)
    (case k38 => k_is)
    (case a39 => k_is)
    (case l39 => k_is)
    (case c39 => k_is)
    (case k39 => k_is)
    (case a40 => k_is)
    (case l40 => k_is)
    (case c40 => k_is)
    (case k40 => k_is)
    (case a41 => k_is)
    (case l41 => k_is)
    (case c41 => k_is)
    (case k41 => k_is)
    (case a42 => k_is)
    (case l42 => k_is)
    (case c42 => k_is)
    (case k42 => k_is)
    (case a43 => k_is)
    (case l43 => k_is)
    (case c43 => k_is)
    (case k43 => k_is)
    (case a44 => k_is)
    (case l44 => k_is)
    (case c44 => k_is)
    (case k44 => k_is)
    (case a45 => k_is)
    (case l45 => k_is)
    (case c45 => k_is)
    (case k45 => k_is)
    (case pg_Code => k_is)
    (case hd_Code => k_is)
    (case po_Code => k_is)
    (case sa_Code => k_is)
    (case mk_Code => k_is)
    (case kc_Code => k_is)
    (case n_Code_letters => k_is)
    (case n_Code_factors => k_is)
    (case n_Code_remainder => k_is)
    (case pg_Book => k_is)
    (case hd_Book => k_is)
    (case po_Book => k_is)
    (case sa_Book => k_is)
    (case mk_Book => k_is)
    (case kc_Book => k_is)
    (case n_Book_basis => k_is)
    (case n_Book_by_number => k_is)
    (case n_Book_by_entry => k_is)
    (case q_NoCode => kernel_rfl)
    (case q_NoNumber => kernel_rfl)
    (case q_NoWord => kernel_rfl)
    (case q_NoEntry => kernel_rfl)
    (case q_Twice => kernel_rfl)
    (case q_TooMany => kernel_rfl)
    (case q_NoBook => kernel_rfl)
    (case q_NoText => kernel_rfl)
    (case q_NoNet => kernel_rfl)
    (case q_NoOffice => kernel_rfl)
    (case q_NoDay => kernel_rfl)
    (case q_NoRow => kernel_rfl)
    (case bi_ga => kernel_rfl)
    (case bi_rd => kernel_rfl)
    (case bi_fc => kernel_rfl)
    (case oc_NoReading => k_is)
    (case on_NoReading => kernel_rfl)
    (case oi_NoReading => kernel_rfl)
    (case ot_NoReading => kernel_rfl)
    (case ok_NoReading => kernel_rfl)
    (case sa_NoReading => kernel_rfl)
    (case sm_NoReading => kernel_rfl)
    (case st_NoReading => kernel_rfl)
    (case sh_NoReading => kernel_rfl)
    (case sf_NoReading => kernel_rfl)
    (case oc_NoSetting => k_is)
    (case on_NoSetting => kernel_rfl)
    (case oi_NoSetting => kernel_rfl)
    (case ot_NoSetting => kernel_rfl)
    (case ok_NoSetting => kernel_rfl)
    (case sa_NoSetting => kernel_rfl)
    (case sm_NoSetting => kernel_rfl)
    (case st_NoSetting => kernel_rfl)
    (case sh_NoSetting => kernel_rfl)
    (case sf_NoSetting => kernel_rfl)
    (case x_NoSetting => kernel_rfl)
    (case x_NoText => kernel_rfl)
    (case y_NoText_NoSetting => kernel_rfl)
    (case tab => kernel_rfl)
    (case tab1 => kernel_rfl)
    (case tab2 => kernel_rfl)
    (case err => kernel_rfl)
    (case ndx => kernel_rfl)
    (case v_SMALL_LETTERS => k_is)
    (case r_SMALL_LETTERS => exact ⟨_, rfl⟩)
    (case v_LONGEST_WORD => k_is)
    (case r_LONGEST_WORD => exact ⟨_, rfl⟩)
    (case v_MOST_ENTRIES => k_is)
    (case r_MOST_ENTRIES => exact ⟨_, rfl⟩)
    (case v_MOST_PHRASE_WORDS => k_is)
    (case r_MOST_PHRASE_WORDS => exact ⟨_, rfl⟩)
    (case v_MOST_PART_LETTERS => k_is)
    (case r_MOST_PART_LETTERS => exact ⟨_, rfl⟩)
    (case v_MOST_WORDS => k_is)
    (case r_MOST_WORDS => exact ⟨_, rfl⟩)
    (case z_isinstance => k_is)
    (case z_bool => k_is)
    (case z_int => k_is)
    (case z_abs => k_is)
    (case z_all => k_is)
    (case z_zip => k_is)
    (case z_len => k_is)
    (case z_set => k_is)
    (case z_str => k_is)
    (case z_list => k_is)
    (case z_tuple => k_is)
    (case z_sorted => k_is)
    (case z_enumerate => k_is)
    (case z_range => k_is)
    (case z_max => k_is)
    (case z_ValueError => k_is)
theorem PySem.Challenge.cw_cablehouse_k19_whole_set_and_said_holds : PySem.Challenge.rw_cablehouse_k19_whole_set_and_said.Holds :=
  Hk.top.go Hk.Eh Hk.Ei Hk.Ej Hk.Ek Hk.El Hk.Em Hk.En Hk.Eo Hk.Er Hk.Ep
