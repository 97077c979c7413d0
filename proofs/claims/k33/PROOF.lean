import PyProof.Rows.All
import Wide.All
import OpenK.AllK
import Wide.FinOn
import Lean
import PyProof.EqAt
import PyProof.EqKinds
import PyProof.TupleCall
import PySem.Challenge.RW_cablehouse_k33_whole_prices_show
set_option Elab.async false
set_option linter.all false
set_option maxRecDepth 100000
namespace Hd
open PySem PySem.W PyProof.Rows
theorem keep3 {b1 b2 b3 a : Prop} (main : a) (hl : b1) (hw : b2) (hc : b3) : a := main
structure Top (r : Prop) where
  l1 : Prop
  l2 : Prop
  l3 : Prop
  h : Prop
  c : Prop
  go : l1 → l2 → l3 → h → c → r
/-- the same, what is seen in six parts -/
structure TopS (r : Prop) where
  l1 : Prop
  l2 : Prop
  l3 : Prop
  l4 : Prop
  l5 : Prop
  l6 : Prop
  l7 : Prop
  l8 : Prop
  h : Prop
  c : Prop
  go : l1 → l2 → l3 → l4 → l5 → l6 → l7 → l8 → h → c → r
/-- the same, what is left behind in two parts too -/
structure TopT (r : Prop) where
  l1 : Prop
  l2 : Prop
  l3 : Prop
  l4 : Prop
  l5 : Prop
  l6 : Prop
  l7 : Prop
  l8 : Prop
  l9 : Prop
  h : Prop
  c : Prop
  go : l1 → l2 → l3 → l4 → l5 → l6 → l7 → l8 → l9 → h → c → r
/-- a list that is seen, in two parts -/
theorem two {σ α β γ : Type} {x : World → OsState → Option σ} {as : List α} {f : σ → α → β} {h : σ → γ} {g : World → List β} {e : World → γ} (n : Nat)
    (h1 : ∀ w os, (x w os).map (fun s => (as.take n).map (f s)) = some ((g w).take n)) (h2 : ∀ w os, (x w os).map (fun s => ((as.drop n).map (f s), h s)) = some ((g w).drop n, e w)) : ∀ w os, (x w os).map (fun s => (as.map (f s), h s)) = some (g w, e w) := fun w os => by
  obtain ⟨s, e0, e1⟩ := Option.map_eq_some_iff.mp (h1 w os)
  have e2 := h2 w os
  rw [e0] at e2 ⊢
  have e2 := Option.some.inj e2
  simp only [Prod.mk.injEq] at e2
  refine congrArg some (Prod.ext ?_ e2.2)
  show as.map (f s) = g w
  rw [← List.take_append_drop n as, List.map_append, e1, e2.1, List.take_append_drop]
def tree : List Obj → Nat → BT → BT
  | [], _, t => t
  | o :: l, n, t => tree l (n + 1) (t.ins n o)
def goT (st : SharedT → Thread → Option (SharedT × Thread)) (ok : Thread → Bool) : Nat → SharedT → Thread → Option SharedT
  | 0, _, _ => none
  | n + 1, s, t => match through t with
    | true => some s
    | false => match ok t with
      | false => none
      | true => match st s t with
        | some (s', t') => goT st ok n s' t'
        | none => none
theorem goT_of {tb : String → Option Builtin} {p : Program} {w : World} {n₀ : Nat} {ann : Option Value} : ∀ {n : Nat} {s s' : SharedT} {t : Thread}, goT (stepT (denote tb) p w) (stepOk n₀ ann) n s t = some s' → topRun tb p w n₀ ann n s.abs t = some s'.abs
  | 0, _, _, _, h => nomatch h
  | n + 1, s, s', t, h => by
    unfold goT at h
    unfold topRun
    cases ht : through t with
    | true => rw [ht] at h; cases h; rfl
    | false =>
      rw [ht] at h
      cases hk : stepOk n₀ ann t with
      | false => rw [hk] at h; cases h
      | true =>
        rw [hk] at h
        cases hs : stepT (denote tb) p w s t with
        | none => rw [hs] at h; cases h
        | some r => obtain ⟨s₂, t₂⟩ := r; rw [hs] at h; rw [stepT_spec hs]; exact goT_of h
/-- the state behind the boot, its heap as a tree -/
noncomputable def boot (w : World) (os : OsState) : SharedT := ⟨tree (boot_heap w.params).objs.toList 0 .nil, (boot_heap w.params).objs.size, (boot_heap w.params).life, #[], boot_drawn, boot_toks, os⟩
/-- the run of the top behind the boot -/
noncomputable def ran (p : Program) (N : Nat) (w : World) (os : OsState) : Option SharedT := goT (stepT (denote treeTable) p w) (stepOk 11 (some (.ref 6))) N (boot w os) (topStub p)
theorem boot_tree (P : Params) : absHeap (tree (boot_heap P).objs.toList 0 .nil) (boot_heap P).objs.size (boot_heap P).life = boot_heap P := by kernel_rfl
theorem boot_size (P : Params) : ((boot_heap P).isNs mainGlobals, (boot_heap P).objs.size, (boot_heap P).nsMap mainGlobals "__annotations__") = (true, 11, some (.ref 6)) := by kernel_rfl
/-- what is seen behind the run, in six parts, each by itself -/
theorem six {σ α β γ δ ε ζ η θ ι : Type} {x : World → OsState → Option σ} {f1 : σ → α} {f2 : σ → β} {f3 : σ → γ} {f4 : σ → δ} {f5 : σ → ε} {f6 : σ → ζ} {f7 : σ → η} {f8 : σ → θ} {f9 : σ → ι} {g1 : α} {g2 : β} {g3 : γ} {g4 : δ} {g5 : ε} {g6 : ζ} {g7 : η} {g8 : θ} {g9 : ι}
    (h1 : ∀ w os, (x w os).map (fun s => f1 s) = some g1) (h2 : ∀ w os, (x w os).map (fun s => (f2 s, f3 s)) = some (g2, g3)) (h3 : ∀ w os, (x w os).map (fun s => (f4 s, f5 s)) = some (g4, g5)) (h4 : ∀ w os, (x w os).map (fun s => f6 s) = some g6)
    (h5 : ∀ w os, (x w os).map (fun s => (f7 s, f8 s)) = some (g7, g8)) (h6 : ∀ w os, (x w os).map (fun s => f9 s) = some g9) : ∀ w os, (x w os).map (fun s => (f1 s, f2 s, f3 s, f4 s, f5 s, f6 s, f7 s, f8 s, f9 s)) = some (g1, g2, g3, g4, g5, g6, g7, g8, g9) := fun w os => by
  obtain ⟨s, e, e1⟩ := Option.map_eq_some_iff.mp (h1 w os)
  have e2 := h2 w os
  have e3 := h3 w os
  have e4 := h4 w os
  have e5 := h5 w os
  have e6 := h6 w os
  rw [e] at e2 e3 e4 e5 e6 ⊢
  have e2 := Option.some.inj e2
  have e3 := Option.some.inj e3
  have e4 := Option.some.inj e4
  have e5 := Option.some.inj e5
  have e6 := Option.some.inj e6
  simp only [Prod.mk.injEq] at e2 e3 e5
  exact congrArg some (Prod.ext e1 (Prod.ext e2.1 (Prod.ext e2.2 (Prod.ext e3.1 (Prod.ext e3.2 (Prod.ext e4 (Prod.ext e5.1 (Prod.ext e5.2 e6))))))))
theorem left {p q : Program} {loose : List Str} {Xt : Shared → Bool} {α : Type} {Yf : Shared → α} {Ya : World → α} {N : Nat} {g0 : Bool}
    (e : opening p = plainProg p.main.scope.names) (hN : Nat.ble 600 N = true) (f : ∀ s, fenceModules? p s = some s)
    (r1 : ∀ w os, (ran p N w os).map (fun s => staticsOk (importedModules p.main.body) (boot_heap w.params) s.abs.heap && namesBound p s.abs.heap && gensDone s.abs && laidKept (boot_heap w.params) s.abs.heap) = some true)
    (r2 : ∀ w os, (ran p N w os).map (fun s => openSeen q loose (importedModules p.main.body) Xt g0 s.abs) = some (openGood q loose))
    (r3 : ∀ w os, (ran p N w os).map (fun s => Yf s.abs) = some (Ya w)) : LeftO p q loose Xt Yf Ya N g0 := fun w => by
  obtain ⟨⟨h, gs, d, k, os⟩, e, e'⟩ := Option.map_eq_some_iff.mp (boot_open e hN f w)
  obtain ⟨rfl, rfl, rfl, rfl⟩ : h = boot_heap w.params ∧ gs = #[] ∧ d = boot_drawn ∧ k = boot_toks := by simpa using e'
  obtain ⟨z1, z2, z3⟩ : _ ∧ _ ∧ _ := by simpa only [Prod.mk.injEq] using boot_size w.params
  obtain ⟨s', r, l1⟩ := Option.map_eq_some_iff.mp (r1 w os)
  have l2 := r2 w os
  have l3 := r3 w os
  rw [r] at l2 l3
  have l2 := Option.some.inj l2
  have l3 := Option.some.inj l3
  unfold ran at r
  have r := goT_of r
  have hB : (boot w os).abs = ⟨boot_heap w.params, #[], boot_drawn, boot_toks, os⟩ := by
    unfold boot SharedT.abs
    rw [boot_tree]
  rw [hB] at r
  have t : topFrom treeTable p w N ⟨boot_heap w.params, #[], boot_drawn, boot_toks, os⟩ = some s'.abs := by
    unfold topFrom
    dsimp only
    rw [z1, z2, z3, r]
    show (match staticsOk (importedModules p.main.body) (boot_heap w.params) s'.abs.heap && namesBound p s'.abs.heap && gensDone s'.abs && laidKept (boot_heap w.params) s'.abs.heap with | true => _ | false => _) = _
    rw [l1]
  unfold openEnds
  rw [e]
  show (topFrom treeTable p w N _).map _ = _
  rw [t]
  exact congrArg some (Prod.ext l2 l3)
/-- the same run by the library's quick twins -/
theorem ran_eq : @ran = fun p N w os => goT (PySem.W.Fast.tw10156331382660048174 (denote PySem.W.Fast.tw14364793385576792824) p w) (PySem.W.Fast.tw6613529449190102663 11 (some (.ref 6))) N (boot w os) (topStub p) := by
  unfold ran
  rw [PySem.W.Fast.te10156331382660048174, PySem.W.Fast.te6613529449190102663, PySem.W.Fast.te14364793385576792824]
end Hd

section
open PySem PySem.W PyProof.Rows
set_option maxHeartbeats 0
noncomputable def Hk.top : Hd.TopS PySem.Challenge.rw_cablehouse_k33_whole_prices_show.Holds := by
  apply Hd.TopS.mk
  case go =>
    intro x1 x2 x3 x4 x5 x6 x7 x8 y z
    w_on; o_law
    apply Hd.keep3
    case main => k_head
    case hl => exact Hd.left (by kernel_rfl) (by decide) (fun _ => by kernel_rfl) x1 (Hd.six x2 x4 x5 x6 x7 x8) x3
    case hw => exact y
    case hc => exact z
theorem Hk.top_1 : Hk.top.l1 := by
  delta Hk.top
  dsimp only
  intro w os
  rw [Hd.ran_eq]
  kernel_rfl
theorem Hk.top_2 : Hk.top.l2 := by
  delta Hk.top
  dsimp only
  intro w os
  rw [Hd.ran_eq]
  kernel_rfl
theorem Hk.top_3 : Hk.top.l3 := by
  delta Hk.top
  dsimp only
  intro w os
  rw [Hd.ran_eq]
  kernel_rfl
theorem Hk.top_4 : Hk.top.l4 := by
  delta Hk.top
  dsimp only
  intro w os
  rw [Hd.ran_eq]
  kernel_rfl
theorem Hk.top_5 : Hk.top.l5 := by
  delta Hk.top
  dsimp only
  intro w os
  rw [Hd.ran_eq]
  kernel_rfl
theorem Hk.top_6 : Hk.top.l6 := by
  delta Hk.top
  dsimp only
  intro w os
  rw [Hd.ran_eq]
  kernel_rfl
theorem Hk.top_7 : Hk.top.l7 := by
  delta Hk.top
  dsimp only
  intro w os
  rw [Hd.ran_eq]
  kernel_rfl
theorem Hk.top_8 : Hk.top.l8 := by
  delta Hk.top
  dsimp only
  intro w os
  rw [Hd.ran_eq]
  kernel_rfl
theorem Hk.top_h : Hk.top.h := by
  delta Hk.top
  dsimp only
  w_witness2
end
-- CHANGE: your row's module here,as the last of these rows
set_option Elab.async false
set_option linter.all false
set_option maxRecDepth 100000
namespace L2
open PySem PySem.Spec PyProof.Rows

abbrev Key:=Sum Int Str
def keyIs:Key->Value->Bool
  | .inl k,v=>Value.isInt k v
  | .inr x,v=>Value.isStrOf x v
def keyH (w:World):Key->Int
  | .inl k=>hashInt k
  | .inr x=>hashStr w x
theorem keyIs_shape:∀ {k:Key}{v:Value},keyIs k v=true->(∃ i t,k=Sum.inl i/\v=Value.int i t) ∨ (∃ x t,k=Sum.inr x/\v=Value.str x t)
  | .inl i,v,h=>by
    obtain ⟨t,e⟩:=Value.isInt_shape (k:=i) (v:=v) h
    exact .inl ⟨i,t,rfl,e⟩
  | .inr x,v,h=>by
    obtain ⟨t,e⟩:=Value.isStrOf_shape (x:=x) (v:=v) h
    exact .inr ⟨x,t,rfl,e⟩
theorem keyIs_int (i:Int) (t:Tok):keyIs (.inl i) (.int i t)=true:=by simp [keyIs,Value.isInt]
theorem keyIs_str (x:Str) (t:Tok):keyIs (.inr x) (.str x t)=true:=by simp [keyIs,Value.isStrOf]
theorem key_ll (a b:Int):decide ((Sum.inl a:Key)=Sum.inl b)=(a == b):=by
  by_cases e:a=b
  · subst e;simp
  · have h:¬ (Sum.inl a:Key)=Sum.inl b:=fun q=>e (Sum.inl.inj q)
    rw [decide_eq_false h]
    exact (beq_eq_false_iff_ne.mpr e).symm
theorem key_rr (a b:Str):decide ((Sum.inr a:Key)=Sum.inr b)=decide (a=b):=by
  by_cases e:a=b
  · subst e;simp
  · have h:¬ (Sum.inr a:Key)=Sum.inr b:=fun q=>e (Sum.inr.inj q)
    rw [decide_eq_false h,decide_eq_false e]
theorem key_lr (a:Int) (b:Str):decide ((Sum.inl a:Key)=Sum.inr b)=false:=decide_eq_false (fun q=>nomatch q)
theorem key_rl (a:Str) (b:Int):decide ((Sum.inr a:Key)=Sum.inl b)=false:=decide_eq_false (fun q=>nomatch q)

def mixKind (prog:Program) (w:World):PySem.KeyKind prog w Key where
  is:=keyIs
  hash:=keyH w
  inj:=fun v a b ha hb=>by
    rcases keyIs_shape ha with ⟨i,t,rfl,rfl⟩ | ⟨x,t,rfl,rfl⟩
    · rcases keyIs_shape hb with ⟨j,u,rfl,e⟩ | ⟨y,u,rfl,e⟩
      · injection e with e1 _;rw [e1]
      · exact nomatch e
    · rcases keyIs_shape hb with ⟨j,u,rfl,e⟩ | ⟨y,u,rfl,e⟩
      · exact nomatch e
      · injection e with e1 _;rw [e1]
  byValue:=fun k v h=>by
    rcases keyIs_shape h with ⟨i,t,rfl,rfl⟩ | ⟨x,t,rfl,rfl⟩ <;> rfl
  pyHash:=fun hv h=>by
    rcases keyIs_shape hv with ⟨i,t,rfl,rfl⟩ | ⟨x,t,rfl,rfl⟩
    · exact wpAny_pyHash_int h
    · exact wpAny_pyHash_str h
  eqBool:=fun hu hv h=>by
    rcases keyIs_shape hu with ⟨i,t,rfl,rfl⟩ | ⟨x,t,rfl,rfl⟩
    · rcases keyIs_shape hv with ⟨j,u,rfl,rfl⟩ | ⟨y,u,rfl,rfl⟩
      · rw [key_ll] at h;exact wpAny_eqBool_int h
      · rw [key_lr] at h;exact SeqAt.EqAt.int_str i t y u _ _ _ _ h
    · rcases keyIs_shape hv with ⟨j,u,rfl,rfl⟩ | ⟨y,u,rfl,rfl⟩
      · rw [key_rl] at h;exact SeqAt.EqAt.str_int x t j u _ _ _ _ h
      · rw [key_rr] at h;exact wpAny_eqBool_str h
  «strs»:=fun k x t v h=>by
    rcases keyIs_shape h with ⟨i,u,rfl,e⟩ | ⟨y,u,rfl,e⟩
    · exact nomatch e
    · injection e with e1 _
      subst e1
      cases v <;> rfl

theorem mixKind_int (prog:Program) (w:World) (i:Int) (t:Tok):(mixKind prog w).is (.inl i) (.int i t)=true:=keyIs_int i t
theorem mixKind_str (prog:Program) (w:World) (x:Str) (t:Tok):(mixKind prog w).is (.inr x) (.str x t)=true:=keyIs_str x t
end L2

namespace L2
open PySem PySem.Spec PyProof.Rows

inductive V where
  | non | bl (b:Bool) | int (i:Int) | str (x:Str) | byt (b:Array UInt8) | flt (b:UInt64) | ref (a:Addr) | ty (n:String)
  deriving DecidableEq

def RelV:V->Value->Prop
  | .non,u=>u=Value.none
  | .bl b,u=>u=Value.bool b
  | .int i,u=>∃ t,u=Value.int i t
  | .str x,u=>∃ t,u=Value.str x t
  | .byt b,u=>∃ t,u=Value.bytes b t
  | .flt b,u=>∃ t,u=Value.float b t
  | .ref a,u=>u=Value.ref a
  | .ty n,u=>u=Value.type n

abbrev Vals:List V->List Value->Prop:=Paired RelV
theorem Vals.length {xs:List V}{us:List Value} (r:Vals xs us):xs.length=us.length:=Paired.length r
theorem Vals.get:∀ {xs:List V}{us:List Value}{i:Nat}{x:V},Vals xs us->xs[i]?=some x->∃ u,us[i]?=some u/\RelV x u
  | _,_,_,_,.nil,e=>by simp at e
  | _,_,0,_,.cons r _,e=>by simp at e;subst e;exact ⟨_,rfl,r⟩
  | _,_,i + 1,x,.cons _ t,e=>by
    obtain ⟨u,h1,h2⟩:=Vals.get (i:=i) (x:=x) t (by simpa using e)
    exact ⟨u,by simpa using h1,h2⟩
theorem Vals.set {x:V}{u:Value} (r:RelV x u):∀ {xs:List V}{us:List Value} (i:Nat),Vals xs us->Vals (xs.set i x) (us.set i u)
  | _,_,_,.nil=>.nil
  | _,_,0,.cons _ t=>.cons r t
  | _,_,i + 1,.cons q t=>.cons q (Vals.set r i t)
theorem Vals.append:∀ {xs ys:List V}{us ws:List Value},Vals xs us->Vals ys ws->Vals (xs++ys) (us++ws)
  | _,_,_,_,.nil,s=>s
  | _,_,_,_,.cons r t,s=>.cons r (Vals.append t s)
theorem Vals.take:∀ {xs:List V}{us:List Value} (n:Nat),Vals xs us->Vals (xs.take n) (us.take n)
  | _,_,0,_=>.nil
  | _,_,_ + 1,.nil=>.nil
  | _,_,n + 1,.cons r t=>.cons r (Vals.take n t)
theorem Vals.drop:∀ {xs:List V}{us:List Value} (n:Nat),Vals xs us->Vals (xs.drop n) (us.drop n)
  | _,_,0,r=>r
  | _,_,_ + 1,.nil=>.nil
  | _,_,n + 1,.cons _ t=>Vals.drop n t
theorem Vals.none_of:∀ {xs:List V}{us:List Value}{i:Nat},Vals xs us->xs[i]?=none->us[i]?=none:=fun {xs us i} r e=>by
  have h1:=r.length
  have h2:xs.length<=i:=List.getElem?_eq_none_iff.mp e
  exact List.getElem?_eq_none_iff.mpr (by omega)

def RelO:Option V->Option Value->Prop
  | some v,some u=>RelV v u
  | none,none=>True
  | _,_=>False
def KV {κ:Type}:List (κ × V)->List (κ × Value)->Prop:=Paired fun (p:κ × V) (q:κ × Value)=>p.1=q.1/\RelV p.2 q.2

def kV:Key->V
  | .inl i=>.int i
  | .inr x=>.str x

inductive HO where
  /-- a list -/
  | lst (xs:List V)
  /-- a tuple (never changes) -/
  | tup (xs:List V)
  /-- a dict whose keys are ints and texts;one whose keys are tuples of ints and texts (the empty one is both) -/
  | dK (kvs:List (Key × V)) | dT (kvs:List (List Key × V))
  /-- a set of ints: its members,its size -/
  | set (S:Int->Bool) (n:Nat)
  /-- an instance of the class at C,its dict at dx,its attributes -/
  | ins (C dx:Addr) (fs:List (Str × V))
  /-- the dict of the instance at x -/
  | own (x:Addr)
  /-- the dict of an exception -/
  | xd (fs:List (Str × V))
  /-- a bound method,f of x -/
  | met (f x:Addr)
  /-- a range object lo,lo + 1,.. below hi -/
  | rng (lo hi:Int)
  /-- a thing that is known to the object (the script;a dict while a loop walks it): read,never written while it is so -/
  | frz (o:Obj) (u:HO)
  /-- a code object's table -/
  | tbl (ps:Array Value)
  /-- any other thing,by what is true of its one object (a def of one's own: SetO a S n:=HO.ext fun h=>..) -/
  | ext (φ:Heap->Prop)

abbrev Hp:=Addr->Option HO
def upd (H:Hp) (a:Addr) (o:HO):Hp:=fun b=>if b=a then some o else H b
theorem upd_same {H:Hp}{a:Addr}{o:HO}:upd H a o a=some o:=by unfold upd;rw [if_pos rfl]
theorem upd_ne {H:Hp}{a b:Addr}{o:HO} (h:b≠a):upd H a o b=H b:=by unfold upd;rw [if_neg h]
theorem ne_of {H:Hp}{a b:Addr}{o u:HO} (h:H a=some o) (h':H b=some u) (d:o≠u):a≠b:=by
  intro e;subst e;rw [h] at h';exact d (Option.some.inj h')
theorem ne_of_none {H:Hp}{a b:Addr}{o:HO} (h:H a=some o) (h':H b=none):a≠b:=by
  intro e;subst e;rw [h] at h';cases h'

section
variable (P:Program) (w:World)
def ObjOk (H:Hp) (h:Heap) (a:Addr):HO->Prop
  | .lst xs=>xs.length<=sizeLine/\∃ (its:List Value) (n:Nat),Vals xs its/\h.get? a=some { cls:=.type "list",data:=.seq its.toArray n }
  | .tup xs=>xs.length<=sizeLine/\∃ its:List Value,Vals xs its/\IsTup h a its.toArray
  | .dK kvs=>kvs.length<=sizeLine/\(a == sysModules)=false/\∃ vs,KV kvs vs/\h.DictOf (mixKind P w) a vs
  | .dT kvs=>kvs.length<=sizeLine/\(a == sysModules)=false/\∃ xs:List (List Key × Addr × Value),
      Paired (fun (p:List Key × V) (q:List Key × Addr × Value)=>p.1=q.1/\H q.2.1=some (.tup (p.1.map kV))/\RelV p.2 q.2.2) kvs xs ∧
      ∃ o es ep,h.get? a=some o/\o.ExactDict/\o.data=.dict es ep/\es.toList=xs.map (entryOfKey (tupleKind (mixKind P w)))/\(xs.map (·.1)).Nodup
  | .set S n=>h.SetOf (intKind P w) a S n
  | .ins C dx fs=>H dx=some (.own a)/\fs.length<=1000/\dx≠a/\h.get? a=some (PySem.W.instObj C dx) ∧
      ∃ mA,h.Ns1 dx mA/\(∀ f,RelO (fs.lookup f) (mA f))/\PySem.Within mA (fs.map (·.1))
  | .own _=>∃ o,h.get? a=some o
  | .xd fs=>∃ mA,h.Ns1 a mA/\∀ f,RelO (fs.lookup f) (mA f)
  | .rng lo hi=>∃ t u v,h.get? a=some { cls:=.type "range",data:=.fields #[.int lo t,.int hi u,.int 1 v] }
  | .frz o u=>h.get? a=some o/\ObjOk H h a u
  | .tbl ps=>∃ qs:Array Value,h.get? a=some { cls:=.none,data:=.fields qs }/\TriplesOk qs.toList/\∀ pos c,codeAmong pos qs.toList=some c->∃ c' oc vs t q,c=.ref c'/\H c'=some (.frz oc (.own a))/\oc.data=.fields vs/\vs[1]?=some (.str q t)/\ps=#[.str q 0]
  | .met f x=>h.get? a=some (PySem.W.methodObj (.ref f) (.ref x))
  | .ext φ=>φ h/\(∃ o,h.get? a=some o)/\∀ h1 h2:Heap,φ h1->(∀ o,h1.get? a=some o->h2.get? a=some o)->φ h2
def HOk (H:Hp) (h:Heap):Prop:=∀ a o,H a=some o->ObjOk P w H h a o
end

section
variable {P:Program}{w:World}{H H':Hp}{h h':Heap}{a:Addr}{o:HO}
theorem ObjOk.lt (x:ObjOk P w H h a o):a < h.objs.size:=by
  cases o with
  | lst xs=>obtain ⟨_,_,_,_,e⟩:=x;exact Heap.lt_size e
  | tup xs=>obtain ⟨_,_,_,p⟩:=x;exact p.lt
  | dK kvs=>obtain ⟨_,_,_,_,o,_,_,e,_⟩:=x;exact Heap.lt_size e
  | dT kvs=>obtain ⟨_,_,_,_,o,_,_,e,_⟩:=x;exact Heap.lt_size e
  | set S n=>obtain ⟨o,_,_,_,e,_⟩:=x;exact Heap.lt_size e
  | ins C dx fs=>obtain ⟨_,_,_,e,_⟩:=x;exact Heap.lt_size e
  | own y=>obtain ⟨_,e⟩:=x;exact Heap.lt_size e
  | xd fs=>obtain ⟨_,⟨_,_,_,e,_⟩,_⟩:=x;exact Heap.lt_size e
  | rng lo hi=>obtain ⟨_,_,_,e⟩:=x;exact Heap.lt_size e
  | frz ob u=>obtain ⟨e,_⟩:=x;exact Heap.lt_size e
  | tbl ps=>obtain ⟨_,e,_⟩:=x;exact Heap.lt_size e
  | met f y=>exact Heap.lt_size (show h.get? a=some _ from x)
  | ext φ=>obtain ⟨_,⟨_,e⟩,_⟩:=x;exact Heap.lt_size e
theorem Paired.mapP {α β:Type}{F G:α->β->Prop}:∀ {l₁:List α}{l₂:List β},Paired F l₁ l₂->(∀ a b,F a b->G a b)->Paired G l₁ l₂
  | _,_,.nil,_=>.nil
  | _,_,.cons r t,f=>.cons (f _ _ r) (Paired.mapP t f)
theorem ObjOk.stay (x:ObjOk P w H h a o) (k:∀ b u,(b=a ∨ H b=some (.own a))->h.get? b=some u->h'.get? b=some u)
    (ho:∀ b,H b=some (.own a)->H' b=some (.own a)) (ht:∀ b xs,H b=some (.tup xs)->H' b=some (.tup xs))
    (hf:∀ b ob u,H b=some (.frz ob u)->H' b=some (.frz ob u):=by first | exact fun _ _ _ q=>q | exact fun c ob u q=>(upd_ne (ne_of_none q (by assumption))).trans q):ObjOk P w H' h' a o:=by
  induction o with
  | lst xs=>obtain ⟨z,its,n,r,e⟩:=x;exact ⟨z,its,n,r,k _ _ (.inl rfl) e⟩
  | tup xs=>obtain ⟨z,its,r,ob,e,c⟩:=x;exact ⟨z,its,r,ob,k _ _ (.inl rfl) e,c⟩
  | dK kvs=>obtain ⟨z,y,vs,r,ob,es,ep,e,c⟩:=x;exact ⟨z,y,vs,r,ob,es,ep,k _ _ (.inl rfl) e,c⟩
  | dT kvs =>
    obtain ⟨z,y,xs,r,ob,es,ep,e,c⟩:=x
    exact ⟨z,y,xs,Paired.mapP r fun p q z=>⟨z.1,ht _ _ z.2.1,z.2.2⟩,ob,es,ep,k _ _ (.inl rfl) e,c⟩
  | set S n=>obtain ⟨ob,es,ep,t,e,c⟩:=x;exact ⟨ob,es,ep,t,k _ _ (.inl rfl) e,c⟩
  | ins C dx fs =>
    obtain ⟨d,z,ne,e,mA,⟨od,es,ep,e2,c⟩,r⟩:=x
    exact ⟨ho _ d,z,ne,k _ _ (.inl rfl) e,mA,⟨od,es,ep,k _ _ (.inr d) e2,c⟩,r⟩
  | own y=>obtain ⟨ob,e⟩:=x;exact ⟨ob,k _ _ (.inl rfl) e⟩
  | xd fs=>obtain ⟨mA,⟨od,es,ep,e,c⟩,r⟩:=x;exact ⟨mA,⟨od,es,ep,k _ _ (.inl rfl) e,c⟩,r⟩
  | rng lo hi=>obtain ⟨t,u,v,e⟩:=x;exact ⟨t,u,v,k _ _ (.inl rfl) e⟩
  | frz ob u ih=>obtain ⟨e,q⟩:=x;exact ⟨k _ _ (.inl rfl) e,ih q⟩
  | tbl ps =>
    obtain ⟨qs,e,t,z⟩:=x
    refine ⟨qs,k a _ (.inl rfl) e,t,fun pos c q=>?_⟩
    obtain ⟨c',oc,vs,tk,qq,h1,h2,h3⟩:=z pos c q
    exact ⟨c',oc,vs,tk,qq,h1,hf _ _ _ h2,h3⟩
  | met f y =>
    have e:h.get? a=some (PySem.W.methodObj (.ref f) (.ref y)):=x
    show h'.get? a=some (PySem.W.methodObj (.ref f) (.ref y))
    exact k a _ (.inl rfl) e
  | ext φ=>obtain ⟨p,⟨o,e⟩,st⟩:=x;exact ⟨st _ _ p fun o q=>k _ _ (.inl rfl) q,⟨o,k _ _ (.inl rfl) e⟩,st⟩
theorem HOk.lt (x:HOk P w H h) (e:H a=some o):a < h.objs.size:=(x a o e).lt
theorem HOk.fresh (x:HOk P w H h) (e:h.objs.size<=a):H a=none:=by
  cases q:H a with
  | none=>rfl
  | some u=>exact absurd (Nat.lt_of_lt_of_le (x.lt q) e) (Nat.lt_irrefl _)
theorem HOk.kept (x:HOk P w H h) (k:∀ b u,h.get? b=some u->h'.get? b=some u):HOk P w H h':=fun a o e =>
  (x a o e).stay (fun b u _ q=>k b u q) (fun _ q=>q) fun _ _ q=>q
theorem HOk.laid (x:HOk P w H h) (k:∀ b u,h.get? b=some u->h'.get? b=some u) (hp:h.objs.size<=a) (new:ObjOk P w (upd H a o) h' a o):HOk P w (upd H a o) h':=fun b u e=>by
  have hn:=x.fresh hp
  by_cases hb:b=a
  · subst hb;rw [upd_same] at e;cases e;exact new
  · rw [upd_ne hb] at e
    exact (x b u e).stay (fun c v _ q=>k c v q) (fun c q=>by rw [upd_ne (ne_of_none q hn)];exact q) fun c xs q=>by rw [upd_ne (ne_of_none q hn)];exact q
end

def Rd (H:Hp) (a:Addr) (u:HO):Prop:=H a=some u ∨ ∃ o,H a=some (.frz o u)
theorem Rd.of {H:Hp}{a:Addr}{u:HO} (h:H a=some u):Rd H a u:=.inl h
theorem Rd.ok {P:Program}{w:World}{H:Hp}{h:Heap}{a:Addr}{u:HO} (r:Rd H a u) (x:HOk P w H h):ObjOk P w H h a u:=by
  rcases r with r | ⟨o,r⟩
  · exact x a u r
  · obtain ⟨_,q⟩:=x a _ r
    exact q
def Mut:Option HO->Prop
  | some (.lst _)=>True
  | some (.dK _)=>True
  | some (.dT _)=>True
  | some (.set _ _)=>True
  | some (.ins _ _ _)=>True
  | some (.ext _)=>True
  | _=>False
section
variable {P:Program}{w:World}{H:Hp}{h h':Heap}{x e:Addr}{o':HO}
theorem HOk.write (ok:HOk P w H h) (mu:Mut (H x)) (he:e=x ∨ H e=some (.own x)) (k:∀ b u,b≠e->h.get? b=some u->h'.get? b=some u) (heo:∃ u,h'.get? e=some u)
    (new:ObjOk P w (upd H x o') h' x o'):HOk P w (upd H x o') h':=fun b u q=>by
  have nown:∀ c y,H c=some (.own y)->c≠x:=fun c y r z=>by subst z;rw [r] at mu;exact mu
  have ntup:∀ c xs,H c=some (.tup xs)->c≠x:=fun c xs r z=>by subst z;rw [r] at mu;exact mu
  by_cases hb:b=x
  · subst hb;rw [upd_same] at q;cases q;exact new
  · rw [upd_ne hb] at q
    by_cases hbe:b=e
    · have q':H b=some (.own x):=by
        rcases he with z | z
        · exact absurd (hbe.trans z) hb
        · rw [hbe];exact z
      rw [q] at q';cases q'
      obtain ⟨v,hv⟩:=heo
      exact ⟨v,by rw [hbe];exact hv⟩
    · refine (ok b u q).stay (fun c v hc r=>k c v ?_ r) (fun c r=>by rw [upd_ne (nown c b r)];exact r) (fun c xs r=>by rw [upd_ne (ntup c xs r)];exact r) fun c ob u r=>(upd_ne (fun z=>by subst z;rw [r] at mu;exact mu)).trans r
      rcases hc with rfl | hc
      · exact hbe
      · rintro rfl
        rcases he with z | z
        · exact nown c b hc z
        · rw [hc] at z;cases z;exact hb rfl
end

structure Un (fs ex:List Addr) (H H':Hp) (h h':Heap):Prop where
  keep:∀ b o,h.get? b=some o->H b=none->b ∉ fs->b ∉ ex->h'.get? b=some o
  slot:∀ b o,h.get? b=some o->H b=none->b∈fs->b ∉ ex->∃ sl,h'.get? b=some { o with slots:=sl }
  free:∀ b o,h.get? b=some o->H b=none->b ∉ ex->H' b=none
  there:∀ b o,h.get? b=some o->b ∉ ex->∃ o',h'.get? b=some o'
  tups:∀ b xs,H b=some (.tup xs)->H' b=some (.tup xs)
  frzs:∀ b o u,H b=some (.frz o u)->H' b=some (.frz o u)
  tbls:∀ b ps,H b=some (.tbl ps)->∃ more,H' b=some (.tbl (ps++more))
section
variable {fs fs' ex ex':List Addr}{H H1 H2:Hp}{h h1 h2 h':Heap}{a x e:Addr}{o:HO}
theorem Un.any (u:Un fs ex H H1 h h1) {b:Addr}{ob:Obj} (q:h.get? b=some ob) (n:H b=none) (hx:b ∉ ex):∃ sl,h1.get? b=some { ob with slots:=sl }:=by
  by_cases hb:b∈fs
  · exact u.slot b ob q n hb hx
  · exact ⟨ob.slots,u.keep b ob q n hb hx⟩
theorem Un.trans (a:Un fs ex H H1 h h1) (b:Un fs ex H1 H2 h1 h2):Un fs ex H H2 h h2 where
  keep:=fun c ob q n hc hx=>b.keep c ob (a.keep c ob q n hc hx) (a.free c ob q n hx) hc hx
  slot:=fun c ob q n hc hx=>by
    obtain ⟨sl,e1⟩:=a.slot c ob q n hc hx
    obtain ⟨sl',e2⟩:=b.slot c _ e1 (a.free c ob q n hx) hc hx
    exact ⟨sl',e2⟩
  free:=fun c ob q n hx=>by
    obtain ⟨o',e1⟩:=a.there c ob q hx
    exact b.free c o' e1 (a.free c ob q n hx) hx
  there:=fun c ob q hx=>by
    obtain ⟨o',e1⟩:=a.there c ob q hx
    exact b.there c o' e1 hx
  tups:=fun c xs q=>b.tups c xs (a.tups c xs q)
  frzs:=fun c ob xs q=>b.frzs c ob xs (a.frzs c ob xs q)
  tbls:=fun c ps q=>by
    obtain ⟨m1,e1⟩:=a.tbls c ps q
    obtain ⟨m2,e2⟩:=b.tbls c _ e1
    exact ⟨m1++m2,by rw [e2,Array.append_assoc]⟩
theorem Un.kept (k:∀ b u,h.get? b=some u->h'.get? b=some u):Un fs ex H H h h' :=
  ⟨fun b ob q _ _ _=>k b ob q,fun b ob q _ _ _=>⟨ob.slots,k b ob q⟩,fun _ _ _ n _=>n,fun b ob q _=>⟨ob,k b ob q⟩,fun _ _ q=>q,fun _ _ _ q=>q,fun _ ps q=>⟨#[],by rw [q];simp⟩⟩
theorem Un.refl:Un fs ex H H h h:=Un.kept fun _ _ q=>q
theorem Un.laid (k:∀ b u,h.get? b=some u->h'.get? b=some u) (hp:h.objs.size<=a) (hn:H a=none):Un fs ex H (upd H a o) h h' where
  keep:=fun b u q _ _ _=>k b u q
  slot:=fun b u q _ _ _=>⟨u.slots,k b u q⟩
  free:=fun b u q n _=>by rw [upd_ne (Nat.ne_of_lt (Nat.lt_of_lt_of_le (Heap.lt_size q) hp))];exact n
  there:=fun b u q _=>⟨u,k b u q⟩
  tups:=fun b xs q=>by rw [upd_ne (ne_of_none q hn)];exact q
  frzs:=fun b u xs q=>by rw [upd_ne (ne_of_none q hn)];exact q
  tbls:=fun b ps q=>⟨#[],by rw [upd_ne (ne_of_none q hn),q];simp⟩
theorem Un.write (mu:Mut (H x)) (he:e=x ∨ H e=some (.own x)) (k:∀ b u,b≠e->h.get? b=some u->h'.get? b=some u) (heo:∃ u,h'.get? e=some u):Un fs ex H (upd H x o) h h':=by
  have hx:∀ b,H b=none->b≠x:=fun b n z=>by subst z;rw [n] at mu;exact mu
  have hb:∀ b,H b=none->b≠e:=fun b n z=>by
    subst z
    rcases he with r | r
    · exact hx b n r
    · rw [n] at r;cases r
  have hm:∀ b u,H b=some u->¬ Mut (some u)->b≠x:=fun b u q nm z=>by subst z;rw [q] at mu;exact nm mu
  refine ⟨fun b u q n _ _=>k b u (hb b n) q,fun b u q n _ _=>⟨u.slots,k b u (hb b n) q⟩,fun b u q n _=>by rw [upd_ne (hx b n)];exact n,fun b u q _=>?_,
    fun b xs q=>by rw [upd_ne (hm b _ q fun z=>z)];exact q,fun b u xs q=>by rw [upd_ne (hm b _ q fun z=>z)];exact q,fun b ps q=>⟨#[],by rw [upd_ne (hm b _ q fun z=>z),q];simp⟩⟩
  by_cases hbe:b=e
  · subst hbe;exact heo
  · exact ⟨u,k b u hbe q⟩
theorem Un.mono (u:Un fs ex H H1 h h1) (hs:∀ b∈fs,b∈fs') (hx:∀ b∈ex,b∈ex'):Un fs' ex' H H1 h h1 :=
  ⟨fun b ob q n hb he=>u.keep b ob q n (fun z=>hb (hs b z)) fun z=>he (hx b z),fun _ _ q n _ he=>u.any q n fun z=>he (hx _ z),fun b ob q n he=>u.free b ob q n fun z=>he (hx b z),fun b ob q he=>u.there b ob q fun z=>he (hx b z),u.tups,u.frzs,u.tbls⟩
end

def trk (h:Heap) (H:Hp):List Addr:=(List.range h.objs.size).filter fun a=>(H a).isSome
def hidT (h:Heap) (H:Hp):Heap:=PySem.W.hideAll h (trk h H)
theorem hidT_size (h:Heap) (H:Hp):(hidT h H).objs.size=h.objs.size:=PySem.W.hideAll_size _ _
theorem hidT_get {h:Heap}{H:Hp}{b:Addr}{o:Obj} (e:h.get? b=some o) (n:H b=none):(hidT h H).get? b=some o :=
  PySem.W.hideAll_get _ e fun hm=>by
    have q:(H b).isSome=true:=(List.mem_filter.mp hm).2
    rw [n] at q;simp at q
theorem of_hidT {h:Heap}{H:Hp}{b:Addr}{o:Obj} (e:(hidT h H).get? b=some o):h.get? b=some o/\H b=none:=by
  have e':h.get? b=some o:=PySem.W.of_hideAll (trk h H) e
  refine ⟨e',?_⟩
  cases q:H b with
  | none=>rfl
  | some x =>
    have hm:b∈trk h H:=List.mem_filter.mpr ⟨List.mem_range.mpr (Heap.lt_size e'),by simp [q]⟩
    have z:(hidT h H).get? b=none:=PySem.W.hideAll_none (trk h H) hm
    rw [z] at e;cases e

def allNews (g h:Heap) (L:Addr):List (Addr × Obj):=(List.range h.objs.size).filterMap fun a=>if a=L ∨ (g.get? a).isSome=true then none else (h.get? a).map fun o=>(a,o)
def rest (g h:Heap) (L d:Addr):List (Addr × Obj):=(allNews g h L).filter fun p=>decide (p.1≠d)
end L2

namespace L2
open PySem PySem.Spec PyProof.Rows

structure Mod (K:PySem.W.Frag) (mg:Str->Option Value) (base:Heap):Prop where
  kin:K.In base
  glob:base.Ns mainGlobals mg
  blt:∃ mb,base.Ns builtinsNs mb/\∀ x:Str,x≠"__name__"->mb x=bootBuiltins x
  nolimit:base.NoLimit
  bmn:∃ bm ob,mg "__builtins__"=some (.ref bm)/\bm≠builtinsNs/\base.get? bm=some ob/\ob.cls=.type "module"/\ob.dict=some builtinsNs/\ob.data=.plain

/-- the context: a def's body (or a comprehension's block) running. base: fixed through the whole law;s₀,H₀: the entry;outer: the frames whose slots others may change (a def's callers);stack: all frames that run;
   ex: iterators that were made ahead of the entry and are walked here (a comprehension's);fn: the names whose cells were made at the entry (a def: all;a comprehension's block: its own);calm: not within an except suite;pn: pins that every state bears;xe: what is wanted of an exception that leaves the code -/
structure Cx where
  prog:Program
  w:World
  K:PySem.W.Frag
  mg:Str->Option Value
  base:Heap
  A:Around
  N:List Str
  s₀:Shared
  H₀:Hp
  env:Env
  outer:List Env
  stack:List Env
  ex:List Addr
  fn:Str->Bool
  calm:Bool
  pn:List (Addr × Obj)
  xe:Value->Shared->Prop
def frs (l:List Env):List Addr:=l.filterMap (·.frame)
abbrev Cx.fs (X:Cx):List Addr:=frs X.outer

def Vis (sc:Scope) (x:Str):Prop:=sc.names.lookup x=some .local ∨ sc.names.lookup x=some .cell ∨ sc.names.lookup x=some .free
def Loc (sc:Scope) (x:Str):Prop:=sc.names.lookup x=some .local ∨ sc.names.lookup x=some .cell
def Look (env:Env) (h:Heap) (m:Str->Option Value) (x:Str) (u:Value):Prop :=
  (env.kindOf x=some .local/\m x=some u) ∨ ((env.kindOf x=some .cell ∨ env.kindOf x=some .free)/\∃ c,env.cells.lookup x=some c/\h.IsCell c (some u))

structure Cx.Ok (X:Cx):Prop where
  mod:Mod X.K X.mg X.base
  kind:X.env.scope.kind=.function
  glob:X.env.globals=mainGlobals
  blt:X.env.builtins=builtinsNs
  above:X.s₀.heap.objs.size<=X.env.locals
  inj:∀ x y c,X.env.cells.lookup x=some c->X.env.cells.lookup y=some c->x=y
  has:∀ x,(X.env.kindOf x=some .cell ∨ X.env.kindOf x=some .free)->∃ c,X.env.cells.lookup x=some c
  cab:∀ x c,X.fn x=true->X.env.cells.lookup x=some c->X.s₀.heap.objs.size<=c
  hd:X.calm=true->X.A.handled=none
  frames:X.A.frames=some X.stack
  stk:X.stack=X.outer ∨ (X.stack=X.env::X.outer/\X.env.frame=some X.env.locals)
  exf:∀ b∈X.ex,b≠X.env.locals/\∀ x c,X.env.cells.lookup x=some c->c≠b
  bs:∀ b o,X.base.get? b=some o->X.s₀.heap.get? b=some o/\X.H₀ b=none
  bsz:X.base.objs.size<=X.s₀.heap.objs.size
  noex:∀ b o,X.base.get? b=some o->b ∉ X.ex
  exfs:∀ b∈X.ex,b ∉ X.fs
  funs:X.s₀.heap.FunFrames X.base X.outer
  frf:∀ b∈X.fs,X.H₀ b=none

structure Inv (X:Cx) (pins:List (Addr × Obj)) (σ:List (Option V)) (H:Hp) (s:Shared):Prop where
  ok:X.Ok
  os:s.os=X.s₀.os
  bare:AllBare s.gens
  base:Un X.fs X.ex X.H₀ H X.s₀.heap s.heap
  loc:∃ m,s.heap.Ns X.env.locals m/\∀ (i:Nat) (x:Str) (v:V),X.N[i]?=some x->σ[i]?=some (some v)->Vis X.env.scope x->∃ u,RelV v u/\Look X.env s.heap m x u
  cell:∀ x c,X.env.cells.lookup x=some c->∃ v,s.heap.IsCell c v
  free:H X.env.locals=none
  freeC:∀ x c,X.env.cells.lookup x=some c->H c=none
  pin:∀ p∈X.pn++pins,s.heap.get? p.1=some p.2/\H p.1=none/\p.1≠X.env.locals/\p.1 ∉ X.fs/\∀ v,p.2.data≠.cell v
  hok:HOk X.prog X.w H s.heap
  len:σ.length=X.N.length

section
variable {X:Cx}{pins:List (Addr × Obj)}{σ:List (Option V)}{H H':Hp}{s:Shared}{h':Heap}

theorem Cx.Ok.nofr (ok:X.Ok) {b:Addr}{o:Obj} (e:X.base.get? b=some o):b ∉ X.fs:=fun hb=>by
  have:=(ok.funs.mem hb).1
  rw [e] at this;cases this
theorem Inv.bs (I:Inv X pins σ H s):∀ b o,X.base.get? b=some o->s.heap.get? b=some o/\H b=none:=fun b o e =>
  ⟨I.base.keep b o (I.ok.bs b o e).1 (I.ok.bs b o e).2 (I.ok.nofr e) (I.ok.noex b o e),I.base.free b o (I.ok.bs b o e).1 (I.ok.bs b o e).2 (I.ok.noex b o e)⟩
theorem Inv.bk (I:Inv X pins σ H s):∀ b o,X.base.get? b=some o->s.heap.get? b=some o:=fun b o e=>(I.bs b o e).1
theorem Inv.mod (I:Inv X pins σ H s):Mod X.K X.mg X.base:=I.ok.mod
theorem Inv.kIn (I:Inv X pins σ H s):X.K.In s.heap:=I.ok.mod.kin.keeps I.bk
theorem Inv.nolimit (I:Inv X pins σ H s):s.heap.NoLimit:=I.ok.mod.nolimit.keeps I.bk
theorem Inv.fr (I:Inv X pins σ H s):∃ m,Fr X.base X.env.locals s.heap m :=
  let ⟨m,hn,_⟩:=I.loc
  ⟨m,hn,I.bk,Nat.le_trans I.ok.bsz I.ok.above⟩
theorem Inv.lt (I:Inv X pins σ H s):X.env.locals < s.heap.objs.size:=let ⟨_,hn,_⟩:=I.loc;hn.lt
theorem Inv.sz (I:Inv X pins σ H s):X.s₀.heap.objs.size<=s.heap.objs.size:=Nat.le_trans I.ok.above (Nat.le_of_lt I.lt)
theorem Inv.nofs (I:Inv X pins σ H s) {a:Addr} (h:s.heap.objs.size<=a):a ∉ X.fs:=fun hb=>by
  obtain ⟨_,o,ho,_⟩:=I.ok.funs.mem hb
  exact absurd (Nat.lt_of_lt_of_le (Heap.lt_size ho) (Nat.le_trans I.sz h)) (Nat.lt_irrefl _)
theorem Inv.cne (I:Inv X pins σ H s):∀ x c,X.env.cells.lookup x=some c->c≠X.env.locals:=fun x c e z=>by
  obtain ⟨v,o,ho,hd⟩:=I.cell x c e
  obtain ⟨m,⟨o',es,ep,ho',hd',_⟩,_⟩:=I.loc
  rw [z,ho'] at ho;cases ho;rw [hd'] at hd;cases hd
theorem Inv.funs (I:Inv X pins σ H s):s.heap.FunFrames X.base X.outer:=by
  have all:∀ (l:List Env),(∀ b∈frs l,b∈X.fs)->X.s₀.heap.FunFrames X.base l->s.heap.FunFrames X.base l:=by
    intro l
    induction l with
    | nil=>intro _ _;trivial
    | cons env r ih =>
      intro hs hl
      obtain ⟨hk,⟨L,o,hf,hn,ho,hd⟩,hr⟩:=hl
      have hL:L∈X.fs:=hs L (by unfold frs;rw [List.filterMap_cons,hf];exact List.mem_cons_self)
      obtain ⟨sl,e⟩:=I.base.slot L o ho (I.ok.frf L hL) hL fun z=>I.ok.exfs L z hL
      exact ⟨hk,⟨L,_,hf,hn,e,hd⟩,ih (fun b hb=>hs b (by unfold frs;rw [List.filterMap_cons,hf];exact List.mem_cons_of_mem _ hb)) hr⟩
  exact all X.outer (fun _ hb=>hb) I.ok.funs

theorem Inv.stack (I:Inv X pins σ H s):s.heap.FunFrames X.base X.stack:=by
  rcases I.ok.stk with e | ⟨e,hf⟩
  · rw [e];exact I.funs
  · rw [e]
    obtain ⟨m,hn,_⟩:=I.loc
    refine .cons (by rw [I.ok.kind];decide) hf hn ?_ I.funs
    exact Heap.get?_none_of_le (Nat.le_trans I.ok.bsz I.ok.above)
theorem Inv.stkSub (I:Inv X pins σ H s):∀ b∈frs X.stack,b∈X.env.locals::X.fs:=fun b hb=>by
  rcases I.ok.stk with e | ⟨e,hf⟩
  · rw [e] at hb;exact List.mem_cons_of_mem _ hb
  · rw [e] at hb
    unfold frs at hb
    rw [List.filterMap_cons,hf] at hb
    exact hb
theorem Inv.stkFree (I:Inv X pins σ H s):∀ b∈frs X.stack,H b=none:=fun b hb=>by
  rcases List.mem_cons.mp (I.stkSub b hb) with e | hb
  · rw [e];exact I.free
  · obtain ⟨_,o,ho,_⟩:=I.ok.funs.mem hb
    exact I.base.free b o ho (I.ok.frf b hb) fun z=>I.ok.exfs b z hb

theorem Inv.step {g':Array GenState}{t':Nat}{d':Drawn}{ch:List Addr} (I:Inv X pins σ H s)
    (hch:∀ b∈ch,(b∈X.ex ∨ X.s₀.heap.objs.size<=b)/\b≠X.env.locals/\(∀ x c,X.env.cells.lookup x=some c->c≠b)/\∀ p∈X.pn++pins,p.1≠b)
    (keep:∀ b o,b≠X.env.locals->b ∉ X.fs->b ∉ ch->s.heap.get? b=some o->H b=none->h'.get? b=some o)
    (slot:∀ b o,b≠X.env.locals->b∈X.fs->b ∉ ch->s.heap.get? b=some o->H b=none->∃ sl,h'.get? b=some { o with slots:=sl }) (free:∀ b o,b ∉ ch->s.heap.get? b=some o->H b=none->H' b=none)
    (there:∀ b o,b ∉ ch->s.heap.get? b=some o->∃ o',h'.get? b=some o')
    (tups:∀ b xs,H b=some (.tup xs)->H' b=some (.tup xs)) (frzs:∀ b o u,H b=some (.frz o u)->H' b=some (.frz o u)) (tbls:∀ b ps,H b=some (.tbl ps)->∃ more,H' b=some (.tbl (ps++more)))
    (ns:∀ m,s.heap.Ns X.env.locals m->h'.Ns X.env.locals m) (hok:HOk X.prog X.w H' h') (hg:AllBare g') :
    Inv X pins σ H' { s with heap:=h',gens:=g',drawn:=d',toks:=t' }:=by
  have neL:∀ b o,X.s₀.heap.get? b=some o->b≠X.env.locals:=fun b o e=>Nat.ne_of_lt (Nat.lt_of_lt_of_le (Heap.lt_size e) I.ok.above)
  have neC:∀ b o,X.s₀.heap.get? b=some o->b ∉ X.ex->b ∉ ch:=fun b o e hx hb=>by
    rcases (hch b hb).1 with z | z
    · exact hx z
    · exact absurd (Nat.lt_of_lt_of_le (Heap.lt_size e) z) (Nat.lt_irrefl _)
  have cellK:∀ x c,X.env.cells.lookup x=some c->∀ v,s.heap.IsCell c v->h'.IsCell c v:=fun x c e v ⟨o,ho,hd⟩=>by
    have nch:c ∉ ch:=fun z=>(hch c z).2.2.1 x c e rfl
    by_cases hc:c∈X.fs
    · obtain ⟨sl,q⟩:=slot c o (I.cne x c e) hc nch ho (I.freeC x c e)
      exact ⟨_,q,hd⟩
    · exact ⟨o,keep c o (I.cne x c e) hc nch ho (I.freeC x c e),hd⟩
  refine ⟨I.ok,I.os,hg,⟨fun b o e n hb hx=>?_,fun b o e n hb hx=>?_,fun b o e n hx=>?_,fun b o e hx=>?_,fun b xs e=>tups b xs (I.base.tups b xs e),fun b o xs e=>frzs b o xs (I.base.frzs b o xs e),fun b ps e=>?_⟩,?_,fun x c e=>?_,?_,fun x c e=>?_,fun p hp=>?_,hok,I.len⟩
  · exact keep b o (neL b o e) hb (neC b o e hx) (I.base.keep b o e n hb hx) (I.base.free b o e n hx)
  · obtain ⟨sl,e1⟩:=I.base.slot b o e n hb hx
    obtain ⟨sl',e2⟩:=slot b _ (neL b o e) hb (neC b o e hx) e1 (I.base.free b o e n hx)
    exact ⟨sl',e2⟩
  · obtain ⟨o',e1⟩:=I.base.there b o e hx
    exact free b o' (neC b o e hx) e1 (I.base.free b o e n hx)
  · obtain ⟨o',e1⟩:=I.base.there b o e hx
    exact there b o' (neC b o e hx) e1
  · obtain ⟨m1,e1⟩:=I.base.tbls b ps e
    obtain ⟨m2,e2⟩:=tbls b _ e1
    exact ⟨m1++m2,by rw [e2,Array.append_assoc]⟩
  · obtain ⟨m,hn,hl⟩:=I.loc
    refine ⟨m,ns m hn,fun i x v e1 e2 e3=>?_⟩
    obtain ⟨u,r,l⟩:=hl i x v e1 e2 e3
    refine ⟨u,r,?_⟩
    rcases l with l | ⟨k,c,e,z⟩
    · exact .inl l
    · exact .inr ⟨k,c,e,cellK x c e _ z⟩
  · obtain ⟨v,z⟩:=I.cell x c e
    exact ⟨v,cellK x c e v z⟩
  · obtain ⟨m,⟨o,_,_,ho,_⟩,_⟩:=I.loc
    exact free _ o (fun z=>(hch _ z).2.1 rfl) ho I.free
  · obtain ⟨v,o,ho,hd⟩:=I.cell x c e
    exact free c o (fun z=>(hch c z).2.2.1 x c e rfl) ho (I.freeC x c e)
  · obtain ⟨e,n,ne,nf,d⟩:=I.pin p hp
    have nch:p.1 ∉ ch:=fun z=>(hch p.1 z).2.2.2 p hp rfl
    exact ⟨keep p.1 p.2 ne nf nch e n,free p.1 p.2 nch e n,ne,nf,d⟩
theorem Inv.un {t':Nat} (I:Inv X pins σ H s) (u:Un X.fs [] H H' s.heap h') (hok:HOk X.prog X.w H' h'):Inv X pins σ H' { s with heap:=h',toks:=t' }:=by
  obtain ⟨m,⟨o,es,ep,ho,r⟩,_⟩:=id I.loc
  obtain ⟨sl,hL⟩:=u.any ho I.free (by simp)
  exact I.step (g':=s.gens) (d':=s.drawn) (ch:=[]) (fun _ z=>nomatch z) (fun b o _ hb _ e n=>u.keep b o e n hb (by simp)) (fun b o _ hb _ e n=>u.slot b o e n hb (by simp)) (fun b o _ e n=>u.free b o e n (by simp)) (fun b o _ e=>u.there b o e (by simp)) u.tups u.frzs u.tbls (fun m' hm=>by
    obtain ⟨o',es',ep',ho',r'⟩:=hm
    rw [ho] at ho';cases ho'
    exact ⟨_,es',ep',hL,r'⟩) hok I.bare
theorem Inv.call {g':Array GenState}{t':Nat}{d':Drawn}{ch:List Addr} (I:Inv X pins σ H s) (u:Un (frs X.stack) ch H H' s.heap h') (hok:HOk X.prog X.w H' h') (hg:AllBare g')
    (hch:∀ b∈ch,(b∈X.ex ∨ X.s₀.heap.objs.size<=b)/\b≠X.env.locals/\(∀ x c,X.env.cells.lookup x=some c->c≠b)/\∀ p∈X.pn++pins,p.1≠b) :
    Inv X pins σ H' { s with heap:=h',gens:=g',drawn:=d',toks:=t' }:=by
  obtain ⟨m,⟨o,es,ep,ho,r⟩,_⟩:=id I.loc
  obtain ⟨sl,hL⟩:=u.any ho I.free fun z=>(hch _ z).2.1 rfl
  exact I.step (ch:=ch) hch (fun b o hL hb hc e n=>u.keep b o e n (fun z=>(List.mem_cons.mp (I.stkSub b z)).elim hL hb) hc) (fun b o _ _ hc e n=>u.any e n hc) (fun b o hc e n=>u.free b o e n hc) (fun b o hc e=>u.there b o e hc) u.tups u.frzs u.tbls (fun m' hm=>by
    obtain ⟨o',es',ep',ho',r'⟩:=hm
    rw [ho] at ho';cases ho'
    exact ⟨_,es',ep',hL,r'⟩) hok hg
theorem Inv.turned {t':Nat}{it:Addr} (I:Inv X pins σ H s) (k:∀ b o,b≠it->s.heap.get? b=some o->h'.get? b=some o) (hn:H it=none) (hL:it≠X.env.locals)
    (h1:it∈X.ex ∨ X.s₀.heap.objs.size<=it) (h2:∀ x c,X.env.cells.lookup x=some c->c≠it) (h3:∀ p∈X.pn++pins,p.1≠it):Inv X pins σ H { s with heap:=h',toks:=t' }:=by
  have nit:∀ b u,H b=some u->b≠it:=fun b u e z=>by rw [z,hn] at e;cases e
  refine I.step (g':=s.gens) (d':=s.drawn) (ch:=[it]) (fun b hb=>?_) (fun b o _ _ hc e _=>k b o (fun z=>hc (by simp [z])) e) (fun b o _ _ hc e _=>⟨o.slots,k b o (fun z=>hc (by simp [z])) e⟩) (fun _ _ _ _ n=>n)
    (fun b o hc e=>⟨o,k b o (fun z=>hc (by simp [z])) e⟩) (fun _ _ e=>e) (fun _ _ _ e=>e) (fun b ps e=>⟨#[],by rw [e];simp⟩) (fun m hm=>?_) (fun b u e=>?_) I.bare
  · have e:b=it:=by simpa using hb
    subst e
    exact ⟨h1,hL,h2,h3⟩
  · obtain ⟨o,es,ep,ho,r⟩:=hm
    exact ⟨o,es,ep,k _ o (Ne.symm hL) ho,r⟩
  · refine (I.hok b u e).stay (fun c v hc q=>k c v ?_ q) (fun _ q=>q) fun _ _ q=>q
    rcases hc with z | z
    · rw [z];exact nit b u e
    · exact nit c _ z
theorem Inv.tok (I:Inv X pins σ H s) (t:Nat):Inv X pins σ H { s with toks:=t }:=I.un (h':=s.heap) (t':=t) Un.refl I.hok
theorem Inv.kept {t':Nat} (I:Inv X pins σ H s) (k:∀ b u,s.heap.get? b=some u->h'.get? b=some u):Inv X pins σ H { s with heap:=h',toks:=t' }:=I.un (Un.kept k) (I.hok.kept k)
theorem Inv.laid {a:Addr}{o:HO}{t':Nat} (I:Inv X pins σ H s) (k:∀ b u,s.heap.get? b=some u->h'.get? b=some u) (hp:s.heap.objs.size<=a) (new:ObjOk X.prog X.w (upd H a o) h' a o) :
    Inv X pins σ (upd H a o) { s with heap:=h',toks:=t' }:=I.un (Un.laid k hp (I.hok.fresh hp)) (I.hok.laid k hp new)
theorem Inv.write {x e:Addr}{o:HO}{t':Nat} (I:Inv X pins σ H s) (mu:Mut (H x)) (he:e=x ∨ H e=some (.own x)) (k:∀ b u,b≠e->s.heap.get? b=some u->h'.get? b=some u) (heo:∃ u,h'.get? e=some u)
    (new:ObjOk X.prog X.w (upd H x o) h' x o):Inv X pins σ (upd H x o) { s with heap:=h',toks:=t' }:=I.un (Un.write mu he k heo) (I.hok.write mu he k heo new)
theorem Inv.pins_of {pins':List (Addr × Obj)} (I:Inv X pins σ H s) (h:∀ p∈pins',s.heap.get? p.1=some p.2/\H p.1=none/\p.1≠X.env.locals/\p.1 ∉ X.fs/\∀ v,p.2.data≠.cell v):Inv X pins' σ H s :=
  ⟨I.ok,I.os,I.bare,I.base,I.loc,I.cell,I.free,I.freeC,fun p hp=>(List.mem_append.mp hp).elim (fun z=>I.pin p (List.mem_append_left _ z)) (h p),I.hok,I.len⟩

theorem nodup_ix {N:List Str} (hN:N.Nodup) {i j:Nat}{x:Str} (a:N[i]?=some x) (b:N[j]?=some x):i=j:=by
  obtain ⟨h1,e1⟩:=List.getElem?_eq_some_iff.mp a
  obtain ⟨h2,e2⟩:=List.getElem?_eq_some_iff.mp b
  exact (List.getElem_inj hN).mp (e1.trans e2.symm)

theorem store_ok2 {M:Model}{A:Around}{E:Value->Shared->Prop}{i:Nat}{x:Str}{v:V}{u:Value}{Q:Unit->Shared->Prop} (I:Inv X pins σ H s) (hN:X.N.Nodup) (hi:X.N[i]?=some x) (hx:Loc X.env.scope x) (r:RelV v u)
    (h:∀ s',Inv X pins (σ.set i (some v)) H s'->(∃ a,Heap.SameBut a s.heap s'.heap/\(a=X.env.locals ∨ X.env.cells.lookup x=some a))->Q () s') (hf:X.fn x=true ∨ X.env.scope.names.lookup x=some .local:=by first | exact .inl rfl | exact .inr rfl | assumption):wpAny M A (storeName X.env x u) Q E s:=by
  obtain ⟨m,hn,hl⟩:=id I.loc
  have hcls:(X.env.scope.kind == .class || (X.env.scope.kind == .module && X.env.locals != X.env.globals))=false:=by rw [I.ok.kind];rfl
  have hiσ:i < σ.length:=by rw [I.len];exact (List.getElem?_eq_some_iff.mp hi).1
  have cne:=I.cne
  have tracked:∀ {a:Addr}{h':Heap},(∃ o,s.heap.get? a=some o/\H a=none)->Heap.SameBut a s.heap h'->HOk X.prog X.w H h':=fun {a h'} ha hs b ob e=>by
    obtain ⟨_,_,hfree⟩:=ha
    refine (I.hok b ob e).stay (fun c w' hc q=>(hs.2 c ?_).trans q) (fun _ q=>q) fun _ _ q=>q
    rintro rfl
    rcases hc with rfl | hc
    · rw [hfree] at e;cases e
    · rw [hfree] at hc;cases hc
  rcases hx with hk | hk
  · refine wpAny_storeName_local hk hn (fun h' hn' hs=>?_) hcls
    obtain ⟨oL,_,_,hoL,_⟩:=id hn
    refine h _ ⟨I.ok,I.os,I.bare,⟨fun b o e n hb hx=>?_,fun b o e n hb hx=>?_,I.base.free,fun b o e hx=>?_,I.base.tups,I.base.frzs,I.base.tbls⟩,⟨_,hn',fun j y v' e1 e2 e3=>?_⟩,fun y c e=>?_,I.free,I.freeC,fun p hp=>?_,tracked ⟨oL,hoL,I.free⟩ hs,by simpa using I.len⟩ ⟨_,hs,.inl rfl⟩
    · exact (hs.2 b (Nat.ne_of_lt (Nat.lt_of_lt_of_le (Heap.lt_size e) I.ok.above))).trans (I.base.keep b o e n hb hx)
    · obtain ⟨sl,e1⟩:=I.base.slot b o e n hb hx
      exact ⟨sl,(hs.2 b (Nat.ne_of_lt (Nat.lt_of_lt_of_le (Heap.lt_size e) I.ok.above))).trans e1⟩
    · obtain ⟨o',e1⟩:=I.base.there b o e hx
      exact ⟨o',(hs.2 b (Nat.ne_of_lt (Nat.lt_of_lt_of_le (Heap.lt_size e) I.ok.above))).trans e1⟩
    · by_cases hj:j=i
      · subst hj
        rw [hi] at e1;cases e1
        rw [List.getElem?_set_self hiσ] at e2
        cases e2
        exact ⟨u,r,.inl ⟨hk,by simp⟩⟩
      · rw [List.getElem?_set_ne (Ne.symm hj)] at e2
        obtain ⟨u',r',q⟩:=hl j y v' e1 e2 e3
        refine ⟨u',r',?_⟩
        rcases q with ⟨k,e⟩ | ⟨k,c,e,z⟩
        · refine .inl ⟨k,?_⟩
          have:y≠x:=fun e=>hj (nodup_ix hN e1 (e ▸ hi))
          simp [this,e]
        · exact .inr ⟨k,c,e,z.sameBut hs (cne y c e)⟩
    · obtain ⟨w',z⟩:=I.cell y c e
      exact ⟨w',z.sameBut hs (cne y c e)⟩
    · obtain ⟨e,n,ne,nf,d⟩:=I.pin p hp
      exact ⟨(hs.2 p.1 ne).trans e,n,ne,nf,d⟩
  · have hfn:X.fn x=true:=by
      rcases hf with z | z
      · exact z
      · rw [z] at hk;cases hk
    obtain ⟨c,hc⟩:=I.ok.has x (.inl hk)
    obtain ⟨w',z⟩:=I.cell x c hc
    refine wpAny_storeName_cell I.ok.kind hk hc z (fun h' hc' hs=>?_)
    obtain ⟨oc,hoc,hocd⟩:=id z
    refine h { s with heap:=h' } ⟨I.ok,I.os,I.bare,⟨fun b o e n hb hx=>?_,fun b o e n hb hx=>?_,I.base.free,fun b o e hx=>?_,I.base.tups,I.base.frzs,I.base.tbls⟩,⟨m,hn.sameBut hs (Ne.symm (cne x c hc)),fun j y v' e1 e2 e3=>?_⟩,fun y c' e=>?_,I.free,I.freeC,fun p hp=>?_,tracked ⟨oc,hoc,I.freeC x c hc⟩ hs,by simpa using I.len⟩ ⟨c,hs,.inr hc⟩
    · exact (hs.2 b (Nat.ne_of_lt (Nat.lt_of_lt_of_le (Heap.lt_size e) (I.ok.cab x c hfn hc)))).trans (I.base.keep b o e n hb hx)
    · obtain ⟨sl,e1⟩:=I.base.slot b o e n hb hx
      exact ⟨sl,(hs.2 b (Nat.ne_of_lt (Nat.lt_of_lt_of_le (Heap.lt_size e) (I.ok.cab x c hfn hc)))).trans e1⟩
    · obtain ⟨o',e1⟩:=I.base.there b o e hx
      exact ⟨o',(hs.2 b (Nat.ne_of_lt (Nat.lt_of_lt_of_le (Heap.lt_size e) (I.ok.cab x c hfn hc)))).trans e1⟩
    · by_cases hj:j=i
      · subst hj
        rw [hi] at e1;cases e1
        rw [List.getElem?_set_self hiσ] at e2
        cases e2
        exact ⟨u,r,.inr ⟨.inl hk,c,hc,hc'⟩⟩
      · rw [List.getElem?_set_ne (Ne.symm hj)] at e2
        obtain ⟨u',r',q⟩:=hl j y v' e1 e2 e3
        refine ⟨u',r',?_⟩
        rcases q with q | ⟨k,c',e,z'⟩
        · exact .inl q
        · refine .inr ⟨k,c',e,z'.sameBut hs ?_⟩
          rintro rfl
          exact hj (nodup_ix hN e1 (I.ok.inj _ _ _ e hc ▸ hi))
    · by_cases hcc:c'=c
      · subst hcc;exact ⟨_,hc'⟩
      · obtain ⟨w2,z2⟩:=I.cell y c' e
        exact ⟨w2,z2.sameBut hs hcc⟩
    · obtain ⟨e,n,ne,nf,d⟩:=I.pin p hp
      refine ⟨(hs.2 p.1 ?_).trans e,n,ne,nf,d⟩
      intro q
      rw [q,hoc] at e
      have q':oc=p.2:=Option.some.inj e
      exact d w' (by rw [← q'];exact hocd)
theorem store_ok {M:Model}{A:Around}{E:Value->Shared->Prop}{i:Nat}{x:Str}{v:V}{u:Value}{Q:Unit->Shared->Prop} (I:Inv X pins σ H s) (hN:X.N.Nodup) (hi:X.N[i]?=some x) (hx:Loc X.env.scope x) (r:RelV v u)
    (h:∀ s',Inv X pins (σ.set i (some v)) H s'->Q () s') (hf:X.fn x=true ∨ X.env.scope.names.lookup x=some .local:=by first | exact .inl rfl | exact .inr rfl | assumption):wpAny M A (storeName X.env x u) Q E s :=
  store_ok2 I hN hi hx r (fun s' I' _=>h s' I') hf
theorem Inv.call' {s':Shared}{ch:List Addr} (I:Inv X pins σ H s) (ho:s'.os=s.os) (u:Un (frs X.stack) ch H H' s.heap s'.heap) (hok:HOk X.prog X.w H' s'.heap) (hg:AllBare s'.gens)
    (hch:∀ b∈ch,(b∈X.ex ∨ X.s₀.heap.objs.size<=b)/\b≠X.env.locals/\(∀ x c,X.env.cells.lookup x=some c->c≠b)/\∀ p∈X.pn++pins,p.1≠b):Inv X pins σ H' s':=by
  obtain ⟨h',g',d',t',o'⟩:=s'
  have e:o'=s.os:=ho
  subst e
  exact I.call (g':=g') (t':=t') (d':=d') u hok hg hch
end

abbrev XK:=Value->Option Addr->Hp->Prop
abbrev St:=List (Option V)
abbrev VK:=V->Hp->Prop
abbrev TE:=St->Hp->VK->Prop
abbrev TT:=St->Hp->(Bool->Hp->Prop)->Prop
abbrev TA:=St->Hp->(List V->Hp->Prop)->Prop
structure Ends where
  nx:St->Hp->Prop
  rt:VK
  bk:St->Hp->Prop:=fun _ _=>False
  ct:St->Hp->Prop:=fun _ _=>False
abbrev TS:=Ends->St->Hp->Prop

def EP (X:Cx) (pins:List (Addr × Obj)) (σ:St) (Q:VK) (u:Value) (s':Shared):Prop:=∃ v H',Inv X pins σ H' s'/\RelV v u/\Q v H'
def TP (X:Cx) (pins:List (Addr × Obj)) (σ:St) (Q:Bool->Hp->Prop) (b:Bool) (s':Shared):Prop:=∃ H',Inv X pins σ H' s'/\Q b H'
def AP (X:Cx) (pins:List (Addr × Obj)) (σ:St) (Q:List V->Hp->Prop) (us:List Value) (s':Shared):Prop:=∃ vs H',Inv X pins σ H' s'/\Vals vs us/\Q vs H'
def SP (X:Cx) (pins:List (Addr × Obj)) (D:Ends) (f:Flow) (s':Shared):Prop :=
  match f with
  | .next=>∃ σ' H',Inv X pins σ' H' s'/\D.nx σ' H'
  | .brk=>∃ σ' H',Inv X pins σ' H' s'/\D.bk σ' H'
  | .cont=>∃ σ' H',Inv X pins σ' H' s'/\D.ct σ' H'
  | .ret u=>∃ v σ' H',Inv X pins σ' H' s'/\RelV v u/\D.rt v H'

def PE (X:Cx) (e:Expr) (t:TE):Prop :=
  ∀ (pins:List (Addr × Obj)) (s:Shared) (σ:St) (H:Hp) (Q:VK),Inv X pins σ H s->t σ H Q->wpAny (model X.prog X.w) X.A (eval e X.env) (EP X pins σ Q) X.xe s
def PT (X:Cx) (e:Expr) (t:TT):Prop :=
  ∀ (pins:List (Addr × Obj)) (s:Shared) (σ:St) (H:Hp) (Q:Bool->Hp->Prop),Inv X pins σ H s->t σ H Q->wpAny (model X.prog X.w) X.A (isTrue e X.env (eval e X.env)) (TP X pins σ Q) X.xe s
def PW (X:Cx) (e:Expr) (t:TT):Prop :=
  ∀ (whole:Sem Value) (pins:List (Addr × Obj)) (s:Shared) (σ:St) (H:Hp) (Q:Bool->Hp->Prop),Inv X pins σ H s->t σ H Q->wpAny (model X.prog X.w) X.A (isTrue e X.env whole) (TP X pins σ Q) X.xe s
theorem PW.pt {X:Cx}{e:Expr}{t:TT} (h:PW X e t):PT X e t:=h _
def PA (X:Cx) (es:List Expr) (t:TA):Prop :=
  ∀ (pos:Pos) (pins:List (Addr × Obj)) (s:Shared) (σ:St) (H:Hp) (Q:List V->Hp->Prop),Inv X pins σ H s->t σ H Q->wpAny (model X.prog X.w) X.A (spliced (backTo pos (starEach es X.env))) (AP X pins σ Q) X.xe s
def PS (X:Cx) (st:Stmt) (t:TS):Prop :=
  ∀ (pins:List (Addr × Obj)) (s:Shared) (σ:St) (H:Hp) (D:Ends),Inv X pins σ H s->t D σ H->wpAny (model X.prog X.w) X.A (exec st X.env) (SP X pins D) X.xe s
def PSs (X:Cx) (st:List Stmt) (t:TS):Prop :=
  ∀ (pins:List (Addr × Obj)) (s:Shared) (σ:St) (H:Hp) (D:Ends),Inv X pins σ H s->t D σ H->wpAny (model X.prog X.w) X.A (execs st X.env) (SP X pins D) X.xe s
theorem thn {α:Type}{t:Sem α}{Q Q':α->Shared->Prop}{M:Model}{A:Around}{E:Value->Shared->Prop}{s:Shared} (h:wpAny M A t Q E s) (hQ:∀ a s,Q a s->Q' a s):wpAny M A t Q' E s:=wpAny_mono h hQ fun _ _ x=>x
end L2

namespace L2
open PySem PySem.Spec PyProof.Rows
section
variable {X:Cx}

def tVar (i:Nat):TE:=fun σ H Q=>∃ v,σ[i]?=some (some v)/\Q v H
def tC (v:V):TE:=fun _ H Q=>Q v H
theorem pe_var {i:Nat}{x:Str}{pos:Pos} (hN:X.N[i]?=some x) (hv:Vis X.env.scope x) (hd:(x == ("__debug__":Str))=false:=by decide) (hcd:(x == ("__classdict__":Str))=false:=by decide):PE X (.Name x pos) (tVar i):=by
  intro pins s σ H Q I h
  obtain ⟨v,e,h⟩:=h
  obtain ⟨m,hn,hl⟩:=I.loc
  obtain ⟨u,r,l⟩:=hl i x v hN e hv
  have fin:EP X pins σ Q u s:=⟨v,H,I,r,h⟩
  rcases l with ⟨hk,hm⟩ | ⟨hk,c,hc,hcell⟩
  · exact wpAny_Name (wpAny_loadName_local I.ok.kind hk hn hm fin) hd
  · rcases hk with hk | hk
    · exact wpAny_Name (wpAny_loadName_cell I.ok.kind hk hc hcell fin) hd
    · exact wpAny_Name (wpAny_loadName_free I.ok.kind hk hc hcell fin hcd) hd
theorem pe_int {i j pos}:PE X (.Constant (.int i) j pos) (tC (.int i)):=fun _ _ _ H _ I h=>wpAny_Constant_int ⟨.int i,H,I.tok _,⟨_,rfl⟩,h⟩
theorem pe_bl {b j pos}:PE X (.Constant (.bool b) j pos) (tC (.bl b)):=fun _ _ _ H _ I h=>Constant_bool ⟨.bl b,H,I,rfl,h⟩
theorem pe_non {j pos}:PE X (.Constant .none j pos) (tC .non):=fun _ _ _ H _ I h=>Constant_none ⟨.non,H,I,rfl,h⟩
theorem pe_str {x j pos}:PE X (.Constant (.str x) j pos) (tC (.str x)):=fun _ _ _ H _ I h=>Calls.Constant_str ⟨.str x,H,I.tok _,⟨_,rfl⟩,h⟩

def Gl (X:Cx) (x:Str):Prop:=X.env.kindOf x=some .globalImplicit
theorem ld_glob {E:Value->Shared->Prop}{pins:List (Addr × Obj)}{s:Shared}{σ:St}{H:Hp}{x:Str}{u:Value}{pos:Pos}{Q:Value->Shared->Prop} (I:Inv X pins σ H s) (hg:Gl X x) (hm:X.mg x=some u) (h:Q u s)
    (hd:(x == ("__debug__":Str))=false:=by decide):wpAny (model X.prog X.w) X.A (eval (.Name x pos) X.env) Q E s :=
  Calls.Name_function_global I.ok.kind hg (Calls.loadGlobal_global (by rw [I.ok.glob];exact I.mod.glob.keeps I.bk) hm h) hd
theorem ld_blt {E:Value->Shared->Prop}{pins:List (Addr × Obj)}{s:Shared}{σ:St}{H:Hp}{x:Str}{u:Value}{pos:Pos}{Q:Value->Shared->Prop} (I:Inv X pins σ H s) (hg:Gl X x) (hm:X.mg x=none) (hv:bootBuiltins x=some u) (h:Q u s)
    (hn:x≠"__name__":=by decide) (hd:(x == ("__debug__":Str))=false:=by decide):wpAny (model X.prog X.w) X.A (eval (.Name x pos) X.env) Q E s:=by
  obtain ⟨mb,h1,h2⟩:=I.mod.blt
  exact Calls.Name_function_global I.ok.kind hg (Calls.loadGlobal_builtin (by rw [I.ok.glob];exact I.mod.glob.keeps I.bk) hm (by rw [I.ok.blt];exact h1.keeps I.bk) ((h2 x hn).trans hv) h) hd
theorem pe_glob {x:Str}{v:V}{u:Value}{pos:Pos} (hg:Gl X x) (hm:X.mg x=some u) (r:RelV v u) (hd:(x == ("__debug__":Str))=false:=by decide):PE X (.Name x pos) (tC v) :=
  fun _ _ _ H _ I h=>ld_glob I hg hm ⟨v,H,I,r,h⟩ hd
theorem pe_bltn {x:Str}{v:V}{u:Value}{pos:Pos} (hg:Gl X x) (hm:X.mg x=none) (hv:bootBuiltins x=some u) (r:RelV v u) (hn:x≠"__name__":=by decide) (hd:(x == ("__debug__":Str))=false:=by decide):PE X (.Name x pos) (tC v) :=
  fun _ _ _ H _ I h=>ld_blt I hg hm hv ⟨v,H,I,r,h⟩ hn hd

variable {a b:Expr}{ta tb:TE}{pos:Pos}
def tB (t:TE):TT:=fun σ H Q=>t σ H fun x H1=>∃ c,x=.bl c/\Q c H1
theorem pt_val {e:Expr}{t:TE} (h:PE X e t) (he:∀ whole,isTrue e X.env whole=(do let v ← whole;standAt e.pos;holding [v] (truthy v)):=by intro _;rfl):PT X e (tB t):=by
  intro pins s σ H Q I hw
  refine isTrue_plain (thn (h pins s σ H _ I hw) fun v s1 ⟨x,H1,I1,r1,q1⟩=>?_) (he _)
  obtain ⟨d,rfl,q⟩:=q1
  cases r1
  exact wpAny_truthy_bool ⟨H1,I1,q⟩

variable {tA tB':TT}{rest:List Expr}
def tAnd (t u:TT):TT:=fun σ H Q=>t σ H fun c H1=>if c=true then u σ H1 Q else Q false H1
def tOr (t u:TT):TT:=fun σ H Q=>t σ H fun c H1=>if c=true then Q true H1 else u σ H1 Q
def tNot (t:TT):TT:=fun σ H Q=>t σ H fun c H1=>Q (!c) H1
theorem pw_and1 (ha:PT X a tA):PW X (.BoolOp .And [a] pos) tA:=by
  intro wh pins s σ H Q I h
  refine isTrue_and (thn (ha pins s σ H Q I h) fun c s1 e=>?_)
  cases c with
  | true=>exact isTrue_and_nil e
  | false=>exact e
theorem pw_or1 (ha:PT X a tA):PW X (.BoolOp .Or [a] pos) tA:=by
  intro wh pins s σ H Q I h
  refine isTrue_or (thn (ha pins s σ H Q I h) fun c s1 e=>?_)
  cases c with
  | false=>exact isTrue_or_nil e
  | true=>exact e
theorem pw_and (ha:PT X a tA) (hb:PW X (.BoolOp .And (b::rest) pos) tB'):PW X (.BoolOp .And (a::b::rest) pos) (tAnd tA tB'):=by
  intro wh pins s σ H Q I h
  refine isTrue_and (thn (ha pins s σ H _ I h) fun c s1 ⟨H1,I1,q1⟩=>?_)
  cases c with
  | true=>exact hb wh pins s1 σ H1 Q I1 q1
  | false=>exact ⟨H1,I1,q1⟩
theorem pw_or (ha:PT X a tA) (hb:PW X (.BoolOp .Or (b::rest) pos) tB'):PW X (.BoolOp .Or (a::b::rest) pos) (tOr tA tB'):=by
  intro wh pins s σ H Q I h
  refine isTrue_or (thn (ha pins s σ H _ I h) fun c s1 ⟨H1,I1,q1⟩=>?_)
  cases c with
  | true=>exact ⟨H1,I1,q1⟩
  | false=>exact hb wh pins s1 σ H1 Q I1 q1
theorem pt_not (ha:PT X a tA):PT X (.UnaryOp .Not a pos) (tNot tA):=by
  intro pins s σ H Q I h
  exact isTrue_not (ha pins s σ H (fun c H1=>Q (!c) H1) I h)
def tAndV (ta tb:TE):TE:=fun σ H Q=>ta σ H fun x H1=>∃ c,x=.bl c/\if c=true then tb σ H1 Q else Q (.bl false) H1
def tOrV (ta tb:TE):TE:=fun σ H Q=>ta σ H fun x H1=>∃ c,x=.bl c/\if c=true then Q (.bl true) H1 else tb σ H1 Q
def tNotV (ta:TE):TE:=fun σ H Q=>ta σ H fun x H1=>∃ c,x=.bl c/\Q (.bl (!c)) H1
theorem pe_one {op}{t:TE} (h:PE X a t):PE X (.BoolOp op [a] pos) t:=fun pins s σ H Q I hw=>BoolOp_one (h pins s σ H Q I hw)
theorem pe_and (ha:PE X a ta) (hb:PE X (.BoolOp .And (b::rest) pos) tb):PE X (.BoolOp .And (a::b::rest) pos) (tAndV ta tb):=by
  intro pins s σ H Q I h
  refine BoolOp_and (thn (ha pins s σ H _ I h) fun v s1 ⟨x,H1,I1,r1,q1⟩=>?_)
  obtain ⟨c,rfl,q1⟩:=q1
  cases r1
  refine wpAny_truthy_bool ?_
  cases c with
  | true=>exact hb pins s1 σ H1 Q I1 q1
  | false=>exact ⟨.bl false,H1,I1,rfl,q1⟩
theorem pe_or (ha:PE X a ta) (hb:PE X (.BoolOp .Or (b::rest) pos) tb):PE X (.BoolOp .Or (a::b::rest) pos) (tOrV ta tb):=by
  intro pins s σ H Q I h
  refine BoolOp_or (thn (ha pins s σ H _ I h) fun v s1 ⟨x,H1,I1,r1,q1⟩=>?_)
  obtain ⟨c,rfl,q1⟩:=q1
  cases r1
  refine wpAny_truthy_bool ?_
  cases c with
  | false=>exact hb pins s1 σ H1 Q I1 q1
  | true=>exact ⟨.bl true,H1,I1,rfl,q1⟩
theorem pe_not (ha:PE X a ta):PE X (.UnaryOp .Not a pos) (tNotV ta):=by
  intro pins s σ H Q I h
  refine UnaryOp_ (thn (ha pins s σ H _ I h) fun v s1 ⟨x,H1,I1,r1,q1⟩=>?_)
  obtain ⟨c,rfl,q1⟩:=q1
  cases r1
  exact not_of (wpAny_truthy_bool ⟨.bl (!c),H1,I1,rfl,q1⟩)
def tIf (t:TT) (ta tb:TE):TE:=fun σ H Q=>t σ H fun c H1=>if c=true then ta σ H1 Q else tb σ H1 Q
theorem pe_ifExp {c:Expr} (hc:PT X c tA) (ha:PE X a ta) (hb:PE X b tb):PE X (.IfExp c a b pos) (tIf tA ta tb):=by
  intro pins s σ H Q I h
  refine wpAny_IfExp (thn (hc pins s σ H _ I h) fun d s1 ⟨H1,I1,q1⟩=>?_)
  cases d with
  | true=>exact ha pins s1 σ H1 Q I1 q1
  | false=>exact hb pins s1 σ H1 Q I1 q1
end
end L2

namespace L2
open PySem PySem.Spec PyProof.Rows

def SqL (K:PySem.W.Frag) (H:Hp) (a:Addr) (xs:List V):Prop :=
  Rd H a (.lst xs) ∨
    ∃ (o:Obj) (its:Array Value) (n:Nat),K.lookup a=some o/\o.cls=.type "list"/\o.dict=none/\o.data=.seq its n/\its.size<=sizeLine/\Vals xs its.toList
def SqT (K:PySem.W.Frag) (H:Hp) (a:Addr) (xs:List V):Prop :=
  Rd H a (.tup xs) ∨
    ∃ (o:Obj) (its:Array Value) (n:Nat),K.lookup a=some o/\o.cls=.type "tuple"/\o.data=.seq its n/\its.size<=sizeLine/\Vals xs its.toList
def absV:Value->Option V
  | .none=>some .non
  | .bool b=>some (.bl b)
  | .int i _=>some (.int i)
  | .str x _=>some (.str x)
  | .bytes b _=>some (.byt b)
  | .float b _=>some (.flt b)
  | .ref a=>some (.ref a)
  | .type n=>some (.ty n)
  | _=>none
theorem RelV.abs {x:V}{u:Value} (r:RelV x u):absV u=some x:=by
  cases x with
  | non=>cases r;rfl
  | bl _=>cases r;rfl
  | int _=>obtain ⟨t,rfl⟩:=r;rfl
  | str _=>obtain ⟨t,rfl⟩:=r;rfl
  | byt _=>obtain ⟨t,rfl⟩:=r;rfl
  | flt _=>obtain ⟨t,rfl⟩:=r;rfl
  | ref _=>cases r;rfl
  | ty _=>cases r;rfl
theorem RelV.inj {x y:V}{u:Value} (r:RelV x u) (q:RelV y u):x=y:=Option.some.inj (r.abs.symm.trans q.abs)
theorem Vals.inj:∀ {xs ys:List V}{us:List Value},Vals xs us->Vals ys us->xs=ys
  | _,_,_,.nil,.nil=>rfl
  | _,_,_,.cons r t,.cons r' t'=>by rw [r.inj r',Vals.inj t t']
section
variable {X:Cx}{pins:List (Addr × Obj)}{σ:St}{H:Hp}{s:Shared}{a:Addr}{xs ys:List V}
theorem SqL.of {K:PySem.W.Frag} (h:H a=some (.lst xs)):SqL K H a xs:=.inl (.inl h)
theorem SqT.of {K:PySem.W.Frag} (h:H a=some (.tup xs)):SqT K H a xs:=.inl (.inl h)
theorem Inv.list (I:Inv X pins σ H s) (h:SqL X.K H a xs):∃ its:List Value,Vals xs its/\PlainL s.heap a its.toArray/\xs.length<=sizeLine:=by
  rcases h with h | ⟨o,its,n,hk,hc,hd,hs,hz,r⟩
  · obtain ⟨z,its,n,r,e⟩:=h.ok I.hok
    exact ⟨its,r,⟨_,n,e,rfl,rfl,rfl⟩,z⟩
  · refine ⟨its.toList,r,⟨o,n,I.kIn a o hk,hc,hd,by simpa using hs⟩,?_⟩
    have e:=r.length
    simp only [Array.length_toList] at e
    omega
theorem Inv.tuple (I:Inv X pins σ H s) (h:SqT X.K H a xs):∃ its:List Value,Vals xs its/\IsTup s.heap a its.toArray/\xs.length<=sizeLine:=by
  rcases h with h | ⟨o,its,n,hk,hc,hs,hz,r⟩
  · obtain ⟨z,its,r,p⟩:=h.ok I.hok
    exact ⟨its,r,p,z⟩
  · refine ⟨its.toList,r,⟨o,I.kIn a o hk,hc,n,by simpa using hs⟩,?_⟩
    have e:=r.length
    simp only [Array.length_toList] at e
    omega
theorem Inv.list_inj (I:Inv X pins σ H s) (h:SqL X.K H a xs) (h':SqL X.K H a ys):xs=ys:=by
  obtain ⟨its,r,⟨o,n,e,_,_,d⟩,_⟩:=I.list h
  obtain ⟨its',r',⟨o',n',e',_,_,d'⟩,_⟩:=I.list h'
  rw [e] at e';cases e'
  rw [d] at d'
  injection d' with d1 _
  have:its=its':=by simpa using congrArg Array.toList d1
  subst this
  exact r.inj r'
theorem Inv.tuple_inj (I:Inv X pins σ H s) (h:SqT X.K H a xs) (h':SqT X.K H a ys):xs=ys:=by
  obtain ⟨its,r,⟨o,e,_,n,d⟩,_⟩:=I.tuple h
  obtain ⟨its',r',⟨o',e',_,n',d'⟩,_⟩:=I.tuple h'
  rw [e] at e';cases e'
  rw [d] at d'
  injection d' with d1 _
  have:its=its':=by simpa using congrArg Array.toList d1
  subst this
  exact r.inj r'
end

abbrev Cx.wish (X:Cx) (E:Value->Shared->Prop):Cx:={ X with xe:=E }
abbrev Cx.nox (X:Cx):Cx:=X.wish fun _ _=>False
theorem Cx.Ok.wish {X:Cx} (ok:X.Ok) (E:Value->Shared->Prop):(X.wish E).Ok :=
  ⟨ok.mod,ok.kind,ok.glob,ok.blt,ok.above,ok.inj,ok.has,ok.cab,ok.hd,ok.frames,ok.stk,ok.exf,ok.bs,ok.bsz,ok.noex,ok.exfs,ok.funs,ok.frf⟩
theorem Cx.Ok.unwish {X:Cx}{E:Value->Shared->Prop} (ok:(X.wish E).Ok):X.Ok :=
  ⟨ok.mod,ok.kind,ok.glob,ok.blt,ok.above,ok.inj,ok.has,ok.cab,ok.hd,ok.frames,ok.stk,ok.exf,ok.bs,ok.bsz,ok.noex,ok.exfs,ok.funs,ok.frf⟩
section
variable {X:Cx}{pins:List (Addr × Obj)}{σ:St}{H:Hp}{s:Shared}{E:Value->Shared->Prop}
theorem Inv.wish (I:Inv X pins σ H s) (E:Value->Shared->Prop):Inv (X.wish E) pins σ H s:=⟨I.ok.wish E,I.os,I.bare,I.base,I.loc,I.cell,I.free,I.freeC,I.pin,I.hok,I.len⟩
theorem Inv.unwish (I:Inv (X.wish E) pins σ H s):Inv X pins σ H s:=⟨I.ok.unwish,I.os,I.bare,I.base,I.loc,I.cell,I.free,I.freeC,I.pin,I.hok,I.len⟩
theorem SP.unwish {D:Ends}{f:Flow}{s':Shared} (h:SP (X.wish E) pins D f s'):SP X pins D f s':=by
  cases f with
  | next=>obtain ⟨σ',H',I,q⟩:=h;exact ⟨σ',H',I.unwish,q⟩
  | brk=>obtain ⟨σ',H',I,q⟩:=h;exact ⟨σ',H',I.unwish,q⟩
  | cont=>obtain ⟨σ',H',I,q⟩:=h;exact ⟨σ',H',I.unwish,q⟩
  | ret u=>obtain ⟨v,σ',H',I,r,q⟩:=h;exact ⟨v,σ',H',I.unwish,r,q⟩
theorem PE.nox {e:Expr}{t:TE} (h:PE X.nox e t):PE X e t:=fun pins s σ H Q I hw =>
  wpAny_mono (h pins s σ H Q (I.wish _) hw) (fun _ _ ⟨v,H',I',r,q⟩=>⟨v,H',I'.unwish,r,q⟩) fun _ _ z=>False.elim z
theorem PT.nox {e:Expr}{t:TT} (h:PT X.nox e t):PT X e t:=fun pins s σ H Q I hw =>
  wpAny_mono (h pins s σ H Q (I.wish _) hw) (fun _ _ ⟨H',I',q⟩=>⟨H',I'.unwish,q⟩) fun _ _ z=>False.elim z
theorem PSs.nox {st:List Stmt}{t:TS} (h:PSs X.nox st t):PSs X st t:=fun pins s σ H D I hw =>
  wpAny_mono (h pins s σ H D (I.wish _) hw) (fun _ _ q=>q.unwish) fun _ _ z=>False.elim z
end

section
variable {X:Cx}{st:Stmt}{rest:List Stmt}{t u:TS}{e:Expr}{te:TE}{pos:Pos}
def tNext:TS:=fun D σ H=>D.nx σ H
def tSeq (t u:TS):TS:=fun D σ H=>t { D with nx:=u D } σ H
theorem pss_nil:PSs X [] tNext:=fun _ _ σ H _ I h=>wpAny_execs_nil ⟨σ,H,I,h⟩
theorem pss_cons (h1:PS X st t) (h2:PSs X rest u):PSs X (st::rest) (tSeq t u):=by
  intro pins s σ H D I h
  refine wpAny_execs_cons (thn (h1 pins s σ H { D with nx:=u D } I h) fun f s1 q=>?_)
  cases f with
  | next =>
    obtain ⟨σ',H',I',q⟩:=q
    exact h2 pins s1 σ' H' D I' q
  | ret v=>exact q
  | brk=>exact q
  | cont=>exact q
theorem pss_one (h1:PS X st t):PSs X [st] t:=by
  intro pins s σ H D I h
  refine wpAny_execs_cons (thn (h1 pins s σ H D I h) fun f s1 q=>?_)
  cases f with
  | next=>exact wpAny_execs_nil q
  | ret v=>exact q
  | brk=>exact q
  | cont=>exact q
theorem Inv.quiet {pins:List (Addr × Obj)}{σ:St}{H:Hp}{s:Shared} (I:Inv X pins σ H s):interactive X.env=false:=by simp [interactive,I.ok.kind]
def tDrop (te:TE):TS:=fun D σ H=>te σ H fun _ H1=>D.nx σ H1
theorem ps_expr (he:PE X e te) (hs:swapsWith e none pos.line X.env=pure false:=by rfl):PS X (.Expr e pos) (tDrop te):=by
  intro pins s σ H D I h
  exact wpAny_Expr_any (thn (he pins s σ H _ I h) fun v s1 ⟨x,H1,I1,r1,q1⟩=>⟨σ,H1,I1,q1⟩) I.quiet hs
def tRet (te:TE):TS:=fun D σ H=>te σ H D.rt
theorem ps_ret (he:PE X e te):PS X (.Return (some e) pos) (tRet te):=by
  intro pins s σ H D I h
  exact wpAny_Return_some (thn (he pins s σ H _ I h) fun v s1 ⟨x,H1,I1,r1,q1⟩=>⟨x,σ,H1,I1,r1,q1⟩)
def tIfS (c:TT) (t u:TS):TS:=fun D σ H=>c σ H fun b H1=>if b=true then t D σ H1 else u D σ H1
theorem ps_if {c:Expr}{a b:List Stmt}{tc:TT} (hc:PT X c tc) (ha:PSs X a t) (hb:PSs X b u):PS X (.If c a b pos) (tIfS tc t u):=by
  intro pins s σ H D I h
  refine wpAny_If (thn (hc pins s σ H _ I h) fun d s1 ⟨H1,I1,q1⟩=>?_)
  cases d with
  | true=>exact ha pins s1 σ H1 D I1 q1
  | false=>exact hb pins s1 σ H1 D I1 q1
end

abbrev TG:=V->St->Hp->(St->Hp->Prop)->Prop
abbrev TGs:=List V->St->Hp->(St->Hp->Prop)->Prop
def PG (X:Cx) (target:Expr) (t:TG):Prop :=
  ∀ (pins:List (Addr × Obj)) (s:Shared) (σ:St) (H:Hp) (v:V) (u:Value) (Q:St->Hp->Prop),Inv X pins σ H s->RelV v u->t v σ H Q →
    wpAny (model X.prog X.w) X.A (assign target X.env u) (fun _ s'=>∃ σ' H',Inv X pins σ' H' s'/\Q σ' H') X.xe s
def PGs (X:Cx) (ts:List Expr) (t:TGs):Prop :=
  ∀ (pins:List (Addr × Obj)) (s:Shared) (σ:St) (H:Hp) (vs:List V) (us:List Value) (Q:St->Hp->Prop),Inv X pins σ H s->Vals vs us->t vs σ H Q →
    wpAny (model X.prog X.w) X.A (assignInOrder ((assignEach ts X.env).map (·.2)) us) (fun _ s'=>∃ σ' H',Inv X pins σ' H' s'/\Q σ' H') X.xe s
abbrev TSet:=V->V->V->Hp->(Hp->Prop)->Prop
def PSet (X:Cx) (t:TSet):Prop :=
  ∀ (pins:List (Addr × Obj)) (s:Shared) (σ:St) (H:Hp) (o i v:V) (ov iv u:Value) (Q:Hp->Prop),Inv X pins σ H s->RelV o ov->RelV i iv->RelV v u->t o i v H Q →
    wpAny (model X.prog X.w) X.A (setItem ov iv u) (fun _ s'=>∃ H',Inv X pins σ H' s'/\Q H') X.xe s
section
variable {X:Cx}{pos:Pos}
def gName (i:Nat):TG:=fun v σ H Q=>Q (σ.set i (some v)) H
theorem pg_name {i:Nat}{x:Str} (hN:X.N.Nodup) (hi:X.N[i]?=some x) (hx:Loc X.env.scope x) (hf:X.fn x=true ∨ X.env.scope.names.lookup x=some .local:=by first | exact .inl rfl | exact .inr rfl | assumption):PG X (.Name x pos) (gName i):=by
  intro pins s σ H v u Q I r h
  exact wpAny_assign_Name (store_ok I hN hi hx r (fun s' I'=>⟨_,H,I',h⟩) hf)
def gNil:TGs:=fun vs σ H Q=>vs=[]/\Q σ H
def gCons (t:TG) (u:TGs):TGs:=fun vs σ H Q=>∃ v r,vs=v::r/\t v σ H fun σ' H'=>u r σ' H' Q
theorem pgs_nil:PGs X [] gNil:=by
  intro pins s σ H vs us Q I r h
  obtain ⟨e,h⟩:=h
  subst e
  cases r
  exact assignInOrder_nil ⟨σ,H,I,h⟩
theorem pgs_cons {e:Expr}{es:List Expr}{t:TG}{u:TGs} (h1:PG X e t) (h2:PGs X es u)
    (hs:(assignEach (e::es) X.env).map (·.2)=assign e X.env::(assignEach es X.env).map (·.2):=by rfl):PGs X (e::es) (gCons t u):=by
  intro pins s σ H vs us Q I r h
  obtain ⟨v,vr,e1,h⟩:=h
  subst e1
  cases r with
  | cons r rr =>
    rw [hs]
    refine assignInOrder_cons (thn (h1 pins s σ H _ _ _ I r h) fun _ s1 ⟨σ1,H1,I1,q1⟩=>?_)
    exact h2 pins s1 σ1 H1 _ _ Q I1 rr q1
def gTup (K:PySem.W.Frag) (n:Nat) (t:TGs):TG:=fun v σ H Q=>∃ a xs,v=.ref a/\SqT K H a xs/\xs.length=n/\t xs σ H Q
theorem pg_tup {es:List Expr}{k:Nat}{t:TGs}{n:Nat} (hc:X.calm=true) (h:PGs X es t)
    (hn:(assignEach es X.env).length=n:=by rfl) (hst:(assignEach es X.env).findIdx? (·.1)=none:=by rfl):PG X (.Tuple es k pos) (gTup X.K n t):=by
  intro pins s σ H v u Q I r hw
  obtain ⟨a,xs,e1,hq,hl,hw⟩:=hw
  subst e1
  cases r
  obtain ⟨its,rv,ht,hz⟩:=I.tuple hq
  refine assign_Tuple_tuple (I.ok.hd hc) ht (by simp [hn,← hl,rv.length]) hst fun h' hx=>?_
  have I1:Inv X pins σ H { s with heap:=h' }:=I.kept (t':=s.toks) fun b o e=>hx b o (Nat.ne_of_lt (Heap.lt_size e)) e
  exact h pins _ σ H xs _ Q I1 (by simpa using rv) hw
def gSub (to ti:TE) (t:TSet):TG:=fun v σ H Q=>to σ H fun o H1=>ti σ H1 fun i H2=>t o i v H2 fun H3=>Q σ H3
theorem pg_sub {o i:Expr}{to ti:TE}{t:TSet} (ho:PE X o to) (hi:PE X i ti) (hs:PSet X t)
    (ha:∀ v,assign (.Subscript o i pos) X.env v=(do
      let ov ← holding [v] (eval o X.env)
      let iv ← holding [v,ov] (eval i X.env)
      standAt pos
      holding [v,ov,iv] (setItem ov iv v)
      release [v,ov,iv] []):=by intro _;rfl):PG X (.Subscript o i pos) (gSub to ti t):=by
  intro pins s σ H v u Q I r h
  rw [ha]
  refine wpAny_bind (wpAny_holding (thn (ho pins s σ H _ I h) fun ov s1 ⟨x,H1,I1,r1,q1⟩=>?_))
  refine wpAny_bind (wpAny_holding (thn (hi pins s1 σ H1 _ I1 q1) fun iv s2 ⟨y,H2,I2,r2,q2⟩=>?_))
  refine wpAny_bind (wpAny_standAt (wpAny_bind (wpAny_holding (thn (hs pins s2 σ H2 x y v ov iv u _ I2 r1 r2 r q2) fun _ s3 ⟨H3,I3,q3⟩=>?_))))
  exact wpAny_release ⟨σ,H3,I3,q3⟩
def tAsg (te:TE) (g:TG):TS:=fun D σ H=>te σ H fun x H1=>g x σ H1 D.nx
theorem ps_asg {tg e:Expr}{te:TE}{g:TG} (he:PE X e te) (hg:PG X tg g) (hs:swapsWithSole [tg] e pos.line X.env=pure false:=by rfl) (hw:swappedStores [tg] e X.env=pure none:=by rfl)
    (h1:(assignEach [tg] X.env).map (·.2)=[assign tg X.env]:=by rfl):PS X (.Assign [tg] e pos) (tAsg te g):=by
  intro pins s σ H D I h
  refine wpAny_Assign_stores (thn (he pins s σ H _ I h) fun v s1 ⟨x,H1,I1,r1,q1⟩=>?_) hs hw
  rw [h1]
  exact thn (hg pins s1 σ H1 x v _ I1 r1 q1) fun _ s2 q=>q
theorem ps_set {i:Nat}{x:Str}{e:Expr}{te:TE}{pos':Pos} (hN:X.N.Nodup) (hi:X.N[i]?=some x) (hx:Loc X.env.scope x) (he:PE X e te) (hs:swapsWith e (some (.Name x pos')) pos.line X.env=pure false:=by rfl) (hf:X.fn x=true ∨ X.env.scope.names.lookup x=some .local:=by first | exact .inl rfl | exact .inr rfl | assumption) :
    PS X (.Assign [.Name x pos'] e pos) (tAsg te (gName i)):=by
  intro pins s σ H D I h
  refine wpAny_Assign_Name (thn (he pins s σ H _ I h) fun v s1 ⟨y,H1,I1,r1,q1⟩=>?_) hs
  exact store_ok I1 hN hi hx r1 (fun s2 I2=>⟨_,H1,I2,q1⟩) hf
end

section
variable {X:Cx}{pos:Pos}
def tWhile (c:TT) (tb:TS):TS:=fun D σ H=>∃ W:Nat->St->Hp->Prop,(∃ m,W m σ H)/\∀ m σ H,W m σ H →
  c σ H fun b H1=>if b=true then ∃ N:St->Hp->Prop,(∀ σ' H',N σ' H'->∃ m',m' < m/\W m' σ' H')/\tb { D with nx:=N,ct:=N,bk:=D.nx } σ H1 else D.nx σ H1
theorem ps_while {c:Expr}{body:List Stmt}{tc:TT}{tb:TS} (hp:PassesOwn (model X.prog X.w) X.A X.env X.xe) (hc:PT X c tc) (hb:PSs X body tb):PS X (.While c body [] pos) (tWhile tc tb):=by
  intro pins s σ H D I h
  obtain ⟨W,⟨m0,w0⟩,turn⟩:=h
  refine wpAny_While (codeAny_whileLoop (fun n s'=>∃ σ' H',Inv X pins σ' H' s'/\W n σ' H') ?_ m0 ⟨σ,H,I,w0⟩)
  rintro n s1 ⟨σ1,H1,I1,w1⟩
  refine wpAny_passesOwn hp (thn (hc pins s1 σ1 H1 _ I1 (turn n σ1 H1 w1)) fun b s2 ⟨H2,I2,q2⟩=>?_)
  cases b with
  | true =>
    obtain ⟨N,hN,q2⟩:=q2
    rw [if_pos rfl]
    refine wpAny_passesOwn hp (thn (hb pins s2 σ1 H2 _ I2 q2) fun f s3 q3=>?_)
    cases f with
    | next =>
      obtain ⟨σ3,H3,I3,n3⟩:=q3
      obtain ⟨m',hm,w3⟩:=hN σ3 H3 n3
      exact ⟨m',hm,σ3,H3,I3,w3⟩
    | cont =>
      obtain ⟨σ3,H3,I3,n3⟩:=q3
      obtain ⟨m',hm,w3⟩:=hN σ3 H3 n3
      exact ⟨m',hm,σ3,H3,I3,w3⟩
    | brk=>exact q3
    | ret v=>exact q3
  | false =>
    rw [if_neg Bool.false_ne_true]
    exact wpAny_execs_nil ⟨σ1,H2,I2,q2⟩
end

structure It where
  go:Nat->Hp->Prop
  yld:Nat->Hp->V->Hp->Prop
  stop:Nat->Hp->Prop
def FpOk (X:Cx) (pins:List (Addr × Obj)) (H:Hp) (b:Addr):Prop :=
  H b=none/\b≠X.env.locals/\b ∉ X.fs/\(b∈X.ex ∨ X.s₀.heap.objs.size<=b)/\(∀ x c,X.env.cells.lookup x=some c->c≠b)/\∀ p∈X.pn++pins,p.1≠b
theorem Inv.fpOk {X:Cx}{pins:List (Addr × Obj)}{σ:St}{H H':Hp}{s:Shared}{b:Addr} (I:Inv X pins σ H s) (hb:s.heap.objs.size<=b) (hn:H' b=none):FpOk X pins H' b:=by
  refine ⟨hn,Nat.ne_of_gt (Nat.lt_of_lt_of_le I.lt hb),I.nofs hb,.inr (Nat.le_trans I.sz hb),fun x c e z=>?_,fun p hp z=>?_⟩
  · obtain ⟨v,q⟩:=I.cell x c e
    exact absurd (Nat.lt_of_lt_of_le q.lt (by rw [z];exact hb)) (Nat.lt_irrefl _)
  · exact absurd (Nat.lt_of_lt_of_le (Heap.lt_size (I.pin p hp).1) (by rw [z];exact hb)) (Nat.lt_irrefl _)
structure Turn (P:Program) (w:World) (K:PySem.W.Frag) (tg:Expr) (J:It) (fp:List Addr) (it:Addr) (tn:Nat->Heap->Prop):Prop where
  mem:it∈fp
  obj:∀ i h,tn i h->∀ b∈fp,∃ o,h.get? b=some o/\∀ v,o.data≠.cell v
  keep:∀ i h h',tn i h->(∀ b∈fp,∀ o,h.get? b=some o->h'.get? b=some o)->tn i h'
  item:∀ (X:Cx),X.prog=P->X.w=w->X.K=K->X.calm=true->∀ (i:Nat) (pins:List (Addr × Obj)) (s:Shared) (σ:St) (H:Hp) (E:Value->Shared->Prop),Inv X pins σ H s->(∀ b∈fp,FpOk X pins H b)->tn i s.heap->J.go i H →
    wpAny (model P w) X.A (pyNext (.ref it)) (fun r s1=>∃ u,r=some u ∧
      wpAny (model P w) X.A (letOwnedTupleGo tg (.ref it) u) (fun _ s2=>∃ x H',Inv X pins σ H' s2/\RelV x u/\J.yld i H x H'/\tn (i + 1) s2.heap/\∀ b∈fp,H' b=none) E s1) E s
  done:∀ (X:Cx),X.prog=P->X.w=w->X.K=K->X.calm=true->∀ (i:Nat) (pins:List (Addr × Obj)) (s:Shared) (σ:St) (H:Hp) (E:Value->Shared->Prop),Inv X pins σ H s->(∀ b∈fp,FpOk X pins H b)->tn i s.heap->J.stop i H →
    wpAny (model P w) X.A (pyNext (.ref it)) (fun r s1=>r=none/\Inv X pins σ H s1) E s
  self:∀ (A:Around) (i:Nat) (s:Shared) (Q:Value->Shared->Prop) (E:Value->Shared->Prop),tn i s.heap->Q (.ref it) s->wpAny (model P w) A (pyIter (.ref it)) Q E s
abbrev TI:=St->Hp->(It->Hp->Prop)->Prop
def PIE (X:Cx) (pins:List (Addr × Obj)) (σ:St) (tg:Expr) (R:It->Hp->Prop) (itv:Value) (s2:Shared):Prop :=
  ∃ (it:Addr) (fp:List Addr) (tn:Nat->Heap->Prop) (J:It) (H':Hp),itv=.ref it/\Inv X pins σ H' s2/\Turn X.prog X.w X.K tg J fp it tn/\tn 0 s2.heap/\(∀ b∈fp,FpOk X pins H' b)/\R J H'
def PI (X:Cx) (tg iter:Expr) (wi:TI):Prop :=
  ∀ (pins:List (Addr × Obj)) (s:Shared) (σ:St) (H:Hp) (R:It->Hp->Prop),Inv X pins σ H s->wi σ H R →
    wpAny (model X.prog X.w) X.A (eval iter X.env) (fun v s1=>wpAny (model X.prog X.w) X.A (pyIter v) (PIE X pins σ tg R) X.xe s1) X.xe s

theorem go_of {M:Model}{A:Around}{E:Value->Shared->Prop}{s:Shared}{tg:Expr}{it:Addr}{u:Value}{o:Obj}{n:String}{vs:Array Value}{Q:Unit->Shared->Prop} (ho:s.heap.get? it=some o) (hc:o.cls=.type n) (hd:o.data=.fields vs)
    (hn:["enumerate","zip","dict_itemiterator","dict_reverseitemiterator","odict_iterator","itertools.zip_longest","itertools.pairwise"].contains n=false) (hQ:Q () s):wpAny M A (letOwnedTupleGo tg (.ref it) u) Q E s:=by
  unfold letOwnedTupleGo
  cases tg <;> first
    | exact wpAny_pure hQ
    | (cases u <;> first
        | exact wpAny_pure hQ
        | (refine wpAny_bind (wpAny_load ho ?_)
           rw [hc,hd]
           show wpAny M A (if (["enumerate","zip","dict_itemiterator","dict_reverseitemiterator","odict_iterator","itertools.zip_longest","itertools.pairwise"].contains n && vs[0]? == some (rawInt _))=true then _ else _) Q E s
           rw [if_neg (by intro h;rw [hn,Bool.false_and] at h;cases h)]
           exact wpAny_pure hQ))

def Itl (K:PySem.W.Frag) (a:Addr):It :=
  ⟨fun i H=>∃ xs x,SqL K H a xs/\xs[i]?=some x,fun i H x H'=>H'=H/\∀ xs,SqL K H a xs->xs[i]?=some x,fun i H=>∃ xs,SqL K H a xs/\xs.length<=i⟩
def Itt (K:PySem.W.Frag) (a:Addr):It :=
  ⟨fun i H=>∃ xs x,SqT K H a xs/\xs[i]?=some x,fun i H x H'=>H'=H/\∀ xs,SqT K H a xs->xs[i]?=some x,fun i H=>∃ xs,SqT K H a xs/\xs.length<=i⟩
def Itr (lo:Int) (n:Nat):It:=⟨fun i _=>i < n,fun i H x H'=>H'=H/\x=.int (lo + i),fun i _=>n<=i⟩
theorem turn_list {P:Program}{w:World}{K:PySem.W.Frag}{tg:Expr} (a it:Addr):Turn P w K tg (Itl K a) [it] it (fun i h=>h.IsListIter it a i) where
  mem:=by simp
  obj:=fun i h st b hb=>by
    have e:b=it:=by simpa using hb
    subst e
    obtain ⟨o,e,c,d⟩:=st
    exact ⟨o,e,fun v z=>by rw [d] at z;cases z⟩
  keep:=fun i h h' st k=>st.at fun o e=>k it (by simp) o e
  item:=by
    intro X hP hw hK hc i pins s σ H E I hf st hg
    subst hP hw hK
    obtain ⟨xs,x,hq,hx⟩:=hg
    obtain ⟨its,rv,p,hz⟩:=I.list hq
    obtain ⟨u,hu,ru⟩:=rv.get hx
    obtain ⟨f0,f1,f2,f3,f4,f5⟩:=hf it (by simp)
    refine wpAny_pyNext_list_item st p.isList (x:=u) (by simpa using hu) fun h' st' sb=>?_
    have I1:Inv X pins σ H { s with heap:=h' }:=I.turned (t':=s.toks) (fun b o hb e=>(sb.2 b hb).trans e) f0 f1 f3 f4 f5
    obtain ⟨o,e,c,d⟩:=id st'
    exact ⟨u,rfl,go_of (s:={ s with heap:=h' }) e c d (by decide) ⟨x,H,I1,ru,⟨rfl,fun ys hy=>by rw [I.list_inj hy hq];exact hx⟩,st',fun b hb=>(hf b hb).1⟩⟩
  done:=by
    intro X hP hw hK hc i pins s σ H E I hf st hg
    subst hP hw hK
    obtain ⟨xs,hq,hx⟩:=hg
    obtain ⟨its,rv,p,hz⟩:=I.list hq
    obtain ⟨f0,f1,f2,f3,f4,f5⟩:=hf it (by simp)
    have hl:=rv.length
    exact wpAny_pyNext_list_end (I.ok.hd hc) st p.isList (by simp;omega) fun h' eb=>⟨rfl,I.turned (t':=s.toks) (fun b o hb e=>eb b o hb e) f0 f1 f3 f4 f5⟩
  self:=fun _ _ _ _ _ st h=>wpAny_pyIter_listiter st h
theorem turn_tuple {P:Program}{w:World}{K:PySem.W.Frag}{tg:Expr} (a it:Addr):Turn P w K tg (Itt K a) [it] it (fun i h=>h.IsTupleIter it a i) where
  mem:=by simp
  obj:=fun i h st b hb=>by
    have e:b=it:=by simpa using hb
    subst e
    obtain ⟨o,e,c,d⟩:=st
    exact ⟨o,e,fun v z=>by rw [d] at z;cases z⟩
  keep:=fun i h h' st k=>st.at fun o e=>k it (by simp) o e
  item:=by
    intro X hP hw hK hc i pins s σ H E I hf st hg
    subst hP hw hK
    obtain ⟨xs,x,hq,hx⟩:=hg
    obtain ⟨its,rv,p,hz⟩:=I.tuple hq
    obtain ⟨u,hu,ru⟩:=rv.get hx
    obtain ⟨f0,f1,f2,f3,f4,f5⟩:=hf it (by simp)
    refine wpAny_pyNext_tuple_item st (show s.heap.IsTuple a its.toArray from p) (x:=u) (by simpa using hu) fun h' st' sb=>?_
    have I1:Inv X pins σ H { s with heap:=h' }:=I.turned (t':=s.toks) (fun b o hb e=>(sb.2 b hb).trans e) f0 f1 f3 f4 f5
    obtain ⟨o,e,c,d⟩:=id st'
    exact ⟨u,rfl,go_of (s:={ s with heap:=h' }) e c d (by decide) ⟨x,H,I1,ru,⟨rfl,fun ys hy=>by rw [I.tuple_inj hy hq];exact hx⟩,st',fun b hb=>(hf b hb).1⟩⟩
  done:=by
    intro X hP hw hK hc i pins s σ H E I hf st hg
    subst hP hw hK
    obtain ⟨xs,hq,hx⟩:=hg
    obtain ⟨its,rv,p,hz⟩:=I.tuple hq
    obtain ⟨f0,f1,f2,f3,f4,f5⟩:=hf it (by simp)
    have hl:=rv.length
    exact wpAny_pyNext_tuple_end (I.ok.hd hc) st (show s.heap.IsTuple a its.toArray from p) (by simp;omega) fun h' eb=>⟨rfl,I.turned (t':=s.toks) (fun b o hb e=>eb b o hb e) f0 f1 f3 f4 f5⟩
  self:=fun _ _ _ _ _ st h=>wpAny_pyIter_tupleiter st h
theorem turn_range {P:Program}{w:World}{K:PySem.W.Frag}{tg:Expr} (it:Addr) (lo:Int) (n:Nat):Turn P w K tg (Itr lo n) [it] it (fun i h=>IsRangeIter h it (lo + (i:Nat) * 1) ((n:Int) - (i:Nat)) 1) where
  mem:=by simp
  obj:=fun i h st b hb=>by
    have e:b=it:=by simpa using hb
    subst e
    exact ⟨_,st,fun v z=>by
      have z':Data.fields _=Data.cell v:=z
      cases z'⟩
  keep:=fun i h h' st k=>k it (by simp) _ st
  item:=by
    intro X hP hw hK hc i pins s σ H E I hf st hg
    subst hP hw hK
    obtain ⟨f0,f1,f2,f3,f4,f5⟩:=hf it (by simp)
    have W:=Walks.range (prog:=X.prog) (w:=X.w) (I.ok.hd hc) it lo 1 n
    refine W.item i s _ _ hg st fun v h' tk hv st' kk=>?_
    obtain ⟨t,rfl⟩:=hv
    have I1:Inv X pins σ H { s with heap:=h',toks:=tk }:=I.turned (fun b o hb e=>kk b o (by simpa using hb) e) f0 f1 f3 f4 f5
    refine ⟨_,rfl,go_of (s:={ s with heap:=h',toks:=tk }) (n:="range_iterator") st' rfl rfl (by decide) ⟨.int (lo + i),H,I1,⟨t,?_⟩,⟨rfl,rfl⟩,st',fun b hb=>(hf b hb).1⟩⟩
    rw [Int.mul_one]
  done:=by
    intro X hP hw hK hc i pins s σ H E I hf st hg
    subst hP hw hK
    obtain ⟨f0,f1,f2,f3,f4,f5⟩:=hf it (by simp)
    exact wpAny_pyNext_range_end (I.ok.hd hc) st (by have:n<=i:=hg;omega) fun h' eb=>⟨rfl,I.turned (t':=s.toks) (fun b o hb e=>eb b o hb e) f0 f1 f3 f4 f5⟩
  self:=fun _ _ _ _ _ st h=>wpAny_pyIter_rangeiter st h
end L2

namespace L2
open PySem PySem.Spec PyProof.Rows
section
variable {X:Cx}{tg:Expr}
theorem range_it {pins:List (Addr × Obj)}{σ:St}{H:Hp}{s:Shared}{R:It->Hp->Prop}{E:Value->Shared->Prop}{lo hi:Int}{t u v:Tok}{tk:Nat} (I:Inv X pins σ H s) (h1:-(2 ^ 62)<=lo) (h2:lo < 2 ^ 62) (h3:-(2 ^ 62)<=hi) (h4:hi < 2 ^ 62)
    (q:R (Itr lo (hi - lo).toNat) H):wpAny (model X.prog X.w) X.A (pyIter (.ref s.heap.objs.size)) (PIE X pins σ tg R) E { s with heap:=s.heap.push { cls:=.type "range",data:=.fields #[.int lo t,.int hi u,.int 1 v] },toks:=tk }:=by
  refine wpAny_pyIter_range (IsRange.new ..) (small_one h1 h2 h3 h4) ?_
  have I1:Inv X pins σ H { s with heap:=s.heap.push { cls:=.type "range",data:=.fields #[.int lo t,.int hi u,.int 1 v] },toks:=tk }:=I.kept fun b o e=>Heap.get?_push_of_some _ e
  refine ⟨(s.heap.push { cls:=.type "range",data:=.fields #[.int lo t,.int hi u,.int 1 v] }).objs.size,[(s.heap.push { cls:=.type "range",data:=.fields #[.int lo t,.int hi u,.int 1 v] }).objs.size],_,_,H,rfl,
    I1.kept (t':=tk) fun b o e=>Heap.get?_push_of_some _ e,turn_range _ lo (hi - lo).toNat,?_,fun b hb=>?_,q⟩
  · have e1:lo + ((0:Nat):Int) * 1=lo:=by simp
    have e2:(((hi - lo).toNat:Nat):Int) - ((0:Nat):Int)=Builtin.Range.rangeSize lo hi 1:=by rw [rangeSize_one];split <;> omega
    show IsRangeIter _ _ (lo + ((0:Nat):Int) * 1) ((((hi - lo).toNat:Nat):Int) - ((0:Nat):Int)) 1
    rw [e1,e2]
    exact Heap.get?_push_size _ rfl
  · have e:b=(s.heap.push { cls:=.type "range",data:=.fields #[.int lo t,.int hi u,.int 1 v] }).objs.size:=by simpa using hb
    subst e
    exact I1.fpOk (Nat.le_refl _) (I1.hok.fresh (Nat.le_refl _))
def iRng1 (ta:TA):TI:=fun σ H R=>ta σ H fun vs H1=>∃ j:Int,vs=[.int j]/\-(2 ^ 62)<=j/\j < 2 ^ 62/\R (Itr 0 j.toNat) H1
theorem pi_range1 {a:Expr}{ta:TA}{p pos:Pos} (hg:Gl X "range") (hm:X.mg "range"=none) (ha:PA X [a] ta) (hs:starEach [a] X.env=[(false,eval a X.env)]:=by rfl):PI X tg (.Call (.Name "range" p) [a] [] pos) (iRng1 ta):=by
  intro pins s σ H R I h
  refine Call_ (ld_blt I hg hm boot_range (PyProof.Rows.callWith_type1 (thn (ha pos pins s σ H _ I h) fun us s1 ⟨vs,H1,I1,r1,q1⟩=>?_) hs rfl))
  obtain ⟨j,e,q1,q2,q⟩:=q1
  subst e
  cases r1 with
  | cons r rr =>
    cases rr
    obtain ⟨t,rfl⟩:=r
    exact call_range_1 (range_it I1 (by omega) (by omega) q1 q2 (by simpa using q))
def tFor (wi:TI) (g:TG) (tb:TS):TS:=fun D σ H=>wi σ H fun J H1=>∃ W:Nat->Nat->St->Hp->Prop,(∃ m,W 0 m σ H1)/\∀ i m σ H,W i m σ H →
  (J.stop i H/\D.nx σ H) ∨ (J.go i H/\∃ N:St->Hp->Prop,(∀ σ' H',N σ' H'->∃ m',m' < m/\W (i + 1) m' σ' H')/\∀ x H',J.yld i H x H'->g x σ H' fun σ2 H2=>tb { D with nx:=N,ct:=N,bk:=D.nx } σ2 H2)
def pinsAt (fp:List Addr) (h:Heap):List (Addr × Obj):=fp.filterMap fun b=>(h.get? b).map fun o=>(b,o)
theorem mem_pinsAt {fp:List Addr}{h:Heap}{b:Addr}{o:Obj} (hb:b∈fp) (e:h.get? b=some o):(b,o)∈pinsAt fp h:=List.mem_filterMap.mpr ⟨b,hb,by rw [e];rfl⟩
theorem of_pinsAt {fp:List Addr}{h:Heap}{p:Addr × Obj} (hp:p∈pinsAt fp h):p.1∈fp/\h.get? p.1=some p.2:=by
  obtain ⟨b,hb,e⟩:=List.mem_filterMap.mp hp
  cases q:h.get? b with
  | none=>rw [q] at e;cases e
  | some o =>
    rw [q] at e
    have e':(b,o)=p:=Option.some.inj e
    subst e'
    exact ⟨hb,q⟩
theorem Inv.pinned {pins:List (Addr × Obj)}{σ:St}{H:Hp}{s:Shared}{fp:List Addr} (I:Inv X pins σ H s) (hf:∀ b∈fp,FpOk X pins H b) (ho:∀ b∈fp,∃ o,s.heap.get? b=some o/\∀ v,o.data≠.cell v):Inv X (pins++pinsAt fp s.heap) σ H s :=
  I.pins_of fun p hp=>(List.mem_append.mp hp).elim (fun z=>I.pin p (List.mem_append_right _ z)) fun z=>by
    obtain ⟨hb,e⟩:=of_pinsAt z
    obtain ⟨f0,f1,f2,_⟩:=hf p.1 hb
    obtain ⟨o,e',d⟩:=ho p.1 hb
    rw [e] at e';cases e'
    exact ⟨e,f0,f1,f2,d⟩
theorem Inv.unpinned {pins pl:List (Addr × Obj)}{σ:St}{H:Hp}{s:Shared} (I:Inv X (pins++pl) σ H s):Inv X pins σ H s:=I.pins_of fun p hp=>I.pin p (List.mem_append_right _ (List.mem_append_left _ hp))
theorem ps_for {iter:Expr}{body:List Stmt}{wi:TI}{g:TG}{tb:TS}{pos:Pos} (hp:PassesOwn (model X.prog X.w) X.A X.env X.xe) (hc:X.calm=true) (hi:PI X tg iter wi) (hg:PG X tg g) (hb:PSs X body tb)
    (hs:∀ x,foldedSetIterable iter X.env x=pure x:=by intro _;rfl):PS X (.For tg iter body [] pos) (tFor wi g tb):=by
  intro pins s σ H D I h
  refine wpAny_For (thn (hi pins s σ H _ I h) fun v s1 h1=>thn h1 fun itv s2 h2=>?_) hs
  obtain ⟨it,fp,tn,J,H2,e,I2,T,st2,f2,W,⟨m0,w0⟩,turn⟩:=h2
  subst e
  -- what stays true of the iterator's objects through the loop
  have stat:∀ {H':Hp},(∀ b∈fp,H' b=none)->∀ b∈fp,FpOk X pins H' b:=fun hn b hb=>⟨hn b hb,(f2 b hb).2⟩
  refine codeAny_forLoop_any (fun n s'=>∃ i σ' H',Inv X pins σ' H' s'/\tn i s'.heap/\(∀ b∈fp,H' b=none)/\W i n σ' H') ?_ m0 ⟨0,σ,H2,I2,st2,fun b hb=>(f2 b hb).1,w0⟩
  rintro n s3 ⟨i,σ3,H3,I3,st3,fr3,w3⟩
  rcases turn i n σ3 H3 w3 with ⟨stop,qn⟩ | ⟨go,N,hN,step⟩
  · refine wpAny_passesOwn hp (thn (T.done X rfl rfl rfl hc i pins s3 σ3 H3 X.xe I3 (stat fr3) st3 stop) fun r s4 ⟨hr,I4⟩=>?_)
    subst hr
    exact wpAny_execs_nil ⟨σ3,H3,I4,qn⟩
  · refine wpAny_passesOwn hp (thn (T.item X rfl rfl rfl hc i pins s3 σ3 H3 X.xe I3 (stat fr3) st3 go) fun r s4 ⟨u,hr,h4⟩=>?_)
    subst hr
    refine wpAny_passesOwn hp (thn h4 fun _ s5 ⟨x,H5,I5,r5,y5,st5,fr5⟩=>?_)
    have I5':=I5.pinned (stat fr5) (T.obj _ _ st5)
    refine wpAny_passesOwn hp (thn (hg _ s5 σ3 H5 x u _ I5' r5 (step x H5 y5)) fun _ s6 ⟨σ6,H6,I6,q6⟩=>?_)
    refine wpAny_passesOwn hp (thn (hb _ s6 σ6 H6 _ I6 q6) fun f s7 q7=>?_)
    have again:∀ {σ7:St}{H7:Hp},Inv X (pins++pinsAt fp s5.heap) σ7 H7 s7->N σ7 H7->∃ m,m < n/\∃ i σ' H',Inv X pins σ' H' s7/\tn i s7.heap/\(∀ b∈fp,H' b=none)/\W i m σ' H':=fun {σ7 H7} I7 n7=>by
      obtain ⟨m',hm,w7⟩:=hN σ7 H7 n7
      refine ⟨m',hm,i + 1,σ7,H7,I7.unpinned,T.keep _ _ _ st5 fun b hb o e=>(I7.pin (b,o) (List.mem_append_right _ (List.mem_append_right _ (mem_pinsAt hb e)))).1,fun b hb=>?_,w7⟩
      obtain ⟨o,e,d⟩:=T.obj _ _ st5 b hb
      exact (I7.pin (b,o) (List.mem_append_right _ (List.mem_append_right _ (mem_pinsAt hb e)))).2.1
    cases f with
    | next=>obtain ⟨σ7,H7,I7,n7⟩:=q7;exact again I7 n7
    | cont=>obtain ⟨σ7,H7,I7,n7⟩:=q7;exact again I7 n7
    | brk=>obtain ⟨σ7,H7,I7,q7⟩:=q7;exact ⟨σ7,H7,I7.unpinned,q7⟩
    | ret v=>obtain ⟨x7,σ7,H7,I7,r7,q7⟩:=q7;exact ⟨x7,σ7,H7,I7.unpinned,r7,q7⟩
end

theorem for_list {K:PySem.W.Frag}{a:Addr}{xs:List V}{g:TG}{tb:TS}{D:Ends}{σ:St}{H:Hp} (Pv:Nat->St->Hp->Prop) (h0:Pv 0 σ H) (hl:∀ i σ H,i<=xs.length->Pv i σ H->SqL K H a xs)
    (hs:∀ i x σ H,xs[i]?=some x->Pv i σ H->g x σ H fun σ2 H2=>tb { D with nx:=Pv (i + 1),ct:=Pv (i + 1),bk:=D.nx } σ2 H2) (hd:∀ σ H,Pv xs.length σ H->D.nx σ H) :
    ∃ W:Nat->Nat->St->Hp->Prop,(∃ m,W 0 m σ H)/\∀ i m σ H,W i m σ H →
      ((Itl K a).stop i H/\D.nx σ H) ∨ ((Itl K a).go i H/\∃ N:St->Hp->Prop,(∀ σ' H',N σ' H'->∃ m',m' < m/\W (i + 1) m' σ' H')/\∀ x H',(Itl K a).yld i H x H'->g x σ H' fun σ2 H2=>tb { D with nx:=N,ct:=N,bk:=D.nx } σ2 H2):=by
  refine ⟨fun i m σ H=>m=xs.length - i/\i<=xs.length/\Pv i σ H,⟨xs.length,by simp,Nat.zero_le _,h0⟩,?_⟩
  rintro i m σ H ⟨rfl,hi,p⟩
  have q:=hl i σ H hi p
  by_cases hlt:i < xs.length
  · refine .inr ⟨⟨xs,xs[i],q,by simp [hlt]⟩,Pv (i + 1),fun σ' H' p'=>⟨xs.length - (i + 1),by omega,rfl,hlt,p'⟩,fun x H' y=>?_⟩
    obtain ⟨e,y⟩:=y
    subst e
    exact hs i x σ _ (y xs q) p
  · have e:i=xs.length:=by omega
    subst e
    exact .inl ⟨⟨xs,q,Nat.le_refl _⟩,hd σ H p⟩
theorem for_tup {K:PySem.W.Frag}{a:Addr}{xs:List V}{g:TG}{tb:TS}{D:Ends}{σ:St}{H:Hp} (Pv:Nat->St->Hp->Prop) (h0:Pv 0 σ H) (hl:∀ i σ H,i<=xs.length->Pv i σ H->SqT K H a xs)
    (hs:∀ i x σ H,xs[i]?=some x->Pv i σ H->g x σ H fun σ2 H2=>tb { D with nx:=Pv (i + 1),ct:=Pv (i + 1),bk:=D.nx } σ2 H2) (hd:∀ σ H,Pv xs.length σ H->D.nx σ H) :
    ∃ W:Nat->Nat->St->Hp->Prop,(∃ m,W 0 m σ H)/\∀ i m σ H,W i m σ H →
      ((Itt K a).stop i H/\D.nx σ H) ∨ ((Itt K a).go i H/\∃ N:St->Hp->Prop,(∀ σ' H',N σ' H'->∃ m',m' < m/\W (i + 1) m' σ' H')/\∀ x H',(Itt K a).yld i H x H'->g x σ H' fun σ2 H2=>tb { D with nx:=N,ct:=N,bk:=D.nx } σ2 H2):=by
  refine ⟨fun i m σ H=>m=xs.length - i/\i<=xs.length/\Pv i σ H,⟨xs.length,by simp,Nat.zero_le _,h0⟩,?_⟩
  rintro i m σ H ⟨rfl,hi,p⟩
  have q:=hl i σ H hi p
  by_cases hlt:i < xs.length
  · refine .inr ⟨⟨xs,xs[i],q,by simp [hlt]⟩,Pv (i + 1),fun σ' H' p'=>⟨xs.length - (i + 1),by omega,rfl,hlt,p'⟩,fun x H' y=>?_⟩
    obtain ⟨e,y⟩:=y
    subst e
    exact hs i x σ _ (y xs q) p
  · have e:i=xs.length:=by omega
    subst e
    exact .inl ⟨⟨xs,q,Nat.le_refl _⟩,hd σ H p⟩
theorem for_range {lo:Int}{n:Nat}{g:TG}{tb:TS}{D:Ends}{σ:St}{H:Hp} (Pv:Nat->St->Hp->Prop) (h0:Pv 0 σ H)
    (hs:∀ i σ H,i < n->Pv i σ H->g (.int (lo + i)) σ H fun σ2 H2=>tb { D with nx:=Pv (i + 1),ct:=Pv (i + 1),bk:=D.nx } σ2 H2) (hd:∀ σ H,Pv n σ H->D.nx σ H) :
    ∃ W:Nat->Nat->St->Hp->Prop,(∃ m,W 0 m σ H)/\∀ i m σ H,W i m σ H →
      ((Itr lo n).stop i H/\D.nx σ H) ∨ ((Itr lo n).go i H/\∃ N:St->Hp->Prop,(∀ σ' H',N σ' H'->∃ m',m' < m/\W (i + 1) m' σ' H')/\∀ x H',(Itr lo n).yld i H x H'->g x σ H' fun σ2 H2=>tb { D with nx:=N,ct:=N,bk:=D.nx } σ2 H2):=by
  refine ⟨fun i m σ H=>m=n - i/\i<=n/\Pv i σ H,⟨n,by simp,Nat.zero_le _,h0⟩,?_⟩
  rintro i m σ H ⟨rfl,hi,p⟩
  by_cases hlt:i < n
  · refine .inr ⟨hlt,Pv (i + 1),fun σ' H' p'=>⟨n - (i + 1),by omega,rfl,hlt,p'⟩,fun x H' y=>?_⟩
    obtain ⟨e,y⟩:=y
    subst e y
    exact hs i σ _ hlt p
  · have e:i=n:=by omega
    subst e
    exact .inl ⟨Nat.le_refl _,hd σ H p⟩
end L2

namespace L2
open PySem PySem.Spec PyProof.Rows

abbrev R2:=V->V->Hp->VK->Prop
def OpR (X:Cx) (f:Value->Value->Sem Value) (r:R2):Prop :=
  ∀ (pins:List (Addr × Obj)) (s:Shared) (σ:St) (H:Hp) (x y:V) (v u:Value) (Q:VK),Inv X pins σ H s->RelV x v->RelV y u->r x y H Q →
    wpAny (model X.prog X.w) X.A (f v u) (EP X pins σ Q) X.xe s
def CallR (X:Cx) (f:Value) (r:List V->Hp->VK->Prop):Prop :=
  ∀ (pins:List (Addr × Obj)) (s:Shared) (σ:St) (H:Hp) (xs:List V) (us:List Value) (Q:VK),Inv X pins σ H s->Vals xs us->r xs H Q →
    wpAny (model X.prog X.w) X.A (call f us) (EP X pins σ Q) X.xe s
def tOp (r:R2) (ta tb:TE):TE:=fun σ H Q=>ta σ H fun x H1=>tb σ H1 fun y H2=>r x y H2 Q
def rI (C:Int->Int->Prop) (g:Int->Int->V):R2:=fun x y H Q=>∃ i j,x=.int i/\y=.int j/\C i j/\Q (g i j) H
def rI0 (g:Int->Int->V):R2:=fun x y H Q=>∃ i j,x=.int i/\y=.int j/\Q (g i j) H
def rU (g:Int->V):V->Hp->VK->Prop:=fun x H Q=>∃ i,x=.int i/\Q (g i) H

section
variable {X:Cx}{a b c:Expr}{ta tb tc:TE}{pos:Pos}

theorem binT (ha:PE X a ta) (hb:PE X b tb) {pins:List (Addr × Obj)}{s:Shared}{σ:St}{H:Hp}{R:V->V->Hp->Prop} (I:Inv X pins σ H s)
    (h:ta σ H fun x H1=>tb σ H1 fun y H2=>R x y H2) {Q:Value->Shared->Prop}{f:Value->Value->Sem Value}
    (hf:∀ v u s2 x y H2,Inv X pins σ H2 s2->RelV x v->RelV y u->R x y H2->wpAny (model X.prog X.w) X.A (f v u) Q X.xe s2) :
    wpAny (model X.prog X.w) X.A (eval a X.env) (fun v s₁=>wpAny (model X.prog X.w) X.A (eval b X.env) (fun u s₂=>wpAny (model X.prog X.w) X.A (f v u) Q X.xe s₂) X.xe s₁) X.xe s:=by
  refine thn (ha pins s σ H _ I h) fun v s1 ⟨x,H1,I1,r1,q1⟩=>?_
  refine thn (hb pins s1 σ H1 _ I1 q1) fun u s2 ⟨y,H2,I2,r2,q2⟩=>?_
  exact hf v u s2 x y H2 I2 r1 r2 q2

theorem pe_op {op:Operator}{r:R2} (ho:OpR X (binaryOp op) r) (ha:PE X a ta) (hb:PE X b tb):PE X (.BinOp a op b pos) (tOp r ta tb):=by
  intro pins s σ H Q I h
  exact wpAny_BinOp (binT ha hb I h fun v u s2 x y H2 I2 rx ry q=>ho pins s2 σ H2 x y v u Q I2 rx ry q)
theorem opI {f:Value->Value->Sem Value}{C:Int->Int->Prop}{g:Int->Int->Int}
    (rule:∀ (i j:Int) (t u:Tok) (s:Shared) (Q:Value->Shared->Prop) (E:Value->Shared->Prop),C i j->Q (.int (g i j) s.toks) { s with toks:=s.toks + 1 }->wpAny (model X.prog X.w) X.A (f (.int i t) (.int j u)) Q E s) :
    OpR X f (rI C fun i j=>.int (g i j)):=by
  intro pins s σ H x y v u Q I rx ry h
  obtain ⟨i,j,rfl,rfl,hc,q⟩:=h
  obtain ⟨t,rfl⟩:=rx
  obtain ⟨t',rfl⟩:=ry
  exact rule i j t t' s _ _ hc ⟨.int (g i j),H,I.tok _,⟨_,rfl⟩,q⟩
theorem opI0 {f:Value->Value->Sem Value}{g:Int->Int->Int}
    (rule:∀ (i j:Int) (t u:Tok) (s:Shared) (Q:Value->Shared->Prop) (E:Value->Shared->Prop),Q (.int (g i j) s.toks) { s with toks:=s.toks + 1 }->wpAny (model X.prog X.w) X.A (f (.int i t) (.int j u)) Q E s) :
    OpR X f (rI0 fun i j=>.int (g i j)):=by
  intro pins s σ H x y v u Q I rx ry h
  obtain ⟨i,j,rfl,rfl,q⟩:=h
  obtain ⟨t,rfl⟩:=rx
  obtain ⟨t',rfl⟩:=ry
  exact rule i j t t' s _ _ ⟨.int (g i j),H,I.tok _,⟨_,rfl⟩,q⟩
theorem opB0 {f:Value->Value->Sem Value}{g:Int->Int->Bool}
    (rule:∀ (i j:Int) (t u:Tok) (s:Shared) (Q:Value->Shared->Prop) (E:Value->Shared->Prop),Q (.bool (g i j)) s->wpAny (model X.prog X.w) X.A (f (.int i t) (.int j u)) Q E s) :
    OpR X f (rI0 fun i j=>.bl (g i j)):=by
  intro pins s σ H x y v u Q I rx ry h
  obtain ⟨i,j,rfl,rfl,q⟩:=h
  obtain ⟨t,rfl⟩:=rx
  obtain ⟨t',rfl⟩:=ry
  exact rule i j t t' s _ _ ⟨.bl (g i j),H,I,rfl,q⟩

def CPow (i j:Int):Prop:=0<=j/\j<=1000000/\i.natAbs < 2 ^ 64
def CMul (i j:Int):Prop:=(-(2 ^ 64) < i/\i < 2 ^ 64) ∨ (-(2 ^ 64) < j/\j < 2 ^ 64)
theorem CMul.ok {i j:Int} (h:CMul i j):IntMulOk i j:=by
  rcases h with ⟨h1,h2⟩ | ⟨h1,h2⟩
  · exact .of_left (intBits_le_64 h1 h2)
  · exact .of_right (intBits_le_64 h1 h2)
theorem op_add:OpR X (binaryOp .Add) (rI0 fun i j=>.int (i + j)):=opI0 fun _ _ _ _ _ _ _ q=>add_int q
theorem op_sub:OpR X (binaryOp .Sub) (rI0 fun i j=>.int (i - j)):=opI0 fun _ _ _ _ _ _ _ q=>sub_int q
theorem op_mod:OpR X (binaryOp .Mod) (rI (fun _ j=>0 < j) fun i j=>.int (i % j)):=opI fun i j _ _ _ _ _ hc q=>by
  have h1:(0:Int) < j:=hc
  exact mod_int' (by omega) (by rw [Int.fmod_eq_emod_of_nonneg i (by omega)];exact q)
theorem op_pow:OpR X (binaryOp .Pow) (rI CPow fun i j=>.int (i ^ j.toNat)):=opI fun _ _ _ _ _ _ _ hc q=>pow_int_small hc.1 hc.2.1 hc.2.2 q
end

def scal:V->V->Bool
  | .non,.non=>true | .non,.int _=>true | .int _,.non=>true | .non,.bl _=>true | .bl _,.non=>true | .non,.str _=>true | .str _,.non=>true
  | .int _,.int _=>true | .bl _,.bl _=>true | .str _,.str _=>true | .byt _,.byt _=>true
  | .int _,.str _=>true | .str _,.int _=>true | .bl _,.str _=>true | .str _,.bl _=>true
  | _,_=>false
def rEq:R2:=fun x y H Q=>scal x y=true/\Q (.bl (decide (x=y))) H
def rNe:R2:=fun x y H Q=>scal x y=true/\Q (.bl (!decide (x=y))) H

theorem dec_int {i j:Int}:decide (V.int i=V.int j)=(i == j):=by
  rw [Bool.eq_iff_iff]
  simp
theorem dec_bl {i j:Bool}:decide (V.bl i=V.bl j)=(i == j):=by
  rw [Bool.eq_iff_iff]
  simp
theorem dec_str {i j:Str}:decide (V.str i=V.str j)=(i == j):=by
  rw [Bool.eq_iff_iff]
  simp
theorem dec_byt {i j:Array UInt8}:decide (V.byt i=V.byt j)=(i.toList == j.toList):=by
  rw [Bool.eq_iff_iff]
  cases i
  cases j
  simp

section
variable {X:Cx}{a b c:Expr}{ta tb tc:TE}{pos:Pos}
theorem fin_bl {pins:List (Addr × Obj)}{σ:St}{H:Hp}{s:Shared}{Q:VK}{k k':Bool} (I:Inv X pins σ H s) (q:Q (.bl k) H) (e:k=k'):EP X pins σ Q (.bool k') s:=by
  subst e
  exact ⟨.bl k,H,I,rfl,q⟩
theorem op_eq:OpR X (compareOp .Eq) rEq:=by
  intro pins s σ H x y v u Q I rx ry h
  obtain ⟨hs,q⟩:=h
  cases x with
  | non =>
    cases rx
    cases y with
    | non=>cases ry;exact PySem.EqNone.eq_none_none (fin_bl I q (by simp))
    | bl j=>cases ry;exact PySem.EqNone.eq_none_bool (fin_bl I q (by simp))
    | int j=>obtain ⟨t',rfl⟩:=ry;exact PySem.EqNone.eq_none_int (fin_bl I q (by simp))
    | str j=>obtain ⟨t',rfl⟩:=ry;exact PySem.EqNone.eq_none_str (fin_bl I q (by simp))
    | _=>exact absurd (show false=true from hs) Bool.false_ne_true
  | bl i =>
    cases rx
    cases y with
    | non=>cases ry;exact PySem.EqNone.eq_bool_none (fin_bl I q (by simp))
    | bl j=>cases ry;exact eq_bool (fin_bl I q dec_bl)
    | str j=>obtain ⟨t',rfl⟩:=ry;exact PySem.EqMixed.eq_bool_str (fin_bl I q (by simp))
    | _=>exact absurd (show false=true from hs) Bool.false_ne_true
  | int i =>
    obtain ⟨t,rfl⟩:=rx
    cases y with
    | non=>cases ry;exact PySem.EqNone.eq_int_none (fin_bl I q (by simp))
    | int j=>obtain ⟨t',rfl⟩:=ry;exact eq_int (fin_bl I q dec_int)
    | str j=>obtain ⟨t',rfl⟩:=ry;exact PySem.EqMixed.eq_int_str (fin_bl I q (by simp))
    | _=>exact absurd (show false=true from hs) Bool.false_ne_true
  | str i =>
    obtain ⟨t,rfl⟩:=rx
    cases y with
    | non=>cases ry;exact PySem.EqNone.eq_str_none (fin_bl I q (by simp))
    | bl j=>cases ry;exact PySem.EqMixed.eq_str_bool (fin_bl I q (by simp))
    | int j=>obtain ⟨t',rfl⟩:=ry;exact PySem.EqMixed.eq_str_int (fin_bl I q (by simp))
    | str j=>obtain ⟨t',rfl⟩:=ry;exact eq_str (fin_bl I q dec_str)
    | _=>exact absurd (show false=true from hs) Bool.false_ne_true
  | byt i =>
    obtain ⟨t,rfl⟩:=rx
    cases y with
    | byt j=>obtain ⟨t',rfl⟩:=ry;exact PySem.W.eq_bytes (fin_bl I q dec_byt)
    | _=>exact absurd (show false=true from hs) Bool.false_ne_true
  | _=>cases y <;> exact absurd (show false=true from hs) Bool.false_ne_true
theorem op_ne:OpR X (compareOp .NotEq) rNe:=by
  intro pins s σ H x y v u Q I rx ry h
  obtain ⟨hs,q⟩:=h
  cases x with
  | non =>
    cases rx
    cases y with
    | non=>cases ry;exact PySem.EqNone.ne_none_none (fin_bl I q (by simp))
    | bl j=>cases ry;exact PySem.EqNone.ne_none_bool (fin_bl I q (by simp))
    | int j=>obtain ⟨t',rfl⟩:=ry;exact PySem.EqNone.ne_none_int (fin_bl I q (by simp))
    | str j=>obtain ⟨t',rfl⟩:=ry;exact PySem.EqNone.ne_none_str (fin_bl I q (by simp))
    | _=>exact absurd (show false=true from hs) Bool.false_ne_true
  | bl i =>
    cases rx
    cases y with
    | non=>cases ry;exact PySem.EqNone.ne_bool_none (fin_bl I q (by simp))
    | bl j=>cases ry;exact ne_bool (fin_bl I q (congrArg not dec_bl))
    | str j=>obtain ⟨t',rfl⟩:=ry;exact PySem.EqMixed.ne_bool_str (fin_bl I q (by simp))
    | _=>exact absurd (show false=true from hs) Bool.false_ne_true
  | int i =>
    obtain ⟨t,rfl⟩:=rx
    cases y with
    | non=>cases ry;exact PySem.EqNone.ne_int_none (fin_bl I q (by simp))
    | int j=>obtain ⟨t',rfl⟩:=ry;exact ne_int (fin_bl I q (congrArg not dec_int))
    | str j=>obtain ⟨t',rfl⟩:=ry;exact PySem.EqMixed.ne_int_str (fin_bl I q (by simp))
    | _=>exact absurd (show false=true from hs) Bool.false_ne_true
  | str i =>
    obtain ⟨t,rfl⟩:=rx
    cases y with
    | non=>cases ry;exact PySem.EqNone.ne_str_none (fin_bl I q (by simp))
    | bl j=>cases ry;exact PySem.EqMixed.ne_str_bool (fin_bl I q (by simp))
    | int j=>obtain ⟨t',rfl⟩:=ry;exact PySem.EqMixed.ne_str_int (fin_bl I q (by simp))
    | str j=>obtain ⟨t',rfl⟩:=ry;exact ne_str (fin_bl I q (congrArg not dec_str))
    | _=>exact absurd (show false=true from hs) Bool.false_ne_true
  | byt i =>
    obtain ⟨t,rfl⟩:=rx
    cases y with
    | byt j=>obtain ⟨t',rfl⟩:=ry;exact PySem.W.ne_bytes (fin_bl I q (congrArg not dec_byt))
    | _=>exact absurd (show false=true from hs) Bool.false_ne_true
  | _=>cases y <;> exact absurd (show false=true from hs) Bool.false_ne_true

theorem op_lt:OpR X (compareOp .Lt) (rI0 fun i j=>.bl (decide (i < j))):=opB0 fun _ _ _ _ _ _ _ q=>lt_int q
theorem op_le:OpR X (compareOp .LtE) (rI0 fun i j=>.bl (decide (i<=j))):=opB0 fun _ _ _ _ _ _ _ q=>le_int q
theorem op_gt:OpR X (compareOp .Gt) (rI0 fun i j=>.bl (decide (j < i))):=opB0 fun _ _ _ _ _ _ _ q=>gt_int q
theorem op_in_str:OpR X (compareOp .In) (fun x y H Q=>∃ i j,x=.str i/\y=.str j/\Q (.bl (!(Builtin.Str.occurrences j i 0 j.length 1).isEmpty)) H):=by
  intro pins s σ H x y v u Q I rx ry h
  obtain ⟨i,j,rfl,rfl,q⟩:=h
  obtain ⟨t,rfl⟩:=rx
  obtain ⟨t',rfl⟩:=ry
  exact in_str (fin_bl I q rfl)

theorem op_isN:OpR X (compareOp .Is) (fun x y H Q=>y=.non/\Q (.bl (decide (x=.non))) H):=by
  intro pins s σ H x y v u Q I rx ry h
  obtain ⟨rfl,q⟩:=h
  cases ry
  refine is_none_gen (fin_bl I q ?_)
  cases x <;> first
    | (cases rx;rfl)
    | (obtain ⟨t,rfl⟩:=rx;rfl)
theorem op_notN:OpR X (compareOp .IsNot) (fun x y H Q=>y=.non/\Q (.bl (!decide (x=.non))) H):=by
  intro pins s σ H x y v u Q I rx ry h
  obtain ⟨rfl,q⟩:=h
  cases ry
  refine isnot_none_gen (fin_bl I q ?_)
  cases x <;> first
    | (cases rx;rfl)
    | (obtain ⟨t,rfl⟩:=rx;rfl)

theorem op_notin_str:OpR X (compareOp .NotIn) (fun x y H Q=>∃ i j,x=.str i/\y=.str j/\Q (.bl (!(!(Builtin.Str.occurrences j i 0 j.length 1).isEmpty))) H):=by
  intro pins s σ H x y v u Q I rx ry h
  obtain ⟨i,j,rfl,rfl,q⟩:=h
  obtain ⟨t,rfl⟩:=rx
  obtain ⟨t',rfl⟩:=ry
  exact notIn_str (fin_bl I q rfl)
theorem OpR.or {f:Value->Value->Sem Value}{r r':R2} (h:OpR X f r) (h':OpR X f r'):OpR X f (fun x y H Q=>r x y H Q ∨ r' x y H Q):=by
  intro pins s σ H x y v u Q I rx ry q
  rcases q with q | q
  · exact h pins s σ H x y v u Q I rx ry q
  · exact h' pins s σ H x y v u Q I rx ry q

theorem nomark (b:Expr) {op:CmpOp} (h:op≠.In:=by decide) (h2:op≠.NotIn:=by decide):behindInMarks op b=false:=by
  have e1:(op == CmpOp.In)=false:=by cases op <;> first | rfl | exact absurd rfl h
  have e2:(op == CmpOp.NotIn)=false:=by cases op <;> first | rfl | exact absurd rfl h2
  cases b <;> simp [behindInMarks,e1,e2]
theorem pe_cmpR {op:CmpOp}{r:R2} (ho:OpR X (compareOp op) r) (ha:PE X a ta) (hb:PE X b tb) (hm:behindInMarks op b=false):PE X (.Compare a [op] [b] pos) (tOp r ta tb):=by
  intro pins s σ H Q I h
  exact wpAny_Compare1 (binT ha hb I h fun v u s2 x y H2 I2 rx ry q=>ho pins s2 σ H2 x y v u Q I2 rx ry q) hm
def tTest (t:TE):TT:=fun σ H Q=>t σ H fun x H'=>∃ k,x=.bl k/\Q k H'
theorem pt_cmpR {op:CmpOp}{r:R2} (ho:OpR X (compareOp op) r) (ha:PE X a ta) (hb:PE X b tb) (hm:behindInMarks op b=false):PT X (.Compare a [op] [b] pos) (tTest (tOp r ta tb)):=by
  intro pins s σ H Q I h
  refine wpAny_isTrue_Compare1 (thn (ha pins s σ H _ I h) fun v s1 ⟨x,H1,I1,r1,q1⟩=>thn (hb pins s1 σ H1 _ I1 q1) fun u s2 ⟨y,H2,I2,r2,q2⟩ =>
    thn (ho pins s2 σ H2 x y v u _ I2 r1 r2 q2) fun c s3 ⟨z,H3,I3,r3,k,e,q3⟩=>?_) hm
  subst e
  cases r3
  exact wpAny_truthy_bool ⟨H3,I3,q3⟩
def tChain (r r':R2) (ta tb tc:TE):TE:=fun σ H Q=>ta σ H fun x H1=>tb σ H1 fun y H2=>r x y H2 fun z H3=>∃ k,z=.bl k ∧
  (if k=true then tc σ H3 fun w' H4=>r' y w' H4 Q else Q (.bl false) H3)
theorem pe_chain {op op':CmpOp}{r r':R2} (ho:OpR X (compareOp op) r) (ho':OpR X (compareOp op') r') (ha:PE X a ta) (hb:PE X b tb) (hc:PE X c tc)
    (hm:lastMarks [op,op'] [b,c]=false:=by with_unfolding_all rfl):PE X (.Compare a [op,op'] [b,c] pos) (tChain r r' ta tb tc):=by
  intro pins s σ H Q I h
  refine Compare_chain (thn (ha pins s σ H _ I h) fun v s1 ⟨x,H1,I1,r1,q1⟩=>chain_link (thn (hb pins s1 σ H1 _ I1 q1) fun u s2 ⟨y,H2,I2,r2,q2⟩ =>
    thn (ho pins s2 σ H2 x y v u _ I2 r1 r2 q2) fun d s3 ⟨z,H3,I3,r3,k,e,q3⟩=>?_)) hm
  subst e
  cases r3
  refine wpAny_truthy_bool ?_
  cases k with
  | false=>exact ite_ff ⟨.bl false,H3,I3,rfl,q3⟩
  | true=>exact ite_tt (chain_last (thn (hc pins s3 σ H3 _ I3 q3) fun w' s4 ⟨z',H4,I4,r4,q4⟩=>ho' pins s4 σ H4 y z' u w' Q I4 r2 r4 q4))
theorem pt_chain {op op':CmpOp}{r r':R2} (ho:OpR X (compareOp op) r) (ho':OpR X (compareOp op') r') (ha:PE X a ta) (hb:PE X b tb) (hc:PE X c tc)
    (hm:lastMarks [op,op'] [b,c]=false:=by with_unfolding_all rfl):PT X (.Compare a [op,op'] [b,c] pos) (tTest (tChain r r' ta tb tc)):=by
  intro pins s σ H Q I h
  refine isTrue_chain (thn (ha pins s σ H _ I h) fun v s1 ⟨x,H1,I1,r1,q1⟩=>test_link (thn (hb pins s1 σ H1 _ I1 q1) fun u s2 ⟨y,H2,I2,r2,q2⟩ =>
    thn (ho pins s2 σ H2 x y v u _ I2 r1 r2 q2) fun d s3 ⟨z,H3,I3,r3,k,e,q3⟩=>?_)) hm
  subst e
  cases r3
  refine wpAny_truthy_bool ?_
  cases k with
  | false =>
    obtain ⟨k',e',q'⟩:=q3
    cases e'
    exact ite_ff ⟨H3,I3,q'⟩
  | true =>
    refine ite_tt (test_last (thn (hc pins s3 σ H3 _ I3 q3) fun w' s4 ⟨z',H4,I4,r4,q4⟩=>thn (ho' pins s4 σ H4 y z' u w' _ I4 r2 r4 q4) fun d' s5 ⟨z2,H5,I5,r5,k2,e2,q5⟩=>?_))
    subst e2
    cases r5
    exact wpAny_truthy_bool ⟨H5,I5,q5⟩

theorem line63:(sizeLine:Nat) < 2 ^ 63:=by rw [sizeLine_eq];decide
theorem op_add_str:OpR X (binaryOp .Add) (fun x y H Q=>∃ i j,x=.str i/\y=.str j/\i.length + j.length<=sizeLine/\Q (.str (i++j)) H):=by
  intro pins s σ H x y v u Q I rx ry h
  obtain ⟨i,j,rfl,rfl,hz,q⟩:=h
  obtain ⟨t,rfl⟩:=rx
  obtain ⟨t',rfl⟩:=ry
  exact add_str (fun t' tk=>⟨.str (i++j),H,I.tok _,⟨_,rfl⟩,q⟩) hz
theorem vals1 {x:V}{us:List Value} (r:Vals [x] us):∃ u,us=[u]/\RelV x u:=by
  cases r with
  | cons r1 r2=>cases r2;exact ⟨_,rfl,r1⟩
theorem vals2 {x y:V}{us:List Value} (r:Vals [x,y] us):∃ u w',us=[u,w']/\RelV x u/\RelV y w':=by
  cases r with
  | cons r1 r2 =>
    cases r2 with
    | cons r3 r4=>cases r4;exact ⟨_,_,rfl,r1,r3⟩
end
end L2

namespace L2
open PySem PySem.Spec PyProof.Rows

structure ObjM (h:Heap) (x dx C:Addr) (mA:Str->Option Value):Prop where
  obj:h.get? x=some (PySem.W.instObj C dx)
  ns:h.Ns1 dx mA
  ne:dx≠x

theorem lookIn_ns {h:Heap}{dx:Addr}{mA:Str->Option Value} (n:h.Ns1 dx mA):∃ od,h.get? dx=some od/\∀ name,PySem.W.lookIn name od=some (mA name):=by
  obtain ⟨o,es,ep,ho,hd,hk,_,hm⟩:=n
  refine ⟨o,ho,fun name=>?_⟩
  have e:=hm name
  unfold nsFind findBy at e
  rw [← Array.find?_toList] at e
  unfold PySem.W.lookIn
  rw [hd]
  dsimp only
  split
  · rename_i y q
    rw [q] at e
    exact congrArg some e
  · rename_i q
    rw [q] at e
    have a:es.toList.any (·.refKey)=false:=by
      rw [List.any_eq_false]
      intro y hy
      obtain ⟨z,t,hkey⟩:=hk y (Array.mem_toList_iff.mp hy)
      simp [DictEntry.refKey,hkey]
    have a':¬ es.toList.any (·.refKey)=true:=by rw [a];exact Bool.false_ne_true
    rw [if_neg a']
    exact congrArg some e

theorem ObjM.look {h:Heap}{x dx C:Addr}{mA:Str->Option Value} (I:ObjM h x dx C mA):∃ od,PySem.W.InstAt h x (PySem.W.instObj C dx) C (some od)/\∀ name,PySem.W.lookIn name od=some (mA name) :=
  let ⟨od,ho,hl⟩:=lookIn_ns I.ns
  ⟨od,⟨I.obj,rfl,rfl,ho⟩,hl⟩

section
variable {prog:Program}{w:World}{A:Around}{E:Value->Shared->Prop}{s:Shared}{K:PySem.W.Frag}{x dx C f:Addr}{mA:Str->Option Value}{name:Str}{v:Value}

theorem get_map {expr:Bool}{Q:Value->Shared->Prop} (X:K.In s.heap) (I:ObjM s.heap x dx C mA) (hg:PySem.W.plainGet K C name=true) (hh:PySem.W.hasDictIn K C=true)
    (ha:PySem.W.findIn K (.ref C) name=some none) (hv:mA name=some v) (hv':PySem.W.handedIn v=true) (h:Q v { s with toks:=s.toks + 1 }) :
    wpAny (model prog w) A (getAttr (.ref x) name expr) Q E s:=by
  obtain ⟨od,J,hl⟩:=I.look
  exact PySem.W.get_value X J (PySem.W.plainGet_of hg).1 (PySem.W.findObj_own hh ha rfl (by rw [hl,hv])) hv' h

theorem get_meth {pl:Sem Bool}{Q:Value × List Value->Shared->Prop} (X:K.In s.heap) (I:ObjM s.heap x dx C mA) (hg:PySem.W.plainGet K C name=true)
    (hf:PySem.W.findIn K (.ref C) name=some (some (.ref f))) (ht:PySem.W.isFn K (.ref f)=true) (hv:mA name=none) (h:Q (.ref f,[.ref x]) s) :
    wpAny (model prog w) A (getMethod (.ref x) name pl) Q E s:=by
  obtain ⟨od,J,hl⟩:=I.look
  exact PySem.W.method_fn X J (PySem.W.plainGet_of hg).1 (PySem.W.plainGet_of hg).2 hf (beq_iff_eq.mp ht) (by show (PySem.W.lookIn name od).map (·.isSome)=some false;rw [hl,hv];rfl) h

theorem set_map {ns:List Str}{Q:Unit->Shared->Prop} (X:K.In s.heap) (I:ObjM s.heap x dx C mA)
    (hs:PySem.W.findIn K (.ref C) "__setattr__"=some (some (.builtin "object.__setattr__"))) (hp:PySem.W.plainOver K C=true) (ht:PySem.W.takerIn K C name=some none) (hh:PySem.W.hasDictIn K C=true)
    (hw:PySem.Within mA ns) (hsz:ns.length<=sizeLine)
    (h:∀ h',ObjM h' x dx C (fun y=>if y=name then some v else mA y)->Heap.SameBut dx s.heap h'->Q () { s with heap:=h',toks:=s.toks + 2 }) :
    wpAny (model prog w) A (setAttr (.ref x) name v) Q E s:=by
  obtain ⟨od,J,hl⟩:=I.look
  refine PySem.W.set_plain X J hs (PySem.W.osa_open (s:={ s with toks:=s.toks + 1 }) (r:=none) X J hp ht fun b=>?_)
  obtain ⟨cd,hc,hd'⟩:=PySem.W.any_some hh
  have hx:s.heap.get? x=some ⟨.ref C,some dx,.plain,#[]⟩:=I.obj
  refine wpAny_bind (wpAny_pure (wpAny_bind (wpAny_bind (wpAny_loadPart hx (wpAny_bind (PySem.W.Looks.here (s:={ s with toks:=s.toks + 1 }) (PySem.W.looks_clsIn X hc) ?_))))))
  rw [hd']
  refine wpAny_pure (a:=some dx) (wpAny_bind (wpAny_pure (wpAny_bind ?_)))
  refine wpAny_nsSet1 (s:={ s with toks:=s.toks + 1 }) I.ns fun h' hn2 hs2=>?_
  obtain ⟨oD,esD,epD,hoD,hdD,hcD⟩:=hn2.count (PySem.Within.cons name v hw)
  refine wpAny_bind (wpAny_lookBehind hoD (by rw [hdD];exact pastItsLine_dict (Nat.le_trans hcD (by rw [List.length_cons];omega))) ?_)
  exact wpAny_pure (h _ ⟨(hs2.2 _ (Ne.symm I.ne)).trans I.obj,hn2,I.ne⟩ hs2)

theorem make_map {R:Result->Shared->Prop}{vs:List Value}{kw:List (Str × Value)} (X:K.In s.heap) (hm:PySem.W.makesIn K C=true)
    (hi:PySem.W.findIn K (.ref C) "__init__"=some (some (.ref f))) (hf:PySem.W.typeIn K (.ref f)=some (.type "function"))
    (h:codeAny (model prog w) (A.under (.builtin "type.__call__" ⟨.ref C::vs,kw⟩)) (.call (.ref f) ⟨.ref (s.heap.objs.size + 1)::vs,kw⟩) (PySem.W.InitBack (s.heap.objs.size + 1) R)
      { s with heap:=(s.heap.push PySem.W.emptyDict).push (PySem.W.instObj C s.heap.objs.size) }) :
    codeAny (model prog w) A (.call (.ref C) ⟨vs,kw⟩) R s:=by
  obtain ⟨hh,g,d,t,os⟩:=s
  exact PySem.W.make_core (PySem.W.makes_of X hm) (PySem.W.looks_findIn X hi) (fun self=>PySem.W.bind_fn X self hf) (.inl rfl) h
end

def putF (f:Str) (v:V):List (Str × V)->List (Str × V)
  | []=>[(f,v)]
  | (g,x)::r=>if g=f then (g,v)::r else (g,x)::putF f v r
theorem lookup_putF (f g:Str) (v:V):∀ fs:List (Str × V),(putF f v fs).lookup g=if g=f then some v else fs.lookup g
  | []=>by
    show List.lookup g [(f,v)]=_
    by_cases h:g=f
    · have hb:(g == f)=true:=beq_iff_eq.mpr h
      simp only [List.lookup,hb,if_pos h]
    · have hb:(g == f)=false:=beq_eq_false_iff_ne.mpr h
      simp only [List.lookup,hb,if_neg h]
  | (k,x)::r=>by
    have ih:=lookup_putF f g v r
    rw [show putF f v ((k,x)::r)=(if k=f then (k,v)::r else (k,x)::putF f v r) from rfl]
    by_cases hk:k=f
    · rw [if_pos hk]
      by_cases h:g=k
      · have hb:(g == k)=true:=beq_iff_eq.mpr h
        simp only [List.lookup,hb,if_pos (h.trans hk)]
      · have hb:(g == k)=false:=beq_eq_false_iff_ne.mpr h
        simp only [List.lookup,hb,if_neg (fun e:g=f=>h (e.trans hk.symm))]
    · rw [if_neg hk]
      by_cases h:g=k
      · have hb:(g == k)=true:=beq_iff_eq.mpr h
        simp only [List.lookup,hb,if_neg (fun e:g=f=>hk (h.symm.trans e))]
      · have hb:(g == k)=false:=beq_eq_false_iff_ne.mpr h
        simp only [List.lookup,hb]
        exact ih
theorem keys_putF (f:Str) (v:V):∀ fs:List (Str × V),f∈(putF f v fs).map (·.1)/\∀ g,g∈fs.map (·.1)->g∈(putF f v fs).map (·.1)
  | []=>⟨by simp [putF],fun g h=>by simp at h⟩
  | (k,x)::r=>by
    obtain ⟨i1,i2⟩:=keys_putF f v r
    rw [show putF f v ((k,x)::r)=(if k=f then (k,v)::r else (k,x)::putF f v r) from rfl]
    by_cases hk:k=f
    · rw [if_pos hk]
      subst hk
      exact ⟨by simp,fun g h=>by simpa using h⟩
    · rw [if_neg hk]
      refine ⟨?_,fun g h=>?_⟩
      · rw [List.map_cons]
        exact List.mem_cons_of_mem _ i1
      · rw [List.map_cons] at h ⊢
        rcases List.mem_cons.mp h with e | e
        · exact List.mem_cons.mpr (.inl e)
        · exact List.mem_cons_of_mem _ (i2 g e)
theorem length_putF (f:Str) (v:V):∀ fs:List (Str × V),(putF f v fs).length<=fs.length + 1
  | []=>by simp [putF]
  | (k,x)::r=>by
    have ih:=length_putF f v r
    rw [show putF f v ((k,x)::r)=(if k=f then (k,v)::r else (k,x)::putF f v r) from rfl]
    by_cases hk:k=f
    · rw [if_pos hk,List.length_cons,List.length_cons];omega
    · rw [if_neg hk,List.length_cons,List.length_cons];omega

theorem RelO.some_of {v:V}{o:Option Value} (r:RelO (some v) o):∃ u,o=some u/\RelV v u:=by
  cases o with
  | none=>exact (show False from r).elim
  | some u=>exact ⟨u,rfl,r⟩
theorem RelO.none_of {o:Option Value} (r:RelO none o):o=none:=by
  cases o with
  | none=>rfl
  | some u=>exact (show False from r).elim
theorem handed_of {v:V}{u:Value} (r:RelV v u):PySem.W.handedIn u=true:=by
  cases v with
  | non=>cases (show u=Value.none from r);rfl
  | bl b=>cases (show u=Value.bool b from r);rfl
  | int i=>obtain ⟨t,e⟩:=(show ∃ t,u=Value.int i t from r);cases e;rfl
  | str x=>obtain ⟨t,e⟩:=(show ∃ t,u=Value.str x t from r);cases e;rfl
  | byt b=>obtain ⟨t,e⟩:=(show ∃ t,u=Value.bytes b t from r);cases e;rfl
  | flt b=>obtain ⟨t,e⟩:=(show ∃ t,u=Value.float b t from r);cases e;rfl
  | ref a=>cases (show u=Value.ref a from r);rfl
  | ty n=>cases (show u=Value.type n from r);rfl

section
variable {P:Program}{w:World}{H H':Hp}{h h':Heap}{a C dx:Addr}{fs fs':List (Str × V)}
theorem ins_get (hok:HOk P w H h) (e:H a=some (.ins C dx fs)):∃ mA,ObjM h a dx C mA/\(∀ f,RelO (fs.lookup f) (mA f))/\PySem.Within mA (fs.map (·.1))/\fs.length<=1000/\H dx=some (.own a):=by
  obtain ⟨d,z,ne,ob,mA,n,r,q⟩:=(show ObjOk P w H h a (.ins C dx fs) from hok a _ e)
  exact ⟨mA,⟨ob,n,ne⟩,r,q,z,d⟩
end

structure Cls (K:PySem.W.Frag) (C:Addr):Prop where
  pg:PySem.W.plainGet K C Str.empty=true
  hd:PySem.W.hasDictIn K C=true
  po:PySem.W.plainOver K C=true
  sa:PySem.W.findIn K (.ref C) "__setattr__"=some (some (.builtin "object.__setattr__"))
theorem Cls.get {K:PySem.W.Frag}{C:Addr} (c:Cls K C) (f:Str):PySem.W.plainGet K C f=true:=c.pg
def NoAttr (K:PySem.W.Frag) (C:Addr) (f:Str):Prop:=PySem.W.findIn K (.ref C) f=some none
theorem NoAttr.taker {K:PySem.W.Frag}{C:Addr}{f:Str} (n:NoAttr K C f):PySem.W.takerIn K C f=some none:=by
  unfold PySem.W.takerIn
  rw [show PySem.W.findIn K (.ref C) f=some none from n]
  rfl
structure Meth (K:PySem.W.Frag) (C:Addr) (m:Str) (f:Addr):Prop where
  at_:PySem.W.findIn K (.ref C) m=some (some (.ref f))
  fn:PySem.W.isFn K (.ref f)=true
  kp:PySem.W.keepIn K (.ref f)=true

section
variable {X:Cx}{pins:List (Addr × Obj)}{σ:St}{H:Hp}{s:Shared}{a C dx:Addr}{fs:List (Str × V)}{f:Str}{v:V}{A:Around}{E:Value->Shared->Prop}

theorem getattr_ok {b:Bool}{Q:Value->Shared->Prop} (I:Inv X pins σ H s) (e:H a=some (.ins C dx fs)) (c:Cls X.K C) (n:NoAttr X.K C f) (l:fs.lookup f=some v)
    (h:∀ u s',Inv X pins σ H s'->RelV v u->Q u s'):wpAny (model X.prog X.w) A (getAttr (.ref a) f b) Q E s:=by
  obtain ⟨mA,O,r,_,_,_⟩:=ins_get I.hok e
  obtain ⟨u,hu,ru⟩:=RelO.some_of (v:=v) (o:=mA f) (by rw [← l];exact r f)
  exact get_map I.kIn O (c.get f) c.hd n hu (handed_of ru) (h u _ (I.tok _) ru)

theorem getmeth_ok {m:Str}{g:Addr}{pl:Sem Bool}{Q:Value × List Value->Shared->Prop} (I:Inv X pins σ H s) (e:H a=some (.ins C dx fs)) (c:Cls X.K C) (k:Meth X.K C m g) (l:fs.lookup m=none)
    (h:Q (.ref g,[.ref a]) s):wpAny (model X.prog X.w) A (getMethod (.ref a) m pl) Q E s:=by
  obtain ⟨mA,O,r,_,_,_⟩:=ins_get I.hok e
  have hn:mA m=none:=RelO.none_of (by rw [← l];exact r m)
  exact get_meth I.kIn O (c.get m) k.at_ k.fn hn h

theorem setattr_ok {y:V}{u:Value}{Q:Unit->Shared->Prop} (I:Inv X pins σ H s) (e:H a=some (.ins C dx fs)) (c:Cls X.K C) (n:NoAttr X.K C f) (hl:fs.length < 1000) (ry:RelV y u)
    (h:∀ s',Inv X pins σ (upd H a (.ins C dx (putF f y fs))) s'->Q () s'):wpAny (model X.prog X.w) A (setAttr (.ref a) f u) Q E s:=by
  obtain ⟨mA,O,r,wi,_,ho⟩:=ins_get I.hok e
  have hz:(fs.map (·.1)).length<=sizeLine:=by rw [List.length_map,sizeLine_eq];omega
  refine set_map I.kIn O c.sa c.po n.taker c.hd wi hz fun h' O' sb=>h _ ?_
  have hd:∃ o,h'.get? dx=some o:=let ⟨o,_,_,e',_⟩:=O'.ns;⟨o,e'⟩
  refine I.write (x:=a) (e:=dx) (by rw [e];exact True.intro) (.inr ho) (fun b q hb z=>(sb.2 b hb).trans z) hd ?_
  refine ⟨by rw [upd_ne O.ne];exact ho,?_,O.ne,O'.obj,_,O'.ns,fun g=>?_,fun g hg=>?_⟩
  · have:=length_putF f y fs;omega
  · show RelO ((putF f y fs).lookup g) (if g=f then some u else mA g)
    rw [lookup_putF]
    by_cases q:g=f
    · rw [if_pos q,if_pos q];exact ry
    · rw [if_neg q,if_neg q];exact r g
  · by_cases q:g=f
    · rw [q];exact (keys_putF f y fs).1
    · refine (keys_putF f y fs).2 g (wi g fun z=>hg ?_)
      show (if g=f then some u else mA g)=none
      rw [if_neg q];exact z

theorem Inv.made (I:Inv X pins σ H s):Inv X pins σ (upd (upd H s.heap.objs.size (.own (s.heap.objs.size + 1))) (s.heap.objs.size + 1) (.ins C s.heap.objs.size []))
    { s with heap:=(s.heap.push PySem.W.emptyDict).push (PySem.W.instObj C s.heap.objs.size) }:=by
  have e1:(s.heap.push PySem.W.emptyDict).get? s.heap.objs.size=some PySem.W.emptyDict:=Heap.get?_push_size s.heap rfl
  have e2:((s.heap.push PySem.W.emptyDict).push (PySem.W.instObj C s.heap.objs.size)).get? (s.heap.objs.size + 1)=some (PySem.W.instObj C s.heap.objs.size):=by
    have:=Heap.get?_push_size (s.heap.push PySem.W.emptyDict) (o:=PySem.W.instObj C s.heap.objs.size) rfl
    rwa [Heap.size_push] at this
  have e3:(s.heap.push PySem.W.emptyDict).Ns s.heap.objs.size (fun _=>none):=⟨PySem.W.emptyDict,#[],_,e1,rfl,(fun e he=>absurd he (by simp)),fun _=>rfl⟩
  have I1:=I.laid (a:=s.heap.objs.size) (o:=.own (s.heap.objs.size + 1)) (h':=s.heap.push PySem.W.emptyDict) (t':=s.toks) (fun b u q=>Heap.get?_push_of_some _ q) (Nat.le_refl _) ⟨_,e1⟩
  refine I1.laid (a:=s.heap.objs.size + 1) (o:=.ins C s.heap.objs.size []) (t':=s.toks) (fun b u q=>Heap.get?_push_of_some _ q) (Nat.le_of_eq (Heap.size_push _ _)) ?_
  have ne:s.heap.objs.size≠s.heap.objs.size + 1:=Nat.ne_of_lt (Nat.lt_succ_self _)
  refine ⟨by rw [upd_ne ne,upd_same],Nat.zero_le _,ne,e2,fun _=>none,(Heap.Ns1.of_empty e3).at fun o q=>Heap.get?_push_of_some _ q,fun _=>True.intro,fun y hy=>absurd rfl hy⟩

theorem attr_of {prog:Program}{w:World}{env:Env}{e:Expr}{f:Str}{pos:Pos}{s:Shared}{Q:Value->Shared->Prop} (hb:attributeBase e f env (eval e env)=eval e env)
    (h:wpAny (model prog w) A (eval e env) (fun o s₁=>wpAny (model prog w) A (getAttr o f true) Q E s₁) E s):wpAny (model prog w) A (eval (.Attribute e f pos) env) Q E s :=
  Attribute_any_ h (by rw [arm_eval_Attribute,hb])
end

def tFld (K:PySem.W.Frag) (ta:TE) (f:Str):TE:=fun σ H Q=>ta σ H fun x H1=>∃ a C dx fs v,x=.ref a/\H1 a=some (.ins C dx fs)/\Cls K C/\NoAttr K C f/\fs.lookup f=some v/\Q v H1
def sFld (K:PySem.W.Frag) (ta tv:TE) (f:Str):TS:=fun D σ H=>tv σ H fun y H1=>ta σ H1 fun x H2=>∃ a C dx fs,x=.ref a/\H2 a=some (.ins C dx fs)/\Cls K C/\NoAttr K C f/\fs.length < 1000 ∧
  D.nx σ (upd H2 a (.ins C dx (putF f y fs)))
section
variable {X:Cx}{o e value:Expr}{f:Str}{pos pos' tpos:Pos}{ta tv:TE}
theorem pe_fld (he:PE X e ta) (hb:attributeBase e f X.env (eval e X.env)=eval e X.env):PE X (.Attribute e f pos) (tFld X.K ta f):=by
  intro pins s σ H Q I h
  refine attr_of hb (thn (he pins s σ H _ I h) fun u s1 ⟨x,H1,I1,rx,a,C,dx,fs,v,ex,ea,c,n,l,q⟩=>?_)
  subst ex
  obtain rfl:u=Value.ref a:=rx
  exact getattr_ok I1 ea c n l fun u' s2 I2 ru=>⟨v,H1,I2,ru,q⟩
theorem ps_fld (ha:PE X o ta) (hv:PE X value tv) (hs:swapsWith value (some (.Attribute o f pos')) pos.line X.env=pure false):PS X (.Assign [.Attribute o f pos'] value pos) (sFld X.K ta tv f):=by
  intro pins s σ H D I h
  refine plainObj_wpAny_Assign_Attribute (thn (hv pins s σ H _ I h) fun u s1 ⟨y,H1,I1,ry,q⟩=>thn (ha pins s1 σ H1 _ I1 q) fun ov s2 ⟨x,H2,I2,rx,a,C,dx,fs,ex,ea,c,n,l,q2⟩=>?_) hs
  subst ex
  obtain rfl:ov=Value.ref a:=rx
  exact setattr_ok I2 ea c n l ry fun s3 I3=>⟨σ,_,I3,q2⟩
end

section
variable {X:Cx}{pins:List (Addr × Obj)}{σ:St}{H:Hp}{s:Shared}{A:Around}{E:Value->Shared->Prop}{Q:Value->Shared->Prop}{c:Value}{b:Bool}
inductive TyOf (K:PySem.W.Frag) (H:Hp):V->Value->Prop where
  | non:TyOf K H .non (.type "NoneType")
  | bl (x:Bool):TyOf K H (.bl x) (.type "bool")
  | int (i:Int):TyOf K H (.int i) (.type "int")
  | str (x:Str):TyOf K H (.str x) (.type "str")
  | flt (x:UInt64):TyOf K H (.flt x) (.type "float")
  | lst {a:Addr}{xs:List V} (e:H a=some (.lst xs)):TyOf K H (.ref a) (.type "list")
  | frz {a:Addr}{o:Obj}{xs:List V} (e:H a=some (.frz o (.lst xs))):TyOf K H (.ref a) (.type "list")
  | tup {a:Addr}{xs:List V} (e:H a=some (.tup xs)):TyOf K H (.ref a) (.type "tuple")
  | dK {a:Addr}{kvs:List (Key × V)} (e:H a=some (.dK kvs)):TyOf K H (.ref a) (.type "dict")
  | dT {a:Addr}{kvs:List (List Key × V)} (e:H a=some (.dT kvs)):TyOf K H (.ref a) (.type "dict")
  | ins {a C dx:Addr}{fs:List (Str × V)} (e:H a=some (.ins C dx fs)) (cl:Cls K C) (ha:PySem.W.findIn K (.ref C) "__class__"=some (some (.builtin "object.__class__")))
      (hn:PySem.W.specialIn K (.builtin "object.__class__") "__get__"=some (some (.builtin "getset_descriptor.__get__"))) (htk:PySem.W.takesIn K (.builtin "object.__class__")=some true)
      (hm:PySem.W.mroIn K C (.type "object")=some true):TyOf K H (.ref a) (.ref C)
theorem isinst_ok {x:V}{u t:Value} (I:Inv X pins σ H s) (rx:RelV x u) (ty:TyOf X.K H x t) (e:PySem.W.kitOne X.K t c=some b) (h:∀ tk,Q (.bool b) { s with toks:=tk }) :
    wpAny (model X.prog X.w) A (call (.builtin "isinstance") [u,c]) Q E s:=by
  cases ty with
  | non=>cases (show u=Value.none from rx);exact PySem.W.kia_one PySem.W.kitx_none I.kIn True.intro e (fun z=>nomatch z) h
  | bl y=>cases (show u=Value.bool y from rx);exact PySem.W.kia_one PySem.W.kitx_bool I.kIn True.intro e (fun z=>nomatch z) h
  | int i=>obtain ⟨t,q⟩:=(show ∃ t,u=Value.int i t from rx);cases q;exact PySem.W.kia_one PySem.W.kitx_int I.kIn True.intro e (fun z=>nomatch z) h
  | str y=>obtain ⟨t,q⟩:=(show ∃ t,u=Value.str y t from rx);cases q;exact PySem.W.kia_one PySem.W.kitx_str I.kIn True.intro e (fun z=>nomatch z) h
  | flt y=>obtain ⟨t,q⟩:=(show ∃ t,u=Value.float y t from rx);cases q;exact PySem.W.kia_one PySem.W.kitx_float I.kIn True.intro e (fun z=>nomatch z) h
  | @lst a xs ea =>
    cases (show u=Value.ref a from rx)
    obtain ⟨_,_,n,_,h1⟩:=(show ObjOk X.prog X.w H s.heap a (.lst xs) from I.hok a _ ea)
    exact PySem.W.kia_one PySem.W.kitx_list I.kIn ⟨_,h1,rfl⟩ e (fun z=>nomatch z) h
  | @frz a ob xs ea =>
    cases (show u=Value.ref a from rx)
    obtain ⟨_,_,_,n,_,h1⟩:=(show ObjOk X.prog X.w H s.heap a (.frz ob (.lst xs)) from I.hok a _ ea)
    exact PySem.W.kia_one PySem.W.kitx_list I.kIn ⟨_,h1,rfl⟩ e (fun z=>nomatch z) h
  | @tup a xs ea =>
    cases (show u=Value.ref a from rx)
    obtain ⟨_,_,_,p⟩:=(show ObjOk X.prog X.w H s.heap a (.tup xs) from I.hok a _ ea)
    obtain ⟨o,h1,h2,_⟩:=p
    exact PySem.W.kia_one PySem.W.kitx_tuple I.kIn ⟨o,h1,h2⟩ e (fun z=>nomatch z) h
  | @dK a kvs ea =>
    cases (show u=Value.ref a from rx)
    obtain ⟨_,_,vs,_,p⟩:=(show ObjOk X.prog X.w H s.heap a (.dK kvs) from I.hok a _ ea)
    obtain ⟨o,es,ep,h1,h2,_⟩:=p
    exact PySem.W.kia_one PySem.W.kitx_dict I.kIn ⟨o,h1,h2.1⟩ e (fun z=>nomatch z) h
  | @dT a kvs ea =>
    cases (show u=Value.ref a from rx)
    obtain ⟨_,_,xs,_,o,es,ep,h1,h2,_⟩:=(show ObjOk X.prog X.w H s.heap a (.dT kvs) from I.hok a _ ea)
    exact PySem.W.kia_one PySem.W.kitx_dict I.kIn ⟨o,h1,h2.1⟩ e (fun z=>nomatch z) h
  | @ins a C dx fs ea cl ha hn htk hm =>
    cases (show u=Value.ref a from rx)
    obtain ⟨mA,O,_⟩:=ins_get I.hok ea
    obtain ⟨od,J,_⟩:=O.look
    exact PySem.W.kia_one (PySem.W.kitx_own (cl.get _) cl.hd ha hn htk hm) I.kIn J e (fun z=>nomatch z) h
end
end L2

namespace L2
open PySem PySem.Spec PyProof.Rows

structure Room (k:Nat) (A:Around):Prop where
  hd:A.handled=none
  dp:A.depth + 3 * k + 5 < recursionLimit
  un:A.units + 16 * k + 200 < cLine
theorem Room.mono {j k:Nat}{A:Around} (r:Room k A) (h:j<=k):Room j A:=⟨r.hd,by have:=r.dp;omega,by have:=r.un;omega⟩
theorem Room.deeper {k:Nat}{A:Around} (r:Room (k + 1) A) (env:Env):Room k (A.deeper env) :=
  ⟨r.hd,by have:=r.dp;show A.depth + 1 + 3 * k + 5 < _;omega,by have:=r.un;show A.units + 3 + 16 * k + 200 < _;omega⟩
theorem Room.in1 {k:Nat}{A:Around} (r:Room (k + 1) A):Room k A.in1 :=
  ⟨r.hd,by have:=r.dp;show A.depth + 3 * k + 5 < _;omega,by have:=r.un;show A.units + 1 + 16 * k + 200 < _;omega⟩
theorem make_depth {A:Around}{C:Addr}{us:List Value}{kw:List (Str × Value)}:(A.under (.builtin "type.__call__" ⟨.ref C::us,kw⟩)).depth=A.depth + 1:=by
  first | rfl | simp [Around.under,Code.weight,Code.isCreation,Code.isGuard,Code.isCaller,Code.frames,Code.isFrame,guardIds]
theorem make_units {A:Around}{C:Addr}{us:List Value}{kw:List (Str × Value)}:(A.under (.builtin "type.__call__" ⟨.ref C::us,kw⟩)).units=A.units + 1:=by
  first | rfl | simp [Around.under,Code.cUnits,Code.frames,Code.isFrame]
theorem Room.make {k:Nat}{A:Around} (r:Room (k + 1) A) (C:Addr) (us:List Value) (kw:List (Str × Value)):Room k (A.under (.builtin "type.__call__" ⟨.ref C::us,kw⟩)) :=
  ⟨r.hd,by have:=r.dp;rw [make_depth];omega,by have:=r.un;rw [make_units];omega⟩
theorem Room.depth {k:Nat}{A:Around} (r:Room k A):A.depth < recursionLimit:=by have:=r.dp;omega
theorem Room.units {k:Nat}{A:Around} (r:Room k A):A.units + 64 < cLine:=by have:=r.un;omega
theorem Room.units0 {k:Nat}{A:Around} (r:Room k A):A.units < cLine:=by have:=r.un;omega

def tNil:TA:=fun _ H Q=>Q [] H
def tCons (ta:TE) (tr:TA):TA:=fun σ H Q=>ta σ H fun x H1=>tr σ H1 fun xs H2=>Q (x::xs) H2
section
variable {X:Cx}{e:Expr}{es:List Expr}{te:TE}{t:TA}{pos:Pos}
theorem pa_nil:PA X [] tNil:=fun _ _ _ _ H Q I h=>Calls.spliced_nil ⟨[],H,I,.nil,h⟩
theorem pa_cons (ha:PE X e te) (hr:PA X es t) (hs:starEach (e::es) X.env=(false,eval e X.env)::starEach es X.env:=by rfl):PA X (e::es) (tCons te t):=by
  intro pos pins s σ H Q I h
  rw [hs]
  show wpAny _ _ (spliced ((false,eval e X.env)::backTo pos (starEach es X.env))) _ _ s
  refine Calls.spliced_cons (thn (ha pins s σ H _ I h) fun u s1 ⟨x,H1,I1,r1,q1⟩=>?_)
  exact thn (hr pos pins s1 σ H1 _ I1 q1) fun us s2 ⟨xs,H2,I2,r2,q2⟩=>⟨x::xs,H2,I2,.cons r1 r2,q2⟩

end

abbrev Sp:=List V->Hp->VK->XK->Prop
abbrev CXT:=List Env->Hp->Shared->XK->Value->Shared->Prop

structure Env0 (P:Program) (w:World) (K:PySem.W.Frag) (mg:Str->Option Value) (base:Heap) (A:Around) (outer:List Env) (s:Shared) (H:Hp):Prop where
  frames:A.frames=some outer
  mod:Mod K mg base
  bs:∀ b o,base.get? b=some o->s.heap.get? b=some o/\H b=none
  bsz:base.objs.size<=s.heap.objs.size
  funs:s.heap.FunFrames base outer
  frf:∀ b∈frs outer,H b=none
  hok:HOk P w H s.heap
  bare:AllBare s.gens
def CE (outer:List Env) (P:Program) (w:World) (H:Hp) (s:Shared) (Q:VK) (u:Value) (s':Shared):Prop :=
  ∃ v H',s'.os=s.os/\AllBare s'.gens/\Un (frs outer) [] H H' s.heap s'.heap/\HOk P w H' s'.heap/\RelV v u/\Q v H'
def CR (CX:CXT) (outer:List Env) (P:Program) (w:World) (H:Hp) (s:Shared) (Q:VK) (E:XK) (r:Result) (s':Shared):Prop :=
  match r with
  | .ok (.ret u)=>CE outer P w H s Q u s'
  | .ok _=>False
  | .error e=>CX outer H s E e s'
structure FnOk (P:Program) (w:World) (K:PySem.W.Frag) (mg:Str->Option Value) (base:Heap) (CX:CXT) (k:Nat) (f:Addr) (fd:FuncData) (ps:List Str) (sp:Sp):Prop where
  len:∀ vs H Q E,sp vs H Q E->vs.length=ps.length
  run:∀ (A:Around) (outer:List Env) (s:Shared) (H:Hp) (args:Args) (us:List Value) (vs:List V) (Q:VK) (E:XK),Room k A->Env0 P w K mg base A outer s H->BindsTo s fd args (ps.zip us)->Vals vs us->sp vs H Q E →
    codeAny (model P w) A (.call (.ref f) args) (CR CX outer P w H s Q E) s
theorem FnOk.mono {P:Program}{w:World}{K:PySem.W.Frag}{mg:Str->Option Value}{base:Heap}{CX:CXT}{j k:Nat}{f:Addr}{fd:FuncData}{ps:List Str}{sp:Sp} (F:FnOk P w K mg base CX j f fd ps sp) (h:j<=k) :
    FnOk P w K mg base CX k f fd ps sp:=⟨F.len,fun A outer s H args us vs Q E hr=>F.run A outer s H args us vs Q E (hr.mono h)⟩
theorem FnOk.imp {P:Program}{w:World}{K:PySem.W.Frag}{mg:Str->Option Value}{base:Heap}{CX:CXT}{k:Nat}{f:Addr}{fd:FuncData}{ps:List Str}{sp sp':Sp} (F:FnOk P w K mg base CX k f fd ps sp)
    (h:∀ vs H Q E,sp' vs H Q E->sp vs H Q E):FnOk P w K mg base CX k f fd ps sp' :=
  ⟨fun vs H Q E q=>F.len vs H Q E (h _ _ _ _ q),fun A outer s H args us vs Q E hr he hb hv hs=>F.run A outer s H args us vs Q E hr he hb hv (h _ _ _ _ hs)⟩

theorem Env0.make {P:Program}{w:World}{K:PySem.W.Frag}{mg:Str->Option Value}{base:Heap}{A:Around}{outer:List Env}{s:Shared}{H:Hp} (e:Env0 P w K mg base A outer s H) (C:Addr) (us:List Value) (kw:List (Str × Value)) :
    Env0 P w K mg base (A.under (.builtin "type.__call__" ⟨.ref C::us,kw⟩)) outer s H:=⟨by first | exact e.frames | (simpa [Around.under,Code.envs,Code.isFrame,pushEnvs] using e.frames),e.mod,e.bs,e.bsz,e.funs,e.frf,e.hok,e.bare⟩
theorem Env0.in1 {P:Program}{w:World}{K:PySem.W.Frag}{mg:Str->Option Value}{base:Heap}{A:Around}{outer:List Env}{s:Shared}{H:Hp} (e:Env0 P w K mg base A outer s H) :
    Env0 P w K mg base A.in1 outer s H:=⟨e.frames,e.mod,e.bs,e.bsz,e.funs,e.frf,e.hok,e.bare⟩

section
variable {X:Cx}{pins:List (Addr × Obj)}{σ:St}{H:Hp}{s s':Shared}
theorem Inv.env0 (I:Inv X pins σ H s):Env0 X.prog X.w X.K X.mg X.base X.A X.stack s H :=
  ⟨I.ok.frames,I.ok.mod,I.bs,Nat.le_trans I.ok.bsz I.sz,I.stack,I.stkFree,I.hok,I.bare⟩
theorem Inv.after {Q:VK}{u:Value} (I:Inv X pins σ H s) (h:CE X.stack X.prog X.w H s Q u s'):EP X pins σ Q u s':=by
  obtain ⟨v,H',os,bare,un,hok,r,q⟩:=h
  obtain ⟨hh,g,d,t,os'⟩:=s'
  obtain rfl:os'=s.os:=os
  exact ⟨v,H',I.call (h':=hh) (g':=g) (d':=d) (t':=t) (ch:=[]) un hok bare (fun b z=>absurd z (by simp)),r,q⟩
end

def tCall (sp:Sp) (dvs:List V) (E:St->XK) (t:TA):TE:=fun σ H Q=>t σ H fun vs H1=>sp (vs++dvs) H1 Q (E σ)
def tMeth (C:Addr) (m:Str) (sp:Sp) (dvs:List V) (E:St->XK) (ta:TE) (t:TA):TE:=fun σ H Q=>ta σ H fun x H1=>∃ a dx fs,x=.ref a/\H1 a=some (.ins C dx fs)/\fs.lookup m=none ∧
  t σ H1 fun vs H2=>sp (x::(vs++dvs)) H2 Q (E σ)
def tMake (C:Addr) (sp:Sp) (dvs:List V) (E:St->XK) (t:TA):TE:=fun σ H Q=>t σ H fun vs H1=>∀ x dx,H1 x=none->H1 dx=none->dx≠x →
  sp (.ref x::(vs++dvs)) (upd (upd H1 dx (.own x)) x (.ins C dx [])) (fun v H2=>v=.non/\Q (.ref x) H2) (E σ)

def Binds (K:PySem.W.Frag) (fd:FuncData) (ps:List Str) (ds:List Value):Prop :=
  ∀ (s:Shared) (us:List Value),K.In s.heap->(us++ds).length=ps.length->BindsTo s fd ⟨us,[]⟩ (ps.zip (us++ds))
theorem Binds.all {K:PySem.W.Frag}{fd:FuncData}{ps:List Str} (h:∀ us:List Value,us.length=ps.length->bindArgs fd ⟨us,[]⟩=pure (ps.zip us)):Binds K fd ps []:=fun s us _ hl=>by
  rw [List.append_nil] at hl ⊢
  exact .of_eq (h us hl)

def Passes (CX:CXT) (X:Cx) (E:St->XK):Prop:=∀ (pins:List (Addr × Obj)) (σ:St) (H:Hp) (s:Shared) (e:Value) (s':Shared),Inv X pins σ H s->CX X.stack H s (E σ) e s'->X.xe e s'

section
variable {X:Cx}{CX:CXT}{k:Nat}{f C:Addr}{fd:FuncData}{ps:List Str}{sp:Sp}{dvs:List V}{ds:List Value}{E:St->XK}{x m:Str}{p pos apos:Pos}{e o:Expr}{es:List Expr}{ta:TE}{t:TA}

theorem run_fn {pins:List (Addr × Obj)}{σ:St}{H:Hp}{s:Shared}{Q:VK}{us:List Value}{vs:List V} (F:FnOk X.prog X.w X.K X.mg X.base CX k f fd ps sp) (hr:Room k X.A) (hb:Binds X.K fd ps ds) (hd:Vals dvs ds) (hx:Passes CX X E)
    (I:Inv X pins σ H s) (r:Vals vs us) (h:sp (vs++dvs) H Q (E σ)):wpAny (model X.prog X.w) X.A (call (.ref f) us) (EP X pins σ Q) X.xe s:=by
  have r2:Vals (vs++dvs) (us++ds):=r.append hd
  have hl:(us++ds).length=ps.length:=by rw [← r2.length];exact F.len _ _ _ _ h
  refine wpAny_call (codeAny_mono (F.run X.A X.stack s H ⟨us,[]⟩ (us++ds) (vs++dvs) Q (E σ) hr I.env0 (hb s us I.kIn hl) r2 h) fun r s' hq=>?_)
  cases r with
  | error e=>exact hx pins σ H s e s' I hq
  | ok fl =>
    cases fl with
    | ret u=>exact I.after hq
    | next=>exact False.elim hq
    | brk=>exact False.elim hq
    | cont=>exact False.elim hq

theorem pe_call (F:FnOk X.prog X.w X.K X.mg X.base CX k f fd ps sp) (hr:Room k X.A) (hg:Gl X x) (hm:X.mg x=some (.ref f)) (hk:PySem.W.keepIn X.K (.ref f)=true) (hb:Binds X.K fd ps ds) (hd:Vals dvs ds) (hx:Passes CX X E)
    (ha:PA X (e::es) t) (hdb:(x == ("__debug__":Str))=false:=by decide) (he:starEach (e::es) X.env=(false,eval e X.env)::starEach es X.env:=by rfl) (hpl:(backTo pos (starEach es X.env)).any (·.1)=false:=by rfl) :
    PE X (.Call (.Name x p) (e::es) [] pos) (tCall sp dvs E t):=by
  intro pins s σ H Q I h
  refine wpAny_Call_Name_kw (ld_glob I hg hm ?_ hdb)
  refine PySem.W.callWith_K (h₀:=X.base) I.ok.mod.kin hk (thn (ha pos pins s σ H _ I h) fun us s1 ⟨vs,H1,I1,r,q⟩=>⟨I1.kIn,?_⟩) he hpl
  exact run_fn F hr hb hd hx I1 r q
theorem pe_meth0 {pl:Sem Bool} (he:PE X o ta) (c:Cls X.K C) (hm:Meth X.K C m f) (F:FnOk X.prog X.w X.K X.mg X.base CX k f fd ps sp) (hr:Room k X.A) (hb:Binds X.K fd ps ds) (hd:Vals dvs ds) (hx:Passes CX X E)
    (ht:eval (.Call (.Attribute o m apos) [] [] pos) X.env=(do
      let ov ← eval o X.env
      standAt apos.atName
      let (f,first) ← holding [ov] (getMethod ov m pl)
      callWith pos f first (backTo pos (starEach [] X.env)) (backToKw pos (keywordEach [] X.env))):=by rfl) :
    PE X (.Call (.Attribute o m apos) [] [] pos) (tMeth C m sp dvs E ta tNil):=by
  intro pins s σ H Q I h
  refine PySem.W.methodCall_KW (pl:=pl) (thn (he pins s σ H _ I h) fun u s1 ⟨x,H1,I1,rx,a,dx,fs,ex,ea,l,q⟩=>?_) ht
  subst ex
  obtain rfl:u=Value.ref a:=rx
  refine getmeth_ok I1 ea c hm l ?_
  exact PySem.W.callWith_K0 (first:=[.ref a]) I1.kIn hm.kp (run_fn (us:=[.ref a]) (vs:=[.ref a]) F hr hb hd hx I1 (.cons rfl .nil) q)

structure Mk (K:PySem.W.Frag) (C f:Addr):Prop where
  makes:PySem.W.makesIn K C=true
  init:PySem.W.findIn K (.ref C) "__init__"=some (some (.ref f))
  fn:PySem.W.isFn K (.ref f)=true
  kp:PySem.W.keepIn K (.ref C)=true

theorem run_make {pins:List (Addr × Obj)}{σ:St}{H:Hp}{s:Shared}{Q:VK}{us:List Value}{vs:List V} (M:Mk X.K C f) (F:FnOk X.prog X.w X.K X.mg X.base CX k f fd ps sp) (hr:Room (k + 1) X.A) (hb:Binds X.K fd ps ds) (hd:Vals dvs ds)
    (hx:Passes CX X E) (I:Inv X pins σ H s) (r:Vals vs us)
    (h:∀ x dx,H x=none->H dx=none->dx≠x->sp (.ref x::(vs++dvs)) (upd (upd H dx (.own x)) x (.ins C dx [])) (fun v H2=>v=.non/\Q (.ref x) H2) (E σ)) :
    wpAny (model X.prog X.w) X.A (call (.ref C) us) (EP X pins σ Q) X.xe s:=by
  have hq:=h (s.heap.objs.size + 1) s.heap.objs.size (I.hok.fresh (Nat.le_succ _)) (I.hok.fresh (Nat.le_refl _)) (Nat.ne_of_lt (Nat.lt_succ_self _))
  have I2:=Inv.made (C:=C) I
  have r2:Vals (V.ref (s.heap.objs.size + 1)::(vs++dvs)) (Value.ref (s.heap.objs.size + 1)::(us++ds)):=.cons rfl (r.append hd)
  have hl:(Value.ref (s.heap.objs.size + 1)::us++ds).length=ps.length:=by
    have e:=r2.length
    rw [F.len _ _ _ _ hq] at e
    exact e.symm
  refine wpAny_call (make_map (f:=f) I.kIn M.makes M.init (beq_iff_eq.mp M.fn) (codeAny_mono (F.run _ X.stack _ _ ⟨Value.ref (s.heap.objs.size + 1)::us,[]⟩ (Value.ref (s.heap.objs.size + 1)::(us++ds)) _ _ (E σ) (hr.make C us [])
    (I2.env0.make C us []) (hb _ (Value.ref (s.heap.objs.size + 1)::us) I2.kIn hl) r2 hq) fun r s' hq'=>?_))
  cases r with
  | error e=>exact hx pins σ _ _ e s' I2 hq'
  | ok fl =>
    cases fl with
    | ret u =>
      obtain ⟨v,H',I3,rv,ev,q3⟩:=I2.after hq'
      subst ev
      exact ⟨rv,⟨V.ref (s.heap.objs.size + 1),H',I3,rfl,q3⟩⟩
    | next=>exact False.elim hq'
    | brk=>exact False.elim hq'
    | cont=>exact False.elim hq'
theorem pe_make (M:Mk X.K C f) (F:FnOk X.prog X.w X.K X.mg X.base CX k f fd ps sp) (hr:Room (k + 1) X.A) (hg:Gl X x) (hm:X.mg x=some (.ref C)) (hb:Binds X.K fd ps ds) (hd:Vals dvs ds) (hx:Passes CX X E)
    (ha:PA X (e::es) t) (hdb:(x == ("__debug__":Str))=false:=by decide) (he:starEach (e::es) X.env=(false,eval e X.env)::starEach es X.env:=by rfl) (hpl:(backTo pos (starEach es X.env)).any (·.1)=false:=by rfl) :
    PE X (.Call (.Name x p) (e::es) [] pos) (tMake C sp dvs E t):=by
  intro pins s σ H Q I h
  refine wpAny_Call_Name_kw (ld_glob I hg hm ?_ hdb)
  refine PySem.W.callWith_K (h₀:=X.base) I.ok.mod.kin M.kp (thn (ha pos pins s σ H _ I h) fun us s1 ⟨vs,H1,I1,r,q⟩=>⟨I1.kIn,?_⟩) he hpl
  exact run_make M F hr hb hd hx I1 r q
end

section
variable {X:Cx}{CX:CXT}{k:Nat}{f C:Addr}{fd:FuncData}{ps ks:List Str}{sp:Sp}{E:St->XK}{x m:Str}{p pos apos kpos:Pos}{e o:Expr}{es:List Expr}{kws:List Keyword}{te ta:TE}{t tk:TA}{nm:Option Str}
variable {g:List Value->List Value->List Value}{gV:List V->List V->List V}
end

structure FnScope (N P:List Str) (sc:Scope):Prop where
  kind:sc.kind=.function
  co:sc.isCoroutine=false
  gen:sc.isGenerator=false
  nd:N.Nodup
  pre:N.take P.length=P
  par:∀ x∈P,sc.names.lookup x=some .local ∨ sc.names.lookup x=some .cell
  nofree:∀ y∈sc.names,y.2≠.free

theorem bindL_out {kindOf:Str->Option NameKind}{x:Str}:∀ {binds:List (Str × Value)}{m:Str->Option Value},(∀ v,(x,v) ∉ binds)->bindL kindOf binds m x=m x
  | [],_,_=>rfl
  | (n,v)::r,m,h=>by
    unfold bindL
    rw [bindL_out fun w hw=>h w (List.mem_cons_of_mem _ hw)]
    split
    · have:x≠n:=by rintro rfl;exact h v List.mem_cons_self
      simp [this]
    · rfl
theorem bindC_out {kindOf:Str->Option NameKind}{x:Str}:∀ {binds:List (Str × Value)}{m:Str->Option Value},(∀ v,(x,v) ∉ binds)->bindC kindOf binds m x=m x
  | [],_,_=>rfl
  | (n,v)::r,m,h=>by
    unfold bindC
    rw [bindC_out fun w hw=>h w (List.mem_cons_of_mem _ hw)]
    split
    · rfl
    · have:x≠n:=by rintro rfl;exact h v List.mem_cons_self
      simp [this]
theorem bindL_get {kindOf:Str->Option NameKind}{x:Str}{v:Value}:∀ {P:List Str}{vs:List Value}{i:Nat}{m:Str->Option Value},P.Nodup->P[i]?=some x->vs[i]?=some v->kindOf x=some .local →
    bindL kindOf (P.zip vs) m x=some v
  | [],_,_,_,_,h,_,_=>by simp at h
  | _::_,[],_,_,_,_,h,_=>by simp at h
  | p::P,w::vs,0,m,nd,h1,h2,hk=>by
    simp at h1 h2;subst h1;subst h2
    show bindL kindOf ((p,w)::P.zip vs) m p=_
    unfold bindL
    rw [bindL_out fun v hv=>(List.nodup_cons.mp nd).1 (List.of_mem_zip hv).1,if_pos hk]
    simp
  | p::P,w::vs,i + 1,m,nd,h1,h2,hk=>by
    show bindL kindOf ((p,w)::P.zip vs) m x=_
    unfold bindL
    exact bindL_get (i:=i) (List.nodup_cons.mp nd).2 (by simpa using h1) (by simpa using h2) hk
theorem bindC_get {kindOf:Str->Option NameKind}{x:Str}{v:Value}:∀ {P:List Str}{vs:List Value}{i:Nat}{m:Str->Option Value},P.Nodup->P[i]?=some x->vs[i]?=some v->kindOf x≠some .local →
    bindC kindOf (P.zip vs) m x=some v
  | [],_,_,_,_,h,_,_=>by simp at h
  | _::_,[],_,_,_,_,h,_=>by simp at h
  | p::P,w::vs,0,m,nd,h1,h2,hk=>by
    simp at h1 h2;subst h1;subst h2
    show bindC kindOf ((p,w)::P.zip vs) m p=_
    unfold bindC
    rw [bindC_out fun v hv=>(List.nodup_cons.mp nd).1 (List.of_mem_zip hv).1,if_neg hk]
    simp
  | p::P,w::vs,i + 1,m,nd,h1,h2,hk=>by
    show bindC kindOf ((p,w)::P.zip vs) m x=_
    unfold bindC
    exact bindC_get (i:=i) (List.nodup_cons.mp nd).2 (by simpa using h1) (by simpa using h2) hk

def start (N:List Str) (vs:List V):St:=vs.map some++List.replicate (N.length - vs.length) none

def cxOf (CX:CXT) (P:Program) (w:World) (K:PySem.W.Frag) (mg:Str->Option Value) (base:Heap) (N:List Str) (qual:Str) (scope:Scope) (f:Addr) (cd:Value) (A:Around) (outer:List Env) (s:Shared) (H:Hp) (E:XK):Cx where
  prog:=P
  w:=w
  K:=K
  mg:=mg
  base:=base
  A:=A.deeper (envOfC qual scope s.heap.objs.size f cd)
  N:=N
  s₀:=s
  H₀:=H
  env:=envOfC qual scope s.heap.objs.size f cd
  outer:=outer
  stack:=envOfC qual scope s.heap.objs.size f cd::outer
  ex:=[]
  calm:=true
  fn:=fun _=>true
  pn:=[]
  xe:=fun e s'=>wpAny (model P w) (A.deeper (envOfC qual scope s.heap.objs.size f cd)) (leaving (envOfC qual scope s.heap.objs.size f cd) e) (fun _ s''=>CX outer H s E e s'') (fun e' s''=>CX outer H s E e' s'') s'

theorem cell_has {sc:Scope}{n:Nat}{x:Str} (h:sc.names.lookup x=some .cell):∃ c,(cellsFrom n sc.names []).lookup x=some c:=by
  have q:=PySem.W.cellsFrom_some sc.names n [] (.inl h)
  exact Option.isSome_iff_exists.mp q

theorem inv_start {CX:CXT}{P:Program}{w:World}{K:PySem.W.Frag}{mg:Str->Option Value}{base:Heap}{N ps:List Str}{qual:Str}{scope:Scope}{f:Addr}{cd:Value}{A:Around}{outer:List Env}{s s1:Shared}{H:Hp}{E:XK}{us:List Value}{vs:List V}
    (S:FnScope N ps scope) (hd:A.handled=none) (e0:Env0 P w K mg base A outer s H) (hl:vs.length=ps.length) (r:Vals vs us)
    (x:InCallC s s.heap.objs.size (bindL (envOfC qual scope s.heap.objs.size f cd).kindOf (ps.zip us) fun _=>none) (cellsFrom (s.heap.objs.size + 1) scope.names []) (bindC (envOfC qual scope s.heap.objs.size f cd).kindOf (ps.zip us) fun _=>none) s1) :
    Inv (cxOf CX P w K mg base N qual scope f cd A outer s H E) [] (start N vs) H s1:=by
  have hpl:ps.length<=N.length:=by have:=congrArg List.length S.pre;rw [List.length_take] at this;omega
  obtain ⟨h1,tk,rfl,hk⟩:=x.done
  have noA:∀ b:Addr,b ∉ (cxOf CX P w K mg base N qual scope f cd A outer s H E).ex:=fun b z=>absurd (show b∈([]:List Addr) from z) (by simp)
  refine ⟨⟨e0.mod,S.kind,rfl,rfl,Nat.le_refl _,fun y z c h1 h2=>?_,fun y hy=>?_,fun y c _ h=>?_,fun _=>hd,Around.frames_deeper e0.frames,.inr ⟨rfl,rfl⟩,fun b z=>absurd z (noA b),e0.bs,e0.bsz,fun b _ _=>noA b,fun b z=>absurd z (noA b),e0.funs,e0.frf⟩,
    rfl,e0.bare,Un.kept hk,⟨_,x.toInCall.ns,fun i y v h1 h2 h3=>?_⟩,fun y c h=>⟨_,x.cell y c h⟩,e0.hok.fresh (Nat.le_refl _),fun y c h=>?_,fun p hp=>absurd (show p∈([]:List (Addr × Obj)) from hp) (by simp),e0.hok.kept hk,?_⟩
  · exact name_of_addr x.apart (PySem.mem_of_lookup h1) (PySem.mem_of_lookup h2)
  · have hy:scope.names.lookup y=some .cell ∨ scope.names.lookup y=some .free:=hy
    rcases hy with hy | hy
    · exact cell_has hy
    · exact absurd rfl (S.nofree _ (PySem.mem_of_lookup hy))
  · exact Nat.le_of_lt (x.above y c (PySem.mem_of_lookup h))
  · have hi:i < vs.length:=by
      unfold start at h2
      by_cases hi:i < vs.length
      · exact hi
      · rw [List.getElem?_append_right (by simpa using hi)] at h2
        rw [List.getElem?_replicate] at h2
        split at h2 <;> cases h2
    have ha:vs[i]?=some v:=by
      unfold start at h2
      rw [List.getElem?_append_left (by simpa using hi),List.getElem?_map] at h2
      cases e:vs[i]? with
      | none=>rw [e] at h2;cases h2
      | some a=>rw [e] at h2;cases h2;rfl
    obtain ⟨u,hu,rv⟩:=r.get ha
    have hp:ps[i]?=some y:=by
      rw [← S.pre,List.getElem?_take_of_lt (by omega)];exact h1
    have ndP:ps.Nodup:=by rw [← S.pre];exact S.nd.sublist (List.take_sublist _ _)
    refine ⟨u,rv,?_⟩
    rcases S.par y (List.mem_of_getElem? hp) with k | k
    · exact .inl ⟨k,bindL_get ndP hp hu k⟩
    · obtain ⟨c,e⟩:=cell_has (n:=s.heap.objs.size + 1) k
      refine .inr ⟨.inl k,c,e,?_⟩
      have q:=x.cell y c e
      rw [bindC_get ndP hp hu (by show scope.names.lookup y≠_;rw [k];decide)] at q
      exact q
  · exact e0.hok.fresh (Nat.le_of_lt (x.above y c (PySem.mem_of_lookup h)))
  · unfold start
    show _=N.length
    rw [List.length_append,List.length_map,List.length_replicate]
    omega

theorem fn_of {CX:CXT}{P:Program}{w:World}{K:PySem.W.Frag}{mg:Str->Option Value}{base:Heap}{k:Nat}{f:Addr}{name qual:Str}{params:Arguments}{body:List Stmt}{scope:Scope}{dV kV doc pm cdv ct oc:Value}{an od:Option Addr}
    {osl:Array (Option Value)}{N ps:List Str}{sp:Sp} (lk:K.lookup f=some ⟨oc,od,.func (PySem.W.fnOf name qual params body scope dV kV doc pm an cdv ct),osl⟩) (hcd:PySem.W.codeIn K cdv qual=true) (S:FnScope N ps scope)
    (len:∀ vs H Q E,sp vs H Q E->vs.length=ps.length)
    (hbody:∀ (A:Around) (outer:List Env) (s:Shared) (H:Hp) (vs:List V) (Q:VK) (E:XK),Room k (A.deeper (envOfC qual scope s.heap.objs.size f cdv))->sp vs H Q E →
      ∃ t,PSs (cxOf CX P w K mg base N qual scope f cdv A outer s H E) body t/\t { nx:=fun _ H'=>Q .non H',rt:=Q } (start N vs) H) :
    FnOk P w K mg base CX (k + 1) f (PySem.W.fnOf name qual params body scope dV kV doc pm an cdv ct) ps sp:=by
  refine ⟨len,fun A outer s H args us vs Q E hr e0 hb r hsp=>?_⟩
  have hl:=len _ _ _ _ hsp
  have KX:K.In s.heap:=e0.mod.kin.keeps fun b o e=>(e0.bs b o e).1
  have lim:s.heap.NoLimit:=e0.mod.nolimit.keeps fun b o e=>(e0.bs b o e).1
  have hkind:∀ y∈ps.zip us,scope.names.lookup y.1=some .local ∨ (scope.names.lookup y.1=some .cell/\((cellsFrom (s.heap.objs.size + 1) scope.names []).lookup y.1).isSome=true):=fun ⟨n,v⟩ hy=>by
    rcases S.par n (List.of_mem_zip hy).1 with q | q
    · exact .inl q
    · exact .inr ⟨q,PySem.W.cellsFrom_some _ _ _ (.inl q)⟩
  refine codeAny_call_function hr.depth (KX _ _ lk) rfl S.co S.gen rfl (PySem.W.codeRec_of KX hcd) (hb _ _ _ _ ?_)
  refine wpAny_newFunctionEnv_cells S.kind hkind fun env he s1 x=>?_
  subst he
  refine ⟨lim.keeps x.toInCall.keep,codeAny_func ?_⟩
  obtain ⟨t,ht,hq⟩:=hbody A outer s H vs Q E (hr.deeper _) hsp
  have I:Inv (cxOf CX P w K mg base N qual scope f cdv A outer s H E) [] (start N vs) H s1:=inv_start S hr.hd e0 hl r x
  refine wpAny_mono (ht [] s1 (start N vs) H _ I hq) (fun fl s' hs=>?_) fun e s' hs=>hs
  have fin:∀ {σ':St}{H':Hp}{v:V}{u:Value},Inv (cxOf CX P w K mg base N qual scope f cdv A outer s H E) [] σ' H' s'->RelV v u->Q v H'->CE outer P w H s Q u s' :=
    fun {σ' H' v u} J rv q=>⟨v,H',J.os,J.bare,J.base,J.hok,rv,q⟩
  cases fl with
  | ret u =>
    obtain ⟨v,σ',H',J,rv,q⟩:=hs
    exact fin J rv q
  | next =>
    obtain ⟨σ',H',J,q⟩:=hs
    exact fin (v:=V.non) (u:=Value.none) J rfl q
  | brk =>
    obtain ⟨_,_,_,q⟩:=hs
    exact False.elim q
  | cont =>
    obtain ⟨_,_,_,q⟩:=hs
    exact False.elim q
end L2

namespace L2
open PySem PySem.Spec PyProof.Rows
section
variable {X:Cx}{x:Str}{p pos:Pos}{e:Expr}{es:List Expr}{t:TA}{id T:String}{r:List V->Hp->VK->Prop}

def tCB (r:List V->Hp->VK->Prop) (t:TA):TE:=fun σ H Q=>t σ H fun vs H1=>r vs H1 Q
theorem pe_callB (hc:CallR X (.builtin id) r) (hg:Gl X x) (hm:X.mg x=none) (hv:bootBuiltins x=some (.builtin id)) (ha:PA X (e::es) t) (hn:x≠"__name__":=by decide) (hdb:(x == ("__debug__":Str))=false:=by decide)
    (he:starEach (e::es) X.env=(false,eval e X.env)::starEach es X.env:=by rfl) (hpl:(backTo pos (starEach es X.env)).any (·.1)=false:=by rfl):PE X (.Call (.Name x p) (e::es) [] pos) (tCB r t):=by
  intro pins s σ H Q I h
  refine wpAny_Call_Name_kw (ld_blt I hg hm hv ?_ hn hdb)
  exact PyProof.Rows.callWith_builtin1 (thn (ha pos pins s σ H _ I h) fun us s1 ⟨vs,H1,I1,r1,q1⟩=>hc pins s1 σ H1 vs us Q I1 r1 q1) he hpl
theorem pe_callTy (hc:CallR X (.type T) r) (hg:Gl X x) (hm:X.mg x=none) (hv:bootBuiltins x=some (.type T)) (ha:PA X (e::es) t) (hn:x≠"__name__":=by decide) (hdb:(x == ("__debug__":Str))=false:=by decide)
    (he:starEach (e::es) X.env=(false,eval e X.env)::starEach es X.env:=by rfl) (hpl:(backTo pos (starEach es X.env)).any (·.1)=false:=by rfl):PE X (.Call (.Name x p) (e::es) [] pos) (tCB r t):=by
  intro pins s σ H Q I h
  refine wpAny_Call_Name_kw (ld_blt I hg hm hv ?_ hn hdb)
  exact PyProof.Rows.callWith_type1 (thn (ha pos pins s σ H _ I h) fun us s1 ⟨vs,H1,I1,r1,q1⟩=>hc pins s1 σ H1 vs us Q I1 r1 q1) he hpl
end
end L2

namespace HT
open PySem PyProof.Rows

section
open PySem.SeqAt
open PySem.AutoSeq1 (wpAny_loadPart')
open PySem.MeetsSeq PySem.MeetsSeq2 PySem.MeetsSeq3

end

section
variable {prog:Program}{w:World}{A:Around}{E:Value->Shared->Prop}{s:Shared}

def sIx (n d:Nat):Option Int->Nat
  | none=>d
  | some v=>if v < 0 then (v + (n:Int)).toNat else min v.toNat n
theorem sIx_none (n d:Nat):sIx n d none=d:=rfl
theorem sIx_nat (n d k:Nat):sIx n d (some (k:Int))=min k n:=by
  show (if (k:Int) < 0 then ((k:Int) + (n:Int)).toNat else min (k:Int).toNat n)=min k n
  rw [if_neg (by omega),Int.toNat_natCast]
theorem sIx_le (n d:Nat) (hd:d<=n) (o:Option Int):sIx n d o<=n:=by
  cases o with
  | none=>exact hd
  | some v =>
    show (if v < 0 then (v + (n:Int)).toNat else min v.toNat n)<=n
    by_cases hv:v < 0
    · rw [if_pos hv];omega
    · rw [if_neg hv];exact Nat.min_le_right _ _
end
end HT

namespace L2
open PySem PySem.Spec PyProof.Rows

abbrev TO:=St->Hp->(Option Int->Hp->Prop)->Prop
def PO (X:Cx) (e:Option Expr) (t:TO):Prop :=
  ∀ (pins:List (Addr × Obj)) (s:Shared) (σ:St) (H:Hp) (Q:Option Int->Hp->Prop),Inv X pins σ H s->t σ H Q →
    wpAny (model X.prog X.w) X.A (evalPart e X.env) (fun u s'=>∃ o H',Inv X pins σ H' s'/\IsPart u o/\Q o H') X.xe s
def tNoPart:TO:=fun _ H Q=>Q none H
def tPart (t:TE):TO:=fun σ H Q=>t σ H fun x H1=>∃ i,x=.int i/\Q (some i) H1

section
variable {X:Cx}{e:Expr}{te:TE}{lo hi:Option Expr}{tl th:TO}{pos p2:Pos}

theorem po_none:PO X none tNoPart:=by
  intro pins s σ H Q I h
  rw [evalPart_none]
  exact wpAny_pure ⟨none,H,I,.none,h⟩
theorem po_some (h:PE X e te):PO X (some e) (tPart te):=by
  intro pins s σ H Q I hw
  rw [evalPart_some]
  refine thn (h pins s σ H _ I hw) fun u s1 ⟨x,H1,I1,r1,q1⟩=>?_
  obtain ⟨i,rfl,q⟩:=q1
  obtain ⟨t,rfl⟩:=r1
  exact ⟨some i,H1,I1,.int i t,q⟩

def SlR (X:Cx) (r:V->Option Int->Option Int->Hp->VK->Prop):Prop :=
  ∀ (pins:List (Addr × Obj)) (s:Shared) (σ:St) (H:Hp) (x:V) (v vl vu:Value) (lo hi:Option Int) (sl:Addr) (Q:VK),Inv X pins σ H s->RelV x v->s.heap.IsSliceOf sl vl vu .none->IsPart vl lo->IsPart vu hi->r x lo hi H Q →
    ∃ T id,typeLookup (.type T) "__getitem__"=pure (some (.builtin id))/\s.TypeIs v T/\wpAny (model X.prog X.w) X.A (getItem v (.ref sl)) (EP X pins σ Q) X.xe s
theorem SlR.or {r r':V->Option Int->Option Int->Hp->VK->Prop} (h:SlR X r) (h':SlR X r'):SlR X (fun x lo hi H Q=>r x lo hi H Q ∨ r' x lo hi H Q):=by
  intro pins s σ H x v vl vu lo hi sl Q I rx hs pl pu q
  rcases q with q | q
  · exact h pins s σ H x v vl vu lo hi sl Q I rx hs pl pu q
  · exact h' pins s σ H x v vl vu lo hi sl Q I rx hs pl pu q
def tSl (r:V->Option Int->Option Int->Hp->VK->Prop) (te:TE) (tl th:TO):TE:=fun σ H Q=>te σ H fun x H1=>tl σ H1 fun l H2=>th σ H2 fun u H3=>r x l u H3 Q
theorem pe_slice {r:V->Option Int->Option Int->Hp->VK->Prop} (hr:SlR X r) (he:PE X e te) (hl:PO X lo tl) (hu:PO X hi th):PE X (.Subscript e (.Slice lo hi none p2) pos) (tSl r te tl th):=by
  intro pins s σ H Q I h
  refine Subscript_ (thn (he pins s σ H _ I h) fun v s1 ⟨x,H1,I1,r1,q1⟩=>?_)
  refine wpAny_Slice (thn (hl pins s1 σ H1 _ I1 q1) fun vl s2 ⟨l,H2,I2,pl,q2⟩=>thn (hu pins s2 σ H2 _ I2 q2) fun vu s3 ⟨u,H3,I3,pu,q3⟩=>?_)
  rw [evalPart_none]
  refine wpAny_pure ?_
  have I4:Inv X pins σ H3 { s3 with heap:=s3.heap.push { cls:=.type "slice",data:=.fields #[vl,vu,.none] } }:=I3.kept (t':=s3.toks) fun b ob q=>Heap.get?_push_of_some _ q
  obtain ⟨T,id,hT,ht,hg⟩:=hr pins { s3 with heap:=s3.heap.push { cls:=.type "slice",data:=.fields #[vl,vu,.none] } } σ H3 x v vl vu l u s3.heap.objs.size Q I4 r1 (Heap.IsSliceOf.new ..) pl pu q3
  show wpAny (model X.prog X.w) X.A (subscriptTail e (.Slice lo hi none p2) v (.ref s3.heap.objs.size)) (EP X pins σ Q) X.xe { s3 with heap:=s3.heap.push { cls:=.type "slice",data:=.fields #[vl,vu,.none] } }
  exact tail_any (ops:=[.ref s3.heap.objs.size,v]) ht hT hg (by with_unfolding_all rfl)

def cutV (xs:List V) (lo hi:Option Int):List V:=(xs.drop (HT.sIx xs.length 0 lo)).take (HT.sIx xs.length xs.length hi - HT.sIx xs.length 0 lo)
theorem cutV_length (xs:List V) (lo hi:Option Int):(cutV xs lo hi).length<=xs.length:=by
  unfold cutV
  rw [List.length_take,List.length_drop]
  omega
end
end L2

namespace L2
open PySem PySem.Spec PyProof.Rows

def ixN (n:Nat) (i:Int):Option Nat:=if 0<=i then (if i < n then some i.toNat else none) else if -(n:Int)<=i then some (i + n).toNat else none
def atI {α:Type} (xs:List α) (i:Int):Option α:=(ixN xs.length i).bind fun j=>xs[j]?
theorem ixN_seq {n:Nat}{i:Int}{j:Nat} (h:ixN n i=some j):seqIndex? i n=some j/\j < n/\-(n:Int)<=i/\i < n:=by
  unfold ixN at h
  by_cases h0:0<=i
  · rw [if_pos h0] at h
    by_cases h1:i < n
    · rw [if_pos h1] at h
      have e:i.toNat=j:=Option.some.inj h
      exact ⟨by rw [seqIndex_of h0 h1,e],by omega,by omega,h1⟩
    · rw [if_neg h1] at h;cases h
  · rw [if_neg h0] at h
    by_cases h1:-(n:Int)<=i
    · rw [if_pos h1] at h
      have e:(i + n).toNat=j:=Option.some.inj h
      exact ⟨by rw [seqIndex_neg (by omega) h1,e],by omega,h1,by omega⟩
    · rw [if_neg h1] at h;cases h
theorem atI_get {α:Type}{xs:List α}{i:Int}{v:α} (h:atI xs i=some v):∃ j,seqIndex? i xs.length=some j/\xs[j]?=some v/\j < xs.length/\-(xs.length:Int)<=i/\i < xs.length:=by
  unfold atI at h
  cases e:ixN xs.length i with
  | none=>rw [e] at h;cases h
  | some j =>
    rw [e] at h
    obtain ⟨h1,h2,h3,h4⟩:=ixN_seq e
    exact ⟨j,h1,h,h2,h3,h4⟩
theorem atI_nat {α:Type}{xs:List α}{j:Nat}{v:α} (h:xs[j]?=some v):atI xs (j:Int)=some v:=by
  have hj:j < xs.length:=(List.getElem?_eq_some_iff.mp h).1
  have e:ixN xs.length (j:Int)=some j:=by
    unfold ixN
    rw [if_pos (by omega),if_pos (by omega)];simp
  unfold atI;rw [e];exact h
def PlainIx (b:Expr):Prop:=∀ o i,subscripted b false o i=operate [o,i] (getItem o i)
def IxR (X:Cx) (r:R2):Prop :=
  ∀ (value slice:Expr) (pins:List (Addr × Obj)) (s:Shared) (σ:St) (H:Hp) (x y:V) (v u:Value) (Q:VK),Inv X pins σ H s->RelV x v->RelV y u->r x y H Q →
    subscripted slice false v u=operate [v,u] (getItem v u)->wpAny (model X.prog X.w) X.A (subscriptTail value slice v u) (EP X pins σ Q) X.xe s
def MtR (X:Cx) (id:String) (r:V->List V->Hp->VK->Prop):Prop :=
  ∀ (pins:List (Addr × Obj)) (s:Shared) (σ:St) (H:Hp) (x:V) (xs:List V) (v:Value) (us:List Value) (Q:VK),Inv X pins σ H s->RelV x v->Vals xs us->r x xs H Q →
    wpAny (model X.prog X.w) X.A (call (.builtin id) (v::us)) (EP X pins σ Q) X.xe s
section
variable {X:Cx}{a b:Expr}{ta tb:TE}{pos:Pos}
theorem IxR.or {r r':R2} (h:IxR X r) (h':IxR X r'):IxR X (fun x y H Q=>r x y H Q ∨ r' x y H Q):=by
  intro value slice pins s σ H x y v u Q I rx ry q hs
  rcases q with q | q
  · exact h value slice pins s σ H x y v u Q I rx ry q hs
  · exact h' value slice pins s σ H x y v u Q I rx ry q hs
theorem MtR.or {id:String}{r r':V->List V->Hp->VK->Prop} (h:MtR X id r) (h':MtR X id r'):MtR X id (fun x xs H Q=>r x xs H Q ∨ r' x xs H Q):=by
  intro pins s σ H x xs v us Q I rx rs q
  rcases q with q | q
  · exact h pins s σ H x xs v us Q I rx rs q
  · exact h' pins s σ H x xs v us Q I rx rs q
theorem pe_ix {r:R2} (hr:IxR X r) (ha:PE X a ta) (hb:PE X b tb) (hs:PlainIx b):PE X (.Subscript a b pos) (tOp r ta tb):=by
  intro pins s σ H Q I h
  exact Subscript_ (binT ha hb I h fun v u s2 x y H2 I2 rx ry q=>hr a b pins s2 σ H2 x y v u Q I2 rx ry q (hs _ _))

def rIxL (K:PySem.W.Frag):R2:=fun x y H Q=>∃ p xs i v,x=.ref p/\y=.int i/\SqL K H p xs/\atI xs i=some v/\Q v H
def rIxT (K:PySem.W.Frag):R2:=fun x y H Q=>∃ p xs i v,x=.ref p/\y=.int i/\SqT K H p xs/\atI xs i=some v/\Q v H
def rIxS:R2:=fun x y H Q=>∃ z i c,x=.str z/\y=.int i/\z.length<=sizeLine/\atI z.cps.toList i=some c/\Q (.str ⟨#[c]⟩) H
theorem ix_list:IxR X (rIxL X.K):=by
  intro value slice pins s σ H x y v u Q I rx ry h hs
  obtain ⟨p,xs,i,z,rfl,rfl,hq,he,q⟩:=h
  cases rx
  obtain ⟨t,rfl⟩:=ry
  obtain ⟨its,r,pl,hz⟩:=I.list hq
  obtain ⟨j,h1,h2,h3,h4,h5⟩:=atI_get he
  obtain ⟨w,ew,rw'⟩:=r.get h2
  have hl:=r.length
  have hn:=line63
  have fin:EP X pins σ Q w s:=⟨z,H,I,rw',q⟩
  by_cases h0:0<=i
  · have hj:i.toNat=j:=by
      rw [seqIndex_of h0 h5] at h1
      exact Option.some.inj h1
    exact item_listR pl.isList h0 (by omega) (by rw [hj];simpa using ew) fin hs
  · have hj:(i + (its.toArray.size:Int)).toNat=j:=by
      rw [seqIndex_neg (by omega) h4] at h1
      rw [List.size_toArray,← hl]
      exact Option.some.inj h1
    exact subscriptTail_builtinR (x:=w) pl.isList.typeIs slot_list_getitem.lookup
      (wpAny_getItem_list_neg (Q:=fun r s'=>r=w/\EP X pins σ Q r s') pl.isList (by omega) (by rw [List.size_toArray] <;> omega) (by omega) (by rw [hj];simpa using ew) ⟨rfl,fin⟩) hs
theorem ix_tup:IxR X (rIxT X.K):=by
  intro value slice pins s σ H x y v u Q I rx ry h hs
  obtain ⟨p,xs,i,z,rfl,rfl,hq,he,q⟩:=h
  cases rx
  obtain ⟨t,rfl⟩:=ry
  obtain ⟨its,r,pl,hz⟩:=I.tuple hq
  obtain ⟨j,h1,h2,h3,h4,h5⟩:=atI_get he
  obtain ⟨w,ew,rw'⟩:=r.get h2
  have hl:=r.length
  have hn:=line63
  have fin:EP X pins σ Q w s:=⟨z,H,I,rw',q⟩
  exact subscriptTail_builtinR (x:=w) pl.typeIs slot_tuple_getitem.lookup
    (getItem_tuple (j:=j) (Q:=fun r s'=>r=w/\EP X pins σ Q r s') pl (by omega) (by omega) (by rw [List.size_toArray,← hl];exact h1) (by simpa using ew) ⟨rfl,fin⟩) hs
theorem ix_str:IxR X rIxS:=by
  intro value slice pins s σ H x y v u Q I rx ry h hs
  obtain ⟨z,i,c,rfl,rfl,hz,he,q⟩:=h
  obtain ⟨t,rfl⟩:=rx
  obtain ⟨t',rfl⟩:=ry
  obtain ⟨j,h1,h2,h3,h4,h5⟩:=atI_get he
  have hl:z.cps.toList.length=z.length:=by simp [Str.length]
  rw [hl] at h1 h4 h5
  have hn:=line63
  exact tail_any (typeIs_str s z t) slot_str_getitem.lookup (getItem_str (c:=c) (by
    have e1:decide (i < -(2 ^ 63:Int))=false:=decide_eq_false (by omega)
    have e2:decide (i ≥ 2 ^ 63)=false:=decide_eq_false (by omega)
    rw [e1,e2,Bool.or_false]) (by rw [h1];simpa using h2) ⟨.str ⟨#[c]⟩,H,I.tok _,⟨_,rfl⟩,q⟩) hs
theorem mapSeq_set (its:List Value) (n j:Nat) (u:Value):Obj.mapSeq (·.setIfInBounds j u) { cls:=.type "list",data:=.seq its.toArray n }={ cls:=.type "list",data:=.seq (its.set j u).toArray n }:=by
  simp [Obj.mapSeq]
theorem Inv.lst {pins:List (Addr × Obj)}{σ:St}{H:Hp}{s:Shared}{p:Addr}{xs:List V} (I:Inv X pins σ H s) (h:H p=some (.lst xs)) :
    ∃ (its:List Value) (n:Nat),Vals xs its/\s.heap.get? p=some { cls:=.type "list",data:=.seq its.toArray n }/\xs.length<=sizeLine:=by
  obtain ⟨z,its,n,r,e⟩:=I.hok p _ h
  exact ⟨its,n,r,e,z⟩
theorem Inv.lstUpd {pins:List (Addr × Obj)}{σ:St}{H:Hp}{s:Shared}{p:Addr}{xs ys:List V}{its its':List Value}{n n':Nat}{f:Obj->Obj} (I:Inv X pins σ H s) (h:H p=some (.lst xs))
    (ho:s.heap.get? p=some { cls:=.type "list",data:=.seq its.toArray n }) (hf:f { cls:=.type "list",data:=.seq its.toArray n }={ cls:=.type "list",data:=.seq its'.toArray n' }) (r:Vals ys its') (hz:ys.length<=sizeLine) (t:Nat) :
    Inv X pins σ (upd H p (.lst ys)) { s with heap:=s.heap.update p f,toks:=t }:=by
  have e:(s.heap.update p f).get? p=some { cls:=.type "list",data:=.seq its'.toArray n' }:=by
    rw [Heap.get?_update_self f ho (by rw [hf] <;> rfl),hf]
  refine I.write (x:=p) (e:=p) (by rw [h];trivial) (.inl rfl) (fun b u hb q=>(Heap.get?_update_other _ _ (Ne.symm hb)).trans q) ⟨_,e⟩ ?_
  exact ⟨hz,its',n',r,e⟩
def rSetL:V->V->V->Hp->(Hp->Prop)->Prop:=fun o i v H Q=>∃ p xs k j,o=.ref p/\i=.int k/\H p=some (.lst xs)/\ixN xs.length k=some j/\Q (upd H p (.lst (xs.set j v)))
theorem set_list:PSet X rSetL:=by
  intro pins s σ H o i v ov iv u Q I ro ri rv h
  obtain ⟨p,xs,k,j,rfl,rfl,hp,hj,q⟩:=h
  cases ro
  obtain ⟨t,rfl⟩:=ri
  obtain ⟨its,n,r,ho,hz⟩:=I.lst hp
  obtain ⟨h1,h2,h3,h4⟩:=ixN_seq hj
  have hl:=r.length
  have hn:=line63
  have I':Inv X pins σ (upd H p (.lst (xs.set j v))) { s with heap:=s.heap.update p (Obj.mapSeq (·.setIfInBounds j u)) } :=
    I.lstUpd hp ho (mapSeq_set its n j u) (r.set rv j) (by rw [List.length_set];exact hz) s.toks
  by_cases h0:0<=k
  · have hk:k.toNat=j:=by
      rw [seqIndex_of h0 h4] at h1
      exact Option.some.inj h1
    exact PySem.W.ki_setAt ho h0 (by omega) (by rw [List.size_toArray,← hl];exact h4) (by rw [hk];exact ⟨_,I',q⟩)
  · have hk:(k + (its.toArray.size:Int)).toNat=j:=by
      rw [seqIndex_neg (by omega) h3] at h1
      rw [List.size_toArray,← hl]
      exact Option.some.inj h1
    exact PySem.W.ki_setBack ho (by omega) (by rw [List.size_toArray,← hl];exact h3) (by omega) (by rw [hk];exact ⟨_,I',q⟩)

theorem slice_bounds (lo hi:Option Int) (n:Nat):(sliceBounds lo hi none n).1=((HT.sIx n 0 lo:Nat):Int)/\(sliceBounds lo hi none n).2.1=((HT.sIx n n hi:Nat):Int)/\(sliceBounds lo hi none n).2.2=1:=by
  refine ⟨?_,?_,rfl⟩
  · cases lo with
    | none=>simp [sliceBounds,HT.sIx]
    | some i =>
      simp only [sliceBounds,HT.sIx,Option.getD_none,show (1:Int) > 0 by decide,if_true]
      by_cases h:i < 0
      · simp only [h,if_true] <;> omega
      · simp only [h,if_false] <;> omega
  · cases hi with
    | none=>simp [sliceBounds,HT.sIx]
    | some i =>
      simp only [sliceBounds,HT.sIx,Option.getD_none,show (1:Int) > 0 by decide,if_true]
      by_cases h:i < 0
      · simp only [h,if_true] <;> omega
      · simp only [h,if_false] <;> omega
theorem slicePick_cut (its:List Value) (lo hi:Option Int):slicePick its.toArray lo hi none=((its.drop (HT.sIx its.length 0 lo)).take (HT.sIx its.length its.length hi - HT.sIx its.length 0 lo)).toArray:=by
  obtain ⟨h1,h2,h3⟩:=slice_bounds lo hi its.toArray.size
  unfold slicePick
  rw [h1,h2,h3]
  simp only [sliceRange_one,pick_run,List.size_toArray] <;> rfl
def rSlL (K:PySem.W.Frag):V->Option Int->Option Int->Hp->VK->Prop:=fun x lo hi H Q=>∃ a xs,x=.ref a/\SqL K H a xs/\∀ p,H p=none->Q (.ref p) (upd H p (.lst (cutV xs lo hi)))
theorem sl_list:SlR X (rSlL X.K):=by
  intro pins s σ H x v vl vu lo hi sl Q I rx hs pl pu h
  obtain ⟨a,xs,rfl,hx,q⟩:=h
  cases rx
  obtain ⟨its,r,ht,hz⟩:=I.list hx
  have hlen:=r.length
  refine ⟨"list",_,slot_list_getitem.lookup,ht.isList.typeIs,?_⟩
  refine wpAny_getItem_list_slice ht.isList hs pl pu .none (by simp) ?_ (by rw [List.size_toArray] <;> omega)
  rw [slicePick_cut,← hlen]
  refine ⟨.ref s.heap.objs.size,_,I.laid (t':=s.toks) (o:=.lst (cutV xs lo hi)) (fun b ob q=>Heap.get?_push_of_some _ q) (Nat.le_refl _) ?_,rfl,q _ (I.hok.fresh (Nat.le_refl _))⟩
  exact ⟨Nat.le_trans (cutV_length xs lo hi) hz,_,0,(r.drop (HT.sIx xs.length 0 lo)).take (HT.sIx xs.length xs.length hi - HT.sIx xs.length 0 lo),Heap.get?_push_size _ rfl⟩

def flatV:V->Bool
  | .non=>true
  | .bl _=>true
  | .int _=>true
  | .str _=>true
  | _=>false
def eqV:V->V->Bool
  | .non,.non=>true
  | .bl a,.bl b=>a == b
  | .bl a,.int b=>(if a then 1 else 0) == b
  | .int a,.bl b=>a == (if b then 1 else 0)
  | .int a,.int b=>a == b
  | .str a,.str b=>a == b
  | _,_=>false
theorem eqAt_V {A:Around}{s:Shared}{y x:V}{u v:Value} (ry:RelV y u) (rx:RelV x v) (fy:flatV y=true) (fx:flatV x=true):SeqAt.EqAt A s u v (eqV y x):=by
  cases y with
  | non =>
    cases ry
    cases x with
    | non=>cases rx;exact SeqAt.EqAt.same _
    | bl b=>cases rx;exact SeqAt.EqAt.none_bool b
    | int b=>obtain ⟨t,rfl⟩:=rx;exact SeqAt.EqAt.none_int b t
    | str b=>obtain ⟨t,rfl⟩:=rx;exact SeqAt.EqAt.none_str b t
    | _=>exact absurd (show false=true from fx) Bool.false_ne_true
  | bl a =>
    cases ry
    cases x with
    | non=>cases rx;exact SeqAt.EqAt.bool_none a
    | bl b=>cases rx;exact SeqAt.EqAt.bool_bool a b
    | int b=>obtain ⟨t,rfl⟩:=rx;exact SeqAt.EqAt.bool_int a b t
    | str b=>obtain ⟨t,rfl⟩:=rx;exact SeqAt.EqAt.bool_str a b t
    | _=>exact absurd (show false=true from fx) Bool.false_ne_true
  | int a =>
    obtain ⟨t',rfl⟩:=ry
    cases x with
    | non=>cases rx;exact SeqAt.EqAt.int_none a t'
    | bl b=>cases rx;exact SeqAt.EqAt.int_bool a t' b
    | int b=>obtain ⟨t,rfl⟩:=rx;exact SeqAt.EqAt.int_int a t' b t
    | str b=>obtain ⟨t,rfl⟩:=rx;exact SeqAt.EqAt.int_str a t' b t
    | _=>exact absurd (show false=true from fx) Bool.false_ne_true
  | str a =>
    obtain ⟨t',rfl⟩:=ry
    cases x with
    | non=>cases rx;exact SeqAt.EqAt.str_none a t'
    | bl b=>cases rx;exact SeqAt.EqAt.str_bool a t' b
    | int b=>obtain ⟨t,rfl⟩:=rx;exact SeqAt.EqAt.str_int a t' b t
    | str b=>obtain ⟨t,rfl⟩:=rx;exact SeqAt.EqAt.str_str a t' b t
    | _=>exact absurd (show false=true from fx) Bool.false_ne_true
  | _=>exact absurd (show false=true from fy) Bool.false_ne_true
def eqU (x:V) (u:Value):Bool:=match u with
  | .none=>eqV .non x
  | .bool b=>eqV (.bl b) x
  | .int i _=>eqV (.int i) x
  | .str z _=>eqV (.str z) x
  | _=>false
theorem eqU_of {x y:V}{u:Value} (r:RelV y u) (f:flatV y=true):eqU x u=eqV y x:=by
  cases y with
  | non=>cases r;rfl
  | bl b=>cases r;rfl
  | int i=>obtain ⟨t,rfl⟩:=r;rfl
  | str z=>obtain ⟨t,rfl⟩:=r;rfl
  | _=>exact absurd (show false=true from f) Bool.false_ne_true
theorem any_eqU {x:V}:∀ {xs:List V}{us:List Value},Vals xs us->xs.all flatV=true->us.any (eqU x)=xs.any fun y=>eqV y x
  | _,_,.nil,_=>rfl
  | y::xs,u::us,.cons r t,f=>by
    rw [List.all_cons,Bool.and_eq_true] at f
    rw [List.any_cons,List.any_cons,eqU_of r f.1,any_eqU t f.2]
theorem mem_eqAt {A:Around}{s:Shared}{x:V}{v:Value} (rx:RelV x v) (fx:flatV x=true):∀ {xs:List V}{us:List Value},Vals xs us->xs.all flatV=true->∀ u∈us,SeqAt.EqAt A s u v (eqU x u)
  | _,_,.nil,_=>fun u hu=>by cases hu
  | y::xs,u::us,.cons r t,f=>fun u' hu=>by
    rw [List.all_cons,Bool.and_eq_true] at f
    rcases List.mem_cons.mp hu with rfl | hu
    · rw [eqU_of r f.1];exact eqAt_V r rx f.1 fx
    · exact mem_eqAt rx fx t f.2 u' hu
def inV (x:V) (xs:List V):Bool:=xs.any fun y=>eqV y x
def rIn (K:PySem.W.Frag) (neg:Bool):R2:=fun x y H Q=>∃ p xs,y=.ref p/\(SqL K H p xs ∨ SqT K H p xs)/\flatV x=true/\xs.all flatV=true/\Q (.bl (if neg then !inV x xs else inV x xs)) H
theorem op_in_seq:OpR X (compareOp .In) (rIn X.K false):=by
  intro pins s σ H x y v u Q I rx ry h
  obtain ⟨p,xs,rfl,hq,fx,fs,q⟩:=h
  cases ry
  rcases hq with hq | hq
  · obtain ⟨its,r,pl,hz⟩:=I.list hq
    refine SeqAt.in_listAt (eqU x) pl.isList (fun w hw=>mem_eqAt rx fx r fs w (by simpa using hw)) ⟨.bl _,H,I,rfl,?_⟩
    rw [show its.toArray.any (eqU x)=its.any (eqU x) by simp,any_eqU r fs]
    exact q
  · obtain ⟨its,r,pl,hz⟩:=I.tuple hq
    refine SeqAt.in_tupleAt (eqU x) pl (fun w hw=>mem_eqAt rx fx r fs w (by simpa using hw)) ⟨.bl _,H,I,rfl,?_⟩
    rw [show its.toArray.any (eqU x)=its.any (eqU x) by simp,any_eqU r fs]
    exact q
theorem op_notIn_seq:OpR X (compareOp .NotIn) (rIn X.K true):=by
  intro pins s σ H x y v u Q I rx ry h
  obtain ⟨p,xs,rfl,hq,fx,fs,q⟩:=h
  cases ry
  rcases hq with hq | hq
  · obtain ⟨its,r,pl,hz⟩:=I.list hq
    refine SeqAt.notIn_listAt (eqU x) pl.isList (fun w hw=>mem_eqAt rx fx r fs w (by simpa using hw)) ⟨.bl _,H,I,rfl,?_⟩
    rw [show its.toArray.any (eqU x)=its.any (eqU x) by simp,any_eqU r fs]
    exact q
  · obtain ⟨its,r,pl,hz⟩:=I.tuple hq
    refine SeqAt.notIn_tupleAt (eqU x) pl (fun w hw=>mem_eqAt rx fx r fs w (by simpa using hw)) ⟨.bl _,H,I,rfl,?_⟩
    rw [show its.toArray.any (eqU x)=its.any (eqU x) by simp,any_eqU r fs]
    exact q
theorem call_len_seq:CallR X (.builtin "len") (fun xs H Q=>∃ p ys,xs=[.ref p]/\(SqL X.K H p ys ∨ SqT X.K H p ys)/\Q (.int ys.length) H):=by
  intro pins s σ H xs us Q I r h
  obtain ⟨p,ys,rfl,hq,q⟩:=h
  obtain ⟨u,rfl,rx⟩:=vals1 r
  cases rx
  have hn:=line63
  rcases hq with hq | hq
  · obtain ⟨its,r',pl,hz⟩:=I.list hq
    have hlen:=r'.length
    exact Calls.call_len_list pl.isList (by simp only [List.size_toArray] <;> omega) ⟨.int ys.length,H,I.tok _,⟨s.toks + 1,by rw [List.size_toArray,hlen]⟩,q⟩
  · obtain ⟨its,r',pl,hz⟩:=I.tuple hq
    have hlen:=r'.length
    exact len_tuple pl (by simp only [List.size_toArray] <;> omega) ⟨.int ys.length,H,I.tok _,⟨s.toks + 1,by rw [List.size_toArray,hlen]⟩,q⟩
theorem call_len_str:CallR X (.builtin "len") (fun xs H Q=>∃ z,xs=[.str z]/\z.length<=sizeLine/\Q (.int z.length) H):=by
  intro pins s σ H xs us Q I r h
  obtain ⟨z,rfl,hz,q⟩:=h
  obtain ⟨u,rfl,t,rfl⟩:=vals1 r
  have hn:=line63
  exact len_str (by omega) ⟨.int z.length,H,I.tok _,⟨_,rfl⟩,q⟩
theorem CallR.or {f:Value}{r r':List V->Hp->VK->Prop} (h:CallR X f r) (h':CallR X f r'):CallR X f (fun xs H Q=>r xs H Q ∨ r' xs H Q):=by
  intro pins s σ H xs us Q I rs q
  rcases q with q | q
  · exact h pins s σ H xs us Q I rs q
  · exact h' pins s σ H xs us Q I rs q
theorem call_list_of:CallR X (.type "list") (fun xs H Q=>∃ p ys,xs=[.ref p]/\(SqL X.K H p ys ∨ SqT X.K H p ys)/\∀ l,H l=none->Q (.ref l) (upd H l (.lst ys))):=by
  intro pins s σ H xs us Q I r h
  obtain ⟨p,ys,rfl,hq,q⟩:=h
  obtain ⟨u,rfl,rx⟩:=vals1 r
  cases rx
  have fin:∀ (its:List Value),Vals ys its->ys.length<=sizeLine->∀ (h':Heap) (c':Nat),(∀ b o',s.heap.get? b=some o'->h'.get? b=some o') →
      h'.get? s.heap.objs.size=some { cls:=.type "list",dict:=none,data:=.seq its.toArray c',slots:=#[] }->EP X pins σ Q (.ref s.heap.objs.size) { s with heap:=h' }:=fun its r' hz h' c' kp e =>
    ⟨.ref s.heap.objs.size,_,I.laid (t':=s.toks) kp (Nat.le_refl _) (show ObjOk X.prog X.w _ h' _ (.lst ys) from ⟨hz,its,c',r',e⟩),rfl,q _ (I.hok.fresh (Nat.le_refl _))⟩
  rcases hq with hq | hq
  · obtain ⟨its,r',pl,hz⟩:=I.list hq
    have hlen:=r'.length
    obtain ⟨o,ho,hc,n,hd⟩:=pl.isList
    exact call_list_seq p (.inl rfl) ho hc hd (fun h' c' kp e=>fin its r' hz h' c' kp e) (by simp only [List.size_toArray] <;> omega)
  · obtain ⟨its,r',pl,hz⟩:=I.tuple hq
    have hlen:=r'.length
    obtain ⟨o,ho,hc,n,hd⟩:=pl
    exact call_list_seq p (.inr rfl) ho hc hd (fun h' c' kp e=>fin its r' hz h' c' kp e) (by simp only [List.size_toArray] <;> omega)
def tyV (K:PySem.W.Frag) (T:String) (x:V) (H:Hp):Prop:=match x with
  | .str _=>T="str"
  | .int _=>T="int"
  | .ref p=>(T="list"/\∃ xs,SqL K H p xs) ∨ (T="tuple"/\∃ o,K.lookup p=some o/\o.cls=.type "tuple"/\o.dict=none) ∨
      (T="dict"/\((∃ kvs,H p=some (.dK kvs)) ∨ ∃ kvs,H p=some (.dT kvs))) ∨ (T="set"/\∃ S n,H p=some (.set S n))
  | _=>False
theorem tyV_is {pins:List (Addr × Obj)}{σ:St}{H:Hp}{s:Shared}{T:String}{x:V}{v:Value} (I:Inv X pins σ H s) (r:RelV x v) (ty:tyV X.K T x H) :
    s.TypeIs v T/\∀ a,v=.ref a->∃ ob,s.heap.get? a=some ob/\ob.dict=none:=by
  cases x with
  | str z =>
    obtain ⟨t,rfl⟩:=r
    cases (show T="str" from ty)
    exact ⟨typeIs_str s z t,fun _ e=>nomatch e⟩
  | int i =>
    obtain ⟨t,rfl⟩:=r
    cases (show T="int" from ty)
    exact ⟨typeIs_int s i t,fun _ e=>nomatch e⟩
  | ref p =>
    cases r
    rcases ty with ⟨rfl,xs,hq⟩ | ⟨rfl,o,hk,hc,hd⟩ | ⟨rfl,hk⟩ | ⟨rfl,S,n,hk⟩
    · obtain ⟨its,_,pl,_⟩:=I.list hq
      refine ⟨pl.isList.typeIs,fun a e=>?_⟩
      cases e
      obtain ⟨o,n,e,c,hd,_⟩:=pl
      exact ⟨o,e,hd⟩
    · refine ⟨⟨o,I.kIn p o hk,hc⟩,fun a e=>?_⟩
      cases e
      exact ⟨o,I.kIn _ o hk,hd⟩
    · have z:∃ o,s.heap.get? p=some o/\o.ExactDict:=by
        rcases hk with ⟨kvs,hk⟩ | ⟨kvs,hk⟩
        · obtain ⟨_,_,_,_,o,_,_,e,ex,_⟩:=I.hok p _ hk
          exact ⟨o,e,ex⟩
        · obtain ⟨_,_,_,_,o,_,_,e,ex,_⟩:=I.hok p _ hk
          exact ⟨o,e,ex⟩
      obtain ⟨o,e,ex⟩:=z
      refine ⟨⟨o,e,ex.1⟩,fun a e2=>?_⟩
      cases e2
      exact ⟨o,e,ex.2.1⟩
    · obtain ⟨o,_,_,_,e,ex,_⟩:=I.hok p _ hk
      refine ⟨⟨o,e,ex.1⟩,fun a e2=>?_⟩
      cases e2
      exact ⟨o,e,ex.2.1⟩
  | _=>exact False.elim ty
def tBM0 (K:PySem.W.Frag) (T:String) (r:V->List V->Hp->VK->Prop) (to:TE):TE:=fun σ H Q=>to σ H fun x H1=>tyV K T x H1/\r x [] H1 Q
def tBM (K:PySem.W.Frag) (T:String) (r:V->List V->Hp->VK->Prop) (to:TE) (t:TA):TE:=fun σ H Q=>to σ H fun x H1=>tyV K T x H1/\t σ H1 fun xs H2=>r x xs H2 Q
variable {o e:Expr}{es:List Expr}{to:TE}{t:TA}{name:Str}{apos cpos:Pos}{T id:String}{r:V->List V->Hp->VK->Prop}
theorem pe_bm0 (pa:PlainAttrs T) (slot:Slot T name id) (hty:typeOf (.builtin id)=pure (.type "method_descriptor")) (hm:MtR X id r) (ho:PE X o to)
    (hbase:attributeBase o name X.env (eval o X.env)=eval o X.env:=by rfl) (hline:(apos.endLine == cpos.line)=true:=by rfl):PE X (.Call (.Attribute o name apos) [] [] cpos) (tBM0 X.K T r to):=by
  intro pins s σ H Q I h
  refine wpAny_Call_method0_late hbase hline (thn (ho pins s σ H _ I h) fun v s1 ⟨x,H1,I1,r1,ty,q1⟩=>?_)
  obtain ⟨h1,h2⟩:=tyV_is I1 r1 ty
  exact ⟨T,id,pa,slot,hty,h1,h2,Calls.callWith_builtin rfl (PySem.evalArgs_none (hm pins s1 σ H1 x [] v [] Q I1 r1 .nil q1))⟩
theorem pe_bm (pa:PlainAttrs T) (slot:Slot T name id) (hty:typeOf (.builtin id)=pure (.type "method_descriptor")) (hm:MtR X id r) (ho:PE X o to) (ha:PA X (e::es) t)
    (hbase:attributeBase o name X.env (eval o X.env)=eval o X.env:=by rfl)
    (hfew:((backTo cpos (starEach (e::es) X.env)).all (fun x=>!x.1) && (backToKw cpos (keywordEach [] X.env)).all (fun x=>x.1.isSome)
      && decide ((e::es).length + ([]:List Keyword).length + (if ([]:List Keyword).isEmpty then 0 else 1) < 30))=true:=by rfl)
    (hline:(apos.endLine == cpos.line)=true:=by rfl) (hs:starEach (e::es) X.env=(false,eval e X.env)::starEach es X.env:=by rfl) (hplain:(backTo cpos (starEach es X.env)).any (·.1)=false:=by rfl) :
    PE X (.Call (.Attribute o name apos) (e::es) [] cpos) (tBM X.K T r to t):=by
  intro pins s σ H Q I h
  refine wpAny_Call_method_late hbase hfew hline rfl (thn (ho pins s σ H _ I h) fun v s1 ⟨x,H1,I1,r1,ty,q1⟩=>?_)
  obtain ⟨h1,h2⟩:=tyV_is I1 r1 ty
  refine ⟨T,id,pa,slot,hty,h1,h2,?_⟩
  have hA:=ha cpos pins s1 σ H1 _ I1 q1
  rw [hs] at hA ⊢
  refine Calls.callWith_builtin (by show (false || (backTo cpos (starEach es X.env)).any (·.1))=false;rw [hplain] <;> rfl) (Calls.evalArgs_plain ?_)
  exact thn hA fun us s2 ⟨vs,H2,I2,r2,q2⟩=>hm pins s2 σ H2 x vs v us Q I2 r1 r2 q2
end
end L2

namespace L2
open PySem PySem.Spec PyProof.Rows

def MtM (X:Cx) (id:String) (r:V->List V->Hp->VK->Prop):Prop :=
  ∀ (pins:List (Addr × Obj)) (s:Shared) (σ:St) (H:Hp) (x:V) (xs:List V) (v:Value) (us:List Value) (Q:VK),Inv X pins σ H s->RelV x v->Vals xs us->r x xs H Q →
    wpAny (model X.prog X.w) X.A (call (.builtin id) (v::us)) (EP X pins σ Q) X.xe s

theorem Vals.one:∀ {x:V}{us:List Value},Vals [x] us->∃ u,us=[u]/\RelV x u
  | _,_,.cons r .nil=>⟨_,rfl,r⟩
theorem Vals.two:∀ {x y:V}{us:List Value},Vals [x,y] us->∃ u v,us=[u,v]/\RelV x u/\RelV y v
  | _,_,_,.cons r (.cons q .nil)=>⟨_,_,rfl,r,q⟩
theorem Vals.zero:∀ {us:List Value},Vals [] us->us=[]
  | _,.nil=>rfl
theorem Vals.reverse {xs:List V}{us:List Value} (h:Vals xs us):Vals xs.reverse us.reverse:=by
  induction h with
  | nil=>exact .nil
  | cons r t ih=>rw [List.reverse_cons,List.reverse_cons];exact Vals.append ih (.cons r .nil)
theorem Vals.rep {xs:List V}{us:List Value} (h:Vals xs us):∀ k:Nat,Vals (List.replicate k xs).flatten (List.replicate k us).flatten
  | 0=>.nil
  | k + 1=>by
    rw [List.replicate_succ,List.replicate_succ,List.flatten_cons,List.flatten_cons]
    exact Vals.append h (Vals.rep h k)
theorem foldl_rep (its:List Value):∀ (k:Nat) (acc:List Value),
    List.foldl (fun x1 x2=>x1++x2) acc.toArray (List.replicate k its.toArray)=(acc++(List.replicate k its).flatten).toArray
  | 0,acc=>by simp
  | k + 1,acc=>by
    have e:acc.toArray++its.toArray=(acc++its).toArray:=by simp
    have e2:(acc++its)++(List.replicate k its).flatten=acc++(List.replicate (k + 1) its).flatten:=by
      rw [List.replicate_succ,List.flatten_cons,List.append_assoc]
    rw [← e2,← foldl_rep its k (acc++its),← e,List.replicate_succ,List.foldl_cons]

section
variable {X:Cx}{pins:List (Addr × Obj)}{σ:St}{H:Hp}{s:Shared}{l b:Addr}{xs ys zs:List V}

theorem Inv.lset {its its':List Value}{n:Nat}{f:Array Value->Array Value}{t':Nat} (I:Inv X pins σ H s) (hH:H l=some (.lst xs))
    (e:s.heap.get? l=some { cls:=.type "list",data:=.seq its.toArray n }) (hf:f its.toArray=its'.toArray) (hv:Vals ys its') (hz:ys.length<=sizeLine) :
    Inv X pins σ (upd H l (.lst ys)) { s with heap:=s.heap.update l (Obj.mapSeq f),toks:=t' }:=by
  have q:=PySem.IsL.update e f
  rw [hf] at q
  refine I.write (x:=l) (e:=l) (by rw [hH];exact trivial) (.inl rfl) (fun b' u hb hu=>(Heap.get?_update_other s.heap (Obj.mapSeq f) (Ne.symm hb)).trans hu) ⟨_,q⟩ ?_
  exact ⟨hz,its',_,hv,q⟩
theorem Inv.lnew {its:List Value}{t':Nat} (I:Inv X pins σ H s) (hv:Vals ys its) (hz:ys.length<=sizeLine) :
    Inv X pins σ (upd H s.heap.objs.size (.lst ys)) { s with heap:=s.heap.push { cls:=.type "list",data:=.seq its.toArray },toks:=t' } :=
  I.laid (fun _ _ q=>Heap.get?_push_of_some _ q) (Nat.le_refl _) ⟨hz,its,0,hv,Heap.get?_push_size _ rfl⟩
theorem Inv.fresh (I:Inv X pins σ H s):H s.heap.objs.size=none:=I.hok.fresh (Nat.le_refl _)
theorem Inv.lstM (I:Inv X pins σ H s) (hH:H l=some (.lst xs)):xs.length<=sizeLine/\∃ (its:List Value) (n:Nat),Vals xs its/\xs.length=its.length/\s.heap.get? l=some { cls:=.type "list",data:=.seq its.toArray n }:=by
  obtain ⟨z,its,n,r,e⟩:=I.hok l _ hH
  exact ⟨z,its,n,r,r.length,e⟩

theorem notLongL {n:Nat} (h:n<=sizeLine):Builtin.List.listTooLong n=false:=by
  unfold Builtin.List.listTooLong
  exact decide_eq_false (by omega)
end

section
variable {X:Cx}

def rAppend:V->List V->Hp->VK->Prop:=fun x vs H Q=>∃ l xs y,x=.ref l/\vs=[y]/\H l=some (.lst xs)/\xs.length < sizeLine/\Q .non (upd H l (.lst (xs++[y])))
theorem mt_append:MtM X "list.append" rAppend:=by
  intro pins s σ H x vs v us Q I rx rv h
  obtain ⟨l,xs,y,rfl,rfl,hH,hz,q⟩:=h
  cases rx
  obtain ⟨u,rfl,ru⟩:=rv.one
  obtain ⟨z,its,n,r,hl,e⟩:=I.lstM hH
  refine call_meets F.slot_list_append ⟨_,e,rfl⟩ F.entry_list_append (F.args_list_append_2 _ _) (PySem.list_append l its.toArray n u (by rw [List.size_toArray];omega)) ⟨e,?_⟩
  refine ⟨.non,_,I.lset (its':=its++[u]) hH e (by simp) (r.append (.cons ru .nil)) ?_,rfl,q⟩
  rw [List.length_append,List.length_singleton]
  omega

def rCat:R2:=fun x y H Q=>∃ l b xs zs,x=.ref l/\y=.ref b/\H l=some (.lst xs)/\H b=some (.lst zs)/\xs.length + zs.length<=sizeLine/\∀ p,H p=none->Q (.ref p) (upd H p (.lst (xs++zs)))
theorem op_cat:OpR X (binaryOp .Add) rCat:=by
  intro pins s σ H x y v u Q I rx ry h
  obtain ⟨l,b,xs,zs,rfl,rfl,hH,hB,hz,q⟩:=h
  cases rx
  cases ry
  obtain ⟨z,its,n,r,hl,e⟩:=I.lstM hH
  obtain ⟨z2,its2,n2,r2,hl2,e2⟩:=I.lstM hB
  refine PySem.P.add_list e e2 ?_ (by rw [List.size_toArray,List.size_toArray];omega)
  have ea:its.toArray++its2.toArray=(its++its2).toArray:=by simp
  rw [ea]
  exact ⟨.ref _,_,I.lnew (t':=s.toks) (r.append r2) (by rw [List.length_append];omega),rfl,q _ I.fresh⟩
def rRep:R2:=fun x y H Q=>∃ l k xs,x=.ref l/\y=.int k/\H l=some (.lst xs)/\-(2 ^ 63)<=k/\k < 2 ^ 63/\xs.length * k.toNat<=sizeLine ∧
  ∀ p,H p=none->Q (.ref p) (upd H p (.lst (List.replicate k.toNat xs).flatten))
theorem len_rep {α:Type} (xs:List α) (k:Nat):(List.replicate k xs).flatten.length=k * xs.length:=by
  induction k with
  | zero=>simp
  | succ k ih=>rw [List.replicate_succ,List.flatten_cons,List.length_append,ih,Nat.succ_mul,Nat.add_comm]
theorem op_rep:OpR X (binaryOp .Mult) rRep:=by
  intro pins s σ H x y v u Q I rx ry h
  obtain ⟨l,k,xs,rfl,rfl,hH,h1,h2,hz,q⟩:=h
  cases rx
  obtain ⟨t,rfl⟩:=ry
  obtain ⟨z,its,n,r,hl,e⟩:=I.lstM hH
  have hlen:its.toArray.size * k.toNat<=sizeLine:=by rw [List.size_toArray,← hl];exact hz
  have hcap:¬ its.toArray.size * k.toNat > (2 ^ 63 - 1) / 8:=by
    have:(sizeLine:Nat)<=(2 ^ 63 - 1) / 8:=by decide
    omega
  have hfit:¬ (!Builtin.List.listFitsIndex k)=true:=by
    rw [fitsIndex_both h1 h2]
    exact Bool.false_ne_true
  have hlong:¬ Builtin.List.listTooLong (its.toArray.size * k.toNat)=true:=by
    rw [notLongL hlen]
    exact Bool.false_ne_true
  have hnew:List.foldl (fun x1 x2=>x1++x2) #[] (List.replicate (if its.toArray.isEmpty=true then 0 else k.toNat) its.toArray)=(List.replicate k.toNat its).flatten.toArray:=by
    have f0:∀ m:Nat,List.foldl (fun x1 x2=>x1++x2) #[] (List.replicate m its.toArray)=(List.replicate m its).flatten.toArray:=fun m=>by
      have:=foldl_rep its m []
      rw [List.nil_append] at this
      exact this
    rw [f0]
    cases its with
    | nil=>simp
    | cons a r'=>rw [if_neg (by simp)]
  refine wpAny_binaryOp_repeat_ref (T:="list") (U:="int") (by decide) ⟨_,e,rfl⟩ (fun s'=>typeIs_int s' k t) noFill_list_mul F.fills_int_mul F.slot_int_rmul repeat_list F.slot_int_index.lookup
    (call_meets F.slot_int_rmul (typeIs_int s k t) F.entry_int_rmul (F.args_int_rmul_2 _ _) (int___rmul___int_list k t l its.toArray n)
      ⟨e,rfl,⟨_,e,rfl⟩,call_meets F.slot_list_mul ⟨_,e,rfl⟩ F.entry_list_mul (F.args_list_mul_2 _ _) (AutoListH.list___mul___list_int_3 l its.toArray n k t hfit hcap hlong) ⟨e,?_⟩⟩)
  rw [hnew]
  exact ⟨.ref _,_,I.lnew (t':=s.toks) (r.rep k.toNat) (by rw [len_rep,Nat.mul_comm];exact hz),rfl,q _ I.fresh⟩

end

section
variable {prog:Program}{w:World}{A:Around}{E:Value->Shared->Prop}{s:Shared}
end

section
variable {X:Cx}
end
end L2


namespace L2
open PySem PySem.Spec PyProof.Rows

section
variable {κ:Type} [DecidableEq κ]
def valV (kvs:List (κ × V)) (k:κ):Option V:=(kvs.find? fun kv=>decide (kv.1=k)).map (·.2)
def putK (kvs:List (κ × V)) (k:κ) (v:V):List (κ × V) :=
  if (kvs.any fun kv=>decide (kv.1=k))=true then kvs.map (fun kv=>if kv.1=k then (kv.1,v) else kv) else kvs++[(k,v)]
def dropK (kvs:List (κ × V)) (k:κ):List (κ × V):=kvs.filter fun kv=>decide (kv.1≠k)

theorem valV_pos {p:κ × V}{r:List (κ × V)}{k:κ} (e:p.1=k):valV (p::r) k=some p.2:=by simp [valV,List.find?_cons,e]
theorem valV_neg {p:κ × V}{r:List (κ × V)}{k:κ} (e:¬ p.1=k):valV (p::r) k=valV r k:=by simp [valV,List.find?_cons,e]
theorem valV_any (k:κ):∀ kvs:List (κ × V),(kvs.any fun kv=>decide (kv.1=k))=(valV kvs k).isSome
  | []=>rfl
  | p::r=>by
    rw [List.any_cons]
    by_cases e:p.1=k
    · simp only [valV_pos e,decide_eq_true e,Bool.true_or,Option.isSome_some]
    · rw [valV_neg e,decide_eq_false e,Bool.false_or];exact valV_any k r
theorem valV_map (k j:κ) (y:V):∀ kvs:List (κ × V),valV (kvs.map fun kv=>if kv.1=k then (kv.1,y) else kv) j=(valV kvs j).map fun x=>if j=k then y else x
  | []=>rfl
  | p::r=>by
    have ih:=valV_map k j y r
    rw [List.map_cons]
    by_cases h:p.1=k
    · rw [if_pos h]
      by_cases e:p.1=j
      · rw [valV_pos (p:=(p.1,y)) e,valV_pos e,Option.map_some,if_pos (e.symm.trans h)]
      · rw [valV_neg (p:=(p.1,y)) e,valV_neg e,ih]
    · rw [if_neg h]
      by_cases e:p.1=j
      · rw [valV_pos (p:=p) e,valV_pos e,Option.map_some,if_neg (fun z=>h (e.trans z))]
      · rw [valV_neg (p:=p) e,valV_neg e,ih]
theorem valV_snoc (k j:κ) (y:V):∀ kvs:List (κ × V),valV kvs k=none->valV (kvs++[(k,y)]) j=if j=k then some y else valV kvs j
  | [],_=>by
    by_cases e:k=j
    · rw [if_pos e.symm];exact valV_pos (p:=(k,y)) e
    · rw [if_neg (fun z=>e z.symm)];exact valV_neg (p:=(k,y)) e
  | p::r,hn=>by
    rw [List.cons_append]
    have hk:¬ p.1=k:=fun z=>by rw [valV_pos z] at hn;cases hn
    rw [valV_neg hk] at hn
    have ih:=valV_snoc k j y r hn
    by_cases e:p.1=j
    · rw [valV_pos e,valV_pos e,if_neg (fun z=>hk (e.trans z))]
    · rw [valV_neg e,valV_neg e,ih]
theorem valV_put (kvs:List (κ × V)) (k j:κ) (y:V):valV (putK kvs k y) j=if j=k then some y else valV kvs j:=by
  unfold putK
  by_cases a:(kvs.any fun kv=>decide (kv.1=k))=true
  · rw [if_pos a,valV_map]
    rw [valV_any] at a
    by_cases e:j=k
    · obtain ⟨x,hx⟩:=Option.isSome_iff_exists.mp a
      rw [if_pos e,e,hx,Option.map_some,if_pos rfl]
    · rw [if_neg e]
      cases valV kvs j with
      | none=>rfl
      | some x=>rw [Option.map_some,if_neg e]
  · rw [if_neg a]
    refine valV_snoc k j y kvs ?_
    rw [valV_any] at a
    cases q:valV kvs k with
    | none=>rfl
    | some x=>rw [q] at a;exact (a rfl).elim
theorem length_putK (kvs:List (κ × V)) (k:κ) (v:V):(putK kvs k v).length<=kvs.length + 1:=by
  unfold putK
  split
  · rw [List.length_map];omega
  · rw [List.length_append,List.length_cons,List.length_nil];omega
theorem putK_new {kvs:List (κ × V)}{k:κ} (v:V) (h:valV kvs k=none):putK kvs k v=kvs++[(k,v)]:=by
  unfold putK
  rw [valV_any,h]
  exact if_neg (by decide)

theorem RelO.isSome_eq {o:Option V}{u:Option Value} (r:RelO o u):o.isSome=u.isSome:=by
  cases o with
  | none=>cases u with
    | none=>rfl
    | some _=>exact (show False from r).elim
  | some _=>cases u with
    | none=>exact (show False from r).elim
    | some _=>rfl
theorem RelO.getD {o:Option V}{u:Option Value}{d:V}{d':Value} (r:RelO o u) (rd:RelV d d'):RelV (o.getD d) (u.getD d'):=by
  cases o with
  | none=>cases u with
    | none=>exact rd
    | some _=>exact (show False from r).elim
  | some _=>cases u with
    | none=>exact (show False from r).elim
    | some _=>exact r

theorem KV.val {kvs:List (κ × V)}{vs:List (κ × Value)} (r:KV kvs vs) (k:κ):RelO (valV kvs k) (valueAt vs k):=by
  unfold KV at r
  induction r with
  | nil=>exact True.intro
  | @cons p q ps qs h t ih =>
    obtain ⟨h1,h2⟩:=h
    by_cases e:p.1=k
    · have e':q.1=k:=h1.symm.trans e
      have b:valueAt (q::qs) k=some q.2:=by simp [valueAt,List.find?_cons,e']
      rw [valV_pos e,b];exact h2
    · have e':¬ q.1=k:=fun z=>e (h1.trans z)
      have b:valueAt (q::qs) k=valueAt qs k:=by simp [valueAt,List.find?_cons,e']
      rw [valV_neg e,b];exact ih
theorem KV.any {kvs:List (κ × V)}{vs:List (κ × Value)} (r:KV kvs vs) (k:κ):(kvs.any fun kv=>decide (kv.1=k))=vs.any fun kv=>decide (kv.1=k):=by
  unfold KV at r
  induction r with
  | nil=>rfl
  | cons h t ih=>rw [List.any_cons,List.any_cons,ih,h.1]
theorem KV.repl {kvs:List (κ × V)}{vs:List (κ × Value)} (r:KV kvs vs) (k:κ) {y:V}{u:Value} (ry:RelV y u) :
    KV (kvs.map fun kv=>if kv.1=k then (kv.1,y) else kv) (vs.map fun kv=>if kv.1=k then (kv.1,u) else kv):=by
  unfold KV at r ⊢
  induction r with
  | nil=>exact .nil
  | @cons p q ps qs h t ih =>
    rw [List.map_cons,List.map_cons]
    refine .cons ?_ ih
    obtain ⟨h1,h2⟩:=h
    by_cases e:p.1=k
    · rw [if_pos e,if_pos (h1.symm.trans e)];exact ⟨h1,ry⟩
    · rw [if_neg e,if_neg (fun z=>e (h1.trans z))];exact ⟨h1,h2⟩
theorem KV.put {kvs:List (κ × V)}{vs:List (κ × Value)} (r:KV kvs vs) (k:κ) {y:V}{u:Value} (ry:RelV y u):KV (putK kvs k y) (stored vs k u):=by
  unfold putK stored
  rw [r.any k]
  by_cases e:(vs.any fun kv=>decide (kv.1=k))=true
  · rw [if_pos e,if_pos e];exact r.repl k ry
  · rw [if_neg e,if_neg e];exact Paired.snoc r ⟨rfl,ry⟩
theorem KV.drop {kvs:List (κ × V)}{vs:List (κ × Value)} (r:KV kvs vs) (k:κ):KV (dropK kvs k) (without vs k):=by
  unfold KV at r ⊢
  unfold dropK without
  induction r with
  | nil=>exact .nil
  | @cons p q ps qs h t ih =>
    obtain ⟨h1,h2⟩:=h
    rw [List.filter_cons,List.filter_cons]
    by_cases e:p.1=k
    · have a:¬ decide (p.1≠k)=true:=by simp [e]
      have b:¬ decide (q.1≠k)=true:=by simp [h1.symm.trans e]
      rw [if_neg a,if_neg b];exact ih
    · have e':¬ q.1=k:=fun z=>e (h1.trans z)
      have a:decide (p.1≠k)=true:=by simp [e]
      have b:decide (q.1≠k)=true:=by simp [e']
      rw [if_pos a,if_pos b];exact .cons ⟨h1,h2⟩ ih
theorem KV.keys {kvs:List (κ × V)}{vs:List (κ × Value)} (r:KV kvs vs):kvs.map (·.1)=vs.map (·.1):=by
  unfold KV at r
  induction r with
  | nil=>rfl
  | cons h t ih=>rw [List.map_cons,List.map_cons,ih,h.1]
theorem KV.length {kvs:List (κ × V)}{vs:List (κ × Value)} (r:KV kvs vs):kvs.length=vs.length:=Paired.length r
end


theorem kV_is {P:Program}{w:World}{k:Key}{u:Value} (r:RelV (kV k) u):(mixKind P w).is k u=true:=by
  cases k with
  | inl i=>obtain ⟨t,e⟩:=(show ∃ t,u=Value.int i t from r);subst e;exact mixKind_int P w i t
  | inr x=>obtain ⟨t,e⟩:=(show ∃ t,u=Value.str x t from r);subst e;exact mixKind_str P w x t
theorem items_are {P:Program}{w:World}:∀ {ks:List Key}{us:List Value},Vals (ks.map kV) us->ItemsAre (mixKind P w) ks us
  | [],_,r=>by rw [List.map_nil] at r;cases r;exact .nil
  | k::ks,_,r=>by
    rw [List.map_cons] at r
    cases r with
    | cons h t=>exact .cons (kV_is h) (items_are t)

abbrev KT (H:Hp):List (List Key × V)->List (List Key × Addr × Value)->Prop:=Paired fun p q=>p.1=q.1/\H q.2.1=some (.tup (p.1.map kV))/\RelV p.2 q.2.2
theorem KT.val {H:Hp}{kvs:List (List Key × V)}{xs:List (List Key × Addr × Value)} (r:KT H kvs xs) (k:List Key):RelO (valV kvs k) ((atKey xs k).map (·.2)):=by
  induction r with
  | nil=>exact True.intro
  | @cons p q ps qs h t ih =>
    obtain ⟨h1,_,h2⟩:=h
    by_cases e:p.1=k
    · have e':q.1=k:=h1.symm.trans e
      have b:atKey (q::qs) k=some q.2:=by simp [atKey,List.find?_cons,e']
      rw [valV_pos e,b];exact h2
    · have e':¬ q.1=k:=fun z=>e (h1.trans z)
      have b:atKey (q::qs) k=atKey qs k:=by simp [atKey,List.find?_cons,e']
      rw [valV_neg e,b];exact ih
theorem KT.repl {H:Hp}{kvs:List (List Key × V)}{xs:List (List Key × Addr × Value)} (r:KT H kvs xs) (k:List Key) {y:V}{u:Value} (ry:RelV y u) :
    KT H (kvs.map fun kv=>if kv.1=k then (kv.1,y) else kv) (xs.map (putAt k u)):=by
  induction r with
  | nil=>exact .nil
  | @cons p q ps qs h t ih =>
    rw [List.map_cons,List.map_cons]
    refine .cons ?_ ih
    obtain ⟨h1,h2,h3⟩:=h
    unfold putAt
    by_cases e:p.1=k
    · rw [if_pos e,if_pos (h1.symm.trans e)];exact ⟨h1,h2,ry⟩
    · rw [if_neg e,if_neg (fun z=>e (h1.trans z))];exact ⟨h1,h2,h3⟩
theorem KT.put {H:Hp}{kvs:List (List Key × V)}{xs:List (List Key × Addr × Value)} (r:KT H kvs xs) (k:List Key) {b:Addr}{y:V}{u:Value} (hb:H b=some (.tup (k.map kV))) (ry:RelV y u) :
    KT H (putK kvs k y) (storedH xs k b u):=by
  have e:(kvs.any fun kv=>decide (kv.1=k))=(atKey xs k).isSome:=by
    rw [valV_any,(r.val k).isSome_eq,Option.isSome_map]
  unfold putK storedH
  rw [e]
  by_cases q:(atKey xs k).isSome=true
  · rw [if_pos q,if_pos q];exact r.repl k ry
  · rw [if_neg q,if_neg q];exact Paired.snoc r ⟨rfl,hb,ry⟩
theorem KT.keeps {H H':Hp}{kvs:List (List Key × V)}{xs:List (List Key × Addr × Value)} (r:KT H kvs xs) (ht:∀ b ys,H b=some (.tup ys)->H' b=some (.tup ys)):KT H' kvs xs :=
  Paired.mapP r fun _ _ z=>⟨z.1,ht _ _ z.2.1,z.2.2⟩

section
variable {P:Program}{w:World}{H:Hp}{h:Heap}{a:Addr}
theorem rd_of {u:HO} (ok:HOk P w H h) (e:Rd H a u):ObjOk P w H h a u:=e.ok ok
theorem dk_rd {kvs:List (Key × V)} (ok:HOk P w H h) (e:Rd H a (.dK kvs)):kvs.length<=sizeLine/\(a == sysModules)=false/\∃ vs,KV kvs vs/\h.DictOf (mixKind P w) a vs :=
  show ObjOk P w H h a (.dK kvs) from rd_of ok e
theorem dk_of {kvs:List (Key × V)} (ok:HOk P w H h) (e:H a=some (.dK kvs)):kvs.length<=sizeLine/\(a == sysModules)=false/\∃ vs,KV kvs vs/\h.DictOf (mixKind P w) a vs:=dk_rd ok (.inl e)
theorem key_of {ks:List Key} (ok:HOk P w H h) (e:H a=some (.tup (ks.map kV))):(tupleKind (mixKind P w)).is h ks a:=by
  obtain ⟨_,its,r,o,h1,h2,n,h3⟩:=(show ObjOk P w H h a (.tup (ks.map kV)) from ok a _ e)
  exact ⟨o,its.toArray,n,h1,h2,h3,by simpa using items_are r⟩
theorem dt_rd {kvs:List (List Key × V)} (ok:HOk P w H h) (e:Rd H a (.dT kvs)):kvs.length<=sizeLine/\(a == sysModules)=false ∧
    ∃ xs,KT H kvs xs/\h.DictOfH (tupleKind (mixKind P w)) a xs:=by
  obtain ⟨z,y,xs,r,o,es,ep,h1,h2,h3,h4,h5⟩:=(show ObjOk P w H h a (.dT kvs) from rd_of ok e)
  refine ⟨z,y,xs,r,o,es,ep,h1,h2,h3,h4,fun x hx=>?_,h5⟩
  have all:∀ {l:List (List Key × V)}{m:List (List Key × Addr × Value)},KT H l m->∀ x∈m,(tupleKind (mixKind P w)).is h x.1 x.2.1:=by
    intro l m q
    induction q with
    | nil=>intro x hx;exact nomatch hx
    | @cons p q ps qs hq t ih =>
      intro x hx
      rcases List.mem_cons.mp hx with e | hx
      · subst e
        exact key_of ok (by rw [← hq.1];exact hq.2.1)
      · exact ih x hx
  exact all r x hx
theorem dt_of {kvs:List (List Key × V)} (ok:HOk P w H h) (e:H a=some (.dT kvs)):kvs.length<=sizeLine/\(a == sysModules)=false ∧
    ∃ xs,KT H kvs xs/\h.DictOfH (tupleKind (mixKind P w)) a xs:=dt_rd ok (.inl e)
end

def DGet (H:Hp) (a:Addr) (y:V) (r:Option V):Prop :=
  (∃ kvs k,Rd H a (.dK kvs)/\y=kV k/\r=valV kvs k) ∨ ∃ kvs k b,Rd H a (.dT kvs)/\y=.ref b/\H b=some (.tup (k.map kV))/\r=valV kvs k
def DPut (H:Hp) (a:Addr) (y v:V) (H':Hp):Prop :=
  (∃ kvs k,H a=some (.dK kvs)/\y=kV k/\kvs.length < sizeLine/\H'=upd H a (.dK (putK kvs k v))) ∨
  ∃ kvs k b,H a=some (.dT kvs)/\y=.ref b/\H b=some (.tup (k.map kV))/\kvs.length < sizeLine/\H'=upd H a (.dT (putK kvs k v))
theorem DGet.k {H:Hp}{a:Addr}{kvs:List (Key × V)}{k:Key} (e:H a=some (.dK kvs)):DGet H a (kV k) (valV kvs k):=.inl ⟨kvs,k,.inl e,rfl,rfl⟩
theorem DGet.t {H:Hp}{a b:Addr}{kvs:List (List Key × V)}{k:List Key} (e:H a=some (.dT kvs)) (eb:H b=some (.tup (k.map kV))):DGet H a (.ref b) (valV kvs k):=.inr ⟨kvs,k,b,.inl e,rfl,eb,rfl⟩
theorem DPut.k {H:Hp}{a:Addr}{kvs:List (Key × V)}{k:Key}{v:V} (e:H a=some (.dK kvs)) (hl:kvs.length < sizeLine):DPut H a (kV k) v (upd H a (.dK (putK kvs k v))):=.inl ⟨kvs,k,e,rfl,hl,rfl⟩
theorem DPut.t {H:Hp}{a b:Addr}{kvs:List (List Key × V)}{k:List Key}{v:V} (e:H a=some (.dT kvs)) (eb:H b=some (.tup (k.map kV))) (hl:kvs.length < sizeLine) :
    DPut H a (.ref b) v (upd H a (.dT (putK kvs k v))):=.inr ⟨kvs,k,b,e,rfl,eb,hl,rfl⟩


section
variable {X:Cx}{pins:List (Addr × Obj)}{σ:St}{H:Hp}{s:Shared}{a:Addr}{y v:V}{u r:Value}{o:Option V}{A:Around}{E:Value->Shared->Prop}

theorem Inv.big (I:Inv X pins σ H s):sysModules < s.heap.objs.size:=by
  have h:mainGlobals < s.heap.objs.size:=(I.mod.glob.keeps I.bk).lt
  exact Nat.lt_trans (by decide) h

theorem d_getItem {Q:Value->Shared->Prop} (hu:A.units + 1 < cLine) (I:Inv X pins σ H s) (g:DGet H a y (some v)) (ry:RelV y u) (h:∀ w' s',Inv X pins σ H s'->RelV v w'->Q w' s') :
    wpAny (model X.prog X.w) A (getItem (.ref a) u) Q E s:=by
  rcases g with ⟨kvs,k,e,ey,l⟩ | ⟨kvs,k,b,e,ey,eb,l⟩
  · subst ey
    obtain ⟨z,hd,vs,rel,dd⟩:=dk_rd I.hok e
    obtain ⟨w',hw,rw'⟩:=RelO.some_of (v:=v) (o:=valueAt vs k) (by rw [l];exact rel.val k)
    exact wpAny_getItem_of (kV_is ry) dd.mapOf hw (h w' _ (I.tok _) rw')
  · subst ey
    cases (show u=Value.ref b from ry)
    obtain ⟨z,hd,xs,rel,dd⟩:=dt_rd I.hok e
    obtain ⟨w',hw,rw'⟩:=RelO.some_of (v:=v) (o:=(atKey xs k).map (·.2)) (by rw [l];exact rel.val k)
    obtain ⟨p,hp,hp2⟩:=Option.map_eq_some_iff.mp hw
    refine wpAny_getItem_heap (tupleKind_room_in1 hu) (key_of I.hok eb) dd hp ?_
    rw [hp2]
    exact h w' _ (I.tok _) rw'
theorem d_in {Q:Value->Shared->Prop} (hu:A.units + 1 < cLine) (I:Inv X pins σ H s) (g:DGet H a y o) (ry:RelV y u) (h:∀ s',Inv X pins σ H s'->Q (.bool o.isSome) s') :
    wpAny (model X.prog X.w) A (compareOp .In u (.ref a)) Q E s:=by
  rcases g with ⟨kvs,k,e,ey,l⟩ | ⟨kvs,k,b,e,ey,eb,l⟩
  · subst ey
    obtain ⟨z,hd,vs,rel,dd⟩:=dk_rd I.hok e
    refine wpAny_in_of (kV_is ry) hd dd.mapOf ?_
    rw [← (rel.val k).isSome_eq,← l]
    exact h _ (I.tok _)
  · subst ey
    cases (show u=Value.ref b from ry)
    obtain ⟨z,hd,xs,rel,dd⟩:=dt_rd I.hok e
    refine wpAny_in_heap (tupleKind_room_in1 hu) (key_of I.hok eb) hd dd ?_
    have q:=(rel.val k).isSome_eq
    rw [Option.isSome_map] at q
    rw [← q,← l]
    exact h _ (I.tok _)
theorem d_notIn {Q:Value->Shared->Prop} (hu:A.units + 1 < cLine) (I:Inv X pins σ H s) (g:DGet H a y o) (ry:RelV y u) (h:∀ s',Inv X pins σ H s'->Q (.bool (!o.isSome)) s') :
    wpAny (model X.prog X.w) A (compareOp .NotIn u (.ref a)) Q E s:=by
  rcases g with ⟨kvs,k,e,ey,l⟩ | ⟨kvs,k,b,e,ey,eb,l⟩
  · subst ey
    obtain ⟨z,hd,vs,rel,dd⟩:=dk_rd I.hok e
    refine wpAny_notIn_of (kV_is ry) hd dd.mapOf ?_
    rw [← (rel.val k).isSome_eq,← l]
    exact h _ (I.tok _)
  · subst ey
    cases (show u=Value.ref b from ry)
    obtain ⟨z,hd,xs,rel,dd⟩:=dt_rd I.hok e
    refine wpAny_notIn_heap (tupleKind_room_in1 hu) (key_of I.hok eb) hd dd ?_
    have q:=(rel.val k).isSome_eq
    rw [Option.isSome_map] at q
    rw [← q,← l]
    exact h _ (I.tok _)
theorem d_write {h':Heap}{t':Nat}{ob:HO} (I:Inv X pins σ H s) (mu:Mut (H a)) (hs:Heap.SameBut a s.heap h') (he:∃ q,h'.get? a=some q) (new:ObjOk X.prog X.w (upd H a ob) h' a ob) :
    Inv X pins σ (upd H a ob) { s with heap:=h',toks:=t' } :=
  I.write (x:=a) (e:=a) mu (.inl rfl) (fun b q hb z=>(hs.2 b hb).trans z) he new
theorem dk_new {P:Program}{w:World}{H':Hp}{h':Heap}{kvs:List (Key × V)}{vs:List (Key × Value)} (z:kvs.length<=sizeLine) (hd:(a == sysModules)=false) (rel:KV kvs vs) (dd:h'.DictOf (mixKind P w) a vs) :
    ObjOk P w H' h' a (.dK kvs):=⟨z,hd,vs,rel,dd⟩
theorem d_setItem {H':Hp}{Q:Unit->Shared->Prop} (hu:A.units + 1 < cLine) (I:Inv X pins σ H s) (g:DPut H a y v H') (ry:RelV y u) (rv:RelV v r) (h:∀ s',Inv X pins σ H' s'->Q () s') :
    wpAny (model X.prog X.w) A (setItem (.ref a) u r) Q E s:=by
  rcases g with ⟨kvs,k,e,ey,l,eH⟩ | ⟨kvs,k,b,e,ey,eb,l,eH⟩
  · subst ey eH
    obtain ⟨z,hd,vs,rel,dd⟩:=dk_of I.hok e
    have hz:vs.length<=sizeLine:=by rw [← rel.length];exact z
    have hl:(putK kvs k v).length<=sizeLine:=by have:=length_putK kvs k v;omega
    refine wpAny_setItem_pairs (hsz:=hz) (kV_is ry) dd fun h' dd' hs=>h _ ?_
    have he:∃ q,h'.get? a=some q:=let ⟨q,_,_,hq,_⟩:=dd';⟨q,hq⟩
    exact d_write I (by rw [e];exact True.intro) hs he (dk_new hl hd (rel.put k rv) dd')
  · subst ey eH
    cases (show u=Value.ref b from ry)
    obtain ⟨z,hd,xs,rel,dd⟩:=dt_of I.hok e
    have hz:xs.length<=sizeLine:=by rw [← Paired.length rel];exact z
    have hl:(putK kvs k v).length<=sizeLine:=by have:=length_putK kvs k v;omega
    refine wpAny_setItem_heap (hsz:=hz) (tupleKind_room_in1 hu) (key_of I.hok eb) dd fun h' dd' hs=>h _ ?_
    obtain ⟨q,es,ep,hq,h2,h3,h4,_,h5⟩:=dd'
    refine d_write I (by rw [e];exact True.intro) hs ⟨q,hq⟩ ⟨hl,hd,_,(rel.put k eb rv).keeps fun c ys ec=>?_,q,es,ep,hq,h2,h3,h4,h5⟩
    rw [upd_ne (ne_of ec e (fun z=>nomatch z))]
    exact ec
end

section
variable {X:Cx}{pins:List (Addr × Obj)}{σ:St}{H:Hp}{s:Shared}{a:Addr}{kvs:List (Key × V)}{k:Key}{u:Value}{A:Around}{E:Value->Shared->Prop}
end


def NoSl (i:Expr):Prop:=∀ ov iv,subscripted i false ov iv=operate [ov,iv] (getItem ov iv)
theorem subD_of {prog:Program}{w:World}{A:Around}{E:Value->Shared->Prop}{s:Shared}{env:Env}{value slice:Expr}{pos:Pos}{T id:String}{Q:Value->Shared->Prop}
    (hl:typeLookup (.type T) "__getitem__"=pure (some (.builtin id))) (hs:NoSl slice)
    (h:wpAny (model prog w) A (eval value env) (fun o s₁=>wpAny (model prog w) A (eval slice env) (fun i s₂=>s₂.TypeIs o T/\wpAny (model prog w) A (getItem o i) Q E s₂) E s₁) E s) :
    wpAny (model prog w) A (eval (.Subscript value slice pos) env) Q E s:=by
  refine Subscript_ (wpAny_mono h (fun o s₁ h₁=>wpAny_mono h₁ (fun i s₂ h₂=>?_) fun _ _ x=>x) fun _ _ x=>x)
  obtain ⟨hT,h₂⟩:=h₂
  unfold subscriptTail
  refine wpAny_bind ?_
  rw [getitemInPython_of_ne hT.not_modules]
  refine wpAny_bind (wpAny_specialOf hT hl ?_)
  have fin:wpAny (model prog w) A (subscripted slice false o i) (fun r s₃=>wpAny (model prog w) A (letTemporaryGo value o r >>= fun _=>pure r) Q E s₃) E s₂:=by
    rw [hs o i]
    exact wpAny_operating (wpAny_mono h₂ (fun r s₃ h₃=>wpAny_bind (wpAny_letTemporaryGo (wpAny_pure h₃))) fun _ _ x=>x)
  first
    | exact wpAny_pure (wpAny_bind fin)
    | exact wpAny_bind (wpAny_pure (wpAny_bind fin))
    | exact wpAny_bind fin

theorem dict_typeIs {X:Cx}{pins:List (Addr × Obj)}{σ:St}{H:Hp}{s:Shared}{a:Addr}{y:V}{o:Option V} (I:Inv X pins σ H s) (g:DGet H a y o):s.TypeIs (.ref a) "dict":=by
  rcases g with ⟨kvs,k,e,_,_⟩ | ⟨kvs,k,b,e,_,_,_⟩
  · obtain ⟨_,_,vs,_,dd⟩:=dk_rd I.hok e
    exact dd.typeIs
  · obtain ⟨_,_,xs,_,dd⟩:=dt_rd I.hok e
    exact dd.typeIs
def tDGet (td ty:TE):TE:=fun σ H Q=>td σ H fun x H1=>ty σ H1 fun y H2=>∃ a v,x=.ref a/\DGet H2 a y (some v)/\Q v H2
def sDPut (td ty tv:TE):TS:=fun D σ H=>tv σ H fun v H1=>td σ H1 fun x H2=>ty σ H2 fun y H3=>∃ a H4,x=.ref a/\DPut H3 a y v H4/\D.nx σ H4
section
variable {X:Cx}{o i e value:Expr}{pos pos' tpos:Pos}{td ty tv:TE}
theorem pe_dget (hu:X.A.units + 1 < cLine) (ho:PE X o td) (hi:PE X i ty) (hs:NoSl i):PE X (.Subscript o i pos) (tDGet td ty):=by
  intro pins s σ H Q I h
  refine subD_of PySem.F.slot_dict_getitem.lookup hs (thn (ho pins s σ H _ I h) fun u s1 ⟨x,H1,I1,rx,q1⟩=>thn (hi pins s1 σ H1 _ I1 q1) fun iv s2 ⟨y,H2,I2,ry,a,v,ex,g,q2⟩=>?_)
  subst ex
  obtain rfl:u=Value.ref a:=rx
  exact ⟨dict_typeIs I2 g,d_getItem hu I2 g ry fun w' s3 I3 rw'=>⟨v,H2,I3,rw',q2⟩⟩
theorem ps_dput (hu:X.A.units + 1 < cLine) (ho:PE X o td) (hi:PE X i ty) (hv:PE X value tv) (hs:swapsWith value (some (.Subscript o i pos')) pos.line X.env=pure false) :
    PS X (.Assign [.Subscript o i pos'] value pos) (sDPut td ty tv):=by
  intro pins s σ H D I h
  refine wpAny_Assign_Subscript (thn (hv pins s σ H _ I h) fun r s1 ⟨v,H1,I1,rv,q1⟩=>thn (ho pins s1 σ H1 _ I1 q1) fun u s2 ⟨x,H2,I2,rx,q2⟩=>thn (hi pins s2 σ H2 _ I2 q2) fun iv s3 ⟨y,H3,I3,ry,a,H4,ex,g,q3⟩=>?_) hs
  subst ex
  obtain rfl:u=Value.ref a:=rx
  exact d_setItem hu I3 g ry rv fun s4 I4=>⟨σ,H4,I4,q3⟩
end


theorem dk_empty {P:Program}{w:World}{H:Hp} (h:Heap) (hb:sysModules < h.objs.size):ObjOk P w H (h.push { cls:=.type "dict",data:=.dict #[] }) h.objs.size (.dK []) :=
  ⟨Nat.zero_le _,beq_eq_false_iff_ne.mpr (Ne.symm (Nat.ne_of_lt hb)),[],.nil,Heap.DictOf.new h⟩
theorem dt_empty {P:Program}{w:World}{H:Hp} (h:Heap) (hb:sysModules < h.objs.size):ObjOk P w H (h.push { cls:=.type "dict",data:=.dict #[] }) h.objs.size (.dT []) :=
  ⟨Nat.zero_le _,beq_eq_false_iff_ne.mpr (Ne.symm (Nat.ne_of_lt hb)),[],.nil,_,#[],0,Heap.get?_push_size _ rfl,⟨rfl,rfl,rfl⟩,rfl,rfl,List.nodup_nil⟩
def tDNewK:TE:=fun _ H Q=>∀ p,H p=none->Q (.ref p) (upd H p (.dK []))
def tDNewT:TE:=fun _ H Q=>∀ p,H p=none->Q (.ref p) (upd H p (.dT []))
section
variable {X:Cx}{pos:Pos}
theorem pe_dnewK:PE X (.Dict [] [] pos) tDNewK:=fun pins s σ H Q I h =>
  wpAny_Dict_empty ⟨.ref s.heap.objs.size,_,I.laid (a:=s.heap.objs.size) (o:=.dK []) (t':=s.toks) (fun _ _ q=>Heap.get?_push_of_some _ q) (Nat.le_refl _) (dk_empty s.heap I.big),rfl,h _ (I.hok.fresh (Nat.le_refl _))⟩
theorem pe_dnewT:PE X (.Dict [] [] pos) tDNewT:=fun pins s σ H Q I h =>
  wpAny_Dict_empty ⟨.ref s.heap.objs.size,_,I.laid (a:=s.heap.objs.size) (o:=.dT []) (t':=s.toks) (fun _ _ q=>Heap.get?_push_of_some _ q) (Nat.le_refl _) (dt_empty s.heap I.big),rfl,h _ (I.hok.fresh (Nat.le_refl _))⟩
end

def tPairs:List (TE × TE)->St->Hp->(List (V × V)->Hp->Prop)->Prop
  | [],_,H,Q=>Q [] H
  | (tk,tv)::r,σ,H,Q=>tk σ H fun x H1=>tv σ H1 fun y H2=>tPairs r σ H2 fun ps H3=>Q ((x,y)::ps) H3
abbrev VV:List (V × V)->List (Value × Value)->Prop:=Paired fun p q=>RelV p.1 q.1/\RelV p.2 q.2
def PPs (X:Cx) (pos:Pos) (keys:List (Option Expr)) (values:List Expr) (trs:List (TE × TE)):Prop :=
  ∀ (pins:List (Addr × Obj)) (s:Shared) (σ:St) (H:Hp) (Q:List (V × V)->Hp->Prop),Inv X pins σ H s->tPairs trs σ H Q →
    wpAny (model X.prog X.w) X.A (evalPairs (pairTrees keys values X.env pos)) (fun vs s'=>∃ ps H',Inv X pins σ H' s'/\VV ps vs/\Q ps H') X.xe s
theorem pps_nil {X:Cx}{pos:Pos}:PPs X pos [] [] []:=fun pins s σ H Q I h=>pairTrees_nil_walk ⟨[],H,I,.nil,h⟩
theorem pps_cons {X:Cx}{pos:Pos}{k v:Expr}{ks:List (Option Expr)}{vs:List Expr}{tk tv:TE}{trs:List (TE × TE)} (hk:PE X k tk) (hv:PE X v tv) (hr:PPs X pos ks vs trs) :
    PPs X pos (some k::ks) (v::vs) ((tk,tv)::trs):=fun pins s σ H Q I h =>
  pairTrees_cons_walk (thn (hk pins s σ H _ I h) fun u s1 ⟨x,H1,I1,rx,q1⟩=>thn (hv pins s1 σ H1 _ I1 q1) fun w2 s2 ⟨y,H2,I2,ry,q2⟩ =>
    thn (hr pins s2 σ H2 _ I2 q2) fun ws s3 ⟨ps,H3,I3,rel,q3⟩=>⟨(x,y)::ps,H3,I3,.cons ⟨rx,ry⟩ rel,q3⟩)

structure M2 (X:Cx) (o:Expr) (m:Str) (apos:Pos) (e f:Expr) (cpos:Pos):Prop where
  base:attributeBase o m X.env (eval o X.env)=eval o X.env
  few:((backTo cpos (starEach [e,f] X.env)).all (fun x=>!x.1) && (backToKw cpos (keywordEach [] X.env)).all (fun x=>x.1.isSome)
    && decide (([e,f]:List Expr).length + ([]:List Keyword).length + (if ([]:List Keyword).isEmpty then 0 else 1) < 30))=true
  line:(apos.endLine == cpos.line)=true
  trees:backTo cpos (starEach [e,f] X.env)=[(false,eval e X.env),(false,eval f X.env)]

def IsD (H:Hp) (a:Addr):Prop:=(∃ kvs,Rd H a (.dK kvs)) ∨ ∃ kvs,Rd H a (.dT kvs)
theorem isD_at {X:Cx}{pins:List (Addr × Obj)}{σ:St}{H:Hp}{s:Shared}{a:Addr} (I:Inv X pins σ H s) (d:IsD H a) :
    s.TypeIs (.ref a) "dict"/\(∀ b,Value.ref a=.ref b->∃ ob,s.heap.get? b=some ob/\ob.dict=none)/\(a == sysModules)=false:=by
  rcases d with ⟨kvs,e⟩ | ⟨kvs,e⟩
  · obtain ⟨_,hd,vs,_,dd⟩:=dk_rd I.hok e
    refine ⟨dd.typeIs,fun b q=>?_,hd⟩
    cases q
    obtain ⟨ob,_,_,h1,h2,_⟩:=dd
    exact ⟨ob,h1,h2.2.1⟩
  · obtain ⟨_,hd,xs,_,dd⟩:=dt_rd I.hok e
    refine ⟨dd.typeIs,fun b q=>?_,hd⟩
    cases q
    obtain ⟨ob,_,_,h1,h2,_⟩:=dd
    exact ⟨ob,h1,h2.2.1⟩

section
variable {X:Cx}{pins:List (Addr × Obj)}{σ:St}{H:Hp}{s:Shared}{a:Addr}{y d:V}{u r:Value}{o:Option V}{A:Around}{E:Value->Shared->Prop}
theorem d_get2 {Q:Value->Shared->Prop} (hu:A.units + 1 < cLine) (I:Inv X pins σ H s) (g:DGet H a y o) (ry:RelV y u) (rd:RelV d r) (h:∀ w' s',Inv X pins σ H s'->RelV (o.getD d) w'->Q w' s') :
    wpAny (model X.prog X.w) A (call (.builtin "dict.get") [.ref a,u,r]) Q E s:=by
  rcases g with ⟨kvs,k,e,ey,l⟩ | ⟨kvs,k,b,e,ey,eb,l⟩
  · subst ey
    obtain ⟨z,hd,vs,rel,dd⟩:=dk_rd I.hok e
    refine call_meetsIn PySem.F.slot_dict_get dd.typeIs PySem.F.entry_dict_get (PySem.F.args_dict_get_3 _ _ _) (meets_dict_get_default (mixKind X.prog X.w) a (kV_is ry) hd r) ⟨_,dd.mapOf,h _ _ (I.tok _) ?_⟩
    rw [l]
    exact (rel.val k).getD rd
  · subst ey
    cases (show u=Value.ref b from ry)
    obtain ⟨z,hd,xs,rel,dd⟩:=dt_rd I.hok e
    refine call_meetsIn PySem.F.slot_dict_get dd.typeIs PySem.F.entry_dict_get (PySem.F.args_dict_get_3 _ _ _) (meetsH_dict_get_default (tupleKind (mixKind X.prog X.w)) a b hd r) ⟨tupleKind_room_in1 hu,k,xs,key_of I.hok eb,dd,h _ _ (I.tok _) ?_⟩
    rw [l]
    exact (rel.val k).getD rd
end

def tDGet2 (td ty tx:TE):TE:=fun σ H Q=>td σ H fun x H1=>∃ a,x=.ref a/\IsD H1 a/\ty σ H1 fun y H2=>tx σ H2 fun z H3=>∃ o,DGet H3 a y o/\Q (o.getD z) H3
section
variable {X:Cx}{o e f:Expr}{apos cpos:Pos}{td ty tx:TE}
theorem pe_dget2 (hu:X.A.units + 1 < cLine) (ho:PE X o td) (he:PE X e ty) (hf:PE X f tx) (m:M2 X o "get" apos e f cpos):PE X (.Call (.Attribute o "get" apos) [e,f] [] cpos) (tDGet2 td ty tx):=by
  intro pins s σ H Q I h
  refine wpAny_Call_method m.base m.few m.line PySem.F.plainAttrs_dict PySem.F.slot_dict_get PySem.F.type_dict_get (thn (ho pins s σ H _ I h) fun u s1 ⟨x,H1,I1,rx,a,ex,d,q1⟩=>?_)
  subst ex
  obtain rfl:u=Value.ref a:=rx
  obtain ⟨t1,t2,_⟩:=isD_at I1 d
  refine ⟨t1,t2,?_⟩
  rw [m.trees]
  refine Calls.callWith_builtin rfl (Calls.evalArgs_plain (Calls.spliced_cons (thn (he pins s1 σ H1 _ I1 q1) fun iv s2 ⟨y,H2,I2,ry,q2⟩ =>
    Calls.spliced_cons (thn (hf pins s2 σ H2 _ I2 q2) fun fv s3 ⟨z,H3,I3,rz,ov,g,q3⟩=>Calls.spliced_nil ?_))))
  exact d_get2 hu I3 g ry rz fun w' s4 I4 rw'=>⟨_,H3,I4,rw',q3⟩
end

section
variable {X:Cx}{pins:List (Addr × Obj)}{σ:St}{H:Hp}{s:Shared}{a:Addr}{kvs:List (Key × V)}{A:Around}{E:Value->Shared->Prop}
end


section
variable {X:Cx}{pins:List (Addr × Obj)}{σ:St}{H:Hp}{s:Shared}{a:Addr}{y:V}{u:Value}{A:Around}{E:Value->Shared->Prop}
end
end L2


namespace Att
open PySem PySem.W PySem.Calls PyProof.Rows

theorem ints_of_wellAll {P:Params}{h:Heap}:∀ (ns:List Int) (vs:List Value),WellAll P h vs (ns.map WData.int)->IntsAre vs ns:=by
  intro ns
  induction ns with
  | nil =>
    intro vs w
    rw [List.map_nil] at w
    cases w
    exact .nil
  | cons n ns ih =>
    intro vs w
    rw [List.map_cons] at w
    cases w with
    | cons a b =>
      cases a
      exact .cons _ _ (ih _ b)

theorem script_of {l:OpenLaw}{n:Nat} (hn:l.most=some n) {P:Params}{h:Heap}{args:List WData}{vals:List Value}
    (hpre:l.row.toRowW.claim.pre args=true) (hwl:WellAll P h vals args) :
    ∃ a vs ns,vals=[Value.ref a]/\args=[WData.list (ns.map WData.int)]/\h.get? a=some { cls:=.type "list",data:=.seq vs.toArray }/\IntsAre vs ns/\ns.length<=n:=by
  have hsh:WShape.hasAll [] args [.list .int]=true:=(pre_splitW hpre).1
  have hc:l.pre.holds [] { args:=args }=true:=(pre_splitW hpre).2
  obtain ⟨d,r,rfl,h1,h2⟩:=hasAllW_cons hsh
  obtain rfl:=hasAllW_nil h2
  obtain ⟨xs,rfl,h3⟩:=hasW_list h1
  obtain ⟨ns,rfl⟩:=items_int h3
  have hlen:ns.length<=n:=by
    unfold OpenLaw.pre at hc
    have h4:(WTm.not (.lt (.lit (.int (n:Int))) (.len (.arg 0)))).holds [] { args:=[.list (ns.map .int)] }=true:=by
      have h4:=(holds_andW hc).1
      rw [hn] at h4
      exact h4
    have h5:=condW_of h4 (w_not (w_lt w_lit (w_len_list (w_arg rfl))))
    rw [List.length_map] at h5
    refine Nat.le_of_not_lt fun q=>?_
    have q':(n:Int) < ((ns.length:Nat):Int):=by omega
    first
      | (rw [decide_eq_true q'] at h5;exact absurd h5 (by decide))
      | (simp at h5;omega)
  cases hwl with
  | cons w1 w2 =>
    cases w2
    cases w1 with
    | list ho hall=>exact ⟨_,_,ns,rfl,rfl,ho,ints_of_wellAll ns _ hall,hlen⟩

theorem post_true (l:OpenLaw) (args:List WData):l.row.toRowW.claim.post args (.bool true) args=true :=
  postW_of (r:=l.row.toRowW) (X:=(true == true))
    (show WShape.has [] (.bool true) .bool=true by first | rfl | decide | simp [WShape.has,WShape.arms,WShape.armsAll])
    (show (WTm.eq .res (.lit (.bool true))).value [] { args:=args,res:=some (.bool true),after:=args }=some (.bool (true == true)) from w_eq_bool (w_res rfl) w_lit) rfl

theorem attach_call {l:OpenLaw}{n:Nat}{q:Program}{loose:List Str}{XP:(Str->Option Value)->Heap->Prop}{YP:World->Heap->Prop}{d:DefRec}
    (hn:l.most=some n) (hdf:d.params.defaults=[])
    (call:∀ (w:World) (s₀ s₁:Shared) (mg mb:Str->Option Value) (fa:Addr) (o:Obj) (pm cd doc:Value) (a:Addr) (vs:List Value) (ns:List Int),
      Ground q loose [] XP w s₀ mg mb s₁.heap->YP w s₁.heap →
      s₁.heap.get? fa=some o->o.data=.func (docDef d.name d.params d.body d.scope pm cd doc)->s₁.heap.CodeRec cd d.name->mg d.name=some (.ref fa) →
      s₁.heap.get? a=some { cls:=.type "list",data:=.seq vs.toArray }->IntsAre vs ns->ns.length<=n->s₁.gens=#[] →
      codeAny (model l.prog w) callerA (.call (.ref fa) ⟨[.ref a],[]⟩) (fun r s'=>r=.ok (.ret (.bool true))/\OldK s₁.heap s'.heap/\s'.os=s₁.os/\AllBare s'.gens) s₁) :
    WalkO q loose XP YP l.row.toRowW d [] (fun f vs=>PySem.call f vs):=by
  intro w s₀ s₁ mg mb G Y fa o pm cd doc dV kV ho hd hcd hD hmg hg args vals as hpre hlay hrd hwl hlo
  obtain rfl:dV=.none:=Dflts.none hD hdf
  obtain rfl:kV=.none:=Dflts.noKw hD
  obtain ⟨a,vs,ns,rfl,rfl,hobj,hints,hlen⟩:=script_of hn hpre hwl
  refine enter_call (codeAny_mono (call w s₀ s₁ mg mb fa o pm cd doc a vs ns G Y ho (fd_plain hd) hcd hmg hobj hints hlen hg) fun r s' hq=>?_)
  obtain ⟨rfl,h2,h3,h4⟩:=hq
  exact ⟨.inl ⟨.bool true,.bool true,[],rfl,fun _=>rfl,.bool true,post_true l _,fun _=>⟨List.Pairwise.nil,fun _ hm=>(nomatch hm)⟩⟩,h2,h3,h4⟩

section
variable {prog:Program}{w:World}{A:Around}{E:Value->Shared->Prop}{s:Shared}{K:Frag}

def ledger (h:Heap) (L d:Addr):List (Addr × Obj):=(List.range h.objs.size).filterMap fun a=>if a=L ∨ a=d then none else (h.get? a).map fun o=>(a,o)
end
end Att

namespace L2
open PySem PySem.Spec PyProof.Rows

theorem vals_ints:∀ {vs:List Value}{ns:List Int},IntsAre vs ns->Vals (ns.map V.int) vs
  | _,_,.nil=>.nil
  | _,_,.cons n t h=>.cons ⟨t,rfl⟩ (vals_ints h)

end L2

namespace L2
open PySem PySem.Spec PyProof.Rows

end L2

namespace L2
open PySem PySem.Spec PyProof.Rows

def inClass (s:Stmt) (j:Nat):Stmt:=match s with
  | .ClassDef _ _ _ body _ _ _ _ _ _ _=>body.getD j (.Pass ⟨0,0,0,0⟩)
  | _=>.Pass ⟨0,0,0,0⟩
def defArgs (s:Stmt):Arguments:=match s with
  | .FunctionDef _ a _ _ _ _ _ _ _ _=>a
  | _=>{ posonlyargs:=[],args:=[],vararg:=none,kwonlyargs:=[],kw_defaults:=[],kwarg:=none,defaults:=[] }
def defBody (s:Stmt):List Stmt:=match s with
  | .FunctionDef _ _ b _ _ _ _ _ _ _=>b
  | _=>[]
def defScope (s:Stmt):Scope:=match s with
  | .FunctionDef _ _ _ _ _ _ sc _ _ _=>sc
  | _=>{ kind:=.function,names:=[],isGenerator:=false,isCoroutine:=false }

abbrev CX0:CXT:=fun _ _ _ _ _ _=>False
abbrev E0:St->XK:=fun _ _ _ _=>False
structure Fun (K:PySem.W.Frag) (x qual:Str) (st:Stmt) (f:Addr) (fd:FuncData):Prop where
  ex:∃ (oc:Value) (od:Option Addr) (kV doc pm:Value) (an:Option Addr) (cdv ct:Value) (osl:Array (Option Value)),
    fd=PySem.W.fnOf x qual (defArgs st) (defBody st) (defScope st) .none kV doc pm an cdv ct/\K.lookup f=some ⟨oc,od,.func fd,osl⟩/\PySem.W.codeIn K cdv qual=true
  kp:PySem.W.keepIn K (.ref f)=true
section
variable {P:Program}{w:World}{K:PySem.W.Frag}{mg:Str->Option Value}{base:Heap}
theorem Fun.ok {x qual:Str}{st:Stmt}{f:Addr}{fd:FuncData}{N ps:List Str}{k:Nat}{sp:Sp} (F:Fun K x qual st f fd) (S:FnScope N ps (defScope st)) (len:∀ vs H Q E,sp vs H Q E->vs.length=ps.length)
    (hbody:∀ (cdv:Value) (A:Around) (outer:List Env) (s:Shared) (H:Hp) (vs:List V) (Q:VK) (E:XK),Room k (A.deeper (envOfC qual (defScope st) s.heap.objs.size f cdv))->sp vs H Q E →
      ∃ t,PSs (cxOf CX0 P w K mg base N qual (defScope st) f cdv A outer s H E).nox (defBody st) t/\t { nx:=fun _ H'=>Q .non H',rt:=Q } (start N vs) H):FnOk P w K mg base CX0 (k + 1) f fd ps sp:=by
  obtain ⟨oc,od,kV,doc,pm,an,cdv,ct,osl,rfl,lk,hcd⟩:=F.ex
  refine fn_of lk hcd S len fun A outer s H vs Q E hr hsp=>?_
  obtain ⟨t,h,q⟩:=hbody cdv A outer s H vs Q E hr hsp
  exact ⟨t,h.nox,q⟩
theorem Fun.binds {x qual:Str}{st:Stmt}{f:Addr}{fd:FuncData}{ps:List Str} (F:Fun K x qual st f fd)
    (h:∀ (kV doc pm:Value) (an:Option Addr) (cdv ct:Value) (us:List Value),us.length=ps.length->bindArgs (PySem.W.fnOf x qual (defArgs st) (defBody st) (defScope st) .none kV doc pm an cdv ct) ⟨us,[]⟩=pure (ps.zip us)):Binds K fd ps []:=by
  obtain ⟨oc,od,kV,doc,pm,an,cdv,ct,osl,rfl,lk,hcd⟩:=F.ex
  exact .all (h kV doc pm an cdv ct)
theorem fun_mk {x qual:Str}{st:Stmt}{f:Addr}{oc:Value}{od an:Option Addr}{osl:Array (Option Value)}{kV doc pm cdv ct:Value} (l:K.lookup f=some ⟨oc,od,.func (PySem.W.fnOf x qual (defArgs st) (defBody st) (defScope st) .none kV doc pm an cdv ct),osl⟩)
    (c:PySem.W.codeIn K cdv qual=true) (k:PySem.W.keepIn K (.ref f)=true):Fun K x qual st f (PySem.W.fnOf x qual (defArgs st) (defBody st) (defScope st) .none kV doc pm an cdv ct):=⟨⟨oc,od,kV,doc,pm,an,cdv,ct,osl,rfl,l,c⟩,k⟩
end
theorem hu_of {A:Around}{k:Nat} (hr:Room k A):A.units + 1 < cLine:=Nat.lt_of_le_of_lt (Nat.add_le_add_left (by decide:1<=64) _) hr.units
section
variable {X:Cx}
theorem pv (i:Nat) {x:Str}{pos:Pos} (hN:X.N[i]?=some x:=by rfl) (hv:Vis X.env.scope x:=by first | exact Or.inl rfl | exact Or.inr (Or.inl rfl) | exact Or.inr (Or.inr rfl)) (hd:(x == ("__debug__":Str))=false:=by decide)
    (hcd:(x == ("__classdict__":Str))=false:=by decide):PE X (.Name x pos) (tVar i):=pe_var hN hv hd hcd
end

def Same (H H':Hp):Prop:=∀ b o,H b=some o->H' b=some o
theorem Same.refl (H:Hp):Same H H:=fun _ _ h=>h
theorem Same.trans {H H1 H2:Hp} (a:Same H H1) (b:Same H1 H2):Same H H2:=fun c o h=>b c o (a c o h)
theorem Same.free {H H':Hp} (e:Same H H') {l:Addr} (h:H' l=Option.none):H l=Option.none:=by
  cases q:H l with
  | none=>rfl
  | some o =>
    rw [e l o q] at h
    cases h
theorem Same.seq {K:PySem.W.Frag}{H H':Hp}{a:Addr}{xs:List V} (e:Same H H') (h:SqL K H a xs):SqL K H' a xs:=by
  rcases h with (h | ⟨o,h⟩) | h
  · exact .inl (.inl (e _ _ h))
  · exact .inl (.inr ⟨o,e _ _ h⟩)
  · exact .inr h

end L2

namespace L2
open PySem PySem.Spec PyProof.Rows
section
variable {κ:Type} [DecidableEq κ]
end
end L2
namespace L2
open PySem PySem.Spec PyProof.Rows
def HandIn (o:Option Value) (H:Hp):Prop:=o=none ∨ ∃ ea φ,o=some (Value.ref ea)/\H ea=some (HO.ext φ)/\∀ h:Heap,φ h->∃ ob vs,h.get? ea=some ob/\ob.data=.fields vs/\vs[2]?=some Value.none
structure RoomN (k:Nat) (A:Around):Prop where
  dp:A.depth + 3 * k + 5 < recursionLimit
  un:A.units + 16 * k + 200 < cLine
theorem RoomN.mono {j k:Nat}{A:Around} (r:RoomN k A) (h:j<=k):RoomN j A:=⟨by have:=r.dp;omega,by have:=r.un;omega⟩
theorem RoomN.deeper {k:Nat}{A:Around} (r:RoomN (k + 1) A) (env:Env):RoomN k (A.deeper env):=⟨by have:=r.dp;show A.depth + 1 + 3 * k + 5 < _;omega,by have:=r.un;show A.units + 3 + 16 * k + 200 < _;omega⟩
theorem RoomN.depth {k:Nat}{A:Around} (r:RoomN k A):A.depth < recursionLimit:=by have:=r.dp;omega
theorem RoomN.units0 {k:Nat}{A:Around} (r:RoomN k A):A.units < cLine:=by have:=r.un;omega
theorem Room.n {k:Nat}{A:Around} (r:Room k A):RoomN k A:=⟨r.dp,r.un⟩
structure FnOkN (P:Program) (w:World) (K:PySem.W.Frag) (mg:Str->Option Value) (base:Heap) (CX:CXT) (k:Nat) (f:Addr) (fd:FuncData) (ps:List Str) (sp:Sp):Prop where
  len:∀ vs H Q E,sp vs H Q E->vs.length=ps.length
  run:∀ (A:Around) (outer:List Env) (s:Shared) (H:Hp) (args:Args) (us:List Value) (vs:List V) (Q:VK) (E:XK),RoomN k A->HandIn A.handled H->Env0 P w K mg base A outer s H->BindsTo s fd args (ps.zip us)->Vals vs us->sp vs H Q E →
    codeAny (model P w) A (.call (.ref f) args) (CR CX outer P w H s Q E) s
section
variable {X:Cx}{CX:CXT}{k:Nat}{f C:Addr}{fd:FuncData}{ps:List Str}{sp:Sp}{dvs:List V}{ds:List Value}{E:St->XK}{x m:Str}{p pos apos:Pos}{e o:Expr}{es:List Expr}{ta:TE}{t:TA}
end
end L2
set_option Elab.async false
set_option linter.all false
set_option maxRecDepth 100000
set_option maxHeartbeats 4000000
set_option exponentiation.threshold 2000
namespace Mk
def cop (m n:Int):Bool:=decide (Int.gcd n m=1)
def dif (ws:List Int):List Int:=(ws.zip (ws.drop 1)).map fun p=>p.2 - p.1
def safe (m:Int) (ws:List Int):Bool:=(ws++dif ws).all (cop m)
def big:Int:=314159265358979323846264338327950288419716939937510582097494
def ofN (n:Nat):List Int:=(List.range n).map fun (k:Nat)=>(k:Int)
theorem ofN_len (n:Nat):(ofN n).length=n:=by simp [ofN]
theorem mem_ofN {n:Nat}{x:Int}:x∈ofN n ↔ 0<=x/\x < n:=by
  unfold ofN
  rw [List.mem_map]
  constructor
  · rintro ⟨k,hk,rfl⟩
    have:=List.mem_range.mp hk
    omega
  · rintro ⟨h1,h2⟩
    exact ⟨x.toNat,List.mem_range.mpr (by omega),by omega⟩
def cand (m:Int) (found:List Int):List Int:=(ofN m.toNat).filter fun w=>cop m w && (found.isEmpty || cop m (w - found.getLastD 0))
def pool (m:Int) (found:List Int):List Int:=if cand m found=[] then ofN m.toNat else cand m found
def wtsGo (m:Int):Nat->Int->List Int->List Int
  | 0,_,found=>found
  | n + 1,c,found=>wtsGo m n (c / 7) (found++[(pool m found).getD (c % ((pool m found).length:Int)).toNat 0])
def wts (c m:Int) (n:Nat):List Int:=wtsGo m n c []
def digs (m:Int):Nat->Int->List Int
  | 0,_=>[]
  | n + 1,c=>c % m::digs m n (c / 31)
def w1 (n m:Int):List Int:=wts (n / 100) m (3 + n % 6).toNat
def w2 (n m:Int):List Int:=if n / 6 % 4=1 then (w1 n m).set (n / 24 % ((w1 n m).length:Int)).toNat (n / 200 % m) else w1 n m
def w3 (n m:Int):List Int:=if n / 6 % 4=2 then digs m (w2 n m).length (n / 100) else w2 n m
def w4 (n m:Int):List Int:=if n / 6 % 4=3/\n / 24 % 2=1 then List.replicate (w3 n m).length (n / 48 % m) else w3 n m
def altAt (k:Nat):Int:=if k % 2=0 then 1 else 2
def alt (n:Nat):List Int:=(List.range n).map altAt
def fits (m:Int) (ws:List Int):List Int:=(ofN m.toNat).filter fun w=>safe m (ws.drop (ws.length - 1)++[w])
end Mk

namespace Mk
def dot:List Int->List Int->Int
  | a::r,b::t=>a * b + dot r t
  | _,_=>0
def good (m:Int) (ws:List Int) (r:Int) (ps:List Int):Bool:=decide ((dot ws ps - r) % m=0)
end Mk

namespace Mk
end Mk

namespace Mk
section
variable {m r k:Int}{ws:List Int} (h0:0 < m) (h26:m<=26) (hm:∀ x∈ws,0<=x/\x < m) (hs:safe m ws=true) (hl:1<=ws.length)
include h0 h26 hm hs hl
omit h26 hm hs hl in
end
end Mk

namespace L2
open PySem PySem.Spec PyProof.Rows
def clo (cells:List (Str × Addr)):List (Str × NameKind)->List (Str × Addr)->Option (List (Str × Addr))
  | [],acc=>some acc
  | (n,k)::r,acc=>if k == .free then (match cells.lookup n with | some c=>clo cells r ((n,c)::acc) | none=>none) else clo cells r acc
theorem clo_pure {env:Env}:∀ (names:List (Str × NameKind)) (acc cl:List (Str × Addr)),clo env.cells names acc=some cl →
    (forIn names acc fun (x:Str × NameKind) (cs:List (Str × Addr))=>(if x.2 == .free then do let c ← cellOf env x.1;pure (ForInStep.yield ((x.1,c)::cs)) else pure (ForInStep.yield cs):Sem (ForInStep (List (Str × Addr)))))=pure cl
  | [],acc,cl,h=>by
    have e:acc=cl:=Option.some.inj h
    subst e;rfl
  | (n,k)::r,acc,cl,h=>by
    rw [List.forIn_cons]
    unfold clo at h
    by_cases hk:(k == NameKind.free)=true
    · rw [if_pos hk] at h
      cases hc:env.cells.lookup n with
      | none=>rw [hc] at h;cases h
      | some c =>
        rw [hc] at h
        have ih:=clo_pure (env:=env) r ((n,c)::acc) cl h
        have e1:cellOf env n=pure c:=by unfold cellOf;rw [hc]
        simp only [hk,if_true,e1,pure_bind]
        exact ih
    · rw [if_neg hk] at h
      have ih:=clo_pure (env:=env) r acc cl h
      simp only [hk,if_false,pure_bind,Bool.false_eq_true]
      exact ih
theorem closureFor_clo {scope:Scope}{env:Env}{cl:List (Str × Addr)} (h:clo env.cells scope.names []=some cl):closureFor scope env=pure cl:=by
  have e:=clo_pure (env:=env) scope.names [] cl h
  unfold closureFor
  simp only [bind_pure]
  first
    | exact e
    | (simp only [bind_pure_comp,map_pure] at e ⊢;exact e)
    | (rw [show (fun (x:Str × NameKind) (r:List (Str × Addr))=>_)=_ from rfl];exact e)
theorem clo_sub {cells:List (Str × Addr)}:∀ (names:List (Str × NameKind)) (acc cl:List (Str × Addr)),clo cells names acc=some cl →
    (∀ x c,acc.lookup x=some c->cells.lookup x=some c)->∀ x c,cl.lookup x=some c->cells.lookup x=some c
  | [],acc,cl,h,ha=>by
    have e:acc=cl:=Option.some.inj h
    subst e;exact ha
  | (n,k)::r,acc,cl,h,ha=>by
    unfold clo at h
    by_cases hk:(k == NameKind.free)=true
    · rw [if_pos hk] at h
      cases hc:cells.lookup n with
      | none=>rw [hc] at h;cases h
      | some c =>
        rw [hc] at h
        refine clo_sub r ((n,c)::acc) cl h fun x c' e=>?_
        rw [List.lookup_cons] at e
        by_cases hx:(x == n)=true
        · rw [hx] at e
          have e':c=c':=Option.some.inj e
          subst e'
          have:x=n:=eq_of_beq hx
          subst this;exact hc
        · rw [Bool.not_eq_true] at hx
          rw [hx] at e
          exact ha x c' e
    · rw [if_neg hk] at h
      exact clo_sub r acc cl h ha
theorem clo_keep {cells:List (Str × Addr)}:∀ (names:List (Str × NameKind)) (acc cl:List (Str × Addr)),clo cells names acc=some cl->∀ x,(∃ c,acc.lookup x=some c)->∃ c,cl.lookup x=some c
  | [],acc,cl,h,x,hx=>by
    have e:acc=cl:=Option.some.inj h
    subst e;exact hx
  | (n,k)::r,acc,cl,h,x,hx=>by
    unfold clo at h
    by_cases hk:(k == NameKind.free)=true
    · rw [if_pos hk] at h
      cases hc:cells.lookup n with
      | none=>rw [hc] at h;cases h
      | some c =>
        rw [hc] at h
        refine clo_keep r ((n,c)::acc) cl h x ?_
        rw [List.lookup_cons]
        by_cases hxn:(x == n)=true
        · rw [hxn];exact ⟨c,rfl⟩
        · rw [Bool.not_eq_true] at hxn
          rw [hxn];exact hx
    · rw [if_neg hk] at h
      exact clo_keep r acc cl h x hx
theorem clo_has {cells:List (Str × Addr)}:∀ (names:List (Str × NameKind)) (acc cl:List (Str × Addr)),clo cells names acc=some cl->∀ x,(x,NameKind.free)∈names->∃ c,cl.lookup x=some c
  | [],_,_,_,x,hx=>by cases hx
  | (n,k)::r,acc,cl,h,x,hx=>by
    unfold clo at h
    by_cases hk:(k == NameKind.free)=true
    · rw [if_pos hk] at h
      cases hc:cells.lookup n with
      | none=>rw [hc] at h;cases h
      | some c =>
        rw [hc] at h
        rcases List.mem_cons.mp hx with e | hx
        · have e1:x=n:=congrArg Prod.fst e
          subst e1
          exact clo_keep r ((x,c)::acc) cl h x ⟨c,by rw [List.lookup_cons,beq_self_eq_true]⟩
        · exact clo_has r _ cl h x hx
    · rw [if_neg hk] at h
      rcases List.mem_cons.mp hx with e | hx
      · cases e
        exact absurd (by rfl) hk
      · exact clo_has r acc cl h x hx
theorem relabel_kind {env:Env}:∀ {names:List (Str × NameKind)}{x:Str}{k':NameKind},
    (names.map fun (n,k)=>if (k == NameKind.free && env.scope.kind == .function && env.kindOf n == some .cell) then (n,NameKind.cell) else (n,k)).lookup x=some k'->(x,k')∈names ∨ (k'=.cell/\(x,NameKind.free)∈names)
  | [],_,_,h=>by cases h
  | (n,k)::r,x,k',h=>by
    have ih:=@relabel_kind env r x k'
    by_cases hc:(k == NameKind.free && env.scope.kind == .function && env.kindOf n == some .cell)=true
    · have h2:(((n,NameKind.cell)::(r.map fun (n,k)=>if (k == NameKind.free && env.scope.kind == .function && env.kindOf n == some .cell) then (n,NameKind.cell) else (n,k))).lookup x)=some k':=by
        rw [← h,List.map_cons];simp only [hc,if_true]
      rw [List.lookup_cons] at h2
      by_cases hx:(x == n)=true
      · rw [hx] at h2
        have e:NameKind.cell=k':=Option.some.inj h2
        have e2:x=n:=eq_of_beq hx
        have e3:k=.free:=by
          simp only [Bool.and_eq_true] at hc
          exact eq_of_beq hc.1.1
        subst e e2 e3
        exact .inr ⟨rfl,List.mem_cons_self⟩
      · rw [Bool.not_eq_true] at hx
        rw [hx] at h2
        rcases ih h2 with q | ⟨e,q⟩
        · exact .inl (List.mem_cons_of_mem _ q)
        · exact .inr ⟨e,List.mem_cons_of_mem _ q⟩
    · have h2:(((n,k)::(r.map fun (n,k)=>if (k == NameKind.free && env.scope.kind == .function && env.kindOf n == some .cell) then (n,NameKind.cell) else (n,k))).lookup x)=some k':=by
        rw [← h,List.map_cons];simp only [hc,if_false,Bool.false_eq_true]
      rw [List.lookup_cons] at h2
      by_cases hx:(x == n)=true
      · rw [hx] at h2
        have e:k=k':=Option.some.inj h2
        have e2:x=n:=eq_of_beq hx
        subst e e2
        exact .inl List.mem_cons_self
      · rw [Bool.not_eq_true] at hx
        rw [hx] at h2
        rcases ih h2 with q | ⟨e,q⟩
        · exact .inl (List.mem_cons_of_mem _ q)
        · exact .inr ⟨e,List.mem_cons_of_mem _ q⟩
abbrev Cx.blk (X:Cx) (N':List Str) (scope:Scope) (cl:List (Str × Addr)) (C:Addr) (s₀:Shared) (H₀:Hp) (ex:List Addr):Cx :=
  { X with N:=N',s₀:=s₀,H₀:=H₀,env:=compEnvC scope cl C X.env,outer:=X.stack,stack:=X.stack,ex:=ex,fn:=fun _=>false,pn:=[],xe:=fun _ _=>False }
inductive FrOk (X:Cx):List Str->List Nat->Prop
  | nil:FrOk X [] []
  | cons {x:Str}{j:Nat}{xs:List Str}{js:List Nat}:X.N[j]?=some x->(X.env.kindOf x=some .cell ∨ X.env.kindOf x=some .free)->FrOk X xs js->FrOk X (x::xs) (j::js)
theorem FrOk.get {X:Cx}:∀ {xs:List Str}{js:List Nat}{i:Nat}{x:Str},FrOk X xs js->xs[i]?=some x->∃ j,js[i]?=some j/\X.N[j]?=some x/\(X.env.kindOf x=some .cell ∨ X.env.kindOf x=some .free)
  | _,_,_,_,.nil,e=>by simp at e
  | _,_,0,_,.cons a b _,e=>by simp at e;subst e;exact ⟨_,rfl,a,b⟩
  | _,_,i + 1,x,.cons _ _ t,e=>by
    obtain ⟨j,h1,h2⟩:=FrOk.get (i:=i) (x:=x) t (by simpa using e)
    exact ⟨j,by simpa using h1,h2⟩
theorem FrOk.len {X:Cx}:∀ {xs:List Str}{js:List Nat},FrOk X xs js->xs.length=js.length
  | _,_,.nil=>rfl
  | _,_,.cons _ _ t=>by rw [List.length_cons,List.length_cons,t.len]
def blkSt (k:Nat) (js:List Nat) (σ:St):St:=List.replicate k none++js.map fun j=>(σ[j]?).join
def PIf (X:Cx) (ifs:List Expr) (t:TT):Prop :=
  ∀ (pins:List (Addr × Obj)) (s:Shared) (σ:St) (H:Hp) (Q:Bool->Hp->Prop),Inv X pins σ H s->t σ H Q →
    wpAny (model X.prog X.w) X.A (forIn ifs true fun c r=>if r=true then do let ok ← isTrue c X.env (eval c X.env);pure (ForInStep.yield ok) else pure (ForInStep.yield r)) (TP X pins σ Q) X.xe s
def tYes:TT:=fun _ H Q=>Q true H
theorem pif_nil {X:Cx}:PIf X [] tYes:=fun _ _ _ H _ I h=>wpAny_tests_nil ⟨H,I,h⟩
theorem pif_one {X:Cx}{c:Expr}{t:TT} (h:PT X c t):PIf X [c] t:=fun pins s σ H Q I q=>wpAny_tests_one (h pins s σ H Q I q)
section
variable {prog:Program}{w:World}{A:Around}{R:Result->Shared->Prop}{s:Shared}
theorem compLoop_go {elt target iter:Expr}{ifs:List Expr}{scope:Scope}{pos:Pos}{it acc:Value}{env:Env} (I:Nat->Shared->Prop)
    (turn:∀ n s,I n s->wpAny (model prog w) A (pyNext it) (fun r s₁=>match r with
      | none=>R (.ok .next) s₁
      | some v=>wpAny (model prog w) A (letOwnedTupleGo target it v) (fun _ s₀=>wpAny (model prog w) A (assign target env v) (fun _ s₂ =>
          wpAny (model prog w) A (forIn ifs true fun c r=>if r=true then do let ok ← isTrue c env (eval c env);pure (ForInStep.yield ok) else pure (ForInStep.yield r)) (fun ok s₃ =>
            if ok=true then wpAny (model prog w) A (eval elt env) (fun x s₄ =>
              wpAny (model prog w) A (call (.builtin "list.append") [acc,x]) (fun _ s₅=>∃ m,m < n/\I m s₅) (fun _ _=>False) s₄) (fun _ _=>False) s₃
            else ∃ m,m < n/\I m s₃) (fun _ _=>False) s₂) (fun _ _=>False) s₀) (fun _ _=>False) s₁) (fun _ _=>False) s)
    (n:Nat) (h:I n s) :
    codeAny (model prog w) A (.compLoop (.ListComp elt [⟨target,iter,ifs,0⟩] scope pos) 0 it acc env) R s:=by
  refine codeAny_loop rfl I (fun n s hI=>?_) n h
  show wpAny _ A ((compTurn (.ListComp elt [⟨target,iter,ifs,0⟩] scope pos) 0 it acc env).onRaise (fun x=>do noteFrame x env;theTreesLotGoes x)) _ _ s
  refine wpAny_noted ?_
  rw [compTurn_list]
  refine wpAny_bind (wpAny_standAt (wpAny_bind (wpAny_mono (turn n s hI) (fun r s₁ h₁=>?_) fun _ _ h'=>h'.elim)))
  cases r with
  | none=>exact wpAny_pure h₁
  | some v =>
    refine wpAny_bind (wpAny_mono h₁ (fun _ s₀ h₀=>?_) fun _ _ h'=>h'.elim)
    refine wpAny_bind (wpAny_mono h₀ (fun _ s₂ h₂=>wpAny_bind (wpAny_mono h₂ (fun ok s₃ h₃=>?_) fun _ _ h'=>h'.elim)) fun _ _ h'=>h'.elim)
    cases ok with
    | false=>exact wpAny_pure ⟨rfl,h₃⟩
    | true =>
      exact wpAny_bind (wpAny_bind (wpAny_mono h₃ (fun x s₄ h₄=>wpAny_bind (wpAny_mono h₄ (fun _ s₅ h₅=>wpAny_pure (wpAny_pure ⟨rfl,h₅⟩)) fun _ _ h'=>h'.elim)) fun _ _ h'=>h'.elim))
end
def LcTurns (g:TG) (tc:TT) (te:TE) (σ':St) (J:It) (H1:Hp) (Q:VK):Prop :=
  ∀ D,H1 D=none->∃ W:Nat->Nat->List V->St->Hp->Prop,(∃ m,W 0 m [] σ' (upd H1 D (.lst [])))/\∀ i m ys σ1 H,W i m ys σ1 H->H D=some (.lst ys)/\ys.length < sizeLine ∧
    ((J.stop i H/\Q (.ref D) H) ∨ (J.go i H/\∀ x H',J.yld i H x H'->g x σ1 H' fun σ2 H2=>tc σ2 H2 fun b H3 =>
      if b=true then te σ2 H3 fun v H4=>H4 D=some (.lst ys)/\∃ m',m' < m/\W (i + 1) m' (ys++[v]) σ2 (upd H4 D (.lst (ys++[v]))) else ∃ m',m' < m/\W (i + 1) m' ys σ2 H3))
structure BlkOk (X:Cx) (scope:Scope) (cl:List (Str × Addr)):Prop where
  clo:L2.clo X.env.cells scope.names []=some cl
  cell:∀ y∈scope.names,y.2≠.cell
  kind:scope.kind=.function
  names:∀ y∈scope.names,y.2=.local->scope.names.lookup y.1=some .local
section
variable {X:Cx}{pins:List (Addr × Obj)}{σ:St}{H1:Hp}{s₂:Shared}{E:Value->Shared->Prop}
theorem Inv.blkOk {scope:Scope}{cl:List (Str × Addr)}{N':List Str}{C:Addr}{fp:List Addr} (I:Inv X pins σ H1 s₂) (B:BlkOk X scope cl) (hC:s₂.heap.objs.size<=C) (hf:∀ b∈fp,FpOk X pins H1 b)
    (ho:∀ b∈fp,∃ o,s₂.heap.get? b=some o):(X.blk N' scope cl C s₂ H1 fp).Ok:=by
  have sub:=clo_sub scope.names [] cl B.clo (fun x c e=>by cases e)
  refine ⟨I.ok.mod,B.kind,I.ok.glob,I.ok.blt,hC,fun x y c h1 h2=>I.ok.inj x y c (sub x c h1) (sub y c h2),fun x hx=>?_,fun x c h=>?_,I.ok.hd,I.ok.frames,.inl rfl,fun b hb=>⟨?_,fun x c e=>?_⟩,I.bs,
    Nat.le_trans I.ok.bsz I.sz,fun b o e hb=>?_,fun b hb hs=>?_,I.stack,I.stkFree⟩
  · have hx':(compEnvC scope cl C X.env).kindOf x=some .cell ∨ (compEnvC scope cl C X.env).kindOf x=some .free:=hx
    have key:∀ k',(compEnvC scope cl C X.env).kindOf x=some k'->(k'=.cell ∨ k'=.free)->∃ c,cl.lookup x=some c:=fun k' e hk=>by
      have e':(scope.names.map fun (n,k)=>if (k == NameKind.free && X.env.scope.kind == .function && X.env.kindOf n == some .cell) then (n,NameKind.cell) else (n,k)).lookup x=some k':=e
      rcases relabel_kind e' with q | ⟨_,q⟩
      · rcases hk with rfl | rfl
        · exact absurd rfl (B.cell _ q)
        · exact clo_has scope.names [] cl B.clo x q
      · exact clo_has scope.names [] cl B.clo x q
    rcases hx' with hx' | hx'
    · exact key _ hx' (.inl rfl)
    · exact key _ hx' (.inr rfl)
  · exact absurd h Bool.false_ne_true
  · obtain ⟨o,e⟩:=ho b hb
    exact Nat.ne_of_lt (Nat.lt_of_lt_of_le (Heap.lt_size e) hC)
  · exact (hf b hb).2.2.2.2.1 x c (sub x c e)
  · rcases (hf b hb).2.2.2.1 with z | z
    · exact I.ok.noex b o e z
    · exact absurd (Nat.lt_of_lt_of_le (Heap.lt_size e) (Nat.le_trans I.ok.bsz z)) (Nat.lt_irrefl _)
  · rcases List.mem_cons.mp (I.stkSub b hs) with z | z
    · exact (hf b hb).2.1 z
    · exact (hf b hb).2.2.1 z
theorem blk_run {elt target iter:Expr}{ifs:List Expr}{scope:Scope}{pos:Pos}{cl:List (Str × Addr)}{own frn:List Str}{js:List Nat}{g:TG}{tc:TT}{te:TE}{Q:VK}{it:Addr}{fp:List Addr}{tn:Nat->Heap->Prop}{J:It}
    {RR:Value->Addr->Result->Shared->Prop} (hc:X.calm=true) (B:BlkOk X scope cl) (hfr:FrOk X frn js) (hloc:∀ x∈frn,scope.names.lookup x≠some .local)
    (hg:∀ C s₀ H₀ ex,PG (X.blk (own++frn) scope cl C s₀ H₀ ex) target g) (hi:∀ C s₀ H₀ ex,PIf (X.blk (own++frn) scope cl C s₀ H₀ ex) ifs tc) (he:∀ C s₀ H₀ ex,PE (X.blk (own++frn) scope cl C s₀ H₀ ex) elt te)
    (I:Inv X pins σ H1 s₂) (T:Turn X.prog X.w X.K target J fp it tn) (st0:tn 0 s₂.heap) (hf:∀ b∈fp,FpOk X pins H1 b) (hq:LcTurns g tc te (blkSt own.length js σ) J H1 Q)
    (fin:∀ D C s' H' m,s₂.heap.objs.size<=C->Inv X pins σ H' s'->s'.heap.Ns C m->FpOk X pins H' C->Q (.ref D) H'->RR (.ref D) C (.ok .next) s') :
    wpAny (model X.prog X.w) X.A (newList []) (fun acc s₃=>wpAny (model X.prog X.w) X.A (newFunctionEnv scope X.env.globals cl [] X.env.qual none .none (some X.env)) (fun cenv s₄ =>
      codeAny (model X.prog X.w) X.A (.compStart (.ListComp elt [⟨target,iter,ifs,0⟩] scope pos) 0 (.ref it) acc { cenv with scope:=relabel scope X.env }) (RR acc cenv.locals) s₄) E s₃) E s₂:=by
  have sub:=clo_sub scope.names [] cl B.clo (fun x c e=>by cases e)
  refine wpAny_newObj_type (wpAny_newFunctionEnv B.cell (by intro y hy;simp at hy) (fun h₁ hns₁ hsb₁=>?_) B.kind)
  dsimp only at hns₁ hsb₁ ⊢
  generalize hH2:s₂.heap.push { cls:=.type "list",dict:=none,data:=.seq ([]:List Value).toArray }=H2 at hns₁ hsb₁ ⊢
  have hC:H2.objs.size=s₂.heap.objs.size + 1:=by rw [← hH2,Heap.size_push]
  have hDC:s₂.heap.objs.size≠H2.objs.size:=by rw [hC];exact Nat.ne_of_lt (Nat.lt_succ_self _)
  have hCle:s₂.heap.objs.size<=H2.objs.size:=by rw [hC];exact Nat.le_succ _
  have below:∀ b,b < s₂.heap.objs.size->b≠H2.objs.size/\b≠s₂.heap.objs.size:=fun b hb=>⟨by rw [hC];exact Nat.ne_of_lt (Nat.lt_succ_of_lt hb),Nat.ne_of_lt hb⟩
  have old:∀ b o,s₂.heap.get? b=some o->h₁.get? b=some o:=fun b o e=>hsb₁.extBut b o (below b (Heap.lt_size e)).1 (Heap.get?_push_of_some _ (hH2 ▸ Heap.get?_push_of_some _ e))
  have hacc:h₁.get? s₂.heap.objs.size=some { cls:=.type "list",dict:=none,data:=.seq ([]:List Value).toArray }:=hsb₁.extBut _ _ hDC (Heap.get?_push_of_some _ (hH2 ▸ Heap.get?_push_size _ rfl))
  have hfo:∀ b∈fp,∃ o,s₂.heap.get? b=some o/\∀ v,o.data≠.cell v:=T.obj 0 _ st0
  have D0:H1 s₂.heap.objs.size=none:=I.hok.fresh (Nat.le_refl _)
  have C0:H1 H2.objs.size=none:=I.hok.fresh hCle
  obtain ⟨W,⟨m0,w0⟩,turn⟩:=hq _ D0
  have okX:(X.blk (own++frn) scope cl H2.objs.size s₂ H1 fp).Ok:=I.blkOk (N':=own++frn) B hCle hf fun b hb=>let ⟨o,e,_⟩:=hfo b hb;⟨o,e⟩
  have I0:Inv (X.blk (own++frn) scope cl H2.objs.size s₂ H1 fp) [] (blkSt own.length js σ) (upd H1 s₂.heap.objs.size (.lst [])) { s₂ with heap:=h₁,toks:=s₂.toks + ([]:List (Str × Value)).length }:=by
    obtain ⟨m,hn,hl⟩:=id I.loc
    refine ⟨okX,rfl,I.bare,Un.laid old (Nat.le_refl _) D0,⟨_,hns₁,fun i x v e1 e2 e3=>?_⟩,fun x c e=>?_,?_,fun x c e=>?_,fun p hp=>?_,?_,?_⟩
    · have e1:(own++frn)[i]?=some x:=e1
      unfold blkSt at e2
      by_cases hik:i < own.length
      · rw [List.getElem?_append_left (by simpa using hik),List.getElem?_replicate,if_pos hik] at e2
        cases e2
      · rw [List.getElem?_append_right (by simpa using hik),List.length_replicate,List.getElem?_map] at e2
        rw [List.getElem?_append_right (by omega)] at e1
        obtain ⟨j,hj,hNj,hk⟩:=hfr.get e1
        rw [hj] at e2
        have e2':(σ[j]?).join=some v:=Option.some.inj e2
        have e2'':σ[j]?=some (some v):=by
          cases q:σ[j]? with
          | none=>rw [q] at e2';cases e2'
          | some o=>rw [q] at e2';cases o with
            | none=>cases e2'
            | some y=>have:y=v:=Option.some.inj e2';rw [this]
        obtain ⟨u,r,lk⟩:=hl j x v hNj e2'' (hk.elim (fun z=>.inr (.inl z)) fun z=>.inr (.inr z))
        refine ⟨u,r,?_⟩
        rcases lk with ⟨k1,_⟩ | ⟨_,c,hcl,hcell⟩
        · rcases hk with z | z <;> (rw [k1] at z;cases z)
        · have hx3:(compEnvC scope cl H2.objs.size X.env).kindOf x=some .local ∨ (compEnvC scope cl H2.objs.size X.env).kindOf x=some .cell ∨ (compEnvC scope cl H2.objs.size X.env).kindOf x=some .free:=e3
          rcases hx3 with z | z
          · exfalso
            have z':(scope.names.map fun (n,k)=>if (k == NameKind.free && X.env.scope.kind == .function && X.env.kindOf n == some .cell) then (n,NameKind.cell) else (n,k)).lookup x=some .local:=z
            rcases relabel_kind z' with q | ⟨q,_⟩
            · exact hloc x (List.mem_of_getElem? e1) (B.names _ q rfl)
            · cases q
          · obtain ⟨c',hc'⟩:=okX.has x z
            have q:=sub x c' hc'
            rw [hcl] at q
            have q':c=c':=Option.some.inj q
            subst q'
            refine .inr ⟨z,c,hc',?_⟩
            obtain ⟨o,ho,hd⟩:=hcell
            exact ⟨o,old _ _ ho,hd⟩
    · obtain ⟨v,o,ho,hd⟩:=I.cell x c (sub x c e)
      exact ⟨v,o,old _ _ ho,hd⟩
    · show upd H1 _ _ H2.objs.size=none
      rw [upd_ne (Ne.symm hDC)];exact C0
    · obtain ⟨v,o,ho,hd⟩:=I.cell x c (sub x c e)
      rw [upd_ne (below c (Heap.lt_size ho)).2];exact I.freeC x c (sub x c e)
    · cases hp
    · exact I.hok.laid old (Nat.le_refl _) ⟨Nat.zero_le _,[],_,.nil,hacc⟩
    · unfold blkSt
      show _=(own++frn).length
      rw [List.length_append,List.length_append,List.length_replicate,List.length_map,hfr.len]
  -- the iterator's objects in the block
  have fpx:∀ {H:Hp},(∀ b∈fp,H b=none)->∀ b∈fp,FpOk (X.blk (own++frn) scope cl H2.objs.size s₂ H1 fp) [] H b:=fun {H} hn b hb=>by
    obtain ⟨f0,f1,f2,f3,f4,f5⟩:=hf b hb
    obtain ⟨o,e,_⟩:=hfo b hb
    refine ⟨hn b hb,(below b (Heap.lt_size e)).1,fun z=>?_,.inl hb,fun x c e=>f4 x c (sub x c e),fun p hp=>by cases hp⟩
    rcases List.mem_cons.mp (I.stkSub b z) with z | z
    · exact f1 z
    · exact f2 z
  have st1:tn 0 h₁:=T.keep _ _ _ st0 fun b _ o e=>old b o e
  have fr0:∀ b∈fp,upd H1 s₂.heap.objs.size (.lst []) b=none:=fun b hb=>by
    obtain ⟨o,e,_⟩:=hfo b hb
    rw [upd_ne (below b (Heap.lt_size e)).2];exact (hf b hb).1
  have loop:codeAny (model X.prog X.w) X.A (.compLoop (.ListComp elt [⟨target,iter,ifs,0⟩] scope pos) 0 (.ref it) (.ref s₂.heap.objs.size) (compEnvC scope cl H2.objs.size X.env))
      (RR (.ref s₂.heap.objs.size) H2.objs.size) { s₂ with heap:=h₁,toks:=s₂.toks + ([]:List (Str × Value)).length }:=by
    refine compLoop_go (fun n s'=>∃ i ys σ1 H,Inv (X.blk (own++frn) scope cl H2.objs.size s₂ H1 fp) [] σ1 H s'/\tn i s'.heap/\(∀ b∈fp,H b=none)/\W i n ys σ1 H) ?_ m0 ⟨0,[],_,_,I0,st1,fr0,w0⟩
    rintro n s3 ⟨i,ys,σ3,H3,I3,st3,fr3,w3⟩
    obtain ⟨hD3,hsz,alt⟩:=turn i n ys σ3 H3 w3
    rcases alt with ⟨stop,qn⟩ | ⟨go,step⟩
    · refine thn (T.done (X.blk (own++frn) scope cl H2.objs.size s₂ H1 fp) rfl rfl rfl hc i [] s3 σ3 H3 _ I3 (fpx fr3) st3 stop) fun r s4 ⟨hr,I4⟩=>?_
      subst hr
      obtain ⟨m,hn,_⟩:=id I4.loc
      have hch:∀ b∈fp,(b∈X.ex ∨ X.s₀.heap.objs.size<=b)/\b≠X.env.locals/\(∀ x c,X.env.cells.lookup x=some c->c≠b)/\∀ p∈X.pn++pins,p.1≠b:=fun b hb=>by
        obtain ⟨f0,f1,f2,f3,f4,f5⟩:=hf b hb
        exact ⟨f3,f1,f4,f5⟩
      have IX:Inv X pins σ H3 s4:=I.call' I4.os I4.base I4.hok I4.bare hch
      exact fin _ _ s4 H3 m hCle IX hn (I.fpOk hCle I4.free) qn
    · refine thn (T.item (X.blk (own++frn) scope cl H2.objs.size s₂ H1 fp) rfl rfl rfl hc i [] s3 σ3 H3 _ I3 (fpx fr3) st3 go) fun r s4 ⟨u,hr,h4⟩=>?_
      subst hr
      refine thn h4 fun _ s5 ⟨x,H5,I5,r5,y5,st5,fr5⟩=>?_
      have I5':=I5.pinned (fpx fr5) (T.obj _ _ st5)
      refine thn (hg _ _ _ _ _ s5 σ3 H5 x u _ I5' r5 (step x H5 y5)) fun _ s6 ⟨σ6,H6,I6,q6⟩=>?_
      refine thn (hi _ _ _ _ _ s6 σ6 H6 _ I6 q6) fun b s7 ⟨H7,I7,q7⟩=>?_
      have again:∀ {ys':List V}{H8:Hp}{s8:Shared}{m':Nat},Inv (X.blk (own++frn) scope cl H2.objs.size s₂ H1 fp) ([]++pinsAt fp s5.heap) σ6 H8 s8->m' < n->W (i + 1) m' ys' σ6 H8 →
          ∃ m,m < n/\∃ i ys σ1 H,Inv (X.blk (own++frn) scope cl H2.objs.size s₂ H1 fp) [] σ1 H s8/\tn i s8.heap/\(∀ b∈fp,H b=none)/\W i m ys σ1 H:=fun {ys' H8 s8 m'} I8 hm w8=>by
        refine ⟨m',hm,i + 1,ys',σ6,H8,I8.unpinned,T.keep _ _ _ st5 fun b hb o e=>(I8.pin (b,o) (List.mem_append_right _ (List.mem_append_right _ (mem_pinsAt hb e)))).1,fun b hb=>?_,w8⟩
        obtain ⟨o,e,d⟩:=T.obj _ _ st5 b hb
        exact (I8.pin (b,o) (List.mem_append_right _ (List.mem_append_right _ (mem_pinsAt hb e)))).2.1
      cases b with
      | false =>
        rw [if_neg Bool.false_ne_true] at q7 ⊢
        obtain ⟨m',hm,w7⟩:=q7
        exact again I7 hm w7
      | true =>
        rw [if_pos rfl] at q7 ⊢
        refine thn (he _ _ _ _ _ s7 σ6 H7 _ I7 q7) fun v s8 ⟨y,H8,I8,r8,hD8,m',hm,w8⟩=>?_
        refine thn (mt_append (X:=X.blk (own++frn) scope cl H2.objs.size s₂ H1 fp) _ s8 σ6 H8 (.ref s₂.heap.objs.size) [y] _ [v] (fun _ H9=>W (i + 1) m' (ys++[y]) σ6 H9) I8 rfl (.cons r8 .nil) ⟨_,ys,y,rfl,rfl,hD8,hsz,w8⟩) fun _ s9 ⟨_,H9,I9,_,w9⟩=>?_
        exact again I9 hm w9
  exact codeAny_compStart_list loop (T.self X.A 0 _ _ _ st1 loop)
end
def tLC (k:Nat) (js:List Nat) (wi:TI) (g:TG) (tc:TT) (te:TE):TE:=fun σ H Q=>wi σ H fun J H1=>LcTurns g tc te (blkSt k js σ) J H1 Q
section
variable {X:Cx}
theorem pe_lc {elt target iter:Expr}{ifs:List Expr}{scope:Scope}{pos:Pos}{cl:List (Str × Addr)}{frn:List Str}{js:List Nat}{wi:TI}{g:TG}{tc:TT}{te:TE} (own:List Str) (hc:X.calm=true) (B:BlkOk X scope cl) (hfr:FrOk X frn js)
    (hloc:∀ x∈frn,scope.names.lookup x≠some .local) (hi:PI X target iter wi)
    (hg:∀ C s₀ H₀ ex,PG (X.blk (own++frn) scope cl C s₀ H₀ ex) target g) (hif:∀ C s₀ H₀ ex,PIf (X.blk (own++frn) scope cl C s₀ H₀ ex) ifs tc) (he:∀ C s₀ H₀ ex,PE (X.blk (own++frn) scope cl C s₀ H₀ ex) elt te)
    (hs:∀ x,foldedSetIterable iter X.env x=pure x:=by intro _;rfl):PE X (.ListComp elt [⟨target,iter,ifs,0⟩] scope pos) (tLC own.length js wi g tc te):=by
  intro pins s σ H Q I h
  rw [eval_ListComp]
  refine wpAny_comprehension_free (use:=none) rfl hs (closureFor_clo B.clo) B.kind B.names (thn (hi pins s σ H _ I h) fun v s1 h1=>thn h1 fun itv s2 h2=>?_)
  obtain ⟨it,fp,tn,J,H2,e,I2,T,st2,f2,hq⟩:=h2
  subst e
  refine blk_run (RR:=fun acc C=>compPost (model X.prog X.w) X.A X.xe none (EP X pins σ Q) acc C) hc B hfr hloc hg hif he I2 T st2 f2 hq ?_
  intro D C s' H' m hC I' hn fC q
  exact ⟨m,hn,fun h' sb=>⟨.ref D,H',I'.turned (t':=s'.toks) (fun b o hb e=>(sb.2 b hb).trans e) fC.1 fC.2.1 fC.2.2.2.1 fC.2.2.2.2.1 fC.2.2.2.2.2,rfl,q⟩⟩
theorem ps_setLC {elt target iter:Expr}{ifs:List Expr}{scope:Scope}{pos py spos:Pos}{y:Str}{i:Nat}{cl:List (Str × Addr)}{frn:List Str}{js:List Nat}{wi:TI}{g:TG}{tc:TT}{te:TE} (own:List Str) (hN:X.N.Nodup) (hiy:X.N[i]?=some y)
    (hy:Loc X.env.scope y) (hc:X.calm=true) (B:BlkOk X scope cl) (hfr:FrOk X frn js)
    (hloc:∀ x∈frn,scope.names.lookup x≠some .local) (hi:PI X target iter wi)
    (hg:∀ C s₀ H₀ ex,PG (X.blk (own++frn) scope cl C s₀ H₀ ex) target g) (hif:∀ C s₀ H₀ ex,PIf (X.blk (own++frn) scope cl C s₀ H₀ ex) ifs tc) (he:∀ C s₀ H₀ ex,PE (X.blk (own++frn) scope cl C s₀ H₀ ex) elt te)
    (hsw:swapsWith (.ListComp elt [⟨target,iter,ifs,0⟩] scope pos) (some (.Name y py)) spos.line X.env=pure true:=by rfl)
    (hs:∀ x,foldedSetIterable iter X.env x=pure x:=by intro _;rfl)
    (hf:X.fn y=true ∨ X.env.scope.names.lookup y=some .local:=by first | exact .inl rfl | exact .inr rfl | assumption) :
    PS X (.Assign [.Name y py] (.ListComp elt [⟨target,iter,ifs,0⟩] scope pos) spos) (tAsg (tLC own.length js wi g tc te) (gName i)):=by
  intro pins s σ H D I h
  rw [exec_Assign_Name_used _ _ _ _ hsw]
  refine wpAny_bind (wpAny_standAt (wpAny_bind ?_))
  show wpAny _ X.A (do let _ ← comprehension (.ListComp elt [⟨target,iter,ifs,0⟩] scope pos) scope X.env _ (newList []) false (eval iter X.env) (some (assign (.Name y py) X.env))) _ _ s
  refine wpAny_bind (wpAny_mono (wpAny_comprehension_free (use:=some (assign (.Name y py) X.env)) (Q:=fun _ s'=>SP X pins D .next s') rfl hs (closureFor_clo B.clo) B.kind B.names
    (thn (hi pins s σ H _ I h) fun v s1 h1=>thn h1 fun itv s2 h2=>?_)) (fun _ s' hq=>wpAny_pure (wpAny_pure hq)) fun _ _ e=>e)
  obtain ⟨it,fp,tn,J,H2,e,I2,T,st2,f2,hq⟩:=h2
  subst e
  refine blk_run (Q:=fun x H1=>D.nx (σ.set i (some x)) H1) (RR:=fun acc C=>compPost (model X.prog X.w) X.A X.xe (some (assign (.Name y py) X.env)) (fun _ s'=>SP X pins D .next s') acc C) hc B hfr hloc hg hif he I2 T st2 f2 hq ?_
  intro L C s' H' m hC I' hn fC q
  show wpAny _ X.A (assign (.Name y py) X.env (.ref L)) _ _ _
  refine wpAny_assign_Name (store_ok2 (v:=.ref L) I' hN hiy hy rfl (fun s'' I'' ⟨a,sb,ha⟩=>?_) hf)
  have hCa:C≠a:=by
    rcases ha with z | z
    · rw [z];exact fC.2.1
    · exact fun e=>fC.2.2.2.2.1 y a z e.symm
  exact ⟨m,hn.sameBut sb hCa,fun h' sb'=>⟨_,H',I''.turned (t':=s''.toks) (fun b o hb e=>(sb'.2 b hb).trans e) fC.1 fC.2.1 fC.2.2.2.1 fC.2.2.2.2.1 fC.2.2.2.2.2,q⟩⟩
end
def It.Seq (J:It) (H1:Hp) (xs:List V):Prop :=
  ∀ H,Same H1 H->(∀ i x,xs[i]?=some x->J.go i H/\∀ y H',J.yld i H y H'->H'=H/\y=x)/\∀ i,xs.length<=i->J.stop i H
theorem seq_list {K:PySem.W.Frag}{a:Addr}{xs:List V}{H1:Hp} (h:SqL K H1 a xs):(Itl K a).Seq H1 xs:=fun H s =>
  ⟨fun i x e=>⟨⟨xs,x,s.seq h,e⟩,fun y H' ⟨e1,e2⟩=>⟨e1,Option.some.inj ((e2 xs (s.seq h)).symm.trans e)⟩⟩,fun i hi=>⟨xs,s.seq h,hi⟩⟩
theorem seq_range {H1:Hp}{n:Nat}{lo:Int}:(Itr lo n).Seq H1 ((List.range n).map fun (k:Nat)=>V.int (lo + (k:Int))):=fun H s=>by
  refine ⟨fun i x e=>?_,fun i hi=>?_⟩
  · have hi:i < n:=by
      have:=(List.getElem?_eq_some_iff.mp e).1
      simpa using this
    rw [List.getElem?_map,List.getElem?_range hi] at e
    have e':V.int (lo + (i:Int))=x:=Option.some.inj e
    exact ⟨hi,fun y H' ⟨e1,e2⟩=>⟨e1,by rw [e2,e']⟩⟩
  · show n<=i
    simpa using hi
theorem Same.upd_new {H H':Hp}{a:Addr}{o:HO} (h:Same H H') (hn:H a=none):Same H (upd H' a o):=fun b u e=>by
  rw [upd_ne (ne_of_none e hn)];exact h b u e
theorem lc_one {J:It}{H1:Hp}{xs:List V}{js:List Nat}{σ:St}{tc:TT}{te:TE}{Q:VK} (hJ:J.Seq H1 xs) (hl:xs.length < sizeLine) (p:V->Bool) (f:V->V)
    (hc:∀ x∈xs,∀ H,Same H1 H->∀ R:Bool->Hp->Prop,(∀ H',Same H H'->R (p x) H')->tc (some x::js.map fun j=>(σ[j]?).join) H R)
    (he:∀ x∈xs,p x=true->∀ H,Same H1 H->∀ R:VK,(∀ H',Same H H'->R (f x) H')->te (some x::js.map fun j=>(σ[j]?).join) H R)
    (q:∀ D H,H1 D=none->Same H1 H->H D=some (.lst ((xs.filter p).map f))->Q (.ref D) H):LcTurns (gName 0) tc te (blkSt 1 js σ) J H1 Q:=by
  intro D hD
  refine ⟨fun i m ys σ1 H=>m=xs.length - i/\i<=xs.length/\(∃ o,σ1=o::js.map fun j=>(σ[j]?).join)/\ys=((xs.take i).filter p).map f/\Same H1 H/\H D=some (.lst ys),
    ⟨xs.length,by simp,Nat.zero_le _,⟨none,rfl⟩,by simp,(Same.refl H1).upd_new hD,upd_same⟩,?_⟩
  rintro i m ys σ1 H ⟨rfl,hi,⟨o,rfl⟩,rfl,sH,hL⟩
  have hlen:(((xs.take i).filter p).map f).length < sizeLine:=by
    rw [List.length_map]
    have h1:=List.length_filter_le p (xs.take i)
    have h2:(xs.take i).length<=xs.length:=by rw [List.length_take];omega
    omega
  refine ⟨hL,hlen,?_⟩
  by_cases hlt:i < xs.length
  · have e:xs[i]?=some xs[i]:=by simp [hlt]
    obtain ⟨go,yl⟩:=(hJ H sH).1 i xs[i] e
    refine .inr ⟨go,fun x H' y=>?_⟩
    obtain ⟨e1,e2⟩:=yl x H' y
    subst e1 e2
    have hm:xs[i]∈xs:=List.getElem_mem hlt
    have htk:xs.take (i + 1)=xs.take i++[xs[i]]:=by rw [List.take_add_one,e];rfl
    show tc (some xs[i]::js.map fun j=>(σ[j]?).join) H' _
    refine hc xs[i] hm H' sH _ fun H3 s3=>?_
    cases hp:p xs[i] with
    | false =>
      rw [if_neg Bool.false_ne_true]
      refine ⟨xs.length - (i + 1),by omega,rfl,hlt,⟨_,rfl⟩,?_,sH.trans s3,s3 _ _ hL⟩
      rw [htk,List.filter_append];simp [hp]
    | true =>
      rw [if_pos rfl]
      refine he xs[i] hm hp H3 (sH.trans s3) _ fun H4 s4=>?_
      refine ⟨s4 _ _ (s3 _ _ hL),xs.length - (i + 1),by omega,rfl,hlt,⟨_,rfl⟩,?_,((sH.trans s3).trans s4).upd_new hD,upd_same⟩
      rw [htk,List.filter_append];simp [hp]
  · have e:i=xs.length:=by omega
    subst e
    refine .inl ⟨(hJ H sH).2 _ (Nat.le_refl _),q D H hD sH ?_⟩
    rw [List.take_length] at hL;exact hL
theorem lc_map {J:It}{H1:Hp}{xs:List V}{js:List Nat}{σ:St}{te:TE}{Q:VK} (hJ:J.Seq H1 xs) (hl:xs.length < sizeLine) (f:V->V)
    (he:∀ x∈xs,∀ H,Same H1 H->∀ R:VK,(∀ H',Same H H'->R (f x) H')->te (some x::js.map fun j=>(σ[j]?).join) H R)
    (q:∀ D H,H1 D=none->Same H1 H->H D=some (.lst (xs.map f))->Q (.ref D) H):LcTurns (gName 0) tYes te (blkSt 1 js σ) J H1 Q :=
  lc_one hJ hl (fun _=>true) f (fun x _ H _ R hR=>hR H (Same.refl H)) (fun x hx _ H s R hR=>he x hx H s R hR) fun D H h1 h2 h3=>q D H h1 h2 (by rw [List.filter_eq_self.mpr (fun _ _=>rfl)] at h3;exact h3)
end L2

namespace L2
open PySem PySem.Spec PyProof.Rows
section
variable {X:Cx}
def CBig (i j:Int):Prop:=i.natAbs < 2 ^ 1000/\j.natAbs < 2 ^ 1000
theorem op_mulZ:OpR X (binaryOp .Mult) (rI CBig fun i j=>.int (i * j)):=opI fun _ _ _ _ _ _ _ hc q =>
  mul_int q (IntMulOk.of_bits (Nat.le_trans (intBits_le_iff.mpr hc.1) (by decide)) (Nat.le_trans (intBits_le_iff.mpr hc.2) (by decide)))
def CDivZ (_ j:Int):Prop:=0 < j/\j < 2 ^ 1000
theorem op_fdivZ:OpR X (binaryOp .FloorDiv) (rI CDivZ fun i j=>.int (i / j)):=opI fun i j _ _ _ _ _ hc q=>by
  have h1:(0:Int) < j:=hc.1
  have h2:j < 2 ^ 1000:=hc.2
  have h3:j.natAbs < 2 ^ 1000:=by
    have e:((j.natAbs:Nat):Int)=j:=Int.natAbs_of_nonneg (by omega)
    have e2:((2 ^ 1000:Nat):Int)=(2:Int) ^ 1000:=by rw [Int.natCast_pow];rfl
    omega
  refine floordiv_int (by omega) (by rw [Int.fdiv_eq_ediv_of_nonneg i (by omega)];exact q) (.inl (PyProof.noPylong_of_log2 ?_))
  have h4:j.natAbs≠0:=by omega
  exact Nat.lt_of_lt_of_le ((Nat.log2_lt h4).mpr h3) (by decide)
theorem op_is_bl:OpR X (compareOp .Is) (fun x y H Q=>∃ a b,x=.bl a/\y=.bl b/\Q (.bl (a == b)) H):=by
  intro pins s σ H x y v u Q I rx ry h
  obtain ⟨a,b,rfl,rfl,q⟩:=h
  cases rx;cases ry
  exact is_bool (fin_bl I q rfl)
theorem op_isnot_bl:OpR X (compareOp .IsNot) (fun x y H Q=>∃ a b,x=.bl a/\y=.bl b/\Q (.bl (a != b)) H):=by
  intro pins s σ H x y v u Q I rx ry h
  obtain ⟨a,b,rfl,rfl,q⟩:=h
  cases rx;cases ry
  exact isnot_bool (fin_bl I q rfl)
def rIsi (K:PySem.W.Frag):List V->Hp->VK->Prop:=fun xs H Q=>∃ x t c b,xs=[x,.ty c]/\TyOf K H x t/\PySem.W.kitOne K t (.type c)=some b/\Q (.bl b) H
theorem call_isi:CallR X (.builtin "isinstance") (rIsi X.K):=by
  intro pins s σ H xs us Q I r h
  obtain ⟨x,t,c,b,rfl,ty,e,q⟩:=h
  obtain ⟨u,w',rfl,ru,rw'⟩:=vals2 r
  obtain rfl:w'=Value.type c:=rw'
  exact isinst_ok I ru ty e fun tk=>⟨.bl b,H,I.tok tk,rfl,q⟩
def eqVs:List V->List V->Bool
  | [],[]=>true
  | x::xs,y::ys=>eqV x y && eqVs xs ys
  | _,_=>false
theorem eqVs_len:∀ {xs ys:List V},xs.length≠ys.length->eqVs xs ys=false
  | [],[],h=>absurd rfl h
  | [],_::_,_=>rfl
  | _::_,[],_=>rfl
  | x::xs,y::ys,h=>by
    have h':xs.length≠ys.length:=fun e=>h (by rw [List.length_cons,List.length_cons,e])
    show (eqV x y && eqVs xs ys)=false
    rw [eqVs_len h',Bool.and_false]
theorem eqVs_range:∀ {xs ys:List V},xs.length=ys.length->(List.range xs.length).all (fun j=>eqV (xs.getD j .non) (ys.getD j .non))=eqVs xs ys
  | [],[],_=>rfl
  | [],_::_,h=>by cases h
  | _::_,[],h=>by cases h
  | x::xs,y::ys,h=>by
    have h':xs.length=ys.length:=by simpa using h
    rw [List.length_cons,List.range_succ_eq_map,List.all_cons,List.all_map]
    show (eqV x y && (List.range xs.length).all (fun j=>eqV (xs.getD j .non) (ys.getD j .non)))=(eqV x y && eqVs xs ys)
    rw [eqVs_range h']
def rEqL (K:PySem.W.Frag) (neg:Bool):R2:=fun x y H Q=>∃ a b xs ys,x=.ref a/\y=.ref b/\SqL K H a xs/\SqL K H b ys/\xs.all flatV=true/\ys.all flatV=true/\Q (.bl (if neg then !eqVs xs ys else eqVs xs ys)) H
theorem eqAt_items {A:Around}{s:Shared}{xs ys:List V}{us vs:List Value} (r1:Vals xs us) (r2:Vals ys vs) (f1:xs.all flatV=true) (f2:ys.all flatV=true) (j:Nat) (h1:j < us.toArray.size) (h2:j < vs.toArray.size) :
    SeqAt.EqAt A s us.toArray[j] vs.toArray[j] (eqV (xs.getD j .non) (ys.getD j .non)):=by
  have l1:=r1.length
  have l2:=r2.length
  rw [List.size_toArray] at h1 h2
  have e1:xs[j]?=some (xs[j]'(by omega)):=by simp [show j < xs.length by omega]
  have e2:ys[j]?=some (ys[j]'(by omega)):=by simp [show j < ys.length by omega]
  obtain ⟨u,hu,ru⟩:=r1.get e1
  obtain ⟨v,hv,rv⟩:=r2.get e2
  have hu':us.toArray[j]=u:=by
    have:=List.getElem?_eq_some_iff.mp hu
    simpa using this.2
  have hv':vs.toArray[j]=v:=by
    have:=List.getElem?_eq_some_iff.mp hv
    simpa using this.2
  rw [hu',hv',List.getD_eq_getElem?_getD,List.getD_eq_getElem?_getD,e1,e2]
  exact eqAt_V ru rv (List.all_eq_true.mp f1 _ (List.getElem_mem _)) (List.all_eq_true.mp f2 _ (List.getElem_mem _))
theorem op_eqL (hu:X.A.units < cLine):OpR X (compareOp .Eq) (rEqL X.K false):=by
  intro pins s σ H x y v u Q I rx ry h
  obtain ⟨a,b,xs,ys,rfl,rfl,ha,hb,f1,f2,q⟩:=h
  cases rx;cases ry
  obtain ⟨us,r1,p1,_⟩:=I.list ha
  obtain ⟨vs,r2,p2,_⟩:=I.list hb
  have l1:=r1.length
  have l2:=r2.length
  by_cases hl:xs.length=ys.length
  · refine SeqAt.eq_listAt p1.isList p2.isList (by simp only [List.size_toArray];omega) hu (fun j h1 h2=>eqAt_items r1 r2 f1 f2 j h1 h2) ⟨.bl _,H,I,rfl,?_⟩
    rw [List.size_toArray,← l1,eqVs_range hl];exact q
  · refine SeqAt.eq_list_lengthsAt p1.isList p2.isList (by simp only [List.size_toArray,bne_iff_ne,ne_eq];omega) hu ⟨.bl _,H,I,rfl,?_⟩
    have e:=eqVs_len hl
    rw [if_neg Bool.false_ne_true,e] at q;exact q
theorem op_neL (hu:X.A.units < cLine):OpR X (compareOp .NotEq) (rEqL X.K true):=by
  intro pins s σ H x y v u Q I rx ry h
  obtain ⟨a,b,xs,ys,rfl,rfl,ha,hb,f1,f2,q⟩:=h
  cases rx;cases ry
  obtain ⟨us,r1,p1,_⟩:=I.list ha
  obtain ⟨vs,r2,p2,_⟩:=I.list hb
  have l1:=r1.length
  have l2:=r2.length
  by_cases hl:xs.length=ys.length
  · refine SeqAt.RcNeAt.lists p1.isList p2.isList (by simp only [List.size_toArray];omega) hu (fun j h1 h2=>eqAt_items r1 r2 f1 f2 j h1 h2) _ _ _ _ ⟨.bl _,H,I,rfl,?_⟩
    rw [List.size_toArray,← l1,eqVs_range hl];exact q
  · refine SeqAt.RcNeAt.lists_lengths p1.isList p2.isList (by simp only [List.size_toArray,bne_iff_ne,ne_eq];omega) hu _ _ _ _ ⟨.bl _,H,I,rfl,?_⟩
    have e:=eqVs_len hl
    rw [if_pos rfl,e] at q;exact q
theorem Vals.bools:∀ {bs:List Bool}{us:List Value},Vals (bs.map V.bl) us->us=bs.map Value.bool
  | [],_,.nil=>rfl
  | b::bs,_::_,.cons r t=>by
    cases (show _=Value.bool b from r)
    rw [List.map_cons,Vals.bools t]
theorem all_range (bs:List Bool):(List.range bs.length).all (fun i=>bs.getD i false)=bs.all id:=by
  induction bs with
  | nil=>rfl
  | cons b r ih =>
    rw [List.length_cons,List.range_succ_eq_map,List.all_cons,List.all_map,List.all_cons]
    show (b && (List.range r.length).all (fun i=>r.getD i false))=_
    rw [ih];rfl
theorem truth_bools (bs:List Bool) (A:Around) (P:Program) (w:World):TruthOf P w A (fun i v=>(bs.map Value.bool).toArray[i]?=some v) (fun i=>bs.getD i false):=fun i v s Q E hP hQ=>by
  have e:(bs[i]?).map Value.bool=some v:=by simpa using hP
  cases q:bs[i]? with
  | none=>rw [q] at e;cases e
  | some b =>
    rw [q] at e
    have e':Value.bool b=v:=Option.some.inj e
    subst e'
    have hb:bs.getD i false=b:=by rw [List.getD_eq_getElem?_getD,q];rfl
    have hQ':Q (bs.getD i false) s:=hQ
    rw [hb] at hQ'
    exact wpAny_truthy_bool hQ'
def rAll (K:PySem.W.Frag):List V->Hp->VK->Prop:=fun vs H Q=>∃ (a:Addr) (bs:List Bool),vs=[.ref a]/\SqL K H a (bs.map V.bl)/\Q (.bl (bs.all id)) H
theorem call_allB (hc:X.calm=true):CallR X (.builtin "all") (rAll X.K):=by
  intro pins s σ H xs us Q I r h
  obtain ⟨a,bs,rfl,hq,q⟩:=h
  obtain ⟨u,rfl,ru⟩:=vals1 r
  cases ru
  obtain ⟨its,rv,p,hz⟩:=I.list hq
  obtain rfl:=rv.bools
  have ha:a < s.heap.objs.size:=by obtain ⟨o,e,_⟩:=p.isList;exact Heap.lt_size e
  refine call_all_walk (wpAny_pyIter_list p.isList ⟨s.heap.objs.size,_,_,_,_,_,fun i=>bs.getD i false,rfl,Walks.list (A:=X.A.in1) (I.ok.hd hc) _ a (Nat.ne_of_lt ha) _,⟨⟨_,Heap.get?_push_size _ rfl,rfl,rfl⟩,p.isList.push _⟩,truth_bools bs _ _ _,fun h' tk hk=>?_⟩)
  refine ⟨.bl (bs.all id),H,I.kept fun b o e=>hk b o (fun z=>?_) (Heap.get?_push_of_some _ e),?_,q⟩
  · have z':b=s.heap.objs.size:=by simpa using z
    exact absurd (Heap.lt_size e) (by rw [z'];exact Nat.lt_irrefl _)
  · show Value.bool _=Value.bool _
    rw [← all_range bs];simp
def rngV (lo:Int) (n:Nat):List V:=(List.range n).map fun (k:Nat)=>V.int (lo + (k:Int))
theorem vals_items {lo:Int}{n:Nat}{acc:Array Value} (h:ItemsOf (fun (i:Nat) v=>∃ t,v=Value.int (lo + (i:Int) * 1) t) acc n):Vals (rngV lo n) acc.toList:=by
  obtain ⟨hs,hi⟩:=h
  have key:∀ (xs:List Value) (m:Nat),(∀ j v,xs[j]?=some v->∃ t,v=Value.int (lo + ((m + j:Nat):Int)) t)->Vals ((List.range' m xs.length).map fun (k:Nat)=>V.int (lo + (k:Int))) xs:=by
    intro xs
    induction xs with
    | nil=>intro m _;exact .nil
    | cons x r ih =>
      intro m hx
      rw [List.length_cons,List.range'_succ,List.map_cons]
      refine .cons ?_ (ih (m + 1) fun j v e=>?_)
      · obtain ⟨t,e⟩:=hx 0 x rfl
        exact ⟨t,by simpa using e⟩
      · obtain ⟨t,e'⟩:=hx (j + 1) v (by simpa using e)
        exact ⟨t,by rw [e'];congr 2;omega⟩
  have:=key acc.toList 0 fun j v e=>by
    obtain ⟨t,e'⟩:=hi j v (by simpa using e)
    exact ⟨t,by rw [e',Int.mul_one,Nat.zero_add]⟩
  rw [Array.length_toList,hs,← List.range_eq_range'] at this
  exact this
def rListRng:List V->Hp->VK->Prop:=fun vs H Q=>∃ a lo hi,vs=[.ref a]/\H a=some (.rng lo hi)/\(-(2 ^ 62)<=lo/\lo < 2 ^ 62/\-(2 ^ 62)<=hi/\hi < 2 ^ 62)/\(hi - lo).toNat<=2 ^ 20/\∀ p,H p=none->Q (.ref p) (upd H p (.lst (rngV lo (hi - lo).toNat)))
theorem call_listRng (hc:X.calm=true):CallR X (.type "list") rListRng:=by
  intro pins s σ H xs us Q I r h
  obtain ⟨a,lo,hi,rfl,ha,⟨h1,h2,h3,h4⟩,hn,q⟩:=h
  obtain ⟨u,rfl,ru⟩:=vals1 r
  cases ru
  obtain ⟨t,u,v,e⟩:=(show ObjOk X.prog X.w H s.heap a (.rng lo hi) from I.hok a _ ha)
  refine call_list_range (n:=(hi - lo).toNat) (I.ok.hd hc) e (small_one h1 h2 h3 h4) (by rw [rangeSize_one];split <;> omega) (by omega) fun h' tk acc c hk hS hacc=>?_
  have hv:=vals_items hacc
  have hlen:(rngV lo (hi - lo).toNat).length<=sizeLine:=by
    unfold rngV
    rw [List.length_map,List.length_range]
    exact Nat.le_trans hn (by decide)
  exact ⟨.ref s.heap.objs.size,_,I.laid hk (Nat.le_refl _) (show ObjOk X.prog X.w _ _ _ (.lst (rngV lo (hi - lo).toNat)) from ⟨hlen,acc.toList,c,hv,by simpa using hS⟩),rfl,q _ (I.hok.fresh (Nat.le_refl _))⟩
theorem Inv.turnL {pins:List (Addr × Obj)}{σ:St}{H:Hp}{s:Shared}{h':Heap}{t':Nat}{ch:List Addr} (I:Inv X pins σ H s) (hf:∀ b∈ch,FpOk X pins H b) (k:∀ b o,b ∉ ch->s.heap.get? b=some o->h'.get? b=some o) :
    Inv X pins σ H { s with heap:=h',toks:=t' }:=by
  have nch:∀ b u,H b=some u->b ∉ ch:=fun b u e z=>by rw [(hf b z).1] at e;cases e
  refine I.step (g':=s.gens) (d':=s.drawn) (ch:=ch) (fun b hb=>?_) (fun b o _ _ hc e _=>k b o hc e) (fun b o _ _ hc e _=>⟨o.slots,k b o hc e⟩) (fun _ _ _ _ n=>n) (fun b o hc e=>⟨o,k b o hc e⟩) (fun _ _ e=>e) (fun _ _ _ e=>e)
    (fun b ps e=>⟨#[],by rw [e];simp⟩) (fun m hm=>?_) (fun b u e=>?_) I.bare
  · obtain ⟨_,f1,_,f3,f4,f5⟩:=hf b hb
    exact ⟨f3,f1,f4,f5⟩
  · obtain ⟨o,es,ep,ho,r⟩:=hm
    exact ⟨o,es,ep,k _ o (fun z=>(hf _ z).2.1 rfl) ho,r⟩
  · refine (I.hok b u e).stay (fun c v hc q=>k c v ?_ q) (fun _ q=>q) fun _ _ q=>q
    rcases hc with z | z
    · rw [z];exact nch b u e
    · exact nch c _ z
theorem Inv.turnNew {pins:List (Addr × Obj)}{σ:St}{H:Hp}{s:Shared}{h':Heap}{t':Nat}{ch:List Addr}{T:Addr}{o':HO} (I:Inv X pins σ H s) (hf:∀ b∈ch,FpOk X pins H b)
    (k:∀ b o,b ∉ ch->s.heap.get? b=some o->h'.get? b=some o) (hk2:∀ b o,s.heap.get? b=some o->∃ o',h'.get? b=some o') (hT:s.heap.objs.size<=T) (new:ObjOk X.prog X.w (upd H T o') h' T o') :
    Inv X pins σ (upd H T o') { s with heap:=h',toks:=t' }:=by
  have nch:∀ b u,H b=some u->b ∉ ch:=fun b u e z=>by rw [(hf b z).1] at e;cases e
  have hTn:H T=none:=I.hok.fresh hT
  have neT:∀ b o,s.heap.get? b=some o->b≠T:=fun b o e=>Nat.ne_of_lt (Nat.lt_of_lt_of_le (Heap.lt_size e) hT)
  refine I.step (g':=s.gens) (d':=s.drawn) (ch:=ch) (fun b hb=>?_) (fun b o _ _ hc e _=>k b o hc e) (fun b o _ _ hc e _=>⟨o.slots,k b o hc e⟩) (fun b o _ e n=>by rw [upd_ne (neT b o e)];exact n) (fun b o hc e=>⟨o,k b o hc e⟩)
    (fun b xs e=>by rw [upd_ne (ne_of_none e hTn)];exact e) (fun b u xs e=>by rw [upd_ne (ne_of_none e hTn)];exact e) (fun b ps e=>⟨#[],by rw [upd_ne (ne_of_none e hTn),e];simp⟩) (fun m hm=>?_) (fun b u e=>?_) I.bare
  · obtain ⟨_,f1,_,f3,f4,f5⟩:=hf b hb
    exact ⟨f3,f1,f4,f5⟩
  · obtain ⟨o,es,ep,ho,r⟩:=hm
    exact ⟨o,es,ep,k _ o (fun z=>(hf _ z).2.1 rfl) ho,r⟩
  · by_cases hb:b=T
    · subst hb;rw [upd_same] at e;cases e;exact new
    · rw [upd_ne hb] at e
      refine (I.hok b u e).stay (fun c v hc q=>k c v ?_ q) (fun c q=>by rw [upd_ne (ne_of_none q hTn)];exact q) fun c xs q=>by rw [upd_ne (ne_of_none q hTn)];exact q
      rcases hc with z | z
      · rw [z];exact nch b u e
      · exact nch c _ z
end
section
variable {X:Cx}
end
end L2

namespace L2
open PySem PySem.Spec PyProof.Rows
section
variable {X:Cx}
def nw (H:Hp) (o:HO) (Q:VK):Prop:=∀ p H',H p=none->Same H H'->H' p=some o->Q (.ref p) H'
theorem same_upd {H:Hp}{a:Addr}{o:HO} (hn:H a=none):Same H (upd H a o):=fun b u e=>by rw [upd_ne (ne_of_none e hn)];exact e
theorem nw.go {H:Hp}{o:HO}{Q:VK} (h:nw H o Q) (p:Addr) (hp:H p=none):Q (.ref p) (upd H p o):=h p _ hp (same_upd hp) upd_same
def rAddX:R2:=fun x y H Q=>match x,y with
  | .int i,.int j=>Q (.int (i + j)) H
  | .str a,.str b=>a.length + b.length<=sizeLine/\Q (.str (a++b)) H
  | .ref l,.ref b=>∃ xs zs,H l=some (.lst xs)/\H b=some (.lst zs)/\xs.length + zs.length<=sizeLine/\nw H (.lst (xs++zs)) Q
  | _,_=>False
theorem op_addX:OpR X (binaryOp .Add) rAddX:=by
  intro pins s σ H x y v u Q I rx ry h
  cases x with
  | int i=>cases y with
    | int j=>exact op_add pins s σ H _ _ v u Q I rx ry ⟨_,_,rfl,rfl,h⟩
    | _=>exact False.elim h
  | str a=>cases y with
    | str b=>exact op_add_str pins s σ H _ _ v u Q I rx ry ⟨_,_,rfl,rfl,h.1,h.2⟩
    | _=>exact False.elim h
  | ref l=>cases y with
    | ref b =>
      obtain ⟨xs,zs,h1,h2,h3,h4⟩:=h
      exact op_cat pins s σ H _ _ v u Q I rx ry ⟨_,_,xs,zs,rfl,rfl,h1,h2,h3,h4.go⟩
    | _=>exact False.elim h
  | _=>exact False.elim h
def rSubX:R2:=fun x y H Q=>match x,y with
  | .int i,.int j=>Q (.int (i - j)) H
  | _,_=>False
theorem op_subX:OpR X (binaryOp .Sub) rSubX:=by
  intro pins s σ H x y v u Q I rx ry h
  cases x with
  | int i=>cases y with
    | int j=>exact op_sub pins s σ H _ _ v u Q I rx ry ⟨_,_,rfl,rfl,h⟩
    | _=>exact False.elim h
  | _=>exact False.elim h
def rMulX:R2:=fun x y H Q=>match x,y with
  | .int i,.int j=>CBig i j/\Q (.int (i * j)) H
  | .ref l,.int k=>∃ xs,H l=some (.lst xs)/\-(2 ^ 63)<=k/\k < 2 ^ 63/\xs.length * k.toNat<=sizeLine/\nw H (.lst (List.replicate k.toNat xs).flatten) Q
  | _,_=>False
theorem op_mulX:OpR X (binaryOp .Mult) rMulX:=by
  intro pins s σ H x y v u Q I rx ry h
  cases x with
  | int i=>cases y with
    | int j=>exact op_mulZ pins s σ H _ _ v u Q I rx ry ⟨_,_,rfl,rfl,h.1,h.2⟩
    | _=>exact False.elim h
  | ref l=>cases y with
    | int k =>
      obtain ⟨xs,h1,h2,h3,h4,h5⟩:=h
      exact op_rep pins s σ H _ _ v u Q I rx ry ⟨_,_,xs,rfl,rfl,h1,h2,h3,h4,h5.go⟩
    | _=>exact False.elim h
  | _=>exact False.elim h
def rFdivX:R2:=fun x y H Q=>match x,y with
  | .int i,.int j=>(0 < j/\j < 2 ^ 1000)/\Q (.int (i / j)) H
  | _,_=>False
theorem op_fdivX:OpR X (binaryOp .FloorDiv) rFdivX:=by
  intro pins s σ H x y v u Q I rx ry h
  cases x with
  | int i=>cases y with
    | int j=>exact op_fdivZ pins s σ H _ _ v u Q I rx ry ⟨_,_,rfl,rfl,h.1,h.2⟩
    | _=>exact False.elim h
  | _=>exact False.elim h
def rModX:R2:=fun x y H Q=>match x,y with
  | .int i,.int j=>0 < j/\Q (.int (i % j)) H
  | _,_=>False
theorem op_modX:OpR X (binaryOp .Mod) rModX:=by
  intro pins s σ H x y v u Q I rx ry h
  cases x with
  | int i=>cases y with
    | int j=>exact op_mod pins s σ H _ _ v u Q I rx ry ⟨_,_,rfl,rfl,h.1,h.2⟩
    | _=>exact False.elim h
  | _=>exact False.elim h
def rPowX:R2:=fun x y H Q=>match x,y with
  | .int i,.int j=>(0<=j/\j<=1000000/\i.natAbs < 2 ^ 64)/\Q (.int (i ^ j.toNat)) H
  | _,_=>False
theorem op_powX:OpR X (binaryOp .Pow) rPowX:=by
  intro pins s σ H x y v u Q I rx ry h
  cases x with
  | int i=>cases y with
    | int j=>exact op_pow pins s σ H _ _ v u Q I rx ry ⟨_,_,rfl,rfl,h.1,h.2⟩
    | _=>exact False.elim h
  | _=>exact False.elim h
def rCmpX (f:Int->Int->Bool):R2:=fun x y H Q=>match x,y with
  | .int i,.int j=>Q (.bl (f i j)) H
  | _,_=>False
theorem op_cmpX {op:CmpOp}{f:Int->Int->Bool} (h0:OpR X (compareOp op) (rI0 fun i j=>.bl (f i j))):OpR X (compareOp op) (rCmpX f):=by
  intro pins s σ H x y v u Q I rx ry h
  cases x with
  | int i=>cases y with
    | int j=>exact h0 pins s σ H _ _ v u Q I rx ry ⟨_,_,rfl,rfl,h⟩
    | _=>exact False.elim h
  | _=>exact False.elim h
abbrev rLtX:R2:=rCmpX fun i j=>decide (i < j)
abbrev rLeX:R2:=rCmpX fun i j=>decide (i<=j)
abbrev rGtX:R2:=rCmpX fun i j=>decide (j < i)
theorem op_ltX:OpR X (compareOp .Lt) rLtX:=op_cmpX op_lt
theorem op_leX:OpR X (compareOp .LtE) rLeX:=op_cmpX op_le
theorem op_gtX:OpR X (compareOp .Gt) rGtX:=op_cmpX op_gt
def rEqX (K:PySem.W.Frag):R2:=fun x y H Q=>match x,y with
  | .int i,.int j=>Q (.bl (decide (i=j))) H
  | .bl i,.bl j=>Q (.bl (decide (i=j))) H
  | .str i,.str j=>Q (.bl (decide (i=j))) H
  | .ref a,.ref b=>∃ xs ys,SqL K H a xs/\SqL K H b ys/\xs.all flatV=true/\ys.all flatV=true/\Q (.bl (eqVs xs ys)) H
  | _,_=>False
def rNeX (K:PySem.W.Frag):R2:=fun x y H Q=>match x,y with
  | .int i,.int j=>Q (.bl (!decide (i=j))) H
  | .bl i,.bl j=>Q (.bl (!decide (i=j))) H
  | .str i,.str j=>Q (.bl (!decide (i=j))) H
  | .ref a,.ref b=>∃ xs ys,SqL K H a xs/\SqL K H b ys/\xs.all flatV=true/\ys.all flatV=true/\Q (.bl (!eqVs xs ys)) H
  | _,_=>False
theorem decV_int (i j:Int):decide (V.int i=V.int j)=decide (i=j):=by
  by_cases e:i=j
  · subst e;simp
  · rw [decide_eq_false e];exact decide_eq_false fun h=>e (V.int.inj h)
theorem decV_bl (i j:Bool):decide (V.bl i=V.bl j)=decide (i=j):=by
  by_cases e:i=j
  · subst e;simp
  · rw [decide_eq_false e];exact decide_eq_false fun h=>e (V.bl.inj h)
theorem decV_str (i j:Str):decide (V.str i=V.str j)=decide (i=j):=by
  by_cases e:i=j
  · subst e;simp
  · rw [decide_eq_false e];exact decide_eq_false fun h=>e (V.str.inj h)
theorem op_eqX (hu:X.A.units < cLine):OpR X (compareOp .Eq) (rEqX X.K):=by
  intro pins s σ H x y v u Q I rx ry h
  cases x with
  | int i=>cases y with
    | int j=>exact op_eq pins s σ H _ _ v u Q I rx ry ⟨rfl,by rw [decV_int];exact h⟩
    | _=>exact False.elim h
  | bl i=>cases y with
    | bl j=>exact op_eq pins s σ H _ _ v u Q I rx ry ⟨rfl,by rw [decV_bl];exact h⟩
    | _=>exact False.elim h
  | str i=>cases y with
    | str j=>exact op_eq pins s σ H _ _ v u Q I rx ry ⟨rfl,by rw [decV_str];exact h⟩
    | _=>exact False.elim h
  | ref a=>cases y with
    | ref b =>
      obtain ⟨xs,ys,h1,h2,h3,h4,h5⟩:=h
      exact op_eqL hu pins s σ H _ _ v u Q I rx ry ⟨_,_,xs,ys,rfl,rfl,h1,h2,h3,h4,h5⟩
    | _=>exact False.elim h
  | _=>exact False.elim h
theorem op_neX (hu:X.A.units < cLine):OpR X (compareOp .NotEq) (rNeX X.K):=by
  intro pins s σ H x y v u Q I rx ry h
  cases x with
  | int i=>cases y with
    | int j=>exact op_ne pins s σ H _ _ v u Q I rx ry ⟨rfl,by rw [decV_int];exact h⟩
    | _=>exact False.elim h
  | bl i=>cases y with
    | bl j=>exact op_ne pins s σ H _ _ v u Q I rx ry ⟨rfl,by rw [decV_bl];exact h⟩
    | _=>exact False.elim h
  | str i=>cases y with
    | str j=>exact op_ne pins s σ H _ _ v u Q I rx ry ⟨rfl,by rw [decV_str];exact h⟩
    | _=>exact False.elim h
  | ref a=>cases y with
    | ref b =>
      obtain ⟨xs,ys,h1,h2,h3,h4,h5⟩:=h
      exact op_neL hu pins s σ H _ _ v u Q I rx ry ⟨_,_,xs,ys,rfl,rfl,h1,h2,h3,h4,h5⟩
    | _=>exact False.elim h
  | _=>exact False.elim h
def isV:V->V->Option Bool
  | .non,.non=>some true
  | .bl _,.non=>some false
  | .int _,.non=>some false
  | .str _,.non=>some false
  | .ref _,.non=>some false
  | .bl a,.bl b=>some (a == b)
  | _,_=>none
def rIsX (neg:Bool):R2:=fun x y H Q=>match isV x y with
  | some b=>Q (.bl (b != neg)) H
  | none=>False
theorem op_isX:OpR X (compareOp .Is) (rIsX false):=by
  intro pins s σ H x y v u Q I rx ry h
  cases x <;> cases y <;> first
    | exact False.elim h
    | exact op_isN pins s σ H _ _ v u Q I rx ry ⟨rfl,h⟩
    | exact op_is_bl pins s σ H _ _ v u Q I rx ry ⟨_,_,rfl,rfl,by simpa [rIsX,isV] using h⟩
theorem op_isnotX:OpR X (compareOp .IsNot) (rIsX true):=by
  intro pins s σ H x y v u Q I rx ry h
  cases x <;> cases y <;> first
    | exact False.elim h
    | exact op_notN pins s σ H _ _ v u Q I rx ry ⟨rfl,h⟩
    | exact op_isnot_bl pins s σ H _ _ v u Q I rx ry ⟨_,_,rfl,rfl,by simpa [rIsX,isV,bne] using h⟩
def Sq (K:PySem.W.Frag) (H:Hp) (a:Addr) (xs:List V):Prop:=SqL K H a xs ∨ SqT K H a xs
theorem Sq.l {K:PySem.W.Frag}{H:Hp}{a:Addr}{xs:List V} (h:H a=some (.lst xs)):Sq K H a xs:=.inl (.of h)
theorem Sq.t {K:PySem.W.Frag}{H:Hp}{a:Addr}{xs:List V} (h:H a=some (.tup xs)):Sq K H a xs:=.inr (.of h)
def rIxX (K:PySem.W.Frag):R2:=fun x y H Q=>match x,y with
  | .ref p,.int i=>∃ xs v,Sq K H p xs/\atI xs i=some v/\Q v H
  | .str z,.int i=>z.length<=sizeLine/\∃ c,atI z.cps.toList i=some c/\Q (.str ⟨#[c]⟩) H
  | _,_=>False
theorem ix_X:IxR X (rIxX X.K):=by
  intro value slice pins s σ H x y v u Q I rx ry h hs
  cases x with
  | ref p=>cases y with
    | int i =>
      obtain ⟨xs,w',h1 | h1,h2,h3⟩:=h
      · exact ix_list value slice pins s σ H _ _ v u Q I rx ry ⟨_,xs,_,w',rfl,rfl,h1,h2,h3⟩ hs
      · exact ix_tup value slice pins s σ H _ _ v u Q I rx ry ⟨_,xs,_,w',rfl,rfl,h1,h2,h3⟩ hs
    | _=>exact False.elim h
  | str z=>cases y with
    | int i =>
      obtain ⟨h1,c,h2,h3⟩:=h
      exact ix_str value slice pins s σ H _ _ v u Q I rx ry ⟨z,i,c,rfl,rfl,h1,h2,h3⟩ hs
    | _=>exact False.elim h
  | _=>exact False.elim h
def rLenX (K:PySem.W.Frag):List V->Hp->VK->Prop:=fun vs H Q=>match vs with
  | [.str z]=>z.length<=sizeLine/\Q (.int z.length) H
  | [.ref p]=>∃ xs,Sq K H p xs/\Q (.int xs.length) H
  | _=>False
theorem call_lenX:CallR X (.builtin "len") (rLenX X.K):=by
  intro pins s σ H xs us Q I r h
  match xs,h with
  | [.str z],h=>exact call_len_str pins s σ H _ us Q I r ⟨z,rfl,h.1,h.2⟩
  | [.ref p],h =>
    obtain ⟨ys,h1,h2⟩:=h
    exact call_len_seq pins s σ H _ us Q I r ⟨p,ys,rfl,h1,h2⟩
def rListX (K:PySem.W.Frag):List V->Hp->VK->Prop:=fun vs H Q=>match vs with
  | [.ref a]=>∃ ys,(Sq K H a ys ∨ ∃ lo hi,H a=some (.rng lo hi)/\(-(2 ^ 62)<=lo/\lo < 2 ^ 62/\-(2 ^ 62)<=hi/\hi < 2 ^ 62)/\(hi - lo).toNat<=2 ^ 20/\ys=rngV lo (hi - lo).toNat)/\nw H (.lst ys) Q
  | _=>False
theorem call_listX (hc:X.calm=true):CallR X (.type "list") (rListX X.K):=by
  intro pins s σ H xs us Q I r h
  match xs,h with
  | [.ref a],h =>
    obtain ⟨ys,h1 | ⟨lo,hi,h1,h2,h3,rfl⟩,h4⟩:=h
    · exact call_list_of pins s σ H _ us Q I r ⟨a,ys,rfl,h1,h4.go⟩
    · exact call_listRng hc pins s σ H _ us Q I r ⟨a,lo,hi,rfl,h1,h2,h3,h4.go⟩
theorem bt_isinstance:bootBuiltins "isinstance"=some (.builtin "isinstance"):=by kernel_rfl
theorem bt_len:bootBuiltins "len"=some (.builtin "len"):=by kernel_rfl
theorem bt_all:bootBuiltins "all"=some (.builtin "all"):=by kernel_rfl
theorem bt_min:bootBuiltins "min"=some (.builtin "min"):=by kernel_rfl
theorem bt_sorted:bootBuiltins "sorted"=some (.builtin "sorted"):=by kernel_rfl
theorem bt_list:bootBuiltins "list"=some (.type "list"):=by kernel_rfl
theorem bt_tuple:bootBuiltins "tuple"=some (.type "tuple"):=by kernel_rfl
theorem bt_dict:bootBuiltins "dict"=some (.type "dict"):=by kernel_rfl
theorem bt_int:bootBuiltins "int"=some (.type "int"):=by kernel_rfl
theorem bt_str:bootBuiltins "str"=some (.type "str"):=by kernel_rfl
theorem bt_bool:bootBuiltins "bool"=some (.type "bool"):=by kernel_rfl
theorem bt_set:bootBuiltins "set"=some (.type "set"):=by kernel_rfl
theorem bt_enumerate:bootBuiltins "enumerate"=some (.type "enumerate"):=by kernel_rfl
theorem pe_ty {x:Str}{T:String}{pos:Pos} (hg:Gl X x) (hm:X.mg x=none) (hv:bootBuiltins x=some (.type T)) (hn:x≠"__name__":=by decide) (hd:(x == ("__debug__":Str))=false:=by decide):PE X (.Name x pos) (tC (.ty T)) :=
  pe_bltn hg hm hv rfl hn hd
structure Fnc (P:Program) (w:World) (K:PySem.W.Frag) (mg:Str->Option Value) (base:Heap) (CX:CXT) (k:Nat) (x:Str) (ps:List Str) (sp:Sp):Prop where
  ex:∃ (f:Addr) (fd:FuncData),FnOk P w K mg base CX k f fd ps sp/\mg x=some (.ref f)/\PySem.W.keepIn K (.ref f)=true/\Binds K fd ps []
theorem pe_callF {CX:CXT}{E:St->XK}{k:Nat}{x:Str}{ps:List Str}{sp:Sp}{e:Expr}{es:List Expr}{t:TA}{p pos:Pos} (C:Fnc X.prog X.w X.K X.mg X.base CX k x ps sp) (hx:Passes CX X E) (hr:Room k X.A) (hg:Gl X x) (ha:PA X (e::es) t)
    (hd:(x == ("__debug__":Str))=false:=by decide)
    (he:starEach (e::es) X.env=(false,eval e X.env)::starEach es X.env:=by rfl) (hpl:(backTo pos (starEach es X.env)).any (·.1)=false:=by rfl):PE X (.Call (.Name x p) (e::es) [] pos) (tCall sp [] E t):=by
  obtain ⟨f,fd,F,hm,hk,hb⟩:=C.ex
  exact pe_call F hr hg hm hk hb .nil hx ha hd he hpl
end
def ForTurns (g:TG) (tb:TS) (D:Ends) (J:It) (σ:St) (H:Hp):Prop:=∃ W:Nat->Nat->St->Hp->Prop,(∃ m,W 0 m σ H)/\∀ i m σ H,W i m σ H →
  (J.stop i H/\D.nx σ H) ∨ (J.go i H/\∃ N:St->Hp->Prop,(∀ σ' H',N σ' H'->∃ m',m' < m/\W (i + 1) m' σ' H')/\∀ x H',J.yld i H x H'->g x σ H' fun σ2 H2=>tb { D with nx:=N,ct:=N,bk:=D.nx } σ2 H2)
theorem for_rng {lo:Int}{n:Nat}{g:TG}{tb:TS}{D:Ends}{σ:St}{H:Hp} (Pv:Nat->St->Hp->Prop) (h0:Pv 0 σ H)
    (hs:∀ i σ H,i < n->Pv i σ H->g (.int (lo + i)) σ H fun σ2 H2=>tb { D with nx:=Pv (i + 1),ct:=Pv (i + 1),bk:=D.nx } σ2 H2) (hd:∀ σ H,Pv n σ H->D.nx σ H):ForTurns g tb D (Itr lo n) σ H:=for_range Pv h0 hs hd
theorem for_lst {K:PySem.W.Frag}{a:Addr}{xs:List V}{g:TG}{tb:TS}{D:Ends}{σ:St}{H:Hp} (Pv:Nat->St->Hp->Prop) (h0:Pv 0 σ H) (hl:∀ i σ H,i<=xs.length->Pv i σ H->SqL K H a xs)
    (hs:∀ i x σ H,xs[i]?=some x->Pv i σ H->g x σ H fun σ2 H2=>tb { D with nx:=Pv (i + 1),ct:=Pv (i + 1),bk:=D.nx } σ2 H2) (hd:∀ σ H,Pv xs.length σ H->D.nx σ H):ForTurns g tb D (Itl K a) σ H:=for_list Pv h0 hl hs hd
def tLstX (t:TA):TE:=fun σ H Q=>t σ H fun xs H1=>xs.length<=sizeLine/\nw H1 (.lst xs) Q
def tTupX (t:TA):TE:=fun σ H Q=>t σ H fun xs H1=>xs.length<=sizeLine/\nw H1 (.tup xs) Q
def tDNewX:TE:=fun _ H Q=>nw H (.dK []) Q
theorem pe_lstX {X:Cx}{es:List Expr}{t:TA}{pos:Pos} (h:PA X es t):PE X (.List es pos) (tLstX t):=by
  intro pins s σ H Q I hq
  refine wpAny_List_spliced (thn (h pos pins s σ H _ I hq) fun us s1 ⟨xs,H1,I1,r,z,q⟩=>⟨by rw [← r.length];exact z,?_⟩)
  have hf:H1 s1.heap.objs.size=none:=I1.hok.fresh (Nat.le_refl _)
  refine ⟨.ref s1.heap.objs.size,upd H1 s1.heap.objs.size (.lst xs),I1.laid (t':=s1.toks) (fun b u e=>Heap.get?_push_of_some _ e) (Nat.le_refl _) ?_,rfl,nw.go q _ hf⟩
  exact ⟨z,us,0,r,Heap.get?_push_size _ rfl⟩
theorem pe_tupX {X:Cx}{es:List Expr}{t:TA}{pos:Pos}{x1} (h:PA X es t):PE X (.Tuple es x1 pos) (tTupX t):=by
  intro pins s σ H Q I hq
  refine wpAny_Tuple_spliced (thn (h pos pins s σ H _ I hq) fun us s1 ⟨xs,H1,I1,r,z,q⟩=>⟨by rw [← r.length];exact z,?_⟩)
  have hf:H1 s1.heap.objs.size=none:=I1.hok.fresh (Nat.le_refl _)
  refine ⟨.ref s1.heap.objs.size,upd H1 s1.heap.objs.size (.tup xs),I1.laid (t':=s1.toks) (fun b u e=>Heap.get?_push_of_some _ e) (Nat.le_refl _) ?_,rfl,nw.go q _ hf⟩
  exact ⟨z,us,r,⟨_,Heap.get?_push_size _ rfl,rfl,_,rfl⟩⟩
theorem pe_dnewX {X:Cx}{pos:Pos}:PE X (.Dict [] [] pos) tDNewX:=fun pins s σ H Q I h=>pe_dnewK pins s σ H Q I (nw.go h)
section
variable {σ:St}{H:Hp}{Q:VK}{D:Ends}
theorem ap_seq {t u:TS}:tSeq t u D σ H=t { D with nx:=u D } σ H:=propext Iff.rfl
theorem ap_asg {te:TE}{g:TG}:tAsg te g D σ H=te σ H fun x H1=>g x σ H1 D.nx:=propext Iff.rfl
theorem ap_gname {i:Nat}{v:V}{R:St->Hp->Prop}:gName i v σ H R=R (σ.set i (some v)) H:=propext Iff.rfl
theorem ap_var {i:Nat}:tVar i σ H Q=∃ v,σ[i]?=some (some v)/\Q v H:=propext Iff.rfl
theorem ap_c {v:V}:tC v σ H Q=Q v H:=propext Iff.rfl
theorem ap_op {r:R2}{ta tb:TE}:tOp r ta tb σ H Q=ta σ H fun x H1=>tb σ H1 fun y H2=>r x y H2 Q:=propext Iff.rfl
theorem ap_cb {r:List V->Hp->VK->Prop}{t:TA}:tCB r t σ H Q=t σ H fun vs H1=>r vs H1 Q:=propext Iff.rfl
theorem ap_cons {ta:TE}{tr:TA}{R:List V->Hp->Prop}:tCons ta tr σ H R=ta σ H fun x H1=>tr σ H1 fun xs H2=>R (x::xs) H2:=propext Iff.rfl
theorem ap_nil {R:List V->Hp->Prop}:tNil σ H R=R [] H:=propext Iff.rfl
theorem ap_call {sp:Sp}{E:St->XK}{t:TA}:tCall sp [] E t σ H Q=t σ H fun vs H1=>sp vs H1 Q (E σ):=by
  show (t σ H fun vs H1=>sp (vs++[]) H1 Q (E σ))=_
  simp only [List.append_nil]
theorem ap_ret {te:TE}:tRet te D σ H=te σ H D.rt:=propext Iff.rfl
theorem ap_if {c:TT}{t u:TS}:tIfS c t u D σ H=c σ H fun b H1=>if b=true then t D σ H1 else u D σ H1:=propext Iff.rfl
theorem ap_next:tNext D σ H=D.nx σ H:=propext Iff.rfl
theorem ap_drop {te:TE}:tDrop te D σ H=te σ H fun _ H1=>D.nx σ H1:=propext Iff.rfl
theorem ap_test {t:TE}{R:Bool->Hp->Prop}:tTest t σ H R=t σ H fun x H'=>∃ k,x=.bl k/\R k H':=propext Iff.rfl
theorem ap_b {t:TE}{R:Bool->Hp->Prop}:tB t σ H R=t σ H fun x H'=>∃ k,x=.bl k/\R k H':=propext Iff.rfl
theorem ap_not {t:TT}{R:Bool->Hp->Prop}:tNot t σ H R=t σ H fun c H1=>R (!c) H1:=propext Iff.rfl
theorem ap_and {t u:TT}{R:Bool->Hp->Prop}:tAnd t u σ H R=t σ H fun c H1=>if c=true then u σ H1 R else R false H1:=propext Iff.rfl
theorem ap_or {t u:TT}{R:Bool->Hp->Prop}:tOr t u σ H R=t σ H fun c H1=>if c=true then R true H1 else u σ H1 R:=propext Iff.rfl
theorem ap_andV {ta tb:TE}:tAndV ta tb σ H Q=ta σ H fun x H1=>∃ c,x=.bl c/\if c=true then tb σ H1 Q else Q (.bl false) H1:=propext Iff.rfl
theorem ap_orV {ta tb:TE}:tOrV ta tb σ H Q=ta σ H fun x H1=>∃ c,x=.bl c/\if c=true then Q (.bl true) H1 else tb σ H1 Q:=propext Iff.rfl
theorem ap_notV {ta:TE}:tNotV ta σ H Q=ta σ H fun x H1=>∃ c,x=.bl c/\Q (.bl (!c)) H1:=propext Iff.rfl
theorem ap_ifE {t:TT}{ta tb:TE}:tIf t ta tb σ H Q=t σ H fun c H1=>if c=true then ta σ H1 Q else tb σ H1 Q:=propext Iff.rfl
theorem ap_lst {t:TA}:tLstX t σ H Q=t σ H fun xs H1=>xs.length<=sizeLine/\nw H1 (.lst xs) Q:=propext Iff.rfl
theorem ap_tup {t:TA}:tTupX t σ H Q=t σ H fun xs H1=>xs.length<=sizeLine/\nw H1 (.tup xs) Q:=propext Iff.rfl
theorem ap_dnew:tDNewX σ H Q=nw H (.dK []) Q:=propext Iff.rfl
theorem ap_lc {k:Nat}{js:List Nat}{wi:TI}{g:TG}{tc:TT}{te:TE}:tLC k js wi g tc te σ H Q=wi σ H fun J H1=>LcTurns g tc te (blkSt k js σ) J H1 Q:=propext Iff.rfl
theorem ap_sl {r:V->Option Int->Option Int->Hp->VK->Prop}{te:TE}{tl th:TO}:tSl r te tl th σ H Q=te σ H fun x H1=>tl σ H1 fun l H2=>th σ H2 fun u H3=>r x l u H3 Q:=propext Iff.rfl
theorem ap_noPart {R:Option Int->Hp->Prop}:tNoPart σ H R=R none H:=propext Iff.rfl
theorem ap_part {t:TE}{R:Option Int->Hp->Prop}:tPart t σ H R=t σ H fun x H1=>∃ i,x=.int i/\R (some i) H1:=propext Iff.rfl
theorem ap_iRng1 {ta:TA}{R:It->Hp->Prop}:iRng1 ta σ H R=ta σ H fun vs H1=>∃ j:Int,vs=[.int j]/\-(2 ^ 62)<=j/\j < 2 ^ 62/\R (Itr 0 j.toNat) H1:=propext Iff.rfl
theorem ap_for {wi:TI}{g:TG}{tb:TS}:tFor wi g tb D σ H=wi σ H fun J H1=>ForTurns g tb D J σ H1:=propext Iff.rfl
theorem ap_gsub {to ti:TE}{t:TSet}{v:V}{R:St->Hp->Prop}:gSub to ti t v σ H R=to σ H fun o H1=>ti σ H1 fun i H2=>t o i v H2 fun H3=>R σ H3:=propext Iff.rfl
theorem ap_bm {K:PySem.W.Frag}{T:String}{r:V->List V->Hp->VK->Prop}{to:TE}{t:TA}:tBM K T r to t σ H Q=to σ H fun x H1=>tyV K T x H1/\t σ H1 fun xs H2=>r x xs H2 Q:=propext Iff.rfl
theorem ap_bm0 {K:PySem.W.Frag}{T:String}{r:V->List V->Hp->VK->Prop}{to:TE}:tBM0 K T r to σ H Q=to σ H fun x H1=>tyV K T x H1/\r x [] H1 Q:=propext Iff.rfl
theorem ap_chain {r r':R2}{ta tb tc:TE}:tChain r r' ta tb tc σ H Q=ta σ H fun x H1=>tb σ H1 fun y H2=>r x y H2 fun z H3=>∃ k,z=.bl k/\if k=true then tc σ H3 fun v H4=>r' y v H4 Q else Q (.bl false) H3:=propext Iff.rfl
theorem ex_bl {b:Bool}{P:Bool->Prop}:(∃ k,V.bl b=V.bl k/\P k)=P b:=propext ⟨fun ⟨k,e,h⟩=>by cases e;exact h,fun h=>⟨b,rfl,h⟩⟩
theorem ex_int {b:Int}{P:Int->Prop}:(∃ k,V.int b=V.int k/\P k)=P b:=propext ⟨fun ⟨k,e,h⟩=>by cases e;exact h,fun h=>⟨b,rfl,h⟩⟩
theorem ex_ref {b:Addr}{P:Addr->Prop}:(∃ k,V.ref b=V.ref k/\P k)=P b:=propext ⟨fun ⟨k,e,h⟩=>by cases e;exact h,fun h=>⟨b,rfl,h⟩⟩
theorem ex_int1 {b:Int}{P:Int->Prop}:(∃ k,[V.int b]=[V.int k]/\P k)=P b:=propext ⟨fun ⟨k,e,h⟩=>by cases e;exact h,fun h=>⟨b,rfl,h⟩⟩
theorem ex_int2 {b c:Int}{P:Int->Int->Prop}:(∃ k l,[V.int b,V.int c]=[V.int k,V.int l]/\P k l)=P b c:=propext ⟨fun ⟨k,l,e,h⟩=>by cases e;exact h,fun h=>⟨b,c,rfl,h⟩⟩
theorem ex_ref2 {b c:Addr}{P:Addr->Addr->Prop}:(∃ k l,[V.ref b,V.ref c]=[V.ref k,V.ref l]/\P k l)=P b c:=propext ⟨fun ⟨k,l,e,h⟩=>by cases e;exact h,fun h=>⟨b,c,rfl,h⟩⟩
theorem ex_two {b c:V}{P:V->V->Prop}:(∃ k l,[b,c]=[k,l]/\P k l)=P b c:=propext ⟨fun ⟨k,l,e,h⟩=>by cases e;exact h,fun h=>⟨b,c,rfl,h⟩⟩
theorem ex_some {v:V}{P:V->Prop}:(∃ k,some (some v)=some (some k)/\P k)=P v:=propext ⟨fun ⟨k,e,h⟩=>by cases e;exact h,fun h=>⟨v,rfl,h⟩⟩
theorem start_eq {N:List Str}{vs:List V}:start N vs=vs.map some++List.replicate (N.length - vs.length) none:=rfl
end
inductive Tg where
  | non | bl | int | str | lst | tup | dct
  deriving DecidableEq
def Tg.name:Tg->String
  | .non=>"NoneType" | .bl=>"bool" | .int=>"int" | .str=>"str" | .lst=>"list" | .tup=>"tuple" | .dct=>"dict"
def Tg.sub:Tg->Tg->Bool
  | .non,.non=>true | .bl,.bl=>true | .int,.int=>true | .str,.str=>true | .lst,.lst=>true | .tup,.tup=>true | .dct,.dct=>true
  | .bl,.int=>true
  | _,_=>false
def tagO:Option HO->Option Tg
  | some (.lst _)=>some .lst | some (.frz _ (.lst _))=>some .lst | some (.tup _)=>some .tup | some (.dK _)=>some .dct | some (.dT _)=>some .dct
  | _=>none
def tagV (H:Hp):V->Option Tg
  | .non=>some .non | .bl _=>some .bl | .int _=>some .int | .str _=>some .str | .ref a=>tagO (H a)
  | _=>none
theorem kit_tags (K:PySem.W.Frag):∀ t c:Tg,c≠.non->PySem.W.kitOne K (.type t.name) (.type c.name)=some (t.sub c):=by
  intro t c h
  cases t <;> cases c <;> first
    | exact absurd rfl h
    | rfl
    | kernel_rfl
    | decide +kernel
theorem tag_ty {K:PySem.W.Frag}{H:Hp}{x:V}{t:Tg} (h:tagV H x=some t):TyOf K H x (.type t.name):=by
  cases x with
  | non=>cases h;exact .non
  | bl b=>cases h;exact .bl b
  | int i=>cases h;exact .int i
  | str z=>cases h;exact .str z
  | ref a =>
    have h':tagO (H a)=some t:=h
    cases e:H a with
    | none=>rw [e] at h';cases h'
    | some o =>
      rw [e] at h'
      cases o with
      | lst xs=>cases h';exact .lst e
      | tup xs=>cases h';exact .tup e
      | dK kvs=>cases h';exact .dK e
      | dT kvs=>cases h';exact .dT e
      | frz ob u=>cases u with
        | lst xs=>cases h';exact .frz e
        | _=>cases h'
      | _=>cases h'
  | _=>cases h
def rIsiC (c:Tg):List V->Hp->VK->Prop:=fun vs H Q=>match vs with
  | [x,.ty n]=>n=c.name/\∃ t,tagV H x=some t/\Q (.bl (t.sub c)) H
  | _=>False
theorem call_isiC {X:Cx} (c:Tg) (hc:c≠.non:=by decide):CallR X (.builtin "isinstance") (rIsiC c):=by
  intro pins s σ H xs us Q I r h
  match xs,h with
  | [x,.ty n],h =>
    obtain ⟨rfl,t,ht,q⟩:=h
    exact call_isi pins s σ H _ us Q I r ⟨x,_,_,_,rfl,tag_ty ht,kit_tags X.K t c hc,q⟩
theorem cutV_take (xs:List V) (k:Nat):cutV xs none (some (k:Int))=xs.take k:=by
  unfold cutV
  rw [HT.sIx_nat,HT.sIx_none,Nat.sub_zero,List.drop_zero]
  by_cases h:k<=xs.length
  · rw [Nat.min_eq_left h]
  · rw [Nat.min_eq_right (by omega),List.take_of_length_le (Nat.le_refl _),List.take_of_length_le (by omega)]
theorem rngV_ints (n:Nat):rngV 0 n=(Mk.ofN n).map V.int:=by
  unfold rngV Mk.ofN
  rw [List.map_map]
  refine List.map_congr_left fun k _=>?_
  show V.int (0 + (k:Int))=V.int (k:Int)
  rw [Int.zero_add]
theorem seq_ofN {H1:Hp} (n:Nat):(Itr 0 n).Seq H1 ((Mk.ofN n).map V.int):=by
  rw [← rngV_ints];exact seq_range
theorem small_line {n:Nat} (h:n<=100000):n < sizeLine:=Nat.lt_of_le_of_lt h (by decide)
section
variable {X:Cx}{K:PySem.W.Frag}
theorem op_eqK (hK:X.K=K) (hu:X.A.units < cLine):OpR X (compareOp .Eq) (rEqX K):=hK ▸ op_eqX hu
theorem op_neK (hK:X.K=K) (hu:X.A.units < cLine):OpR X (compareOp .NotEq) (rNeX K):=hK ▸ op_neX hu
theorem ix_K (hK:X.K=K):IxR X (rIxX K):=hK ▸ ix_X
theorem call_lenK (hK:X.K=K):CallR X (.builtin "len") (rLenX K):=hK ▸ call_lenX
theorem call_allK (hK:X.K=K) (hc:X.calm=true):CallR X (.builtin "all") (rAll K):=hK ▸ call_allB hc
theorem call_listK (hK:X.K=K) (hc:X.calm=true):CallR X (.type "list") (rListX K):=hK ▸ call_listX hc
theorem pg_tupK {es:List Expr}{k:Nat}{t:TGs}{n:Nat}{pos:Pos} (hK:X.K=K) (hc:X.calm=true) (h:PGs X es t)
    (hn:(assignEach es X.env).length=n:=by rfl) (hst:(assignEach es X.env).findIdx? (·.1)=none:=by rfl):PG X (.Tuple es k pos) (gTup K n t):=hK ▸ pg_tup hc h hn hst
theorem pe_bmK {o e:Expr}{es:List Expr}{to:TE}{t:TA}{name:Str}{apos cpos:Pos}{T id:String}{r:V->List V->Hp->VK->Prop} (hK:X.K=K) (pa:PlainAttrs T) (slot:Slot T name id) (hty:typeOf (.builtin id)=pure (.type "method_descriptor"))
    (hm:MtR X id r) (ho:PE X o to) (ha:PA X (e::es) t)
    (hbase:attributeBase o name X.env (eval o X.env)=eval o X.env:=by rfl)
    (hfew:((backTo cpos (starEach (e::es) X.env)).all (fun x=>!x.1) && (backToKw cpos (keywordEach [] X.env)).all (fun x=>x.1.isSome)
      && decide ((e::es).length + ([]:List Keyword).length + (if ([]:List Keyword).isEmpty then 0 else 1) < 30))=true:=by rfl)
    (hline:(apos.endLine == cpos.line)=true:=by rfl) (hs:starEach (e::es) X.env=(false,eval e X.env)::starEach es X.env:=by rfl) (hplain:(backTo cpos (starEach es X.env)).any (·.1)=false:=by rfl) :
    PE X (.Call (.Attribute o name apos) (e::es) [] cpos) (tBM K T r to t):=hK ▸ pe_bm pa slot hty hm ho ha hbase hfew hline hs hplain
end
end L2

namespace L2
open PySem PySem.Spec PyProof.Rows
def noStar:Expr->Bool
  | .Starred _ _=>false
  | _=>true
def noStars (es:List Expr):Bool:=es.all noStar
theorem starEach_cons {e:Expr}{es:List Expr}{env:Env} (h:noStar e=true):starEach (e::es) env=(false,eval e env)::starEach es env:=by
  cases e <;> first
    | rfl
    | cases h
theorem noStars_tail {e:Expr}{es:List Expr} (h:noStars (e::es)=true):noStar e=true/\noStars es=true:=by
  unfold noStars at h ⊢
  rw [List.all_cons,Bool.and_eq_true] at h
  exact h
theorem backTo_any {pos:Pos}{env:Env}:∀ {es:List Expr},noStars es=true->(backTo pos (starEach es env)).any (·.1)=false
  | [],_=>rfl
  | e::es,h=>by
    obtain ⟨h1,h2⟩:=noStars_tail h
    rw [starEach_cons h1]
    show (false || (backTo pos (starEach es env)).any (·.1))=false
    rw [backTo_any h2];rfl
theorem backTo_all {pos:Pos}{env:Env}:∀ {es:List Expr},noStars es=true->(backTo pos (starEach es env)).all (fun x=>!x.1)=true
  | [],_=>rfl
  | e::es,h=>by
    obtain ⟨h1,h2⟩:=noStars_tail h
    rw [starEach_cons h1]
    show (true && (backTo pos (starEach es env)).all (fun x=>!x.1))=true
    rw [backTo_all h2];rfl
section
variable {X:Cx}{K:PySem.W.Frag}
theorem pvL (i:Nat) {x:Str}{pos:Pos} (hN:X.N[i]?=some x:=by kernel_rfl) (hv:X.env.scope.names.lookup x=some .local:=by kernel_rfl) (hd:(x == ("__debug__":Str))=false:=by kernel_rfl)
    (hcd:(x == ("__classdict__":Str))=false:=by kernel_rfl):PE X (.Name x pos) (tVar i):=pe_var hN (.inl hv) hd hcd
theorem pvC (i:Nat) {x:Str}{pos:Pos} (hN:X.N[i]?=some x:=by kernel_rfl) (hv:X.env.scope.names.lookup x=some .cell:=by kernel_rfl) (hd:(x == ("__debug__":Str))=false:=by kernel_rfl)
    (hcd:(x == ("__classdict__":Str))=false:=by kernel_rfl):PE X (.Name x pos) (tVar i):=pe_var hN (.inr (.inl hv)) hd hcd
theorem pa_c {e:Expr}{es:List Expr}{te:TE}{t:TA} (ha:PE X e te) (hr:PA X es t) (hs:noStar e=true:=by kernel_rfl):PA X (e::es) (tCons te t):=pa_cons ha hr (starEach_cons hs)
theorem pe_callG {CX:CXT}{E:St->XK}{k:Nat}{x:Str}{ps:List Str}{sp:Sp}{e:Expr}{es:List Expr}{t:TA}{p pos:Pos} (C:Fnc X.prog X.w X.K X.mg X.base CX k x ps sp) (hx:Passes CX X E) (hr:Room k X.A) (ha:PA X (e::es) t)
    (hg:X.env.kindOf x=some .globalImplicit:=by kernel_rfl) (hd:(x == ("__debug__":Str))=false:=by kernel_rfl) (hs:noStars (e::es)=true:=by kernel_rfl):PE X (.Call (.Name x p) (e::es) [] pos) (tCall sp [] E t) :=
  pe_callF C hx hr hg ha hd (starEach_cons (noStars_tail hs).1) (backTo_any (noStars_tail hs).2)
theorem pe_callBG {x:Str}{p pos:Pos}{e:Expr}{es:List Expr}{t:TA}{id:String}{r:List V->Hp->VK->Prop} (hc:CallR X (.builtin id) r) (hm:X.mg x=none) (hv:bootBuiltins x=some (.builtin id)) (ha:PA X (e::es) t)
    (hg:X.env.kindOf x=some .globalImplicit:=by kernel_rfl) (hn:x≠"__name__":=by decide +kernel) (hd:(x == ("__debug__":Str))=false:=by kernel_rfl) (hs:noStars (e::es)=true:=by kernel_rfl):PE X (.Call (.Name x p) (e::es) [] pos) (tCB r t) :=
  pe_callB hc hg hm hv ha hn hd (starEach_cons (noStars_tail hs).1) (backTo_any (noStars_tail hs).2)
theorem pe_callTyG {x:Str}{p pos:Pos}{e:Expr}{es:List Expr}{t:TA}{T:String}{r:List V->Hp->VK->Prop} (hc:CallR X (.type T) r) (hm:X.mg x=none) (hv:bootBuiltins x=some (.type T)) (ha:PA X (e::es) t)
    (hg:X.env.kindOf x=some .globalImplicit:=by kernel_rfl) (hn:x≠"__name__":=by decide +kernel) (hd:(x == ("__debug__":Str))=false:=by kernel_rfl) (hs:noStars (e::es)=true:=by kernel_rfl):PE X (.Call (.Name x p) (e::es) [] pos) (tCB r t) :=
  pe_callTy hc hg hm hv ha hn hd (starEach_cons (noStars_tail hs).1) (backTo_any (noStars_tail hs).2)
theorem pe_tyG {x:Str}{T:String}{pos:Pos} (hm:X.mg x=none) (hv:bootBuiltins x=some (.type T)) (hg:X.env.kindOf x=some .globalImplicit:=by kernel_rfl) (hn:x≠"__name__":=by decide +kernel) (hd:(x == ("__debug__":Str))=false:=by kernel_rfl) :
    PE X (.Name x pos) (tC (.ty T)):=pe_ty hg hm hv hn hd
theorem ps_setL {i:Nat}{x:Str}{e:Expr}{te:TE}{pos pos':Pos} (hN:X.N.Nodup) (he:PE X e te) (hi:X.N[i]?=some x:=by kernel_rfl) (hx:X.env.scope.names.lookup x=some .local:=by kernel_rfl)
    (hs:swapsWith e (some (.Name x pos')) pos.line X.env=pure false:=by kernel_rfl):PS X (.Assign [.Name x pos'] e pos) (tAsg te (gName i)):=ps_set hN hi (.inl hx) he hs (.inr hx)
theorem ps_setC {i:Nat}{x:Str}{e:Expr}{te:TE}{pos pos':Pos} (hN:X.N.Nodup) (he:PE X e te) (hi:X.N[i]?=some x:=by kernel_rfl) (hx:X.env.scope.names.lookup x=some .cell:=by kernel_rfl) (hf:X.fn x=true:=by kernel_rfl)
    (hs:swapsWith e (some (.Name x pos')) pos.line X.env=pure false:=by kernel_rfl):PS X (.Assign [.Name x pos'] e pos) (tAsg te (gName i)):=ps_set hN hi (.inr hx) he hs (.inl hf)
theorem pg_nameL {i:Nat}{x:Str}{pos:Pos} (hN:X.N.Nodup) (hi:X.N[i]?=some x:=by kernel_rfl) (hx:X.env.scope.names.lookup x=some .local:=by kernel_rfl):PG X (.Name x pos) (gName i):=pg_name hN hi (.inl hx) (.inr hx)
theorem pi_range1G {tg a:Expr}{ta:TA}{p pos:Pos} (hm:X.mg "range"=none) (ha:PA X [a] ta) (hg:X.env.kindOf "range"=some .globalImplicit:=by kernel_rfl) (hs:noStar a=true:=by kernel_rfl):PI X tg (.Call (.Name "range" p) [a] [] pos) (iRng1 ta) :=
  pi_range1 hg hm ha (starEach_cons hs)
theorem pe_bmG {o e:Expr}{es:List Expr}{to:TE}{t:TA}{name:Str}{apos cpos:Pos}{T id:String}{r:V->List V->Hp->VK->Prop} (hK:X.K=K) (pa:PlainAttrs T) (slot:Slot T name id) (hty:typeOf (.builtin id)=pure (.type "method_descriptor"))
    (hm:MtR X id r) (ho:PE X o to) (ha:PA X (e::es) t)
    (hbase:attributeBase o name X.env (eval o X.env)=eval o X.env:=by kernel_rfl) (hs:noStars (e::es)=true:=by kernel_rfl) (hlen:decide ((e::es).length < 30)=true:=by kernel_rfl)
    (hline:(apos.endLine == cpos.line)=true:=by kernel_rfl):PE X (.Call (.Attribute o name apos) (e::es) [] cpos) (tBM K T r to t):=by
  refine pe_bmK hK pa slot hty hm ho ha hbase ?_ hline (starEach_cons (noStars_tail hs).1) (backTo_any (noStars_tail hs).2)
  rw [backTo_all hs]
  show (true && true && decide ((e::es).length + 0 + 0 < 30))=true
  rw [Bool.true_and,Bool.true_and];exact hlen
end
end L2

namespace L2
open PySem PySem.Spec PyProof.Rows
def tx (l:List Nat):Str:=⟨l.toArray⟩
theorem tx_cps (l:List Nat):(tx l).cps.toList=l:=by unfold tx;simp
theorem tx_len (l:List Nat):(tx l).length=l.length:=by show l.toArray.size=_;simp
theorem tx_of (x:Str):tx x.cps.toList=x:=by unfold tx;simp
theorem tx_app (a b:List Nat):tx a++tx b=tx (a++b):=by
  show Str.mk (a.toArray++b.toArray)=Str.mk (a++b).toArray
  simp
theorem tx_inj {a b:List Nat} (h:tx a=tx b):a=b:=by have:=congrArg (fun x:Str=>x.cps.toList) h;simpa [tx] using this
theorem len_cps (x:Str):x.length=x.cps.toList.length:=by show x.cps.size=_;simp
def Itx (z:Str):It:=⟨fun i _=>i < z.cps.size,fun i H v H'=>H'=H/\∃ c,z.cps[i]?=some c/\v=.str ⟨#[c]⟩,fun i _=>z.cps.size<=i⟩
theorem turn_str {P:Program}{w:World}{K:PySem.W.Frag}{tg:Expr} (n:String) (hn:n="str_ascii_iterator" ∨ n="str_iterator") (z:Str) (t:Tok) (it:Addr):Turn P w K tg (Itx z) [it] it (fun i h=>h.IsStrIter it n z t i) where
  mem:=by simp
  obj:=fun i h st b hb=>by
    have e:b=it:=by simpa using hb
    subst e
    obtain ⟨o,e,c,d⟩:=st
    exact ⟨o,e,fun v z=>by rw [d] at z;cases z⟩
  keep:=fun i h h' st k=>by
    obtain ⟨o,e,c,d⟩:=st
    exact ⟨o,k it (by simp) o e,c,d⟩
  item:=by
    intro X hP hw hK hc i pins s σ H E I hf st hg
    subst hP hw hK
    have hg':i < z.cps.size:=hg
    have hx:z.cps[i]?=some z.cps[i]:=Array.getElem?_eq_getElem hg'
    obtain ⟨f0,f1,f2,f3,f4,f5⟩:=hf it (by simp)
    have go:∀ h',h'.IsStrIter it n z t (i + 1)->Heap.SameBut it s.heap h'->∃ u,some (Value.str ⟨#[z.cps[i]]⟩ s.toks)=some u ∧
        wpAny (model X.prog X.w) X.A (letOwnedTupleGo tg (.ref it) u) (fun _ s2=>∃ x H',Inv X pins σ H' s2/\RelV x u/\(Itx z).yld i H x H'/\s2.heap.IsStrIter it n z t (i + 1)/\∀ b∈[it],H' b=none) E { s with heap:=h',toks:=s.toks + 1 }:=fun h' st' sb=>by
      have I1:Inv X pins σ H { s with heap:=h',toks:=s.toks + 1 }:=I.turned (t':=s.toks + 1) (fun b o hb e=>(sb.2 b hb).trans e) f0 f1 f3 f4 f5
      obtain ⟨o,e,c,d⟩:=id st'
      exact ⟨_,rfl,go_of (s:={ s with heap:=h',toks:=s.toks + 1 }) e c d (by rcases hn with rfl | rfl <;> decide) ⟨.str ⟨#[z.cps[i]]⟩,H,I1,⟨_,rfl⟩,⟨rfl,_,hx,rfl⟩,st',fun b hb=>(hf b hb).1⟩⟩
    rcases hn with rfl | rfl
    · exact wpAny_pyNext_ascii_item st hx go
    · exact wpAny_pyNext_wide_item st hx go
  done:=by
    intro X hP hw hK hc i pins s σ H E I hf st hg
    subst hP hw hK
    have hx:z.cps[i]?=none:=Array.getElem?_eq_none hg
    obtain ⟨f0,f1,f2,f3,f4,f5⟩:=hf it (by simp)
    have go:∀ h',Heap.ExtBut it s.heap h'->(none:Option Value)=none/\Inv X pins σ H { s with heap:=h' }:=fun h' eb =>
      ⟨rfl,I.turned (t':=s.toks) (fun b o hb e=>eb b o hb e) f0 f1 f3 f4 f5⟩
    rcases hn with rfl | rfl
    · exact wpAny_pyNext_ascii_end (I.ok.hd hc) st hx go
    · exact wpAny_pyNext_wide_end (I.ok.hd hc) st hx go
  self:=fun _ _ _ _ _ st h=>by
    rcases hn with rfl | rfl
    · exact wpAny_pyIter_striter_ascii st h
    · exact wpAny_pyIter_striter_wide st h
def iSeqV (K:PySem.W.Frag) (x:V) (H:Hp) (R:It->Hp->Prop):Prop:=match x with
  | .ref a=>((∃ xs,SqL K H a xs)/\R (Itl K a) H) ∨ ((∃ xs,SqT K H a xs)/\R (Itt K a) H)
  | .str z=>R (Itx z) H
  | _=>False
def iSeqX (K:PySem.W.Frag) (te:TE):TI:=fun σ H R=>te σ H fun x H1=>iSeqV K x H1 R
theorem pi_seq {X:Cx}{tg l:Expr}{tl:TE} (hl:PE X l tl):PI X tg l (iSeqX X.K tl):=by
  intro pins s σ H R I h
  refine thn (hl pins s σ H _ I h) fun v s1 ⟨x,H1,I1,r1,q1⟩=>?_
  cases x with
  | ref a =>
    cases r1
    rcases q1 with ⟨⟨xs,hq⟩,q⟩ | ⟨⟨xs,hq⟩,q⟩
    · obtain ⟨its,rv,p,hz⟩:=I1.list hq
      refine wpAny_pyIter_list p.isList ?_
      refine ⟨s1.heap.objs.size,[s1.heap.objs.size],_,_,H1,rfl,I1.kept (t':=s1.toks) fun b o e=>Heap.get?_push_of_some _ e,turn_list a _,⟨_,Heap.get?_push_size _ rfl,rfl,rfl⟩,fun b hb=>?_,q⟩
      have e:b=s1.heap.objs.size:=by simpa using hb
      subst e
      exact I1.fpOk (Nat.le_refl _) (I1.hok.fresh (Nat.le_refl _))
    · obtain ⟨its,rv,p,hz⟩:=I1.tuple hq
      refine wpAny_pyIter_tuple (show s1.heap.IsTuple a its.toArray from p) ?_
      refine ⟨s1.heap.objs.size,[s1.heap.objs.size],_,_,H1,rfl,I1.kept (t':=s1.toks) fun b o e=>Heap.get?_push_of_some _ e,turn_tuple a _,⟨_,Heap.get?_push_size _ rfl,rfl,rfl⟩,fun b hb=>?_,q⟩
      have e:b=s1.heap.objs.size:=by simpa using hb
      subst e
      exact I1.fpOk (Nat.le_refl _) (I1.hok.fresh (Nat.le_refl _))
  | str z =>
    obtain ⟨t,rfl⟩:=r1
    cases ha:z.cps.all (· < 128) with
    | true =>
      refine wpAny_pyIter_ascii ha ?_
      refine ⟨s1.heap.objs.size,[s1.heap.objs.size],_,_,H1,rfl,I1.kept (t':=s1.toks) fun b o e=>Heap.get?_push_of_some _ e,turn_str "str_ascii_iterator" (.inl rfl) z t _,⟨_,Heap.get?_push_size _ rfl,rfl,rfl⟩,fun b hb=>?_,q1⟩
      have e:b=s1.heap.objs.size:=by simpa using hb
      subst e
      exact I1.fpOk (Nat.le_refl _) (I1.hok.fresh (Nat.le_refl _))
    | false =>
      refine wpAny_pyIter_wide ha ?_
      refine ⟨s1.heap.objs.size,[s1.heap.objs.size],_,_,H1,rfl,I1.kept (t':=s1.toks) fun b o e=>Heap.get?_push_of_some _ e,turn_str "str_iterator" (.inr rfl) z t _,⟨_,Heap.get?_push_size _ rfl,rfl,rfl⟩,fun b hb=>?_,q1⟩
      have e:b=s1.heap.objs.size:=by simpa using hb
      subst e
      exact I1.fpOk (Nat.le_refl _) (I1.hok.fresh (Nat.le_refl _))
  | _=>exact False.elim q1
theorem pi_seqK {X:Cx}{K:PySem.W.Frag}{tg l:Expr}{tl:TE} (hK:X.K=K) (hl:PE X l tl):PI X tg l (iSeqX K tl):=hK ▸ pi_seq hl
theorem ap_iSeq {σ:St}{H:Hp}{K:PySem.W.Frag}{tl:TE}{R:It->Hp->Prop}:iSeqX K tl σ H R=tl σ H fun x H1=>iSeqV K x H1 R:=propext Iff.rfl
def sgs (z:Str):List V:=z.cps.toList.map fun c=>V.str ⟨#[c]⟩
theorem seq_str {H1:Hp} (z:Str):(Itx z).Seq H1 (sgs z):=fun H s=>by
  refine ⟨fun i x e=>?_,fun i hi=>?_⟩
  · unfold sgs at e
    rw [List.getElem?_map,Array.getElem?_toList] at e
    cases hc:z.cps[i]? with
    | none=>rw [hc] at e;cases e
    | some c =>
      rw [hc] at e
      have e':V.str ⟨#[c]⟩=x:=Option.some.inj e
      have hi:i < z.cps.size:=by
        rcases Nat.lt_or_ge i z.cps.size with h | h
        · exact h
        · rw [Array.getElem?_eq_none h] at hc;cases hc
      exact ⟨hi,fun y H' ⟨e1,d,e2,e3⟩=>⟨e1,by rw [hc] at e2;cases e2;rw [e3,e']⟩⟩
  · show z.cps.size<=i
    unfold sgs at hi
    simpa using hi
def rInX (K:PySem.W.Frag) (neg:Bool):R2:=fun x y H Q=>match y with
  | .str j=>match x with
    | .str i=>Q (.bl (neg != !(Builtin.Str.occurrences j i 0 j.length 1).isEmpty)) H
    | _=>False
  | .ref p=>(∃ xs,Sq K H p xs/\flatV x=true/\xs.all flatV=true/\Q (.bl (neg != inV x xs)) H) ∨ ∃ o:Option V,DGet H p x o/\Q (.bl (neg != o.isSome)) H
  | _=>False
theorem op_inX {X:Cx} (hu:X.A.units + 1 < cLine):OpR X (compareOp .In) (rInX X.K false):=by
  intro pins s σ H x y v u Q I rx ry h
  cases y with
  | str j=>cases x with
    | str i =>
      refine op_in_str pins s σ H _ _ v u Q I rx ry ⟨i,j,rfl,rfl,?_⟩
      have h':Q (.bl (false != !(Builtin.Str.occurrences j i 0 j.length 1).isEmpty)) H:=h
      rwa [Bool.false_bne] at h'
    | _=>exact False.elim h
  | ref p =>
    rcases h with ⟨xs,hs,fx,fxs,q⟩ | ⟨o,hg,q⟩
    · rw [Bool.false_bne] at q
      exact op_in_seq pins s σ H _ _ v u Q I rx ry ⟨p,xs,rfl,hs,fx,fxs,q⟩
    · rw [Bool.false_bne] at q
      cases ry
      exact d_in hu I hg rx fun s' I'=>⟨.bl _,H,I',rfl,q⟩
  | _=>exact False.elim h
theorem op_notInX {X:Cx} (hu:X.A.units + 1 < cLine):OpR X (compareOp .NotIn) (rInX X.K true):=by
  intro pins s σ H x y v u Q I rx ry h
  cases y with
  | str j=>cases x with
    | str i =>
      refine op_notin_str pins s σ H _ _ v u Q I rx ry ⟨i,j,rfl,rfl,?_⟩
      have h':Q (.bl (true != !(Builtin.Str.occurrences j i 0 j.length 1).isEmpty)) H:=h
      rwa [Bool.true_bne] at h'
    | _=>exact False.elim h
  | ref p =>
    rcases h with ⟨xs,hs,fx,fxs,q⟩ | ⟨o,hg,q⟩
    · rw [Bool.true_bne] at q
      exact op_notIn_seq pins s σ H _ _ v u Q I rx ry ⟨p,xs,rfl,hs,fx,fxs,q⟩
    · rw [Bool.true_bne] at q
      cases ry
      exact d_notIn hu I hg rx fun s' I'=>⟨.bl _,H,I',rfl,q⟩
  | _=>exact False.elim h
theorem op_inK {X:Cx}{K:PySem.W.Frag} (hK:X.K=K) (hu:X.A.units + 1 < cLine):OpR X (compareOp .In) (rInX K false):=hK ▸ op_inX hu
theorem op_notInK {X:Cx}{K:PySem.W.Frag} (hK:X.K=K) (hu:X.A.units + 1 < cLine):OpR X (compareOp .NotIn) (rInX K true):=hK ▸ op_notInX hu
theorem in_one (x:Str) (c:Nat):(!(Builtin.Str.occurrences x ⟨#[c]⟩ 0 x.length 1).isEmpty)=decide (c∈x.cps.toList):=StrLaws.found_one x c
theorem strs_of {ys:List Str}:∀ {us:List Value},Vals (ys.map V.str) us->StrsAre us ys:=by
  induction ys with
  | nil=>intro us r;cases r;exact .nil
  | cons y r ih =>
    intro us h
    cases h with
    | cons h1 h2 =>
      obtain ⟨t,rfl⟩:=h1
      exact .cons _ _ (ih h2)
section
variable {α β:Type}
noncomputable def pull {γ:Type} (e:α->V) (f:α->γ) (d:γ) (v:V):γ:=open Classical in if h:∃ a,e a=v then f (Classical.choose h) else d
theorem pull_at {γ:Type}{e:α->V} (inj:∀ a b,e a=e b->a=b) (f:α->γ) (d:γ) (a:α):pull e f d (e a)=f a:=by
  unfold pull
  have h:∃ b,e b=e a:=⟨a,rfl⟩
  rw [dif_pos h,inj _ _ (Classical.choose_spec h)]
theorem inj_int:∀ a b:Int,V.int a=V.int b->a=b:=fun _ _ h=>by cases h;rfl
theorem inj_sg:∀ a b:Nat,V.str ⟨#[a]⟩=V.str ⟨#[b]⟩->a=b:=fun _ _ h=>by cases h;rfl
theorem lc_A {J:It}{H1:Hp}{xs:List α}{js:List Nat}{σ:St}{tc:TT}{te:TE}{Q:VK} (e:α->V) (inj:∀ a b,e a=e b->a=b) (hJ:J.Seq H1 (xs.map e)) (hl:xs.length < sizeLine) (p:α->Bool) (f:α->V)
    (hc:∀ x∈xs,∀ H,Same H1 H->∀ R:Bool->Hp->Prop,(∀ H',Same H H'->R (p x) H')->tc (some (e x)::js.map fun j=>(σ[j]?).join) H R)
    (he:∀ x∈xs,p x=true->∀ H,Same H1 H->∀ R:VK,(∀ H',Same H H'->R (f x) H')->te (some (e x)::js.map fun j=>(σ[j]?).join) H R)
    (q:∀ D H,H1 D=none->Same H1 H->H D=some (.lst ((xs.filter p).map f))->Q (.ref D) H):LcTurns (gName 0) tc te (blkSt 1 js σ) J H1 Q:=by
  refine lc_one hJ (by rw [List.length_map];exact hl) (pull e p false) (pull e f .non) ?_ ?_ ?_
  · intro v hv H s R hR
    obtain ⟨x,hx,rfl⟩:=List.mem_map.mp hv
    rw [pull_at inj] at hR
    exact hc x hx H s R hR
  · intro v hv hp H s R hR
    obtain ⟨x,hx,rfl⟩:=List.mem_map.mp hv
    rw [pull_at inj] at hR hp
    exact he x hx hp H s R hR
  · intro D H h1 h2 h3
    refine q D H h1 h2 ?_
    rw [h3,List.filter_map,List.map_map]
    congr 2
    have e1:pull e f .non ∘ e=f:=funext fun a=>pull_at inj f .non a
    have e2:pull e p false ∘ e=p:=funext fun a=>pull_at inj p false a
    rw [e1,e2]
theorem lc_M {J:It}{H1:Hp}{xs:List α}{js:List Nat}{σ:St}{te:TE}{Q:VK} (e:α->V) (inj:∀ a b,e a=e b->a=b) (hJ:J.Seq H1 (xs.map e)) (hl:xs.length < sizeLine) (f:α->V)
    (he:∀ x∈xs,∀ H,Same H1 H->∀ R:VK,(∀ H',Same H H'->R (f x) H')->te (some (e x)::js.map fun j=>(σ[j]?).join) H R)
    (q:∀ D H,H1 D=none->Same H1 H->H D=some (.lst (xs.map f))->Q (.ref D) H):LcTurns (gName 0) tYes te (blkSt 1 js σ) J H1 Q :=
  lc_A e inj hJ hl (fun _=>true) f (fun x _ H _ R hR=>hR H (Same.refl H)) (fun x hx _ H s R hR=>he x hx H s R hR) fun D H h1 h2 h3=>q D H h1 h2 (by rw [List.filter_eq_self.mpr (fun _ _=>rfl)] at h3;exact h3)
end
theorem seq_sg {H1:Hp} (z:Str):(Itx z).Seq H1 (z.cps.toList.map fun c=>V.str ⟨#[c]⟩):=seq_str z
theorem sub_str {H:Hp}{x:V}{t:Tg} (ht:tagV H x=some t) (hs:∀ z,x≠.str z):t≠.str:=fun e=>by
  subst e
  cases x with
  | str z=>exact hs z rfl
  | ref a =>
    have h':tagO (H a)=some .str:=ht
    cases e:H a with
    | none=>rw [e] at h';cases h'
    | some o=>rw [e] at h';cases o with
      | frz ob u=>cases u <;> cases h'
      | _=>cases h'
  | _=>cases ht
theorem cut_seq {t u:TS}{D:Ends}{σ:St}{H:Hp} (R:St->Hp->Prop) (h2:∀ σ' H',R σ' H'->u D σ' H') (h1:∀ U:St->Hp->Prop,(∀ σ' H',R σ' H'->U σ' H')->t { D with nx:=U } σ H):tSeq t u D σ H:=h1 _ h2
theorem atI_ints {l:List Int}{i:Int} (h0:0<=i) (h1:i < l.length):atI (l.map V.int) i=some (.int (l.getD i.toNat 0)):=by
  have e:(l.map V.int)[i.toNat]?=some (.int (l.getD i.toNat 0)):=by
    rw [List.getElem?_map,List.getD_eq_getElem?_getD,List.getElem?_eq_getElem (by omega)];rfl
  have:=atI_nat e
  rwa [Int.toNat_of_nonneg h0] at this
theorem atI_of {α:Type}{l:List α}{i:Int}{v:α} (h0:0<=i) (h1:l[i.toNat]?=some v):atI l i=some v:=by
  have:=atI_nat h1
  rwa [Int.toNat_of_nonneg h0] at this
theorem abc_codes:(Str.ofString "abcdefghijklmnopqrstuvwxyz").cps.toList=List.range' 97 26:=by decide +kernel
theorem abc_line:(Str.ofString "abcdefghijklmnopqrstuvwxyz").length<=sizeLine:=by
  rw [len_cps,abc_codes,List.length_range'];decide
end L2

namespace L2
open PySem PySem.Spec PyProof.Rows
def DK (h h':Heap):Prop:=∀ b o,h.get? b=some o->∃ o',h'.get? b=some o'/\o'.cls=o.cls/\o'.dict=o.dict/\(∀ vs,o.data=.fields vs->∃ vs',o'.data=.fields vs'/\vs'[2]?=vs[2]?)
theorem DK.refl (h:Heap):DK h h:=fun b o e=>⟨o,e,rfl,rfl,fun vs q=>⟨vs,q,rfl⟩⟩
theorem DK.trans {h1 h2 h3:Heap} (x:DK h1 h2) (y:DK h2 h3):DK h1 h3:=fun b o e=>by
  obtain ⟨o1,e1,c1,d1,f1⟩:=x b o e
  obtain ⟨o2,e2,c2,d2,f2⟩:=y b o1 e1
  exact ⟨o2,e2,c2.trans c1,d2.trans d1,fun vs q=>by obtain ⟨v1,q1,g1⟩:=f1 vs q;obtain ⟨v2,q2,g2⟩:=f2 v1 q1;exact ⟨v2,q2,g2.trans g1⟩⟩
theorem DK.push (h:Heap) (o:Obj):DK h (h.push o):=fun b u e=>⟨u,Heap.get?_push_of_some _ e,rfl,rfl,fun vs q=>⟨vs,q,rfl⟩⟩
structure KD {α:Type} (m:Sem α):Prop where
  out:∀ (M:Model) (Γ:PySem.Ctx) (P:α->Pos->Shared->Prop) (Ee:Value->Pos->Shared->Prop) (p:Pos) (s:Shared),Sem.wp M Γ m P Ee p s →
    Sem.wp M Γ m (fun a p' s'=>P a p' s'/\DK s.heap s'.heap) (fun e p' s'=>Ee e p' s'/\DK s.heap s'.heap) p s
namespace KD
variable {α β:Type}
theorem pure (a:α):KD (Pure.pure a:Sem α):=⟨fun _ _ _ _ _ s h=>⟨h,DK.refl _⟩⟩
theorem unsupported (w:String):KD (PySem.unsupported w:Sem α):=⟨fun _ _ _ _ _ _ h=>h⟩
theorem bind {m:Sem α}{f:α->Sem β} (hm:KD m) (hf:∀ a,KD (f a)):KD (m >>= f):=⟨fun M Γ P Ee p s h=>by
  rw [Sem.wp_bind'] at h ⊢
  refine Sem.wp_mono M Γ m (fun a p' s' h'=>?_) (fun _ _ _ x=>x) p s (hm.out M Γ _ _ p s h)
  refine Sem.wp_mono M Γ (f a) (fun b p2 s2 h2=>⟨h2.1,h'.2.trans h2.2⟩) (fun e p2 s2 h2=>⟨h2.1,h'.2.trans h2.2⟩) p' s' ((hf a).out M Γ P Ee p' s' h'.1)⟩
theorem ite {c:Prop} [Decidable c] {t u:Sem α} (ht:KD t) (hu:KD u):KD (if c then t else u):=by split <;> assumption
theorem load (a:Addr):KD (PySem.load a):=⟨fun _ _ _ _ _ s h=>by obtain ⟨o,e,q⟩:=h;exact ⟨o,e,q,DK.refl _⟩⟩
theorem stack:KD PySem.stack:=⟨fun M Γ P Ee p s h=>by
  unfold PySem.stack at h ⊢
  rw [Sem.wp_stack] at h ⊢
  exact ⟨h,DK.refl _⟩⟩
theorem alloc (o:Obj):KD (PySem.alloc o):=⟨fun _ _ _ _ _ s h=>⟨h,DK.push _ _⟩⟩
theorem field (v:Value) (i:Nat):KD (PySem.field v i):=⟨fun _ Γ P Ee p s h=>by
  rw [wp_field_iff] at h ⊢
  obtain ⟨a,o,vs,x,e1,e2,e3,e4,q⟩:=h
  exact ⟨a,o,vs,x,e1,e2,e3,e4,q,DK.refl _⟩⟩
theorem update {a:Addr}{f:Obj->Obj} (hf:∀ o,(f o).cls=o.cls/\(f o).dict=o.dict/\(f o).isFreed=o.isFreed/\∀ vs,o.data=.fields vs->∃ vs',(f o).data=.fields vs'/\vs'[2]?=vs[2]?):KD (PySem.update a f):=⟨fun _ _ _ _ _ s h=>by
  refine ⟨h.1,h.2,fun b o e=>?_⟩
  by_cases hb:b=a
  · subst hb
    obtain ⟨h1,h2,h3,h4⟩:=hf o
    have hfr:o.isFreed=false:=(Heap.get?_some_iff.mp e).2
    exact ⟨f o,Heap.get?_update_self _ e (by rw [h3];exact hfr),h1,h2,h4⟩
  · exact ⟨o,(Heap.get?_update_other _ _ (Ne.symm hb)).trans e,rfl,rfl,fun vs q=>⟨vs,q,rfl⟩⟩⟩
theorem setField (v:Value) (i:Nat) (x:Value) (hi:i≠2):KD (PySem.setField v i x):=⟨fun _ Γ P Ee p s h=>by
  rw [wp_setField_iff] at h ⊢
  obtain ⟨a,o,vs,e1,e2,e3,e4,q⟩:=h
  refine ⟨a,o,vs,e1,e2,e3,e4,q,fun b u e=>?_⟩
  by_cases hb:b=a
  · subst hb
    rw [e2] at e
    cases e
    have hd:=Obj.data_mapFields e3 (·.setIfInBounds i x)
    exact ⟨_,Heap.get?_update_self _ e2 (Obj.isFreed_of_fields hd),Obj.cls_mapFields ..,by cases o with | mk c d dt sl=>cases dt <;> first | rfl,fun vs' q=>⟨_,hd,by rw [e3] at q;cases q;exact Array.getElem?_setIfInBounds_ne hi⟩⟩
  · exact ⟨u,(Heap.get?_update_other _ _ (Ne.symm hb)).trans e,rfl,rfl,fun vs q=>⟨vs,q,rfl⟩⟩⟩
theorem slots {a:Addr}{g:Obj->Array (Option Value)}:KD (PySem.update a fun o=>{ o with slots:=g o }):=update fun o=>⟨rfl,rfl,by cases o with | mk c d dt sl=>cases dt <;> rfl,fun vs q=>⟨vs,q,rfl⟩⟩
end KD
theorem kd_behind (env:Env) (outer:List Env):KD (behindIsImport env outer):=by
  unfold behindIsImport
  repeat' with_reducible first | exact KD.pure _ | exact KD.field _ _ | apply KD.ite | apply KD.bind | intro _
theorem kd_caller:KD underTheClaimsCaller:=by
  unfold underTheClaimsCaller
  repeat' with_reducible first | exact KD.pure _ | exact KD.stack | exact KD.unsupported _ | exact KD.field _ _ | apply KD.ite | apply KD.bind | intro _ | split
theorem kd_kept (env:Env) (i:Bool) (l:List Env):KD (keptBack env i l):=by
  have:=kd_caller
  cases l <;> unfold keptBack <;> repeat' with_reducible first | assumption | exact KD.pure _ | apply KD.ite | apply KD.bind | intro _
theorem kd_ready:∀ l:List Env,KD (readyFrames l)
  | []=>KD.pure _
  | env::outer=>by
    have ih:=kd_ready outer
    have h1:=kd_behind env outer
    have h2:=fun i=>kd_kept env i outer
    unfold readyFrames
    split
    · refine KD.bind (KD.load _) fun o=>KD.ite (KD.pure _) (KD.bind h1 fun b=>KD.bind (h2 b) fun v=>KD.bind KD.slots fun _=>ih)
    · exact KD.unsupported _
theorem kd_frameObject (l:List Env):KD (frameObject l):=by
  cases l with
  | nil=>exact KD.pure _
  | cons a r=>unfold frameObject;exact KD.bind (kd_ready _) fun _=>KD.pure _
theorem kd_frameOf (env:Env):KD (PySem.frameOf env):=by
  unfold PySem.frameOf frameEnvs
  refine KD.bind (KD.bind KD.stack fun _=>KD.pure _) fun l=>KD.bind (kd_frameObject _) fun o=>?_
  cases o with
  | none=>exact KD.unsupported _
  | some v=>exact KD.pure _
theorem kd_place (f:Addr) (b:Bool):KD (entryPlaceOf f b):=by
  unfold entryPlaceOf
  repeat' with_reducible first | exact KD.pure _ | exact KD.stack | exact KD.unsupported _ | apply KD.ite | apply KD.bind | intro _ | split
theorem kd_entry (a b c d e:Value) (l:List Value):KD (EntryCells.newEntry a b c d e l):=by
  unfold EntryCells.newEntry newFields newObj newObjAsIs
  repeat' first | exact KD.pure _ | exact KD.alloc _ | exact KD.unsupported _ | apply KD.ite | apply KD.bind | intro _ | split
theorem kd_note (e:Value) (env:Env):KD (noteFrame e env):=by
  unfold noteFrame
  have h1:=kd_frameOf env
  have h2:=kd_place
  have h3:=kd_entry
  split
  · repeat' with_reducible first | exact KD.pure _ | exact KD.field _ _ | exact KD.setField _ _ _ (by decide) | exact h1 | exact h2 _ _ | exact h3 _ _ _ _ _ _ | apply KD.ite | apply KD.bind | intro _
  · exact KD.unsupported _
theorem kd_flight (e:Value) (o:Option Addr):KD (setFlight e o):=by
  unfold setFlight
  repeat' with_reducible first | exact KD.pure _ | exact KD.field _ _ | exact KD.setField _ _ _ (by decide) | apply KD.ite | apply KD.bind | intro _
theorem kd_leaving (env:Env) (e:Value):KD (leaving env e):=by
  unfold leaving
  exact KD.bind (kd_note _ _) fun _=>kd_flight _ _
theorem KD.any {α:Type}{M:Model}{A:Around}{t:Sem α}{Q:α->Shared->Prop}{E:Value->Shared->Prop}{s:Shared} (k:KD t) (h:wpAny M A t Q E s) :
    wpAny M A t (fun a s'=>Q a s'/\DK s.heap s'.heap) (fun e s'=>E e s'/\DK s.heap s'.heap) s:=fun Γ p hΓ=>k.out M Γ _ _ p s (h Γ p hΓ)
theorem objOk_some {P:Program}{w:World}{H:Hp}{h:Heap}{a:Addr}{o:HO} (x:ObjOk P w H h a o):∃ u,h.get? a=some u:=by
  cases o with
  | lst xs=>obtain ⟨_,_,_,_,e⟩:=x;exact ⟨_,e⟩
  | tup xs=>obtain ⟨_,_,_,ob,e,_⟩:=x;exact ⟨_,e⟩
  | dK kvs=>obtain ⟨_,_,_,_,ob,_,_,e,_⟩:=x;exact ⟨_,e⟩
  | dT kvs=>obtain ⟨_,_,_,_,ob,_,_,e,_⟩:=x;exact ⟨_,e⟩
  | set S n=>obtain ⟨ob,_,_,_,e,_⟩:=x;exact ⟨_,e⟩
  | ins C dx fs=>obtain ⟨_,_,_,e,_⟩:=x;exact ⟨_,e⟩
  | own y=>exact x
  | xd fs=>obtain ⟨_,⟨od,_,_,e,_⟩,_⟩:=x;exact ⟨_,e⟩
  | rng lo hi=>obtain ⟨_,_,_,e⟩:=x;exact ⟨_,e⟩
  | frz ob u=>exact ⟨_,x.1⟩
  | tbl ps=>obtain ⟨_,e,_⟩:=x;exact ⟨_,e⟩
  | met f y=>exact ⟨_,x⟩
  | ext φ=>exact x.2.1
def XD (o:Obj) (d:Option Addr):Prop:=o.dict=d/\∃ vs,o.data=.fields vs/\vs[2]?=some .none
theorem XD.dk {o o':Obj}{d:Option Addr} (x:XD o d) (h:o'.dict=o.dict) (f:∀ vs,o.data=.fields vs->∃ vs',o'.data=.fields vs'/\vs'[2]?=vs[2]?):XD o' d:=by
  obtain ⟨x1,vs,x2,x3⟩:=x
  obtain ⟨vs',y1,y2⟩:=f vs x2
  exact ⟨h.trans x1,vs',y1,y2.trans x3⟩
def CX1 (P:Program) (w:World):CXT:=fun outer H s E e s'=>∃ (ea C t:Addr) (B:Heap) (H':Hp) (d:Option Addr),e=.ref ea/\s'.os=s.os/\AllBare s'.gens/\Un (frs outer) [] H H' s.heap s'.heap/\HOk P w H' s'.heap ∧
  Heap.FlyingW B outer ea (.ref C) (.ref t) s'.heap/\(∃ oe,s'.heap.get? ea=some oe/\XD oe d)/\(∀ dx,d=some dx->∃ fs,H' dx=some (.xd fs)) ∧
  (∀ b o,s'.heap.get? b=some o->b ∉ frs outer->(H' b≠none ∨ ∃ u,s.heap.get? b=some u)->B.get? b=some o)/\E (.ref C) d H'
section
variable {X:Cx}{pins:List (Addr × Obj)}{σ:St}{H:Hp}{s:Shared}
theorem cx_leave {B h':Heap} (I:Inv X pins σ H s) (hst:X.stack=X.env::X.outer) (hf:X.env.frame=some X.env.locals) (hex:X.ex=[]) (hB:B.StaysIn h') (hsm:s.heap.UpToSlots h')
    (hk:∀ b o,s.heap.get? b=some o->b ∉ frs X.stack->(H b≠none ∨ ∃ u,X.s₀.heap.get? b=some u)->B.get? b=some o) :
    Un (frs X.outer) [] X.H₀ H X.s₀.heap h'/\HOk X.prog X.w H h'/\∀ b o,h'.get? b=some o->b ∉ frs X.outer->(H b≠none ∨ ∃ u,X.s₀.heap.get? b=some u)->B.get? b=some o:=by
  have hfs:frs X.stack=X.env.locals::frs X.outer:=by rw [hst];unfold frs;rw [List.filterMap_cons,hf]
  have old:∀ b u,X.s₀.heap.get? b=some u->b≠X.env.locals:=fun b u e z=>absurd (Nat.lt_of_lt_of_le (Heap.lt_size e) (by rw [z];exact I.ok.above)) (Nat.lt_irrefl _)
  have nstk:∀ b,b≠X.env.locals->b ∉ frs X.outer->b ∉ frs X.stack:=fun b h1 h2 z=>by rw [hfs] at z;rcases List.mem_cons.mp z with z | z;exact h1 z;exact h2 z
  have trk:∀ b,H b≠none->b ∉ frs X.stack:=fun b h1 z=>h1 (I.stkFree b z)
  have nx:∀ b:Addr,b ∉ X.ex:=fun b=>by rw [hex];simp
  have fr:∀ b,b∈frs X.outer->∃ o,s.heap.get? b=some o/\∀ vs,o.data≠.fields vs:=fun b hb=>(I.stack.mem (show b∈frs X.stack by rw [hfs];exact List.mem_cons_of_mem _ hb)).2
  have tkeep:∀ b o,H b≠none->s.heap.get? b=some o->h'.get? b=some o:=fun b o h1 e=>hB b o (hk b o e (trk b h1) (.inl h1))
  have okeep:∀ b o u,X.s₀.heap.get? b=some u->b ∉ frs X.outer->s.heap.get? b=some o->h'.get? b=some o:=fun b o u e0 h2 e=>hB b o (hk b o e (nstk b (old b u e0) h2) (.inr ⟨u,e0⟩))
  refine ⟨⟨fun b o e n hb _=>?_,fun b o e n hb _=>?_,fun b o e n _=>I.base.free b o e n (nx b),fun b o e _=>?_,I.base.tups,I.base.frzs,I.base.tbls⟩,fun a o e=>?_,fun b o e hb hc=>?_⟩
  · exact okeep b o o e hb (I.base.keep b o e n hb (nx b))
  · obtain ⟨sl,e1⟩:=I.base.slot b o e n hb (nx b)
    obtain ⟨o1,e2,hd⟩:=fr b hb
    rw [e1] at e2
    cases e2
    obtain ⟨sl',e3⟩:=hsm b _ e1 hd
    exact ⟨sl',e3⟩
  · obtain ⟨o1,e1⟩:=I.base.there b o e (nx b)
    by_cases hb:b∈frs X.outer
    · obtain ⟨o2,e2,hd⟩:=fr b hb
      obtain ⟨sl',e3⟩:=hsm b _ e2 hd
      exact ⟨_,e3⟩
    · exact ⟨o1,okeep b o1 o e hb e1⟩
  · refine (I.hok a o e).stay (fun c v hc q=>tkeep c v ?_ q) (fun _ q=>q) fun _ _ q=>q
    rcases hc with z | z
    · rw [z,e];simp
    · rw [z];simp
  · rcases hc with h1 | ⟨u,e0⟩
    · cases q:H b with
      | none=>exact absurd q h1
      | some ob =>
        obtain ⟨o1,e1⟩:=objOk_some (I.hok b ob q)
        have:=tkeep b o1 h1 e1
        rw [e] at this
        cases this
        exact hk b o e1 (trk b h1) (.inl h1)
    · obtain ⟨o1,e1⟩:=I.base.there b u e0 (nx b)
      have:=okeep b o1 u e0 hb e1
      rw [e] at this
      cases this
      exact hk b o e1 (nstk b (old b u e0) hb) (.inr ⟨u,e0⟩)
def RaiseX (X:Cx) (E:St->XK):Prop:=∀ (pins:List (Addr × Obj)) (σ:St) (H:Hp) (s:Shared) (h1:Heap) (e C:Addr) (vs:List Value),Inv X pins σ H s->Heap.MadeExcOf s.heap h1 e (.ref C) vs->E σ (.ref C) none H->X.xe (.ref e) { s with heap:=h1 }
end
section
variable {P:Program}{w:World}{K:PySem.W.Frag}{mg:Str->Option Value}{base:Heap}{N:List Str}{qual:Str}{scope:Scope}{f:Addr}{cd:Value}{A:Around}{outer:List Env}{s:Shared}{H:Hp}{E:XK}
theorem pass_def:Passes (CX1 P w) (cxOf (CX1 P w) P w K mg base N qual scope f cd A outer s H E) (fun _=>E):=by
  intro pins σ H1 s1 e s' I h
  obtain ⟨ea,C,t,B,H',d,rfl,os,bare,un,hok,fl,⟨oe,hoe,hdo⟩,hdx,hkb,hE⟩:=h
  have I':=I.call' (ch:=[]) os un hok bare (fun b z=>absurd z (by simp))
  show wpAny _ _ _ _ _ _
  refine wpAny_mono (KD.any (E:=fun _ _=>False) (kd_leaving _ _) (wpAny_leaves_onW (Q:=fun _ s''=>∃ h',s''={ s' with heap:=h' }/\Heap.FlyingW B outer ea (.ref C) (.ref t) h'/\s'.heap.UpToSlots h') I.ok.frames rfl fl fun h' x1 x2=>⟨h',rfl,x1,x2⟩)) ?_ (fun _ _ z=>False.elim z.1)
  rintro _ s'' ⟨⟨h',rfl,x1,x2⟩,dk⟩
  obtain ⟨u1,u2,u3⟩:=cx_leave (B:=B) (h':=h') I' rfl rfl rfl x1.1 x2 (fun b o e1 e2 e3=>hkb b o e1 e2 (e3.elim .inl fun ⟨u,e0⟩=>.inr (I.base.there b u e0 (by show b ∉ ([]:List Addr);simp))))
  obtain ⟨oe',hoe',_,hd',hg'⟩:=dk ea oe hoe
  exact ⟨ea,C,t,B,H',d,rfl,I'.os,I'.bare,u1,u2,x1,⟨oe',hoe',hdo.dk hd' hg'⟩,hdx,u3,hE⟩
theorem raise_def:RaiseX (cxOf (CX1 P w) P w K mg base N qual scope f cd A outer s H E) (fun _=>E):=by
  intro pins σ H1 s1 h1 e C vs I hx hE
  show wpAny _ _ _ _ _ _
  have hin:∀ env∈(envOfC qual scope s.heap.objs.size f cd::outer),∀ b,env.frame=some b->b∈frs (envOfC qual scope s.heap.objs.size f cd::outer):=fun env he b hb=>List.mem_filterMap.mpr ⟨env,he,hb⟩
  have st:(PySem.W.hideAll s1.heap (frs (envOfC qual scope s.heap.objs.size f cd::outer))).StaysIn s1.heap:=fun b o q=>PySem.W.of_hideAll _ q
  have ff:s1.heap.FunFrames (PySem.W.hideAll s1.heap (frs (envOfC qual scope s.heap.objs.size f cd::outer))) (envOfC qual scope s.heap.objs.size f cd::outer):=PySem.W.funFrames_hide I.stack hin
  obtain ⟨tt,het,_,_⟩:=hx.there
  refine wpAny_mono (KD.any (E:=fun _ _=>False) (kd_leaving _ _) (wpAny_leaves_madeW (s:={ s1 with heap:=h1 }) (Q:=fun _ s''=>∃ h' t,s''={ s1 with heap:=h' }/\Heap.FlyingW (PySem.W.hideAll s1.heap (frs (envOfC qual scope s.heap.objs.size f cd::outer))) outer e (.ref C) (.ref t) h'/\h1.UpToSlots h') I.ok.frames rfl st ff hx fun h' t x1 _ _ x4=>⟨h',t,rfl,x1,x4⟩)) ?_ (fun _ _ z=>False.elim z.1)
  rintro _ s'' ⟨⟨h',t,rfl,x1,x4⟩,dk⟩
  obtain ⟨u1,u2,u3⟩:=cx_leave (h':=h') I rfl rfl rfl x1.1 ((Heap.UpToSlots.of_keeps hx.keeps).trans x4) (fun b o e1 e2 _=>PySem.W.hideAll_get _ e1 e2)
  obtain ⟨oe',hoe',_,hd',hg'⟩:=dk e _ het
  exact ⟨e,C,t,_,H1,none,rfl,I.os,I.bare,u1,u2,x1,⟨oe',hoe',XD.dk ⟨rfl,_,rfl,rfl⟩ hd' hg'⟩,(fun dx z=>by cases z),u3,hE⟩
end
theorem passE0 {P:Program}{w:World}{X:Cx}:Passes (CX1 P w) X E0:=fun _ _ _ _ _ _ _ h=>by
  obtain ⟨_,_,_,_,_,_,_,_,_,_,_,_,_,_,_,z⟩:=h
  exact z.elim
theorem cx1_false {P:Program}{w:World}{outer:List Env}{H:Hp}{s:Shared}{e:Value}{s':Shared} (h:CX1 P w outer H s (fun _ _ _=>False) e s'):False:=by
  obtain ⟨_,_,_,_,_,_,_,_,_,_,_,_,_,_,_,z⟩:=h
  exact z
section
variable {P:Program}{w:World}{K:PySem.W.Frag}{mg:Str->Option Value}{base:Heap}
theorem Fun.okX {x qual:Str}{st:Stmt}{f:Addr}{fd:FuncData}{N ps:List Str}{k:Nat}{sp:Sp} (F:Fun K x qual st f fd) (S:FnScope N ps (defScope st)) (len:∀ vs H Q E,sp vs H Q E->vs.length=ps.length)
    (hbody:∀ (cdv:Value) (A:Around) (outer:List Env) (s:Shared) (H:Hp) (vs:List V) (Q:VK) (E:XK),Room k (A.deeper (envOfC qual (defScope st) s.heap.objs.size f cdv))->sp vs H Q E →
      ∃ t,PSs (cxOf (CX1 P w) P w K mg base N qual (defScope st) f cdv A outer s H E) (defBody st) t/\t { nx:=fun _ H'=>Q .non H',rt:=Q } (start N vs) H):FnOk P w K mg base (CX1 P w) (k + 1) f fd ps sp:=by
  obtain ⟨oc,od,kV,doc,pm,an,cdv,ct,osl,rfl,lk,hcd⟩:=F.ex
  exact fn_of lk hcd S len fun A outer s H vs Q E hr hsp=>hbody cdv A outer s H vs Q E hr hsp
theorem FnOkN.ok {CX:CXT}{k:Nat}{f:Addr}{fd:FuncData}{ps:List Str}{sp:Sp} (F:FnOkN P w K mg base CX k f fd ps sp):FnOk P w K mg base CX k f fd ps sp :=
  ⟨F.len,fun A outer s H args us vs Q E hr=>F.run A outer s H args us vs Q E hr.n (.inl hr.hd)⟩
end
theorem exc_of_in {K:PySem.W.Frag}{h:Heap}{C:Addr}{bmB:List Value}{newId:String} (XK:K.In h) (q:PySem.W.excIn K C bmB newId=true) :
    ∃ bm N nm qn bs hd sn sub ab col dd k0 k1 k2 k3 k5 mN,h.get? C=some (excClassObj nm qn C N bs bm hd sn sub ab col dd k0 k1 k2 k3 k5 newId)/\h.Ns N mN/\mN "__init__"=none/\OwnTail h bmB bm:=by
  unfold PySem.W.excIn at q
  split at q
  next dd cd sl ho =>
    split at q
    next C' bm k0 k1 k2 k3 n k5 hm hs =>
      simp only [Bool.and_eq_true,beq_iff_eq,Bool.not_eq_true'] at q
      obtain ⟨⟨⟨⟨⟨e1,e2⟩,e3⟩,e4⟩,e5⟩,e6⟩:=q
      subst e1 e2
      cases cd with
      | mk nm bs mro ns qn hd sn sub ab col del =>
        simp only at hm e3 e5 e6
        subst hm e3
        have z:sl=#[k0,k1,k2,k3,some (.builtin n),k5]:=by
          cases sl with
          | mk l=>simp only at hs;rw [hs]
        subst z
        exact ⟨bm,ns,nm,qn,bs,hd,sn,sub,ab,col,dd,k0,k1,k2,k3,k5,_,XK _ _ ho,.of_isNs (PySem.W.isNs_of_in XK e5),PySem.W.nsMap_none_of_in XK e5 e6,PySem.W.tail_of_in XK e4⟩
    next=>cases q
  next=>cases q
def sRaise (C:Addr) (E:St->XK) (t:TA):TS:=fun _ σ H=>t σ H fun vs H1=>vs.length<=sizeLine/\E σ (.ref C) none H1
theorem ap_raise {C:Addr}{E:St->XK}{t:TA}{D:Ends}{σ:St}{H:Hp}:sRaise C E t D σ H=t σ H fun vs H1=>vs.length<=sizeLine/\E σ (.ref C) none H1:=propext Iff.rfl
section
variable {X:Cx}
theorem ps_raise {x:Str}{C:Addr}{E:St->XK}{B newId initId:String}{bmB:List Value}{e₀:Expr}{rest:List Expr}{t:TA}{np cpos pos:Pos} (FB:ExcBaseFacts B newId initId bmB) (hq:PySem.W.excIn X.K C bmB newId=true) (hm:X.mg x=some (.ref C))
    (hrx:RaiseX X E) (hc:X.calm=true) (ha:PA X (e₀::rest) t) (hg:X.env.kindOf x=some .globalImplicit:=by kernel_rfl) (hd:(x == ("__debug__":Str))=false:=by kernel_rfl) (hs:noStars (e₀::rest)=true:=by kernel_rfl) :
    PS X (.Raise (some (.Call (.Name x np) (e₀::rest) [] cpos)) none pos) (sRaise C E t):=by
  intro pins s σ H D I h
  obtain ⟨bm,N,nm,qn,bs,hdct,sn,sub,ab,col,dd,k0,k1,k2,k3,k5,mN,g1,g2,g3,g4⟩:=exc_of_in I.ok.mod.kin hq
  have he:=starEach_cons (es:=rest) (env:=X.env) (noStars_tail hs).1
  refine wpAny_Raise_call_subT (C:=C) (nm:=nm) (q:=qn) (N:=N) (bs:=bs) (bm:=bm) (hdct:=hdct) (sn:=sn) (sub:=sub) (ab:=ab) (col:=col) (dd:=dd) (k0:=k0) (k1:=k1) (k2:=k2) (k3:=k3) (k5:=k5)
    FB (mN:=mN) (g4.hasType FB.hasBase) (I.ok.hd hc) (backTo_any hs) g3 (ld_glob I hg hm ⟨rfl,?_⟩ hd)
  have ha':=ha cpos pins s σ H _ I h
  rw [he] at ha' ⊢
  refine Calls.evalArgs_plain (wpAny_mono ha' (fun vs s2 h2=>?_) fun _ _ y=>y)
  obtain ⟨xs,H2,I2,r,z,q⟩:=h2
  exact ⟨rfl,by rw [← r.length];exact z,I2.bk _ _ g1,g2.keeps I2.bk,g4.keeps I2.bk,fun h' e hx=>hrx pins σ H2 s2 h' e C vs I2 hx q⟩
end
end L2

namespace L2
open PySem PySem.Spec PyProof.Rows
def excO (a:Addr) (c:Value) (d:Option Addr):HO:=.ext fun h=>∃ o,h.get? a=some o/\o.cls=c/\XD o d
section
variable {X:Cx}{pins:List (Addr × Obj)}{σ:St}{H:Hp}{s:Shared}
def Ends.un (D:Ends) (i:Nat):Ends:=⟨fun σ H=>D.nx (σ.set i none) H,D.rt,fun σ H=>D.bk (σ.set i none) H,fun σ H=>D.ct (σ.set i none) H⟩
end
end L2

namespace L2
open PySem PySem.Spec PyProof.Rows
structure ExcC (K:PySem.W.Frag) (C:Addr):Prop where
  ga:PySem.W.findIn K (.ref C) "__getattribute__"=some (some (.builtin "BaseException.__getattribute__"))
  gn:PySem.W.findIn K (.ref C) "__getattr__"=some none
  sb:PySem.W.subIn K (.ref C) (.type "BaseException")=some true
  cl:(PySem.W.clsIn K C).isSome=true
  ha:PySem.W.findIn K (.ref C) "__class__"=some (some (.builtin "object.__class__"))
  hn:PySem.W.specialIn K (.builtin "object.__class__") "__get__"=some (some (.builtin "getset_descriptor.__get__"))
  htk:PySem.W.takesIn K (.builtin "object.__class__")=some true
  hm:PySem.W.mroIn K C (.type "object")=some true
def TyX (K:PySem.W.Frag) (H:Hp) (x:V) (t:Value):Prop:=TyOf K H x t ∨ ∃ a C,x=.ref a/\t=.ref C/\H a=some (excO a (.ref C) none)/\ExcC K C
def rIsiG (K:PySem.W.Frag):List V->Hp->VK->Prop:=fun vs H Q=>match vs with
  | [x,.ty n]=>∃ t b,TyX K H x t/\PySem.W.kitOne K t (.type n)=some b/\Q (.bl b) H
  | [x,.ref c]=>∃ t b,TyX K H x t/\(PySem.W.kitOne K t (.ref c)=some b ∨ ∃ (a C:Addr) (cs:List Addr),x=.ref a/\t=.ref C/\H a=some (excO a (.ref C) none)/\ExcC K C/\H c=some (.tup (cs.map V.ref))/\PySem.W.kitAny K t (cs.map Value.ref)=some b)/\Q (.bl b) H
  | _=>False
def excOk (K:PySem.W.Frag) (C:Addr):Bool :=
  PySem.W.findIn K (.ref C) "__getattribute__" == some (some (.builtin "BaseException.__getattribute__")) && PySem.W.findIn K (.ref C) "__getattr__" == some none && PySem.W.subIn K (.ref C) (.type "BaseException") == some true && (PySem.W.clsIn K C).isSome && PySem.W.findIn K (.ref C) "__class__" == some (some (.builtin "object.__class__")) &&
  PySem.W.specialIn K (.builtin "object.__class__") "__get__" == some (some (.builtin "getset_descriptor.__get__")) && PySem.W.takesIn K (.builtin "object.__class__") == some true && PySem.W.mroIn K C (.type "object") == some true
def errAll (K:PySem.W.Frag) (b:Addr) (cs:List Addr):Bool :=
  cs.all fun c=>excOk K c && PySem.W.exmOne K (.ref c) (.ref b) == some true && PySem.W.kitOne K (.ref c) (.type "ValueError") == some true && PySem.W.kitOne K (.ref c) (.ref b) == some true &&
    cs.all fun d=>PySem.W.kitOne K (.ref c) (.ref d) == some (c == d)
structure Err (K:PySem.W.Frag) (b:Addr) (cs:List Addr) (c:Addr):Prop where
  ex:ExcC K c
  em:PySem.W.exmOne K (.ref c) (.ref b)=some true
  ve:PySem.W.kitOne K (.ref c) (.type "ValueError")=some true
  ba:PySem.W.kitOne K (.ref c) (.ref b)=some true
  kd:∀ d∈cs,PySem.W.kitOne K (.ref c) (.ref d)=some (c == d)
theorem Err.any {K:PySem.W.Frag}{b:Addr}{cs:List Addr}{c:Addr} (E:Err K b cs c):∀ {ds:List Addr},(∀ d∈ds,d∈cs)->PySem.W.kitAny K (.ref c) (ds.map Value.ref)=some (ds.contains c)
  | [],_=>rfl
  | d::r,h=>by
    show (match PySem.W.kitOne K (.ref c) (.ref d) with | some true=>some true | some false=>PySem.W.kitAny K (.ref c) (r.map Value.ref) | none=>none)=_
    rw [E.kd d (h d List.mem_cons_self),Err.any E (fun x hx=>h x (List.mem_cons_of_mem _ hx)),List.contains_cons]
    cases (c == d) <;> rfl
theorem pe_globE {X:Cx}{x:Str}{v:V}{pos:Pos} (h:∃ u,X.mg x=some u/\RelV v u) (hg:X.env.kindOf x=some .globalImplicit:=by kernel_rfl) (hd:(x == ("__debug__":Str))=false:=by kernel_rfl):PE X (.Name x pos) (tC v):=by
  obtain ⟨u,h1,h2⟩:=h
  exact pe_glob hg h1 h2 hd
theorem HandIn.same {o:Option Value}{H H':Hp} (h:HandIn o H) (s:Same H H'):HandIn o H':=by
  rcases h with h | ⟨ea,φ,e1,e2,e3⟩
  · exact .inl h
  · exact .inr ⟨ea,φ,e1,s _ _ e2,e3⟩
end L2

namespace L2
open PySem PySem.Spec PyProof.Rows
def up (t:TE):TE:=fun σ H R=>∃ R',t σ H R'/\∀ x H,R' x H->R x H
def upA (t:TA):TA:=fun σ H R=>∃ R',t σ H R'/\∀ x H,R' x H->R x H
theorem PE.up {X:Cx}{e:Expr}{t:TE} (h:PE X e t):PE X e (up t):=fun pins s σ H Q I ⟨R',h1,h2⟩=>thn (h pins s σ H R' I h1) fun _ _ ⟨v,H',I',r,q⟩=>⟨v,H',I',r,h2 v H' q⟩
theorem PA.up {X:Cx}{es:List Expr}{t:TA} (h:PA X es t):PA X es (upA t):=fun pos pins s σ H Q I ⟨R',h1,h2⟩=>thn (h pos pins s σ H R' I h1) fun _ _ ⟨v,H',I',r,q⟩=>⟨v,H',I',r,h2 v H' q⟩
def rFldX (K:PySem.W.Frag) (f:Str) (x:V) (H:Hp) (Q:VK):Prop:=match x with
  | .ref a=>∃ C dx fs v,H a=some (.ins C dx fs)/\Cls K C/\NoAttr K C f/\fs.lookup f=some v/\Q v H
  | _=>False
def tFldX (K:PySem.W.Frag) (ta:TE) (f:Str):TE:=fun σ H Q=>ta σ H fun x H1=>rFldX K f x H1 Q
theorem ap_fld {K:PySem.W.Frag}{ta:TE}{f:Str}{σ:St}{H:Hp}{Q:VK}:tFldX K ta f σ H Q=ta σ H fun x H1=>rFldX K f x H1 Q:=propext Iff.rfl
def rSetX (K:PySem.W.Frag) (f:Str) (y x:V) (H:Hp) (Q:Hp->Prop):Prop:=match x with
  | .ref a=>∃ C dx fs,H a=some (.ins C dx fs)/\Cls K C/\NoAttr K C f/\fs.length < 1000/\Q (upd H a (.ins C dx (putF f y fs)))
  | _=>False
def sFldX (K:PySem.W.Frag) (ta tv:TE) (f:Str):TS:=fun D σ H=>tv σ H fun y H1=>ta σ H1 fun x H2=>rSetX K f y x H2 fun H3=>D.nx σ H3
theorem ap_sfld {K:PySem.W.Frag}{ta tv:TE}{f:Str}{D:Ends}{σ:St}{H:Hp}:sFldX K ta tv f D σ H=tv σ H fun y H1=>ta σ H1 fun x H2=>rSetX K f y x H2 fun H3=>D.nx σ H3:=propext Iff.rfl
section
variable {X:Cx}{K:PySem.W.Frag}
theorem pe_fldX {e:Expr}{ta:TE}{f:Str}{pos:Pos} (hK:X.K=K) (he:PE X e ta) (hb:attributeBase e f X.env (eval e X.env)=eval e X.env:=by kernel_rfl):PE X (.Attribute e f pos) (tFldX K ta f):=by
  subst hK
  intro pins s σ H Q I h
  refine pe_fld (ta:=up ta) he.up hb pins s σ H Q I ⟨_,h,fun x H1 hx=>?_⟩
  cases x with
  | ref a=>obtain ⟨C,dx,fs,v,h1,h2,h3,h4,h5⟩:=hx;exact ⟨a,C,dx,fs,v,rfl,h1,h2,h3,h4,h5⟩
  | _=>exact False.elim hx
theorem ps_fldX {o value:Expr}{ta tv:TE}{f:Str}{pos pos':Pos} (hK:X.K=K) (ha:PE X o ta) (hv:PE X value tv) (hs:swapsWith value (some (.Attribute o f pos')) pos.line X.env=pure false:=by kernel_rfl) :
    PS X (.Assign [.Attribute o f pos'] value pos) (sFldX K ta tv f):=by
  subst hK
  intro pins s σ H D I h
  refine ps_fld (ta:=up ta) (tv:=up tv) ha.up hv.up hs pins s σ H D I ⟨_,h,fun y H1 hy=>⟨_,hy,fun x H2 hx=>?_⟩⟩
  cases x with
  | ref a=>obtain ⟨C,dx,fs,h1,h2,h3,h4,h5⟩:=hx;exact ⟨a,C,dx,fs,rfl,h1,h2,h3,h4,h5⟩
  | _=>exact False.elim hx
end
structure Mtd (P:Program) (w:World) (K:PySem.W.Frag) (mg:Str->Option Value) (base:Heap) (CX:CXT) (C:Addr) (m:Str) (k:Nat) (ps:List Str) (sp:Sp):Prop where
  ex:∃ (f:Addr) (fd:FuncData),FnOk P w K mg base CX k f fd ps sp/\Meth K C m f/\Binds K fd ps []
  cl:Cls K C
def rMethX (C:Addr) (m:Str) (x:V) (H:Hp) (Q:Hp->Prop):Prop:=match x with
  | .ref a=>∃ dx fs,H a=some (.ins C dx fs)/\fs.lookup m=none/\Q H
  | _=>False
def tMethX (C:Addr) (m:Str) (sp:Sp) (E:St->XK) (ta:TE) (t:TA):TE:=fun σ H Q=>ta σ H fun x H1=>rMethX C m x H1 fun H1=>t σ H1 fun vs H2=>sp (x::vs) H2 Q (E σ)
theorem ap_meth {C:Addr}{m:Str}{sp:Sp}{E:St->XK}{ta:TE}{t:TA}{σ:St}{H:Hp}{Q:VK}:tMethX C m sp E ta t σ H Q=ta σ H fun x H1=>rMethX C m x H1 fun H1=>t σ H1 fun vs H2=>sp (x::vs) H2 Q (E σ):=propext Iff.rfl
section
variable {X:Cx}{CX:CXT}{E:St->XK}
theorem pe_methX0 {pl:Sem Bool}{C:Addr}{m:Str}{k:Nat}{ps:List Str}{sp:Sp}{o:Expr}{ta:TE}{apos pos:Pos} (M:Mtd X.prog X.w X.K X.mg X.base CX C m k ps sp) (hx:Passes CX X E) (hr:Room k X.A) (he:PE X o ta)
    (ht:eval (.Call (.Attribute o m apos) [] [] pos) X.env=(do
      let ov ← eval o X.env
      standAt apos.atName
      let (f,first) ← holding [ov] (getMethod ov m pl)
      callWith pos f first (backTo pos (starEach [] X.env)) (backToKw pos (keywordEach [] X.env))):=by rfl) :
    PE X (.Call (.Attribute o m apos) [] [] pos) (tMethX C m sp E ta tNil):=by
  obtain ⟨f,fd,F,hm,hb⟩:=M.ex
  intro pins s σ H Q I h
  refine pe_meth0 (ta:=up ta) he.up M.cl hm F hr hb .nil hx ht pins s σ H Q I ⟨_,h,fun x H1 q=>?_⟩
  cases x with
  | ref a =>
    obtain ⟨dx,fs,h1,h2,h3⟩:=q
    exact ⟨a,dx,fs,rfl,h1,h2,h3⟩
  | _=>exact False.elim q
end
structure Mak (P:Program) (w:World) (K:PySem.W.Frag) (mg:Str->Option Value) (base:Heap) (CX:CXT) (C:Addr) (x:Str) (k:Nat) (ps:List Str) (sp:Sp):Prop where
  ex:∃ (f:Addr) (fd:FuncData),FnOk P w K mg base CX k f fd ps sp/\Mk K C f/\Binds K fd ps []
  mg:mg x=some (.ref C)
def tMakeX (C:Addr) (sp:Sp) (E:St->XK) (t:TA):TE:=fun σ H Q=>t σ H fun vs H1=>∀ x dx H2,H1 x=none->H1 dx=none->dx≠x->Same H1 H2->H2 x=some (.ins C dx [])->H2 dx=some (.own x)->sp (.ref x::vs) H2 (fun v H3=>v=.non/\Q (.ref x) H3) (E σ)
theorem ap_make {C:Addr}{sp:Sp}{E:St->XK}{t:TA}{σ:St}{H:Hp}{Q:VK}:tMakeX C sp E t σ H Q=t σ H fun vs H1=>∀ x dx H2,H1 x=none->H1 dx=none->dx≠x->Same H1 H2->H2 x=some (.ins C dx [])->H2 dx=some (.own x)->sp (.ref x::vs) H2 (fun v H3=>v=.non/\Q (.ref x) H3) (E σ):=propext Iff.rfl
section
variable {X:Cx}{CX:CXT}{E:St->XK}
theorem pe_makeX {C:Addr}{x:Str}{k:Nat}{ps:List Str}{sp:Sp}{e:Expr}{es:List Expr}{t:TA}{p pos:Pos} (M:Mak X.prog X.w X.K X.mg X.base CX C x k ps sp) (hx:Passes CX X E) (hr:Room (k + 1) X.A) (ha:PA X (e::es) t)
    (hg:X.env.kindOf x=some .globalImplicit:=by kernel_rfl) (hd:(x == ("__debug__":Str))=false:=by kernel_rfl) (hs:noStars (e::es)=true:=by kernel_rfl) :
    PE X (.Call (.Name x p) (e::es) [] pos) (tMakeX C sp E t):=by
  obtain ⟨f,fd,F,hm,hb⟩:=M.ex
  intro pins s σ H Q I h
  refine pe_make (t:=upA t) hm F hr hg M.mg hb .nil hx ha.up hd (starEach_cons (noStars_tail hs).1) (backTo_any (noStars_tail hs).2) pins s σ H Q I ⟨_,h,fun vs H1 q x dx h1 h2 h3=>?_⟩
  simp only [List.append_nil]
  refine q x dx _ h1 h2 h3 ((same_upd h2).upd_new h1) upd_same ?_
  rw [upd_ne h3,upd_same]
end
end L2

namespace L2
open PySem PySem.Spec PyProof.Rows
theorem isList_sb {h g:Heap}{l c:Addr}{xs:Array Value} (x:h.IsList l xs) (s:Heap.SameBut c h g) (ne:l≠c):g.IsList l xs:=by
  obtain ⟨o,h1,h2⟩:=x
  exact ⟨o,(s.2 l ne).trans h1,h2⟩
section
variable {prog:Program}{w:World}{A:Around}{E:Value->Shared->Prop}
theorem draw_lst {c l:Addr}{xs:Array Value} (ne:l≠c):∀ (k j:Nat) (s:Shared) (R:List Value->Shared->Prop),s.heap.IsListIter c l j->s.heap.IsList l xs->j + k<=xs.size →
    (∀ g,g.IsListIter c l (j + k)->Heap.SameBut c s.heap g->R ((xs.toList.drop j).take k) { s with heap:=g })->wpAny (model prog w) A (draw (.ref c) k) R E s
  | 0,j,s,R,i0,_,_,q=>wpAny_pure (by simpa using q s.heap i0 (Heap.SameBut.refl ..))
  | k + 1,j,s,R,i0,l0,hb,q=>by
    have lt:j < xs.size:=by omega
    show wpAny _ _ (pyNext (.ref c) >>= _) R E s
    refine wpAny_bind (wpAny_pyNext_list_item i0 l0 (x:=xs[j]) (by simp [lt]) fun g1 i1 s1=>?_)
    refine wpAny_bind (wpAny_holding (draw_lst ne k (j + 1) _ _ i1 (isList_sb l0 s1 ne) (by omega) fun g2 i2 s2=>wpAny_pure ?_))
    have z:=q g2 (by rw [show j + (k + 1)=j + 1 + k by omega];exact i2) (s1.trans s2)
    rw [show xs.toList.drop j=xs[j]::xs.toList.drop (j + 1) by simp [List.drop_eq_getElem_cons,lt],List.take_succ_cons] at z
    exact z
theorem unpack_lst {s:Shared}{l:Addr}{xs:Array Value}{ts:List (Bool × (Value->Sem Unit))}{R:Unit->Shared->Prop} (hh:A.handled=none) (l0:s.heap.IsList l xs) (hn:ts.length=xs.size) (hs:ts.findIdx? (·.1)=none)
    (q:∀ g,Heap.ExtBut s.heap.objs.size s.heap g->wpAny (model prog w) A (assignInOrder (ts.map (·.2)) xs.toList) R E { s with heap:=g }):wpAny (model prog w) A (unpack (.ref l) ts) R E s:=by
  have ne:l≠s.heap.objs.size:=by obtain ⟨o,ho,_⟩:=l0;exact Nat.ne_of_lt (Heap.lt_size ho)
  unfold unpack
  rw [hn,hs]
  refine wpAny_bind (wpAny_holding ?_)
  unfold unpackItems
  refine wpAny_bind ?_
  unfold notIterableAtAll
  refine wpAny_bind (wpAny_specialOf l0.typeIs F.slot_list_iter.lookup ?_)
  refine wpAny_pure ?_
  simp only [Bool.false_eq_true,if_false]
  refine wpAny_bind (wpAny_holding (wpAny_pyIter_list l0 ?_))
  refine wpAny_bind (wpAny_holding (draw_lst ne xs.size 0 _ _ ⟨_,Heap.get?_push_size _ rfl,rfl,rfl⟩ (l0.push _) (by omega) fun g1 i1 s1=>?_))
  rw [show List.take xs.size (List.drop 0 xs.toList)=xs.toList by rw [List.drop_zero];exact List.take_of_length_le (by simp)]
  rw [if_neg (by simp)]
  refine wpAny_bind (wpAny_holding (wpAny_pyNext_list_end hh i1 (isList_sb (l0.push _) s1 ne) (by simp) fun g2 e2=>?_))
  simp only [Option.isSome_none,Bool.false_eq_true,if_false]
  exact wpAny_pure (q g2 fun b o hb e=>e2 b o hb (s1.extBut b o hb (Heap.get?_push_of_some _ e)))
end
def gUnp (K:PySem.W.Frag) (n:Nat) (t:TGs):TG:=fun v σ H Q=>match v with
  | .ref a=>∃ xs,Sq K H a xs/\xs.length=n/\t xs σ H Q
  | _=>False
theorem pg_unp {X:Cx}{es:List Expr}{k:Nat}{t:TGs}{n:Nat}{pos:Pos} (hc:X.calm=true) (h:PGs X es t)
    (hn:(assignEach es X.env).length=n:=by rfl) (hst:(assignEach es X.env).findIdx? (·.1)=none:=by rfl):PG X (.Tuple es k pos) (gUnp X.K n t):=by
  intro pins s σ H v u Q I r hw
  cases v with
  | ref a =>
    obtain ⟨xs,hq | hq,hl,hw⟩:=hw
    · cases r
      obtain ⟨its,rv,p,hz⟩:=I.list hq
      rw [assign_Tuple]
      refine wpAny_bind (wpAny_standAt (unpack_lst (I.ok.hd hc) p.isList (by simp [hn,← hl,rv.length]) hst fun g hx=>?_))
      have I1:Inv X pins σ H { s with heap:=g }:=I.kept (t':=s.toks) fun b o e=>hx b o (Nat.ne_of_lt (Heap.lt_size e)) e
      exact h pins _ σ H xs _ Q I1 (by simpa using rv) hw
    · exact pg_tup (pos:=pos) (k:=k) hc h hn hst pins s σ H _ u Q I r ⟨a,xs,rfl,hq,hl,hw⟩
  | _=>exact False.elim hw
theorem pg_unpK {X:Cx}{K:PySem.W.Frag}{es:List Expr}{k:Nat}{t:TGs}{n:Nat}{pos:Pos} (hK:X.K=K) (hc:X.calm=true) (h:PGs X es t)
    (hn:(assignEach es X.env).length=n:=by rfl) (hst:(assignEach es X.env).findIdx? (·.1)=none:=by rfl):PG X (.Tuple es k pos) (gUnp K n t):=hK ▸ pg_unp hc h hn hst
theorem ap_unp {K:PySem.W.Frag}{n:Nat}{t:TGs}{a:Addr}{σ:St}{H:Hp}{Q:St->Hp->Prop}:gUnp K n t (.ref a) σ H Q=∃ xs,Sq K H a xs/\xs.length=n/\t xs σ H Q:=propext Iff.rfl
theorem ap_gcons {t:TG}{u:TGs}{v:V}{r:List V}{σ:St}{H:Hp}{Q:St->Hp->Prop}:gCons t u (v::r) σ H Q=t v σ H fun σ' H'=>u r σ' H' Q:=propext ⟨fun ⟨_,_,e,h⟩=>by cases e;exact h,fun h=>⟨v,r,rfl,h⟩⟩
theorem ap_gnil {σ:St}{H:Hp}{Q:St->Hp->Prop}:gNil [] σ H Q=Q σ H:=propext ⟨fun h=>h.2,fun h=>⟨rfl,h⟩⟩
def cutN (l:List Nat) (lo hi:Option Int):List Nat:=(l.drop (HT.sIx l.length 0 lo)).take (HT.sIx l.length l.length hi - HT.sIx l.length 0 lo)
theorem cutN_length (l:List Nat) (lo hi:Option Int):(cutN l lo hi).length<=l.length:=by
  unfold cutN
  rw [List.length_take,List.length_drop]
  omega
theorem pick_range {α:Type} (l:List α) (a k:Nat):((List.range k).map fun j=>a + j).filterMap (l[·]?)=(l.drop a).take k:=by
  induction k with
  | zero=>simp
  | succ k ih =>
    rw [List.range_succ,List.map_append,List.filterMap_append,ih,List.take_succ]
    congr 1
    simp only [List.map_cons,List.map_nil,List.filterMap_cons,List.filterMap_nil,List.getElem?_drop]
    cases l[a + k]? <;> rfl
def partOf:Option Int->Tok->Option (Int × Tok)
  | some i,t=>some (i,t)
  | none,_=>none
def clipV (n d:Nat):Option Int->Int
  | none=>d
  | some i=>max 0 (min (if i < 0 then i + (n:Int) else i) (n:Int))
theorem sIx_clip (n d:Nat) (o:Option Int):clipV n d o=((HT.sIx n d o:Nat):Int):=by
  cases o with
  | none=>rfl
  | some v =>
    show max 0 (min (if v < 0 then v + (n:Int) else v) (n:Int))=((if v < 0 then (v + (n:Int)).toNat else min v.toNat n:Nat):Int)
    by_cases h:v < 0
    · rw [if_pos h,if_pos h];omega
    · rw [if_neg h,if_neg h];omega
theorem indices_clip (lo hi:Option Int) (n:Nat):Builtin.Str.strSliceIndices lo hi 1 n=sliceRange (clipV n 0 lo) (clipV n n hi) 1:=by
  unfold Builtin.Str.strSliceIndices clipV
  cases lo <;> cases hi <;> simp
theorem range_one (a b:Nat):sliceRange (a:Int) (b:Int) 1=(List.range (b - a)).map fun j=>a + j:=by
  unfold sliceRange
  have e3:(if (1:Int) > 0 then (if (a:Int) < (b:Int) then ((b:Int) - (a:Int) + 1 - 1) / 1 else 0) else (if (a:Int) > (b:Int) then ((a:Int) - (b:Int) - 1 - 1) / (-1) else 0)).toNat=b - a:=by
    rw [if_pos (by decide)]
    split <;> omega
  show ((List.range (if (1:Int) > 0 then (if (a:Int) < (b:Int) then ((b:Int) - (a:Int) + 1 - 1) / 1 else 0) else (if (a:Int) > (b:Int) then ((a:Int) - (b:Int) - 1 - 1) / (-1) else 0)).toNat).map fun (k:Nat)=>((a:Int) + 1 * (k:Int)).toNat)=_
  rw [e3]
  exact List.map_congr_left fun k _=>by omega
theorem picked_range (x:Str) (lo hi:Option Int) (t u:Tok):slicePicked x (partOf lo t) (partOf hi u) none=(List.range (HT.sIx x.length x.length hi - HT.sIx x.length 0 lo)).map fun j=>HT.sIx x.length 0 lo + j:=by
  unfold slicePicked
  have e1:(partOf lo t).map (·.1)=lo:=by cases lo <;> rfl
  have e2:(partOf hi u).map (·.1)=hi:=by cases hi <;> rfl
  rw [e1,e2]
  show Builtin.Str.strSliceIndices lo hi 1 x.length=_
  rw [indices_clip,sIx_clip,sIx_clip,range_one]
theorem picked_cut (x:Str) (lo hi:Option Int) (t u:Tok):(slicePicked x (partOf lo t) (partOf hi u) none).filterMap (x.cps[·]?)=cutN x.cps.toList lo hi:=by
  have e5:(fun i:Nat=>x.cps[i]?)=fun i:Nat=>x.cps.toList[i]?:=by funext i;rw [Array.getElem?_toList]
  rw [picked_range,e5,pick_range]
  unfold cutN
  rw [← len_cps]
theorem sl_strX {X:Cx}:SlR X (fun x lo hi H Q=>∃ z,x=.str z/\z.length<=sizeLine/\Q (.str (tx (cutN z.cps.toList lo hi))) H):=by
  intro pins s σ H x v vl vu lo hi sl Q I rx hs pl pu h
  obtain ⟨z,rfl,hz,q⟩:=h
  obtain ⟨t,rfl⟩:=rx
  refine ⟨"str",_,F.slot_str_getitem.lookup,typeIs_str s z t,?_⟩
  have h1:∃ tl,vl=partValue (partOf lo tl):=by cases pl with | none=>exact ⟨0,rfl⟩ | int i t=>exact ⟨t,rfl⟩
  have h2:∃ tu,vu=partValue (partOf hi tu):=by cases pu with | none=>exact ⟨0,rfl⟩ | int i t=>exact ⟨t,rfl⟩
  obtain ⟨tl,rfl⟩:=h1
  obtain ⟨tu,rfl⟩:=h2
  refine wpAny_getItem_str_slice (l:=partOf lo tl) (u:=partOf hi tu) (st:=none) hs rfl ?_
  have ec:=picked_cut z lo hi tl tu
  have key:tx (cutN z.cps.toList lo hi)=⟨((slicePicked z (partOf lo tl) (partOf hi tu) none).filterMap (z.cps[·]?)).toArray⟩:=by rw [ec];rfl
  unfold sliceMade
  split
  next hh =>
    have hl:(slicePicked z (partOf lo tl) (partOf hi tu) none).length=z.length:=by simpa using hh
    rw [picked_range,List.length_map,List.length_range] at hl
    have b1:=HT.sIx_le z.length 0 (Nat.zero_le _) lo
    have b2:=HT.sIx_le z.length z.length (Nat.le_refl _) hi
    have e:tx (cutN z.cps.toList lo hi)=z:=by
      unfold cutN
      rw [← len_cps,hl]
      by_cases hz0:z.length=0
      · have:z.cps.toList=[]:=by rw [← List.length_eq_zero_iff,← len_cps];exact hz0
        rw [this]
        have:=tx_of z
        rw [‹z.cps.toList=[]›] at this
        simpa using this
      · rw [show HT.sIx z.length 0 lo=0 by omega,List.drop_zero,List.take_of_length_le (by rw [← len_cps];exact Nat.le_refl _)]
        exact tx_of z
    rw [e] at q
    exact ⟨.str z,H,I,⟨t,rfl⟩,q⟩
  next =>
    rw [← key]
    refine ⟨?_,.str _,H,I.tok _,⟨_,rfl⟩,q⟩
    rw [tx_len]
    have:=cutN_length z.cps.toList lo hi
    rw [← len_cps] at this
    omega
def rSlY (K:PySem.W.Frag):V->Option Int->Option Int->Hp->VK->Prop:=fun x lo hi H Q=>match x with
  | .ref a=>∃ xs,SqL K H a xs/\nw H (.lst (cutV xs lo hi)) Q
  | .str z=>z.length<=sizeLine/\Q (.str (tx (cutN z.cps.toList lo hi))) H
  | _=>False
theorem sl_Y {X:Cx}:SlR X (rSlY X.K):=by
  intro pins s σ H x v vl vu lo hi sl Q I rx hs pl pu h
  cases x with
  | ref a =>
    obtain ⟨xs,h1,h2⟩:=h
    exact sl_list pins s σ H _ v vl vu lo hi sl Q I rx hs pl pu ⟨a,xs,rfl,h1,h2.go⟩
  | str z=>exact sl_strX pins s σ H _ v vl vu lo hi sl Q I rx hs pl pu ⟨z,rfl,h.1,h.2⟩
  | _=>exact False.elim h
theorem sl_YK {X:Cx}{K:PySem.W.Frag} (hK:X.K=K):SlR X (rSlY K):=hK ▸ sl_Y
end L2

namespace L2
open PySem PySem.Spec PyProof.Rows
def memK (x:Key) (l:List Key):Bool:=l.any fun y=>decide (y=x)
theorem memK_iff {x:Key}{l:List Key}:memK x l=true ↔ x∈l:=by
  unfold memK
  rw [List.any_eq_true]
  exact ⟨fun ⟨y,h,e⟩=>of_decide_eq_true e ▸ h,fun h=>⟨x,h,decide_eq_true rfl⟩⟩
theorem memK_snoc (x y:Key) (l:List Key):memK x (l++[y])=(memK x l || decide (y=x)):=by
  unfold memK
  rw [List.any_append];simp
def metK (val:Nat->Key):Nat->List Key
  | 0=>[]
  | i + 1=>if memK (val i) (metK val i)=true then metK val i else metK val i++[val i]
theorem metK_len (val:Nat->Key):∀ i,(metK val i).length<=i
  | 0=>Nat.le_refl _
  | i + 1=>by
    have ih:=metK_len val i
    unfold metK
    split
    · omega
    · rw [List.length_append,List.length_singleton];omega
theorem setOf_eq {P:Program}{w:World}{h:Heap}{a:Addr}{S S':Key->Bool}{n n':Nat} (x:h.SetOf (mixKind P w) a S n) (e:∀ k,S k=S' k) (en:n=n'):h.SetOf (mixKind P w) a S' n':=by
  have z:S=S':=funext e
  subst z;subst en;exact x
section
variable {prog:Program}{w:World}{A:Around}{R:Result->Shared->Prop}{c:Addr}{fp wr:List Addr}{G:Array GenState->Array GenState->Prop}{n:Nat}{Pv:Nat->Value->Prop}{Sv:Nat->Shared->Prop}
theorem upd_loop (W:WalksS prog w A.in1 c fp wr G n Pv Sv) (a:Addr) (na:a ∉ fp) (val:Nat->Key) (hv:∀ i v,Pv i v->keyIs (val i) v=true/\v.scannable=true) (hb:n + 1 < scanBound) :
    ∀ (k i:Nat) (s:Shared),n - i=k->i<=n->Sv i s->s.heap.SetOf (mixKind prog w) a (fun x=>memK x (metK val i)) (metK val i).length →
      (∀ s',Moved (a::wr) G s s'->s'.heap.SetOf (mixKind prog w) a (fun x=>memK x (metK val n)) (metK val n).length->R (.ok (.ret .none)) s') →
      codeAny (model prog w) A (.builtin "set.update.loop" ⟨[.ref a,.ref c],[]⟩) R s:=by
  have nw':a ∉ wr:=fun z=>na (W.sub _ z)
  have sb:∀ b∈wr,b∈a::wr:=fun b h=>List.mem_cons_of_mem _ h
  have stay:∀ {s s':Shared}{S:Key->Bool}{m:Nat},Moved wr G s s'->s.heap.SetOf (mixKind prog w) a S m->s'.heap.SetOf (mixKind prog w) a S m:=fun mv x=>by
    obtain ⟨o,es,ep,t,ho,r⟩:=x
    exact ⟨o,es,ep,t,mv.heap a _ nw' ho,r⟩
  intro k
  induction k with
  | zero =>
    intro i s hk hi st x q
    have e:i=n:=by omega
    subst e
    refine codeAny_builtin PyProof.Rows.F.entry_set_update_loop ?_
    rw [Around.under_plainId PyProof.Rows.F.plain_set_update_loop _]
    show wpAny _ A.in1 (pyNext (.ref c) >>= _) _ _ s
    refine wpAny_bind (W.done s _ _ st fun s' mv=>?_)
    exact wpAny_pure (q s' (mv.mono sb) (stay mv x))
  | succ k ih =>
    intro i s hk hi st x q
    have lt:i < n:=by omega
    refine codeAny_builtin PyProof.Rows.F.entry_set_update_loop ?_
    rw [Around.under_plainId PyProof.Rows.F.plain_set_update_loop _]
    show wpAny _ A.in1 (pyNext (.ref c) >>= _) _ _ s
    refine wpAny_bind (W.item i s _ _ lt st fun v s' pv st' mv=>?_)
    obtain ⟨hk1,hk2⟩:=hv i v pv
    have x':=stay mv x
    show wpAny _ A.in1 (holding [v] (setAdd a v) >>= _) _ _ s'
    refine wpAny_bind (wpAny_holding ?_)
    unfold setAdd
    refine wpAny_holding ?_
    refine wpAny_bind ((mixKind prog w).pyHash (k:=val i) hk1 ?_)
    have room:(metK val i).length + 1 < scanBound:=by have:=metK_len val i;omega
    refine wpAny_setAddHashed_of (knd:=mixKind prog w) (s:={ s' with toks:=s'.toks + 1 }) hk1 hk2 x' room fun g sg xg=>?_
    have x2:g.SetOf (mixKind prog w) a (fun y=>memK y (metK val (i + 1))) (metK val (i + 1)).length:=by
      refine setOf_eq xg (fun y=>?_) ?_
      · show (memK y (metK val i) || decide (y=val i))=memK y (if memK (val i) (metK val i)=true then metK val i else metK val i++[val i])
        by_cases hc:memK (val i) (metK val i)=true
        · rw [if_pos hc]
          by_cases e:y=val i
          · subst e;rw [hc,Bool.true_or]
          · rw [decide_eq_false e,Bool.or_false]
        · rw [if_neg hc,memK_snoc]
          congr 1
          by_cases e:y=val i
          · rw [decide_eq_true e,decide_eq_true e.symm]
          · rw [decide_eq_false e,decide_eq_false (Ne.symm e)]
      · show (if memK (val i) (metK val i)=true then (metK val i).length else (metK val i).length + 1)=(if memK (val i) (metK val i)=true then metK val i else metK val i++[val i]).length
        by_cases hc:memK (val i) (metK val i)=true
        · rw [if_pos hc,if_pos hc]
        · rw [if_neg hc,if_neg hc,List.length_append];rfl
    refine wpAny_pure ⟨plainId_quiet PyProof.Rows.F.plain_set_update_loop _,ih (i + 1) _ (by omega) lt (W.frame _ s' _ _ st' (Nat.le_succ _) fun b hb o e=>?_) x2 fun s'' mv2 x3=>?_⟩
    · rw [sg.2 b (fun z:b=a=>na (by rw [← z];exact hb))];exact e
    · refine q s'' (Moved.trans W.gtrans ((mv.mono sb).then_heap (Nat.le_succ _) fun b o hb e=>?_) mv2) x3
      rw [sg.2 b (fun z:b=a=>hb (by rw [z];exact List.mem_cons_self))];exact e
end
end L2

namespace L2
open PySem PySem.Spec PyProof.Rows
def setT (P:Program) (w:World) (a:Addr) (l:List Key):HO:=.ext fun h=>h.SetOf (mixKind P w) a (fun x=>memK x l) l.length
theorem setT_ok {P:Program}{w:World}{H:Hp}{h:Heap}{a:Addr}{l:List Key} (x:h.SetOf (mixKind P w) a (fun x=>memK x l) l.length):ObjOk P w H h a (setT P w a l):=by
  refine ⟨x,?_,fun h1 h2 y k=>?_⟩
  · obtain ⟨o,_,_,_,e,_⟩:=x;exact ⟨o,e⟩
  · obtain ⟨o,es,ep,t,e,r⟩:=y;exact ⟨o,es,ep,t,k o e,r⟩
def rLenT (P:Program) (w:World):List V->Hp->VK->Prop:=fun vs H Q=>match vs with
  | [.ref p]=>∃ l,H p=some (setT P w p l)/\Q (.int l.length) H
  | _=>False
theorem call_lenT {X:Cx}:CallR X (.builtin "len") (rLenT X.prog X.w):=by
  intro pins s σ H xs us Q I r h
  match xs,h with
  | [.ref p],h =>
    obtain ⟨l,e,q⟩:=h
    obtain ⟨u,rfl,ru⟩:=vals1 r
    cases ru
    obtain ⟨⟨o,es,ep,t,e1,e2,e3,_,_,e4,e5,e6⟩,_⟩:=(show ObjOk X.prog X.w H s.heap p (setT X.prog X.w p l) from I.hok p _ e)
    refine call_len_set e1 e2 e3 e5 (by have:es.size < 4096:=e4;omega) ⟨.int es.size,H,I.tok _,⟨_,rfl⟩,?_⟩
    rw [e6];exact q
theorem call_lenTK {X:Cx}{P:Program}{w:World} (hP:X.prog=P) (hw:X.w=w):CallR X (.builtin "len") (rLenT P w):=by subst hP hw;exact call_lenT
theorem metK_mem (val:Nat->Key):∀ (n:Nat) (x:Key),x∈metK val n ↔ ∃ i,i < n/\val i=x
  | 0,x=>⟨fun h=>(by cases h),fun ⟨i,h,_⟩=>absurd h (Nat.not_lt_zero _)⟩
  | n + 1,x=>by
    have ih:=metK_mem val n
    unfold metK
    by_cases hc:memK (val n) (metK val n)=true
    · rw [if_pos hc,ih x]
      obtain ⟨j,hj,ej⟩:=(ih (val n)).mp (memK_iff.mp hc)
      constructor
      · rintro ⟨i,h,e⟩;exact ⟨i,Nat.lt_succ_of_lt h,e⟩
      · rintro ⟨i,h,e⟩
        rcases Nat.lt_succ_iff_lt_or_eq.mp h with h | h
        · exact ⟨i,h,e⟩
        · exact ⟨j,hj,by rw [ej,← h,e]⟩
    · rw [if_neg hc,List.mem_append,List.mem_singleton,ih x]
      constructor
      · rintro (⟨i,h,e⟩ | e)
        · exact ⟨i,Nat.lt_succ_of_lt h,e⟩
        · exact ⟨n,Nat.lt_succ_self _,e.symm⟩
      · rintro ⟨i,h,e⟩
        rcases Nat.lt_succ_iff_lt_or_eq.mp h with h | h
        · exact .inl ⟨i,h,e⟩
        · exact .inr (by rw [← e,h])
theorem metK_full (val:Nat->Key):∀ n,(metK val n).length=n ↔ ∀ i j,i < n->j < n->val i=val j->i=j
  | 0=>⟨fun _ i _ h=>absurd h (Nat.not_lt_zero _),fun _=>rfl⟩
  | n + 1=>by
    have ih:=metK_full val n
    have hl:=metK_len val n
    unfold metK
    by_cases hc:memK (val n) (metK val n)=true
    · rw [if_pos hc]
      obtain ⟨j,hj,ej⟩:=(metK_mem val n (val n)).mp (memK_iff.mp hc)
      constructor
      · intro h;omega
      · intro h
        have:=h j n (Nat.lt_succ_of_lt hj) (Nat.lt_succ_self _) ej
        omega
    · rw [if_neg hc,List.length_append,List.length_singleton]
      have nm:∀ i,i < n->val i≠val n:=fun i hi e=>hc (memK_iff.mpr ((metK_mem val n (val n)).mpr ⟨i,hi,e⟩))
      constructor
      · intro h i j hi hj e
        have h2:=ih.mp (by omega)
        rcases Nat.lt_succ_iff_lt_or_eq.mp hi with hi | hi <;> rcases Nat.lt_succ_iff_lt_or_eq.mp hj with hj | hj
        · exact h2 i j hi hj e
        · subst hj;exact absurd e (nm i hi)
        · subst hi;exact absurd e.symm (nm j hj)
        · omega
      · intro h
        have:=ih.mpr fun i j hi hj=>h i j (Nat.lt_succ_of_lt hi) (Nat.lt_succ_of_lt hj)
        omega
def ndB:List Addr->Bool
  | []=>true
  | a::r=>!r.contains a && ndB r
theorem tag_same {H H':Hp} (s:Same H H') {x:V}{t:Tg} (h:tagV H x=some t):tagV H' x=some t:=by
  cases x with
  | ref a =>
    have h':tagO (H a)=some t:=h
    cases e:H a with
    | none=>rw [e] at h';cases h'
    | some o =>
      show tagO (H' a)=some t
      rw [s a o e,← e];exact h'
  | _=>exact h
end L2

namespace L2
open PySem PySem.Spec PyProof.Rows
section
variable {X:Cx}{K:PySem.W.Frag}
end
theorem seq_go {t u:TS}{D:Ends}{σ:St}{H:Hp} (h:∀ nn:TS,nn=u->t { D with nx:=fun σ' H'=>nn D σ' H' } σ H):tSeq t u D σ H:=h u rfl
theorem for_rngO {lo:Int}{n:Nat}{g:TG}{tb:TS}{D:Ends}{σ:St}{H:Hp} (Pv:Nat->St->Hp->Prop) (h0:Pv 0 σ H)
    (hs:∀ i σ H,i < n->Pv i σ H->∀ N:St->Hp->Prop,(∀ σ' H',Pv (i + 1) σ' H'->N σ' H')->g (.int (lo + i)) σ H fun σ2 H2=>tb { D with nx:=N,ct:=N,bk:=D.nx } σ2 H2) (hd:∀ σ H,Pv n σ H->D.nx σ H):ForTurns g tb D (Itr lo n) σ H :=
  for_rng Pv h0 (fun i σ H hi hp=>hs i σ H hi hp _ fun _ _ h=>h) hd
theorem for_lstO {K:PySem.W.Frag}{a:Addr}{xs:List V}{g:TG}{tb:TS}{D:Ends}{σ:St}{H:Hp} (Pv:Nat->St->Hp->Prop) (h0:Pv 0 σ H) (hl:∀ i σ H,i<=xs.length->Pv i σ H->SqL K H a xs)
    (hs:∀ i x σ H,xs[i]?=some x->Pv i σ H->∀ N:St->Hp->Prop,(∀ σ' H',Pv (i + 1) σ' H'->N σ' H')->g x σ H fun σ2 H2=>tb { D with nx:=N,ct:=N,bk:=D.nx } σ2 H2) (hd:∀ σ H,Pv xs.length σ H->D.nx σ H):ForTurns g tb D (Itl K a) σ H :=
  for_lst Pv h0 hl (fun i x σ H hi hp=>hs i x σ H hi hp _ fun _ _ h=>h) hd
end L2

namespace Mk
end Mk

namespace Mk
end Mk
namespace L2
open PySem PySem.Spec PyProof.Rows
def tDisp1 (tk tv:TE):TE:=fun σ H Q=>∀ p H',H p=none->Same H H'->H' p=some (.dT [])->tk σ H' fun x H1=>tv σ H1 fun y H2=>∃ b ks,x=.ref b/\H2 b=some (.tup (ks.map kV))/\H2 p=some (.dT [])/\Q (.ref p) (upd H2 p (.dT (putK [] ks y)))
theorem ap_disp1 {tk tv:TE}{σ:St}{H:Hp}{Q:VK}:tDisp1 tk tv σ H Q=∀ p H',H p=none->Same H H'->H' p=some (.dT [])->tk σ H' fun x H1=>tv σ H1 fun y H2=>∃ b ks,x=.ref b/\H2 b=some (.tup (ks.map kV))/\H2 p=some (.dT [])/\Q (.ref p) (upd H2 p (.dT (putK [] ks y))):=propext Iff.rfl
theorem pe_disp1 {X:Cx}{pos:Pos}{k v:Expr}{tk tv:TE} (hu:X.A.units + 1 < cLine) (hk:PE X k tk) (hv:PE X v tv):PE X (.Dict [some k] [v] pos) (tDisp1 tk tv):=by
  intro pins s σ H Q I q
  have hn:=I.hok.fresh (Nat.le_refl s.heap.objs.size)
  have I1:=I.laid (a:=s.heap.objs.size) (o:=.dT []) (h':=s.heap.push { cls:=.type "dict",data:=.dict #[] }) (t':=s.toks) (fun _ _ q=>Heap.get?_push_of_some _ q) (Nat.le_refl _) (dt_empty s.heap I.big)
  have hp:PPs X pos [some k] [v] [(tk,tv)]:=pps_cons hk hv pps_nil
  have q1:=q s.heap.objs.size _ hn (same_upd hn) upd_same
  rw [arm_eval_Dict,zip_pairTrees [some k] [v] X.env pos rfl rfl,dictDisplay_pairs _ (fun e=>by have:=pairTrees_length [some k] [v] X.env pos rfl rfl;rw [e] at this;cases this) (by rw [pairTrees_length [some k] [v] X.env pos rfl rfl];show (1:Nat) < 17;decide)]
  refine wpAny_bind (wpAny_standAt (wpAny_bind ?_))
  unfold subDict
  refine wpAny_bind (wpAny_alloc (wpAny_bind (wpAny_holding ?_)))
  rw [if_pos (by rw [pairTrees_length [some k] [v] X.env pos rfl rfl];show (1:Nat)<=15;decide)]
  refine wpAny_bind (thn (hp pins _ σ _ (fun ps H2=>match ps with
    | [(x,y)]=>∃ b ks,x=.ref b/\H2 b=some (.tup (ks.map kV))/\H2 s.heap.objs.size=some (.dT [])/\Q (.ref s.heap.objs.size) (upd H2 s.heap.objs.size (.dT (putK [] ks y)))
    | _=>False) I1 q1) fun ws s2 ⟨ps,H2,I2,rel,hps⟩=>?_)
  cases ps with
  | nil=>exact False.elim hps
  | cons xy r0=>cases r0 with
   | cons _ _=>exact False.elim hps
   | nil =>
    obtain ⟨x,y⟩:=xy
    obtain ⟨b,ks,rfl,hb,hd0,qf⟩:=hps
    cases rel with
    | @cons p1 p2 as bs r1 r2 =>
      cases r2
      obtain ⟨u1,u2⟩:=p2
      obtain ⟨ra,rv⟩:=r1
      cases (show u1=Value.ref b from ra)
      obtain ⟨z,hd,xs,rel,dd⟩:=dt_of I2.hok hd0
      refine wpAny_holding (wpAny_bind ?_)
      rw [List.forIn_cons]
      refine wpAny_bind (wpAny_bind ?_)
      have hz:xs.length<=sizeLine:=by rw [← Paired.length rel];exact z
      refine wpAny_dictSet_heap (hsz:=hz) (by show X.A.units < cLine;omega) (key_of I2.hok hb) dd fun h' dd' hs=>?_
      refine wpAny_pure ?_
      show wpAny _ _ (forIn [] PUnit.unit _) _ _ _
      rw [List.forIn_nil]
      refine wpAny_pure (wpAny_pure (wpAny_pure (wpAny_pure ?_)))
      obtain ⟨q',es,ep,hq',h2,h3,h4,_,h5⟩:=dd'
      have hl:(putK ([]:List (List Key × V)) ks y).length<=sizeLine:=by have:=length_putK ([]:List (List Key × V)) ks y;rw [List.length_nil] at this;rw [sizeLine_eq];omega
      refine ⟨.ref s.heap.objs.size,_,d_write (ob:=.dT (putK [] ks y)) I2 (by rw [hd0];exact True.intro) hs ⟨q',hq'⟩ ⟨hl,hd,_,(rel.put ks hb rv).keeps fun c ys ec=>?_,q',es,ep,hq',h2,h3,h4,h5⟩,rfl,qf⟩
      rw [upd_ne (ne_of ec hd0 (fun z=>nomatch z))]
      exact ec
def rMulS:R2:=fun x y H Q=>match x,y with
  | .int i,.int j=>(i.natAbs < 2 ^ 60 ∨ j.natAbs < 2 ^ 60)/\Q (.int (i * j)) H
  | _,_=>False
theorem op_mulS {X:Cx}:OpR X (binaryOp .Mult) rMulS:=by
  intro pins s σ H x y v u Q I rx ry h
  cases x with
  | int i=>cases y with
    | int j =>
      refine (opI (X:=X) (f:=binaryOp .Mult) (C:=fun i j=>i.natAbs < 2 ^ 60 ∨ j.natAbs < 2 ^ 60) (g:=fun i j=>i * j) fun i j _ _ _ _ _ hc q=>mul_int q ?_) pins s σ H _ _ v u Q I rx ry ⟨_,_,rfl,rfl,h.1,h.2⟩
      rcases hc with hc | hc
      · exact IntMulOk.of_left (Nat.le_trans (intBits_le_iff.mpr hc) (by decide))
      · exact IntMulOk.of_right (Nat.le_trans (intBits_le_iff.mpr hc) (by decide))
    | _=>exact False.elim h
  | _=>exact False.elim h
end L2

namespace L2
open PySem PySem.Spec PyProof.Rows
theorem ev_rAddX_1 {i j}{H:Hp}{Q:VK}:rAddX (.int i) (.int j) H Q=(Q (.int (i + j)) H):=propext Iff.rfl
theorem ev_rAddX_2 {a b}{H:Hp}{Q:VK}:rAddX (.str a) (.str b) H Q=(a.length + b.length<=sizeLine/\Q (.str (a++b)) H):=propext Iff.rfl
theorem ev_rAddX_3 {l b}{H:Hp}{Q:VK}:rAddX (.ref l) (.ref b) H Q=(∃ xs zs,H l=some (.lst xs)/\H b=some (.lst zs)/\xs.length + zs.length<=sizeLine/\nw H (.lst (xs++zs)) Q):=propext Iff.rfl
theorem ev_rSubX_1 {i j}{H:Hp}{Q:VK}:rSubX (.int i) (.int j) H Q=(Q (.int (i - j)) H):=propext Iff.rfl
theorem ev_rMulX_1 {i j}{H:Hp}{Q:VK}:rMulX (.int i) (.int j) H Q=(CBig i j/\Q (.int (i * j)) H):=propext Iff.rfl
theorem ev_rFdivX_1 {i j}{H:Hp}{Q:VK}:rFdivX (.int i) (.int j) H Q=((0 < j/\j < 2 ^ 1000)/\Q (.int (i / j)) H):=propext Iff.rfl
theorem ev_rModX_1 {i j}{H:Hp}{Q:VK}:rModX (.int i) (.int j) H Q=(0 < j/\Q (.int (i % j)) H):=propext Iff.rfl
theorem ev_rPowX_1 {i j}{H:Hp}{Q:VK}:rPowX (.int i) (.int j) H Q=((0<=j/\j<=1000000/\i.natAbs < 2 ^ 64)/\Q (.int (i ^ j.toNat)) H):=propext Iff.rfl
theorem ev_rCmpX_1 {f:Int->Int->Bool}{i j}{H:Hp}{Q:VK}:rCmpX f (.int i) (.int j) H Q=(Q (.bl (f i j)) H):=propext Iff.rfl
theorem ev_rEqX_1 {K:PySem.W.Frag}{i j}{H:Hp}{Q:VK}:rEqX K (.int i) (.int j) H Q=(Q (.bl (decide (i=j))) H):=propext Iff.rfl
theorem ev_rEqX_3 {K:PySem.W.Frag}{i j}{H:Hp}{Q:VK}:rEqX K (.str i) (.str j) H Q=(Q (.bl (decide (i=j))) H):=propext Iff.rfl
theorem ev_rNeX_1 {K:PySem.W.Frag}{i j}{H:Hp}{Q:VK}:rNeX K (.int i) (.int j) H Q=(Q (.bl (!decide (i=j))) H):=propext Iff.rfl
theorem ev_rNeX_2 {K:PySem.W.Frag}{i j}{H:Hp}{Q:VK}:rNeX K (.bl i) (.bl j) H Q=(Q (.bl (!decide (i=j))) H):=propext Iff.rfl
theorem ev_rIxX_1 {K:PySem.W.Frag}{p i}{H:Hp}{Q:VK}:rIxX K (.ref p) (.int i) H Q=(∃ xs v,Sq K H p xs/\atI xs i=some v/\Q v H):=propext Iff.rfl
theorem ev_rIxX_2 {K:PySem.W.Frag}{z i}{H:Hp}{Q:VK}:rIxX K (.str z) (.int i) H Q=(z.length<=sizeLine/\∃ c,atI z.cps.toList i=some c/\Q (.str ⟨#[c]⟩) H):=propext Iff.rfl
theorem ev_rLenX_1 {K:PySem.W.Frag}{z}{H:Hp}{Q:VK}:rLenX K [.str z] H Q=(z.length<=sizeLine/\Q (.int z.length) H):=propext Iff.rfl
theorem ev_rLenX_2 {K:PySem.W.Frag}{p}{H:Hp}{Q:VK}:rLenX K [.ref p] H Q=(∃ xs,Sq K H p xs/\Q (.int xs.length) H):=propext Iff.rfl
theorem ev_rListX_1 {K:PySem.W.Frag}{a}{H:Hp}{Q:VK}:rListX K [.ref a] H Q=(∃ ys,(Sq K H a ys ∨ ∃ lo hi,H a=some (.rng lo hi)/\(-(2 ^ 62)<=lo/\lo < 2 ^ 62/\-(2 ^ 62)<=hi/\hi < 2 ^ 62)/\(hi - lo).toNat<=2 ^ 20/\ys=rngV lo (hi - lo).toNat)/\nw H (.lst ys) Q):=propext Iff.rfl
theorem ev_rIsiC_1 {c:Tg}{x n}{H:Hp}{Q:VK}:rIsiC c [x,.ty n] H Q=(n=c.name/\∃ t,tagV H x=some t/\Q (.bl (t.sub c)) H):=propext Iff.rfl
theorem ev_rSlY_1 {K:PySem.W.Frag}{a}{lo}{hi}{H:Hp}{Q:VK}:rSlY K (.ref a) lo hi H Q=(∃ xs,SqL K H a xs/\nw H (.lst (cutV xs lo hi)) Q):=propext Iff.rfl
theorem ev_rMulS_1 {i j}{H:Hp}{Q:VK}:rMulS (.int i) (.int j) H Q=((i.natAbs < 2 ^ 60 ∨ j.natAbs < 2 ^ 60)/\Q (.int (i * j)) H):=propext Iff.rfl
theorem ev_rLenT_1 {P:Program}{w:World}{p}{H:Hp}{Q:VK}:rLenT P w [.ref p] H Q=(∃ l,H p=some (setT P w p l)/\Q (.int l.length) H):=propext Iff.rfl
theorem ev_iSeqV_1 {K:PySem.W.Frag}{a:Addr}{H:Hp}{R:It->Hp->Prop}:iSeqV K (.ref a) H R=(((∃ xs,SqL K H a xs)/\R (Itl K a) H) ∨ ((∃ xs,SqT K H a xs)/\R (Itt K a) H)):=propext Iff.rfl
theorem ev_iSeqV_2 {K:PySem.W.Frag}{z:Str}{H:Hp}{R:It->Hp->Prop}:iSeqV K (.str z) H R=R (Itx z) H:=propext Iff.rfl
end L2

namespace L2
open PySem PySem.Spec PyProof.Rows
def Ite (K:PySem.W.Frag) (a:Addr):It :=
  ⟨fun i H=>∃ xs x,SqL K H a xs/\xs[i]?=some x,
   fun i H v H'=>∃ x p,(∀ xs,SqL K H a xs->xs[i]?=some x)/\v=.ref p/\H p=none/\H'=upd H p (.tup [.int (i:Int),x]),
   fun i H=>∃ xs,SqL K H a xs/\xs.length<=i⟩
theorem enum_obj {h:Heap}{a e it:Addr}{i:Nat} (st:(∃ old,IsEnum h e it (i:Int) old)/\h.IsListIter it a i):∀ c∈[e,it],∃ o,h.get? c=some o/\∀ v,o.data≠.cell v:=fun c hc=>by
  obtain ⟨⟨old,he⟩,⟨o1,e1,c1,d1⟩⟩:=st
  simp only [List.mem_cons,List.not_mem_nil,or_false] at hc
  rcases hc with rfl | rfl
  · exact ⟨_,he,fun v q=>by have q':Data.fields _=Data.cell v:=q;cases q'⟩
  · exact ⟨o1,e1,fun v q=>by rw [d1] at q;cases q⟩
theorem turn_enum {P:Program}{w:World}{K:PySem.W.Frag}{elts:List Expr}{k:Nat}{pos:Pos} (a e it:Addr) (D:e≠it):Turn P w K (.Tuple elts k pos) (Ite K a) [e,it] e
    (fun i h=>(∃ old,IsEnum h e it (i:Int) old)/\h.IsListIter it a i) where
  mem:=by simp
  obj:=fun i h st=>enum_obj st
  keep:=fun i h h' st k=>by
    obtain ⟨⟨old,he⟩,h1⟩:=st
    exact ⟨⟨old,k e (by simp) _ he⟩,h1.at fun o e=>k it (by simp) o e⟩
  item:=by
    intro X hP hw hK hc i pins s σ H E I hf st hg
    subst hP hw hK
    obtain ⟨xs,x,hx,ex⟩:=hg
    obtain ⟨us,r1,p1,_⟩:=I.list hx
    obtain ⟨u,hu,ru⟩:=r1.get ex
    obtain ⟨⟨old,he⟩,h1⟩:=id st
    refine wpAny_pyNext_enum_item he h1 p1.isList (x:=u) (by simpa using hu) D fun h' a1 a2 a3 a4 a5=>?_
    refine ⟨_,rfl,wpAny_letOwnedTupleGo_enum (s:={ s with heap:=h',toks:=s.toks + 1 }) a1 fun h'' b1 b2=>?_⟩
    have b2':Heap.SameBut e h' h'':=b2
    have ne:∀ c∈[e,it],c < s.heap.objs.size:=fun c hc=>by
      obtain ⟨o,e,_⟩:=enum_obj st c hc
      exact Heap.lt_size e
    have kk:∀ c o,c ∉ [e,it]->s.heap.get? c=some o->h''.get? c=some o:=fun c o hc e=>by
      simp only [List.mem_cons,List.not_mem_nil,or_false,not_or] at hc
      exact (b2'.2 c hc.1).trans (a5 c o hc.1 hc.2 e)
    have hT:h''.get? s.heap.objs.size=some { cls:=.type "tuple",data:=.seq #[.int (i:Int) s.toks,u] }:=(b2'.2 _ (Nat.ne_of_gt (ne e (by simp)))).trans a3
    have I1:Inv X pins σ (upd H s.heap.objs.size (.tup [.int (i:Int),x])) { s with heap:=h'',toks:=s.toks + 1 }:=by
      refine I.turnNew (t':=s.toks + 1) (ch:=[e,it]) hf kk (fun c o ee=>?_) (Nat.le_refl _) (show ObjOk X.prog X.w _ h'' _ (.tup [.int (i:Int),x]) from ⟨by show 2<=sizeLine;decide,[.int (i:Int) s.toks,u],.cons ⟨_,rfl⟩ (.cons ru .nil),⟨_,hT,rfl,_,rfl⟩⟩)
      by_cases hc:c∈[e,it]
      · simp only [List.mem_cons,List.not_mem_nil,or_false] at hc
        rcases hc with rfl | rfl
        · exact ⟨_,b1⟩
        · obtain ⟨o1,e1,_⟩:=a2;exact ⟨_,(b2'.2 _ (Ne.symm D)).trans e1⟩
      · exact ⟨_,kk c o hc ee⟩
    refine ⟨.ref s.heap.objs.size,_,I1,rfl,⟨x,_,fun zs hz=>by rw [I.list_inj hz hx];exact ex,rfl,I.hok.fresh (Nat.le_refl _),rfl⟩,⟨⟨_,by have:=b1;rw [show ((i + 1:Nat):Int)=(i:Int) + 1 from rfl];exact this⟩,a2.at fun o e=>(b2'.2 _ (Ne.symm D)).trans e⟩,fun c hc=>?_⟩
    rw [upd_ne (Nat.ne_of_lt (ne c hc))];exact (hf c hc).1
  done:=by
    intro X hP hw hK hc i pins s σ H E I hf st hg
    subst hP hw hK
    obtain ⟨xs,hx,hl⟩:=hg
    obtain ⟨us,r1,p1,_⟩:=I.list hx
    obtain ⟨⟨old,he⟩,h1⟩:=id st
    have l1:=r1.length
    refine wpAny_pyNext_enum_end (I.ok.hd hc) he h1 p1.isList (by simp;omega) fun h' kk=>⟨rfl,I.turnL (t':=s.toks) (ch:=[e,it]) hf fun c o hc e=>?_⟩
    simp only [List.mem_cons,List.not_mem_nil,or_false,not_or] at hc
    exact kk c o hc.2 e
  self:=fun _ _ _ _ _ st h=>by
    obtain ⟨⟨old,he⟩,_⟩:=st
    exact wpAny_pyIter_enum he h
section
variable {X:Cx}
def iEnum (K:PySem.W.Frag) (ta:TA):TI:=fun σ H R=>ta σ H fun vs H1=>∃ a,vs=[.ref a]/\(∃ xs,SqL K H1 a xs)/\R (Ite K a) H1
theorem ap_iEnum {K:PySem.W.Frag}{ta:TA}{σ:St}{H:Hp}{R:It->Hp->Prop}:iEnum K ta σ H R=ta σ H fun vs H1=>∃ a,vs=[.ref a]/\(∃ xs,SqL K H1 a xs)/\R (Ite K a) H1:=propext Iff.rfl
theorem pi_enum {elts:List Expr}{k:Nat}{tpos:Pos}{a:Expr}{ta:TA}{p pos:Pos} (hg:Gl X "enumerate") (hm:X.mg "enumerate"=none) (ha:PA X [a] ta) (hs:starEach [a] X.env=[(false,eval a X.env)]:=by rfl) :
    PI X (.Tuple elts k tpos) (.Call (.Name "enumerate" p) [a] [] pos) (iEnum X.K ta):=by
  intro pins s σ H R I h
  refine Call_ (ld_blt I hg hm bt_enumerate (PyProof.Rows.callWith_type1 (thn (ha pos pins s σ H _ I h) fun us s1 ⟨vs,H1,I1,r1,q1⟩=>?_) hs (by rfl)))
  obtain ⟨l1,e,⟨xs,hx⟩,q⟩:=q1
  subst e
  cases r1 with
  | cons r rr =>
    cases rr
    cases r
    obtain ⟨us,_,p1,_⟩:=I1.list hx
    refine call_enumerate_list p1.isList fun h' he hi hsz hk=>wpAny_pyIter_enum (s:={ s1 with heap:=h' }) he ?_
    have I2:Inv X pins σ H1 { s1 with heap:=h' }:=I1.kept (t':=s1.toks) hk
    refine ⟨_,[s1.heap.objs.size + 1,s1.heap.objs.size],_,_,H1,rfl,I2,turn_enum l1 (s1.heap.objs.size + 1) s1.heap.objs.size (Nat.succ_ne_self _),⟨⟨_,he⟩,hi⟩,fun c hc=>?_,q⟩
    have hle:s1.heap.objs.size<=c:=by
      simp only [List.mem_cons,List.not_mem_nil,or_false] at hc
      rcases hc with rfl | rfl <;> omega
    exact I1.fpOk hle (I1.hok.fresh hle)
theorem pi_enumG {K:PySem.W.Frag}{elts:List Expr}{k:Nat}{tpos:Pos}{a:Expr}{ta:TA}{p pos:Pos} (hK:X.K=K) (hm:X.mg "enumerate"=none) (ha:PA X [a] ta) (hg:X.env.kindOf "enumerate"=some .globalImplicit:=by kernel_rfl) (hs:noStar a=true:=by kernel_rfl) :
    PI X (.Tuple elts k tpos) (.Call (.Name "enumerate" p) [a] [] pos) (iEnum K ta):=hK ▸ pi_enum hg hm ha (starEach_cons hs)
end
section
variable {X:Cx}{tg:Expr}
end
theorem entry_itemiter_iter:entryFor table "dict_itemiterator.__iter__"=some Builtin.«dict_keyiterator.__iter__»:=entryFor_alias (id':="dict_keyiterator.__iter__") (by kernel_rfl) (by kernel_rfl) (by kernel_rfl) (by kernel_rfl)
theorem iter_itemiter {prog:Program}{w:World}{A:Around}{E:Value->Shared->Prop}{s:Shared}{it d:Addr}{i n ep:Nat}{ok ov:Value}{Q:Value->Shared->Prop} (st:IsItemIter s.heap it d i n ep ok ov) (h:Q (.ref it) s):wpAny (model prog w) A (pyIter (.ref it)) Q E s:=by
  have hT:s.TypeIs (.ref it) "dict_itemiterator":=⟨_,st,rfl⟩
  refine wpAny_pyIter_slot hT F.slot_dict_itemiterator_iter (wpAny_call_entry F.slot_dict_itemiterator_iter hT entry_itemiter_iter ?_ (F.args_dict_itemiterator_iter_1 (Value.ref it)))
  exact wpAny_pure ⟨.ref it,rfl,"dict_itemiterator",.builtin "dict_itemiterator.__next__",hT,F.slot_dict_itemiterator_next.lookup,h⟩
def viewO (p d:Addr):HO:=.ext fun h=>h.IsItemsView p d
theorem viewO_ok {P:Program}{w:World}{H:Hp}{h:Heap}{p d:Addr} (x:h.IsItemsView p d):ObjOk P w H h p (viewO p d):=by
  refine ⟨x,?_,fun h1 h2 y k=>?_⟩
  · obtain ⟨o,e,_⟩:=x;exact ⟨o,e⟩
  · obtain ⟨o,e,r⟩:=y;exact ⟨o,k o e,r⟩
section
variable {X:Cx}
theorem ap_dget {td ty:TE}{σ:St}{H:Hp}{Q:VK}:tDGet td ty σ H Q=td σ H fun x H1=>ty σ H1 fun y H2=>∃ a v,x=.ref a/\DGet H2 a y (some v)/\Q v H2:=propext Iff.rfl
theorem pe_dgetG {o i:Expr}{td ty:TE}{pos:Pos} (hu:X.A.units + 1 < cLine) (ho:PE X o td) (hi:PE X i ty) (hs:NoSl i:=by exact fun _ _=>rfl):PE X (.Subscript o i pos) (tDGet td ty):=pe_dget hu ho hi hs
theorem pe_bm0G {K:PySem.W.Frag}{o:Expr}{to:TE}{name:Str}{apos cpos:Pos}{T id:String}{r:V->List V->Hp->VK->Prop} (hK:X.K=K) (pa:PlainAttrs T) (slot:Slot T name id) (hty:typeOf (.builtin id)=pure (.type "method_descriptor"))
    (hm:MtR X id r) (ho:PE X o to) (hbase:attributeBase o name X.env (eval o X.env)=eval o X.env:=by kernel_rfl) (hline:(apos.endLine == cpos.line)=true:=by kernel_rfl):PE X (.Call (.Attribute o name apos) [] [] cpos) (tBM0 K T r to) :=
  hK ▸ pe_bm0 pa slot hty hm ho hbase hline
end
def rIntB:List V->Hp->VK->Prop:=fun vs H Q=>match vs with
  | [.bl b]=>Q (.int (if b then 1 else 0)) H
  | _=>False
theorem ev_rIntB {b:Bool}{H:Hp}{Q:VK}:rIntB [.bl b] H Q=Q (.int (if b then 1 else 0)) H:=propext Iff.rfl
theorem call_intB {X:Cx}:CallR X (.type "int") rIntB:=by
  intro pins s σ H xs us Q I r h
  match xs,h with
  | [.bl b],h =>
    obtain ⟨u,rfl,ru⟩:=Vals.one r
    cases (show u=Value.bool b from ru)
    exact call_int_bool ⟨.int _,H,I.tok _,⟨_,rfl⟩,h⟩
end L2

namespace Mk
end Mk

namespace L2
open PySem PySem.Spec PyProof.Rows
def valL (zs:List Str) (i:Nat):Key:=Sum.inr (zs.getD i (tx []))
set_option maxRecDepth 100000 in
set_option maxHeartbeats 4000000 in
theorem set_of_list {prog:Program}{w:World}{A:Around}{E:Value->Shared->Prop}{s:Shared}{l:Addr}{items:Array Value}{val:Nat->Key}{Q:Value->Shared->Prop} (hh:A.handled=none) (hl:s.heap.IsList l items)
    (hval:∀ (i:Nat) (v:Value),items[i]?=some v->keyIs (val i) v=true/\v.scannable=true) (hb:items.size + 1 < scanBound)
    (q:∀ (g:Heap) (tk:Nat),g.SetOf (mixKind prog w) s.heap.objs.size (fun x=>memK x (metK val items.size)) (metK val items.size).length->(∀ b o,b < s.heap.objs.size->s.heap.get? b=some o->g.get? b=some o) →
      Q (.ref s.heap.objs.size) { s with heap:=g,toks:=tk }):wpAny (model prog w) A (call (.type "set") [.ref l]) Q E s:=by
  obtain ⟨c,tl,hmro⟩:=F.called_set.mro
  have hmade:=F.called_set.made
  have hsub:=F.called_set.sub
  refine wpAny_call (codeAny_of_tree ?_)
  show wpAny _ _ (callAny (.type "set") _) _ _ _
  refine wpAny_pure ⟨Code.quiet_builtin _ (by decide +kernel),codeAny_builtin F.entry_type_call ?_⟩
  rw [Around.under_plain (weight_type_call_type "set" [.ref l] []) rfl]
  have h1:=F.called_set.notType
  have h2:=F.called_set.canCreate
  have hct:=F.typeCall_set_1 (.ref l)
  repeat (any_goals (first | assumption | wp_step))
  refine codeAny_mono (code_set_new_1 (.ref l) (E:=E) (Q₁:=fun ob s1=>∃ led:Bool,ob=.ref s.heap.objs.size/\s1={ s with heap:=s.heap.push { cls:=.type "set",dict:=none,data:=.set #[] 0 (.fresh 0 0 led) } }) fun led=>⟨led,rfl,rfl⟩) fun r s1 hr=>?_
  cases r with
  | error e=>exact hr
  | ok fl =>
    cases fl with
    | ret ob =>
      obtain ⟨led,rfl,rfl⟩:=hr
      generalize hg1:s.heap.push { cls:=.type "set",dict:=none,data:=.set #[] 0 (.fresh 0 0 led) }=g1
      have hS:g1.get? s.heap.objs.size=some { cls:=.type "set",dict:=none,data:=.set #[] 0 (.fresh 0 0 led) }:=by rw [← hg1];exact Heap.get?_push_size _ rfl
      have hsz:g1.objs.size=s.heap.objs.size + 1:=by rw [← hg1,Heap.size_push]
      have hkp:∀ b o,s.heap.get? b=some o->g1.get? b=some o:=fun b o e=>by rw [← hg1];exact Heap.get?_push_of_some _ e
      have hT:Shared.TypeIs { s with heap:=g1 } (.ref s.heap.objs.size) "set":=⟨_,hS,rfl⟩
      have hli:=F.called_set.init.lookup
      have hbi:=F.called_set.init.bind (.ref s.heap.objs.size)
      repeat (any_goals (first | assumption | wp_step))
      refine codeAny_mono (codeAny_call_builtin (R:=wants (fun r s2=>r=.none/\∃ g tk,s2={ s with heap:=g,toks:=tk }/\g.SetOf (mixKind prog w) s.heap.objs.size (fun x=>memK x (metK val items.size)) (metK val items.size).length ∧
          (∀ b o,b < s.heap.objs.size->s.heap.get? b=some o->g.get? b=some o)) E) F.called_set.init.plain F.entry_set_init (check_set_init_1 hT ?_)) fun r2 s2 hr2=>?_
      · obtain ⟨ol,hol,hcl,nl,hdl⟩:=id hl
        obtain ⟨ocls,odict,odata,oslots⟩:=ol
        simp only at hcl hdl
        subst hcl;subst hdl
        have hol':=hkp _ _ hol
        have hsls:=F.sub_list_set
        have hslf:=F.sub_list_frozenset
        have hne:(Value.type "list" == Value.type "dict")=false:=by decide
        have hl1:g1.IsList l items:=⟨_,hol',rfl,nl,rfl⟩
        have hh3:A.in1.in1.in1.handled=none:=by simp [hh]
        have hlS:l < s.heap.objs.size:=Heap.lt_size hol
        have hneI:l≠g1.objs.size:=by rw [hsz];exact Nat.ne_of_lt (Nat.lt_succ_of_lt hlS)
        have na:s.heap.objs.size ∉ [g1.objs.size,l]:=by
          simp only [List.mem_cons,List.not_mem_nil,or_false,not_or]
          exact ⟨by omega,Nat.ne_of_gt hlS⟩
        unfold Builtin.«set.__init__» noKeywords Builtin.Frozenset.updateFrom
        generalize hPI:pyIter=PI
        wp_walk
        subst hPI
        refine wpAny_pyIter_list hl1 ?_
        refine wpAny_bind (wpAny_runValue ?_)
        refine upd_loop ((Walks.list hh3 _ l hneI items).toS) s.heap.objs.size na val hval hb (items.size - 0) 0 _ (by omega) (Nat.zero_le _) ⟨⟨_,Heap.get?_push_size _ rfl,rfl,rfl⟩,(hl1.push _)⟩ ?_ fun s' mv x=>?_
        · letI:BEq Key:=instBEqOfDecidableEq
          exact setOf_eq ((PyProof.Rows.setObjOf_fresh (knd:=mixKind prog w) led).setOf (Heap.get?_push_of_some _ hS) (by unfold scanBound;omega)) (fun _=>rfl) rfl
        · obtain ⟨g,ge,d,tk,os⟩:=s'
          have eg:ge=s.gens:=mv.gens
          have ed:d=s.drawn:=mv.drawn
          have eo:os=s.os:=mv.os
          subst eg;subst ed;subst eo
          refine wpAny_pure ?_
          show wpAny _ _ (ret Value.none) _ _ _
          refine wpAny_pure ⟨rfl,g,tk,rfl,x,fun b o hb e=>mv.heap b o ?_ (Heap.get?_push_of_some _ (hkp b o e))⟩
          simp only [List.mem_cons,List.not_mem_nil,or_false,not_or]
          rw [hsz]
          exact ⟨Nat.ne_of_lt hb,Nat.ne_of_lt (Nat.lt_succ_of_lt hb)⟩
      · cases r2 with
        | error e=>exact hr2
        | ok fl2 =>
          cases fl2 with
          | ret v =>
            obtain ⟨rfl,g,tk,rfl,x1,x2⟩:=hr2
            repeat (any_goals (first | assumption | wp_step))
            exact q _ _ x1 x2
          | _=>exact hr2.elim
    | _=>exact hr.elim
def rSetN (K:PySem.W.Frag) (P:Program) (w:World):List V->Hp->VK->Prop:=fun vs H Q=>match vs with
  | [.ref a]=>∃ zs:List Str,SqL K H a (zs.map V.str)/\zs.length<=4000/\∀ p H',H p=none->Same H H'->H' p=some (setT P w p (metK (valL zs) zs.length))->Q (.ref p) H'
  | _=>False
theorem ev_rSetN {K:PySem.W.Frag}{P:Program}{w:World}{a:Addr}{H:Hp}{Q:VK}:rSetN K P w [.ref a] H Q=(∃ zs:List Str,SqL K H a (zs.map V.str)/\zs.length<=4000/\∀ p H',H p=none->Same H H'->H' p=some (setT P w p (metK (valL zs) zs.length))->Q (.ref p) H'):=propext Iff.rfl
theorem call_setNK {X:Cx}{K:PySem.W.Frag}{P:Program}{w:World} (hK:X.K=K) (hP:X.prog=P) (hw:X.w=w) (hc:X.calm=true):CallR X (.type "set") (rSetN K P w):=by
  subst hK hP hw
  intro pins s σ H xs us Q I r h
  match xs,h with
  | [.ref a],h =>
    obtain ⟨zs,h1,h2,h3⟩:=h
    obtain ⟨u,rfl,ru⟩:=vals1 r
    cases ru
    obtain ⟨vs,r1,p1,_⟩:=I.list h1
    have l1:=r1.length
    rw [List.length_map] at l1
    have hf:H s.heap.objs.size=none:=I.hok.fresh (Nat.le_refl _)
    have hs:vs.toArray.size=zs.length:=by rw [List.size_toArray];omega
    refine set_of_list (val:=valL zs) (I.ok.hd hc) p1.isList (fun i v e=>?_) (by rw [hs];unfold scanBound;omega) fun g tk x k=>?_
    · have e':vs[i]?=some v:=by simpa using e
      have hi:i < zs.length:=by have:=(List.getElem?_eq_some_iff.mp e').1;omega
      have ez:zs[i]?=some zs[i]:=List.getElem?_eq_getElem hi
      obtain ⟨u,hu,ru⟩:=r1.get (i:=i) (x:=V.str zs[i]) (by rw [List.getElem?_map,ez];rfl)
      rw [e'] at hu
      cases hu
      obtain ⟨t,rfl⟩:=ru
      have e1:zs.getD i (tx [])=zs[i]:=by rw [List.getD_eq_getElem?_getD,ez];rfl
      unfold valL
      rw [e1]
      exact ⟨keyIs_str _ _,rfl⟩
    · rw [hs] at x
      have kk:∀ b o,s.heap.get? b=some o->g.get? b=some o:=fun b o e=>k b o (Heap.lt_size e) e
      exact ⟨.ref s.heap.objs.size,upd H s.heap.objs.size (setT X.prog X.w s.heap.objs.size (metK (valL zs) zs.length)),I.laid (t':=tk) kk (Nat.le_refl _) (setT_ok x),rfl,h3 _ _ hf (same_upd hf) upd_same⟩
theorem met_nodupL (zs:List Str):(metK (valL zs) zs.length).length=zs.length ↔ zs.Nodup:=by
  rw [metK_full,List.nodup_iff_pairwise_ne,List.pairwise_iff_getElem]
  have hv:∀ i (h:i < zs.length),valL zs i=Sum.inr zs[i]:=fun i h=>by unfold valL;rw [List.getD_eq_getElem?_getD,List.getElem?_eq_getElem h];rfl
  constructor
  · intro h i j hi hj hij e
    have:=h i j hi hj (by rw [hv i hi,hv j hj,e])
    omega
  · intro h i j hi hj e
    rw [hv i hi,hv j hj] at e
    have e':zs[i]=zs[j]:=Sum.inr.inj e
    rcases Nat.lt_trichotomy i j with hl | hl | hl
    · exact absurd e' (h i j hi hj hl)
    · exact hl
    · exact absurd e'.symm (h j i hj hi hl)
def leafV:V->Bool
  | .ref _=>true
  | x=>flatV x
theorem eqV_refl:∀ {x:V},flatV x=true->eqV x x=true
  | .non,_=>rfl
  | .bl b,_=>by show (b == b)=true;simp
  | .int i,_=>by show (i == i)=true;simp
  | .str z,_=>by show (z == z)=true;simp
theorem eqAt_leaf {A:Around}{s:Shared}{x:V}{u v:Value} (ru:RelV x u) (rv:RelV x v) (h:leafV x=true):SeqAt.EqAt A s u v true:=by
  cases x with
  | ref a=>cases ru;cases rv;exact SeqAt.EqAt.same _
  | non=>have:=eqAt_V (A:=A) (s:=s) ru rv rfl rfl;rwa [eqV_refl rfl] at this
  | bl b=>have:=eqAt_V (A:=A) (s:=s) ru rv rfl rfl;rwa [eqV_refl rfl] at this
  | int b=>have:=eqAt_V (A:=A) (s:=s) ru rv rfl rfl;rwa [eqV_refl rfl] at this
  | str b=>have:=eqAt_V (A:=A) (s:=s) ru rv rfl rfl;rwa [eqV_refl rfl] at this
  | _=>cases h
theorem getD_vals {xs:List V}{us:List Value} (r:Vals xs us) {j:Nat} (h:j < us.toArray.size):∃ x,xs[j]?=some x/\RelV x us.toArray[j]:=by
  have l:=r.length
  rw [List.size_toArray] at h
  have e1:xs[j]?=some (xs[j]'(by omega)):=List.getElem?_eq_getElem _
  obtain ⟨u,hu,ru⟩:=r.get e1
  refine ⟨_,e1,?_⟩
  have:us.toArray[j]=u:=by
    have:=List.getElem?_eq_some_iff.mp hu
    simpa using this.2
  rw [this];exact ru
section
variable {X:Cx}
end
theorem lc_newT {J:It}{H1:Hp}{xs:List V}{js:List Nat}{σ:St}{tc:TT}{te:TE}{Q:VK} (hc:∀ σ H R,R true H->tc σ H R) (hJ:J.Seq H1 xs) (hl:xs.length < sizeLine) (G:HO->Prop) (hG:∀ ys,¬ G (.lst ys))
    (he:∀ x∈xs,∀ H,Same H1 H->∀ R:VK,(∀ p o H',Same H H'->H' p=some o->G o->R (.ref p) H')->te (some x::js.map fun j=>(σ[j]?).join) H R)
    (q:∀ D vs H,H1 D=none->Same H1 H->H D=some (.lst vs)->vs.length=xs.length->(∀ v∈vs,∃ p o,v=.ref p/\H p=some o/\G o)->Q (.ref D) H):LcTurns (gName 0) tc te (blkSt 1 js σ) J H1 Q:=by
  intro D hD
  refine ⟨fun i m ys σ1 H=>m=xs.length - i/\i<=xs.length/\(∃ o,σ1=o::js.map fun j=>(σ[j]?).join)/\ys.length=i/\(∀ v∈ys,∃ p o,v=.ref p/\H p=some o/\G o)/\Same H1 H/\H D=some (.lst ys),
    ⟨xs.length,by simp,Nat.zero_le _,⟨none,rfl⟩,rfl,(fun v hv=>nomatch hv),(Same.refl H1).upd_new hD,upd_same⟩,?_⟩
  rintro i m ys σ1 H ⟨rfl,hi,⟨o,rfl⟩,hy,hg,sH,hL⟩
  refine ⟨hL,by omega,?_⟩
  by_cases hlt:i < xs.length
  · have e:xs[i]?=some xs[i]:=List.getElem?_eq_getElem hlt
    obtain ⟨go,yl⟩:=(hJ H sH).1 i xs[i] e
    refine .inr ⟨go,fun x H' y=>?_⟩
    obtain ⟨e1,e2⟩:=yl x H' y
    subst e1 e2
    have hm:xs[i]∈xs:=List.getElem_mem hlt
    show tc (some xs[i]::js.map fun j=>(σ[j]?).join) H' _
    refine hc _ _ _ ?_
    rw [if_pos rfl]
    refine he xs[i] hm H' sH _ fun p o' H4 s4 hp hgo=>?_
    have hL4:=s4 _ _ hL
    have nD:∀ {b:Addr}{u:HO},H4 b=some u->G u->b≠D:=fun hb hu ee=>by
      subst ee;rw [hL4] at hb;cases hb;exact hG _ hu
    refine ⟨hL4,xs.length - (i + 1),by omega,rfl,hlt,⟨_,rfl⟩,by rw [List.length_append,hy];rfl,fun v hv=>?_,((sH.trans s4)).upd_new hD,upd_same⟩
    rcases List.mem_append.mp hv with hv | hv
    · obtain ⟨b,u,rfl,hb,hu⟩:=hg v hv
      have hb4:=s4 _ _ hb
      exact ⟨b,u,rfl,by rw [upd_ne (nD hb4 hu)];exact hb4,hu⟩
    · rw [List.mem_singleton.mp hv]
      exact ⟨p,o',rfl,by rw [upd_ne (nD hp hgo)];exact hp,hgo⟩
  · have e:i=xs.length:=by omega
    subst e
    exact .inl ⟨(hJ H sH).2 _ (Nat.le_refl _),q D ys H hD sH hL hy hg⟩
theorem lc_new {J:It}{H1:Hp}{xs:List V}{js:List Nat}{σ:St}{te:TE}{Q:VK} (hJ:J.Seq H1 xs) (hl:xs.length < sizeLine) (G:HO->Prop) (hG:∀ ys,¬ G (.lst ys))
    (he:∀ x∈xs,∀ H,Same H1 H->∀ R:VK,(∀ p o H',Same H H'->H' p=some o->G o->R (.ref p) H')->te (some x::js.map fun j=>(σ[j]?).join) H R)
    (q:∀ D vs H,H1 D=none->Same H1 H->H D=some (.lst vs)->vs.length=xs.length->(∀ v∈vs,∃ p o,v=.ref p/\H p=some o/\G o)->Q (.ref D) H):LcTurns (gName 0) tYes te (blkSt 1 js σ) J H1 Q :=
  lc_newT (fun _ _ _ h=>h) hJ hl G hG he q
theorem lc_enumF {K:PySem.W.Frag}{a:Addr}{H1:Hp}{xs:List V}{js:List Nat}{σ:St}{tc:TT}{te:TE}{Q:VK} (hx:SqL K H1 a xs) (hl:xs.length < sizeLine) (pr:Nat->Bool)
    (hc:∀ (i:Nat) x,xs[i]?=some x->∀ H,Same H1 H->∀ R:Bool->Hp->Prop,(∀ H',Same H H'->R (pr i) H')->tc (some (.int (i:Int))::some x::js.map fun j=>(σ[j]?).join) H R)
    (he:∀ (i:Nat) x,xs[i]?=some x->∀ H,Same H1 H->∀ R:VK,R x H->te (some (.int (i:Int))::some x::js.map fun j=>(σ[j]?).join) H R)
    (q:∀ D vs H,H1 D=none->Same H1 H->H D=some (.lst vs)->vs.Sublist xs->Q (.ref D) H):LcTurns (gTup K 2 (gCons (gName 0) (gCons (gName 1) gNil))) tc te (blkSt 2 js σ) (Ite K a) H1 Q:=by
  intro D hD
  refine ⟨fun i m ys σ1 H=>m=xs.length - i/\i<=xs.length/\(∃ o1 o2,σ1=o1::o2::js.map fun j=>(σ[j]?).join)/\ys.Sublist (xs.take i)/\Same H1 H/\H D=some (.lst ys),
    ⟨xs.length,by simp,Nat.zero_le _,⟨none,none,rfl⟩,by simp,(Same.refl H1).upd_new hD,upd_same⟩,?_⟩
  rintro i m ys σ1 H ⟨rfl,hi,⟨o1,o2,rfl⟩,hy,sH,hL⟩
  have hyl:=hy.length_le
  rw [List.length_take] at hyl
  refine ⟨hL,by omega,?_⟩
  by_cases hlt:i < xs.length
  · have e:xs[i]?=some xs[i]:=List.getElem?_eq_getElem hlt
    refine .inr ⟨⟨xs,xs[i],sH.seq hx,e⟩,fun v H' hyl=>?_⟩
    obtain ⟨x,p,hx',rfl,hp,rfl⟩:=hyl
    have ex:=hx' xs (sH.seq hx)
    have htk:xs.take (i + 1)=xs.take i++[x]:=by rw [List.take_add_one,ex];rfl
    have hpD:D≠p:=ne_of_none hL hp
    refine ⟨p,[.int (i:Int),x],rfl,SqT.of upd_same,rfl,.int (i:Int),[x],rfl,x,[],rfl,rfl,?_⟩
    show tc (some (.int (i:Int))::some x::js.map fun j=>(σ[j]?).join) _ _
    have s1:Same H1 (upd H p (.tup [.int (i:Int),x])):=sH.upd_new (sH.free hp)
    refine hc i x ex _ s1 _ fun H4 s4=>?_
    have hL4:H4 D=some (.lst ys):=s4 _ _ (by rw [upd_ne hpD];exact hL)
    cases hp:pr i with
    | false =>
      rw [if_neg Bool.false_ne_true]
      exact ⟨xs.length - (i + 1),by omega,rfl,hlt,⟨_,_,rfl⟩,by rw [htk];exact hy.trans (List.sublist_append_left _ _),s1.trans s4,hL4⟩
    | true =>
      rw [if_pos rfl]
      exact he i x ex H4 (s1.trans s4) _ ⟨hL4,xs.length - (i + 1),by omega,rfl,hlt,⟨_,_,rfl⟩,by rw [htk];exact hy.append (List.Sublist.refl _),(s1.trans s4).upd_new hD,upd_same⟩
  · have e:i=xs.length:=by omega
    subst e
    rw [List.take_length] at hy
    exact .inl ⟨⟨xs,sH.seq hx,Nat.le_refl _⟩,q D ys H hD sH hL hy⟩
end L2

namespace L2
section
variable {α:Type} [DecidableEq α]
abbrev Nk (α:Type):=α × Bool
structure Ent (α:Type) where
  key:Nk α
  d:Int
  par:Option (Nk α)
  t:Nat
def putE (fs:List (Ent α)) (e:Ent α):List (Ent α):=if fs.any (fun x=>x.key == e.key) then fs.map (fun x=>if x.key == e.key then e else x) else fs++[e]
theorem mem_putE {fs:List (Ent α)}{e x:Ent α}:x∈putE fs e ↔ x=e ∨ (x∈fs/\x.key≠e.key):=by
  unfold putE
  split
  · rename_i h
    obtain ⟨y,hy,hk⟩:=List.any_eq_true.mp h
    rw [List.mem_map]
    constructor
    · rintro ⟨z,hz,rfl⟩
      split
      · exact .inl rfl
      · rename_i hn
        exact .inr ⟨hz,fun q=>hn (by simp [q])⟩
    · rintro (rfl | ⟨hx,hn⟩)
      · exact ⟨y,hy,by rw [if_pos hk]⟩
      · exact ⟨x,hx,by rw [if_neg (by simpa using hn)]⟩
  · rename_i h
    have h':∀ y∈fs,y.key≠e.key:=fun y hy q=>h (List.any_eq_true.mpr ⟨y,hy,by simp [q]⟩)
    rw [List.mem_append,List.mem_singleton]
    constructor
    · rintro (hx | rfl)
      · exact .inr ⟨hx,h' x hx⟩
      · exact .inl rfl
    · rintro (rfl | ⟨hx,_⟩)
      · exact .inr rfl
      · exact .inl hx
theorem keys_putE (fs:List (Ent α)) (e:Ent α):(putE fs e).map Ent.key=fs.map Ent.key ∨ ((putE fs e).map Ent.key=fs.map Ent.key++[e.key]/\e.key ∉ fs.map Ent.key):=by
  unfold putE
  split
  · left
    rw [List.map_map]
    apply List.map_congr_left
    intro x _
    show (if x.key == e.key then e else x).key=x.key
    split
    · rename_i h;exact (eq_of_beq h).symm
    · rfl
  · rename_i h
    right
    refine ⟨by simp,fun q=>?_⟩
    obtain ⟨y,hy,hk⟩:=List.mem_map.mp q
    exact h (List.any_eq_true.mpr ⟨y,hy,by simp [hk]⟩)
theorem nodup_putE {fs:List (Ent α)}{e:Ent α} (h:(fs.map Ent.key).Nodup):((putE fs e).map Ent.key).Nodup:=by
  rcases keys_putE fs e with q | ⟨q,n⟩
  · rw [q];exact h
  · rw [q,List.nodup_append]
    exact ⟨h,by simp,fun a ha b hb=>by rw [List.mem_singleton.mp hb];exact fun z=>n (z ▸ ha)⟩
theorem nodup_len {β:Type} [DecidableEq β]:∀ (U l:List β),l.Nodup->(∀ x∈l,x∈U)->l.length<=U.length
  | [],l,_,h=>by
    cases l with
    | nil=>exact Nat.le_refl _
    | cons x r=>cases h x (by simp)
  | u::U,l,hn,h=>by
    have h2:∀ x∈l.erase u,x∈U:=fun x hx=>by
      rcases List.mem_cons.mp (h x (List.mem_of_mem_erase hx)) with q | q
      · subst q;exact absurd hx (List.Nodup.not_mem_erase hn)
      · exact q
    have:=nodup_len U (l.erase u) (hn.erase u) h2
    have h3:=List.length_erase (a:=u) (l:=l)
    rw [List.length_cons]
    by_cases hu:u∈l
    · rw [if_pos hu] at h3;omega
    · rw [if_neg hu] at h3;omega
structure Dij (St:Nk α->List (Nk α × Int)) (C:Nk α->Nk α × Int->Prop) (u0:Nk α) (fs ss:List (Ent α)):Prop where
  nf:(fs.map Ent.key).Nodup
  sub:∀ e∈ss,e∈fs
  ns:(ss.map Ent.key).Nodup
  st:∃ e∈fs,e.key=u0/\e.d=0
  nn:∀ e∈fs,0<=e.d
  cl:∀ e∈ss,∀ p,C e.key p->∃ e'∈fs,e'.key=p.1/\e'.d<=e.d + p.2
  pa:∀ e∈fs,(e.par=none/\e.key=u0/\e.d=0) ∨ ∃ u∈ss,∃ c,e.par=some u.key/\(e.key,c)∈St u.key/\e.d=u.d + c
  od:∀ e∈ss,∀ e'∈fs,e' ∉ ss->e.d<=e'.d
  rk:∀ pre e post,ss=pre++e::post->(e.par=none/\e.key=u0/\e.d=0) ∨ ∃ u∈pre,∃ c,e.par=some u.key/\(e.key,c)∈St u.key/\e.d=u.d + c
theorem key_inj {fs:List (Ent α)} (h:(fs.map Ent.key).Nodup) {x y:Ent α} (hx:x∈fs) (hy:y∈fs) (e:x.key=y.key):x=y:=by
  induction fs with
  | nil=>cases hx
  | cons z r ih =>
    rw [List.map_cons,List.nodup_cons] at h
    rcases List.mem_cons.mp hx with rfl | hx
    · rcases List.mem_cons.mp hy with rfl | hy
      · rfl
      · exact absurd (List.mem_map.mpr ⟨y,hy,e.symm⟩) h.1
    · rcases List.mem_cons.mp hy with q | hy
      · exact absurd (List.mem_map.mpr ⟨x,hx,by rw [← q];exact e⟩) h.1
      · exact ih h.2 hx hy
theorem Dij.start (St:Nk α->List (Nk α × Int)) (C:Nk α->Nk α × Int->Prop) (u0:Nk α) (t:Nat):Dij St C u0 [⟨u0,0,none,t⟩] [] where
  nf:=by simp
  sub:=fun e h=>by cases h
  ns:=by simp
  st:=⟨⟨u0,0,none,t⟩,by simp,rfl,rfl⟩
  nn:=fun e h=>by rw [List.mem_singleton.mp h];exact Int.le_refl 0
  cl:=fun e h=>by cases h
  pa:=fun e h=>by rw [List.mem_singleton.mp h];exact .inl ⟨rfl,rfl,rfl⟩
  od:=fun e h=>by cases h
  rk:=fun pre e post h=>by
    have:=congrArg List.length h
    simp at this
theorem Dij.settle {St:Nk α->List (Nk α × Int)}{C:Nk α->Nk α × Int->Prop}{u0:Nk α}{fs ss:List (Ent α)} (D:Dij St C u0 fs ss) {e:Ent α} (he:e∈fs) (hn:e ∉ ss) (hm:∀ x∈fs,x ∉ ss->e.d<=x.d) :
    Dij St (fun k p=>C k p/\k≠e.key) u0 fs (ss++[e])/\(∀ x∈ss++[e],x.d<=e.d)/\e.key ∉ ss.map Ent.key:=by
  have hk:e.key ∉ ss.map Ent.key:=fun q=>by
    obtain ⟨y,hy,hyk⟩:=List.mem_map.mp q
    exact hn (key_inj D.nf (D.sub y hy) he hyk ▸ hy)
  have mem:∀ x,x∈ss++[e] ↔ x∈ss ∨ x=e:=fun x=>by rw [List.mem_append,List.mem_singleton]
  refine ⟨⟨D.nf,fun x hx=>?_,?_,D.st,D.nn,fun x hx p hp=>?_,fun x hx=>?_,fun x hx y hy hyn=>?_,fun pre x post q=>?_⟩,fun x hx=>?_,hk⟩
  · rcases (mem x).mp hx with h | rfl
    · exact D.sub x h
    · exact he
  · rw [List.map_append,List.nodup_append]
    exact ⟨D.ns,by simp,fun a ha b hb=>by rw [List.mem_singleton.mp hb];exact fun z=>hk (z ▸ ha)⟩
  · rcases (mem x).mp hx with h | rfl
    · exact D.cl x h p hp.1
    · exact absurd rfl hp.2
  · rcases D.pa x hx with h | ⟨u,hu,c,h⟩
    · exact .inl h
    · exact .inr ⟨u,(mem u).mpr (.inl hu),c,h⟩
  · have hyn':y ∉ ss:=fun h=>hyn ((mem y).mpr (.inl h))
    rcases (mem x).mp hx with h | rfl
    · exact D.od x h y hy hyn'
    · exact hm y hy hyn'
  · rcases List.append_eq_append_iff.mp q with ⟨as,h1,h2⟩ | ⟨bs,h1,h2⟩
    · -- pre=ss++as,[e]=as++x::post
      cases as with
      | nil =>
        rw [List.nil_append] at h2
        rw [List.append_nil] at h1
        have h3:=List.cons.inj h2
        subst h1
        rw [← h3.1]
        exact D.pa e he
      | cons a r =>
        have:=congrArg List.length h2
        simp at this
    · -- ss=pre++bs,x::post=bs++[e]
      cases bs with
      | nil =>
        rw [List.nil_append] at h2
        rw [List.append_nil] at h1
        have h3:=List.cons.inj h2
        subst h1
        rw [h3.1]
        exact D.pa e he
      | cons a r =>
        have h3:=List.cons.inj h2
        exact D.rk pre x r (by rw [h1,h3.1])
  · rcases (mem x).mp hx with h | rfl
    · exact D.od x h e he hn
    · exact Int.le_refl _
theorem Dij.pass {St:Nk α->List (Nk α × Int)}{C:Nk α->Nk α × Int->Prop}{u0:Nk α}{fs ss:List (Ent α)} (D:Dij St C u0 fs ss) {e:Ent α} (he:e∈ss) {q:Nk α × Int}{e':Ent α} (h':e'∈fs) (hk:e'.key=q.1) (hd:e'.d<=e.d + q.2) :
    Dij St (fun k p=>C k p ∨ (k=e.key/\p=q)) u0 fs ss :=
  ⟨D.nf,D.sub,D.ns,D.st,D.nn,fun x hx p hp=>by
    rcases hp with hp | ⟨h1,rfl⟩
    · exact D.cl x hx p hp
    · have z:x=e:=key_inj D.nf (D.sub x hx) (D.sub e he) h1
      subst z
      exact ⟨e',h',hk,hd⟩,D.pa,D.od,D.rk⟩
theorem Dij.put {St:Nk α->List (Nk α × Int)}{C:Nk α->Nk α × Int->Prop}{u0:Nk α}{fs ss:List (Ent α)} (D:Dij St C u0 fs ss) {e:Ent α} (he:e∈ss) (hm:∀ x∈ss,x.d<=e.d) {q:Nk α × Int} (hq:q∈St e.key) (hc:0<=q.2)
    (hl:∀ x∈fs,x.key=q.1->e.d + q.2 < x.d) (t:Nat):Dij St (fun k p=>C k p ∨ (k=e.key/\p=q)) u0 (putE fs ⟨q.1,e.d + q.2,some e.key,t⟩) ss:=by
  have hns:∀ x∈ss,x.key≠q.1:=fun x hx hk=>by
    have h1:=hl x (D.sub x hx) hk
    have h2:=hm x hx
    omega
  have h0:=D.nn e (D.sub e he)
  refine ⟨nodup_putE D.nf,fun x hx=>mem_putE.mpr (.inr ⟨D.sub x hx,hns x hx⟩),D.ns,?_,fun x hx=>?_,fun x hx p hp=>?_,fun x hx=>?_,fun x hx y hy hyn=>?_,D.rk⟩
  · obtain ⟨x,hx,hk,hd⟩:=D.st
    refine ⟨x,mem_putE.mpr (.inr ⟨hx,fun z=>?_⟩),hk,hd⟩
    have:=hl x hx z
    omega
  · rcases mem_putE.mp hx with rfl | ⟨h,_⟩
    · show 0<=e.d + q.2;omega
    · exact D.nn x h
  · rcases hp with hp | ⟨h1,rfl⟩
    · obtain ⟨y,hy,hyk,hyd⟩:=D.cl x hx p hp
      by_cases z:y.key=q.1
      · refine ⟨_,mem_putE.mpr (.inl rfl),?_,?_⟩
        · show q.1=p.1;rw [← z,hyk]
        · show e.d + q.2<=_
          have:=hl y hy z
          omega
      · exact ⟨y,mem_putE.mpr (.inr ⟨hy,z⟩),hyk,hyd⟩
    · have:x=e:=key_inj D.nf (D.sub x hx) (D.sub e he) h1
      subst this
      exact ⟨_,mem_putE.mpr (.inl rfl),rfl,Int.le_refl _⟩
  · rcases mem_putE.mp hx with rfl | ⟨h,_⟩
    · exact .inr ⟨e,he,q.2,rfl,hq,rfl⟩
    · exact D.pa x h
  · rcases mem_putE.mp hy with rfl | ⟨h,_⟩
    · have:=hm x hx
      show x.d<=e.d + q.2;omega
    · exact D.od x hx y h hyn
theorem Dij.imp {St:Nk α->List (Nk α × Int)}{C C':Nk α->Nk α × Int->Prop}{u0:Nk α}{fs ss:List (Ent α)} (D:Dij St C u0 fs ss) (h:∀ k p,C' k p->C k p):Dij St C' u0 fs ss :=
  ⟨D.nf,D.sub,D.ns,D.st,D.nn,fun x hx p hp=>D.cl x hx p (h _ _ hp),D.pa,D.od,D.rk⟩
inductive Wk (St:Nk α->List (Nk α × Int)) (u:Nk α):Nk α->Int->Prop
  | nil:Wk St u u 0
  | snoc {v x:Nk α}{w c:Int}:Wk St u v w->(x,c)∈St v->Wk St u x (w + c)
theorem Wk.mono {St St':Nk α->List (Nk α × Int)}{u v:Nk α}{w:Int} (h:∀ k p,p∈St k->p∈St' k) (x:Wk St u v w):Wk St' u v w:=by
  induction x with
  | nil=>exact .nil
  | snoc _ m ih=>exact ih.snoc (h _ _ m)
theorem Wk.cons {St:Nk α->List (Nk α × Int)}{u v y:Nk α}{w c:Int} (m:(v,c)∈St u) (x:Wk St v y w):Wk St u y (c + w):=by
  induction x with
  | nil =>
    have:=Wk.snoc (Wk.nil (St:=St) (u:=u)) m
    rw [Int.zero_add] at this
    rw [Int.add_zero];exact this
  | snoc _ m2 ih =>
    have:=ih.snoc m2
    rw [Int.add_assoc] at this;exact this
theorem Wk.symm {St:Nk α->List (Nk α × Int)}{u v:Nk α}{w:Int} (h:∀ k x c,(x,c)∈St k->(k,c)∈St x) (x:Wk St u v w):Wk St v u w:=by
  induction x with
  | nil=>exact .nil
  | snoc _ m ih=>rw [Int.add_comm];exact Wk.cons (h _ _ _ m) ih
structure Sett (St:Nk α->List (Nk α × Int)) (u0:Nk α) (ss:List (Ent α)):Prop where
  ns:(ss.map Ent.key).Nodup
  le:∀ v w,Wk St u0 v w->∃ e∈ss,e.key=v/\e.d<=w
  wk:∀ e∈ss,Wk St u0 e.key e.d
  rk:∀ pre e post,ss=pre++e::post->(e.par=none/\e.key=u0/\e.d=0) ∨ ∃ u∈pre,∃ c,e.par=some u.key/\(e.key,c)∈St u.key/\e.d=u.d + c
theorem wk_pre {St:Nk α->List (Nk α × Int)}{u0:Nk α}:∀ (n:Nat) (ss:List (Ent α)),ss.length=n →
    (∀ pre e post,ss=pre++e::post->(e.par=none/\e.key=u0/\e.d=0) ∨ ∃ u∈pre,∃ c,e.par=some u.key/\(e.key,c)∈St u.key/\e.d=u.d + c)->∀ e∈ss,Wk St u0 e.key e.d
  | 0,ss,hl,_,e,he=>by rw [List.length_eq_zero_iff.mp hl] at he;cases he
  | n + 1,ss,hl,h,e,he=>by
    obtain ⟨pre,post,q⟩:=List.append_of_mem he
    rcases h pre e post q with ⟨_,hk,hd⟩ | ⟨u,hu,c,_,hm,hd⟩
    · rw [hk,hd];exact .nil
    · have lp:pre.length<=n:=by
        have:=congrArg List.length q
        simp at this
        omega
      have ih:∀ e∈pre,Wk St u0 e.key e.d:=wk_pre_le pre.length n lp pre rfl fun p1 e1 p2 q1=>h p1 e1 (p2++e::post) (by rw [q,q1];simp)
      rw [hd]
      exact (ih u hu).snoc hm
where
  wk_pre_le (m n:Nat) (hmn:m<=n) (ss:List (Ent α)) (hl:ss.length=m) (h:∀ pre e post,ss=pre++e::post->(e.par=none/\e.key=u0/\e.d=0) ∨ ∃ u∈pre,∃ c,e.par=some u.key/\(e.key,c)∈St u.key/\e.d=u.d + c):∀ e∈ss,Wk St u0 e.key e.d :=
    wk_pre m ss hl h
theorem Dij.done {St:Nk α->List (Nk α × Int)}{u0:Nk α}{fs ss:List (Ent α)} (D:Dij St (fun k p=>p∈St k) u0 fs ss) (h:∀ e∈fs,e∈ss):Sett St u0 ss:=by
  refine ⟨D.ns,fun v w x=>?_,fun e he=>wk_pre ss.length ss rfl D.rk e he,D.rk⟩
  induction x with
  | nil =>
    obtain ⟨e,he,hk,hd⟩:=D.st
    exact ⟨e,h e he,hk,by omega⟩
  | @snoc v x w c _ m ih =>
    obtain ⟨e,he,hk,hd⟩:=ih
    obtain ⟨e',he',hk',hd'⟩:=D.cl e he (x,c) (by rw [hk];exact m)
    exact ⟨e',h e' he',hk',by have:(x,c).2=c:=rfl;omega⟩
structure Ln (α:Type) where
  a:α
  b:α
  p:Option Int
  c:Option Int
def Ln.cost (l:Ln α) (f:Bool):Option Int:=if f then l.c else l.p
def stepL (z:α) (f:Bool) (m:Int) (l:Ln α):Option (Nk α × Int):=match l.cost f with
  | none=>none
  | some x=>if z=l.a then some ((l.b,f),x * m) else if z=l.b then some ((l.a,f),x * m) else none
def mulF (p g:Int) (f:Bool):Int:=if f then g else p
def stN (bs:List α) (ls:List (Ln α)) (p g:Int) (u:Nk α):List (Nk α × Int):=(if u.1∈bs then [((u.1,!u.2),0)] else [])++ls.filterMap (stepL u.1 u.2 (mulF p g u.2))
theorem mem_stN {bs:List α}{ls:List (Ln α)}{p g:Int}{u:Nk α}{q:Nk α × Int}:q∈stN bs ls p g u ↔ (u.1∈bs/\q=((u.1,!u.2),0)) ∨ ∃ l∈ls,stepL u.1 u.2 (mulF p g u.2) l=some q:=by
  unfold stN
  rw [List.mem_append,List.mem_filterMap]
  by_cases h:u.1∈bs
  · rw [if_pos h,List.mem_singleton]
    exact ⟨fun x=>x.imp (fun y=>⟨h,y⟩) id,fun x=>x.imp (fun y=>y.2) id⟩
  · rw [if_neg h]
    exact ⟨fun x=>x.imp (fun y=>nomatch y) id,fun x=>x.imp (fun y=>absurd y.1 h) id⟩
theorem stepL_some {z:α}{f:Bool}{m:Int}{l:Ln α}{q:Nk α × Int} (h:stepL z f m l=some q):∃ x,l.cost f=some x/\q.2=x * m/\((z=l.a/\q.1=(l.b,f)) ∨ (z=l.b/\q.1=(l.a,f))):=by
  unfold stepL at h
  split at h
  · cases h
  · rename_i x hx
    split at h
    · rename_i hz
      cases h
      exact ⟨x,hx,rfl,.inl ⟨hz,rfl⟩⟩
    · split at h
      · rename_i hz
        cases h
        exact ⟨x,hx,rfl,.inr ⟨hz,rfl⟩⟩
      · cases h
def Up (x:Option Int) (w:Int):Prop:=∃ a,x=some a/\a<=w
theorem Up.mono {x:Option Int}{w w':Int} (h:Up x w) (l:w<=w'):Up x w':=by obtain ⟨a,e,q⟩:=h;exact ⟨a,e,by omega⟩
section
variable {zs bs:List α}{ls:List (Ln α)}{p g:Int}
end
end
end L2

namespace L2
open PySem PySem.Spec PyProof.Rows
abbrev tabO (q:Str):HO:=.tbl #[.str q 0]
section
variable {X:Cx}{pins:List (Addr × Obj)}{σ:St}{H:Hp}{s:Shared}
theorem tab_of {P:Addr}{q:Str} (I:Inv X pins σ H s) (e:H P=some (tabO q)):∃ qs:Array Value,s.heap.get? P=some { cls:=.none,data:=.fields qs }/\TriplesOk qs.toList ∧
    ∀ pos c,codeAmong pos qs.toList=some c->∃ c' oc vs t,c=.ref c'/\H c'=some (.frz oc (.own P))/\s.heap.get? c'=some oc/\oc.data=.fields vs/\vs[1]?=some (.str q t):=by
  obtain ⟨qs,h1,h2,h3⟩:=(show ObjOk X.prog X.w H s.heap P (tabO q) from I.hok P _ e)
  refine ⟨qs,h1,h2,fun pos c z=>?_⟩
  obtain ⟨c',oc,vs,t,q',a1,a2,a4,a5,a6⟩:=h3 pos c z
  have a7:q=q':=by
    have:=congrArg Array.toList a6
    simp at this
    exact this
  subst a7
  exact ⟨c',oc,vs,t,a1,a2,(I.hok c' _ a2).1,a4,a5⟩
theorem Inv.tabled {P c':Addr}{q:Str}{h':Heap}{ps more:Array Value}{tk:Nat}{oc:Obj}{vs:Array Value}{tq:Tok} (I:Inv X pins σ H s) (e:H P=some (tabO q)) (hx:∀ b o,b≠P->s.heap.get? b=some o->h'.get? b=some o) (hc:s.heap.objs.size<=c')
    (h1:h'.get? P=some { cls:=.none,data:=.fields more }) (h2:TriplesOk more.toList) (h3:∀ pos c,codeAmong pos more.toList=some c->codeAmong pos ps.toList=some c ∨ c=.ref c') (h0:s.heap.get? P=some { cls:=.none,data:=.fields ps })
    (c1:h'.get? c'=some oc) (c2:oc.data=.fields vs) (c3:vs[1]?=some (.str q tq)):Inv X pins σ (upd H c' (.frz oc (.own P))) { s with heap:=h',toks:=tk }:=by
  have hn:=I.hok.fresh hc
  have nP:∀ b,H b=none->b≠P:=fun b hb z=>by rw [z,e] at hb;cases hb
  have lt:∀ b o,s.heap.get? b=some o->b≠c':=fun b o z=>Nat.ne_of_lt (Nat.lt_of_lt_of_le (Heap.lt_size z) hc)
  obtain ⟨qs,g1,g2,g3⟩:=tab_of I e
  have eq:qs=ps:=by
    rw [h0] at g1
    have:=Option.some.inj g1
    injection this with _ _ z
    injection z with z
    exact z.symm
  subst eq
  refine I.un ⟨fun b o z n _ _=>hx b o (nP b n) z,fun b o z n _ _=>⟨o.slots,hx b o (nP b n) z⟩,fun b o z n _=>by rw [upd_ne (lt b o z)];exact n,fun b o z _=>?_,fun b xs z=>by rw [upd_ne (ne_of_none z hn)];exact z,fun b u xs z=>by rw [upd_ne (ne_of_none z hn)];exact z,
    fun b xs z=>⟨#[],by rw [upd_ne (ne_of_none z hn),z];simp⟩⟩ fun b u z=>?_
  · by_cases hb:b=P
    · rw [hb];exact ⟨_,h1⟩
    · exact ⟨o,hx b o hb z⟩
  · by_cases hb:b=c'
    · subst hb
      rw [upd_same] at z;cases z
      exact ⟨c1,_,c1⟩
    · rw [upd_ne hb] at z
      by_cases hp:b=P
      · subst hp
        rw [e] at z;cases z
        refine ⟨more,h1,h2,fun pos c w=>?_⟩
        rcases h3 pos c w with w | rfl
        · obtain ⟨c2',oc2,vs2,t2,a1,a2,a3,a4,a5⟩:=g3 pos c w
          exact ⟨c2',oc2,vs2,t2,q,a1,by rw [upd_ne (ne_of_none a2 hn)];exact a2,a4,a5,rfl⟩
        · exact ⟨c',oc,vs,tq,q,rfl,upd_same,c2,c3,rfl⟩
      · refine (I.hok b u z).stay (fun c v hc2 w=>hx c v ?_ w) (fun c w=>by rw [upd_ne (ne_of_none w hn)];exact w) fun c xs w=>by rw [upd_ne (ne_of_none w hn)];exact w
        rcases hc2 with rfl | w2
        · exact hp
        · exact ne_of w2 e (by intro z;cases z)
end
theorem among_snoc {pos p2:Pos}{c:Value}:∀ (l:List Value),TriplesOk l->∀ x,codeAmong pos (l++[rawInt p2.line,rawInt p2.col,c])=some x->codeAmong pos l=some x ∨ x=c:=by
  intro l h
  fun_induction TriplesOk l with
  | case1 =>
    intro x e
    simp only [List.nil_append,codeAmong,rawInt] at e
    split at e
    · exact .inr (Option.some.inj e).symm
    · cases e
  | case2 a t b u y rest ih =>
    intro x e
    simp only [List.cons_append,codeAmong] at e ⊢
    split at e
    · rename_i hc
      rw [if_pos hc];exact .inl e
    · rename_i hc
      rw [if_neg hc];exact ih h x e
  | case3=>exact h.elim
section
variable {X:Cx}{pins:List (Addr × Obj)}{σ:St}{H:Hp}{s:Shared}{a:Addr}{y v:V}{u:Value}{A:Around}{E:Value->Shared->Prop}
theorem d_getItemK {Q:Value->Shared->Prop} (hu:A.units + 1 < cLine) (I:Inv X pins σ H s) (g:DGet H a y (some v)) (ry:RelV y u) (h:∀ w' t,RelV v w'->Q w' { s with toks:=t }) :
    wpAny (model X.prog X.w) A (getItem (.ref a) u) Q E s:=by
  rcases g with ⟨kvs,k,e,ey,l⟩ | ⟨kvs,k,b,e,ey,eb,l⟩
  · subst ey
    obtain ⟨z,hd,vs,rel,dd⟩:=dk_rd I.hok e
    obtain ⟨w',hw,rw'⟩:=RelO.some_of (v:=v) (o:=valueAt vs k) (by rw [l];exact rel.val k)
    exact wpAny_getItem_of (kV_is ry) dd.mapOf hw (h w' _ rw')
  · subst ey
    cases (show u=Value.ref b from ry)
    obtain ⟨z,hd,xs,rel,dd⟩:=dt_rd I.hok e
    obtain ⟨w',hw,rw'⟩:=RelO.some_of (v:=v) (o:=(atKey xs k).map (·.2)) (by rw [l];exact rel.val k)
    obtain ⟨p,hp,hp2⟩:=Option.map_eq_some_iff.mp hw
    refine wpAny_getItem_heap (tupleKind_room_in1 hu) (key_of I.hok eb) dd hp ?_
    rw [hp2]
    exact h w' _ rw'
end
section
variable {X:Cx}{pins:List (Addr × Obj)}{σ:St}{H:Hp}{s:Shared}
abbrev lamO (X:Cx) (q:Str) (params:Arguments) (body:Expr) (scope:Scope) (cl:List (Str × Addr)) (cd ctv:Value):Obj :=
  { cls:=.type "function",data:=.func (PySem.W.kla_fn "<lambda>" q params body scope cl ((X.mg "__name__").getD .none) cd ctv) }
def CodAt (H:Hp) (P:Addr) (q:Str) (c':Addr):Prop:=∃ oc vs t,H c'=some (.frz oc (.own P))/\oc.data=.fields vs/\vs[1]?=some (.str q t)
theorem CodAt.same {H H':Hp}{P c':Addr}{q:Str} (h:CodAt H P q c') (s:Same H H'):CodAt H' P q c':=by
  obtain ⟨oc,vs,t,h1,h2⟩:=h
  exact ⟨oc,vs,t,s _ _ h1,h2⟩
theorem lam_make {A:Around}{E:Value->Shared->Prop}{Q:Value->Shared->Prop}{P c:Addr}{q:Str}{params:Arguments}{body:Expr}{scope:Scope}{lpos:Pos}{cl:List (Str × Addr)} (I:Inv X pins σ H s) (e:H P=some (tabO q))
    (hcd:X.env.code=.ref c) (hC:PySem.W.codeHdIn X.K c P=true) (hq:X.env.qual++"<lambda>"=q) (hd:defaultsOf params X.env=([],[])) (hcl:clo X.env.cells scope.names []=some cl)
    (k:∀ f c' ctv H' s',Inv X pins σ H' s'->Same H H'->s'.heap.get? f=some (lamO X q params body scope cl (.ref c') ctv)->s'.heap.CodeRec (.ref c') q->s.heap.objs.size<=f->H' f=none->CodAt H' P q c'->Q (.ref f) s') :
    wpAny (model X.prog X.w) A (eval (.Lambda params body scope lpos) X.env) Q E s:=by
  refine PySem.W.kla_eval hd ?_
  rw [hq]
  have C:=PySem.W.codeHd_of_K I.kIn hC
  obtain ⟨qs,g1,g2,g3⟩:=tab_of I e
  have hg:=I.mod.glob.keeps I.bk
  obtain ⟨bm,ob,b1,b2,b3,b4,b5,b6⟩:=I.mod.bmn
  have hgP:mainGlobals≠P:=fun z=>by
    obtain ⟨o,es,ep,w1,w2,_⟩:=I.mod.glob
    have:=(I.bs _ _ w1).2
    rw [z,e] at this;cases this
  have hbP:bm≠P:=fun z=>by
    have:=(I.bs _ _ b3).2
    rw [z,e] at this;cases this
  have hbG:bm≠mainGlobals:=fun z=>by
    obtain ⟨o,es,ep,w1,w2,_⟩:=I.mod.glob
    rw [z,w1] at b3;cases b3;rw [w2] at b6;cases b6
  have hb:s.heap.BuiltinsAt X.mg P:=⟨bm,ob,b1,b2,hbG,hbP,I.bk _ _ b3,b4,b5,b6⟩
  have hcl':=closureFor_clo hcl
  cases hf:codeAmong lpos qs.toList with
  | none =>
    refine PySem.W.kla_makeFunction (mg:=X.mg) hcl' I.ok.glob hg hcd C g1 g2 hf hgP hb fun c' ctv h' tk hx hge hlt hrec htb=>?_
    obtain ⟨c2,oc,vs,t,z1,z2,z3,z4⟩:=id hrec
    cases z1
    have I1:Inv X pins σ (upd H c' (.frz oc (.own P))) { s with heap:=h',toks:=tk }:=I.tabled (ps:=qs) e (fun b o hb z=>hx b o hb z) hge htb (by simpa using TriplesOk_snoc _ _ _ _ g2) (fun pos x z=>among_snoc qs.toList g2 x (by simpa using z)) g1 z2 z3 z4
    have hn:=I.hok.fresh hge
    have kp:∀ b o,h'.get? b=some o->(h'.push (PySem.W.kla_obj "<lambda>" q params body scope cl ((X.mg "__name__").getD .none) c' ctv)).get? b=some o:=fun b o z=>Heap.get?_push_of_some _ z
    refine k h'.objs.size c' ctv _ _ (I1.kept (t':=tk) kp) (same_upd hn) (Heap.get?_push_size _ rfl) ⟨c',oc,vs,t,rfl,kp _ _ z2,z3,z4⟩ (Nat.le_of_lt (Nat.lt_of_le_of_lt hge hlt)) ?_ ?_
    · exact I1.hok.fresh (Nat.le_refl _)
    · exact ⟨oc,vs,t,upd_same,z3,z4⟩
  | some cv =>
    obtain ⟨c',oc,vs,t,a1,a2,a3,a4,a5⟩:=g3 lpos cv hf
    subst a1
    refine PySem.W.kla_makeFunctionHit (mg:=X.mg) hcl' I.ok.glob hg hcd C g1 g2 hf hb fun ctv h' tk hx hsz=>?_
    have kp:∀ b o,s.heap.get? b=some o->(h'.push { cls:=.type "function",data:=.func (PySem.W.kla_fn "<lambda>" q params body scope cl ((X.mg "__name__").getD .none) (.ref c') ctv) }).get? b=some o:=fun b o z=>Heap.get?_push_of_some _ (hx b o z)
    refine k h'.objs.size c' ctv _ _ (I.kept (t':=tk) kp) (Same.refl _) (Heap.get?_push_size _ rfl) ⟨c',oc,vs,t,rfl,kp _ _ a3,a4,a5⟩ hsz ?_ ⟨oc,vs,t,a2,a4,a5⟩
    exact I.hok.fresh hsz
theorem lam_call {A:Around}{R:Value->Shared->Prop}{E:Value->Shared->Prop}{q x n:Str}{params:Arguments}{scope:Scope}{cl:List (Str × Addr)}{p1 p2 p3 p4 p5:Pos}{j1:Nat}{f c' a b t cx:Addr}{ctv:Value}{ys:List V}{i:Int}
    (I:Inv X pins σ H s) (hu:A.units + 64 < cLine) (hr:A.depth + 3 < recursionLimit)
    (hf:s.heap.get? f=some (lamO X q params (.Subscript (.Subscript (.Name n p1) (.Name x p2) p3) (.Constant (.int 0) j1 p4) p5) scope cl (.ref c') ctv)) (hc:s.heap.CodeRec (.ref c') q)
    (hbind:∀ (pm ct u:Value),bindArgs (PySem.W.kla_fn "<lambda>" q params (.Subscript (.Subscript (.Name n p1) (.Name x p2) p3) (.Constant (.int 0) j1 p4) p5) scope cl pm (.ref c') ct) ⟨[u],[]⟩=pure [(x,u)])
    (hco:scope.isCoroutine=false) (hgen:scope.isGenerator=false) (hk:scope.kind=.function) (hcell:∀ y∈scope.names,y.2≠.cell) (hx:scope.names.lookup x=some .local) (hn:scope.names.lookup n=some .free) (hcx:cl.lookup n=some cx) (hcc:s.heap.IsCell cx (some (.ref a)))
    (hg:DGet H a (.ref b) (some (.ref t))) (ht:H t=some (.tup (.int i::ys))) (hd1:(x == ("__debug__":Str))=false) (hd2:(n == ("__debug__":Str))=false) (hd3:(n == ("__classdict__":Str))=false)
    (k:∀ tk s',Inv X pins σ H s'->(∀ b o,s.heap.get? b=some o->s'.heap.get? b=some o)->R (.int i tk) s'):wpAny (model X.prog X.w) A (call (.ref f) [.ref b]) R E s:=by
  refine wpAny_call (PySem.W.kla_callFunE (by omega) hf rfl hco hgen rfl hc ?_)
  rw [hbind]
  refine wpAny_pure (wpAny_newFunctionEnv hcell (fun y hy=>by rw [List.mem_singleton.mp hy];exact hx) (fun h₁ hns hsb=>⟨(I.nolimit).fresh _ hsb,?_⟩) hk)
  show codeAny _ _ (.expr _ (PySem.W.envX q scope s.heap.objs.size f (.ref c') cl)) _ _
  have k1:∀ b o,s.heap.get? b=some o->h₁.get? b=some o:=fun b o z=>hsb.extBut b o (Nat.ne_of_lt (Heap.lt_size z)) (Heap.get?_push_of_some _ z)
  have I1:Inv X pins σ H { s with heap:=h₁,toks:=s.toks + 1 }:=I.kept (t':=s.toks + 1) k1
  refine PySem.W.kla_codeExpr ?_
  have cellK:h₁.IsCell cx (some (.ref a)):=by obtain ⟨o,z1,z2⟩:=hcc;exact ⟨o,k1 _ _ z1,z2⟩
  have hu':(A.deeper (PySem.W.envX q scope s.heap.objs.size f (.ref c') cl)).units + 1 < cLine:=by show A.units + 3 + 1 < cLine;omega
  refine Subscript_ (subD_of PySem.F.slot_dict_getitem.lookup (fun _ _=>rfl) (wpAny_Name (wpAny_loadName_free hk hn hcx cellK ?_ hd3) hd2))
  refine wpAny_Name (wpAny_loadName_local hk hx hns (v:=.ref b) (by simp) ?_) hd1
  refine ⟨dict_typeIs I1 hg,d_getItemK hu' I1 hg rfl fun w' tk rw'=>?_⟩
  cases rw'
  refine wpAny_Constant_int ?_
  have I2:=I1.tok tk
  obtain ⟨its,r,pl,hz⟩:=I2.tuple (SqT.of ht)
  cases r with
  | @cons y1 u1 ys1 us1 r1 r2 =>
    obtain ⟨tk1,rfl⟩:=r1
    refine subscriptTail_builtinR (x:=.int i tk1) pl.typeIs slot_tuple_getitem.lookup (getItem_tuple (j:=0) (Q:=fun r s'=>r=.int i tk1/\_) pl (by decide) (by decide) (by simp [seqIndex?]) (by simp) ⟨rfl,?_⟩) (by rfl)
    exact k tk1 _ (I2.tok _) k1
end
section
variable {prog:Program}{w:World}{A:Around}{E:Value->Shared->Prop}{s:Shared}{d it:Addr}{D J:Obj}{es:Array DictEntry}{ep i:Nat}
theorem raw_iter {Q:Value->Shared->Prop} (n0:(d == sysModules)=false) (g1:s.heap.get? d=some D) (g2:D.ExactDict) (g3:D.data=.dict es ep)
    (k:Q (.ref s.heap.objs.size) { s with heap:=s.heap.push { cls:=.type "dict_keyiterator",data:=.fields #[.ref d,.int 0 0,.int es.size 0,.int ep 0] } }):wpAny (model prog w) A (pyIter (.ref d)) Q E s:=by
  have ty:s.TypeIs (.ref d) "dict":=⟨D,g1,g2.1⟩
  refine wpAny_pyIter_slot ty F.slot_dict_iter (wpAny_call_entry F.slot_dict_iter ty F.entry_dict_iter ?_ (F.args_dict_iter_1 _))
  unfold Builtin.«dict.__iter__» Builtin.Dict.dictSlotNone
  refine wpAny_bind (wpAny_bind (wpAny_notOrdered_dict ty ?_))
  refine wpAny_pure (show wpAny _ _ (Builtin.Dict.showsAll d >>= _) _ _ s from ?_)
  unfold Builtin.Dict.showsAll
  rw [if_neg (fun z=>by rw [n0] at z;cases z)]
  refine wpAny_bind (wpAny_pure (wpAny_bind (wpAny_dictEntries g1 g3 (wpAny_bind (wpAny_dictEpoch g1 g3 ?_)))))
  refine wpAny_bind (wpAny_newObj_type (wpAny_pure ⟨_,rfl,"dict_keyiterator",_,⟨_,Heap.get?_push_size _ rfl,rfl⟩,F.slot_dict_keyiterator_next.lookup,?_⟩))
  simpa [rawInt] using k
theorem raw_next {Q:Option Value->Shared->Prop} (j:s.heap.IsKeyIter it d i es.size ep) (g1:s.heap.get? d=some D) (g3:D.data=.dict es ep) (hi:i < es.size)
    (k:∀ h',h'.IsKeyIter it d (i + 1) es.size ep->Heap.SameBut it s.heap h'->Q (some es[i].key) { s with heap:=h' }):wpAny (model prog w) A (pyNext (.ref it)) Q E s:=by
  obtain ⟨J,j1,j2,j3⟩:=id j
  unfold pyNext
  refine wpAny_bind (wpAny_attempt (wpAny_callSpecial?_slot (name:=Str.ofString "__next__") j.typeIs F.slot_dict_keyiterator_next (wpAny_call_entry F.slot_dict_keyiterator_next j.typeIs F.entry_dict_keyiterator_next ?_ (F.args_dict_keyiterator_next_1 _))))
  refine wpAny_bind (wpAny_pure (wpAny_bind (wpAny_bind ?_)))
  first | refine wpAny_bind (wpAny_typeNameOfWhole_keyiter j.typeIs (wpAny_pure (wpAny_bind (wpAny_fieldsOf j1 j3 ?_)))) | refine wpAny_bind (wpAny_typeNameOf_keyiter j.typeIs (wpAny_pure (wpAny_bind (wpAny_fieldsOf j1 j3 ?_))))
  have ow:Builtin.Dict_items.ownsTuple "dict_keyiterator"=false:=by decide
  simp only [ow,Bool.false_eq_true,if_false]
  show wpAny _ _ (if (Value.ref d == Value.none)=true then _ else _) _ _ _
  rw [if_neg (fun z:(Value.ref d == Value.none)=true=>Bool.false_ne_true z)]
  refine wpAny_bind (wpAny_pure (wpAny_bind (wpAny_dictEntries g1 g3 ?_)))
  rw [if_neg (by simp)]
  refine wpAny_bind (wpAny_pure (wpAny_bind (wpAny_dictEpoch g1 g3 ?_)))
  rw [if_neg (by simp)]
  refine wpAny_pure ?_
  simp only [show ¬ ((i:Int) < 0) from by omega,if_false,Int.toNat_natCast,Array.getElem?_eq_getElem hi]
  refine wpAny_bind ?_
  first | refine wpAny_bind (wpAny_typeNameOfWhole_keyiter j.typeIs (wpAny_pure (wpAny_bind (wpAny_isOneOf_keyiter j.typeIs ?_)))) | refine wpAny_bind (wpAny_typeNameOf_keyiter j.typeIs (wpAny_pure (wpAny_bind (wpAny_isOneOf_keyiter j.typeIs ?_))))
  refine show wpAny _ _ (setField (.ref it) 1 (rawInt ((i:Int) + 1)) >>= _) _ _ s from wpAny_bind (wpAny_setField j1 j3 (by simp) ?_)
  have jn:(s.heap.update it (Obj.mapFields (·.setIfInBounds 1 (rawInt ((i:Int) + 1))))).IsKeyIter it d (i + 1) es.size ep :=
    ⟨_,Heap.get?_update_self _ j1 (Obj.isFreed_of_fields (Obj.data_mapFields j3 _)),(Obj.cls_mapFields ..).trans j2,by rw [Obj.data_mapFields j3];simp [rawInt]⟩
  refine wpAny_bind (wpAny_holding (wpAny_bind (wpAny_isOneOf_keyiter (s:={ s with heap:=s.heap.update it (Obj.mapFields (·.setIfInBounds 1 (rawInt ((i:Int) + 1)))) }) jn.typeIs ?_)))
  refine show wpAny _ _ (pure es[i].key) _ _ _ from ?_
  exact wpAny_pure (wpAny_pure ⟨_,rfl,wpAny_pure (k _ jn (Heap.SameBut.update ..))⟩)
theorem raw_end {Q:Option Value->Shared->Prop} (ha:A.handled=none) (j:s.heap.IsKeyIter it d i es.size ep) (hi:es.size<=i) (g1:s.heap.get? d=some D) (g3:D.data=.dict es ep)
    (k:∀ h',Heap.ExtBut it s.heap h'->Q none { s with heap:=h' }):wpAny (model prog w) A (pyNext (.ref it)) Q E s:=by
  obtain ⟨J,j1,j2,j3⟩:=id j
  unfold pyNext
  refine wpAny_bind (wpAny_attempt (wpAny_callSpecial?_slot (name:=Str.ofString "__next__") j.typeIs F.slot_dict_keyiterator_next (wpAny_call_entry F.slot_dict_keyiterator_next j.typeIs F.entry_dict_keyiterator_next ?_ (F.args_dict_keyiterator_next_1 _))))
  refine wpAny_bind (wpAny_pure (wpAny_bind (wpAny_bind ?_)))
  first | refine wpAny_bind (wpAny_typeNameOfWhole_keyiter j.typeIs (wpAny_pure (wpAny_bind (wpAny_fieldsOf j1 j3 ?_)))) | refine wpAny_bind (wpAny_typeNameOf_keyiter j.typeIs (wpAny_pure (wpAny_bind (wpAny_fieldsOf j1 j3 ?_))))
  have ow:Builtin.Dict_items.ownsTuple "dict_keyiterator"=false:=by decide
  simp only [ow,Bool.false_eq_true,if_false]
  show wpAny _ _ (if (Value.ref d == Value.none)=true then _ else _) _ _ _
  rw [if_neg (fun z:(Value.ref d == Value.none)=true=>Bool.false_ne_true z)]
  refine wpAny_bind (wpAny_pure (wpAny_bind (wpAny_dictEntries g1 g3 ?_)))
  rw [if_neg (by simp)]
  refine wpAny_bind (wpAny_pure (wpAny_bind (wpAny_dictEpoch g1 g3 ?_)))
  rw [if_neg (by simp)]
  refine wpAny_pure ?_
  simp only [show ¬ ((i:Int) < 0) from by omega,if_false,Int.toNat_natCast,Array.getElem?_eq_none hi]
  refine wpAny_bind ?_
  first | refine wpAny_bind (wpAny_typeNameOfWhole_keyiter j.typeIs (wpAny_pure ?_)) | refine wpAny_bind (wpAny_typeNameOf_keyiter j.typeIs (wpAny_pure ?_))
  refine show wpAny _ _ (setField (.ref it) 0 .none >>= _) _ _ s from wpAny_bind (wpAny_setField j1 j3 (by simp) ?_)
  refine show wpAny _ _ (newExc (.type "StopIteration") [] >>= _) _ _ _ from wpAny_bind ?_
  simp only [newExc,newTuple]
  refine wpAny_bind (wpAny_newObj_type (wpAny_bind (m:=firstArgMember _ _) (wpAny_of_eq (a:=Value.none) (by first | rfl | (simp only [firstArgMember];rfl)) ?_)) (by size_fits))
  refine wpAny_newObj_type ?_ (by size_fits)
  simp only [raiseNew]
  refine wpAny_bind (wpAny_handled ?_)
  rw [show A.in1.handled=none from ha]
  refine wpAny_bind (wpAny_pure (wpAny_throw ?_))
  refine wpAny_bind (wpAny_isInstance (T:="StopIteration") (b:=true) ⟨_,Heap.get?_push_size _ rfl,rfl⟩ isSubtype_stop (wpAny_pure ?_))
  exact (k _ (((Heap.SameBut.update ..).extBut.push _).push _))
end
section
variable {X:Cx}{pins:List (Addr × Obj)}{σ:St}{H:Hp}{A:Around}{s0:Shared}{l q I S:Addr}{vs:List Value}{R:Result->Shared->Prop}
def KpM (I S:Addr) (h h':Heap):Prop:=∀ b o,b≠I->b≠S->h.get? b=some o->h'.get? b=some o
theorem minK_loop (kf:Nat->Int) (hh:A.handled=none) (hl:s0.heap.IsList l vs.toArray) (hlI:l≠I) (hlS:l≠S) (hSI:S≠I) (fI:FpOk X pins H I) (fS:FpOk X pins H S)
    (turn:∀ (i:Nat) (v:Value),vs[i]?=some v->∀ s:Shared,Inv X pins σ H s->KpM I S s0.heap s.heap →
      wpAny (model X.prog X.w) A.in1 (call (.ref q) [v]) (fun r s'=>∃ t,r=.int (kf i) t/\Inv X pins σ H s'/\∀ b o,s.heap.get? b=some o->s'.heap.get? b=some o) (fun _ _=>False) s)
    (done:∀ i v s,vs[i]?=some v->(∀ j,j < vs.length->kf i<=kf j)->Inv X pins σ H s->R (.ok (.ret v)) s) :
    ∀ (r j i:Nat) (s:Shared) (vb:Value) (tb:Tok) (c:Nat),vs.length - (j + 1)=r->j + 1<=vs.length->Inv X pins σ H s->KpM I S s0.heap s.heap →
      s.heap.get? S=some (seqObj "list" #[vb,.int (kf i) tb] c)->s.heap.IsListIter I l (j + 1)->vs[i]?=some vb->i<=j->(∀ j',j'<=j->kf i<=kf j') →
      codeAny (model X.prog X.w) A (.builtin "min.loop" ⟨[.ref I,.ref q,.ref S],[]⟩) R s:=by
  have nm:(toString "min"++toString ".loop":String)="min.loop":=by decide
  have W:=Walks.list (prog:=X.prog) (w:=X.w) (A:=A.in1) hh I l hlI vs.toArray
  have sz:vs.toArray.size=vs.length:=List.size_toArray ..
  have lst:∀ s:Shared,KpM I S s0.heap s.heap->s.heap.IsList l vs.toArray:=fun s k=>by
    obtain ⟨o,z,w⟩:=id hl
    exact ⟨o,k l o hlI hlS z,w⟩
  -- the iterator turns
  have nxt:∀ {s:Shared}{h':Heap}{tk:Nat},Inv X pins σ H s->(∀ b o,b ∉ [I]->s.heap.get? b=some o->h'.get? b=some o)->Inv X pins σ H { s with heap:=h',toks:=tk }:=fun {s h' tk} J k =>
    J.turned (fun b o hb z=>k b o (by simpa using hb) z) fI.1 fI.2.1 fI.2.2.2.1 fI.2.2.2.2.1 fI.2.2.2.2.2
  have put:∀ {s:Shared}{h':Heap}{tk:Nat},Inv X pins σ H s->Heap.SameBut S s.heap h'->Inv X pins σ H { s with heap:=h',toks:=tk }:=fun {s h' tk} J k =>
    J.turned (fun b o hb z=>(k.2 b hb).trans z) fS.1 fS.2.1 fS.2.2.2.1 fS.2.2.2.2.1 fS.2.2.2.2.2
  intro r
  induction r with
  | zero =>
    intro j i s vb tb c hr hj J K0 hS hit hvb hij hb
    have ej:j + 1=vs.length:=by omega
    refine codeAny_builtin PySem.F.entry_min_loop ?_
    rw [Around.under_plainId PySem.F.plain_min_loop _]
    refine show wpAny _ A.in1 (seqItems? (.ref S) >>= _) _ _ _ from wpAny_bind (wpAny_seqItems hS rfl ?_)
    refine show wpAny _ A.in1 (tryCatch (pyNext (.ref I)) _ >>= _) _ _ _ from wpAny_bind (wpAny_tryCatch (W.done _ _ _ ⟨by rw [sz,← ej];exact hit,lst s K0⟩ fun h1 t1 k1=>?_))
    have J1:=nxt (tk:=t1) J k1
    have hS1:=k1 S _ (by simpa using hSI) hS
    refine show wpAny _ A.in1 (updateSeq S (fun _=>#[]) >>= _) _ _ _ from wpAny_bind (wpAny_updateSeq hS1 rfl (wpAny_bind (wpAny_letGo (wpAny_pure ?_))))
    exact done i vb _ hvb (fun j' hj'=>hb j' (by omega)) (put (s:={ s with heap:=h1,toks:=t1 }) (tk:=t1) J1 (Heap.SameBut.update h1 S (Obj.mapSeq fun _=>(#[]:Array Value))))
  | succ r ih =>
    intro j i s vb tb c hr hj J K0 hS hit hvb hij hb
    have lt:j + 1 < vs.length:=by omega
    refine codeAny_builtin PySem.F.entry_min_loop ?_
    rw [Around.under_plainId PySem.F.plain_min_loop _]
    refine show wpAny _ A.in1 (seqItems? (.ref S) >>= _) _ _ _ from wpAny_bind (wpAny_seqItems hS rfl ?_)
    refine show wpAny _ A.in1 (tryCatch (pyNext (.ref I)) _ >>= _) _ _ _ from wpAny_bind (wpAny_tryCatch (W.item (j + 1) _ _ _ (by rw [sz];exact lt) ⟨hit,lst s K0⟩ fun v h1 t1 hP st1 k1=>?_))
    have hv:vs[j + 1]?=some v:=by simpa using hP
    obtain ⟨oI,gI,gc,gd⟩:=id st1.1
    have J1:=nxt (tk:=t1) J k1
    have hS1:=k1 S _ (by simpa using hSI) hS
    have K1:KpM I S s0.heap h1:=fun b o b1 b2 z=>k1 b o (by simpa using b1) (K0 b o b1 b2 z)
    refine show wpAny _ A.in1 (tryCatch (holding [v] (call (.ref q) [v])) _ >>= _) _ _ _ from wpAny_bind (wpAny_tryCatch (wpAny_holding (wpAny_mono (turn (j + 1) v hv { s with heap:=h1,toks:=t1 } J1 K1) (fun x s2 he=>?_) fun _ _ z=>z.elim)))
    obtain ⟨t2,rfl,J2,k2⟩:=he
    have hS2:=k2 S _ hS1
    have K2:KpM I S s0.heap s2.heap:=fun b o b1 b2 z=>k2 b o (K1 b o b1 b2 z)
    have hit2:s2.heap.IsListIter I l (j + 1 + 1):=⟨oI,k2 I oI gI,gc,gd⟩
    refine show wpAny _ A.in1 (tryCatch (holding [v,.int (kf (j + 1)) t2] (richCompare .Lt (.int (kf (j + 1)) t2) (.int (kf i) tb) >>= _)) _ >>= _) _ _ _ from wpAny_bind (wpAny_tryCatch (wpAny_holding (wpAny_bind ?_)))
    refine CmpOf.ints_lt (prog:=X.prog) (w:=X.w) (A:=A.in1) (P:=fun i v=>∃ t,v=.int (kf i) t) kf (fun _ _ h=>h) (j + 1) i _ _ _ _ _ ⟨t2,rfl⟩ ⟨tb,rfl⟩ ?_
    refine wpAny_bind (wpAny_holding (wpAny_truthy_bool (wpAny_bind (wpAny_letGo (wpAny_pure ?_)))))
    by_cases b':kf (j + 1) < kf i
    · obtain ⟨c2,hc2⟩:∃ c2,(s2.heap.update S (Obj.mapSeq fun _=>#[v,.int (kf (j + 1)) t2])).get? S=some (seqObj "list" #[v,.int (kf (j + 1)) t2] c2):=⟨_,get?_update_seq hS2 fun _=>#[v,.int (kf (j + 1)) t2]⟩
      have sb:=Heap.SameBut.update s2.heap S (Obj.mapSeq fun _=>#[v,.int (kf (j + 1)) t2])
      simp only [b',decide_true,if_true]
      refine wpAny_bind (wpAny_updateSeq hS2 rfl (wpAny_bind (wpAny_letGo ?_)))
      rw [nm]
      refine wpAny_pure ⟨plainId_quiet PySem.F.plain_min_loop _,ih (j + 1) (j + 1) _ v t2 c2 (by omega) lt (put (tk:=s2.toks) J2 sb) (fun b o b1 b2 z=>(sb.2 b b2).trans (K2 b o b1 b2 z)) hc2 ⟨oI,(sb.2 I hSI.symm).trans (k2 I oI gI),gc,gd⟩ hv (Nat.le_refl _) fun j' hj'=>?_⟩
      by_cases e:j'=j + 1
      · subst e;exact Int.le_refl _
      · have:=hb j' (by omega);omega
    · simp only [b',decide_false,Bool.false_eq_true,if_false]
      refine wpAny_bind (wpAny_letGo ?_)
      rw [nm]
      refine wpAny_pure ⟨plainId_quiet PySem.F.plain_min_loop _,ih (j + 1) i s2 vb tb c (by omega) lt J2 K2 hS2 hit2 hvb (by omega) fun j' hj'=>?_⟩
      by_cases e:j'=j + 1
      · subst e;omega
      · exact hb j' (by omega)
theorem minK {E:Value->Shared->Prop}{Q:Value->Shared->Prop} (kf:Nat->Int) (hh:A.handled=none) (J:Inv X pins σ H s0) (hl:s0.heap.IsList l vs.toArray) (hne:0 < vs.length)
    (turn:∀ (I S:Addr) (i:Nat) (v:Value),s0.heap.objs.size<=I->s0.heap.objs.size<=S->vs[i]?=some v->∀ s:Shared,Inv X pins σ H s->KpM I S s0.heap s.heap →
      wpAny (model X.prog X.w) A.in1 (call (.ref q) [v]) (fun r s'=>∃ t,r=.int (kf i) t/\Inv X pins σ H s'/\∀ b o,s.heap.get? b=some o->s'.heap.get? b=some o) (fun _ _=>False) s)
    (done:∀ i v s,vs[i]?=some v->(∀ j,j < vs.length->kf i<=kf j)->Inv X pins σ H s->Q v s):wpAny (model X.prog X.w) A (call (.builtin "min") [.ref l] [(Str.ofString "key",.ref q)]) Q E s0:=by
  have nm:(toString "min"++toString ".loop":String)="min.loop":=by decide
  obtain ⟨ol,gl,_⟩:=id hl
  have ll:l < s0.heap.objs.size:=Heap.lt_size gl
  refine kmk_tree PySem.F.kind_min PySem.F.plain_min PySem.F.entry_min (kmk_min_key _ _) ?_
  refine show wpAny _ A.in1 (Builtin.Builtins.bindParams "min" ["key","default"] 0 ⟨[],[(Str.ofString "key",.ref q)]⟩ >>= _) _ _ s0 from ?_
  refine wpAny_bind (wpAny_of_eq (show Builtin.Builtins.bindParams "min" ["key","default"] 0 ⟨[],[(Str.ofString "key",.ref q)]⟩=pure [some (.ref q),none] from rfl) (wpAny_bind (wpAny_pure (wpAny_bind (wpAny_pyIter_list hl ?_)))))
  refine wpAny_bind (wpAny_newList ?_ (Nat.zero_le _))
  rw [nm]
  generalize hI:s0.heap.objs.size=I at *
  generalize hh1:s0.heap.push { cls:=.type "list_iterator",data:=.fields #[.ref l,.int 0 0] }=h1
  have gI0:h1.get? I=some { cls:=.type "list_iterator",data:=.fields #[.ref l,.int 0 0] }:=by rw [← hh1,← hI];exact Heap.get?_push_size _ rfl
  have hS:h1.objs.size=I + 1:=by rw [← hh1,← hI];exact Heap.size_push ..
  have o1:∀ b o,s0.heap.get? b=some o->h1.get? b=some o:=fun b o z=>by rw [← hh1];exact Heap.get?_push_of_some _ z
  have gS:(h1.push (seqObj "list" #[] 0)).get? h1.objs.size=some (seqObj "list" #[] 0):=Heap.get?_push_size _ rfl
  have o2:∀ b o,h1.get? b=some o->(h1.push (seqObj "list" #[] 0)).get? b=some o:=fun b o z=>Heap.get?_push_of_some _ z
  generalize h1.push (seqObj "list" #[] 0)=h2 at *
  rw [hS] at gS ⊢
  have hSI:I + 1≠I:=Nat.succ_ne_self I
  have hlI:l≠I:=Nat.ne_of_lt ll
  have hlS:l≠I + 1:=Nat.ne_of_lt (Nat.lt_succ_of_lt ll)
  have fI:FpOk X pins H I:=J.fpOk (Nat.le_of_eq hI) (J.hok.fresh (Nat.le_of_eq hI))
  have fS:FpOk X pins H (I + 1):=J.fpOk (Nat.le_of_lt (Nat.lt_succ_of_le (Nat.le_of_eq hI))) (J.hok.fresh (Nat.le_of_lt (Nat.lt_succ_of_le (Nat.le_of_eq hI))))
  have tn:∀ (i:Nat) (v:Value),vs[i]?=some v->∀ s:Shared,Inv X pins σ H s->KpM I (I + 1) s0.heap s.heap->_:=fun i v=>turn I (I + 1) i v (Nat.le_refl _) (Nat.le_succ _)
  have J0:Inv X pins σ H { s0 with heap:=h2 }:=J.kept (t':=s0.toks) fun b o z=>o2 b o (o1 b o z)
  have K0:KpM I (I + 1) s0.heap h2:=fun b o _ _ z=>o2 b o (o1 b o z)
  refine wpAny_pure ⟨plainId_quiet PySem.F.plain_min_loop _,?_⟩
  have W:=Walks.list (prog:=X.prog) (w:=X.w) (A:=A.in1) hh I l hlI vs.toArray
  have sz:vs.toArray.size=vs.length:=List.size_toArray ..
  refine codeAny_builtin PySem.F.entry_min_loop ?_
  rw [Around.under_plainId PySem.F.plain_min_loop _]
  refine show wpAny _ A.in1 (seqItems? (.ref _) >>= _) _ _ _ from wpAny_bind (wpAny_seqItems gS rfl ?_)
  refine show wpAny _ A.in1 (tryCatch (pyNext (.ref I)) _ >>= _) _ _ _ from wpAny_bind (wpAny_tryCatch (W.item 0 _ _ _ (by rw [sz];exact hne) ⟨⟨_,o2 _ _ gI0,rfl,rfl⟩,⟨ol,o2 _ _ (o1 _ _ gl),by assumption⟩⟩ fun v h3 t3 hP st3 k3=>?_))
  have hv:vs[0]?=some v:=by simpa using hP
  obtain ⟨oI,gI,gc,gd⟩:=id st3.1
  have J3:Inv X pins σ H { s0 with heap:=h3,toks:=t3 }:=J0.turned (fun b o hb z=>k3 b o (by simpa using hb) z) fI.1 fI.2.1 fI.2.2.2.1 fI.2.2.2.2.1 fI.2.2.2.2.2
  have K3:KpM I (I + 1) s0.heap h3:=fun b o b1 b2 z=>k3 b o (by simpa using b1) (K0 b o b1 b2 z)
  have gS3:=k3 (I + 1) _ (by simpa using hSI) gS
  refine show wpAny _ A.in1 (tryCatch (holding [v] (call (.ref q) [v])) _ >>= _) _ _ _ from wpAny_bind (wpAny_tryCatch (wpAny_holding (wpAny_mono (tn 0 v hv { s0 with heap:=h3,toks:=t3 } J3 K3) (fun x s4 he=>?_) fun _ _ z=>z.elim)))
  obtain ⟨t4,rfl,J4,k4⟩:=he
  have gS4:=k4 (I + 1) _ gS3
  have K4:KpM I (I + 1) s0.heap s4.heap:=fun b o b1 b2 z=>k4 b o (K3 b o b1 b2 z)
  obtain ⟨c2,hc2⟩:∃ c2,(s4.heap.update (I + 1) (Obj.mapSeq fun _=>#[v,.int (kf 0) t4])).get? (I + 1)=some (seqObj "list" #[v,.int (kf 0) t4] c2):=⟨_,get?_update_seq gS4 fun _=>#[v,.int (kf 0) t4]⟩
  have sb:=Heap.SameBut.update s4.heap (I + 1) (Obj.mapSeq fun _=>#[v,.int (kf 0) t4])
  refine show wpAny _ A.in1 (updateSeq (I + 1) (fun _=>#[v,.int (kf 0) t4]) >>= _) _ _ _ from wpAny_bind (wpAny_updateSeq gS4 rfl ?_)
  rw [nm]
  refine wpAny_pure ⟨plainId_quiet PySem.F.plain_min_loop _,minK_loop (q:=q) kf hh hl hlI hlS hSI fI fS tn done _ 0 0 _ v t4 c2 rfl hne (J4.turned (t':=s4.toks) (fun b o hb z=>(sb.2 b hb).trans z) fS.1 fS.2.1 fS.2.2.2.1 fS.2.2.2.2.1 fS.2.2.2.2.2) (fun b o b1 b2 z=>(sb.2 b b2).trans (K4 b o b1 b2 z)) hc2 ⟨oI,(sb.2 I hSI.symm).trans (k4 I oI gI),gc,gd⟩ hv (Nat.le_refl _) fun j' hj'=>?_⟩
  have:j'=0:=by omega
  subst this
  exact Int.le_refl _
end
def rMinK (Pt:Addr) (q:Str) (jn:Nat) (vs:List V) (σ:St) (H:Hp) (Q:VK):Prop:=match vs with
  | [.ref l]=>∃ xs a,∃ kf:V->Int,H l=some (.lst xs)/\xs≠[]/\σ[jn]?=some (some (.ref a))/\H Pt=some (tabO q)/\(∀ v∈xs,∃ b t ys,v=.ref b/\DGet H a v (some (.ref t))/\H t=some (.tup (.int (kf v)::ys))) ∧
      ∀ v∈xs,(∀ u∈xs,kf v<=kf u)->∀ H',Same H H'->Q v H'
  | _=>False
def tMinK (Pt:Addr) (q:Str) (jn:Nat) (t:TA):TE:=fun σ H Q=>t σ H fun vs H1=>rMinK Pt q jn vs σ H1 Q
theorem ap_minK {Pt:Addr}{q:Str}{jn:Nat}{t:TA}{σ:St}{H:Hp}{Q:VK}:tMinK Pt q jn t σ H Q=t σ H fun vs H1=>rMinK Pt q jn vs σ H1 Q:=propext Iff.rfl
theorem ev_rMinK {Pt l:Addr}{q:Str}{jn:Nat}{σ:St}{H:Hp}{Q:VK}:rMinK Pt q jn [.ref l] σ H Q=(∃ xs a,∃ kf:V->Int,H l=some (.lst xs)/\xs≠[]/\σ[jn]?=some (some (.ref a))/\H Pt=some (tabO q)/\(∀ v∈xs,∃ b t ys,v=.ref b/\DGet H a v (some (.ref t))/\H t=some (.tup (.int (kf v)::ys))) ∧
      ∀ v∈xs,(∀ u∈xs,kf v<=kf u)->∀ H',Same H H'->Q v H'):=propext Iff.rfl
theorem DGet.same {H H':Hp}{a:Addr}{y:V}{o:Option V} (s:Same H H') (g:DGet H a y o):DGet H' a y o:=by
  rcases g with ⟨kvs,k,e,h⟩ | ⟨kvs,k,b,e,h1,h2,h3⟩
  · exact .inl ⟨kvs,k,e.elim (fun z=>.inl (s _ _ z)) fun ⟨o,z⟩=>.inr ⟨o,s _ _ z⟩,h⟩
  · exact .inr ⟨kvs,k,b,e.elim (fun z=>.inl (s _ _ z)) fun ⟨o,z⟩=>.inr ⟨o,s _ _ z⟩,h1,s _ _ h2,h3⟩
theorem vals_at {xs:List V}{its:List Value} (r:Vals xs its) {i:Nat}{u:Value} (e:its[i]?=some u):∃ v,xs[i]?=some v/\RelV v u:=by
  induction r generalizing i with
  | nil=>simp at e
  | @cons v w vs ws h1 h2 ih =>
    cases i with
    | zero=>simp at e;subst e;exact ⟨v,rfl,h1⟩
    | succ i=>exact ih (by simpa using e)
section
variable {X:Cx}
theorem pe_minK {Pt c:Addr}{q n x:Str}{jn:Nat}{e:Expr}{t:TA}{p pos p1 p2 p3 p4 p5 lpos kp:Pos}{j1:Nat}{params:Arguments}{scope:Scope}{cl:List (Str × Addr)}{k:Nat} (hc:X.calm=true) (hr:Room k X.A) (hm:X.mg "min"=none)
    (hcd:X.env.code=.ref c) (hC:PySem.W.codeHdIn X.K c Pt=true) (hq:X.env.qual++"<lambda>"=q) (hcl:clo X.env.cells scope.names []=some cl) (hN:X.N[jn]?=some n) (hv:Vis X.env.scope n)
    (ha:PA X [e] t) (hd:defaultsOf params X.env=([],[]):=by rfl)
    (hbind:∀ (c':Addr) (pm ct u:Value),bindArgs (PySem.W.kla_fn "<lambda>" q params (.Subscript (.Subscript (.Name n p1) (.Name x p2) p3) (.Constant (.int 0) j1 p4) p5) scope cl pm (.ref c') ct) ⟨[u],[]⟩=pure [(x,u)]:=by exact fun _ _ _ _=>rfl)
    (hco:scope.isCoroutine=false:=by rfl) (hgen:scope.isGenerator=false:=by rfl) (hk:scope.kind=.function:=by rfl) (hcell:∀ y∈scope.names,y.2≠.cell:=by decide +kernel) (hx:scope.names.lookup x=some .local:=by rfl) (hn:scope.names.lookup n=some .free:=by rfl)
    (hmem:(n,NameKind.free)∈scope.names:=by decide +kernel) (hkn:X.env.kindOf n=some .cell:=by rfl)
    (hd1:(x == ("__debug__":Str))=false:=by decide) (hd2:(n == ("__debug__":Str))=false:=by decide) (hd3:(n == ("__classdict__":Str))=false:=by decide)
    (hg:X.env.kindOf "min"=some .globalImplicit:=by kernel_rfl) (hs:noStars [e]=true:=by kernel_rfl) :
    PE X (.Call (.Name "min" p) [e] [⟨some "key",.Lambda params (.Subscript (.Subscript (.Name n p1) (.Name x p2) p3) (.Constant (.int 0) j1 p4) p5) scope lpos,kp⟩] pos) (tMinK Pt q jn t):=by
  intro pins s σ H Q I h
  refine wpAny_Call_Name_kw (ld_blt I hg hm bt_min ?_ (by decide) (by decide))
  refine PyProof.Rows.callWith_kw (thn (ha pos pins s σ H _ I h) fun us s1 ⟨vs,H1,I1,r1,q1⟩=>?_) (by rw [starEach_cons (noStars_tail hs).1];rfl) (by rw [starEach_cons (noStars_tail hs).1];rfl) rfl rfl
  match vs,q1 with
  | [.ref l],q1 =>
    obtain ⟨xs,a,kf,hl,hne,hσ,hP,hall,qq⟩:=q1
    obtain ⟨u,rfl,r2⟩:=vals1 r1
    cases r2
    refine PyProof.Rows.kws_cons (lam_make I1 hP hcd hC hq hd hcl fun f c' ctv H2 s2 I2 sm hf hrec hsz hfn _=>PyProof.Rows.kws_nil ?_)
    obtain ⟨its,rv,pl,hz⟩:=I2.list (.of (sm _ _ hl))
    have ln:=rv.length
    obtain ⟨cx,hcx⟩:=clo_has scope.names [] cl hcl n hmem
    have hcx':=clo_sub scope.names [] cl hcl (fun x c e=>by cases e) n cx hcx
    refine minK (fun i=>kf (xs.getD i .non)) (I2.ok.hd hc) I2 pl.isList (by rw [← ln];exact List.length_pos_iff.mpr hne) (fun J S i v hJ hS hvi s3 I3 K3=>?_) fun i v s3 hvi hmin I3=>?_
    · obtain ⟨v',hv',rv'⟩:=vals_at rv hvi
      have hm':v'∈xs:=List.mem_of_getElem? hv'
      obtain ⟨b,t',ys,rfl,hg',ht'⟩:=hall v' hm'
      cases rv'
      have eg:xs.getD i .non=.ref b:=by rw [List.getD_eq_getElem?_getD,hv'];rfl
      have kp3:∀ {b' o'},s2.heap.get? b'=some o'->s3.heap.get? b'=some o':=fun {b' o'} z=>K3 b' o' (Nat.ne_of_lt (Nat.lt_of_lt_of_le (Heap.lt_size z) hJ)) (Nat.ne_of_lt (Nat.lt_of_lt_of_le (Heap.lt_size z) hS)) z
      obtain ⟨m,hns,hlk⟩:=id I3.loc
      obtain ⟨u',ru',lk⟩:=hlk jn n (.ref a) hN hσ hv
      cases ru'
      have hcc:s3.heap.IsCell cx (some (.ref a)):=by
        rcases lk with ⟨z,_⟩ | ⟨_,c2,z1,z2⟩
        · rw [hkn] at z;cases z
        · rw [hcx'] at z1;cases z1;exact z2
      have hu3:X.A.in1.units + 64 < cLine:=by have:=hr.un;show X.A.units + 1 + 64 < cLine;omega
      have hd4:X.A.in1.depth + 3 < recursionLimit:=by have:=hr.dp;show X.A.depth + 3 < recursionLimit;omega
      have hrec3:s3.heap.CodeRec (.ref c') q:=by obtain ⟨c2,oc,vs2,t2,z1,z2,z3⟩:=hrec;exact ⟨c2,oc,vs2,t2,z1,kp3 z2,z3⟩
      refine lam_call I3 hu3 hd4 (kp3 hf) hrec3 (hbind c') hco hgen hk hcell hx hn hcx hcc (hg'.same sm) (sm _ _ ht') hd1 hd2 hd3 fun tk s4 I4 k4=>⟨tk,?_,I4,k4⟩
      rw [eg]
    · obtain ⟨v',hv',rv'⟩:=vals_at rv hvi
      refine ⟨v',H2,I3,rv',qq v' (List.mem_of_getElem? hv') (fun w hw=>?_) H2 sm⟩
      obtain ⟨j,hj,ej⟩:=List.getElem_of_mem hw
      have:=hmin j (by rw [← ln];exact hj)
      rw [List.getD_eq_getElem?_getD,hv',List.getD_eq_getElem?_getD,List.getElem?_eq_getElem hj,ej] at this
      exact this
end
def heldO (a:Addr) (D:Obj):HO:=.ext fun h=>h.get? a=some D
theorem heldO_ok {P:Program}{w:World}{H:Hp}{h:Heap}{a:Addr}{D:Obj} (e:h.get? a=some D):ObjOk P w H h a (heldO a D):=⟨e,⟨D,e⟩,fun h1 h2 y k=>k D y⟩
def DRaw (P:Program) (w:World) (kvs:List (List Key × V)) (D:Obj) (xs:List (List Key × Addr × Value)):Prop :=
  kvs.length<=sizeLine/\D.ExactDict/\Paired (fun (p:List Key × V) (q:List Key × Addr × Value)=>p.1=q.1/\RelV p.2 q.2.2) kvs xs/\∃ es ep,D.data=.dict es ep/\es.toList=xs.map (entryOfKey (tupleKind (mixKind P w)))/\(xs.map (·.1)).Nodup
def keysV (xs:List (List Key × Addr × Value)):List V:=xs.map fun q=>.ref q.2.1
def Itd (a:Addr) (D:Obj) (vs:List V):It:=⟨fun i H=>i < vs.length/\H a=some (heldO a D),fun i H x H'=>vs[i]?=some x/\H'=H,fun i H=>vs.length<=i/\H a=some (heldO a D)⟩
theorem seq_keys {a:Addr}{D:Obj}{vs:List V}{H1:Hp} (h:H1 a=some (heldO a D)):(Itd a D vs).Seq H1 vs:=fun H s =>
  ⟨fun i x e=>⟨⟨(List.getElem?_eq_some_iff.mp e).1,s _ _ h⟩,fun y H' z=>by
    obtain ⟨z1,z2⟩:=z
    rw [e] at z1
    exact ⟨z2,(Option.some.inj z1).symm⟩⟩,fun i hi=>⟨hi,s _ _ h⟩⟩
theorem turn_keys {P:Program}{w:World}{K:PySem.W.Frag}{tg:Expr} (a it:Addr) (D:Obj) (xs:List (List Key × Addr × Value)) (es:Array DictEntry) (ep:Nat) (hd:D.data=.dict es ep) (he:es.toList=xs.map (entryOfKey (tupleKind (mixKind P w)))) :
    Turn P w K tg (Itd a D (keysV xs)) [it] it (fun i h=>h.IsKeyIter it a i es.size ep) where
  mem:=by simp
  obj:=fun i h st b hb=>by
    obtain rfl:b=it:=by simpa using hb
    obtain ⟨o,e1,e2,e3⟩:=st
    exact ⟨o,e1,fun v z=>by rw [e3] at z;cases z⟩
  keep:=fun i h h' st k=>by
    obtain ⟨o,e1,e2,e3⟩:=st
    exact ⟨o,k it (by simp) o e1,e2,e3⟩
  item:=by
    intro X hP hw hK hc i pins s σ H E I hf st hg
    subst hP hw hK
    obtain ⟨hi,hH⟩:=hg
    have g1:s.heap.get? a=some D:=(show ObjOk X.prog X.w H s.heap a (heldO a D) from I.hok a _ hH).1
    have sz:es.size=xs.length:=by have:=congrArg List.length he;simpa using this
    have hi':i < xs.length:=by unfold keysV at hi;simpa using hi
    have ek:(es[i]'(by omega)).key=.ref (xs[i]).2.1:=by
      have:es.toList[i]?=(xs.map (entryOfKey (tupleKind (mixKind X.prog X.w))))[i]?:=by rw [he]
      rw [List.getElem?_map,List.getElem?_eq_getElem hi',Array.getElem?_toList,Array.getElem?_eq_getElem (by omega)] at this
      have:=Option.some.inj this
      rw [this];rfl
    refine raw_next (es:=es) st g1 hd (by omega) fun h' st' sb=>⟨_,rfl,?_⟩
    obtain ⟨o',q1,q2,q3⟩:=id st'
    refine go_of (s:={ s with heap:=h' }) q1 q2 q3 (by decide) ?_
    refine ⟨.ref (xs[i]).2.1,H,I.turnL (t':=s.toks) (ch:=[it]) hf (fun c o hc e=>(sb.2 c (by simpa using hc)).trans e),ek,⟨?_,rfl⟩,st',fun b hb=>?_⟩
    · unfold keysV;rw [List.getElem?_map,List.getElem?_eq_getElem hi'];rfl
    · exact (hf b hb).1
  done:=by
    intro X hP hw hK hc i pins s σ H E I hf st hg
    subst hP hw hK
    obtain ⟨hi,hH⟩:=hg
    have g1:s.heap.get? a=some D:=(show ObjOk X.prog X.w H s.heap a (heldO a D) from I.hok a _ hH).1
    have sz:es.size=xs.length:=by have:=congrArg List.length he;simpa using this
    have hi':es.size<=i:=by unfold keysV at hi;rw [sz];simpa using hi
    refine raw_end (I.ok.hd hc) st hi' g1 hd fun h' kk=>⟨rfl,I.turnL (t':=s.toks) (ch:=[it]) hf fun c o hc e=>?_⟩
    exact kk c o (by simpa using hc) e
  self:=fun _ _ _ _ _ st h=>wpAny_pyIter_keyiter st h
def iKeys (P:Program) (w:World) (te:TE):TI:=fun σ H R=>te σ H fun x H1=>∃ a kvs,x=.ref a/\H1 a=some (.dT kvs) ∧
  ∀ D xs H2,DRaw P w kvs D xs->(∀ q∈xs,H1 q.2.1=some (.tup (q.1.map kV)))->(a == sysModules)=false->(∀ b o,b≠a->H1 b=some o->H2 b=some o)->H2 a=some (heldO a D)->R (Itd a D (keysV xs)) H2
theorem ap_iKeys {P:Program}{w:World}{te:TE}{σ:St}{H:Hp}{R:It->Hp->Prop}:iKeys P w te σ H R=te σ H fun x H1=>∃ a kvs,x=.ref a/\H1 a=some (.dT kvs) ∧
  ∀ D xs H2,DRaw P w kvs D xs->(∀ q∈xs,H1 q.2.1=some (.tup (q.1.map kV)))->(a == sysModules)=false->(∀ b o,b≠a->H1 b=some o->H2 b=some o)->H2 a=some (heldO a D)->R (Itd a D (keysV xs)) H2:=propext Iff.rfl
theorem paired_mem {α β:Type}{F:α->β->Prop}:∀ {l₁:List α}{l₂:List β},Paired F l₁ l₂->∀ y∈l₂,∃ x∈l₁,F x y
  | _,_,.nil,y,h=>by cases h
  | _,_,.cons r t,y,h=>by
    rcases List.mem_cons.mp h with rfl | h
    · exact ⟨_,List.mem_cons_self,r⟩
    · obtain ⟨x,hx,hF⟩:=paired_mem t y h
      exact ⟨x,List.mem_cons_of_mem _ hx,hF⟩
theorem dt_raw {X:Cx}{pins:List (Addr × Obj)}{σ:St}{H:Hp}{s:Shared}{a:Addr}{kvs:List (List Key × V)} (I:Inv X pins σ H s) (e:H a=some (.dT kvs)) :
    ∃ D xs,s.heap.get? a=some D/\DRaw X.prog X.w kvs D xs/\(∀ q∈xs,H q.2.1=some (.tup (q.1.map kV)))/\(a == sysModules)=false:=by
  obtain ⟨z,y,xs,r,D,es,ep,h1,h2,h3,h4,h5⟩:=(show ObjOk X.prog X.w H s.heap a (.dT kvs) from I.hok a _ e)
  refine ⟨D,xs,h1,⟨z,h2,Paired.mapP r fun p q w=>⟨w.1,w.2.2⟩,es,ep,h3,h4,h5⟩,fun q hq=>?_,y⟩
  obtain ⟨p,_,w1,w2,_⟩:=paired_mem r q hq
  rw [← w1];exact w2
theorem pi_keys {X:Cx}{P:Program}{w:World}{tg l:Expr}{tl:TE} (hP:X.prog=P) (hw:X.w=w) (hl:PE X l tl):PI X tg l (iKeys P w tl):=by
  subst hP hw
  intro pins s σ H R I h
  refine thn (hl pins s σ H _ I h) fun v s1 ⟨x,H1,I1,r1,q1⟩=>?_
  obtain ⟨a,kvs,rfl,ha,q⟩:=q1
  cases r1
  obtain ⟨D,xs,g1,dr,hk,hs⟩:=dt_raw I1 ha
  obtain ⟨z,g2,rel,es,ep,g3,g4,g5⟩:=id dr
  refine raw_iter hs g1 g2 g3 ?_
  have I2:Inv X pins σ (upd H1 a (heldO a D)) s1:=I1.write (x:=a) (e:=a) (h':=s1.heap) (t':=s1.toks) (o:=heldO a D) (by rw [ha];exact True.intro) (.inl rfl) (fun _ _ _ e=>e) ⟨D,g1⟩ (heldO_ok g1)
  have I3:Inv X pins σ (upd H1 a (heldO a D)) { s1 with heap:=s1.heap.push { cls:=.type "dict_keyiterator",data:=.fields #[.ref a,.int 0 0,.int es.size 0,.int ep 0] } }:=I2.kept (t':=s1.toks) fun b o e=>Heap.get?_push_of_some _ e
  refine ⟨s1.heap.objs.size,[s1.heap.objs.size],_,_,_,rfl,I3,turn_keys a s1.heap.objs.size D xs es ep g3 g4,⟨_,Heap.get?_push_size _ rfl,rfl,rfl⟩,fun b hb=>?_,q D xs _ dr hk hs (fun b o hb e=>by rw [upd_ne hb];exact e) upd_same⟩
  obtain rfl:b=s1.heap.objs.size:=by simpa using hb
  exact I2.fpOk (Nat.le_refl _) (I2.hok.fresh (Nat.le_refl _))
def thawN (P:Program) (w:World) (D:Ends):St->Hp->Prop:=fun σ' H3=>∃ a o kvs xs,H3 a=some (heldO a o)/\(a == sysModules)=false/\DRaw P w kvs o xs/\(∀ q∈xs,H3 q.2.1=some (.tup (q.1.map kV)))/\∀ H4,(∀ b u,b≠a->H3 b=some u->H4 b=some u)->H4 a=some (.dT kvs)->D.nx σ' H4
def sThaw (P:Program) (w:World) (t:TS):TS:=fun D σ H=>t { D with nx:=thawN P w D } σ H
theorem ap_thaw {P:Program}{w:World}{t:TS}{D:Ends}{σ:St}{H:Hp}:sThaw P w t D σ H=t { D with nx:=thawN P w D } σ H:=propext Iff.rfl
theorem ap_thawN {P:Program}{w:World}{D:Ends}{σ':St}{H3:Hp}:thawN P w D σ' H3=(∃ a o kvs xs,H3 a=some (heldO a o)/\(a == sysModules)=false/\DRaw P w kvs o xs/\(∀ q∈xs,H3 q.2.1=some (.tup (q.1.map kV)))/\∀ H4,(∀ b u,b≠a->H3 b=some u->H4 b=some u)->H4 a=some (.dT kvs)->D.nx σ' H4):=propext Iff.rfl
theorem paired_and {α β:Type}{F G:α->β->Prop}:∀ {l₁:List α}{l₂:List β},Paired F l₁ l₂->(∀ x,∀ y∈l₂,F x y->G x y)->Paired G l₁ l₂
  | _,_,.nil,_=>.nil
  | _,_,.cons r t,f=>.cons (f _ _ List.mem_cons_self r) (paired_and t fun x y hy=>f x y (List.mem_cons_of_mem _ hy))
theorem ps_thaw {X:Cx}{P:Program}{w:World}{st:Stmt}{t:TS} (hP:X.prog=P) (hw:X.w=w) (h:PS X st t):PS X st (sThaw P w t):=by
  subst hP hw
  intro pins s σ H D I q
  refine thn (h pins s σ H _ I q) fun f s1 z=>?_
  cases f with
  | next =>
    obtain ⟨σ1,H1,I1,a,o,kvs,xs,e1,e2,⟨z1,z2,z3,es,ep,z4,z5,z6⟩,e3,k⟩:=z
    have g1:s1.heap.get? a=some o:=(show ObjOk X.prog X.w H1 s1.heap a (heldO a o) from I1.hok a _ e1).1
    refine ⟨σ1,upd H1 a (.dT kvs),?_,k _ (fun b u hb e=>by rw [upd_ne hb];exact e) upd_same⟩
    refine I1.write (x:=a) (e:=a) (h':=s1.heap) (t':=s1.toks) (o:=.dT kvs) (by rw [e1];exact True.intro) (.inl rfl) (fun _ _ _ e=>e) ⟨o,g1⟩ ⟨z1,e2,xs,?_,o,es,ep,g1,z2,z4,z5,z6⟩
    refine paired_and z3 fun p q hq w=>⟨w.1,?_,w.2⟩
    rw [w.1,upd_ne (ne_of (e3 q hq) e1 (by intro z;cases z))]
    exact e3 q hq
  | ret u=>exact z
  | brk=>exact z
  | cont=>exact z
def tDNewTX:TE:=fun _ H Q=>nw H (.dT []) Q
theorem ap_dnewT {σ:St}{H:Hp}{Q:VK}:tDNewTX σ H Q=nw H (.dT []) Q:=propext Iff.rfl
theorem pe_dnewTX {X:Cx}{pos:Pos}:PE X (.Dict [] [] pos) tDNewTX:=fun pins s σ H Q I h=>pe_dnewT pins s σ H Q I (nw.go h)
theorem ap_dput {td ty tv:TE}{D:Ends}{σ:St}{H:Hp}:sDPut td ty tv D σ H=tv σ H fun v H1=>td σ H1 fun x H2=>ty σ H2 fun y H3=>∃ a H4,x=.ref a/\DPut H3 a y v H4/\D.nx σ H4:=propext Iff.rfl
theorem ps_dputG {X:Cx}{o i value:Expr}{pos pos':Pos}{td ty tv:TE} (hu:X.A.units + 1 < cLine) (ho:PE X o td) (hi:PE X i ty) (hv:PE X value tv) (hs:swapsWith value (some (.Subscript o i pos')) pos.line X.env=pure false:=by kernel_rfl) :
    PS X (.Assign [.Subscript o i pos'] value pos) (sDPut td ty tv):=ps_dput hu ho hi hv hs
def rListD:List V->Hp->VK->Prop:=fun vs H Q=>match vs with
  | [.ref a]=>∃ kvs,H a=some (.dT kvs)/\∀ p ws H',H p=none->Same H H'->H' p=some (.lst ws)->ws.length=kvs.length->(∀ (i:Nat) kv,kvs[i]?=some kv->∃ b,ws[i]?=some (.ref b)/\H b=some (.tup (kv.1.map kV)))->Q (.ref p) H'
  | _=>False
theorem ev_rListD {a:Addr}{H:Hp}{Q:VK}:rListD [.ref a] H Q=(∃ kvs,H a=some (.dT kvs)/\∀ p ws H',H p=none->Same H H'->H' p=some (.lst ws)->ws.length=kvs.length->(∀ (i:Nat) kv,kvs[i]?=some kv->∃ b,ws[i]?=some (.ref b)/\H b=some (.tup (kv.1.map kV)))->Q (.ref p) H'):=propext Iff.rfl
theorem walks_raw {prog:Program}{w:World}{A:Around} (hh:A.handled=none) (I d:Addr) (hne:d≠I) (D:Obj) (es:Array DictEntry) (ep:Nat) (g3:D.data=.dict es ep) :
    Walks prog w A I [I,d] [I] es.size (fun i v=>(es[i]?).map (·.key)=some v) (fun i h=>h.IsKeyIter I d i es.size ep/\h.get? d=some D) where
  sub:=fun b hb=>by simp at hb;simp [hb]
  frame:=fun _ _ _ st hk=>⟨st.1.at fun o e=>hk I (by simp) o e,hk d (by simp) D st.2⟩
  item:=fun i s Q E hi st hQ=>by
    refine raw_next (es:=es) st.1 st.2 g3 hi fun h' j' sb=>?_
    exact hQ _ h' s.toks (by rw [Array.getElem?_eq_getElem hi];rfl) ⟨j',(sb.2 d hne).trans st.2⟩ fun b o hb e=>(sb.2 b (by simpa using hb)).trans e
  done:=fun s Q E st hQ=>raw_end hh st.1 (Nat.le_refl _) st.2 g3 fun h' ke=>hQ h' s.toks fun b o hb e=>ke b o (by simpa using hb) e
  self:=fun _ _ _ _ st hQ=>wpAny_pyIter_keyiter st.1 hQ
theorem src_raw {prog:Program}{w:World}{d:Addr}{D:Obj}{es:Array DictEntry}{ep:Nat} (n0:(d == sysModules)=false) (g2:D.ExactDict) (g3:D.data=.dict es ep) :
    PySem.W.KdlSrc prog w "dict" d d es.size (fun i v=>(es[i]?).map (·.key)=some v) (fun h=>h.get? d=some D) where
  type:=fun s e=>⟨D,e,g2.1⟩
  there:=fun h e=>⟨Heap.lt_size e,Heap.lt_size e⟩
  keep:=fun h h' e k=>k d (.inl rfl) D e
  notList:=by decide
  notTuple:=by decide
  hint:=fun A E s Q e q=>PySem.W.kdl_hint_dict ⟨D,e,g2.1⟩ q
  iter:=fun A s hh e=>⟨_,_,(fun _ _ q=>raw_iter n0 e g2 g3 q),walks_raw hh _ d (Nat.ne_of_lt (Heap.lt_size e)) D es ep g3,⟨⟨_,Heap.get?_push_size _ rfl,rfl,rfl⟩,Heap.get?_push_of_some _ e⟩⟩
theorem paired_at {α β:Type}{F:α->β->Prop}:∀ {l₁:List α}{l₂:List β},Paired F l₁ l₂->∀ {i:Nat}{x:α},l₁[i]?=some x->∃ y,l₂[i]?=some y/\F x y
  | _,_,.nil,i,x,e=>by simp at e
  | _,_,.cons r t,0,x,e=>by simp at e;subst e;exact ⟨_,rfl,r⟩
  | _,_,.cons r t,i + 1,x,e=>paired_at t (by simpa using e)
theorem vals_tab {vs:List Value}{ws:List V} (hl:ws.length=vs.length) (h:∀ (i:Nat) w,ws[i]?=some w->∃ v,vs[i]?=some v/\RelV w v):Vals ws vs:=by
  induction ws generalizing vs with
  | nil =>
    cases vs with
    | nil=>exact .nil
    | cons _ _=>simp at hl
  | cons w ws ih =>
    cases vs with
    | nil=>simp at hl
    | cons v vs =>
      obtain ⟨v',e,r⟩:=h 0 w rfl
      cases e
      exact .cons r (ih (by simpa using hl) fun i x e=>h (i + 1) x (by simpa using e))
theorem call_listD {X:Cx} (hc:X.calm=true):CallR X (.type "list") rListD:=by
  intro pins s σ H xs us Q I r h
  match xs,h with
  | [.ref a],h =>
    obtain ⟨kvs,ha,k⟩:=h
    obtain ⟨u,rfl,r2⟩:=vals1 r
    cases r2
    obtain ⟨D,xs,g1,⟨z1,z2,z3,es,ep,z4,z5,z6⟩,hk,hs⟩:=dt_raw I ha
    have sz:es.size=xs.length:=by have:=congrArg List.length z5;simpa using this
    have hl:kvs.length=xs.length:=Paired.length z3
    refine PySem.W.kdl_call (src_raw hs z2 z4) (I.ok.hd hc) g1 (by rw [sz,← hl];exact z1) fun h' tk acc c' kp gS hacc=>?_
    have hn:=I.hok.fresh (Nat.le_refl s.heap.objs.size)
    have hv:Vals (keysV xs) acc.toList:=by
      refine vals_tab (by unfold keysV;rw [List.length_map,Array.length_toList];exact (hacc.1.trans sz).symm) fun i w e=>?_
      unfold keysV at e
      rw [List.getElem?_map] at e
      cases ex:xs[i]? with
      | none=>rw [ex] at e;cases e
      | some q =>
        rw [ex] at e
        cases e
        have hi:i < xs.length:=(List.getElem?_eq_some_iff.mp ex).1
        have hi2:i < acc.size:=by rw [hacc.1,sz];exact hi
        have e2:(es[i]?).map (·.key)=some acc[i]:=hacc.2 i acc[i] (Array.getElem?_eq_getElem hi2)
        have e3:es[i]?=some (entryOfKey (tupleKind (mixKind X.prog X.w)) q):=by
          rw [← Array.getElem?_toList,z5,List.getElem?_map,ex];rfl
        rw [e3] at e2
        refine ⟨acc[i],by rw [Array.getElem?_toList,Array.getElem?_eq_getElem hi2],?_⟩
        exact (Option.some.inj e2).symm
    have I1:Inv X pins σ (upd H s.heap.objs.size (.lst (keysV xs))) { s with heap:=h',toks:=tk }:=by
      refine I.laid (t':=tk) (o:=.lst (keysV xs)) kp (Nat.le_refl _) ⟨?_,acc.toList,c',hv,by rw [Array.toArray_toList];exact gS⟩
      unfold keysV;rw [List.length_map,← hl];exact z1
    refine ⟨.ref s.heap.objs.size,_,I1,rfl,k _ (keysV xs) _ hn (same_upd hn) upd_same (by unfold keysV;rw [List.length_map,← hl]) fun i kv e=>?_⟩
    obtain ⟨q,e2,e3,_⟩:=paired_at z3 e
    refine ⟨q.2.1,by unfold keysV;rw [List.getElem?_map,e2];rfl,?_⟩
    rw [e3]
    exact hk q (List.mem_of_getElem? e2)
theorem law_callT {P:Program}{w:World}{K:PySem.W.Frag}{mg mb:Str->Option Value}{CX:CXT}{k:Nat}{fa a c Pt:Addr}{q:Str}{fd:FuncData}{x:Str}{sp:Sp}{s₁:Shared}{vs:List Value}{ns:List Int}
    (KX:K.In s₁.heap) (hns:s₁.heap.Ns mainGlobals mg) (hb:s₁.heap.Ns builtinsNs mb) (hbb:∀ x:Str,x≠"__name__"->mb x=bootBuiltins x) (hlim:s₁.heap.NoLimit)
    (hbm:∃ bm ob,mg "__builtins__"=some (.ref bm)/\bm≠builtinsNs/\s₁.heap.get? bm=some ob/\ob.cls=.type "module"/\ob.dict=some builtinsNs/\ob.data=.plain) (hg:s₁.gens=#[])
    (ha:s₁.heap.get? a=some { cls:=.type "list",data:=.seq vs.toArray }) (hi:IntsAre vs ns) (hl:ns.length<=sizeLine) (hr:Room k callerA) (hC:PySem.W.codeHdIn K c Pt=true) (hPt:s₁.heap.get? Pt=some { cls:=.none,data:=.fields #[] }) (hKP:K.lookup Pt=none)
    (F:∀ base:Heap,K.In base->base.Ns mainGlobals mg->FnOk P w K mg base CX k fa fd [x] sp) (hbind:∀ (s:Shared) (u:Value),BindsTo s fd ⟨[u],[]⟩ [(x,u)])
    (hsp:∀ H:Hp,SqL K H a (ns.map V.int)->H Pt=some (tabO q)->sp [.ref a] H (fun v _=>v=.bl true) fun _ _ _=>False)
    (hCX:∀ H e s',CX [] H s₁ (fun _ _ _=>False) e s'->False) :
    codeAny (model P w) callerA (.call (.ref fa) ⟨[.ref a],[]⟩) (fun r s'=>r=.ok (.ret (.bool true))/\OldK s₁.heap s'.heap/\s'.os=s₁.os/\AllBare s'.gens) s₁:=by
  have rv:=vals_ints hi
  have lenV:=hi.length
  have hCd:=PySem.W.codeHd_of_K KX hC
  have nPa:Pt≠a:=fun z=>by rw [z,ha] at hPt;cases hPt
  have core:∀ H:Hp,SqL K H a (ns.map V.int)->HOk P w H s₁.heap->H Pt=some (tabO q)->(∀ b,H b≠none->b=Pt ∨ (b=a/\∃ o xs,H b=some (.frz o (.lst xs))))->(H a≠none->K.lookup a=none) →
      codeAny (model P w) callerA (.call (.ref fa) ⟨[.ref a],[]⟩) (fun r s'=>r=.ok (.ret (.bool true))/\OldK s₁.heap s'.heap/\s'.os=s₁.os/\AllBare s'.gens) s₁:=by
    intro H hS hok hT hA hK
    have base_of:∀ {b:Addr}{o:Obj},s₁.heap.get? b=some o->H b=none->(hidT s₁.heap H).get? b=some o:=fun e n=>hidT_get e n
    have noO:∀ {b:Addr}{o:Obj},s₁.heap.get? b=some o->(∀ xs n,o.data≠.seq xs n)->(∀ xs,o.data≠.fields xs)->H b=none:=fun {b o} e d1 d2=>by
      cases qb:H b with
      | none=>rfl
      | some u =>
        rcases hA b (by rw [qb];simp) with z | ⟨z,_⟩
        · subst z
          rw [hPt] at e;cases e
          exact absurd rfl (d2 _)
        · subst z
          rw [ha] at e;cases e
          exact absurd rfl (d1 _ _)
    have nsK:∀ {b:Addr}{m:Str->Option Value},s₁.heap.Ns b m->(hidT s₁.heap H).Ns b m:=fun {b m} ⟨o,es,ep,e,d,r⟩=>⟨o,es,ep,base_of e (noO e (fun _ _ z=>by rw [d] at z;cases z) fun _ z=>by rw [d] at z;cases z),d,r⟩
    have hKb:K.In (hidT s₁.heap H):=fun b o e=>base_of (KX b o e) (by
      cases qb:H b with
      | none=>rfl
      | some u =>
        rcases hA b (by rw [qb];simp) with z | ⟨z,_⟩
        · subst z
          rw [hKP] at e;cases e
        · subst z
          rw [hK (by rw [qb];simp)] at e;cases e)
    have hM:Mod K mg (hidT s₁.heap H):=⟨hKb,nsK hns,⟨mb,nsK hb,hbb⟩,let ⟨mc,h1,h2⟩:=hlim;⟨mc,nsK h1,h2⟩,let ⟨bm,ob,b1,b2,b3,b4,b5,b6⟩:=hbm;⟨bm,ob,b1,b2,base_of b3 (noO b3 (fun _ _ z=>by rw [b6] at z;cases z) fun _ z=>by rw [b6] at z;cases z),b4,b5,b6⟩⟩
    have e0:Env0 P w K mg (hidT s₁.heap H) callerA [] s₁ H:=⟨rfl,hM,fun b o e=>of_hidT e,Nat.le_of_eq (hidT_size _ _),trivial,fun b hb=>absurd (show b∈([]:List Addr) from hb) (by simp),hok,.of_eq hg⟩
    refine codeAny_mono ((F _ hKb (nsK hns)).run callerA [] s₁ H ⟨[.ref a],[]⟩ [.ref a] [.ref a] _ _ hr e0 (hbind s₁ (.ref a)) (.cons rfl .nil) (hsp H hS hT)) fun r s' h=>?_
    cases r with
    | error e=>exact (hCX H e s' h).elim
    | ok fl =>
      cases fl with
      | next=>exact False.elim h
      | brk=>exact False.elim h
      | cont=>exact False.elim h
      | ret u =>
        obtain ⟨v,H',os,bare,un,hok',r',qv⟩:=h
        have qv':v=.bl true:=qv
        subst qv'
        obtain rfl:u=Value.bool true:=r'
        refine ⟨rfl,⟨fun b o e=>?_,fun b o e=>un.there b o e (by simp)⟩,os,bare⟩
        cases qb:H b with
        | none=>exact .inl (un.keep b o e qb (by intro z;exact absurd (show b∈([]:List Addr) from z) (by simp)) (by simp))
        | some u =>
          rcases hA b (by rw [qb];simp) with z | ⟨z,ob,xs,z1⟩
          · subst z
            rw [hPt] at e;cases e
            obtain ⟨more,z2⟩:=un.tbls b _ hT
            obtain ⟨qs,z3,_⟩:=(show ObjOk P w H' s'.heap b _ from hok' b _ z2)
            exact .inr (.inl ⟨(hCd.tab hPt).isCodeTable,rfl,#[],qs,rfl,by simpa using z3⟩)
          · have z2:=un.frzs b ob _ z1
            obtain ⟨e1,_⟩:=hok b _ z1
            obtain ⟨e2,_⟩:=hok' b _ z2
            rw [e] at e1;cases e1
            exact .inl e2
  have okT:∀ H:Hp,ObjOk P w H s₁.heap Pt (tabO q):=fun H=>⟨#[],hPt,trivial,fun pos c z=>by simp [codeAmong] at z⟩
  cases hk:K.lookup a with
  | some o =>
    have e:=KX a o hk
    rw [ha] at e
    cases e
    refine core (fun b=>if b=Pt then some (tabO q) else none) (.inr ⟨_,vs.toArray,_,hk,rfl,rfl,rfl,by rw [List.size_toArray,lenV];exact hl,by simpa using rv⟩) (fun b u z=>?_) (if_pos rfl) (fun b z=>?_) fun z=>absurd (if_neg (Ne.symm nPa)) z
    · by_cases hb':b=Pt
      · have z':=(if_pos hb').symm.trans z
        cases z'
        subst hb'
        exact okT _
      · have z':=(if_neg hb').symm.trans z
        cases z'
    · by_cases hb':b=Pt
      · exact .inl hb'
      · exact absurd (if_neg hb') z
  | none =>
    refine core (fun b=>if b=Pt then some (tabO q) else if b=a then some (.frz { cls:=.type "list",data:=.seq vs.toArray } (.lst (ns.map V.int))) else none) (.inl (.inr ⟨{ cls:=.type "list",data:=.seq vs.toArray },(if_neg (Ne.symm nPa)).trans (if_pos rfl)⟩)) (fun b u z=>?_) (if_pos rfl) (fun b z=>?_) fun _=>hk
    · by_cases hb':b=Pt
      · have z':=(if_pos hb').symm.trans z
        cases z'
        subst hb'
        exact okT _
      · have z0:=(if_neg hb').symm.trans z
        clear z
        have z:=z0
        by_cases hb2:b=a
        · have z':=(if_pos hb2).symm.trans z
          cases z'
          subst hb2
          exact ⟨ha,by rw [List.length_map];exact hl,vs,_,rv,ha⟩
        · have z':=(if_neg hb2).symm.trans z
          cases z'
    · by_cases hb':b=Pt
      · exact .inl hb'
      · by_cases hb2:b=a
        · exact .inr ⟨hb2,_,_,(if_neg hb').trans (if_pos hb2)⟩
        · exact absurd ((if_neg hb').trans (if_neg hb2)) z
theorem walk_ofT {l:PySem.W.OpenLaw}{n k:Nat}{qq:Program}{loose:List Str}{XP:(Str->Option Value)->Heap->Prop}{YP:World->Heap->Prop}{d:DefRec}{K:Params->PySem.W.Frag}{CX:World->CXT}{sp:World->Sp}{x:Str}{Pt:Addr} (q:Str)
    (hn:l.most=some n) (hn2:n<=sizeLine) (hdf:d.params.defaults=[]) (hr:Room k callerA)
    (hY:∀ (w:World) (h:Heap),YP w h->(K w.params).In h/\h.get? Pt=some { cls:=.none,data:=.fields #[] })
    (F:∀ (w:World) (mg:Str->Option Value) (fa:Addr) (h:Heap),(K w.params).In h->h.Ns mainGlobals mg->mg d.name=some (.ref fa) →
      (∃ c,PySem.W.codeHdIn (K w.params) c Pt=true)/\∃ fd:FuncData,(∀ (s:Shared) (u:Value),BindsTo s fd ⟨[u],[]⟩ [(x,u)]) ∧
        ∀ base:Heap,(K w.params).In base->base.Ns mainGlobals mg->FnOk l.prog w (K w.params) mg base (CX w) k fa fd [x] (sp w))
    (hKP:∀ w:World,(K w.params).lookup Pt=none)
    (hsp:∀ (w:World) (H:Hp) (a:Addr) (ns:List Int),ns.length<=n->SqL (K w.params) H a (ns.map V.int)->H Pt=some (tabO q)->sp w [.ref a] H (fun v _=>v=.bl true) fun _ _ _=>False)
    (hCX:∀ (w:World) (H:Hp) (s:Shared) (e:Value) (s':Shared),CX w [] H s (fun _ _ _=>False) e s'->False) :
    PySem.W.WalkO qq loose XP YP l.row.toRowW d [] (fun f vs=>PySem.call f vs):=by
  refine Att.attach_call hn hdf fun w s₀ s₁ mg mb fa o pm cd doc a vs ns G Y ho hd hcd hmg hobj hints hlen hg=>?_
  obtain ⟨KX,hPt⟩:=hY w _ Y
  obtain ⟨⟨c,hC⟩,fd,hb,hF⟩:=F w mg fa _ KX G.T.g hmg
  exact law_callT (q:=q) KX G.T.g G.T.b G.T.builtins G.T.nolimit G.T.bmain hg hobj hints (Nat.le_trans hlen hn2) hr hC hPt (hKP w) hF hb (fun H hS hT=>hsp w H a ns hlen hS hT) fun H e s'=>hCX w H s₁ e s'
section
variable {P:Program}{w:World}{K:PySem.W.Frag}{mg:Str->Option Value}{base:Heap}
theorem Fun.okT {x qual:Str}{st:Stmt}{f c:Addr}{fd:FuncData}{N ps:List Str}{k:Nat}{sp:Sp} (F:Fun K x qual st f fd) (hc:fd.code=.ref c) (S:FnScope N ps (defScope st)) (len:∀ vs H Q E,sp vs H Q E->vs.length=ps.length)
    (hbody:∀ (A:Around) (outer:List Env) (s:Shared) (H:Hp) (vs:List V) (Q:VK) (E:XK),Room k (A.deeper (envOfC qual (defScope st) s.heap.objs.size f (.ref c)))->sp vs H Q E →
      ∃ t,PSs (cxOf (CX1 P w) P w K mg base N qual (defScope st) f (.ref c) A outer s H E) (defBody st) t/\t { nx:=fun _ H'=>Q .non H',rt:=Q } (start N vs) H):FnOk P w K mg base (CX1 P w) (k + 1) f fd ps sp:=by
  obtain ⟨oc,od,kV,doc,pm,an,cdv,ct,osl,rfl,lk,hcd⟩:=F.ex
  have e:cdv=.ref c:=hc
  subst e
  exact fn_of lk hcd S len fun A outer s H vs Q E hr hsp=>hbody A outer s H vs Q E hr hsp
end
end L2

namespace L2
open PySem PySem.Spec PyProof.Rows
def rSort (K:PySem.W.Frag):List V->Hp->VK->Prop:=fun vs H Q=>match vs with
  | [.ref a]=>∃ zs:List Str,Sq K H a (zs.map V.str)/\zs.length < 64/\∀ ws:List Str,ws.Perm zs->sortedS ws=true->nw H (.lst (ws.map V.str)) Q
  | _=>False
theorem ev_rSort {K:PySem.W.Frag}{a:Addr}{H:Hp}{Q:VK}:rSort K [.ref a] H Q=(∃ zs:List Str,Sq K H a (zs.map V.str)/\zs.length < 64/\∀ ws:List Str,ws.Perm zs->sortedS ws=true->nw H (.lst (ws.map V.str)) Q):=propext Iff.rfl
theorem strs_of_vals:∀ {zs:List Str}{us:List Value},Vals (zs.map V.str) us->StrsAre us zs
  | [],_,r=>by rw [List.map_nil] at r;cases r;exact .nil
  | z::zs,_,r=>by
    rw [List.map_cons] at r
    cases r with
    | cons r1 r2=>obtain ⟨t,rfl⟩:=r1;exact .cons z t (strs_of_vals r2)
theorem vals_of_strs:∀ {zs:List Str}{us:List Value},StrsAre us zs->Vals (zs.map V.str) us
  | _,_,.nil=>.nil
  | _,_,.cons z t h=>.cons ⟨t,rfl⟩ (vals_of_strs h)
section
variable {prog:Program}{w:World}{A:Around}{E:Value->Shared->Prop}{s:Shared}
theorem sort_seq {a:Addr}{T:String}{o:Obj}{vs:List Value}{n:Nat}{zs:List Str}{Q:Value->Shared->Prop} (hT:T="list" ∨ T="tuple") (ho:s.heap.get? a=some o) (hc:o.cls=.type T) (hd:o.data=.seq vs.toArray n) (hS:StrsAre vs zs) (h64:vs.length < 64)
    (k:∀ (h1 h':Heap) (out:Array Value) (ws:List Str) (c:Nat),(∀ b o,s.heap.get? b=some o->h1.get? b=some o)->(∀ b o,h1.get? b=some o->h'.get? b=some o)->h'.get? h1.objs.size=some (seqObj "list" out c)->StrsAre out.toList ws->ws.Perm zs->sortedS ws=true->Q (.ref h1.objs.size) { s with heap:=h' }) :
    wpAny (model prog w) A (call (.builtin "sorted") [.ref a]) Q E s:=by
  refine Calls.call_function_entry kind_sorted plain_sorted entry_sorted (args_sorted1 _) ?_
  unfold Builtin.«sorted»
  have hz:vs.length<=sizeLine:=Nat.le_of_lt (Nat.lt_of_lt_of_le h64 (by rw [sizeLine_eq];omega))
  refine wpAny_bind (m:=checkCount "sorted" 1 1 _) (wpAny_pure (wpAny_bind (wpAny_collect_seq a hT ho hc hd (fun h1 k1=>?_) (by rw [List.size_toArray];exact hz))))
  rw [show vs.toArray.toList=vs from by simp]
  refine wpAny_bind (wpAny_newList ?_ hz)
  have gL:(h1.push (seqObj "list" vs.toArray 0)).get? h1.objs.size=some (seqObj "list" vs.toArray 0):=Heap.get?_push_size _ rfl
  refine wpAny_bind (wpAny_holding (wpAny_call_entry slot_list_sort ⟨_,gL,rfl⟩ entry_list_sort (list_sort_treeK strKind_oneLt gL hS.keysOf (fun v₁ v₂ rest e=>keyKind_strs (by rw [← e];exact hS)) h64 fun st' a1 a2=>⟨_,rfl,wpAny_pure ⟨_,rfl,?_⟩⟩) (args_list_sort _)))
  obtain ⟨ws,b1,b2,b3⟩:=sorted_out_str hS a1 a2
  obtain ⟨e1,g1⟩:∃ e1,((h1.push (seqObj "list" vs.toArray 0)).update h1.objs.size (Obj.mapSeq fun _=>#[])).get? h1.objs.size=some (seqObj "list" #[] e1):=⟨_,get?_update_seq gL fun _=>#[]⟩
  have g2:((((h1.push (seqObj "list" vs.toArray 0)).update h1.objs.size (Obj.mapSeq fun _=>#[])).push (seqObj "tuple" vs.toArray 0)).push (seqObj "list" #[] 0)).get? h1.objs.size=some (seqObj "list" #[] e1):=Heap.get?_push_of_some _ (Heap.get?_push_of_some _ g1)
  refine show Q (.ref h1.objs.size) { s with heap:=sortedHeap (h1.push (seqObj "list" vs.toArray 0)) h1.objs.size vs ((arrOf st').map fun x=>x.2) } from ?_
  generalize (arrOf st').map (fun x=>x.2)=out at b1 ⊢
  obtain ⟨c3,g3⟩:∃ c3,(sortedHeap (h1.push (seqObj "list" vs.toArray 0)) h1.objs.size vs out).get? h1.objs.size=some (seqObj "list" out c3):=⟨_,get?_update_seq g2 fun _=>out⟩
  refine k h1 _ out ws c3 k1 (fun b o z=>?_) g3 b1 b2 b3
  have hb:h1.objs.size≠b:=Nat.ne_of_gt (Heap.lt_size z)
  exact (Heap.get?_update_other _ _ hb).trans (Heap.get?_push_of_some _ (Heap.get?_push_of_some _ ((Heap.get?_update_other _ _ hb).trans (Heap.get?_push_of_some _ z))))
end
theorem call_sort2 {X:Cx}{K:PySem.W.Frag} (hK:X.K=K):CallR X (.builtin "sorted") (rSort K):=by
  subst hK
  intro pins s σ H xs us Q I r h
  match xs,h with
  | [.ref a],h =>
    obtain ⟨zs,h1,h2,h3⟩:=h
    obtain ⟨u,rfl,r2⟩:=vals1 r
    cases r2
    have fin:∀ {T:String}{o:Obj}{its:List Value}{n:Nat},(T="list" ∨ T="tuple")->s.heap.get? a=some o->o.cls=.type T->o.data=.seq its.toArray n->Vals (zs.map V.str) its->wpAny (model X.prog X.w) X.A (call (.builtin "sorted") [.ref a]) (EP X pins σ Q) X.xe s:=fun {T o its n} hT ho hc2 hd rv=>by
      have ln:=rv.length
      rw [List.length_map] at ln
      refine sort_seq hT ho hc2 hd (strs_of_vals rv) (by omega) fun g1 h' out ws c k1 k2 hg hS hp hs=>?_
      have I1:Inv X pins σ H { s with heap:=g1 }:=I.kept (t':=s.toks) k1
      have hn:=I1.hok.fresh (Nat.le_refl g1.objs.size)
      have lw:=hp.length_eq
      refine ⟨.ref g1.objs.size,upd H g1.objs.size (.lst (ws.map V.str)),I1.laid (t':=s.toks) (o:=.lst (ws.map V.str)) k2 (Nat.le_refl _) ⟨by rw [List.length_map,lw];exact Nat.le_of_lt (Nat.lt_of_lt_of_le h2 (by rw [sizeLine_eq];omega)),out.toList,c,vals_of_strs hS,by rw [Array.toArray_toList];exact hg⟩,rfl,h3 ws hp hs _ _ hn (same_upd hn) upd_same⟩
    rcases h1 with h1 | h1
    · obtain ⟨its,rv,pl,hz⟩:=I.list h1
      obtain ⟨o,e1,e2,n,e3⟩:=pl.isList
      exact fin (.inl rfl) e1 e2 e3 rv
    · obtain ⟨its,rv,⟨o,e1,e2,n,e3⟩,hz⟩:=I.tuple h1
      exact fin (.inr rfl) e1 e2 e3 rv
def rListRev:List V->Hp->VK->Prop:=fun vs H Q=>match vs with
  | [.ref l]=>∃ xs,H l=some (.lst xs)/\nw H (.lst xs.reverse) Q
  | _=>False
def tListRev (t:TA):TE:=fun σ H Q=>t σ H fun vs H1=>rListRev vs H1 Q
theorem ap_listRev {t:TA}{σ:St}{H:Hp}{Q:VK}:tListRev t σ H Q=t σ H fun vs H1=>rListRev vs H1 Q:=propext Iff.rfl
theorem ev_rListRev {l:Addr}{H:Hp}{Q:VK}:rListRev [.ref l] H Q=(∃ xs,H l=some (.lst xs)/\nw H (.lst xs.reverse) Q):=propext Iff.rfl
theorem bt_reversed:bootBuiltins "reversed"=some (.type "reversed"):=by kernel_rfl
section
variable {prog:Program}{w:World}{A:Around}{E:Value->Shared->Prop}{s:Shared}
theorem hint_rev {r:Addr}{Q:Bool->Shared->Prop} (hT:s.TypeIs (.ref r) "list_reverseiterator") (h:Q false s):wpAny (model prog w) A (Builtin.List.listLengthHint (.ref r)) Q E s:=by
  unfold Builtin.List.listLengthHint
  refine wpAny_bind (wpAny_specialOf hT (r:=none) (by rw [typeLookup_type,builtinLookup_eq_fast];kernel_rfl) ?_)
  refine wpAny_bind (wpAny_specialOf hT (r:=some (.builtin "list_reverseiterator.__length_hint__")) (by rw [typeLookup_type,builtinLookup_eq_fast];kernel_rfl) ?_)
  generalize ei:("list_reverseiterator.__length_hint__":String)=id1
  wp_delta
  rw [show splitId id1=some ("list_reverseiterator","__length_hint__") from by subst ei;decide +kernel]
  subst ei
  refine wpAny_bind (wpAny_isInstance (T:="list_reverseiterator") (b:=true) hT (by rw [isSubtype_type];kernel_rfl) ?_)
  refine wpAny_ite_split (fun z=>absurd z (by decide)) fun _=>wpAny_ite_split (fun _=>?_) fun z=>absurd (by decide +kernel) z
  refine wpAny_ite_split (fun z=>absurd z (by decide)) fun _=>?_
  exact wpAny_pure h
theorem list_rev {l r:Addr}{vs:List Value}{Q:Value->Shared->Prop} (hh:A.handled=none) (hl:s.heap.IsList l vs.toArray) (hr:s.heap.IsRevIter r l ((vs.toArray.size:Int) - 1)) (hne:l≠r) (hn:vs.toArray.size<=sizeLine)
    (k:∀ (h':Heap) (tk:Nat) (acc:Array Value) (c:Nat),(∀ b o,b≠r->s.heap.get? b=some o->h'.get? b=some o)->h'.get? s.heap.objs.size=some { cls:=.type "list",dict:=none,data:=.seq acc c,slots:=#[] }->ItemsOf (fun i v=>vs.toArray[vs.toArray.size - 1 - i]?=some v) acc vs.toArray.size->Q (.ref s.heap.objs.size) { s with heap:=h',toks:=tk }) :
    wpAny (model prog w) A (call (.type "list") [.ref r]) Q E s:=by
  have lr:r < s.heap.objs.size:=by obtain ⟨o,e,_⟩:=hr;exact Heap.lt_size e
  have ll:l < s.heap.objs.size:=by obtain ⟨o,e,_⟩:=hl;exact Heap.lt_size e
  refine callType_codes (Q₁:=fun x s1=>x=.ref s.heap.objs.size/\s1={ s with heap:=s.heap.push { cls:=.type "list",data:=.seq #[] } }) PySem.F.called_list (PySem.F.typeCall_list_1 _) PySem.F.entry_list_init (code_list_new _ ⟨rfl,rfl⟩) fun x s1 z=>?_
  obtain ⟨rfl,rfl⟩:=z
  generalize eS:s.heap.objs.size=S at *
  have gS:(s.heap.push { cls:=.type "list",data:=.seq #[] }).get? S=some { cls:=.type "list",data:=.seq #[] }:=by rw [← eS];exact Heap.get?_push_size _ rfl
  have o1:∀ b o,s.heap.get? b=some o->(s.heap.push { cls:=.type "list",data:=.seq #[] }).get? b=some o:=fun b o z=>Heap.get?_push_of_some _ z
  generalize s.heap.push { cls:=.type "list",data:=.seq #[] }=h1 at *
  refine ⟨⟨_,gS,rfl⟩,PySem.F.args_list_init_2 _ _,?_⟩
  refine show wpAny _ _ (do let old ← Builtin.List.listItems (.ref S);Builtin.List.listUpdate (.ref S) (fun _=>#[]);letGo old.toList.reverse;Builtin.List.listExtendWith (.ref S) (.ref r) .none) _ _ _ from wpAny_bind ?_
  unfold Builtin.List.listItems
  refine wpAny_bind (wpAny_seqItems gS rfl (wpAny_pure ?_))
  refine show wpAny _ _ (updateSeq S (fun _=>#[]) >>= fun _=>letGo (#[]:Array Value).toList.reverse >>= fun _=>Builtin.List.listExtendWith (.ref S) (.ref r) .none) _ _ _ from wpAny_bind (wpAny_updateSeq gS rfl ?_)
  have gS2:=Heap.get?_update_self (Obj.mapSeq (fun _=>(#[]:Array Value))) gS rfl
  have o2:∀ b o,b≠S->h1.get? b=some o->(h1.update S (Obj.mapSeq (fun _=>(#[]:Array Value)))).get? b=some o:=fun b o hb z=>(Heap.get?_update_other _ _ (Ne.symm hb)).trans z
  generalize h1.update S (Obj.mapSeq (fun _=>(#[]:Array Value)))=h2 at *
  refine wpAny_bind (wpAny_letGo ?_)
  have hrS:r≠S:=Nat.ne_of_lt lr
  have hlS:l≠S:=Nat.ne_of_lt ll
  have hr2:h2.IsRevIter r l ((vs.toArray.size:Int) - 1):=hr.at fun o z=>o2 r o hrS (o1 r o z)
  have hl2:h2.IsList l vs.toArray:=by obtain ⟨o,z,w⟩:=hl;exact ⟨o,o2 l o hlS (o1 l o z),w⟩
  have W:=Walks.listRev (prog:=prog) (w:=w) (A:=A.in1.in1) hh r l hne vs.toArray
  have lp:∀ (h:Heap) (c1 tk:Nat),h.IsRevIter r l ((vs.toArray.size:Int) - 1)->h.IsList l vs.toArray->(∀ b o,b≠S->s.heap.get? b=some o->h.get? b=some o)->h.get? S=some { cls:=.type "list",data:=.seq #[] c1 } →
      codeAny (model prog w) A.in1 (.builtin "list.extend.loop" ⟨[.ref S,.ref r,.none],[]⟩) (wants (fun x s₂=>x=Value.none/\Q (Value.ref S) s₂) E) { s with heap:=h,toks:=tk }:=fun h c1 tk i1 i2 i3 i4=>by
    refine codeAny_extend_loopS W.toS hn S (by simp [hrS.symm,hlS.symm]) .none vs.toArray.size 0 _ #[] c1 rfl (Nat.zero_le _) ⟨Nat.zero_le _,by simpa using i1,i2⟩ i4 (ItemsOf.nil _) fun s' acc c hm gS' hacc=>?_
    rw [Moved.eq_with hm]
    refine ⟨rfl,k s'.heap s'.toks acc c (fun b o hb z=>hm.heap b o ?_ (i3 b o ?_ z)) gS' hacc⟩
    · have:=Heap.lt_size z
      rw [eS] at this
      simp [hb,Nat.ne_of_lt this]
    · have:=Heap.lt_size z
      rw [eS] at this
      exact Nat.ne_of_lt this
  have i3:∀ b o,b≠S->s.heap.get? b=some o->h2.get? b=some o:=fun b o hb z=>o2 b o hb (o1 b o z)
  unfold Builtin.List.listExtendWith
  refine wpAny_bind (wpAny_typeOf (T:="list_reverseiterator") hr2.typeIs ?_)
  have e1:Builtin.List.listSameRef (.ref S) (.ref r)=false:=by simp [Builtin.List.listSameRef,hrS.symm]
  have e2:(Value.type "list_reverseiterator" == Value.type "list")=false:=by decide
  have e3:(Value.type "list_reverseiterator" == Value.type "tuple")=false:=by decide
  simp only [e1,e2,e3,Bool.or_false,Bool.false_eq_true,if_false]
  refine wpAny_bind (wpAny_pyIter_revIter hr2 (wpAny_bind (wpAny_holding (hint_rev hr2.typeIs ?_))))
  refine wpAny_ite_split (fun _=>?_) fun _=>wpAny_pure ⟨plainId_quiet PySem.F.plain_extend_loop _,lp h2 _ _ hr2 hl2 i3 gS2⟩
  refine wpAny_bind (wpAny_rule (wpAny_bind ?_))
  refine show wpAny _ _ (updateSeq S (·.push .none) >>= fun _=>updateSeq S (·.pop)) _ _ _ from wpAny_bind (wpAny_updateSeq gS2 rfl ?_)
  have gS3:=Heap.get?_update_self (Obj.mapSeq (·.push Value.none)) gS2 rfl
  refine wpAny_updateSeq (hz:=by seq_fits) gS3 rfl ?_
  have gS4:=Heap.get?_update_self (Obj.mapSeq (·.pop)) gS3 rfl
  have o3:∀ b o,b≠S->h2.get? b=some o->((h2.update S (Obj.mapSeq (·.push Value.none))).update S (Obj.mapSeq (·.pop))).get? b=some o:=fun b o hb z=>(Heap.get?_update_other _ _ (Ne.symm hb)).trans ((Heap.get?_update_other _ _ (Ne.symm hb)).trans z)
  refine wpAny_pure ⟨plainId_quiet PySem.F.plain_extend_loop _,lp _ _ _ (hr2.at fun o z=>o3 r o hrS z) ?_ (fun b o hb z=>o3 b o hb (i3 b o hb z)) gS4⟩
  obtain ⟨o,z,w⟩:=hl2
  exact ⟨o,o3 l o hlS z,w⟩
end
theorem pe_listRev {X:Cx}{e:Expr}{t:TA}{p1 p2 pos1 pos2:Pos} (hc:X.calm=true) (hm1:X.mg "list"=none) (hm2:X.mg "reversed"=none) (ha:PA X [e] t) (hg1:X.env.kindOf "list"=some .globalImplicit:=by kernel_rfl) (hg2:X.env.kindOf "reversed"=some .globalImplicit:=by kernel_rfl)
    (hs:noStars [e]=true:=by kernel_rfl):PE X (.Call (.Name "list" p1) [.Call (.Name "reversed" p2) [e] [] pos2] [] pos1) (tListRev t):=by
  intro pins s σ H Q I h
  refine wpAny_Call_Name_kw (ld_blt I hg1 hm1 bt_list ?_ (by decide) (by decide))
  refine PyProof.Rows.callWith_type1 (Calls.spliced_cons (wpAny_Call_Name_kw (ld_blt I hg2 hm2 bt_reversed ?_ (by decide) (by decide)))) rfl rfl
  refine PyProof.Rows.callWith_type1 (thn (ha pos2 pins s σ H _ I h) fun us s1 ⟨vs,H1,I1,r1,q1⟩=>?_) (starEach_cons (noStars_tail hs).1) rfl
  match vs,q1 with
  | [.ref l],q1 =>
    obtain ⟨xs,hl,q⟩:=q1
    obtain ⟨u,rfl,r2⟩:=vals1 r1
    cases r2
    obtain ⟨its,rv,pl,hz⟩:=I1.list (.of hl)
    have ln:=rv.length
    refine call_reversed_list pl.isList (Calls.spliced_nil ?_)
    have ll:l < s1.heap.objs.size:=by obtain ⟨o,z,_⟩:=pl.isList;exact Heap.lt_size z
    refine list_rev (s:={ s1 with heap:=s1.heap.push (revObj l ((its.toArray.size:Int) - 1)) }) (I1.ok.hd hc) ?_ ⟨_,Heap.get?_push_size _ rfl,rfl,rfl⟩ (Nat.ne_of_lt ll) (by rw [List.size_toArray,← ln];exact hz) fun h' tk acc c kp gS hacc=>?_
    · obtain ⟨o,z,w⟩:=pl.isList
      exact ⟨o,Heap.get?_push_of_some _ z,w⟩
    have lS:s1.heap.objs.size<=(s1.heap.push (revObj l ((its.toArray.size:Int) - 1))).objs.size:=by rw [Heap.size_push];exact Nat.le_succ _
    have kp1:∀ b o,s1.heap.get? b=some o->h'.get? b=some o:=fun b o z=>kp b o (Nat.ne_of_lt (Heap.lt_size z)) (Heap.get?_push_of_some _ z)
    have hv:Vals xs.reverse acc.toList:=by
      refine vals_tab (by rw [List.length_reverse,Array.length_toList];exact (ln.trans (by simp)).trans hacc.1.symm) fun i w e=>?_
      have hi:i < xs.length:=by have:=(List.getElem?_eq_some_iff.mp e).1;rwa [List.length_reverse] at this
      have hi2:i < acc.size:=by rw [hacc.1,List.size_toArray,← ln];exact hi
      have e2:=hacc.2 i acc[i] (Array.getElem?_eq_getElem hi2)
      rw [List.getElem?_reverse hi] at e
      have e3:its[xs.length - 1 - i]?=some acc[i]:=by
        have:its.toArray[its.toArray.size - 1 - i]?=some acc[i]:=e2
        rw [List.size_toArray,← ln] at this
        simpa using this
      obtain ⟨v',h1,h2⟩:=vals_at rv e3
      rw [e] at h1
      cases h1
      exact ⟨acc[i],by rw [Array.getElem?_toList,Array.getElem?_eq_getElem hi2],h2⟩
    have hn:=I1.hok.fresh lS
    exact ⟨.ref _,_,I1.laid (t':=tk) (o:=.lst xs.reverse) kp1 lS ⟨by rw [List.length_reverse];exact hz,acc.toList,c,hv,by rw [Array.toArray_toList];exact gS⟩,rfl,q _ _ hn (same_upd hn) upd_same⟩
section
variable {α:Type}
theorem bind0 {p:List α->Prop} (h:p []) (us:List α) (e:us.length=0):p us:=by
  cases us with
  | nil=>exact h
  | cons _ _=>cases e
theorem bind1 {p:List α->Prop} (h:∀ a,p [a]) (us:List α) (e:us.length=1):p us:=by
  cases us with
  | nil=>cases e
  | cons a r=>exact bind0 (p:=fun r=>p (a::r)) (h a) r (Nat.succ.inj e)
theorem bind2 {p:List α->Prop} (h:∀ a b,p [a,b]) (us:List α) (e:us.length=2):p us:=by
  cases us with
  | nil=>cases e
  | cons a r=>exact bind1 (p:=fun r=>p (a::r)) (h a) r (Nat.succ.inj e)
theorem bind3 {p:List α->Prop} (h:∀ a b c,p [a,b,c]) (us:List α) (e:us.length=3):p us:=by
  cases us with
  | nil=>cases e
  | cons a r=>exact bind2 (p:=fun r=>p (a::r)) (h a) r (Nat.succ.inj e)
theorem bind4 {p:List α->Prop} (h:∀ a b c d,p [a,b,c,d]) (us:List α) (e:us.length=4):p us:=by
  cases us with
  | nil=>cases e
  | cons a r=>exact bind3 (p:=fun r=>p (a::r)) (h a) r (Nat.succ.inj e)
theorem bind5 {p:List α->Prop} (h:∀ a b c d f,p [a,b,c,d,f]) (us:List α) (e:us.length=5):p us:=by
  cases us with
  | nil=>cases e
  | cons a r=>exact bind4 (p:=fun r=>p (a::r)) (h a) r (Nat.succ.inj e)
end
end L2

namespace L2
open PySem PySem.Spec PyProof.Rows
end L2

namespace L2
section
variable {α:Type} [DecidableEq α]
theorem Wk.trans {St:Nk α->List (Nk α × Int)}{u v y:Nk α}{w w':Int} (a:Wk St u v w) (b:Wk St v y w'):Wk St u y (w + w'):=by
  induction b with
  | nil=>rw [Int.add_zero];exact a
  | snoc _ m ih=>rw [← Int.add_assoc];exact ih.snoc m
theorem Wk.nn {St:Nk α->List (Nk α × Int)}{u v:Nk α}{w:Int} (h:∀ k q,q∈St k->0<=q.2) (x:Wk St u v w):0<=w:=by
  induction x with
  | nil=>exact Int.le_refl _
  | snoc _ m ih=>have:(0:Int)<=_:=h _ _ m;simp only at this;omega
def Least (St:Nk α->List (Nk α × Int)) (u v:Nk α) (d:Int):Prop:=Wk St u v d/\∀ w,Wk St u v w->d<=w
theorem Least.eq {St:Nk α->List (Nk α × Int)}{u v:Nk α}{d d':Int} (a:Least St u v d) (b:Least St u v d'):d=d':=by
  have:=a.2 _ b.1
  have:=b.2 _ a.1
  omega
theorem Least.self {St:Nk α->List (Nk α × Int)} (h:∀ k q,q∈St k->0<=q.2) (u:Nk α):Least St u u 0:=⟨.nil,fun w x=>x.nn h⟩
structure Pri (St:Nk α->List (Nk α × Int)) (u0:Nk α) (ps:List (Nk α × Int)):Prop where
  nd:(ps.map (·.1)).Nodup
  le:∀ q∈ps,Least St u0 q.1 q.2
  all:∀ v w,Wk St u0 v w->∃ q∈ps,q.1=v
theorem Pri.get {St:Nk α->List (Nk α × Int)}{u0:Nk α}{ps:List (Nk α × Int)} (P:Pri St u0 ps) {v:Nk α}{w:Int} (x:Wk St u0 v w):∃ d,(v,d)∈ps/\d<=w:=by
  obtain ⟨⟨v',d⟩,hq,e⟩:=P.all v w x
  have e':v'=v:=e
  subst e'
  exact ⟨d,hq,(P.le _ hq).2 w x⟩
theorem pair_inj {β:Type}{ps:List (Nk α × β)} (h:(ps.map (·.1)).Nodup) {v:Nk α}{d d':β} (a:(v,d)∈ps) (b:(v,d')∈ps):d=d':=by
  induction ps with
  | nil=>cases a
  | cons q r ih =>
    rw [List.map_cons,List.nodup_cons] at h
    rcases List.mem_cons.mp a with rfl | a'
    · rcases List.mem_cons.mp b with e | b'
      · exact (Prod.mk.inj e).2.symm
      · exact absurd (List.mem_map.mpr ⟨_,b',rfl⟩) h.1
    · rcases List.mem_cons.mp b with rfl | b'
      · exact absurd (List.mem_map.mpr ⟨_,a',rfl⟩) h.1
      · exact ih h.2 a' b'
theorem Pri.same {St:Nk α->List (Nk α × Int)}{u0:Nk α}{ps qs:List (Nk α × Int)} (P:Pri St u0 ps) (Q:Pri St u0 qs) {v:Nk α}{d:Int}:(v,d)∈ps->(v,d)∈qs:=fun h=>by
  obtain ⟨d',h',_⟩:=Q.get (P.le _ h).1
  have h2:(v,d')∈qs:=h'
  have e:d=d':=(P.le _ h).eq (Q.le _ h2)
  rw [e];exact h2
theorem Sett.bound {St:Nk α->List (Nk α × Int)}{u0:Nk α}{ss:List (Ent α)} (S:Sett St u0 ss) {M:Int} (hM:0<=M) (h:∀ k q,q∈St k->q.2<=M):∀ (n:Nat) (pre:List (Ent α)) (e:Ent α) (post:List (Ent α)),ss=pre++e::post->pre.length<=n->e.d<=n * M
  | n,pre,e,post,q,hl=>by
    rcases S.rk pre e post q with ⟨_,_,hd⟩ | ⟨u,hu,c,_,hm,hd⟩
    · rw [hd];exact Int.mul_nonneg (Int.natCast_nonneg n) hM
    · obtain ⟨p1,p2,hp⟩:=List.append_of_mem hu
      have hl2:p1.length < pre.length:=by rw [hp];simp
      cases n with
      | zero=>omega
      | succ n =>
        have:=Sett.bound S hM h n p1 u (p2++e::post) (by rw [q,hp];simp) (by omega)
        have hc:c<=M:=h _ _ hm
        rw [hd]
        have e1:((n + 1:Nat):Int) * M=n * M + M:=by rw [Int.natCast_add,Int.add_mul];simp
        omega
  termination_by n=>n
theorem mulF_times (t p g:Int) (f:Bool):mulF (t * p) (t * g) f=t * mulF p g f:=by unfold mulF;split <;> rfl
theorem stepL_times {z:α}{f:Bool}{t m:Int}{l:Ln α}:stepL z f (t * m) l=(stepL z f m l).map fun q=>(q.1,t * q.2):=by
  unfold stepL
  split
  · rfl
  · rename_i x _
    have e:x * (t * m)=t * (x * m):=by rw [← Int.mul_assoc,← Int.mul_assoc,Int.mul_comm x t]
    split
    · rw [e];rfl
    · split
      · rw [e];rfl
      · rfl
theorem stN_times {bs:List α}{ls:List (Ln α)}{t p g:Int}{u:Nk α}{q:Nk α × Int}:q∈stN bs ls (t * p) (t * g) u ↔ ∃ c,(q.1,c)∈stN bs ls p g u/\q.2=t * c:=by
  rw [mem_stN]
  constructor
  · rintro (⟨h1,h2⟩ | ⟨l,h1,h2⟩)
    · subst h2
      exact ⟨0,mem_stN.mpr (.inl ⟨h1,rfl⟩),by simp⟩
    · rw [mulF_times,stepL_times] at h2
      obtain ⟨q',hq',e⟩:=Option.map_eq_some_iff.mp h2
      subst e
      exact ⟨q'.2,mem_stN.mpr (.inr ⟨l,h1,hq'⟩),rfl⟩
  · rintro ⟨c,h,e⟩
    rcases mem_stN.mp h with ⟨h1,h2⟩ | ⟨l,h1,h2⟩
    · left
      refine ⟨h1,?_⟩
      have:=Prod.mk.inj h2
      obtain ⟨x,y⟩:=q
      simp only at this e
      rw [this.1,e,this.2,Int.mul_zero]
    · right
      refine ⟨l,h1,?_⟩
      rw [mulF_times,stepL_times,h2]
      obtain ⟨x,y⟩:=q
      simp only at e
      simp [e]
theorem Wk.times {bs:List α}{ls:List (Ln α)}{t p g:Int}{u v:Nk α}{w:Int} (x:Wk (stN bs ls p g) u v w):Wk (stN bs ls (t * p) (t * g)) u v (t * w):=by
  induction x with
  | nil=>rw [Int.mul_zero];exact .nil
  | @snoc v x w c _ m ih=>rw [Int.mul_add];exact ih.snoc (stN_times.mpr ⟨c,m,rfl⟩)
theorem Wk.untimes {bs:List α}{ls:List (Ln α)}{t p g:Int}{u v:Nk α}{w:Int} (x:Wk (stN bs ls (t * p) (t * g)) u v w):∃ w',Wk (stN bs ls p g) u v w'/\w=t * w':=by
  induction x with
  | nil=>exact ⟨0,.nil,by simp⟩
  | @snoc v x w c _ m ih =>
    obtain ⟨w',h1,h2⟩:=ih
    obtain ⟨c',h3,h4⟩:=stN_times.mp m
    have h4':c=t * c':=h4
    exact ⟨w' + c',h1.snoc h3,by rw [Int.mul_add,h2,h4']⟩
theorem Least.times {bs:List α}{ls:List (Ln α)}{t p g:Int} (ht:0<=t) {u v:Nk α}{d:Int} (x:Least (stN bs ls p g) u v d):Least (stN bs ls (t * p) (t * g)) u v (t * d) :=
  ⟨x.1.times,fun w y=>by obtain ⟨w',h1,rfl⟩:=y.untimes;exact Int.mul_le_mul_of_nonneg_left (x.2 w' h1) ht⟩
theorem Pri.times {bs:List α}{ls:List (Ln α)}{t p g:Int} (ht:0<=t) {u:Nk α}{ps:List (Nk α × Int)} (P:Pri (stN bs ls p g) u ps):Pri (stN bs ls (t * p) (t * g)) u (ps.map fun q=>(q.1,t * q.2)):=by
  refine ⟨?_,fun q hq=>?_,fun v w x=>?_⟩
  · rw [List.map_map];exact P.nd
  · obtain ⟨q',h',rfl⟩:=List.mem_map.mp hq
    exact (P.le q' h').times ht
  · obtain ⟨w',h1,_⟩:=x.untimes
    obtain ⟨q,hq,e⟩:=P.all v w' h1
    exact ⟨_,List.mem_map.mpr ⟨q,hq,rfl⟩,e⟩
end
end L2
namespace L2
section
variable {α:Type} [DecidableEq α]
def putP (ps:List (Nk α × Int)) (q:Nk α × Int):List (Nk α × Int):=if ps.any (fun x=>x.1 == q.1) then ps.map (fun x=>if x.1 == q.1 then q else x) else ps++[q]
theorem mem_putP {ps:List (Nk α × Int)}{q x:Nk α × Int}:x∈putP ps q ↔ x=q ∨ (x∈ps/\x.1≠q.1):=by
  unfold putP
  split
  · rename_i h
    obtain ⟨y,hy,hk⟩:=List.any_eq_true.mp h
    rw [List.mem_map]
    constructor
    · rintro ⟨z,hz,rfl⟩
      split
      · exact .inl rfl
      · rename_i hn
        exact .inr ⟨hz,fun q=>hn (by simp [q])⟩
    · rintro (rfl | ⟨hx,hn⟩)
      · exact ⟨y,hy,by rw [if_pos hk]⟩
      · exact ⟨x,hx,by rw [if_neg (by simpa using hn)]⟩
  · rename_i h
    have h':∀ y∈ps,y.1≠q.1:=fun y hy e=>h (List.any_eq_true.mpr ⟨y,hy,by simp [e]⟩)
    rw [List.mem_append,List.mem_singleton]
    constructor
    · rintro (hx | rfl)
      · exact .inr ⟨hx,h' x hx⟩
      · exact .inl rfl
    · rintro (rfl | ⟨hx,_⟩)
      · exact .inr rfl
      · exact .inl hx
theorem keys_putP (ps:List (Nk α × Int)) (q:Nk α × Int):((putP ps q).map (·.1)=ps.map (·.1)/\q.1∈ps.map (·.1)) ∨ ((putP ps q).map (·.1)=ps.map (·.1)++[q.1]/\q.1 ∉ ps.map (·.1)):=by
  unfold putP
  split
  · rename_i h
    left
    refine ⟨?_,?_⟩
    · rw [List.map_map]
      apply List.map_congr_left
      intro x _
      show (if x.1 == q.1 then q else x).1=x.1
      split
      · rename_i h;exact (eq_of_beq h).symm
      · rfl
    · obtain ⟨y,hy,hk⟩:=List.any_eq_true.mp h
      exact List.mem_map.mpr ⟨y,hy,eq_of_beq hk⟩
  · rename_i h
    right
    refine ⟨by simp,fun e=>?_⟩
    obtain ⟨y,hy,hk⟩:=List.mem_map.mp e
    exact h (List.any_eq_true.mpr ⟨y,hy,by simp [hk]⟩)
theorem nodup_putP {ps:List (Nk α × Int)}{q:Nk α × Int} (h:(ps.map (·.1)).Nodup):((putP ps q).map (·.1)).Nodup:=by
  rcases keys_putP ps q with e | ⟨e,n⟩
  · rw [e.1];exact h
  · rw [e,List.nodup_append]
    exact ⟨h,by simp,fun a ha b hb=>by rw [List.mem_singleton.mp hb];exact fun z=>n (z ▸ ha)⟩
def tellP (ps:List (Nk α × Int)) (v:Nk α):Option Int:=(ps.find? fun x=>x.1 == v).map (·.2)
theorem tell_mem {ps:List (Nk α × Int)} (h:(ps.map (·.1)).Nodup) {v:Nk α}{d:Int} (m:(v,d)∈ps):tellP ps v=some d:=by
  unfold tellP
  cases e:ps.find? fun x=>x.1 == v with
  | none=>exact absurd (List.find?_eq_none.mp e _ m) (by simp)
  | some x =>
    obtain ⟨v',d'⟩:=x
    have h1:v'=v:=by simpa using List.find?_some e
    have h2:=List.mem_of_find?_eq_some e
    subst h1
    rw [pair_inj h h2 m];rfl
theorem tell_none {ps:List (Nk α × Int)}{v:Nk α} (h:v ∉ ps.map (·.1)):tellP ps v=none:=by
  unfold tellP
  rw [List.find?_eq_none.mpr (fun x hx=>by simp;exact fun e=>h (List.mem_map.mpr ⟨x,hx,e⟩))];rfl
def mu (B:Nat) (U:List (Nk α)) (ps:List (Nk α × Int)):Nat:=(U.map fun v=>((tellP ps v).map Int.toNat).getD B).sum
structure Bel (St:Nk α->List (Nk α × Int)) (M:Int) (C:Nk α->Nk α × Int->Prop) (u0:Nk α) (ps:List (Nk α × Int)):Prop where
  nd:(ps.map (·.1)).Nodup
  wk:∀ q∈ps,Wk St u0 q.1 q.2
  st:∃ d,(u0,d)∈ps/\d<=0
  cl:∀ q∈ps,∀ e,C q.1 e->∃ d,(e.1,d)∈ps/\d<=q.2 + e.2
  bd:∀ q∈ps,q.2 + M<=ps.length * M
theorem Bel.start (St:Nk α->List (Nk α × Int)) (M:Int) (u0:Nk α):Bel St M (fun k _=>k≠u0) u0 [(u0,0)] where
  nd:=by simp
  wk:=fun q h=>by rw [List.mem_singleton.mp h];exact .nil
  st:=⟨0,by simp,Int.le_refl _⟩
  cl:=fun q h e c=>by rw [List.mem_singleton.mp h] at c;exact absurd rfl c
  bd:=fun q h=>by rw [List.mem_singleton.mp h];simp
theorem Bel.imp {St:Nk α->List (Nk α × Int)}{M:Int}{C C':Nk α->Nk α × Int->Prop}{u0:Nk α}{ps:List (Nk α × Int)} (D:Bel St M C u0 ps) (h:∀ k p,C' k p->C k p):Bel St M C' u0 ps :=
  ⟨D.nd,D.wk,D.st,fun x hx p hp=>D.cl x hx p (h _ _ hp),D.bd⟩
theorem Bel.pass {St:Nk α->List (Nk α × Int)}{M:Int}{C:Nk α->Nk α × Int->Prop}{u0:Nk α}{ps:List (Nk α × Int)} (D:Bel St M C u0 ps) {h:Nk α}{dh:Int} (hh:(h,dh)∈ps) {e:Nk α × Int}{d:Int} (he:(e.1,d)∈ps) (hd:d<=dh + e.2) :
    Bel St M (fun k p=>C k p ∨ (k=h/\p=e)) u0 ps :=
  ⟨D.nd,D.wk,D.st,fun x hx p hp=>by
    rcases hp with hp | ⟨h1,rfl⟩
    · exact D.cl x hx p hp
    · obtain ⟨k,y⟩:=x
      have h1':k=h:=h1
      subst h1'
      rw [pair_inj D.nd hx hh]
      exact ⟨d,he,hd⟩,D.bd⟩
theorem Bel.put {St:Nk α->List (Nk α × Int)}{M:Int} (hM:0<=M) (hS:∀ k q,q∈St k->0<=q.2/\q.2<=M) {C:Nk α->Nk α × Int->Prop}{u0:Nk α}{ps:List (Nk α × Int)} (D:Bel St M C u0 ps) {h:Nk α}{dh:Int} (hh:(h,dh)∈ps) {e:Nk α × Int} (he:e∈St h)
    (hl:∀ x∈ps,x.1=e.1->dh + e.2 < x.2):Bel St M (fun k p=>(C k p/\k≠e.1) ∨ (k=h/\p=e)) u0 (putP ps (e.1,dh + e.2)):=by
  have hc:=hS h e he
  have hne:h≠e.1:=fun z=>by have:=hl _ hh z;simp only at this;omega
  refine ⟨nodup_putP D.nd,fun q hq=>?_,?_,fun q hq p hp=>?_,fun q hq=>?_⟩
  · rcases mem_putP.mp hq with rfl | ⟨hq,_⟩
    · exact (D.wk _ hh).snoc he
    · exact D.wk q hq
  · obtain ⟨d,hd,d0⟩:=D.st
    by_cases z:u0=e.1
    · have:=hl _ hd z
      simp only at this
      exact ⟨dh + e.2,mem_putP.mpr (.inl (by rw [z])),by omega⟩
    · exact ⟨d,mem_putP.mpr (.inr ⟨hd,z⟩),d0⟩
  · have up:∀ {v d w},(v,d)∈ps->d<=w->∃ d,(v,d)∈putP ps (e.1,dh + e.2)/\d<=w:=fun {v d w} hv hd=>by
      by_cases z:v=e.1
      · have:=hl _ hv z
        simp only at this
        exact ⟨dh + e.2,mem_putP.mpr (.inl (by rw [z])),by omega⟩
      · exact ⟨d,mem_putP.mpr (.inr ⟨hv,z⟩),hd⟩
    rcases mem_putP.mp hq with rfl | ⟨hq',hqn⟩
    · rcases hp with ⟨_,z⟩ | ⟨z,_⟩
      · exact absurd rfl z
      · exact absurd z.symm hne
    · rcases hp with ⟨hp,_⟩ | ⟨z,rfl⟩
      · obtain ⟨d,hd,le⟩:=D.cl q hq' p hp
        exact up hd le
      · obtain ⟨k,y⟩:=q
        have z':k=h:=z
        subst z'
        rw [pair_inj D.nd hq' hh]
        exact ⟨_,mem_putP.mpr (.inl rfl),Int.le_refl _⟩
  · have b0:=D.bd _ hh
    simp only at b0
    rcases keys_putP ps (e.1,dh + e.2) with ⟨k1,k2⟩ | ⟨k1,k2⟩
    · have ln:(putP ps (e.1,dh + e.2)).length=ps.length:=by have:=congrArg List.length k1;simpa using this
      rw [ln]
      rcases mem_putP.mp hq with rfl | ⟨hq,_⟩
      · obtain ⟨x,hx,hxe⟩:=List.mem_map.mp k2
        have:=hl x hx hxe
        have:=D.bd x hx
        show dh + e.2 + M<=_
        omega
      · exact D.bd q hq
    · have ln:(putP ps (e.1,dh + e.2)).length=ps.length + 1:=by have:=congrArg List.length k1;simpa using this
      have e1:((ps.length + 1:Nat):Int) * M=ps.length * M + M:=by rw [Int.natCast_add,Int.add_mul];simp
      rw [ln,e1]
      rcases mem_putP.mp hq with rfl | ⟨hq,_⟩
      · show dh + e.2 + M<=_
        omega
      · have:=D.bd q hq
        omega
theorem Bel.done {St:Nk α->List (Nk α × Int)}{M:Int} (hS:∀ k q,q∈St k->0<=q.2/\q.2<=M) {u0:Nk α}{ps:List (Nk α × Int)} (D:Bel St M (fun k p=>p∈St k) u0 ps):Pri St u0 ps:=by
  have key:∀ v w,Wk St u0 v w->∃ d,(v,d)∈ps/\d<=w:=fun v w x=>by
    induction x with
    | nil =>
      exact D.st
    | @snoc v x w c _ m ih =>
      obtain ⟨d,hd,le⟩:=ih
      obtain ⟨d',h1,h2⟩:=D.cl (v,d) hd (x,c) m
      simp only at h2
      exact ⟨d',h1,by omega⟩
  exact ⟨D.nd,fun q hq=>⟨D.wk q hq,fun w x=>by
    obtain ⟨d,hd,le⟩:=key q.1 w x
    obtain ⟨v,y⟩:=q
    rw [pair_inj D.nd hq hd];exact le⟩,fun v w x=>by obtain ⟨d,hd,_⟩:=key v w x;exact ⟨_,hd,rfl⟩⟩
inductive Trail (St:Nk α->List (Nk α × Int)):List (Nk α)->Int->Prop
  | one (u:Nk α):Trail St [u] 0
  | cons {u v:Nk α}{us:List (Nk α)}{c w:Int}:(v,c)∈St u->Trail St (v::us) w->Trail St (u::v::us) (c + w)
theorem Trail.costs {St:Nk α->List (Nk α × Int)}{us:List (Nk α)}{d:Int} (t:Trail St us d):∃ cs:List Int,cs.length + 1=us.length/\(∀ (i:Nat) u v c,us[i]?=some u->us[i + 1]?=some v->cs[i]?=some c->(v,c)∈St u)/\cs.sum=d:=by
  induction t with
  | one u=>exact ⟨[],rfl,fun i u v c _ _ h=>by simp at h,rfl⟩
  | @cons u v us c w m _ ih =>
    obtain ⟨cs,h1,h2,h3⟩:=ih
    refine ⟨c::cs,by simp at h1 ⊢;omega,fun i a b x ha hb hx=>?_,by rw [List.sum_cons,h3]⟩
    cases i with
    | zero =>
      simp at ha hb hx
      subst ha hb hx
      exact m
    | succ i=>exact h2 i a b x (by simpa using ha) (by simpa using hb) (by simpa using hx)
end
end L2

namespace L2
open PySem PySem.Spec PyProof.Rows
theorem Room.hu9 {k:Nat}{A:Around} (r:Room k A):A.units + 9 < cLine:=by have:=r.un;omega
theorem RoomN.hu9 {k:Nat}{A:Around} (r:RoomN k A):A.units + 9 < cLine:=by have:=r.un;omega
inductive EqR (K:PySem.W.Frag) (H:Hp):Nat->V->V->Bool->Prop
  | same {n:Nat}{x:V} (h:leafV x=true):EqR K H n x x true
  | flat {n:Nat}{x y:V} (h1:flatV x=true) (h2:flatV y=true):EqR K H n x y (eqV x y)
  | lst {n:Nat}{p q:Addr}{xs ys:List V} (e:Nat->Bool) (hne:p≠q) (h1:SqL K H p xs) (h2:SqL K H q ys) (hl:xs.length=ys.length) (h:∀ (i:Nat) x y,xs[i]?=some x->ys[i]?=some y->EqR K H n x y (e i)):EqR K H (n + 1) (.ref p) (.ref q) ((List.range xs.length).all e)
  | tup {n:Nat}{p q:Addr}{xs ys:List V} (e:Nat->Bool) (hne:p≠q) (h1:SqT K H p xs) (h2:SqT K H q ys) (h:∀ (i:Nat) x y,xs[i]?=some x->ys[i]?=some y->EqR K H n x y (e i)):EqR K H (n + 1) (.ref p) (.ref q) ((List.range (min xs.length ys.length)).all e && xs.length == ys.length)
theorem EqR.at {X:Cx}{pins:List (Addr × Obj)}{s:Shared}{σ:St}{H:Hp} (I:Inv X pins σ H s) {n:Nat}{x y:V}{b:Bool} (h:EqR X.K H n x y b):∀ {A:Around}{u v:Value},A.units + n < cLine->RelV x u->RelV y v->SeqAt.EqAt A s u v b:=by
  induction h with
  | same h=>intro A u v _ ru rv;exact eqAt_leaf ru rv h
  | flat h1 h2=>intro A u v _ ru rv;exact eqAt_V ru rv h1 h2
  | @lst n p q xs ys e hne h1 h2 hl _ ih =>
    intro A u v hu ru rv
    cases ru;cases rv
    obtain ⟨us,r1,p1,_⟩:=I.list h1
    obtain ⟨vs,r2,p2,_⟩:=I.list h2
    have l1:=r1.length
    have l2:=r2.length
    have:=SeqAt.RcAt.lists (A:=A) (s:=s) (e:=e) p1.isList p2.isList (by simp only [List.size_toArray];omega) (by omega) fun j j1 j2=>by
      obtain ⟨x,ex,rx⟩:=getD_vals r1 j1
      obtain ⟨y,ey,ry⟩:=getD_vals r2 j2
      exact ih j x y ex ey (show A.units + 1 + n < cLine by omega) rx ry
    rw [List.size_toArray,← l1] at this
    exact SeqAt.EqAt.of_refs hne this
  | @tup n p q xs ys e hne h1 h2 _ ih =>
    intro A u v hu ru rv
    cases ru;cases rv
    obtain ⟨us,r1,p1,_⟩:=I.tuple h1
    obtain ⟨vs,r2,p2,_⟩:=I.tuple h2
    have l1:=r1.length
    have l2:=r2.length
    have:=SeqAt.RcAt.tuples (A:=A) (s:=s) (e:=e) p1 p2 (by omega) fun j j1 j2=>by
      obtain ⟨x,ex,rx⟩:=getD_vals r1 j1
      obtain ⟨y,ey,ry⟩:=getD_vals r2 j2
      exact ih j x y ex ey (show A.units + 1 + n < cLine by omega) rx ry
    rw [List.size_toArray,List.size_toArray,← l1,← l2] at this
    exact SeqAt.EqAt.of_refs hne this
section
variable {X:Cx}
end
def refP (e:V->Bool):Value->Bool
  | .ref a=>e (.ref a)
  | _=>false
theorem vals_any {xs:List V}{us:List Value} (r:Vals xs us) (e:V->Bool) (h:∀ v∈xs,∃ a,v=.ref a):us.any (refP e)=xs.any e/\us.countP (refP e)=xs.countP e:=by
  induction r with
  | nil=>exact ⟨rfl,rfl⟩
  | @cons x u xs us r1 r2 ih =>
    obtain ⟨a,rfl⟩:=h x List.mem_cons_self
    cases r1
    have:=ih fun v hv=>h v (List.mem_cons_of_mem _ hv)
    rw [List.any_cons,List.any_cons,List.countP_cons,List.countP_cons,this.1,this.2]
    exact ⟨rfl,rfl⟩
def InR (K:PySem.W.Frag) (H:Hp) (x:V) (p:Addr) (xs:List V) (e:V->Bool):Prop:=∃ n,n<=6/\SqL K H p xs/\(∀ v∈xs,∃ a,v=.ref a)/\∀ v∈xs,EqR K H n v x (e v)
section
variable {X:Cx}
theorem InR.each {pins:List (Addr × Obj)}{s:Shared}{σ:St}{H:Hp} (I:Inv X pins σ H s) (hu:X.A.units + 9 < cLine) {x:V}{p:Addr}{xs:List V}{e:V->Bool} (h:InR X.K H x p xs e) {u:Value} (ru:RelV x u) :
    ∃ its,Vals xs its/\s.heap.IsList p its.toArray/\(∀ y,y∈its.toArray->SeqAt.EqAt X.A.in1 s y u (refP e y))/\its.any (refP e)=xs.any e/\its.countP (refP e)=xs.countP e:=by
  obtain ⟨n,hn,h1,h2,h3⟩:=h
  obtain ⟨its,r,pl,_⟩:=I.list h1
  obtain ⟨a1,a2⟩:=vals_any r e h2
  refine ⟨its,r,pl.isList,fun y hy=>?_,a1,a2⟩
  obtain ⟨j,hj,rfl⟩:=Array.getElem_of_mem hy
  obtain ⟨v,ev,rv⟩:=getD_vals r hj
  have hv:=List.mem_of_getElem? ev
  obtain ⟨a,rfl⟩:=h2 v hv
  have e1:=(h3 _ hv).at I (A:=X.A.in1) (show X.A.units + 1 + n < cLine by omega) rv ru
  rw [show its.toArray[j]=Value.ref a from rv] at e1 ⊢
  exact e1
end
end L2

namespace L2
open PySem PySem.Spec PyProof.Rows
end L2

namespace L2
open PySem PySem.Spec PyProof.Rows
section
variable {prog:Program}{w:World}{A:Around}{E:Value->Shared->Prop}{s:Shared}
end
section
variable {prog:Program}{w:World}{A:Around}{R:Result->Shared->Prop}{c:Addr}{fp wr:List Addr}{G:Array GenState->Array GenState->Prop}{n:Nat}{Pv:Nat->Value->Prop}{Sv:Nat->Shared->Prop}
end
end L2
namespace L2
open PySem PySem.Spec PyProof.Rows
section
variable {prog:Program}{w:World}{A:Around}{E:Value->Shared->Prop}{s:Shared}
end
end L2
namespace L2
open PySem PySem.Spec PyProof.Rows
section
variable {prog:Program}{w:World}{A:Around}{E:Value->Shared->Prop}{s:Shared}
end
end L2
namespace L2
open PySem PySem.Spec PyProof.Rows
end L2

namespace L2
open PySem PySem.Spec PyProof.Rows
section
variable {prog:Program}{w:World}{K:Type} [DecidableEq K] {knd:HeapKind prog w K}{A:Around}{E:Value->Shared->Prop}{s:Shared}{a b:Addr}{xs ys:List (K × Addr × Value)}
theorem same_heap {nm:String}{Q:Bool->Shared->Prop} (ha:(a == sysModules)=false) (hb:(b == sysModules)=false) (hu:knd.room A) (da:s.heap.DictOfH knd a xs) (db:s.heap.DictOfH knd b ys) (hl:xs.length=ys.length)
    (hv:∀ q∈xs,∃ p n t u,atKey ys q.1=some p/\q.2.2=.int n t/\p.2=.int n u) (h:Q true s):wpAny (model prog w) A (Builtin.Dict.samePairs nm a b) Q E s:=by
  obtain ⟨oa,es,ep,f1,f2,f3,f4,f5,f6⟩:=da
  obtain ⟨ob,es',ep',g1,g2,g3,g4,g5,g6⟩:=db
  have la:es.size=xs.length:=size_of_entries f4
  have lb:es'.size=ys.length:=size_of_entries g4
  unfold Builtin.Dict.samePairs Builtin.Dict.showsAll
  rw [if_neg (show ¬ (a == sysModules)=true by rw [ha];exact Bool.false_ne_true),if_neg (show ¬ (b == sysModules)=true by rw [hb];exact Bool.false_ne_true)]
  refine wpAny_bind (wpAny_pure (wpAny_bind (wpAny_pure (wpAny_bind (wpAny_dictEntries f1 f3 ?_)))))
  dsimp only
  refine wpAny_bind (wpAny_dictEntries g1 g3 ?_)
  rw [if_neg (by rw [la,lb,hl];simp)]
  refine wpAny_bind (wpAny_dictEpoch f1 f3 (wpAny_bind ?_))
  rw [Std.Legacy.Range.forIn_eq_forIn_range']
  simp only [Std.Legacy.Range.size,Nat.sub_zero,Nat.add_sub_cancel,Nat.div_one]
  refine wpAny_forIn_list _ (fun rest q s'=>s'=s/\q=(none,())/\∃ i,rest=List.range' i (es.size - i)/\i<=es.size) _ ?_ ?_ _ _ ⟨rfl,rfl,0,by simp,Nat.zero_le _⟩
  · rintro x rest q s' ⟨rfl,rfl,i,hr,hi⟩
    have hlt:i < es.size:=by
      rcases Nat.lt_or_ge i es.size with h | h
      · exact h
      · rw [Nat.sub_eq_zero_of_le h] at hr;simp at hr
    obtain ⟨rfl,hrest⟩:x=i/\rest=List.range' (i + 1) (es.size - (i + 1)):=by
      have e:es.size - i=(es.size - (i + 1)) + 1:=by omega
      rw [e,List.range'_succ] at hr
      injection hr with h1 h2
      exact ⟨h1,h2⟩
    have hx:x < xs.length:=by omega
    have ex:es[x]?=some (entryOfKey knd xs[x]):=by rw [entry_at f4 x,List.getElem?_eq_getElem hx];rfl
    obtain ⟨p,n,t,u,e1,e2,e3⟩:=hv _ (List.getElem_mem hx)
    refine wpAny_bind (wpAny_dictEntries f1 f3 ?_)
    rw [ex]
    show wpAny _ _ (holding [(entryOfKey knd xs[x]).key,(entryOfKey knd xs[x]).val] _ >>= _) _ _ _
    refine wpAny_bind (wpAny_holding (wpAny_bind ?_))
    refine show wpAny _ _ (dictFind b (.ref xs[x].2.1) (knd.hash xs[x].1)) _ _ _ from ?_
    refine wpAny_dictFind_heap hu (f5 _ (List.getElem_mem hx)) g1 g3 g4 g5 g6 (fun hno=>?_) fun j p' hj=>?_
    · have:=atKey_none_of_get hno
      rw [this] at e1;cases e1
    · have:=atKey_of_get g6 hj
      rw [e1] at this
      cases this
      refine wpAny_bind (wpAny_dictEntries g1 g3 ?_)
      rw [entry_at g4 j,hj]
      refine wpAny_holding ?_
      show wpAny _ _ (eqBool xs[x].2.2 p.2) _ _ _
      rw [e2,e3]
      refine wpAny_eqBool_int ?_
      rw [beq_self_eq_true]
      show wpAny _ _ (if (!true)=true then _ else _) _ _ _
      rw [if_neg (by decide)]
      refine wpAny_bind (wpAny_dictEpoch f1 f3 ?_)
      rw [if_neg (by simp)]
      exact wpAny_pure ⟨rfl,rfl,x + 1,hrest,hlt⟩
  · rintro q s' ⟨rfl,rfl,i,hr,hi⟩
    exact wpAny_pure h
theorem ne_heap {Q:Value->Shared->Prop} (ha:(a == sysModules)=false) (hb:(b == sysModules)=false) (hc:A.units < cLine) (hu:knd.room A.in1) (da:s.heap.DictOfH knd a xs) (db:s.heap.DictOfH knd b ys) (hl:xs.length=ys.length)
    (hv:∀ q∈xs,∃ p n t u,atKey ys q.1=some p/\q.2.2=.int n t/\p.2=.int n u) (h:Q (.bool false) s):wpAny (model prog w) A (compareOp .NotEq (.ref a) (.ref b)) Q E s:=by
  refine wpAny_richCompare_same_room (op:=.NotEq) da.typeIs db.typeIs PySem.F.slot_dict_ne (wpAny_call_entry PySem.F.slot_dict_ne da.typeIs PySem.F.entry_dict_ne ?_ (PySem.F.args_dict_ne_2 _ _)) hc
  show wpAny _ _ (Builtin.Dict.dictSlotArgs "__ne__" ⟨[.ref a,.ref b],[]⟩ >>= _) _ _ s
  refine wpAny_bind ?_
  unfold Builtin.Dict.dictSlotArgs
  refine wpAny_bind (wpAny_notOrdered_dict da.typeIs ?_)
  show wpAny _ _ (pure (Value.ref a,Value.ref b)) _ _ s
  refine wpAny_pure ?_
  refine wpAny_bind (wpAny_isInstance (T:="dict") db.typeIs PySem.F.sub_dict_dict ?_)
  simp only [Bool.not_true,Bool.false_eq_true,if_false]
  refine wpAny_bind (wpAny_pure (wpAny_bind (wpAny_pure ?_)))
  refine wpAny_bind (same_heap ha hb hu da db hl hv ?_)
  refine wpAny_pure ⟨_,rfl,?_,?_⟩
  · exact fun x=>nomatch x
  · simpa using h
end
def rNeT:R2:=fun x y H Q=>match x,y with
  | .ref a,.ref b=>∃ kvs lvs:List (List Key × V),H a=some (.dT kvs)/\H b=some (.dT lvs)/\kvs.length=lvs.length/\(∀ kv∈kvs,∃ n,kv.2=.int n/\valV lvs kv.1=some (.int n))/\Q (.bl false) H
  | _,_=>False
theorem ev_rNeT {a b:Addr}{H:Hp}{Q:VK}:rNeT (.ref a) (.ref b) H Q=(∃ kvs lvs:List (List Key × V),H a=some (.dT kvs)/\H b=some (.dT lvs)/\kvs.length=lvs.length/\(∀ kv∈kvs,∃ n,kv.2=.int n/\valV lvs kv.1=some (.int n))/\Q (.bl false) H):=propext Iff.rfl
theorem op_neT {X:Cx} (hu:X.A.units + 1 < cLine):OpR X (compareOp .NotEq) rNeT:=by
  intro pins s σ H x y v u Q I rx ry h
  match x,y,h with
  | .ref a,.ref b,h =>
    obtain ⟨kvs,lvs,ha,hb,hl,hv,q⟩:=h
    cases rx;cases ry
    obtain ⟨_,sa,xs,ra,da⟩:=dt_of I.hok ha
    obtain ⟨_,sb,ys,rb,db⟩:=dt_of I.hok hb
    refine ne_heap sa sb (by omega) (tupleKind_room_in1 hu) da db (by rw [← Paired.length ra,← Paired.length rb,hl]) (fun p hp=>?_) ⟨.bl false,H,I,rfl,q⟩
    obtain ⟨kv,hkv,e1,_,e3⟩:=paired_mem ra p hp
    obtain ⟨n,hn,hn2⟩:=hv kv hkv
    rw [hn] at e3
    obtain ⟨t,et⟩:=e3
    obtain ⟨w2,hw2,rw2⟩:=RelO.some_of (v:=.int n) (o:=(atKey ys kv.1).map (·.2)) (by rw [← hn2];exact rb.val kv.1)
    obtain ⟨p2,hp2,rfl⟩:=Option.map_eq_some_iff.mp hw2
    obtain ⟨u,eu⟩:=rw2
    exact ⟨p2,n,t,u,by rw [← e1];exact hp2,et,eu⟩
section
variable {prog:Program}{w:World}{A:Around}{E:Value->Shared->Prop}{s:Shared}{D:Obj}{es:Array DictEntry}{ep i:Nat}{it v d:Addr}
end
end L2

namespace L2
open PySem PySem.Spec PyProof.Rows
section
variable {X:Cx}
theorem ap_dget2 {td ty tx:TE}{σ:St}{H:Hp}{Q:VK}:tDGet2 td ty tx σ H Q=td σ H fun x H1=>∃ a,x=.ref a/\IsD H1 a/\ty σ H1 fun y H2=>tx σ H2 fun z H3=>∃ o,DGet H3 a y o/\Q (o.getD z) H3:=propext Iff.rfl
theorem pe_dget2G {o e g:Expr}{td ty tx:TE}{apos cpos:Pos} (hu:X.A.units + 1 < cLine) (ho:PE X o td) (he:PE X e ty) (hg:PE X g tx) (hbase:attributeBase o "get" X.env (eval o X.env)=eval o X.env:=by kernel_rfl) (hs:noStars [e,g]=true:=by kernel_rfl)
    (hline:(apos.endLine == cpos.line)=true:=by kernel_rfl) (htr:backTo cpos (starEach [e,g] X.env)=[(false,eval e X.env),(false,eval g X.env)]:=by rfl):PE X (.Call (.Attribute o "get" apos) [e,g] [] cpos) (tDGet2 td ty tx):=by
  refine pe_dget2 hu ho he hg ⟨hbase,?_,hline,htr⟩
  rw [backTo_all hs]
  rfl
end
def ItdF (a:Addr) (D:Obj) (kvs:List (List Key × V)) (vs:List V):It:=⟨fun i H=>i < vs.length/\H a=some (.frz D (.dT kvs)),fun i H x H'=>vs[i]?=some x/\H'=H,fun i H=>vs.length<=i/\H a=some (.frz D (.dT kvs))⟩
theorem turn_keysF {P:Program}{w:World}{K:PySem.W.Frag}{tg:Expr}{kvs:List (List Key × V)} (a it:Addr) (D:Obj) (xs:List (List Key × Addr × Value)) (es:Array DictEntry) (ep:Nat) (hd:D.data=.dict es ep) (he:es.toList=xs.map (entryOfKey (tupleKind (mixKind P w)))) :
    Turn P w K tg (ItdF a D kvs (keysV xs)) [it] it (fun i h=>h.IsKeyIter it a i es.size ep) where
  mem:=by simp
  obj:=fun i h st b hb=>by
    obtain rfl:b=it:=by simpa using hb
    obtain ⟨o,e1,e2,e3⟩:=st
    exact ⟨o,e1,fun v z=>by rw [e3] at z;cases z⟩
  keep:=fun i h h' st k=>by
    obtain ⟨o,e1,e2,e3⟩:=st
    exact ⟨o,k it (by simp) o e1,e2,e3⟩
  item:=by
    intro X hP hw hK hc i pins s σ H E I hf st hg
    subst hP hw hK
    obtain ⟨hi,hH⟩:=hg
    have g1:s.heap.get? a=some D:=(show ObjOk X.prog X.w H s.heap a (.frz D (.dT kvs)) from I.hok a _ hH).1
    have sz:es.size=xs.length:=by have:=congrArg List.length he;simpa using this
    have hi':i < xs.length:=by unfold keysV at hi;simpa using hi
    have ek:(es[i]'(by omega)).key=.ref (xs[i]).2.1:=by
      have:es.toList[i]?=(xs.map (entryOfKey (tupleKind (mixKind X.prog X.w))))[i]?:=by rw [he]
      rw [List.getElem?_map,List.getElem?_eq_getElem hi',Array.getElem?_toList,Array.getElem?_eq_getElem (by omega)] at this
      have:=Option.some.inj this
      rw [this];rfl
    refine raw_next (es:=es) st g1 hd (by omega) fun h' st' sb=>⟨_,rfl,?_⟩
    obtain ⟨o',q1,q2,q3⟩:=id st'
    refine go_of (s:={ s with heap:=h' }) q1 q2 q3 (by decide) ?_
    refine ⟨.ref (xs[i]).2.1,H,I.turnL (t':=s.toks) (ch:=[it]) hf (fun c o hc e=>(sb.2 c (by simpa using hc)).trans e),ek,⟨?_,rfl⟩,st',fun b hb=>?_⟩
    · unfold keysV;rw [List.getElem?_map,List.getElem?_eq_getElem hi'];rfl
    · exact (hf b hb).1
  done:=by
    intro X hP hw hK hc i pins s σ H E I hf st hg
    subst hP hw hK
    obtain ⟨hi,hH⟩:=hg
    have g1:s.heap.get? a=some D:=(show ObjOk X.prog X.w H s.heap a (.frz D (.dT kvs)) from I.hok a _ hH).1
    have sz:es.size=xs.length:=by have:=congrArg List.length he;simpa using this
    have hi':es.size<=i:=by unfold keysV at hi;rw [sz];simpa using hi
    refine raw_end (I.ok.hd hc) st hi' g1 hd fun h' kk=>⟨rfl,I.turnL (t':=s.toks) (ch:=[it]) hf fun c o hc e=>?_⟩
    exact kk c o (by simpa using hc) e
  self:=fun _ _ _ _ _ st h=>wpAny_pyIter_keyiter st h
def iKeysF (P:Program) (w:World) (te:TE):TI:=fun σ H R=>te σ H fun x H1=>∃ a kvs,x=.ref a/\H1 a=some (.dT kvs) ∧
  ∀ D xs H2,DRaw P w kvs D xs->(∀ q∈xs,H1 q.2.1=some (.tup (q.1.map kV)))->(∀ b o,b≠a->H1 b=some o->H2 b=some o)->H2 a=some (.frz D (.dT kvs))->R (ItdF a D kvs (keysV xs)) H2
theorem ap_iKeysF {P:Program}{w:World}{te:TE}{σ:St}{H:Hp}{R:It->Hp->Prop}:iKeysF P w te σ H R=te σ H fun x H1=>∃ a kvs,x=.ref a/\H1 a=some (.dT kvs) ∧
  ∀ D xs H2,DRaw P w kvs D xs->(∀ q∈xs,H1 q.2.1=some (.tup (q.1.map kV)))->(∀ b o,b≠a->H1 b=some o->H2 b=some o)->H2 a=some (.frz D (.dT kvs))->R (ItdF a D kvs (keysV xs)) H2:=propext Iff.rfl
theorem pi_keysF {X:Cx}{P:Program}{w:World}{tg l:Expr}{tl:TE} (hP:X.prog=P) (hw:X.w=w) (hl:PE X l tl):PI X tg l (iKeysF P w tl):=by
  subst hP hw
  intro pins s σ H R I h
  refine thn (hl pins s σ H _ I h) fun v s1 ⟨x,H1,I1,r1,q1⟩=>?_
  obtain ⟨a,kvs,rfl,ha,q⟩:=q1
  cases r1
  obtain ⟨D,xs,g1,dr,hk,hs⟩:=dt_raw I1 ha
  obtain ⟨z,g2,rel,es,ep,g3,g4,g5⟩:=id dr
  refine raw_iter hs g1 g2 g3 ?_
  have I2:Inv X pins σ (upd H1 a (.frz D (.dT kvs))) s1:=by
    refine I1.write (x:=a) (e:=a) (h':=s1.heap) (t':=s1.toks) (o:=.frz D (.dT kvs)) (by rw [ha];exact True.intro) (.inl rfl) (fun _ _ _ e=>e) ⟨D,g1⟩ ?_
    refine ⟨g1,?_⟩
    obtain ⟨y1,y2,ys,yr,y3⟩:=(show ObjOk X.prog X.w H1 s1.heap a (.dT kvs) from I1.hok a _ ha)
    refine ⟨y1,y2,ys,Paired.mapP yr fun p q w=>⟨w.1,?_,w.2.2⟩,y3⟩
    rw [upd_ne (fun e=>by have:=w.2.1;rw [e,ha] at this;cases this)]
    exact w.2.1
  have I3:Inv X pins σ (upd H1 a (.frz D (.dT kvs))) { s1 with heap:=s1.heap.push { cls:=.type "dict_keyiterator",data:=.fields #[.ref a,.int 0 0,.int es.size 0,.int ep 0] } }:=I2.kept (t':=s1.toks) fun b o e=>Heap.get?_push_of_some _ e
  refine ⟨s1.heap.objs.size,[s1.heap.objs.size],_,_,_,rfl,I3,turn_keysF a s1.heap.objs.size D xs es ep g3 g4,⟨_,Heap.get?_push_size _ rfl,rfl,rfl⟩,fun b hb=>?_,q D xs _ dr hk (fun b o hb e=>by rw [upd_ne hb];exact e) upd_same⟩
  obtain rfl:b=s1.heap.objs.size:=by simpa using hb
  exact I2.fpOk (Nat.le_refl _) (I2.hok.fresh (Nat.le_refl _))
end L2

namespace L2
open PySem PySem.Spec PyProof.Rows
section
variable {K:PySem.W.Frag}{x m q:Str}{st:Stmt}{f C:Addr}{oc:Value}{od an:Option Addr}{osl:Array (Option Value)}{kV doc pm cdv ct:Value}
end
section
variable {P:Program}{w:World}{K:PySem.W.Frag}{h base:Heap}{mg:Str->Option Value}{k:Nat}{x m q:Str}{st:Stmt}{C:Addr}{ps:List Str}{sp:Sp}
end
end L2

namespace L2
open PySem PySem.Spec PyProof.Rows
def rItemsT:V->List V->Hp->VK->Prop:=fun x vs H Q=>match x,vs with
  | .ref d,[]=>∃ kvs,H d=some (.dT kvs)/\∀ p H',H p=none->Same H H'->H' p=some (viewO p d)->Q (.ref p) H'
  | _,_=>False
theorem ev_rItemsT {d:Addr}{H:Hp}{Q:VK}:rItemsT (.ref d) [] H Q=(∃ kvs,H d=some (.dT kvs)/\∀ p H',H p=none->Same H H'->H' p=some (viewO p d)->Q (.ref p) H'):=propext Iff.rfl
theorem mt_itemsT {X:Cx}:MtM X "dict.items" rItemsT:=by
  intro pins s σ H x vs v us Q I rx rv h
  match x,vs,h with
  | .ref d,[],h =>
    obtain ⟨kvs,hd,q⟩:=h
    cases rx
    obtain rfl:=rv.zero
    obtain ⟨z,hs,xs,rel,dd⟩:=dt_of I.hok hd
    refine wpAny_call_entry F.slot_dict_items dd.typeIs F.entry_dict_items ?_ (F.args_dict_items_1 _)
    unfold Builtin.«dict.items»
    refine wpAny_bind ?_
    unfold Builtin.Dict.noArgs
    refine wpAny_bind (wpAny_notOrdered_dict dd.typeIs ?_)
    refine show wpAny _ _ (pure d) _ _ s from wpAny_pure ?_
    refine show wpAny _ _ (Builtin.Dict.showsAll d >>= _) _ _ s from ?_
    unfold Builtin.Dict.showsAll
    rw [if_neg (by rw [hs];exact Bool.false_ne_true)]
    refine wpAny_bind (wpAny_pure (wpAny_bind (wpAny_newObj_type (wpAny_pure ⟨_,rfl,?_⟩))))
    have hn:=I.hok.fresh (Nat.le_refl s.heap.objs.size)
    exact ⟨.ref s.heap.objs.size,_,I.laid (t':=s.toks) (o:=viewO s.heap.objs.size d) (fun b ob q=>Heap.get?_push_of_some _ q) (Nat.le_refl _) (viewO_ok ⟨_,Heap.get?_push_size _ rfl,rfl,rfl⟩),rfl,q _ _ hn (same_upd hn) upd_same⟩
section
variable {prog:Program}{w:World}{A:Around}{E:Value->Shared->Prop}{s:Shared}{D:Obj}{es:Array DictEntry}{ep i:Nat}{it v d:Addr}{ok ov:Value}
theorem im_iter {Q:Value->Shared->Prop} (hv:s.heap.IsItemsView v d) (g1:s.heap.get? d=some D) (g3:D.data=.dict es ep)
    (k:Q (.ref s.heap.objs.size) { s with heap:=s.heap.push { cls:=.type "dict_itemiterator",data:=.fields #[.none,.bool false,.ref d,.int 0 0,.int es.size 0,.int ep 0,.none,.none] } }):wpAny (model prog w) A (pyIter (.ref v)) Q E s:=by
  obtain ⟨ov,hov,hcv,hdv⟩:=id hv
  refine wpAny_pyIter_slot hv.typeIs F.slot_dict_items_iter (wpAny_call_entry F.slot_dict_items_iter hv.typeIs F.entry_dict_items_iter ?_ (F.args_dict_items_iter_1 _))
  unfold Builtin.«dict_items.__iter__»
  refine wpAny_bind (wpAny_pure (wpAny_bind ?_))
  unfold Builtin.Dict_items.dictOf
  refine wpAny_bind (wpAny_field hov hdv (x:=.ref d) rfl (wpAny_pure (wpAny_bind ?_)))
  unfold Builtin.Dict_items.newIterator
  refine wpAny_bind (wpAny_dictEntries g1 g3 (wpAny_bind (wpAny_dictEpoch g1 g3 ?_)))
  have ow:Builtin.Dict_items.ownsTuple "dict_itemiterator"=true:=by decide
  simp only [ow,if_true]
  refine wpAny_newObj_type (wpAny_pure ⟨_,rfl,"dict_itemiterator",_,⟨_,Heap.get?_push_size _ rfl,rfl⟩,F.slot_dict_itemiterator_next.lookup,?_⟩) (by simp only [sizeOk,Builtin.Dict_items.ownedTupleFields,List.size_toArray,List.length_append,List.length_cons,List.length_nil,sizeLine_eq];omega)
  simpa [rawInt,Builtin.Dict_items.ownedTupleFields] using k
theorem im_next {Q:Option Value->Shared->Prop} (j:IsItemIter s.heap it d i es.size ep ok ov) (g1:s.heap.get? d=some D) (g3:D.data=.dict es ep) (hi:i < es.size)
    (k:∀ h',IsItemIterOut h' it d (i + 1) es.size ep es[i].key es[i].val s.heap.objs.size->h'.get? s.heap.objs.size=some { cls:=.type "tuple",data:=.seq #[es[i].key,es[i].val] }->(∀ b o,b≠it->s.heap.get? b=some o->h'.get? b=some o) →
      Q (some (.ref s.heap.objs.size)) { s with heap:=h' }):wpAny (model prog w) A (pyNext (.ref it)) Q E s:=by
  obtain ⟨hp,g,dr,tk,os⟩:=s
  have ty:Shared.TypeIs ⟨hp,g,dr,tk,os⟩ (.ref it) "dict_itemiterator":=⟨_,j,rfl⟩
  unfold pyNext
  refine wpAny_bind (wpAny_attempt (wpAny_callSpecial?_slot (name:=Str.ofString "__next__") ty F.slot_dict_itemiterator_next (wpAny_call_entry F.slot_dict_itemiterator_next ty F.entry_dict_itemiterator_next ?_ (F.args_dict_itemiterator_next_1 _))))
  refine wpAny_bind (wpAny_pure (wpAny_bind (wpAny_bind ?_)))
  first | refine wpAny_bind (wpAny_typeNameOfWhole_itemiter ty (wpAny_pure (wpAny_bind (wpAny_fieldsOf j rfl ?_)))) | refine wpAny_bind (wpAny_typeNameOf_itemiter ty (wpAny_pure (wpAny_bind (wpAny_fieldsOf j rfl ?_))))
  have ow:Builtin.Dict_items.ownsTuple "dict_itemiterator"=true:=by decide
  simp only [ow,if_true]
  show wpAny _ _ (if (Value.ref d == Value.none)=true then _ else _) _ _ _
  rw [if_neg (fun z:(Value.ref d == Value.none)=true=>Bool.false_ne_true z)]
  refine wpAny_bind (wpAny_pure (wpAny_bind (wpAny_dictEntries g1 g3 ?_)))
  rw [if_neg (by simp)]
  refine wpAny_bind (wpAny_pure (wpAny_bind (wpAny_dictEpoch g1 g3 ?_)))
  rw [if_neg (by simp)]
  refine wpAny_pure ?_
  simp only [show ¬ ((i:Int) < 0) from by omega,if_false,Int.toNat_natCast,Array.getElem?_eq_getElem hi]
  refine wpAny_bind ?_
  first | refine wpAny_bind (wpAny_typeNameOfWhole_itemiter ty (wpAny_pure (wpAny_bind (wpAny_isOneOf_itemiter ty ?_)))) | refine wpAny_bind (wpAny_typeNameOf_itemiter ty (wpAny_pure (wpAny_bind (wpAny_isOneOf_itemiter ty ?_))))
  refine show wpAny _ _ (setField (.ref it) 3 (rawInt ((i:Int) + 1)) >>= _) _ _ ⟨hp,g,dr,tk,os⟩ from wpAny_bind (wpAny_setField_rec j (by simp) fun a1 b1 c1=>?_)
  replace c1:Heap.SameBut it hp a1:=c1
  replace b1:IsItemIter a1 it d (i + 1) es.size ep ok ov:=by
    have e:((i + 1:Nat):Int)=(i:Int) + 1:=by omega
    unfold IsItemIter;rw [e];simpa [rawInt] using b1
  have ty1:Shared.TypeIs ⟨a1,g,dr,tk,os⟩ (.ref it) "dict_itemiterator":=⟨_,b1,rfl⟩
  refine wpAny_bind (wpAny_holding (wpAny_bind (wpAny_isOneOf_itemiter ty1 (wpAny_bind (wpAny_isOneOf_itemiter ty1 ?_)))))
  show wpAny _ _ (Builtin.Dict_items.pairFromOwner (.ref it) 6 es[i].key es[i].val) _ _ _
  unfold Builtin.Dict_items.pairFromOwner
  refine wpAny_bind (wpAny_newTuple ?_)
  have b2:IsItemIter (a1.push { cls:=.type "tuple",data:=.seq #[es[i].key,es[i].val] }) it d (i + 1) es.size ep ok ov:=Heap.get?_push_of_some _ b1
  have z1:a1.objs.size=hp.objs.size:=c1.1
  have l0:it < hp.objs.size:=Heap.lt_size j
  have t2:(a1.push { cls:=.type "tuple",data:=.seq #[es[i].key,es[i].val] }).get? hp.objs.size=some { cls:=.type "tuple",data:=.seq #[es[i].key,es[i].val] }:=by rw [← z1];exact Heap.get?_push_size _ rfl
  have k2:∀ b o,b≠it->hp.get? b=some o->(a1.push { cls:=.type "tuple",data:=.seq #[es[i].key,es[i].val] }).get? b=some o:=fun b o hb e=>Heap.get?_push_of_some _ (c1.extBut b o hb e)
  generalize a1.push { cls:=.type "tuple",data:=.seq #[es[i].key,es[i].val] }=a2 at b2 t2 k2
  show wpAny _ _ (Builtin.Dict_items.ownedTupleIsFree (.ref it) >>= _) _ _ ⟨a2,g,dr,tk,os⟩
  rw [z1]
  refine wpAny_bind ?_
  unfold Builtin.Dict_items.ownedTupleIsFree
  refine wpAny_bind (wpAny_field b2 rfl (x:=.none) rfl (wpAny_pure ?_))
  simp only [if_true]
  refine wpAny_bind (wpAny_field b2 rfl (x:=ok) rfl (wpAny_bind (wpAny_field b2 rfl (x:=ov) rfl ?_)))
  refine wpAny_bind (wpAny_setField_rec b2 (by simp) fun a3 b3 c3=>wpAny_bind (wpAny_setField_rec b3 (by simp) fun a4 b4 c4=>wpAny_bind (wpAny_setField_rec b4 (by simp) fun a5 b5 c5=>wpAny_bind (wpAny_setField_rec b5 (by simp) fun a6 b6 c6=>?_))))
  have kk:∀ b o,b≠it->a2.get? b=some o->a6.get? b=some o:=fun b o hb e=>(show Heap.SameBut it a5 a6 from c6).extBut b o hb ((show Heap.SameBut it a4 a5 from c5).extBut b o hb ((show Heap.SameBut it a3 a4 from c4).extBut b o hb ((show Heap.SameBut it a2 a3 from c3).extBut b o hb e)))
  exact wpAny_bind (wpAny_letGo (wpAny_pure (wpAny_pure ⟨_,rfl,wpAny_pure (k a6 b6 (kk _ _ (Nat.ne_of_gt l0) t2) fun b o hb e=>kk b o hb (k2 b o hb e))⟩)))
theorem im_end {Q:Option Value->Shared->Prop} (ha:A.handled=none) (j:IsItemIter s.heap it d i es.size ep ok ov) (hi:es.size<=i) (g1:s.heap.get? d=some D) (g3:D.data=.dict es ep)
    (k:∀ h',Heap.ExtBut it s.heap h'->Q none { s with heap:=h' }):wpAny (model prog w) A (pyNext (.ref it)) Q E s:=by
  have ty:s.TypeIs (.ref it) "dict_itemiterator":=⟨_,j,rfl⟩
  unfold pyNext
  refine wpAny_bind (wpAny_attempt (wpAny_callSpecial?_slot (name:=Str.ofString "__next__") ty F.slot_dict_itemiterator_next (wpAny_call_entry F.slot_dict_itemiterator_next ty F.entry_dict_itemiterator_next ?_ (F.args_dict_itemiterator_next_1 _))))
  refine wpAny_bind (wpAny_pure (wpAny_bind (wpAny_bind ?_)))
  first | refine wpAny_bind (wpAny_typeNameOfWhole_itemiter ty (wpAny_pure (wpAny_bind (wpAny_fieldsOf j rfl ?_)))) | refine wpAny_bind (wpAny_typeNameOf_itemiter ty (wpAny_pure (wpAny_bind (wpAny_fieldsOf j rfl ?_))))
  have ow:Builtin.Dict_items.ownsTuple "dict_itemiterator"=true:=by decide
  simp only [ow,if_true]
  show wpAny _ _ (if (Value.ref d == Value.none)=true then _ else _) _ _ _
  rw [if_neg (fun z:(Value.ref d == Value.none)=true=>Bool.false_ne_true z)]
  refine wpAny_bind (wpAny_pure (wpAny_bind (wpAny_dictEntries g1 g3 ?_)))
  rw [if_neg (by simp)]
  refine wpAny_bind (wpAny_pure (wpAny_bind (wpAny_dictEpoch g1 g3 ?_)))
  rw [if_neg (by simp)]
  refine wpAny_pure ?_
  simp only [show ¬ ((i:Int) < 0) from by omega,if_false,Int.toNat_natCast,Array.getElem?_eq_none hi]
  refine wpAny_bind ?_
  first | refine wpAny_bind (wpAny_typeNameOfWhole_itemiter ty (wpAny_pure ?_)) | refine wpAny_bind (wpAny_typeNameOf_itemiter ty (wpAny_pure ?_))
  refine show wpAny _ _ (setField (.ref it) 2 .none >>= _) _ _ s from wpAny_bind (wpAny_setField j rfl (by simp) ?_)
  refine show wpAny _ _ (newExc (.type "StopIteration") [] >>= _) _ _ _ from wpAny_bind ?_
  simp only [newExc,newTuple]
  refine wpAny_bind (wpAny_newObj_type (wpAny_bind (m:=firstArgMember _ _) (wpAny_of_eq (a:=Value.none) (by first | rfl | (simp only [firstArgMember];rfl)) ?_)) (by size_fits))
  refine wpAny_newObj_type ?_ (by size_fits)
  simp only [raiseNew]
  refine wpAny_bind (wpAny_handled ?_)
  rw [show A.in1.handled=none from ha]
  refine wpAny_bind (wpAny_pure (wpAny_throw ?_))
  refine wpAny_bind (wpAny_isInstance (T:="StopIteration") (b:=true) ⟨_,Heap.get?_push_size _ rfl,rfl⟩ isSubtype_stop (wpAny_pure ?_))
  exact (k _ (((Heap.SameBut.update ..).extBut.push _).push _))
end
def Itm (a:Addr) (D:Obj) (kvs:List (List Key × V)) (bs:List Addr):It :=
  ⟨fun i H=>i < kvs.length/\H a=some (.frz D (.dT kvs)),
   fun i H v H'=>∃ k x b p,kvs[i]?=some (k,x)/\bs[i]?=some b/\v=.ref p/\H p=none/\H'=upd H p (.tup [.ref b,x]),
   fun i H=>kvs.length<=i/\H a=some (.frz D (.dT kvs))⟩
theorem turn_itm {P:Program}{w:World}{K:PySem.W.Frag}{elts:List Expr}{k:Nat}{pos:Pos} (a it:Addr) (D:Obj) (kvs:List (List Key × V)) (xs:List (List Key × Addr × Value)) (es:Array DictEntry) (ep:Nat) (hd:D.data=.dict es ep) (he:es.toList=xs.map (entryOfKey (tupleKind (mixKind P w))))
    (rel:Paired (fun (p:List Key × V) (q:List Key × Addr × Value)=>p.1=q.1/\RelV p.2 q.2.2) kvs xs) :
    Turn P w K (.Tuple elts k pos) (Itm a D kvs (xs.map fun q=>q.2.1)) [it] it (fun i h=>∃ ok ov,IsItemIter h it a i es.size ep ok ov) where
  mem:=by simp
  obj:=fun i h st b hb=>by
    obtain rfl:b=it:=by simpa using hb
    obtain ⟨ok,ov,st⟩:=st
    exact ⟨_,st,fun v z=>by have z':Data.fields _=Data.cell v:=z;cases z'⟩
  keep:=fun i h h' st k=>by
    obtain ⟨ok,ov,st⟩:=st
    exact ⟨ok,ov,k it (by simp) _ st⟩
  item:=by
    intro X hP hw hK hc i pins s σ H E I hf st hg
    subst hP hw hK
    obtain ⟨hi,hH⟩:=hg
    obtain ⟨ok,ov,st⟩:=id st
    have g1:s.heap.get? a=some D:=(show ObjOk X.prog X.w H s.heap a (.frz D (.dT kvs)) from I.hok a _ hH).1
    have sz:es.size=xs.length:=by have:=congrArg List.length he;simpa using this
    have lk:kvs.length=xs.length:=Paired.length rel
    have hi':i < xs.length:=by omega
    have ee:es[i]'(by omega)=entryOfKey (tupleKind (mixKind X.prog X.w)) xs[i]:=by
      have:es.toList[i]?=(xs.map (entryOfKey (tupleKind (mixKind X.prog X.w))))[i]?:=by rw [he]
      rw [List.getElem?_map,List.getElem?_eq_getElem hi',Array.getElem?_toList,Array.getElem?_eq_getElem (by omega)] at this
      exact Option.some.inj this
    obtain ⟨q,hq,_,rv⟩:=paired_at rel (List.getElem?_eq_getElem hi)
    rw [List.getElem?_eq_getElem hi'] at hq
    cases hq
    refine im_next (es:=es) st g1 hd (by omega) fun h' a1 a3 a5=>?_
    rw [ee] at a1 a3
    refine ⟨_,rfl,wpAny_letOwnedTupleGo_items (s:={ s with heap:=h' }) a1 fun h'' b1 b2=>?_⟩
    have b2':Heap.SameBut it h' h'':=b2
    have ne:it < s.heap.objs.size:=Heap.lt_size st
    have kk:∀ c o,c ∉ [it]->s.heap.get? c=some o->h''.get? c=some o:=fun c o hc e=>by
      have hc':c≠it:=by simpa using hc
      exact (b2'.2 c hc').trans (a5 c o hc' e)
    have hT:h''.get? s.heap.objs.size=some { cls:=.type "tuple",data:=.seq #[.ref (xs[i]).2.1,(xs[i]).2.2] }:=(b2'.2 _ (Nat.ne_of_gt ne)).trans a3
    have I1:Inv X pins σ (upd H s.heap.objs.size (.tup [.ref (xs[i]).2.1,(kvs[i]).2])) { s with heap:=h'' }:=by
      refine I.turnNew (t':=s.toks) (ch:=[it]) hf kk (fun c o ee=>?_) (Nat.le_refl _) (show ObjOk X.prog X.w _ h'' _ (.tup [.ref (xs[i]).2.1,(kvs[i]).2]) from ⟨by show 2<=sizeLine;decide,[.ref (xs[i]).2.1,(xs[i]).2.2],.cons rfl (.cons rv .nil),⟨_,hT,rfl,_,rfl⟩⟩)
      by_cases hc:c∈[it]
      · obtain rfl:c=it:=by simpa using hc
        exact ⟨_,b1⟩
      · exact ⟨_,kk c o hc ee⟩
    refine ⟨.ref s.heap.objs.size,_,I1,rfl,⟨(kvs[i]).1,(kvs[i]).2,(xs[i]).2.1,_,List.getElem?_eq_getElem hi,by rw [List.getElem?_map,List.getElem?_eq_getElem hi'];rfl,rfl,I.hok.fresh (Nat.le_refl _),rfl⟩,⟨_,_,b1⟩,fun c hc=>?_⟩
    obtain rfl:c=it:=by simpa using hc
    rw [upd_ne (Nat.ne_of_lt ne)];exact (hf _ (by simp)).1
  done:=by
    intro X hP hw hK hc i pins s σ H E I hf st hg
    subst hP hw hK
    obtain ⟨hi,hH⟩:=hg
    obtain ⟨ok,ov,st⟩:=id st
    have g1:s.heap.get? a=some D:=(show ObjOk X.prog X.w H s.heap a (.frz D (.dT kvs)) from I.hok a _ hH).1
    have sz:es.size=xs.length:=by have:=congrArg List.length he;simpa using this
    have lk:kvs.length=xs.length:=Paired.length rel
    refine im_end (I.ok.hd hc) st (by omega) g1 hd fun h' kk=>⟨rfl,I.turnL (t':=s.toks) (ch:=[it]) hf fun c o hc e=>?_⟩
    exact kk c o (by simpa using hc) e
  self:=fun _ _ _ _ _ st h=>by
    obtain ⟨ok,ov,st⟩:=st
    exact iter_itemiter st h
def iViewT (te:TE):TI:=fun σ H R=>te σ H fun x H1=>∃ p a kvs,x=.ref p/\H1 p=some (viewO p a)/\H1 a=some (.dT kvs) ∧
  ∀ D bs H2,bs.length=kvs.length->(∀ (i:Nat) kv b,kvs[i]?=some kv->bs[i]?=some b->H1 b=some (.tup (kv.1.map kV)))->(∀ b o,b≠a->H1 b=some o->H2 b=some o)->H2 a=some (.frz D (.dT kvs))->R (Itm a D kvs bs) H2
theorem ap_iViewT {te:TE}{σ:St}{H:Hp}{R:It->Hp->Prop}:iViewT te σ H R=te σ H fun x H1=>∃ p a kvs,x=.ref p/\H1 p=some (viewO p a)/\H1 a=some (.dT kvs) ∧
  ∀ D bs H2,bs.length=kvs.length->(∀ (i:Nat) kv b,kvs[i]?=some kv->bs[i]?=some b->H1 b=some (.tup (kv.1.map kV)))->(∀ b o,b≠a->H1 b=some o->H2 b=some o)->H2 a=some (.frz D (.dT kvs))->R (Itm a D kvs bs) H2:=propext Iff.rfl
theorem pi_viewT {X:Cx}{elts:List Expr}{k:Nat}{tpos:Pos}{l:Expr}{tl:TE} (hl:PE X l tl):PI X (.Tuple elts k tpos) l (iViewT tl):=by
  intro pins s σ H R I h
  refine thn (hl pins s σ H _ I h) fun v s1 ⟨x,H1,I1,r1,q1⟩=>?_
  obtain ⟨p,a,kvs,rfl,hp,ha,q⟩:=q1
  cases r1
  have hv:s1.heap.IsItemsView p a:=(show ObjOk X.prog X.w H1 s1.heap p (viewO p a) from I1.hok p _ hp).1
  obtain ⟨D,xs,g1,dr,hk,hs⟩:=dt_raw I1 ha
  obtain ⟨z,g2,rel,es,ep,g3,g4,g5⟩:=id dr
  refine im_iter hv g1 g3 ?_
  have I2:Inv X pins σ (upd H1 a (.frz D (.dT kvs))) s1:=by
    refine I1.write (x:=a) (e:=a) (h':=s1.heap) (t':=s1.toks) (o:=.frz D (.dT kvs)) (by rw [ha];exact True.intro) (.inl rfl) (fun _ _ _ e=>e) ⟨D,g1⟩ ?_
    refine ⟨g1,?_⟩
    obtain ⟨y1,y2,ys,yr,y3⟩:=(show ObjOk X.prog X.w H1 s1.heap a (.dT kvs) from I1.hok a _ ha)
    refine ⟨y1,y2,ys,Paired.mapP yr fun p q w=>⟨w.1,?_,w.2.2⟩,y3⟩
    rw [upd_ne (fun e=>by have:=w.2.1;rw [e,ha] at this;cases this)]
    exact w.2.1
  have I3:Inv X pins σ (upd H1 a (.frz D (.dT kvs))) { s1 with heap:=s1.heap.push { cls:=.type "dict_itemiterator",data:=.fields #[.none,.bool false,.ref a,.int 0 0,.int es.size 0,.int ep 0,.none,.none] } }:=I2.kept (t':=s1.toks) fun b o e=>Heap.get?_push_of_some _ e
  have lk:kvs.length=xs.length:=Paired.length rel
  refine ⟨s1.heap.objs.size,[s1.heap.objs.size],_,_,_,rfl,I3,turn_itm a s1.heap.objs.size D kvs xs es ep g3 g4 rel,⟨.none,.none,Heap.get?_push_size _ rfl⟩,fun b hb=>?_,q D _ _ (by rw [List.length_map,lk]) (fun i kv b e1 e2=>?_) (fun b o hb e=>by rw [upd_ne hb];exact e) upd_same⟩
  · obtain rfl:b=s1.heap.objs.size:=by simpa using hb
    exact I2.fpOk (Nat.le_refl _) (I2.hok.fresh (Nat.le_refl _))
  · rw [List.getElem?_map] at e2
    obtain ⟨y,hy,rfl⟩:=Option.map_eq_some_iff.mp e2
    obtain ⟨y',hy',e3,_⟩:=paired_at rel e1
    rw [hy] at hy'
    cases hy'
    rw [e3]
    exact hk y (List.mem_of_getElem? hy)
theorem for_itmT {a:Addr}{Dq:Obj}{kvs:List (List Key × V)}{bs:List Addr}{g:TG}{tb:TS}{D:Ends}{σ:St}{H:Hp} (Pv:Nat->St->Hp->Prop) (h0:Pv 0 σ H) (hl:∀ i σ H,Pv i σ H->H a=some (.frz Dq (.dT kvs)))
    (hs:∀ i k x b σ H,kvs[i]?=some (k,x)->bs[i]?=some b->Pv i σ H->∀ N:St->Hp->Prop,(∀ σ' H',Pv (i + 1) σ' H'->N σ' H')->∀ p H',H p=none->Same H H'->H' p=some (.tup [.ref b,x])->g (.ref p) σ H' fun σ2 H2=>tb { D with nx:=N,ct:=N,bk:=D.nx } σ2 H2) (hd:∀ σ H,Pv kvs.length σ H->D.nx σ H):ForTurns g tb D (Itm a Dq kvs bs) σ H:=by
  refine ⟨fun i m σ H=>i + m=kvs.length/\Pv i σ H,⟨kvs.length,by omega,h0⟩,fun i m σ H hw=>?_⟩
  obtain ⟨e,hp⟩:=hw
  have hL:=hl i σ H hp
  by_cases hm:m=0
  · subst hm
    have:i=kvs.length:=by omega
    subst this
    exact .inl ⟨⟨Nat.le_refl _,hL⟩,hd σ H hp⟩
  · refine .inr ⟨⟨by omega,hL⟩,Pv (i + 1),fun σ' H' n=>⟨m - 1,by omega,by omega,n⟩,fun v H' hy=>?_⟩
    obtain ⟨k,x,b,p,h1,h1b,rfl,h2,rfl⟩:=hy
    exact hs i k x b σ H h1 h1b hp _ (fun _ _ h=>h) p _ h2 (same_upd h2) upd_same
theorem lc_itmT {K:PySem.W.Frag}{a:Addr}{Dq:Obj}{kvs:List (List Key × V)}{bs:List Addr}{H1:Hp}{js:List Nat}{σ:St}{te:TE}{Q:VK} (ha:H1 a=some (.frz Dq (.dT kvs))) (hl:kvs.length < sizeLine) (hb:bs.length=kvs.length) (ts:Nat->List V)
    (he:∀ (i:Nat) k x b,kvs[i]?=some (k,x)->bs[i]?=some b->∀ H,Same H1 H->∀ R:VK,(∀ p H',H p=none->Same H H'->H' p=some (.tup (ts i))->R (.ref p) H')->te (some (.ref b)::some x::js.map fun j=>(σ[j]?).join) H R)
    (q:∀ D vs H,H1 D=none->Same H1 H->H D=some (.lst vs)->vs.length=kvs.length->(∀ (i:Nat) v,vs[i]?=some v->∃ p,v=.ref p/\H p=some (.tup (ts i)))->Q (.ref D) H):LcTurns (gTup K 2 (gCons (gName 0) (gCons (gName 1) gNil))) tYes te (blkSt 2 js σ) (Itm a Dq kvs bs) H1 Q:=by
  intro D hD
  refine ⟨fun i m ys σ1 H=>m=kvs.length - i/\i<=kvs.length/\(∃ o1 o2,σ1=o1::o2::js.map fun j=>(σ[j]?).join)/\ys.length=i/\(∀ (j:Nat) v,ys[j]?=some v->∃ p,v=.ref p/\H p=some (.tup (ts j)))/\Same H1 H/\H D=some (.lst ys),
    ⟨kvs.length,by simp,Nat.zero_le _,⟨none,none,rfl⟩,rfl,(fun j v e=>by simp at e),(Same.refl H1).upd_new hD,upd_same⟩,?_⟩
  rintro i m ys σ1 H ⟨rfl,hi,⟨o1,o2,rfl⟩,hyl,hys,sH,hL⟩
  refine ⟨hL,by omega,?_⟩
  by_cases hlt:i < kvs.length
  · refine .inr ⟨⟨hlt,sH _ _ ha⟩,?_⟩
    rintro v H' ⟨k,x,b,p,e1,e2,rfl,hp,rfl⟩
    refine ⟨p,_,rfl,SqT.of upd_same,rfl,.ref b,[x],rfl,x,[],rfl,rfl,?_⟩
    show tYes (some (.ref b)::some x::js.map fun j=>(σ[j]?).join) _ _
    show te (some (.ref b)::some x::js.map fun j=>(σ[j]?).join) _ _
    have s3:=same_upd (o:=.tup [.ref b,x]) hp
    refine he i k x b e1 e2 _ (sH.trans s3) _ fun p4 H4 w4 s4 h4=>?_
    have hL4:=s4 _ _ (s3 _ _ hL)
    have pD:p4≠D:=(ne_of_none (s3 _ _ hL) w4).symm
    refine ⟨hL4,kvs.length - (i + 1),by omega,rfl,hlt,⟨_,_,rfl⟩,by rw [List.length_append,hyl];rfl,fun j v ej=>?_,((sH.trans s3).trans s4).upd_new hD,upd_same⟩
    rcases Nat.lt_or_ge j ys.length with lj | lj
    · rw [List.getElem?_append_left lj] at ej
      obtain ⟨p,rfl,hp⟩:=hys j v ej
      have hp4:=s4 _ _ (s3 _ _ hp)
      exact ⟨p,rfl,by rw [upd_ne (ne_of hp4 hL4 (by intro z;cases z))];exact hp4⟩
    · have ej':=(List.getElem?_eq_some_iff.mp ej).1
      rw [List.length_append] at ej'
      have e0:j=ys.length:=by simp at ej';omega
      subst e0
      rw [List.getElem?_append_right (Nat.le_refl _),Nat.sub_self] at ej
      cases ej
      exact ⟨p4,rfl,by rw [upd_ne pD,hyl];exact h4⟩
  · have e:i=kvs.length:=by omega
    subst e
    exact .inl ⟨⟨Nat.le_refl _,sH _ _ ha⟩,q D ys H hD sH hL hyl hys⟩
theorem entry_dloop:entryFor table "dict.update.loop"=some Builtin.«dict.update.loop»:=entryFor_of_tree (by kernel_rfl)
theorem plain_dloop:plainId "dict.update.loop"=true:=by decide +kernel
theorem miss_keys:typeLookup (.type "list") "keys"=pure none:=am_miss_of_fast (by kernel_rfl)
def putAll (kvs:List (List Key × V)):List (List Key × V):=kvs.foldl (fun acc kv=>putK acc kv.1 kv.2) []
theorem putAll_snoc (kvs:List (List Key × V)) (kv:List Key × V):putAll (kvs++[kv])=putK (putAll kvs) kv.1 kv.2:=by
  unfold putAll;rw [List.foldl_append];rfl
theorem snocRec {α:Type}{M:List α->Prop} (nil:M []) (snoc:∀ l x,M l->M (l++[x])) (l:List α):M l:=by
  have h:∀ r:List α,M r.reverse:=fun r=>by
    induction r with
    | nil=>exact nil
    | cons x r ih=>rw [List.reverse_cons];exact snoc _ _ ih
  have:=h l.reverse
  rwa [List.reverse_reverse] at this
theorem putAll_len (kvs:List (List Key × V)):(putAll kvs).length<=kvs.length:=by
  induction kvs using snocRec with
  | nil=>exact Nat.le_refl _
  | snoc l x ih =>
    rw [putAll_snoc,List.length_append]
    have:=length_putK (putAll l) x.1 x.2
    simp only [List.length_singleton]
    omega
theorem no_keys {prog:Program}{w:World}{A:Around}{E:Value->Shared->Prop}{s:Shared}{a:Addr}{xs:Array Value}{Q:Option Value->Shared->Prop} (hp:PlainL s.heap a xs) (hA:A.handled=none)
    (h:∀ h' tk,(∀ b o,s.heap.get? b=some o->h'.get? b=some o)->Q none { s with heap:=h',toks:=tk }):wpAny (model prog w) A (getAttr? (.ref a) "keys") Q E s:=by
  obtain ⟨o,n,e,hc,hd,hdat⟩:=hp
  obtain ⟨c,dct,dat,sl⟩:=o
  simp only at hc hdat hd
  subst hc hdat hd
  obtain ⟨hp,g,d,tk,os⟩:=s
  have hT:∀ tk',(⟨hp,g,d,tk',os⟩:Shared).TypeIs (.ref a) "list":=fun _=>⟨_,e,rfl⟩
  have f1:=sub_AttributeError
  have f3:=F.slot_list_getattribute.lookup
  have f4:=F.slot_list_getattribute.bind (.ref a)
  have f5:=am_list_getattr_none
  unfold getAttr? getAttrBy? getAttrBy
  repeat (any_goals (first | assumption | exact hT _ | ((with_reducible show wpAny _ _ (call (Value.builtin "list.__getattribute__") _ _) _ _ _);refine call_meets F.slot_list_getattribute (hT _) am_entry_list_getattribute (F.args_list_getattribute_2 _ _) (meets_getattribute_miss_list a xs n sl "keys" _ miss_keys (by decide +kernel)) ⟨e,hA,fun h' tk' e' hx'=>?_⟩) | wp_step))
  obtain ⟨t',u',he⟩:=hx'.there
  show wpAny _ _ (getattributeRaised _ _ _ _ _ _ _) _ _ _
  unfold getattributeRaised
  repeat (any_goals (first | assumption | wp_step))
  exact h _ _ hx'.keeps
section
variable {X:Cx}{pins:List (Addr × Obj)}{σ:St}{H:Hp}
theorem dloop {A:Around}{R:Result->Shared->Prop}{l d c:Addr}{vs:List V}{kvs:List (List Key × V)} (hh:A.in1.handled=none) (hu:A.in1.units < cLine) (hz:kvs.length < sizeLine) (hlen:kvs.length=vs.length)
    (hv:∀ (i:Nat) v kv,vs[i]?=some v->kvs[i]?=some kv->∃ t b,v=.ref t/\H t=some (.tup [.ref b,kv.2])/\H b=some (.tup (kv.1.map kV)))
    (hL:SqL X.K H l vs) (hd:H d=none) (hc:FpOk X pins H c) (hcd:c≠d) :
    ∀ (m i:Nat) (s:Shared),vs.length - i=m->i<=vs.length->Inv X pins σ (upd H d (.dT (putAll (kvs.take i)))) s->s.heap.IsListIter c l i →
      (∀ s',Inv X pins σ (upd H d (.dT (putAll kvs))) s'->R (.ok (.ret .none)) s')->codeAny (model X.prog X.w) A (.builtin "dict.update.loop" ⟨[.ref d,.ref c,rawInt i,.none],[]⟩) R s:=by
  have sd:∀ o,Same H (upd H d o):=fun o=>same_upd hd
  have hf:∀ o,∀ b∈[c],FpOk X pins (upd H d o) b:=fun o b hb=>by
    obtain rfl:b=c:=by simpa using hb
    exact ⟨by rw [upd_ne hcd];exact hc.1,hc.2⟩
  intro m
  induction m with
  | zero =>
    intro i s hm hi I hit q
    have e:i=vs.length:=by omega
    subst e
    rw [← hlen,List.take_of_length_le (Nat.le_refl _)] at I
    obtain ⟨its,r,pl,_⟩:=I.list ((sd _).seq hL)
    have hl:=r.length
    refine codeAny_builtin entry_dloop ?_
    rw [Around.under_plainId plain_dloop _]
    show wpAny _ A.in1 (pyNext (.ref c) >>= _) _ _ s
    refine wpAny_bind (wpAny_pyNext_list_end hh hit pl.isList (by simp;omega) fun h' kk=>?_)
    show wpAny _ _ (Builtin.Dict.addKeywords d [] >>= _) _ _ _
    refine wpAny_bind (wpAny_pure (wpAny_pure (q _ (I.turnL (t':=s.toks) (ch:=[c]) (hf _) fun b o hb e=>?_))))
    exact kk b o (by simpa using hb) e
  | succ m ih =>
    intro i s hm hi I hit q
    have lt:i < vs.length:=by omega
    have ev:vs[i]?=some vs[i]:=List.getElem?_eq_getElem lt
    have ek:kvs[i]?=some (kvs[i]'(by omega)):=List.getElem?_eq_getElem (by omega)
    obtain ⟨t,b,et,ht,hb⟩:=hv i _ _ ev ek
    generalize kvs[i]'(by omega)=kv at ek ht hb
    obtain ⟨its,r,pl,_⟩:=I.list ((sd _).seq hL)
    obtain ⟨u,hu',ru⟩:=r.get ev
    rw [et] at ru
    cases ru
    refine codeAny_builtin entry_dloop ?_
    rw [Around.under_plainId plain_dloop _]
    show wpAny _ A.in1 (pyNext (.ref c) >>= _) _ _ s
    refine wpAny_bind (wpAny_pyNext_list_item (x:=.ref t) hit pl.isList (by simpa using hu') fun h' hit' hs'=>?_)
    have I1:Inv X pins σ (upd H d (.dT (putAll (kvs.take i)))) { s with heap:=h' }:=I.turnL (t':=s.toks) (ch:=[c]) (hf _) fun b o hb e=>(hs'.2 b (by simpa using hb)).trans e
    obtain ⟨tits,tr,tp,_⟩:=I1.tuple (SqT.of ((sd _) _ _ ht))
    obtain ⟨tu1,tu2,rfl,tr1,tr2⟩:=tr.two
    cases tr1
    obtain ⟨z,hs,xs,rel,dd⟩:=dt_of I1.hok (upd_same (H:=H) (a:=d) (o:=.dT (putAll (kvs.take i))))
    have hkey:=key_of I1.hok ((sd (.dT (putAll (kvs.take i)))) _ _ hb)
    obtain ⟨ot,e1,e2,nt,e3⟩:=id tp
    refine show wpAny _ _ (holding [.ref t] _ >>= _) _ _ _ from wpAny_bind (wpAny_holding (wpAny_bind (wpAny_tryCatch ?_)))
    unfold Builtin.Dict.pairItems
    refine wpAny_bind (wpAny_typeOf (T:="tuple") ⟨ot,e1,e2⟩ ?_)
    rw [if_pos (by decide)]
    refine wpAny_bind (wpAny_seqItems e1 e3 (wpAny_pure ?_))
    refine show wpAny _ _ (holding [.ref b,tu2] (dictSet d (.ref b) tu2)) _ _ _ from wpAny_holding ?_
    have hxl:xs.length < sizeLine:=by
      rw [← Paired.length rel]
      have:=putAll_len (kvs.take i)
      rw [List.length_take] at this
      omega
    refine wpAny_dictSet_heap (knd:=tupleKind (mixKind X.prog X.w)) hu hkey dd (fun h2 dd2 hs2=>?_) (Nat.le_of_lt hxl)
    refine wpAny_pure ⟨Code.quiet_builtin _ (by decide +kernel),?_⟩
    have etk:kvs.take (i + 1)=kvs.take i++[kv]:=by rw [List.take_add_one,ek];rfl
    have hz2:(putAll (kvs.take (i + 1))).length<=sizeLine:=by
      have:=putAll_len (kvs.take (i + 1))
      rw [List.length_take] at this
      omega
    obtain ⟨q',es,ep,f1,f2,f3,f4,_,f5⟩:=dd2
    have eu:upd (upd H d (.dT (putAll (kvs.take i)))) d (.dT (putAll (kvs.take (i + 1))))=upd H d (.dT (putAll (kvs.take (i + 1)))):=by
      funext y
      by_cases hy:y=d
      · subst hy;rw [upd_same,upd_same]
      · rw [upd_ne hy,upd_ne hy,upd_ne hy]
    have I2:=d_write (t':=s.toks + (tupleKind (mixKind X.prog X.w)).draws kv.1) (ob:=.dT (putAll (kvs.take (i + 1)))) I1 (by rw [upd_same];exact True.intro) hs2 ⟨q',f1⟩ ⟨hz2,hs,_,(show KT _ (putAll (kvs.take (i + 1))) (storedH xs kv.1 b tu2) from by rw [etk,putAll_snoc];exact (rel.put kv.1 ((sd _) _ _ hb) tr2).keeps fun c ys ec=>by rw [upd_ne (ne_of ec upd_same (fun z=>nomatch z))];exact ec),q',es,ep,f1,f2,f3,f4,f5⟩
    rw [eu] at I2
    have hit2:h2.IsListIter c l (i + 1):=by
      obtain ⟨oi,y1,y2⟩:=hit'
      exact ⟨oi,(hs2.2 c hcd).trans y1,y2⟩
    have:=ih (i + 1) _ (by omega) lt I2 hit2 q
    rw [Int.natCast_add] at this
    exact this
end
def rDictP (K:PySem.W.Frag):List V->Hp->VK->Prop:=fun vs H Q=>match vs with
  | [.ref l]=>∃ (ws:List V) (kvs:List (List Key × V)),SqL K H l ws/\kvs.length < sizeLine/\kvs.length=ws.length/\(∀ (i:Nat) v kv,ws[i]?=some v->kvs[i]?=some kv->∃ t b,v=.ref t/\H t=some (.tup [.ref b,kv.2])/\H b=some (.tup (kv.1.map kV)))/\∀ p H',H p=none->Same H H'->H' p=some (.dT (putAll kvs))->Q (.ref p) H'
  | _=>False
theorem ev_rDictP {K:PySem.W.Frag}{l:Addr}{H:Hp}{Q:VK}:rDictP K [.ref l] H Q=(∃ (ws:List V) (kvs:List (List Key × V)),SqL K H l ws/\kvs.length < sizeLine/\kvs.length=ws.length/\(∀ (i:Nat) v kv,ws[i]?=some v->kvs[i]?=some kv->∃ t b,v=.ref t/\H t=some (.tup [.ref b,kv.2])/\H b=some (.tup (kv.1.map kV)))/\∀ p H',H p=none->Same H H'->H' p=some (.dT (putAll kvs))->Q (.ref p) H'):=propext Iff.rfl
theorem call_dictP {X:Cx}{K:PySem.W.Frag} (hK:X.K=K) (hu:X.A.units + 9 < cLine) (hc:X.calm=true):CallR X (.type "dict") (rDictP K):=by
  subst hK
  intro pins s σ H xs us Q I r h
  match xs,h with
  | [.ref l],h =>
    obtain ⟨ws,kvs,hL,hz,hlen,hv,k⟩:=h
    obtain ⟨u,rfl,ru⟩:=vals1 r
    cases ru
    have hd:H s.heap.objs.size=none:=I.hok.fresh (Nat.le_refl _)
    have hh:=I.ok.hd hc
    refine callType_codes (Q₁:=fun obj s₁=>obj=.ref s.heap.objs.size/\s₁={ s with heap:=s.heap.push { cls:=.type "dict",data:=.dict #[] } }) F.kt_called_dict (F.kt_typeCall_dict_1 _) F.entry_dict_init (kt_code_dict_new _ ⟨rfl,rfl⟩) ?_
    rintro obj s₁ ⟨rfl,rfl⟩
    have hD:(s.heap.push { cls:=.type "dict",data:=.dict #[] }).DictOfH (tupleKind (mixKind X.prog X.w)) s.heap.objs.size []:=Heap.DictOfH.new s.heap
    have I1:Inv X pins σ (upd H s.heap.objs.size (.dT [])) { s with heap:=s.heap.push { cls:=.type "dict",data:=.dict #[] } }:=I.laid (t':=s.toks) (fun b o e=>Heap.get?_push_of_some _ e) (Nat.le_refl _) (dt_empty s.heap I.big)
    refine ⟨hD.typeIs,F.args_dict_init_2 _ _,?_⟩
    unfold Builtin.«dict.__init__»
    refine wpAny_bind ?_
    unfold Builtin.Dict.selfAndRest
    refine wpAny_bind (wpAny_notOrdered_dict hD.typeIs ?_)
    refine show wpAny _ _ (pure (s.heap.objs.size,[Value.ref l])) _ _ _ from wpAny_pure ?_
    show wpAny _ _ (Builtin.Dict.updateFrom "dict.__init__" s.heap.objs.size (.ref l) [] .none) _ _ _
    unfold Builtin.Dict.updateFrom
    have sd:=same_upd (o:=.dT []) hd
    obtain ⟨its,r1,pl,_⟩:=I1.list (sd.seq hL)
    refine wpAny_bind (wpAny_typeOf pl.isList.typeIs ?_)
    rw [if_pos (by decide)]
    refine wpAny_bind (no_keys pl (by simpa using hh) fun h2 tk kp=>?_)
    rw [if_pos (show (none:Option Value).isNone=true from rfl)]
    have I2:Inv X pins σ (upd H s.heap.objs.size (.dT [])) { s with heap:=h2,toks:=tk }:=I1.kept (t':=tk) kp
    obtain ⟨its2,r2,pl2,_⟩:=I2.list (sd.seq hL)
    refine wpAny_bind (wpAny_rule (wpAny_bind (wpAny_pyIter_list pl2.isList (wpAny_pure ⟨Code.quiet_builtin _ (by decide +kernel),?_⟩))))
    have lt:s.heap.objs.size < h2.objs.size:=Heap.lt_size (kp _ _ (Heap.get?_push_size _ rfl))
    have hcd:h2.objs.size≠s.heap.objs.size:=Nat.ne_of_gt lt
    have hn:=I2.hok.fresh (Nat.le_refl _)
    have hn':H h2.objs.size=none:=by
      have:upd H s.heap.objs.size (.dT []) h2.objs.size=none:=hn
      rwa [upd_ne hcd] at this
    refine dloop (by simpa using hh) (by show X.A.units + 1 + 1 < cLine;omega) hz hlen hv hL hd (I2.fpOk (Nat.le_refl _) hn') hcd ws.length 0 _ rfl (Nat.zero_le _) (I2.kept (t':=tk) fun b o e=>Heap.get?_push_of_some _ e) ⟨_,Heap.get?_push_size _ rfl,rfl,rfl⟩ fun s' I'=>⟨rfl,.ref s.heap.objs.size,_,I',rfl,k _ _ hd (same_upd hd) upd_same⟩
end L2

namespace Kb
open PySem L2
seal L2.PE L2.PA L2.PS L2.PSs L2.PT L2.PW L2.PG L2.PGs L2.PI L2.PO L2.PSet L2.PIf
def top (i:Nat):Stmt:=PySem.Challenge.pw_cablehouse_k33_whole_prices_show.main.body.getD i (.Pass ⟨0,0,0,0⟩)
abbrev s_check_office:Stmt:=top 7
abbrev s_steps_from:Stmt:=top 8
abbrev s_cheapest:Stmt:=top 9
abbrev s_prices:Stmt:=top 10
abbrev s_way:Stmt:=top 11
abbrev s_is_whole:Stmt:=top 13
abbrev s_is_below:Stmt:=top 16
abbrev s_are_letters:Stmt:=top 18
abbrev s_are_unlike_names:Stmt:=top 24
abbrev s_is_cost:Stmt:=top 25
abbrev s_is_line:Stmt:=top 26
abbrev s_Net_init:Stmt:=inClass (top 27) 0
abbrev s_Net_offices:Stmt:=inClass (top 27) 1
abbrev s_Net_with_book:Stmt:=inClass (top 27) 2
abbrev s_Net_lines:Stmt:=inClass (top 27) 3
abbrev s_law_cell_at:Stmt:=top 29
abbrev s_law_long:Stmt:=top 30
abbrev s_law_mixed:Stmt:=top 31
abbrev s_law_names:Stmt:=top 32
abbrev s_law_cost:Stmt:=top 33
abbrev s_law_line:Stmt:=top 34
abbrev s_law_plan:Stmt:=top 35
abbrev s_law_amounts:Stmt:=top 36
abbrev s_law_next:Stmt:=top 37
abbrev s_law_shown:Stmt:=top 39
abbrev s_law_plain:Stmt:=top 40
abbrev s_law_lengths:Stmt:=top 41
abbrev s_law_no_more:Stmt:=top 42
abbrev s_law:Stmt:=top 43
structure Bl (mg:Str->Option Value):Prop where
  isinstance:mg "isinstance"=none
  str:mg "str"=none
  len:mg "len"=none
  min:mg "min"=none
  list:mg "list"=none
  sorted:mg "sorted"=none
  reversed:mg "reversed"=none
  bool:mg "bool"=none
  int:mg "int"=none
  all:mg "all"=none
  set:mg "set"=none
  tuple:mg "tuple"=none
  range:mg "range"=none
  enumerate:mg "enumerate"=none
  dict:mg "dict"=none
structure Ads where
  Net:Addr
  CableError:Addr
  NoNet:Addr
  NoOffice:Addr
  cd:Addr
  tb:Addr
  none:Unit:=()
def Ads.errs (Ad:Ads):List Addr:=[Ad.NoNet,Ad.NoOffice]
structure AdF (K:PySem.W.Frag) (mg:Str->Option Value) (Ad:Ads):Prop where
  g_Net:mg "Net"=some (.ref Ad.Net)
  g_CableError:mg "CableError"=some (.ref Ad.CableError)
  g_NoNet:mg "NoNet"=some (.ref Ad.NoNet)
  g_NoOffice:mg "NoOffice"=some (.ref Ad.NoOffice)
  c_Net:Cls K Ad.Net
  n_Net_names:NoAttr K Ad.Net "names"
  n_Net_holders:NoAttr K Ad.Net "holders"
  n_Net_wires:NoAttr K Ad.Net "wires"
  q_NoNet:PySem.W.excIn K Ad.NoNet [.type "ValueError",.type "Exception",.type "BaseException",.type "object"] "ValueError.__new__"=true
  q_NoOffice:PySem.W.excIn K Ad.NoOffice [.type "ValueError",.type "Exception",.type "BaseException",.type "object"] "ValueError.__new__"=true
  t_tab:PySem.W.codeHdIn K Ad.cd Ad.tb=true
  err:errAll K Ad.CableError Ad.errs=true
  nd:ndB Ad.errs=true
  v_PLAIN:∃ u,mg "PLAIN"=some u/\RelV (.str "plain") u
  v_CODE:∃ u,mg "CODE"=some u/\RelV (.str "code") u
  v_SMALL_LETTERS:∃ u,mg "SMALL_LETTERS"=some u/\RelV (.str "abcdefghijklmnopqrstuvwxyz") u
  v_MOST_OFFICES:∃ u,mg "MOST_OFFICES"=some u/\RelV (.int 12) u
  v_LONGEST_NAME:∃ u,mg "LONGEST_NAME"=some u/\RelV (.int 8) u
  v_MOST_LINES:∃ u,mg "MOST_LINES"=some u/\RelV (.int 60) u
  v_MOST_COST:∃ u,mg "MOST_COST"=some u/\RelV (.int 1000000000) u
section
variable {P:Program}{w:World}{K:PySem.W.Frag}{mg:Str->Option Value}{base:Heap}{Ad:Ads}
local macro_rules | `(tactic| and_intros) => `(tactic| try simp only [ap_fld, rFldX, ap_sfld, rSetX, ap_meth, rMethX, ap_make, ap_raise, ap_unp, ap_gcons, ap_gnil, rIsiG, Ends.un, putF, ap_asg, ap_gname, ap_var, ap_c, ap_op, ap_cb, ap_cons, ap_nil, ap_call, ap_ret, ap_if, ap_next, ap_drop, ap_test, ap_b, ap_not, ap_and, ap_or, ap_andV, ap_orV, ap_notV, ap_ifE, ap_lst, ap_tup, ap_dnew, nw, ap_lc, ap_sl, ap_noPart, ap_part, ap_iSeq, ap_iRng1, ap_for, ap_gsub, ap_bm, ap_bm0, ap_chain, ex_bl, ex_int, ex_ref, ex_int1, ex_int2, ex_ref2, ex_two, ex_some, ap_disp1, ap_iEnum, ap_dget, ev_rIntB, ev_rSetN, ap_minK, ev_rMinK, ap_iKeys, ap_thaw, ap_thawN, ap_dnewT, ap_dput, ev_rListD, ev_rSort, ap_listRev, ev_rListRev, rIsX, isV, tagV, tagO, Tg.sub, Tg.name, rU, rInX, Option.join_some, Int.toNat_natCast, List.getElem?_cons_zero, List.getElem?_cons_succ, List.set_cons_zero, List.set_cons_succ, start_eq, List.map_cons, List.map_nil, List.cons_append, List.nil_append, List.length_cons, List.length_nil, List.replicate_succ, List.replicate_zero, Nat.reduceAdd, Nat.reduceSub, Nat.zero_add, bne_self_eq_false, Bool.true_bne, Bool.false_bne, Bool.not_true, Bool.not_false, if_true, if_false, Bool.false_eq_true, Bool.true_eq_false, reduceIte, ev_rAddX_1, ev_rAddX_2, ev_rAddX_3, ev_rSubX_1, ev_rMulX_1, ev_rFdivX_1, ev_rModX_1, ev_rPowX_1, ev_rCmpX_1, ev_rEqX_1, ev_rEqX_3, ev_rNeX_1, ev_rNeX_2, ev_rIxX_1, ev_rIxX_2, ev_rLenX_1, ev_rLenX_2, ev_rListX_1, ev_rIsiC_1, ev_rSlY_1, ev_rMulS_1, ev_rLenT_1, ev_iSeqV_1, ev_iSeqV_2, ap_dget2, ap_iKeysF, ev_rItemsT, ap_iViewT, ev_rDictP, ev_rNeT])
local macro_rules | `(tactic| ac_nf) => `(tactic| try simp only [ap_seq, ap_fld, rFldX, ap_sfld, rSetX, ap_meth, rMethX, ap_make, ap_raise, ap_unp, ap_gcons, ap_gnil, rIsiG, Ends.un, putF, ap_asg, ap_gname, ap_var, ap_c, ap_op, ap_cb, ap_cons, ap_nil, ap_call, ap_ret, ap_if, ap_next, ap_drop, ap_test, ap_b, ap_not, ap_and, ap_or, ap_andV, ap_orV, ap_notV, ap_ifE, ap_lst, ap_tup, ap_dnew, nw, ap_lc, ap_sl, ap_noPart, ap_part, ap_iSeq, ap_iRng1, ap_for, ap_gsub, ap_bm, ap_bm0, ap_chain, ex_bl, ex_int, ex_ref, ex_int1, ex_int2, ex_ref2, ex_two, ex_some, ap_disp1, ap_iEnum, ap_dget, ev_rIntB, ev_rSetN, ap_minK, ev_rMinK, ap_iKeys, ap_thaw, ap_thawN, ap_dnewT, ap_dput, ev_rListD, ev_rSort, ap_listRev, ev_rListRev, rIsX, isV, tagV, tagO, Tg.sub, Tg.name, rU, rInX, Option.join_some, Int.toNat_natCast, List.getElem?_cons_zero, List.getElem?_cons_succ, List.set_cons_zero, List.set_cons_succ, start_eq, List.map_cons, List.map_nil, List.cons_append, List.nil_append, List.length_cons, List.length_nil, List.replicate_succ, List.replicate_zero, Nat.reduceAdd, Nat.reduceSub, Nat.zero_add, bne_self_eq_false, Bool.true_bne, Bool.false_bne, Bool.not_true, Bool.not_false, if_true, if_false, Bool.false_eq_true, Bool.true_eq_false, reduceIte, ev_rAddX_1, ev_rAddX_2, ev_rAddX_3, ev_rSubX_1, ev_rMulX_1, ev_rFdivX_1, ev_rModX_1, ev_rPowX_1, ev_rCmpX_1, ev_rEqX_1, ev_rEqX_3, ev_rNeX_1, ev_rNeX_2, ev_rIxX_1, ev_rIxX_2, ev_rLenX_1, ev_rLenX_2, ev_rListX_1, ev_rIsiC_1, ev_rSlY_1, ev_rMulS_1, ev_rLenT_1, ev_iSeqV_1, ev_iSeqV_2, ap_dget2, ap_iKeysF, ev_rItemsT, ap_iViewT, ev_rDictP, ev_rNeT])
local macro_rules | `(tactic| bv_omega) => `(tactic| try simp only [ex_bl, ex_int, ex_ref, Bool.not_false, Bool.not_true, if_true, if_false, Bool.false_eq_true, Bool.true_eq_false, true_and, and_true])
def netF (p q r:Addr):List (Str × V):=[("names",.ref p),("holders",.ref q),("wires",.ref r)]
theorem netF_names (p q r:Addr):(netF p q r).lookup ("names":Str)=some (V.ref p):=rfl
theorem netF_holders (p q r:Addr):(netF p q r).lookup ("holders":Str)=some (V.ref q):=rfl
theorem netF_wires (p q r:Addr):(netF p q r).lookup ("wires":Str)=some (V.ref r):=rfl
theorem netF_none {m:Str} (h1:m≠("names":Str)) (h2:m≠("holders":Str)) (h3:m≠("wires":Str)) (p q r:Addr):(netF p q r).lookup m=none:=by
  unfold netF
  rw [List.lookup_cons,List.lookup_cons,List.lookup_cons,beq_false_of_ne h1,beq_false_of_ne h2,beq_false_of_ne h3]
  rfl
def NetAt (Ad:Ads) (H:Hp) (a:Addr) (os bs ls:List V):Prop:=∃ dx p q r,H a=some (.ins Ad.Net dx (netF p q r))/\H p=some (.lst os)/\H q=some (.lst bs)/\H r=some (.lst ls)
theorem NetAt.same {Ad:Ads}{H H':Hp}{a:Addr}{os bs ls:List V} (h:NetAt Ad H a os bs ls) (s:Same H H'):NetAt Ad H' a os bs ls:=by
  obtain ⟨dx,p,q,r,h1,h2,h3,h4⟩:=h
  exact ⟨dx,p,q,r,s _ _ h1,s _ _ h2,s _ _ h3,s _ _ h4⟩
def areLet (n:Nat) (l:List Nat):Bool:=decide (1<=l.length) && decide (l.length<=n) && l.all fun c=>decide (97<=c/\c < 123)
def areLetV (n:Nat):V->Bool
  | .str z=>areLet n z.cps.toList
  | _=>false
theorem areLet_of {n:Nat}{l:List Nat} (h1:1<=l.length) (h2:l.length<=n) (h3:∀ c∈l,97<=c/\c < 123):areLet n l=true:=by
  unfold areLet
  rw [decide_eq_true h1,decide_eq_true h2,Bool.true_and,Bool.true_and,List.all_eq_true]
  exact fun c hc=>decide_eq_true (h3 c hc)
def FlatAt (H:Hp) (y:V):Prop:=(∃ t,tagV H y=some t)/\∀ z,y=.str z->z.length<=100000
theorem FlatAt.same {H H':Hp}{y:V} (s:Same H H') (h:FlatAt H y):FlatAt H' y:=⟨by obtain ⟨t,ht⟩:=h.1;exact ⟨t,tag_same s ht⟩,h.2⟩
def strV:V->Str
  | .str z=>z
  | _=>tx []
def lstV (H:Hp):V->Option (List V)
  | .ref p=>match H p with
    | some (.lst xs)=>some xs
    | _=>none
  | _=>none
def tupV (H:Hp):V->Option (List V)
  | .ref p=>match H p with
    | some (.tup xs)=>some xs
    | _=>none
  | _=>none
theorem lstV_of {H:Hp}{p:Addr}{xs:List V} (h:H p=some (.lst xs)):lstV H (.ref p)=some xs:=by
  show (match H p with | some (.lst xs)=>some xs | _=>none)=_
  rw [h]
theorem tupV_of {H:Hp}{p:Addr}{xs:List V} (h:H p=some (.tup xs)):tupV H (.ref p)=some xs:=by
  show (match H p with | some (.tup xs)=>some xs | _=>none)=_
  rw [h]
theorem lstV_tag {H:Hp}{x:V}{t:Tg} (h:tagV H x=some t) (hn:t≠.lst):lstV H x=none:=by
  cases x with
  | ref p =>
    have h':tagO (H p)=some t:=h
    show (match H p with | some (.lst xs)=>some xs | _=>none)=none
    split
    · rename_i xs e;rw [e] at h';cases h';exact absurd rfl hn
    · rfl
  | _=>rfl
theorem tupV_tag {H:Hp}{x:V}{t:Tg} (h:tagV H x=some t) (hn:t≠.tup):tupV H x=none:=by
  cases x with
  | ref p =>
    have h':tagO (H p)=some t:=h
    show (match H p with | some (.tup xs)=>some xs | _=>none)=none
    split
    · rename_i xs e;rw [e] at h';cases h';exact absurd rfl hn
    · rfl
  | _=>rfl
def unlL (xs:List V):Bool:=xs.all (areLetV 8) && decide ((xs.map strV).Nodup)
def unlV (H:Hp) (x:V):Bool:=match lstV H x with
  | some xs=>unlL xs
  | none=>false
def costV:V->Bool
  | .non=>true
  | .int i=>decide (0<=i) && decide (i < 1000000001)
  | _=>false
def lineL (zs:List Str):List V->Bool
  | [a,b,c,d]=>unlL [a,b] && decide (strV a∈zs) && decide (strV b∈zs) && costV c && costV d
  | _=>false
def lineV (H:Hp) (zs:List Str) (x:V):Bool:=match tupV H x with
  | some xs=>lineL zs xs
  | none=>false
def AskN (H:Hp) (x:V):Prop:=(∃ t,tagV H x=some t/\t≠.lst) ∨ ∃ p xs,x=.ref p/\H p=some (.lst xs)/\xs.length<=1000/\∀ y∈xs,FlatAt H y
def AskL (H:Hp) (x:V):Prop:=(∃ t,tagV H x=some t/\t≠.tup) ∨ ∃ p xs,x=.ref p/\H p=some (.tup xs)/\xs.length<=1000/\∀ y∈xs,FlatAt H y
def AskLs (H:Hp) (x:V):Prop:=(∃ t,tagV H x=some t/\t≠.lst) ∨ ∃ p xs,x=.ref p/\H p=some (.lst xs)/\xs.length<=1000/\∀ y∈xs,AskL H y
theorem AskN.same {H H':Hp}{x:V} (s:Same H H') (h:AskN H x):AskN H' x:=by
  rcases h with ⟨t,h1,h2⟩ | ⟨p,xs,rfl,h1,h2,h3⟩
  · exact .inl ⟨t,tag_same s h1,h2⟩
  · exact .inr ⟨p,xs,rfl,s _ _ h1,h2,fun y hy=>(h3 y hy).same s⟩
theorem AskL.same {H H':Hp}{x:V} (s:Same H H') (h:AskL H x):AskL H' x:=by
  rcases h with ⟨t,h1,h2⟩ | ⟨p,xs,rfl,h1,h2,h3⟩
  · exact .inl ⟨t,tag_same s h1,h2⟩
  · exact .inr ⟨p,xs,rfl,s _ _ h1,h2,fun y hy=>(h3 y hy).same s⟩
theorem AskLs.same {H H':Hp}{x:V} (s:Same H H') (h:AskLs H x):AskLs H' x:=by
  rcases h with ⟨t,h1,h2⟩ | ⟨p,xs,rfl,h1,h2,h3⟩
  · exact .inl ⟨t,tag_same s h1,h2⟩
  · exact .inr ⟨p,xs,rfl,s _ _ h1,h2,fun y hy=>(h3 y hy).same s⟩
theorem AskN.lst {H H':Hp}{x:V} (s:Same H H') (h:AskN H x):lstV H' x=lstV H x:=by
  rcases h with ⟨t,h1,h2⟩ | ⟨p,xs,rfl,h1,h2,h3⟩
  · rw [lstV_tag h1 h2,lstV_tag (tag_same s h1) h2]
  · rw [lstV_of h1,lstV_of (s _ _ h1)]
theorem AskN.unl {H H':Hp}{x:V} (s:Same H H') (h:AskN H x):unlV H' x=unlV H x:=by unfold unlV;rw [h.lst s]
theorem AskL.line {H H':Hp}{zs:List Str}{x:V} (s:Same H H') (h:AskL H x):lineV H' zs x=lineV H zs x:=by
  unfold lineV
  rcases h with ⟨t,h1,h2⟩ | ⟨p,xs,rfl,h1,h2,h3⟩
  · rw [tupV_tag h1 h2,tupV_tag (tag_same s h1) h2]
  · rw [tupV_of h1,tupV_of (s _ _ h1)]
theorem strs_of {n:Nat}:∀ {xs:List V},xs.all (areLetV n)=true->xs=(xs.map strV).map V.str
  | [],_=>rfl
  | x::xs,h=>by
    rw [List.all_cons,Bool.and_eq_true] at h
    cases x with
    | str z=>rw [List.map_cons,List.map_cons,← strs_of h.2];rfl
    | _=>cases h.1
theorem map_strV (zs:List Str):(zs.map V.str).map strV=zs:=by rw [List.map_map];exact (List.map_congr_left fun z _=>rfl).trans (List.map_id _)
theorem in_strs (z:Str):∀ zs:List Str,inV (.str z) (zs.map V.str)=decide (z∈zs)
  | []=>rfl
  | y::ys=>by
    show ((y == z) || inV (.str z) (ys.map V.str))=_
    rw [in_strs z ys]
    by_cases e:y=z
    · subst e;simp
    · have:¬ z=y:=fun h=>e h.symm
      simp [e,this]
theorem flat_strs (zs:List Str):(zs.map V.str).all flatV=true:=by
  rw [List.all_eq_true];intro v hv
  obtain ⟨i,_,rfl⟩:=List.mem_map.mp hv
  rfl
structure NamesOk (zs:List Str):Prop where
  n1:1<=zs.length
  n12:zs.length<=12
  nd:zs.Nodup
  lt:∀ z∈zs,areLetV 8 (.str z)=true
def Bnd (xs:List V):Bool:=unlL xs && decide (1<=xs.length) && decide (xs.length<=12)
def BadO (H:Hp) (x:V):Prop:=AskN H x/\∀ xs,lstV H x=some xs->Bnd xs=false
theorem BadO.same {H H':Hp}{x:V} (s:Same H H') (h:BadO H x):BadO H' x:=⟨h.1.same s,fun xs e=>h.2 xs (by rw [← h.1.lst s];exact e)⟩
theorem alls_cons {Pr:V->Prop}{x:V}{xs:List V} (h1:Pr x) (h2:∀ v∈xs,Pr v):∀ v∈x::xs,Pr v:=fun v hv=>by
  rcases List.mem_cons.mp hv with rfl | h
  · exact h1
  · exact h2 v h
theorem alls_nil {Pr:V->Prop}:∀ v∈([]:List V),Pr v:=fun _ h=>nomatch h
theorem flatStr {H:Hp}{z:Str} (h:z.length<=100000):FlatAt H (.str z):=⟨⟨.str,rfl⟩,fun y e=>by cases e;exact h⟩
theorem flatNon {H:Hp}:FlatAt H .non:=⟨⟨.non,rfl⟩,fun y e=>by cases e⟩
theorem flatInt {H:Hp}{i:Int}:FlatAt H (.int i):=⟨⟨.int,rfl⟩,fun y e=>by cases e⟩
theorem let_len {z:Str} (h:areLetV 8 (.str z)=true):z.length<=8:=by
  have h':areLet 8 z.cps.toList=true:=h
  unfold areLet at h'
  simp only [Bool.and_eq_true,decide_eq_true_eq] at h'
  have:=len_cps z
  omega
theorem flatNames {H:Hp}{zs:List Str} (ok:NamesOk zs):∀ v∈zs.map V.str,FlatAt H v:=fun v hv=>by
  obtain ⟨z,hz,rfl⟩:=List.mem_map.mp hv
  have:=let_len (ok.lt z hz)
  exact flatStr (by omega)
def BadB (H:Hp) (x:V):Prop:=AskN H x/\∀ xs,lstV H x=some xs->unlL xs=false
theorem BadB.same {H H':Hp}{x:V} (s:Same H H') (h:BadB H x):BadB H' x:=⟨h.1.same s,fun xs e=>h.2 xs (by rw [← h.1.lst s];exact e)⟩
def BadL (zs:List Str) (H:Hp) (x:V):Prop:=AskL H x/\lineV H zs x=false
theorem BadL.same {zs:List Str}{H H':Hp}{x:V} (s:Same H H') (h:BadL zs H x):BadL zs H' x:=⟨h.1.same s,by rw [h.1.line s];exact h.2⟩
def GLine (zs:List Str) (o:HO):Prop:=∃ xs,o=.tup xs/\lineL zs xs=true
theorem line4 {zs:List Str}{xs:List V} (h:lineL zs xs=true):xs.length=4:=by
  unfold lineL at h
  split at h
  · rfl
  · cases h
theorem lineL_of {zs:List Str} (hz:NamesOk zs) {i j:Nat}{a b:Str}{c d:V} (hi:zs[i]?=some a) (hj:zs[j]?=some b) (hij:i≠j) (hc:costV c=true) (hd:costV d=true):lineL zs [.str a,.str b,c,d]=true:=by
  have ma:=List.mem_of_getElem? hi
  have mb:=List.mem_of_getElem? hj
  have hab:a≠b:=fun e=>by
    subst e
    obtain ⟨li,ei⟩:=List.getElem?_eq_some_iff.mp hi
    obtain ⟨lj,ej⟩:=List.getElem?_eq_some_iff.mp hj
    have hp:=List.pairwise_iff_getElem.mp (List.nodup_iff_pairwise_ne.mp hz.nd)
    rcases Nat.lt_or_gt_of_ne hij with h | h
    · exact hp i j li lj h (ei.trans ej.symm)
    · exact hp j i lj li h (ej.trans ei.symm)
  have h1:unlL [.str a,.str b]=true:=by
    unfold unlL
    rw [List.all_cons,List.all_cons,hz.lt a ma,hz.lt b mb,List.map_cons,List.map_cons,List.map_nil,decide_eq_true]
    · rfl
    · show [a,b].Nodup
      simp [hab]
  show (unlL [.str a,.str b] && decide (a∈zs) && decide (b∈zs) && costV c && costV d)=true
  rw [h1,decide_eq_true ma,decide_eq_true mb,hc,hd];rfl
structure PlanAt (H:Hp) (P pn pb pl:Addr) (zs bs:List Str) (ls:List V):Prop where
  p:H P=some (.lst [.ref pn,.ref pb,.ref pl])
  n:H pn=some (.lst (zs.map V.str))
  b:H pb=some (.lst (bs.map V.str))
  l:H pl=some (.lst ls)
  ok:NamesOk zs
  lt:∀ z∈zs,∃ l:List Nat,z=tx l/\1<=l.length/\l.length<=8/\∀ c∈l,97<=c/\c < 123
  sb:bs.Sublist zs
  l60:ls.length<=60
  ln:∀ v∈ls,∃ q o,v=.ref q/\H q=some o/\GLine zs o
def netL (H:Hp) (os bs ls:List V):Bool:=unlL os && decide (1<=os.length) && decide (os.length<=12) && unlL bs && bs.all (fun x=>decide (strV x∈os.map strV)) && decide (ls.length<=60) && ls.all (lineV H (os.map strV))
def netBad (H:Hp) (o b l:V):Prop:=∀ os bs ls,lstV H o=some os->lstV H b=some bs->lstV H l=some ls->netL H os bs ls=false
theorem AskLs.lst {H H':Hp}{x:V} (s:Same H H') (h:AskLs H x):lstV H' x=lstV H x:=by
  rcases h with ⟨t,h1,h2⟩ | ⟨p,xs,rfl,h1,h2,h3⟩
  · rw [lstV_tag h1 h2,lstV_tag (tag_same s h1) h2]
  · rw [lstV_of h1,lstV_of (s _ _ h1)]
theorem lines_same {H H':Hp}{zs:List Str}{ls:List V} (s:Same H H') (h:∀ y∈ls,AskL H y):ls.all (lineV H' zs)=ls.all (lineV H zs):=by
  rw [Bool.eq_iff_iff,List.all_eq_true,List.all_eq_true]
  exact ⟨fun a x hx=>by rw [← (h x hx).line s];exact a x hx,fun a x hx=>by rw [(h x hx).line s];exact a x hx⟩
def Bad3 (H:Hp) (o b l:V):Prop:=AskN H o/\AskN H b/\AskLs H l/\netBad H o b l
theorem Bad3.same {H H':Hp}{o b l:V} (s:Same H H') (h:Bad3 H o b l):Bad3 H' o b l:=by
  obtain ⟨h1,h2,h3,h4⟩:=h
  refine ⟨h1.same s,h2.same s,h3.same s,fun os bs ls e1 e2 e3=>?_⟩
  rw [h1.lst s] at e1
  rw [h2.lst s] at e2
  rw [h3.lst s] at e3
  have:=h4 os bs ls e1 e2 e3
  have hl:∀ y∈ls,AskL H y:=by
    rcases h3 with ⟨t,q1,q2⟩ | ⟨p,xs,rfl,q1,q2,q3⟩
    · rw [lstV_tag q1 q2] at e3;cases e3
    · rw [lstV_of q1] at e3;cases e3;exact q3
  unfold netL at this ⊢
  rw [lines_same s hl];exact this
theorem PlanAt.same {H H':Hp}{P pn pb pl:Addr}{zs bs:List Str}{ls:List V} (h:PlanAt H P pn pb pl zs bs ls) (s:Same H H'):PlanAt H' P pn pb pl zs bs ls :=
  ⟨s _ _ h.p,s _ _ h.n,s _ _ h.b,s _ _ h.l,h.ok,h.lt,h.sb,h.l60,fun v hv=>by obtain ⟨q,o,e,h1,h2⟩:=h.ln v hv;exact ⟨q,o,e,s _ _ h1,h2⟩⟩
theorem cost_flat {H:Hp}{v:V} (h:costV v=true):FlatAt H v:=by
  cases v with
  | non=>exact flatNon
  | int i=>exact flatInt
  | _=>cases h
theorem line_ask {H:Hp}{zs:List Str}{q:Addr}{o:HO} (h:H q=some o) (g:GLine zs o):AskL H (.ref q)/\lineV H zs (.ref q)=true:=by
  obtain ⟨xs,rfl,hl⟩:=g
  refine ⟨.inr ⟨q,xs,rfl,h,?_⟩,by unfold lineV;rw [tupV_of h];exact hl⟩
  obtain ⟨a,b,c,d,rfl⟩:∃ a b c d,xs=[a,b,c,d]:=bind4 (p:=fun xs=>∃ a b c d,xs=[a,b,c,d]) (fun a b c d=>⟨a,b,c,d,rfl⟩) xs (line4 hl)
  have h':(unlL [a,b] && decide (strV a∈zs) && decide (strV b∈zs) && costV c && costV d)=true:=hl
  simp only [Bool.and_eq_true] at h'
  obtain ⟨⟨⟨⟨h1,_⟩,_⟩,h4⟩,h5⟩:=h'
  unfold unlL at h1
  rw [Bool.and_eq_true] at h1
  have h2:=List.all_eq_true.mp h1.1
  have fl:∀ {x:V},areLetV 8 x=true->FlatAt H x:=fun {x} hx=>by
    cases x with
    | str z=>have:=let_len hx;exact flatStr (by omega)
    | _=>cases hx
  exact ⟨by simp,alls_cons (fl (h2 a (by simp))) (alls_cons (fl (h2 b (by simp))) (alls_cons (cost_flat h4) (alls_cons (cost_flat h5) alls_nil)))⟩
def BadLs (H:Hp) (x:V):Prop:=AskLs H x/\∀ ls,lstV H x=some ls->∀ zs,(decide (ls.length<=60) && ls.all (lineV H zs))=false
theorem BadLs.same {H H':Hp}{x:V} (s:Same H H') (h:BadLs H x):BadLs H' x:=by
  refine ⟨h.1.same s,fun ls e zs=>?_⟩
  rw [h.1.lst s] at e
  have hl:∀ y∈ls,AskL H y:=by
    rcases h.1 with ⟨t,q1,q2⟩ | ⟨p,xs,rfl,q1,q2,q3⟩
    · rw [lstV_tag q1 q2] at e;cases e
    · rw [lstV_of q1] at e;cases e;exact q3
  rw [lines_same s hl];exact h.2 ls e zs
theorem cutV_mem {xs:List V}{lo hi:Option Int}{v:V} (h:v∈cutV xs lo hi):v∈xs:=by
  unfold cutV at h
  exact List.mem_of_mem_drop (List.mem_of_mem_take h)
theorem cutV_mid (xs:List V) (a b:Nat):cutV xs (some (a:Int)) (some (b:Int))=(xs.drop (min a xs.length)).take (min b xs.length - min a xs.length):=by
  unfold cutV
  rw [HT.sIx_nat,HT.sIx_nat]
theorem sub_strs:∀ {zs:List Str}{vs:List V},vs.Sublist (zs.map V.str)->∃ bs:List Str,vs=bs.map V.str/\bs.Sublist zs
  | [],vs,h=>⟨[],by simpa using h,List.Sublist.refl _⟩
  | z::zs,vs,h=>by
    rw [List.map_cons] at h
    cases h with
    | cons _ h=>obtain ⟨bs,e,s⟩:=sub_strs h;exact ⟨bs,e,s.cons _⟩
    | cons_cons _ h=>obtain ⟨bs,e,s⟩:=sub_strs h;exact ⟨z::bs,by rw [e];rfl,s.cons_cons _⟩
def lamQ:Str:="cheapest.<locals>.<lambda>"
def oV:Option Int->V
  | none=>.non
  | some i=>.int i
theorem cost_o {v:V} (h:costV v=true):∃ o,v=oV o/\∀ x,o=some x->0<=x/\x<=1000000000:=by
  cases v with
  | non=>exact ⟨none,rfl,fun x e=>by cases e⟩
  | int i =>
    have h':(decide (0<=i) && decide (i < 1000000001))=true:=h
    simp only [Bool.and_eq_true,decide_eq_true_eq] at h'
    exact ⟨some i,rfl,fun x e=>by cases e;omega⟩
  | _=>cases h
def fmS (f:Bool):Str:=if f then "code" else "plain"
theorem fmS_inj {f f':Bool} (h:fmS f=fmS f'):f=f':=by
  cases f <;> cases f' <;> first | rfl | exact absurd h (by decide)
def ndK (u:Nk Str):List Key:=[.inr u.1,.inr (fmS u.2)]
def ndV (u:Nk Str):List V:=[.str u.1,.str (fmS u.2)]
theorem ndK_inj {u u':Nk Str} (h:ndK u=ndK u'):u=u':=by
  unfold ndK at h
  injection h with h1 h2
  injection h2 with h2 _
  exact Prod.ext (Sum.inr.inj h1) (fmS_inj (Sum.inr.inj h2))
def lnV (l:Ln Str):List V:=[.str l.a,.str l.b,oV l.p,oV l.c]
def LnAt (H:Hp) (g:V->Ln Str) (v:V):Prop:=∃ q,v=.ref q/\H q=some (.tup (lnV (g v)))
def LnOk (l:Ln Str):Prop:=∀ f x,l.cost f=some x->0<=x/\x<=1000000000
def StepAt (H:Hp) (v:V) (q:Nk Str × Int):Prop:=∃ a b,v=.ref a/\H a=some (.tup [.ref b,.int q.2])/\H b=some (.tup (ndV q.1))
def StepsAt (H:Hp) (vs:List V) (qs:List (Nk Str × Int)):Prop:=vs.length=qs.length/\∀ (i:Nat) v,vs[i]?=some v->∃ q,qs[i]?=some q/\StepAt H v q
theorem StepAt.keep {H H':Hp}{v:V}{q:Nk Str × Int} (h:StepAt H v q) (s:∀ b xs,H b=some (.tup xs)->H' b=some (.tup xs)):StepAt H' v q:=by
  obtain ⟨a,b,e,h1,h2⟩:=h
  exact ⟨a,b,e,s _ _ h1,s _ _ h2⟩
theorem StepsAt.keep {H H':Hp}{vs:List V}{qs:List (Nk Str × Int)} (h:StepsAt H vs qs) (s:∀ b xs,H b=some (.tup xs)->H' b=some (.tup xs)):StepsAt H' vs qs :=
  ⟨h.1,fun i v e=>by obtain ⟨q,e2,h2⟩:=h.2 i v e;exact ⟨q,e2,h2.keep s⟩⟩
theorem StepsAt.snoc {H:Hp}{vs:List V}{qs:List (Nk Str × Int)}{v:V}{q:Nk Str × Int} (h:StepsAt H vs qs) (h2:StepAt H v q):StepsAt H (vs++[v]) (qs++[q]):=by
  refine ⟨by simp [h.1],fun i x e=>?_⟩
  rcases Nat.lt_or_ge i vs.length with l | l
  · rw [List.getElem?_append_left l] at e
    obtain ⟨q',e2,h3⟩:=h.2 i x e
    exact ⟨q',by rw [List.getElem?_append_left (by rw [← h.1];exact l)];exact e2,h3⟩
  · rw [List.getElem?_append_right l] at e
    have:i - vs.length=0:=by
      rcases Nat.eq_zero_or_pos (i - vs.length) with z | z
      · exact z
      · rw [List.getElem?_eq_none (by simp;omega)] at e;cases e
    rw [this] at e
    cases e
    exact ⟨q,by rw [List.getElem?_append_right (by rw [← h.1];exact l),← h.1,this];rfl,h2⟩
def parV (H:Hp) (p:Option (Nk Str)) (v:V):Prop:=(p=none/\v=.non) ∨ ∃ u b,p=some u/\v=.ref b/\H b=some (.tup (ndV u))
def EntAt (H:Hp) (e:Ent Str):Prop:=∃ pv,H e.t=some (.tup [.int e.d,pv])/\parV H e.par pv
theorem EntAt.keep {H H':Hp}{e:Ent Str} (h:EntAt H e) (s:∀ b xs,H b=some (.tup xs)->H' b=some (.tup xs)):EntAt H' e:=by
  obtain ⟨pv,h1,h2⟩:=h
  refine ⟨pv,s _ _ h1,?_⟩
  rcases h2 with h2 | ⟨u,b,e1,e2,h2⟩
  · exact .inl h2
  · exact .inr ⟨u,b,e1,e2,s _ _ h2⟩
def kvE (e:Ent Str):List Key × V:=(ndK e.key,.ref e.t)
theorem val_kvE (u:Nk Str):∀ fs:List (Ent Str),valV (fs.map kvE) (ndK u)=(fs.find? fun e=>e.key == u).map fun e=>.ref e.t
  | []=>rfl
  | e::r=>by
    by_cases h:e.key=u
    · subst h
      rw [List.map_cons,valV_pos (p:=kvE e) (k:=ndK e.key) rfl,List.find?_cons]
      simp [kvE]
    · rw [List.map_cons,valV_neg (p:=kvE e) (fun z=>h (ndK_inj z)),val_kvE u r,List.find?_cons]
      have:(e.key == u)=false:=by simpa using h
      rw [this]
theorem val_none {fs:List (Ent Str)}{u:Nk Str} (h:∀ e∈fs,e.key≠u):valV (fs.map kvE) (ndK u)=none:=by
  rw [val_kvE,List.find?_eq_none.mpr (fun e he=>by simpa using h e he)];rfl
theorem val_mem {fs:List (Ent Str)} (hn:(fs.map Ent.key).Nodup) {e:Ent Str} (he:e∈fs):valV (fs.map kvE) (ndK e.key)=some (.ref e.t):=by
  rw [val_kvE]
  cases h:fs.find? fun x=>x.key == e.key with
  | none=>exact absurd (List.find?_eq_none.mp h e he) (by simp)
  | some x =>
    have h1:=List.find?_some h
    have h2:=List.mem_of_find?_eq_some h
    have:x=e:=key_inj hn h2 he (by simpa using h1)
    subst this;rfl
theorem put_kvE (fs:List (Ent Str)) (e:Ent Str):putK (fs.map kvE) (ndK e.key) (.ref e.t)=(putE fs e).map kvE:=by
  unfold putK putE
  have ha:((fs.map kvE).any fun kv=>decide (kv.1=ndK e.key))=fs.any fun x=>x.key == e.key:=by
    rw [List.any_map]
    congr 1
    funext x
    show decide (ndK x.key=ndK e.key)=(x.key == e.key)
    by_cases h:x.key=e.key
    · rw [h];simp
    · rw [decide_eq_false (fun z=>h (ndK_inj z))];symm;simpa using h
  rw [ha]
  split
  · rw [List.map_map,List.map_map]
    apply List.map_congr_left
    intro x _
    show (if ndK x.key=ndK e.key then (ndK x.key,V.ref e.t) else kvE x)=kvE (if x.key == e.key then e else x)
    by_cases h:x.key=e.key
    · rw [if_pos (by rw [h]),if_pos (by simp [h]),h];rfl
    · rw [if_neg (fun z=>h (ndK_inj z)),if_neg (by simpa using h)]
  · rw [List.map_append];rfl
structure NetW (Ad:Ads) (H:Hp) (a:Addr) (zs bs:List Str) (ls:List (Ln Str)):Prop where
  net:∃ vs g,NetAt Ad H a (zs.map V.str) (bs.map V.str) vs/\(∀ v∈vs,LnAt H g v)/\ls=vs.map g
  l60:ls.length<=60
  n12:zs.length<=12
  sub:∀ z∈bs,z∈zs
  ln:∀ l∈ls,l.a∈zs/\l.b∈zs/\LnOk l
def UL (zs:List Str):List (Nk Str):=zs.flatMap fun z=>[(z,false),(z,true)]
theorem mem_UL {zs:List Str}{u:Nk Str}:u∈UL zs ↔ u.1∈zs:=by
  unfold UL
  rw [List.mem_flatMap]
  constructor
  · rintro ⟨z,hz,h⟩
    simp at h
    rcases h with rfl | rfl <;> exact hz
  · intro h
    refine ⟨u.1,h,?_⟩
    obtain ⟨z,f⟩:=u
    cases f <;> simp
theorem len_UL (zs:List Str):(UL zs).length=2 * zs.length:=by
  unfold UL
  induction zs with
  | nil=>rfl
  | cons z r ih=>rw [List.flatMap_cons,List.length_append,ih];simp;omega
theorem stN_in {zs bs:List Str}{ls:List (Ln Str)}{p g:Int} (h1:∀ z∈bs,z∈zs) (h2:∀ l∈ls,l.a∈zs/\l.b∈zs/\LnOk l) {u:Nk Str}{q:Nk Str × Int} (hq:q∈stN bs ls p g u):q.1∈UL zs:=by
  rw [mem_UL]
  rcases mem_stN.mp hq with ⟨a,rfl⟩ | ⟨l,hl,e⟩
  · exact h1 _ a
  · obtain ⟨x,_,_,hz⟩:=stepL_some e
    rcases hz with ⟨_,e2⟩ | ⟨_,e2⟩
    · rw [e2];exact (h2 l hl).2.1
    · rw [e2];exact (h2 l hl).1
theorem stN_nn {zs bs:List Str}{ls:List (Ln Str)}{p g:Int} (hp:0<=p) (hg:0<=g) (h2:∀ l∈ls,l.a∈zs/\l.b∈zs/\LnOk l) {u:Nk Str}{q:Nk Str × Int} (hq:q∈stN bs ls p g u):0<=q.2:=by
  rcases mem_stN.mp hq with ⟨a,rfl⟩ | ⟨l,hl,e⟩
  · exact Int.le_refl _
  · obtain ⟨x,hx,hc,_⟩:=stepL_some e
    rw [hc]
    refine Int.mul_nonneg ((h2 l hl).2.2 _ x hx).1 ?_
    unfold mulF;split
    · exact hg
    · exact hp
def LeftAt (H:Hp) (lv:List V) (fs ss:List (Ent Str)):Prop:=(∀ v∈lv,∃ e∈fs,e ∉ ss/\∃ b,v=.ref b/\H b=some (.tup (ndV e.key)))/\∀ e∈fs,e ∉ ss->∃ v∈lv,∃ b,v=.ref b/\H b=some (.tup (ndV e.key))
theorem ndV_inj {u u':Nk Str} (h:ndV u=ndV u'):u=u':=by
  unfold ndV at h
  injection h with h1 h2
  injection h2 with h2 _
  exact Prod.ext (V.str.inj h1) (fmS_inj (V.str.inj h2))
open Classical in
noncomputable def kfE (H:Hp) (fs:List (Ent Str)):V->Int:=fun v=>if h:∃ e,e∈fs/\∃ b,v=.ref b/\H b=some (.tup (ndV e.key)) then (Classical.choose h).d else 0
theorem kfE_eq {H:Hp}{fs:List (Ent Str)} (hn:(fs.map Ent.key).Nodup) {e:Ent Str} (he:e∈fs) {b:Addr} (hb:H b=some (.tup (ndV e.key))):kfE H fs (.ref b)=e.d:=by
  have h:∃ e,e∈fs/\∃ b',V.ref b=.ref b'/\H b'=some (.tup (ndV e.key)):=⟨e,he,b,rfl,hb⟩
  unfold kfE
  rw [dif_pos h]
  obtain ⟨h1,b',h2,h3⟩:=Classical.choose_spec h
  cases h2
  rw [hb] at h3
  injection h3 with h3
  injection h3 with h3
  rw [← key_inj hn he h1 (ndV_inj h3)]
theorem while_m {c:TT}{tb:TS}{D:Ends}{σ:St}{H:Hp} (W:Nat->St->Hp->Prop) (m:Nat) (h0:W m σ H)
    (hs:∀ m σ H,W m σ H->c σ H fun b H1=>if b=true then ∃ N:St->Hp->Prop,(∀ σ' H',N σ' H'->∃ m',m' < m/\W m' σ' H')/\tb { D with nx:=N,ct:=N,bk:=D.nx } σ H1 else D.nx σ H1):tWhile c tb D σ H:=⟨W,⟨m,h0⟩,hs⟩
theorem while_go {W:Nat->St->Hp->Prop}{m:Nat}{B:(St->Hp->Prop)->Prop} (h:∀ N:St->Hp->Prop,(∀ m' σ' H',m' < m->W m' σ' H'->N σ' H')->B N):∃ N:St->Hp->Prop,(∀ σ' H',N σ' H'->∃ m',m' < m/\W m' σ' H')/\B N :=
  ⟨fun σ' H'=>∃ m',m' < m/\W m' σ' H',fun _ _ h=>h,h _ fun m' _ _ a b=>⟨m',a,b⟩⟩
theorem NetW.same {Ad:Ads}{H H':Hp}{a:Addr}{zs bs:List Str}{ls:List (Ln Str)} (h:NetW Ad H a zs bs ls) (s:Same H H'):NetW Ad H' a zs bs ls:=by
  obtain ⟨⟨vs,g,h1,h2,h3⟩,h4,h5,h6,h7⟩:=h
  exact ⟨⟨vs,g,h1.same s,fun v hv=>by obtain ⟨q,e,hq⟩:=h2 v hv;exact ⟨q,e,s _ _ hq⟩,h3⟩,h4,h5,h6,h7⟩
theorem dget_mem {H:Hp}{pf b:Addr}{fs:List (Ent Str)}{e:Ent Str} (h1:H pf=some (.dT (fs.map kvE))) (hn:(fs.map Ent.key).Nodup) (he:e∈fs) (hb:H b=some (.tup (ndV e.key))):DGet H pf (.ref b) (some (.ref e.t)):=by
  have h:=DGet.t (k:=ndK e.key) h1 hb
  rwa [val_mem hn he] at h
theorem dget_none {H:Hp}{pf b:Addr}{fs:List (Ent Str)}{u:Nk Str} (h1:H pf=some (.dT (fs.map kvE))) (hn:∀ e∈fs,e.key≠u) (hb:H b=some (.tup (ndV u))):DGet H pf (.ref b) none:=by
  have h:=DGet.t (k:=ndK u) h1 hb
  rwa [val_none hn] at h
theorem paired_imp {α β:Type}{F G:α->β->Prop} (f:∀ x y,F x y->G x y):∀ {a:List α}{b:List β},Paired F a b->Paired G a b
  | _,_,.nil=>.nil
  | _,_,.cons r t=>.cons (f _ _ r) (paired_imp f t)
def NdAt (H:Hp) (v:V) (u:Nk Str):Prop:=∃ b,v=.ref b/\H b=some (.tup (ndV u))
def PathAt (H:Hp) (vs:List V) (us:List (Nk Str)):Prop:=Paired (NdAt H) vs us
theorem PathAt.keep {H H':Hp}{vs:List V}{us:List (Nk Str)} (h:PathAt H vs us) (s:∀ b xs,H b=some (.tup xs)->H' b=some (.tup xs)):PathAt H' vs us :=
  paired_imp (fun _ _ ⟨b,e,hb⟩=>⟨b,e,s _ _ hb⟩) h
def kvC (q:Nk Str × Int):List Key × V:=(ndK q.1,.int q.2)
theorem val_kvC (u:Nk Str):∀ ps:List (Nk Str × Int),valV (ps.map kvC) (ndK u)=(tellP ps u).map V.int
  | []=>rfl
  | e::r=>by
    unfold tellP
    by_cases h:e.1=u
    · subst h
      rw [List.map_cons,valV_pos (p:=kvC e) (k:=ndK e.1) rfl,List.find?_cons]
      simp [kvC]
    · rw [List.map_cons,valV_neg (p:=kvC e) (fun z=>h (ndK_inj z)),val_kvC u r,List.find?_cons]
      have:(e.1 == u)=false:=by simpa using h
      rw [this];rfl
theorem dgetC {H:Hp}{D b:Addr}{ps:List (Nk Str × Int)}{v:Nk Str} (h1:H D=some (.dT (ps.map kvC))) (hb:H b=some (.tup (ndV v))):DGet H D (.ref b) ((tellP ps v).map V.int):=by
  have h:=DGet.t (k:=ndK v) h1 hb
  rwa [val_kvC] at h
structure PlanW (H:Hp) (P:Addr) (zs bs:List Str) (ls:List (Ln Str)):Prop where
  pl:∃ pn pb pl vs g,H P=some (.lst [.ref pn,.ref pb,.ref pl])/\H pn=some (.lst (zs.map V.str))/\H pb=some (.lst (bs.map V.str))/\H pl=some (.lst vs)/\(∀ v∈vs,LnAt H g v)/\ls=vs.map g
  l60:ls.length<=60
  n12:zs.length<=12
  sub:∀ z∈bs,z∈zs
  bl:bs.length<=12
  ln:∀ l∈ls,l.a∈zs/\l.b∈zs/\LnOk l
theorem PlanW.same {H H':Hp}{P:Addr}{zs bs:List Str}{ls:List (Ln Str)} (h:PlanW H P zs bs ls) (s:Same H H'):PlanW H' P zs bs ls:=by
  obtain ⟨⟨pn,pb,pl,vs,g,h1,h2,h3,h4,h5,h6⟩,a,b,c,d,e⟩:=h
  exact ⟨⟨pn,pb,pl,vs,g,s _ _ h1,s _ _ h2,s _ _ h3,s _ _ h4,fun v hv=>by obtain ⟨q,e,hq⟩:=h5 v hv;exact ⟨q,e,s _ _ hq⟩,h6⟩,a,b,c,d,e⟩
theorem atI_two (x y:V) (b:Bool):atI [x,y] (if b=true then 1 else 0)=some (if b=true then y else x):=by cases b <;> rfl
theorem str_anti {x y:Str} (h1:PySem.Spec.ltCps x.cps.toList y.cps.toList=false) (h2:PySem.Spec.ltCps y.cps.toList x.cps.toList=false):x=y:=by
  rw [PyProof.Rows.ltCps_eq,decide_eq_false_iff_not] at h1 h2
  have e:=List.le_antisymm (List.not_lt.mp h2) (List.not_lt.mp h1)
  cases x with
  | mk a =>
    cases y with
    | mk b =>
      have e':a.toList=b.toList:=e
      rw [Array.toList_inj.mp e']
theorem str_trans {x y z:Str} (h1:PySem.Spec.ltCps y.cps.toList x.cps.toList=false) (h2:PySem.Spec.ltCps z.cps.toList y.cps.toList=false):PySem.Spec.ltCps z.cps.toList x.cps.toList=false:=by
  rw [PyProof.Rows.ltCps_eq,decide_eq_false_iff_not] at h1 h2 ⊢
  exact List.not_lt.mpr (List.le_trans (List.not_lt.mp h1) (List.not_lt.mp h2))
theorem rising_pw:∀ {l:List Str}{p:Str},PyProof.Rows.risingS p l=true->(p::l).Pairwise fun a b=>PySem.Spec.ltCps b.cps.toList a.cps.toList=false
  | [],_,_=>List.pairwise_singleton _ _
  | x::r,p,h=>by
    have h':(!PySem.Spec.ltCps x.cps.toList p.cps.toList && PyProof.Rows.risingS x r)=true:=h
    rw [Bool.and_eq_true,Bool.not_eq_true'] at h'
    have ih:=rising_pw h'.2
    refine List.pairwise_cons.mpr ⟨fun y hy=>?_,ih⟩
    rcases List.mem_cons.mp hy with rfl | hy
    · exact h'.1
    · exact str_trans h'.1 ((List.pairwise_cons.mp ih).1 y hy)
theorem sorted_pw {l:List Str} (h:PyProof.Rows.sortedS l=true):l.Pairwise fun a b=>PySem.Spec.ltCps b.cps.toList a.cps.toList=false:=by
  cases l with
  | nil=>exact .nil
  | cons x r=>exact rising_pw h
theorem sorted_uniq {a b:List Str} (s1:PyProof.Rows.sortedS a=true) (s2:PyProof.Rows.sortedS b=true) (n1:a.Nodup) (n2:b.Nodup) (h:∀ z,z∈a ↔ z∈b):a=b :=
  List.Perm.eq_of_pairwise (fun x y _ _ h1 h2=>str_anti h2 h1) (sorted_pw s1) (sorted_pw s2) ((List.perm_ext_iff_of_nodup n1 n2).mpr h)
theorem nd_injK {α β:Type}{f:α->β}:∀ {l:List α},(l.map f).Nodup->∀ {x y:α},x∈l->y∈l->f x=f y->x=y
  | a::l,h,x,y,hx,hy,e=>by
    rw [List.map_cons,List.nodup_cons] at h
    rcases List.mem_cons.mp hx with hx | hx <;> rcases List.mem_cons.mp hy with hy | hy
    · rw [hx,hy]
    · exact absurd (List.mem_map.mpr ⟨y,hy,by rw [← e,hx]⟩) h.1
    · exact absurd (List.mem_map.mpr ⟨x,hx,by rw [e,hy]⟩) h.1
    · exact nd_injK h.2 hx hy e
theorem for_tupO {K:PySem.W.Frag}{a:Addr}{xs:List V}{g:TG}{tb:TS}{D:Ends}{σ:St}{H:Hp} (Pv:Nat->St->Hp->Prop) (h0:Pv 0 σ H) (hl:∀ i σ H,i<=xs.length->Pv i σ H->SqT K H a xs)
    (hs:∀ i x σ H,xs[i]?=some x->Pv i σ H->∀ N:St->Hp->Prop,(∀ σ' H',Pv (i + 1) σ' H'->N σ' H')->g x σ H fun σ2 H2=>tb { D with nx:=N,ct:=N,bk:=D.nx } σ2 H2) (hd:∀ σ H,Pv xs.length σ H->D.nx σ H):ForTurns g tb D (Itt K a) σ H :=
  for_tup Pv h0 hl (fun i x σ H hi hp=>hs i x σ H hi hp _ fun _ _ h=>h) hd
def twoP (R:Nk Str->Option Int) (z:Str):List (Nk Str × Int):=[false,true].filterMap fun f=>(R (z,f)).map fun d=>((z,f),d)
def ordP (R:Nk Str->Option Int) (ws:List Str):List (Nk Str × Int):=ws.flatMap (twoP R)
def twoK (k:Nk Str->Bool) (z:Str):List (Nk Str):=([false,true].filter fun f=>k (z,f)).map fun f=>(z,f)
theorem twoP_keys (R:Nk Str->Option Int) (z:Str):(twoP R z).map (·.1)=twoK (fun u=>(R u).isSome) z:=by
  unfold twoP twoK
  cases h1:R (z,false) <;> cases h2:R (z,true) <;> simp [h1,h2]
theorem mem_ordP {R:Nk Str->Option Int}{ws:List Str}{u:Nk Str}{d:Int}:(u,d)∈ordP R ws ↔ u.1∈ws/\R u=some d:=by
  unfold ordP twoP
  rw [List.mem_flatMap]
  constructor
  · rintro ⟨z,hz,h⟩
    obtain ⟨f,_,h2⟩:=List.mem_filterMap.mp h
    obtain ⟨d',h3,h4⟩:=Option.map_eq_some_iff.mp h2
    cases h4
    exact ⟨hz,h3⟩
  · rintro ⟨hz,h⟩
    refine ⟨u.1,hz,List.mem_filterMap.mpr ⟨u.2,by cases u.2 <;> simp,?_⟩⟩
    rw [show (u.1,u.2)=u from rfl,h];rfl
theorem nd_ordP {R:Nk Str->Option Int}:∀ {ws:List Str},ws.Nodup->((ordP R ws).map (·.1)).Nodup
  | [],_=>List.nodup_nil
  | z::ws,h=>by
    rw [List.nodup_cons] at h
    show ((twoP R z++ordP R ws).map (·.1)).Nodup
    rw [List.map_append,List.nodup_append]
    refine ⟨?_,nd_ordP h.2,fun a ha b hb e=>?_⟩
    · rw [twoP_keys]
      unfold twoK
      exact (List.filter_sublist.map _).nodup (by simp)
    · rw [twoP_keys] at ha
      unfold twoK at ha
      obtain ⟨f,_,rfl⟩:=List.mem_map.mp ha
      obtain ⟨q,hq,rfl⟩:=List.mem_map.mp hb
      have:=(mem_ordP.mp (show (q.1,q.2)∈ordP R ws from hq)).1
      rw [← e] at this
      exact h.1 this
theorem stN_symmW {bs:List Str}{ls:List (Ln Str)}{p g:Int} (k x:Nk Str) (c:Int) (h:(x,c)∈stN bs ls p g k):(k,c)∈stN bs ls p g x:=by
  rcases mem_stN.mp h with ⟨h1,h2⟩ | ⟨l,hl,h2⟩
  · cases h2
    exact mem_stN.mpr (.inl ⟨h1,by simp⟩)
  · obtain ⟨y,hy,hc,hz⟩:=stepL_some h2
    obtain ⟨z,f⟩:=k
    have hc':c=y * mulF p g f:=hc
    have hy':l.cost f=some y:=hy
    refine mem_stN.mpr (.inr ⟨l,hl,?_⟩)
    rcases hz with ⟨h3,h4⟩ | ⟨h3,h4⟩
    · have e:x=(l.b,f):=h4
      have h3':z=l.a:=h3
      subst e
      show stepL l.b f (mulF p g f) l=_
      unfold stepL
      rw [hy',hc',h3']
      by_cases e:l.b=l.a <;> simp [e]
    · have e:x=(l.a,f):=h4
      have h3':z=l.b:=h3
      subst e
      show stepL l.a f (mulF p g f) l=_
      unfold stepL
      rw [hy',hc',h3']
      simp
theorem least_ex {St:Nk Str->List (Nk Str × Int)} (hn:∀ k q,q∈St k->0<=q.2) {u v:Nk Str}:∀ (n:Nat) (w:Int),w.toNat<=n->Wk St u v w->∃ d,Least St u v d/\d<=w
  | n,w,hw,x=>by
    by_cases h:∃ w',w' < w/\Wk St u v w'
    · obtain ⟨w',h1,h2⟩:=h
      have n1:=h2.nn hn
      have n2:=x.nn hn
      match n,hw with
      | 0,hw=>omega
      | n + 1,hw =>
        obtain ⟨d,h3,h4⟩:=least_ex hn n w' (by omega) h2
        exact ⟨d,h3,by omega⟩
    · exact ⟨w,⟨x,fun w' y=>Int.not_lt.mp fun z=>h ⟨w',z,y⟩⟩,Int.le_refl _⟩
inductive Wn (St:Nk Str->List (Nk Str × Int)) (u:Nk Str):Nk Str->Int->List (Nk Str)->Prop
  | nil:Wn St u u 0 [u]
  | snoc {v x:Nk Str}{w c:Int}{L:List (Nk Str)}:Wn St u v w L->(x,c)∈St v->x ∉ L->Wn St u x (w + c) (x::L)
theorem Wn.pre {St:Nk Str->List (Nk Str × Int)} (hn:∀ k q,q∈St k->0<=q.2) {u v y:Nk Str}{w:Int}{L:List (Nk Str)} (h:Wn St u v w L) (hy:y∈L):∃ w' L',Wn St u y w' L'/\w'<=w:=by
  induction h with
  | nil=>rw [List.mem_singleton.mp hy];exact ⟨0,[u],.nil,Int.le_refl _⟩
  | @snoc v x w c L h m hx ih =>
    rcases List.mem_cons.mp hy with rfl | hy
    · exact ⟨_,_,h.snoc m hx,Int.le_refl _⟩
    · obtain ⟨w',L',h1,h2⟩:=ih hy
      have:=hn _ _ m
      exact ⟨w',L',h1,by simp only at this;omega⟩
theorem wk_wn {St:Nk Str->List (Nk Str × Int)} (hn:∀ k q,q∈St k->0<=q.2) {u v:Nk Str}{w:Int} (x:Wk St u v w):∃ w' L,Wn St u v w' L/\w'<=w:=by
  induction x with
  | nil=>exact ⟨0,[u],.nil,Int.le_refl _⟩
  | @snoc v x w c _ m ih =>
    obtain ⟨w',L,h1,h2⟩:=ih
    by_cases hx:x∈L
    · obtain ⟨w2,L2,h3,h4⟩:=h1.pre hn hx
      have:=hn _ _ m
      exact ⟨w2,L2,h3,by simp only at this;omega⟩
    · exact ⟨w' + c,_,h1.snoc m hx,by omega⟩
theorem Wn.wk {St:Nk Str->List (Nk Str × Int)}{u v:Nk Str}{w:Int}{L:List (Nk Str)} (h:Wn St u v w L):Wk St u v w:=by
  induction h with
  | nil=>exact .nil
  | snoc _ m _ ih=>exact ih.snoc m
theorem Wn.bd {St:Nk Str->List (Nk Str × Int)}{M:Int}{U:List (Nk Str)} (hn:∀ k q,q∈St k->q.2<=M/\q.1∈U) {u v:Nk Str}{w:Int}{L:List (Nk Str)} (h:Wn St u v w L):L.Nodup/\(∀ y∈L,y∈u::U)/\w + M<=L.length * M:=by
  induction h with
  | nil=>exact ⟨by simp,fun y hy=>by rw [List.mem_singleton.mp hy];exact List.mem_cons_self,by simp⟩
  | @snoc v x w c L h m hx ih =>
    obtain ⟨h1,h2,h3⟩:=ih
    obtain ⟨h4,h5⟩:=hn _ _ m
    refine ⟨List.nodup_cons.mpr ⟨hx,h1⟩,fun y hy=>?_,?_⟩
    · rcases List.mem_cons.mp hy with rfl | hy
      · exact List.mem_cons_of_mem _ h5
      · exact h2 y hy
    · have e:((x::L).length:Int) * M=L.length * M + M:=by rw [List.length_cons,Int.natCast_add,Int.add_mul];simp
      rw [e]
      simp only at h4
      omega
structure NetM (zs bs:List Str) (ls:List (Ln Str)) (p g:Int):Prop where
  n12:zs.length<=12
  sub:∀ z∈bs,z∈zs
  ln:∀ l∈ls,l.a∈zs/\l.b∈zs/\LnOk l
  hp:0<=p/\p<=10 ^ 19
  hg:0<=g/\g<=10 ^ 19
theorem NetM.nn {zs bs:List Str}{ls:List (Ln Str)}{p g:Int} (N:NetM zs bs ls p g):∀ k q,q∈stN bs ls p g k->0<=q.2:=fun _ _ h=>stN_nn N.hp.1 N.hg.1 N.ln h
theorem NetM.bd {zs bs:List Str}{ls:List (Ln Str)}{p g:Int} (N:NetM zs bs ls p g) {u v:Nk Str}{d:Int} (x:Least (stN bs ls p g) u v d):d<=10 ^ 40:=by
  obtain ⟨w,L,h1,h2⟩:=wk_wn N.nn x.1
  obtain ⟨h3,h4,h5⟩:=h1.bd (M:=10 ^ 28) (U:=UL zs) fun k q hq=>by
    refine ⟨?_,stN_in N.sub N.ln hq⟩
    rcases mem_stN.mp hq with ⟨_,rfl⟩ | ⟨l,hl,e⟩
    · show (0:Int)<=10 ^ 28
      decide
    · obtain ⟨y,hy,hc,_⟩:=stepL_some e
      rw [hc]
      have h6:=(N.ln l hl).2.2 _ y hy
      have h7:0<=mulF p g k.2/\mulF p g k.2<=10 ^ 19:=by
        unfold mulF
        split
        · exact N.hg
        · exact N.hp
      exact Int.le_trans (Int.mul_le_mul h6.2 h7.2 h7.1 (by decide)) (by decide)
  have h6:=nodup_len _ _ h3 h4
  rw [List.length_cons,len_UL] at h6
  have h7:=N.n12
  have h8:(L.length:Int)<=25:=by omega
  have h9:(L.length:Int) * 10 ^ 28<=25 * 10 ^ 28:=Int.mul_le_mul_of_nonneg_right h8 (by decide)
  have h11:d<=w:=x.2 w h1.wk
  have e28:(10:Int) ^ 28=10000000000000000000000000000:=by decide
  have e40:(10:Int) ^ 40=10000000000000000000000000000000000000000:=by decide
  rw [e28] at h5 h9
  rw [e40]
  omega
def PrF (bs:List Str) (ls:List (Ln Str)) (p g:Int) (z:Str) (R:Nk Str->Option Int):Prop:=∀ u d,R u=some d ↔ Least (stN bs ls p g) (z,false) u d
theorem PrF.get {zs bs:List Str}{ls:List (Ln Str)}{p g:Int} (N:NetM zs bs ls p g) {z:Str}{R:Nk Str->Option Int} (P:PrF bs ls p g z R) {u:Nk Str}{w:Int} (x:Wk (stN bs ls p g) (z,false) u w):∃ d,R u=some d/\d<=w:=by
  obtain ⟨d,h1,h2⟩:=least_ex N.nn w.toNat w (Nat.le_refl _) x
  exact ⟨d,(P u d).mpr h1,h2⟩
theorem PrF.symm {bs:List Str}{ls:List (Ln Str)}{p g:Int}{z y:Str}{R S:Nk Str->Option Int} (P:PrF bs ls p g z R) (Q:PrF bs ls p g y S):R (y,false)=S (z,false):=by
  have h:∀ {z y:Str}{d:Int},Least (stN bs ls p g) (z,false) (y,false) d->Least (stN bs ls p g) (y,false) (z,false) d:=fun x=>⟨x.1.symm stN_symmW,fun w v=>x.2 w (v.symm stN_symmW)⟩
  cases e:R (y,false) with
  | some d=>exact ((Q _ _).mpr (h ((P _ _).mp e))).symm
  | none =>
    cases e2:S (z,false) with
    | none=>rfl
    | some d=>rw [(P _ _).mpr (h ((Q _ _).mp e2))] at e;cases e
theorem PrF.tri {zs bs:List Str}{ls:List (Ln Str)}{p g:Int} (N:NetM zs bs ls p g) {z y m:Str}{R S:Nk Str->Option Int} (P:PrF bs ls p g z R) (Q:PrF bs ls p g m S):(R (y,false)).getD (10 ^ 40)<=(R (m,false)).getD (10 ^ 40) + (S (y,false)).getD (10 ^ 40):=by
  have up:∀ {z u}{R:Nk Str->Option Int},PrF bs ls p g z R->0<=(R u).getD (10 ^ 40)/\(R u).getD (10 ^ 40)<=10 ^ 40:=fun {z u R} P=>by
    cases e:R u with
    | none=>exact ⟨by decide,Int.le_refl _⟩
    | some d=>exact ⟨((P _ _).mp e).1.nn N.nn,N.bd ((P _ _).mp e)⟩
  have u1:=up (u:=(y,false)) P
  have u2:=up (u:=(m,false)) P
  have u3:=up (u:=(y,false)) Q
  cases e1:R (m,false) with
  | none=>rw [e1] at u2;rw [Option.getD_none];omega
  | some d1 =>
    cases e2:S (y,false) with
    | none=>rw [e1] at u2;rw [Option.getD_none];omega
    | some d2 =>
      obtain ⟨d,h1,h2⟩:=P.get N (((P _ _).mp e1).1.trans ((Q _ _).mp e2).1)
      rw [h1]
      exact h2
theorem PrF.more {zs bs bs':List Str}{ls ls':List (Ln Str)}{p g:Int} (N:NetM zs bs ls p g) (hb:∀ z∈bs',z∈bs) (hl:∀ l∈ls',l∈ls) {z:Str}{R S:Nk Str->Option Int} (P:PrF bs ls p g z R) (Q:PrF bs' ls' p g z S) {u:Nk Str}{d:Int} (h:S u=some d):∃ d',R u=some d'/\d'<=d:=by
  refine P.get N (((Q _ _).mp h).1.mono fun k q hq=>?_)
  rcases mem_stN.mp hq with ⟨h1,h2⟩ | ⟨l,h1,h2⟩
  · exact mem_stN.mpr (.inl ⟨hb _ h1,h2⟩)
  · exact mem_stN.mpr (.inr ⟨l,hl l h1,h2⟩)
theorem PrF.times {zs bs:List Str}{ls:List (Ln Str)}{p g t:Int} (N:NetM zs bs ls p g) (ht:0<=t) {z:Str}{R S:Nk Str->Option Int} (P:PrF bs ls p g z R) (Q:PrF bs ls (t * p) (t * g) z S):S=fun u=>(R u).map (t * ·):=by
  funext u
  cases e:R u with
  | some d=>exact (Q _ _).mpr (((P _ _).mp e).times ht)
  | none =>
    cases e2:S u with
    | none=>rfl
    | some d =>
      obtain ⟨w,h1,_⟩:=((Q _ _).mp e2).1.untimes
      obtain ⟨d',h2,_⟩:=P.get N h1
      rw [e] at h2;cases h2
theorem ordP_map (R:Nk Str->Option Int) (t:Int) (ws:List Str):ordP (fun u=>(R u).map (t * ·)) ws=(ordP R ws).map fun q=>(q.1,t * q.2):=by
  unfold ordP
  rw [List.map_flatMap]
  congr 1
  funext z
  unfold twoP
  cases h1:R (z,false) <;> cases h2:R (z,true) <;> simp [h1,h2]
theorem tell_ordP {R:Nk Str->Option Int}{ws:List Str} (hn:ws.Nodup) {u:Nk Str} (hu:u.1∈ws):tellP (ordP R ws) u=R u:=by
  cases e:R u with
  | some d=>exact tell_mem (nd_ordP hn) (mem_ordP.mpr ⟨hu,e⟩)
  | none =>
    refine tell_none fun h=>?_
    obtain ⟨q,hq,rfl⟩:=List.mem_map.mp h
    have:=(mem_ordP.mp (show (q.1,q.2)∈_ from hq)).2
    rw [e] at this;cases this
theorem len_ordP {R:Nk Str->Option Int}{ws zs:List Str} (hp:ws.Perm zs) (hn:zs.Nodup) (h12:zs.length<=12):(ordP R ws).length<=24:=by
  have h1:=nodup_len (UL zs) ((ordP R ws).map (·.1)) (nd_ordP (hp.nodup_iff.mpr hn)) fun u hu=>by
    obtain ⟨q,hq,rfl⟩:=List.mem_map.mp hu
    exact mem_UL.mpr (hp.mem_iff.mp (mem_ordP.mp (show (q.1,q.2)∈_ from hq)).1)
  rw [List.length_map,len_UL] at h1
  omega
theorem putAll_nodup {kvs:List (List Key × V)} (h:(kvs.map (·.1)).Nodup):putAll kvs=kvs:=by
  induction kvs using snocRec with
  | nil=>rfl
  | snoc l x ih =>
    rw [List.map_append,List.nodup_append] at h
    rw [putAll_snoc,ih h.1,putK_new]
    unfold valV
    rw [List.find?_eq_none.mpr fun kv hkv hd=>?_];rfl
    exact h.2.2 _ (List.mem_map.mpr ⟨kv,hkv,rfl⟩) _ (by simp) (of_decide_eq_true hd)
theorem for_itfO {a:Addr}{Dq:Obj}{kvs:List (List Key × V)}{xs:List V}{g:TG}{tb:TS}{D:Ends}{σ:St}{H:Hp} (Pv:Nat->St->Hp->Prop) (h0:Pv 0 σ H) (hl:∀ i σ H,Pv i σ H->H a=some (.frz Dq (.dT kvs)))
    (hs:∀ i x σ H,xs[i]?=some x->Pv i σ H->∀ N:St->Hp->Prop,(∀ σ' H',Pv (i + 1) σ' H'->N σ' H')->g x σ H fun σ2 H2=>tb { D with nx:=N,ct:=N,bk:=D.nx } σ2 H2) (hd:∀ σ H,Pv xs.length σ H->D.nx σ H):ForTurns g tb D (ItdF a Dq kvs xs) σ H:=by
  refine ⟨fun i m σ H=>m=xs.length - i/\i<=xs.length/\Pv i σ H,⟨_,rfl,Nat.zero_le _,h0⟩,?_⟩
  rintro i m σ H ⟨rfl,hi,hp⟩
  by_cases hlt:i < xs.length
  · refine .inr ⟨⟨hlt,hl i σ H hp⟩,fun σ' H'=>Pv (i + 1) σ' H',fun σ' H' h=>⟨xs.length - (i + 1),by omega,rfl,hlt,h⟩,?_⟩
    rintro x H' ⟨hx,rfl⟩
    exact hs i x σ _ hx hp _ fun _ _ h=>h
  · have e:i=xs.length:=by omega
    subst e
    exact .inl ⟨⟨Nat.le_refl _,hl _ σ H hp⟩,hd σ H hp⟩
theorem dgetF {H:Hp}{D b:Addr}{ps:List (Nk Str × Int)}{v:Nk Str}{ob:Obj} (h1:H D=some (.frz ob (.dT (ps.map kvC)))) (hb:H b=some (.tup (ndV v))):DGet H D (.ref b) ((tellP ps v).map V.int):=by
  rw [← val_kvC]
  exact .inr ⟨_,ndK v,b,.inr ⟨_,h1⟩,rfl,hb,rfl⟩
def sp_is_whole:Sp:=fun vs H Q _=>∃ x t,vs=[x]/\tagV H x=some t/\Q (.bl (decide (t=Tg.int))) H
theorem sc_is_whole:FnScope ["thing"] ["thing"] (defScope s_is_whole):=⟨rfl,rfl,rfl,by decide +kernel,rfl,by decide +kernel,by decide +kernel⟩
theorem ok_is_whole {f:Addr}{fd:FuncData} (F:Fun K "is_whole" "is_whole" s_is_whole f fd) (T:Bl mg) (AF:AdF K mg Ad) :FnOk P w K mg base (CX1 P w) 1 f fd ["thing"] sp_is_whole:=by
  refine F.okX (k:=0) sc_is_whole (fun vs H Q E h=>?_) (fun cdv A outer s H vs Q E hr h=>?_)
  · obtain ⟨x,t,rfl,_⟩:=h
    rfl
  · obtain ⟨x,t,rfl,ht,k⟩:=h
    have hu:=hr.units0
    have hu1:=hu_of hr
    refine ⟨_,pss_one (ps_ret (pe_and (pe_callBG (call_isiC .int) T.isinstance bt_isinstance (pa_c (pvL 0) (pa_c (pe_tyG T.int bt_int) (pa_nil)))) (pe_one (pe_not (pe_callBG (call_isiC .bl) T.isinstance bt_isinstance (pa_c (pvL 0) (pa_c (pe_tyG T.bool bt_bool) (pa_nil)))))))),?_⟩
    ac_nf
    refine ⟨trivial,t,ht,?_⟩
    cases t <;> (simp only [Tg.sub,if_true,if_false,Bool.false_eq_true,reduceCtorEq];first | exact k | exact ⟨trivial,_,ht,k⟩)
def sp_are_letters:Sp:=fun vs H Q _=>∃ (x:V) (t:Tg) (n:Nat),vs=[x,.int n]/\tagV H x=some t/\(∀ z,x=.str z->z.length<=100000)/\n<=1000/\∀ H',Same H H'->Q (.bl (areLetV n x)) H'
theorem sc_are_letters:FnScope ["thing","most"] ["thing","most"] (defScope s_are_letters):=⟨rfl,rfl,rfl,by decide +kernel,rfl,by decide +kernel,by decide +kernel⟩
theorem ok_are_letters {f:Addr}{fd:FuncData} (F:Fun K "are_letters" "are_letters" s_are_letters f fd) (T:Bl mg) (AF:AdF K mg Ad) :FnOk P w K mg base (CX1 P w) 1 f fd ["thing","most"] sp_are_letters:=by
  refine F.okX (k:=0) sc_are_letters (fun vs H Q E h=>?_) (fun cdv A outer s H vs Q E hr h=>?_)
  · obtain ⟨x,t,n,rfl,_⟩:=h
    rfl
  · obtain ⟨x,t,n,rfl,ht,hz,hn,k⟩:=h
    have hu:=hr.units0
    have hu1:=hu_of hr
    refine ⟨_,pss_cons (ps_if ((pw_or (pt_not (pt_val (pe_callBG (call_isiC .str) T.isinstance bt_isinstance (pa_c (pvL 0) (pa_c (pe_tyG T.str bt_str) (pa_nil)))))) (pw_or1 (pt_not (pt_chain op_leX op_leX (pe_int) (pe_callBG (call_lenK (K:=K) rfl) T.len bt_len (pa_c (pvL 0) (pa_nil))) (pvL 1))))).pt) (pss_one (ps_ret (pe_bl))) (pss_nil)) (pss_one (ps_ret (pe_callBG (call_allK (K:=K) rfl rfl) T.all bt_all (pa_c (pe_lc ["sign"] rfl ⟨rfl,by decide +kernel,rfl,by decide +kernel⟩ (.nil) (by decide +kernel) (pi_seqK (K:=K) rfl (pvL 0)) (fun _ _ _ _=>pg_nameL (i:=0) (show (["sign"]:List Str).Nodup from by decide +kernel)) (fun _ _ _ _=>pif_nil) (fun _ _ _ _=>pe_cmpR (op_inK (K:=K) rfl hu1) (pvL 0) (pe_globE AF.v_SMALL_LETTERS) (by kernel_rfl))) (pa_nil))))),?_⟩
    by_cases hs:∃ z,x=.str z
    · obtain ⟨z,rfl⟩:=hs
      cases ht
      have hl:=hz z rfl
      have hc:=len_cps z
      have ek:areLetV n (.str z)=areLet n z.cps.toList:=rfl
      ac_nf
      refine ⟨trivial,Tg.str,rfl,?_⟩
      ac_nf
      refine ⟨Nat.le_of_lt (small_line (by omega)),?_⟩
      by_cases h1:1<=z.length
      · rw [decide_eq_true (show (1:Int)<=(z.length:Int) by omega)]
        bv_omega
        by_cases h2:z.length<=n
        · rw [decide_eq_true (show (z.length:Int)<=(n:Int) by omega)]
          bv_omega
          refine lc_M (fun c:Nat=>V.str ⟨#[c]⟩) inj_sg (seq_sg z) (small_line (by omega)) (fun c=>.bl (decide (97<=c/\c < 123))) ?_ ?_
          · intro c hc H2 s2 R hR
            ac_nf
            rw [in_one,abc_codes]
            have e2:decide (c∈List.range' 97 26)=decide (97<=c/\c < 123):=decide_eq_decide.mpr (by rw [List.mem_range'_1])
            rw [e2]
            exact hR H2 (Same.refl _)
          · intro D H2 hD s2 h2'
            refine ⟨D,z.cps.toList.map fun c=>decide (97<=c/\c < 123),rfl,.of (by rw [h2',List.map_map];rfl),?_⟩
            have e:(z.cps.toList.map fun c=>decide (97<=c/\c < 123)).all id=areLetV n (.str z):=by
              rw [ek]
              unfold areLet
              rw [decide_eq_true (show 1<=z.cps.toList.length by omega),decide_eq_true (show z.cps.toList.length<=n by omega),List.all_map];rfl
            rw [e]
            exact k H2 s2
        · have e:areLetV n (.str z)=false:=by rw [ek];unfold areLet;rw [decide_eq_false (show ¬ z.cps.toList.length<=n by omega)];simp
          rw [e] at k
          rw [decide_eq_false (show ¬ (z.length:Int)<=(n:Int) by omega)]
          bv_omega
          exact k H (Same.refl _)
      · have e:areLetV n (.str z)=false:=by rw [ek];unfold areLet;rw [decide_eq_false (show ¬ 1<=z.cps.toList.length by omega)];simp
        rw [e] at k
        rw [decide_eq_false (show ¬ (1:Int)<=(z.length:Int) by omega)]
        bv_omega
        exact k H (Same.refl _)
    · have hv:areLetV n x=false:=by
        cases x with
        | str z=>exact absurd ⟨z,rfl⟩ hs
        | _=>rfl
      have hne:=sub_str ht fun z e=>hs ⟨z,e⟩
      rw [hv] at k
      ac_nf
      refine ⟨trivial,t,ht,?_⟩
      cases t <;> first
        | exact absurd rfl hne
        | exact k H (Same.refl _)
def sp_Net_offices (Ad:Ads):Sp:=fun vs H Q _=>∃ (a:Addr) (os bs ls:List V),vs=[.ref a]/\NetAt Ad H a os bs ls/\nw H (.lst os) Q
theorem sc_Net_offices:FnScope ["self"] ["self"] (defScope s_Net_offices):=⟨rfl,rfl,rfl,by decide +kernel,rfl,by decide +kernel,by decide +kernel⟩
theorem ok_Net_offices {f:Addr}{fd:FuncData} (F:Fun K "offices" "Net.offices" s_Net_offices f fd) (T:Bl mg) (AF:AdF K mg Ad) :FnOk P w K mg base (CX1 P w) 1 f fd ["self"] (sp_Net_offices Ad):=by
  refine F.okX (k:=0) sc_Net_offices (fun vs H Q E h=>?_) (fun cdv A outer s H vs Q E hr h=>?_)
  · obtain ⟨a,os,bs,ls,rfl,_⟩:=h
    rfl
  · obtain ⟨a,os,bs,ls,rfl,⟨dx,p,q,r,h1,h2,h3,h4⟩,k⟩:=h
    have hu:=hr.units0
    have hu1:=hu_of hr
    refine ⟨_,pss_one (ps_ret (pe_callTyG (call_listK (K:=K) rfl rfl) T.list bt_list (pa_c (pe_fldX (K:=K) rfl (pvL 0)) (pa_nil)))),?_⟩
    ac_nf
    exact ⟨_,dx,_,_,h1,AF.c_Net,AF.n_Net_names,netF_names p q r,_,.inl (.l h2),k⟩
def sp_Net_with_book (Ad:Ads):Sp:=fun vs H Q _=>∃ (a:Addr) (os bs ls:List V),vs=[.ref a]/\NetAt Ad H a os bs ls/\nw H (.lst bs) Q
theorem sc_Net_with_book:FnScope ["self"] ["self"] (defScope s_Net_with_book):=⟨rfl,rfl,rfl,by decide +kernel,rfl,by decide +kernel,by decide +kernel⟩
theorem ok_Net_with_book {f:Addr}{fd:FuncData} (F:Fun K "with_book" "Net.with_book" s_Net_with_book f fd) (T:Bl mg) (AF:AdF K mg Ad) :FnOk P w K mg base (CX1 P w) 1 f fd ["self"] (sp_Net_with_book Ad):=by
  refine F.okX (k:=0) sc_Net_with_book (fun vs H Q E h=>?_) (fun cdv A outer s H vs Q E hr h=>?_)
  · obtain ⟨a,os,bs,ls,rfl,_⟩:=h
    rfl
  · obtain ⟨a,os,bs,ls,rfl,⟨dx,p,q,r,h1,h2,h3,h4⟩,k⟩:=h
    have hu:=hr.units0
    have hu1:=hu_of hr
    refine ⟨_,pss_one (ps_ret (pe_callTyG (call_listK (K:=K) rfl rfl) T.list bt_list (pa_c (pe_fldX (K:=K) rfl (pvL 0)) (pa_nil)))),?_⟩
    ac_nf
    exact ⟨_,dx,_,_,h1,AF.c_Net,AF.n_Net_holders,netF_holders p q r,_,.inl (.l h3),k⟩
def sp_Net_lines (Ad:Ads):Sp:=fun vs H Q _=>∃ (a:Addr) (os bs ls:List V),vs=[.ref a]/\NetAt Ad H a os bs ls/\nw H (.lst ls) Q
theorem sc_Net_lines:FnScope ["self"] ["self"] (defScope s_Net_lines):=⟨rfl,rfl,rfl,by decide +kernel,rfl,by decide +kernel,by decide +kernel⟩
theorem ok_Net_lines {f:Addr}{fd:FuncData} (F:Fun K "lines" "Net.lines" s_Net_lines f fd) (T:Bl mg) (AF:AdF K mg Ad) :FnOk P w K mg base (CX1 P w) 1 f fd ["self"] (sp_Net_lines Ad):=by
  refine F.okX (k:=0) sc_Net_lines (fun vs H Q E h=>?_) (fun cdv A outer s H vs Q E hr h=>?_)
  · obtain ⟨a,os,bs,ls,rfl,_⟩:=h
    rfl
  · obtain ⟨a,os,bs,ls,rfl,⟨dx,p,q,r,h1,h2,h3,h4⟩,k⟩:=h
    have hu:=hr.units0
    have hu1:=hu_of hr
    refine ⟨_,pss_one (ps_ret (pe_callTyG (call_listK (K:=K) rfl rfl) T.list bt_list (pa_c (pe_fldX (K:=K) rfl (pvL 0)) (pa_nil)))),?_⟩
    ac_nf
    exact ⟨_,dx,_,_,h1,AF.c_Net,AF.n_Net_wires,netF_wires p q r,_,.inl (.l h4),k⟩
def sp_law_cell_at (K:PySem.W.Frag):Sp:=fun vs H Q _=>∃ (a:Addr) (ns:List Int) (k:Int),vs=[.ref a,.int k]/\SqL K H a (ns.map V.int)/\0<=k/\Q (.int (ns.getD k.toNat 0)) H
theorem sc_law_cell_at:FnScope ["_law_script","_law_k"] ["_law_script","_law_k"] (defScope s_law_cell_at):=⟨rfl,rfl,rfl,by decide +kernel,rfl,by decide +kernel,by decide +kernel⟩
theorem ok_law_cell_at {f:Addr}{fd:FuncData} (F:Fun K "_law_cell_at" "_law_cell_at" s_law_cell_at f fd) (T:Bl mg) (AF:AdF K mg Ad) :FnOk P w K mg base (CX1 P w) 1 f fd ["_law_script","_law_k"] (sp_law_cell_at K):=by
  refine F.okX (k:=0) sc_law_cell_at (fun vs H Q E h=>?_) (fun cdv A outer s H vs Q E hr h=>?_)
  · obtain ⟨a,ns,k,rfl,_⟩:=h
    rfl
  · obtain ⟨a,ns,i,rfl,hS,hi,k⟩:=h
    have hu:=hr.units0
    have hu1:=hu_of hr
    refine ⟨_,pss_cons (ps_if (pt_cmpR op_ltX (pvL 1) (pe_callBG (call_lenK (K:=K) rfl) T.len bt_len (pa_c (pvL 0) (pa_nil))) (nomark _)) (pss_one (ps_ret (pe_ix (ix_K (K:=K) rfl) (pvL 0) (pvL 1) (fun _ _=>rfl)))) (pss_nil)) (pss_one (ps_ret (pe_int))),?_⟩
    ac_nf
    refine ⟨_,.inl hS,?_⟩
    rw [List.length_map]
    by_cases hlt:i < (ns.length:Int)
    · rw [if_pos (decide_eq_true hlt)]
      refine ⟨_,.int (ns.getD i.toNat 0),.inl hS,?_,k⟩
      have e:(ns.map V.int)[i.toNat]?=some (.int (ns.getD i.toNat 0)):=by
        rw [List.getElem?_map,List.getD_eq_getElem?_getD,List.getElem?_eq_getElem (by omega)];rfl
      have:=atI_nat e
      rwa [Int.toNat_of_nonneg hi] at this
    · rw [if_neg (by rw [decide_eq_true_eq];exact hlt)]
      have e:ns.getD i.toNat 0=0:=by rw [List.getD_eq_getElem?_getD,List.getElem?_eq_none (by omega)];rfl
      rw [e] at k
      exact k
def lgGo:Nat->Int × Int->Int × Int
  | 0,p=>p
  | n + 1,p=>let q:=lgGo n p;((q.1 * 48271 + q.2 % 2147483629 + (n:Int)) % 2147483647,q.2 / 2147483629)
def lgOf (c:Int) (k:Nat):Int:=let q:=lgGo k (7,c);(q.2 * 69621 + q.1 * q.1 + 101 * (k:Int)) % 2147483629 + 2147483629 * (q.2 / 2147483629 + (q.1 + (k:Int)) ^ 6)
theorem lgGo_bd:∀ (n:Nat) (p:Int × Int),0<=p.1->p.1 < 2147483647->0<=(lgGo n p).1/\(lgGo n p).1 < 2147483647
  | 0,p,h1,h2=>⟨h1,h2⟩
  | n + 1,p,h1,h2=>⟨Int.emod_nonneg _ (by decide),Int.emod_lt_of_pos _ (by decide)⟩
def sp_law_long:Sp:=fun vs H Q _=>∃ (c:Int) (k:Nat),vs=[.int c,.int (k:Int)]/\k<=1000/\Q (.int (lgOf c k)) H
theorem sc_law_long:FnScope ["_law_cell","_law_k","_law_rest","_law_ahead","_law_turn","_law_low"] ["_law_cell","_law_k"] (defScope s_law_long):=⟨rfl,rfl,rfl,by decide +kernel,rfl,by decide +kernel,by decide +kernel⟩
theorem ok_law_long {f:Addr}{fd:FuncData} (F:Fun K "_law_long" "_law_long" s_law_long f fd) (T:Bl mg) (AF:AdF K mg Ad) :FnOk P w K mg base (CX1 P w) 1 f fd ["_law_cell","_law_k"] sp_law_long:=by
  refine F.okX (k:=0) sc_law_long (fun vs H Q E h=>?_) (fun cdv A outer s H vs Q E hr h=>?_)
  · obtain ⟨c,k,rfl,_⟩:=h
    rfl
  · obtain ⟨c,k,rfl,hk,kq⟩:=h
    have hu:=hr.units0
    have hu1:=hu_of hr
    refine ⟨_,pss_cons (ps_setL (i:=2) sc_law_long.nd (pvL 0)) (pss_cons (ps_setL (i:=3) sc_law_long.nd (pe_int)) (pss_cons (ps_for PassesOwn.leaving rfl (pi_range1G T.range (pa_c (pvL 1) (pa_nil))) (pg_nameL (i:=4) sc_law_long.nd) (pss_cons (ps_setL (i:=3) sc_law_long.nd (pe_op op_modX (pe_op op_addX (pe_op op_addX (pe_op op_mulS (pvL 3) (pe_int)) (pe_op op_modX (pvL 2) (pe_int))) (pvL 4)) (pe_int))) (pss_one (ps_setL (i:=2) sc_law_long.nd (pe_op op_fdivX (pvL 2) (pe_int)))))) (pss_cons (ps_setL (i:=5) sc_law_long.nd (pe_op op_modX (pe_op op_addX (pe_op op_addX (pe_op op_mulS (pvL 2) (pe_int)) (pe_op op_mulX (pvL 3) (pvL 3))) (pe_op op_mulS (pe_int) (pvL 1))) (pe_int))) (pss_one (ps_ret (pe_op op_addX (pvL 5) (pe_op op_mulS (pe_int) (pe_op op_addX (pe_op op_fdivX (pvL 2) (pe_int)) (pe_op op_powX (pe_op op_addX (pvL 3) (pvL 1)) (pe_int)))))))))),?_⟩
    refine seq_go fun nn hN=>?_
    and_intros
    rw [hN]
    clear hN nn
    refine seq_go fun nn hN=>?_
    and_intros
    rw [hN]
    clear hN nn
    refine seq_go fun nn hN=>?_
    and_intros
    refine ⟨by omega,by omega,?_⟩
    refine for_rngO (n:=k) (fun i σ H'=>H'=H/\∃ o,σ=[some (.int c),some (.int (k:Int)),some (.int (lgGo i (7,c)).2),some (.int (lgGo i (7,c)).1),o,none]) ?_ ?_ ?_
    · exact ⟨rfl,none,rfl⟩
    · rintro i σ H' hi ⟨rfl,o,rfl⟩ N hNx
      clear hN
      have hb:=lgGo_bd i (7,c) (show (0:Int)<=7 by decide) (show (7:Int) < 2147483647 by decide)
      have hsuc:lgGo (i + 1) (7,c)=(((lgGo i (7,c)).1 * 48271 + (lgGo i (7,c)).2 % 2147483629 + (i:Int)) % 2147483647,(lgGo i (7,c)).2 / 2147483629):=rfl
      rw [hsuc] at hNx
      generalize lgGo i (7,c)=q at hb hNx
      and_intros
      refine seq_go fun n2 hM=>?_
      and_intros
      refine ⟨.inr (by decide),by decide,by decide,?_⟩
      rw [hM]
      clear hM n2
      and_intros
      rw [Int.zero_add]
      exact ⟨⟨by decide,by decide⟩,hNx _ _ ⟨rfl,_,rfl⟩⟩
    · rintro σ H' ⟨rfl,o,rfl⟩
      have hb:=lgGo_bd k (7,c) (show (0:Int)<=7 by decide) (show (7:Int) < 2147483647 by decide)
      unfold lgOf at kq
      show nn _ _ _
      rw [hN]
      clear hN nn
      generalize lgGo k (7,c)=q at hb kq
      refine seq_go fun n2 hM=>?_
      and_intros
      refine ⟨.inr (by decide),?_⟩
      have hq:q.1.natAbs < 2 ^ 1000:=Nat.lt_of_lt_of_le (show q.1.natAbs < 2 ^ 32 by omega) (by decide)
      refine ⟨⟨hq,hq⟩,.inl (by decide),by decide,?_⟩
      rw [hM]
      clear hM n2
      and_intros
      exact ⟨⟨by decide,by decide⟩,⟨by decide,by decide,by omega⟩,.inl (by decide),kq⟩
def sp_law_next:Sp:=fun vs H Q _=>∃ (P t:Addr) (u:Nk Str) (p g:Int) (zs bs:List Str) (ls:List (Ln Str)),vs=[.ref P,.ref t,.int p,.int g]/\PlanW H P zs bs ls/\H t=some (.tup (ndV u))/\(0<=p/\p<=10 ^ 19)/\(0<=g/\g<=10 ^ 19) ∧
  ∀ D ws H',H D=none->Same H H'->H' D=some (.lst ws)->StepsAt H' ws (stN bs ls p g u)->Q (.ref D) H'
theorem sc_law_next:FnScope ["_law_plan_here","_law_here","_law_p","_law_g","_law_names_here","_law_booked","_law_lines","_law_found","_law_one","_law_other","_law_plain_here","_law_code","_law_cost_here","_law_there"] ["_law_plan_here","_law_here","_law_p","_law_g"] (defScope s_law_next):=⟨rfl,rfl,rfl,by decide +kernel,rfl,by decide +kernel,by decide +kernel⟩
theorem ok_law_next {f:Addr}{fd:FuncData} (F:Fun K "_law_next" "_law_next" s_law_next f fd) (T:Bl mg) (AF:AdF K mg Ad) :FnOk P w K mg base (CX1 P w) 1 f fd ["_law_plan_here","_law_here","_law_p","_law_g"] sp_law_next:=by
  refine F.okX (k:=0) sc_law_next (fun vs H Q E h=>?_) (fun cdv A outer s H vs Q E hr h=>?_)
  · obtain ⟨P,t,u,p,g,zs,bs,ls,rfl,_⟩:=h
    rfl
  · obtain ⟨P,t,⟨z,f⟩,p,g,zs,bs,ls,rfl,hW,ht,hp,hg,k⟩:=h
    have hu:=hr.units0
    have hu1:=hu_of hr
    refine ⟨_,pss_cons (ps_asg (pvL 0) (pg_unpK (K:=K) (n:=3) rfl rfl (pgs_cons (pg_nameL (i:=4) sc_law_next.nd) (pgs_cons (pg_nameL (i:=5) sc_law_next.nd) (pgs_cons (pg_nameL (i:=6) sc_law_next.nd) (pgs_nil)))))) (pss_cons (ps_setL (i:=7) sc_law_next.nd (pe_lstX (pa_nil))) (pss_cons (ps_if (pt_cmpR (op_inK (K:=K) rfl hu1) (pe_ix (ix_K (K:=K) rfl) (pvL 1) (pe_int) (fun _ _=>rfl)) (pvL 5) (by kernel_rfl)) (pss_one (ps_expr (pe_bmG (K:=K) rfl PySem.F.plainAttrs_list PySem.F.slot_list_append PySem.F.type_list_append mt_append (pvL 7) (pa_c (pe_tupX (pa_c (pe_tupX (pa_c (pe_ix (ix_K (K:=K) rfl) (pvL 1) (pe_int) (fun _ _=>rfl)) (pa_c (pe_ix (ix_K (K:=K) rfl) (pe_lstX (pa_c (pe_str) (pa_c (pe_str) (pa_nil)))) (pe_callTyG call_intB T.int bt_int (pa_c (pe_cmpR (op_eqK (K:=K) rfl hu) (pe_ix (ix_K (K:=K) rfl) (pvL 1) (pe_int) (fun _ _=>rfl)) (pe_str) (nomark _)) (pa_nil))) (fun _ _=>rfl)) (pa_nil)))) (pa_c (pe_int) (pa_nil)))) (pa_nil))))) (pss_nil)) (pss_cons (ps_for PassesOwn.leaving rfl (pi_seqK (K:=K) rfl (pvL 6)) (pg_tupK (K:=K) (n:=4) rfl rfl (pgs_cons (pg_nameL (i:=8) sc_law_next.nd) (pgs_cons (pg_nameL (i:=9) sc_law_next.nd) (pgs_cons (pg_nameL (i:=10) sc_law_next.nd) (pgs_cons (pg_nameL (i:=11) sc_law_next.nd) (pgs_nil)))))) (pss_cons (ps_setL (i:=12) sc_law_next.nd (pe_ix (ix_K (K:=K) rfl) (pe_lstX (pa_c (pvL 10) (pa_c (pvL 11) (pa_nil)))) (pe_callTyG call_intB T.int bt_int (pa_c (pe_cmpR (op_eqK (K:=K) rfl hu) (pe_ix (ix_K (K:=K) rfl) (pvL 1) (pe_int) (fun _ _=>rfl)) (pe_str) (nomark _)) (pa_nil))) (fun _ _=>rfl))) (pss_one (ps_if ((pw_and (pt_cmpR op_isnotX (pvL 12) (pe_non) (nomark _)) (pw_and1 (pt_cmpR (op_inK (K:=K) rfl hu1) (pe_ix (ix_K (K:=K) rfl) (pvL 1) (pe_int) (fun _ _=>rfl)) (pe_lstX (pa_c (pvL 8) (pa_c (pvL 9) (pa_nil)))) (by kernel_rfl)))).pt) (pss_cons (ps_setL (i:=13) sc_law_next.nd (pe_ix (ix_K (K:=K) rfl) (pe_lstX (pa_c (pvL 8) (pa_c (pvL 9) (pa_nil)))) (pe_callTyG call_intB T.int bt_int (pa_c (pe_cmpR (op_eqK (K:=K) rfl hu) (pe_ix (ix_K (K:=K) rfl) (pvL 1) (pe_int) (fun _ _=>rfl)) (pvL 8) (nomark _)) (pa_nil))) (fun _ _=>rfl))) (pss_one (ps_expr (pe_bmG (K:=K) rfl PySem.F.plainAttrs_list PySem.F.slot_list_append PySem.F.type_list_append mt_append (pvL 7) (pa_c (pe_tupX (pa_c (pe_tupX (pa_c (pvL 13) (pa_c (pe_ix (ix_K (K:=K) rfl) (pvL 1) (pe_int) (fun _ _=>rfl)) (pa_nil)))) (pa_c (pe_op op_mulX (pvL 12) (pe_ix (ix_K (K:=K) rfl) (pe_lstX (pa_c (pvL 2) (pa_c (pvL 3) (pa_nil)))) (pe_callTyG call_intB T.int bt_int (pa_c (pe_cmpR (op_eqK (K:=K) rfl hu) (pe_ix (ix_K (K:=K) rfl) (pvL 1) (pe_int) (fun _ _=>rfl)) (pe_str) (nomark _)) (pa_nil))) (fun _ _=>rfl))) (pa_nil)))) (pa_nil)))))) (pss_nil))))) (pss_one (ps_ret (pvL 7)))))),?_⟩
    obtain ⟨⟨pn,pb,pl,vs,gl,hP,hn,hb,hl,hla,rfl⟩,l60,n12,hsub,hbl,hln⟩:=hW
    have hT:Sq K H t (ndV (z,f)):=.t ht
    have le2:2<=sizeLine:=Nat.le_of_lt (small_line (by decide))
    refine seq_go fun nn hN=>?_
    and_intros
    refine ⟨_,.l hP,rfl,?_⟩
    and_intros
    rw [hN]
    clear hN nn
    refine seq_go fun nn hN=>?_
    and_intros
    refine ⟨Nat.zero_le _,fun D H1 hD s1 h1=>?_⟩
    rw [hN]
    clear hN nn
    have hD0:H D=none:=hD
    have n1:pl≠D:=ne_of_none hl hD0
    refine cut_seq (fun σ H'=>σ=[some (V.ref P),some (V.ref t),some (V.int p),some (V.int g),some (V.ref pn),some (V.ref pb),some (V.ref pl),some (V.ref D),none,none,none,none,none,none]/\Same H H'/\∃ ws,H' D=some (.lst ws)/\StepsAt H' ws (if z∈bs then [((z,!f),0)] else [])) ?_ ?_
    · rintro σ H2 ⟨rfl,s2,ws,h2,st2⟩
      refine seq_go fun nn hN=>?_
      and_intros
      refine .inl ⟨⟨_,.of (s2 _ _ hl)⟩,for_lstO (xs:=vs) (fun i σ H'=>(∃ o8 o9 o10 o11 o12 o13,σ=[some (V.ref P),some (V.ref t),some (V.int p),some (V.int g),some (V.ref pn),some (V.ref pb),some (V.ref pl),some (V.ref D),o8,o9,o10,o11,o12,o13])/\Same H H'/\∃ ws,H' D=some (.lst ws)/\StepsAt H' ws ((if z∈bs then [((z,!f),0)] else [])++((vs.map gl).take i).filterMap (stepL z f (mulF p g f)))) ?_ ?_ ?_ ?_⟩
      · exact ⟨⟨_,_,_,_,_,_,rfl⟩,s2,ws,h2,by simpa using st2⟩
      · rintro i σ H' hi ⟨_,h,_⟩
        exact .of (h _ _ hl)
      · rintro i v σ H4 hi ⟨⟨o8,o9,o10,o11,o12,o13,rfl⟩,s4,ws4,g4,st4⟩ N hNx
        clear hN
        obtain ⟨lq,rfl,hlq⟩:=hla v (List.mem_of_getElem? hi)
        have hq4:=s4 _ _ hlq
        have hl1:(vs.map gl)[i]?=some (gl (.ref lq)):=by rw [List.getElem?_map,hi];rfl
        obtain ⟨_,_,hok⟩:=hln (gl (.ref lq)) (List.mem_map.mpr ⟨_,List.mem_of_getElem? hi,rfl⟩)
        generalize gl (.ref lq)=ln at hlq hq4 hl1 hok
        obtain ⟨la,lb,lp,lc⟩:=ln
        refine ⟨lq,_,rfl,SqT.of hq4,rfl,?_⟩
        have hl2:(vs.map gl).take (i + 1)=(vs.map gl).take i++[⟨la,lb,lp,lc⟩]:=by rw [List.take_add_one,hl1];rfl
        rw [hl2,List.filterMap_append,← List.append_assoc] at hNx
        have hql:((if z∈bs then [((z,!f),(0:Int))] else [])++((vs.map gl).take i).filterMap (stepL z f (mulF p g f))).length<=61:=by
          rw [List.length_append]
          have h1:(if z∈bs then [((z,!f),(0:Int))] else []).length<=1:=by split <;> simp
          have h2:=List.length_filterMap_le (stepL z f (mulF p g f)) ((vs.map gl).take i)
          have h4:((vs.map gl).take i).length<=(vs.map gl).length:=by rw [List.length_take];exact Nat.min_le_right _ _
          omega
        generalize (if z∈bs then [((z,!f),(0:Int))] else [])++((vs.map gl).take i).filterMap (stepL z f (mulF p g f))=qs at st4 hNx hql
        rw [show lnV { a:=la,b:=lb,p:=lp,c:=lc }=[.str la,.str lb,oV lp,oV lc] from rfl]
        and_intros
        have hT4:Sq K H4 t (ndV (z,f)):=.t (s4 _ _ ht)
        refine seq_go fun n2 hM=>?_
        and_intros
        refine ⟨le2,fun p1 H5 hp1 s5 h5=>⟨_,_,.t (s5 _ _ (s4 _ _ ht)),atI_nat (xs:=ndV (z,f)) (j:=1) rfl,?_⟩⟩
        and_intros
        refine ⟨_,_,.l h5,atI_two _ _ _,?_⟩
        have ec:(if decide (fmS f=Str.ofString "code")=true then oV lc else oV lp)=oV (Ln.cost { a:=la,b:=lb,p:=lp,c:=lc } f):=by cases f <;> rfl
        rw [ec,hM]
        clear hM n2 ec
        have s45:=s4.trans s5
        have g5:=s5 _ _ g4
        have st5:=st4.keep fun b xs z=>s5 _ _ z
        clear h5 hp1 s4 g4 st4 hT4 hq4 s5
        cases hx:Ln.cost { a:=la,b:=lb,p:=lp,c:=lc } f with
        | none =>
          have es:stepL z f (mulF p g f) { a:=la,b:=lb,p:=lp,c:=lc }=none:=by unfold stepL;rw [hx]
          and_intros
          refine hNx _ _ ⟨⟨_,_,_,_,_,_,rfl⟩,s45,ws4,g5,?_⟩
          rw [List.filterMap_cons,es,List.filterMap_nil,List.append_nil]
          exact st5
        | some x =>
          have hxb:=hok f x hx
          rw [show oV (some x)=V.int x from rfl]
          and_intros
          refine ⟨_,_,.t (s45 _ _ ht),atI_nat (xs:=ndV (z,f)) (j:=0) rfl,le2,fun p1 H6 hp1 s6 h6=>.inl ⟨_,.l h6,rfl,rfl,?_⟩⟩
          rw [show [V.str la,V.str lb]=[la,lb].map V.str from rfl,in_strs]
          have s46:=s45.trans s6
          have g6:=s6 _ _ g5
          have st6:=st5.keep fun b xs z=>s6 _ _ z
          clear h6 hp1 s6 s45 g5 st5
          by_cases hz:z∈[la,lb]
          · rw [decide_eq_true hz,if_pos rfl]
            refine seq_go fun n2 hM=>?_
            and_intros
            refine ⟨le2,fun p1 H7 hp1 s7 h7=>⟨_,_,.t (s7 _ _ (s46 _ _ ht)),atI_nat (xs:=ndV (z,f)) (j:=0) rfl,?_⟩⟩
            and_intros
            refine ⟨_,_,.l h7,atI_two _ _ _,?_⟩
            have et:(if decide (z=la)=true then V.str lb else V.str la)=V.str (if z=la then lb else la):=by by_cases e:z=la <;> simp [e]
            have es:stepL z f (mulF p g f) { a:=la,b:=lb,p:=lp,c:=lc }=some ((if z=la then lb else la,f),x * mulF p g f):=by
              unfold stepL
              rw [hx]
              by_cases e:z=la
              · simp [e]
              · have:z=lb:=by simpa [e] using hz
                subst this
                simp [e]
            rw [et,hM]
            clear hM n2 et
            generalize (if z=la then lb else la)=zo at es
            have s47:=s46.trans s7
            have g7:=s7 _ _ g6
            have st7:=st6.keep fun b xs z=>s7 _ _ z
            clear h7 hp1 s7 s46 g6 st6
            and_intros
            refine ⟨.inl ⟨rfl,_,.of g7⟩,_,_,.t (s47 _ _ ht),atI_nat (xs:=ndV (z,f)) (j:=1) rfl,le2,fun p1 H8 hp1 s8 h8=>⟨le2,fun p2 H9 hp2 s9 h9=>⟨_,_,.t (s9 _ _ (s8 _ _ (s47 _ _ ht))),atI_nat (xs:=ndV (z,f)) (j:=1) rfl,?_⟩⟩⟩
            and_intros
            refine ⟨_,_,.l h9,atI_two _ _ _,?_⟩
            have em:(if decide (fmS f=Str.ofString "code")=true then V.int g else V.int p)=V.int (mulF p g f):=by cases f <;> rfl
            rw [em]
            clear em
            and_intros
            have hmb:(mulF p g f).natAbs<=10 ^ 19:=by unfold mulF;split <;> omega
            have hcb:CBig x (mulF p g f):=⟨Nat.lt_of_le_of_lt (show x.natAbs<=1000000000 by omega) (by decide),Nat.lt_of_le_of_lt hmb (by decide)⟩
            refine ⟨hcb,le2,fun p3 H10 hp3 s10 h10=>?_⟩
            have s70:=s8.trans (s9.trans s10)
            have hD10:=s70 _ _ g7
            have h8':=(s9.trans s10) _ _ h8
            have n3:p3≠D:=ne_of h10 hD10 (by intro z;cases z)
            have n2:p1≠D:=ne_of h8' hD10 (by intro z;cases z)
            refine ⟨D,_,_,rfl,rfl,hD10,small_line (by rw [st7.1];omega),hNx _ _ ⟨⟨_,_,_,_,_,_,rfl⟩,(s47.trans s70).upd_new hD0,_,upd_same,?_⟩⟩
            rw [List.filterMap_cons,es,List.filterMap_nil]
            refine StepsAt.snoc (st7.keep fun b xs e=>?_) ⟨p3,p1,rfl,by rw [upd_ne n3];exact h10,by rw [upd_ne n2];exact h8'⟩
            rw [upd_ne (ne_of (s70 _ _ e) hD10 (by intro z;cases z))]
            exact s70 _ _ e
          · have es:stepL z f (mulF p g f) { a:=la,b:=lb,p:=lp,c:=lc }=none:=by
              simp at hz
              unfold stepL
              rw [hx]
              simp [hz]
            rw [decide_eq_false hz,if_neg (by decide)]
            refine hNx _ _ ⟨⟨_,_,_,_,_,_,rfl⟩,s46,ws4,g6,?_⟩
            rw [List.filterMap_cons,es,List.filterMap_nil,List.append_nil]
            exact st6
      · rintro σ H4 ⟨⟨o8,o9,o10,o11,o12,o13,rfl⟩,s4,ws4,g4,st4⟩
        show nn _ _ _
        rw [hN]
        clear hN nn
        and_intros
        refine k D ws4 H4 hD0 s4 g4 ?_
        rw [List.take_of_length_le (by rw [List.length_map];exact Nat.le_refl _)] at st4
        exact st4
    · intro U hU
      and_intros
      refine ⟨_,_,.t (s1 _ _ ht),atI_nat (xs:=ndV (z,f)) (j:=0) rfl,.inl ⟨_,.l (s1 _ _ hb),rfl,flat_strs bs,?_⟩⟩
      rw [in_strs]
      by_cases hz:z∈bs
      · rw [decide_eq_true hz,if_pos rfl]
        refine ⟨.inl ⟨rfl,_,.of h1⟩,_,_,.t (s1 _ _ ht),atI_nat (xs:=ndV (z,f)) (j:=0) rfl,le2,fun p1 H2 hp1 s2 h2=>⟨_,_,.t (s2 _ _ (s1 _ _ ht)),atI_nat (xs:=ndV (z,f)) (j:=1) rfl,?_⟩⟩
        and_intros
        refine ⟨_,_,.l h2,atI_two _ _ _,le2,fun p2 H3 hp2 s3 h3=>⟨le2,fun p3 H4 hp3 s4 h4=>?_⟩⟩
        have e:(if decide (fmS f=Str.ofString "plain")=true then V.str (Str.ofString "code") else V.str (Str.ofString "plain"))=V.str (fmS (!f)):=by cases f <;> rfl
        rw [e] at h3
        have s14:=s2.trans (s3.trans s4)
        have hD4:=s14 _ _ h1
        have st:Same H (upd H4 D (.lst ([]++[V.ref p3]))):=(s1.trans s14).upd_new hD0
        refine ⟨D,_,_,rfl,rfl,hD4,small_line (by decide),hU _ _ ⟨rfl,st,_,upd_same,?_⟩⟩
        rw [if_pos hz]
        have n2:p2≠D:=ne_of (s4 _ _ h3) hD4 (by intro z;cases z)
        have n3:p3≠D:=ne_of h4 hD4 (by intro z;cases z)
        exact StepsAt.snoc (vs:=[]) (qs:=[]) ⟨rfl,fun i v e=>by simp at e⟩ ⟨p3,p2,rfl,by rw [upd_ne n3];exact h4,by rw [upd_ne n2];exact s4 _ _ h3⟩
      · rw [decide_eq_false hz]
        and_intros
        refine hU _ _ ⟨rfl,s1,[],h1,?_⟩
        rw [if_neg hz]
        exact ⟨rfl,fun i v e=>by simp at e⟩
def sp_law_plain:Sp:=fun vs H Q _=>∃ (a d:Addr) (z y:Str) (kvs:List (Key × V)) (ps:List (Nk Str × Int)),vs=[.ref a,.str z,.str y]/\H a=some (.dK kvs)/\valV kvs (.inr z)=some (.ref d)/\H d=some (.dT (ps.map kvC))/\∀ H',Same H H'->Q (.int ((tellP ps (y,false)).getD (10 ^ 40))) H'
theorem sc_law_plain:FnScope ["_law_all_prices","_law_one","_law_other"] ["_law_all_prices","_law_one","_law_other"] (defScope s_law_plain):=⟨rfl,rfl,rfl,by decide +kernel,rfl,by decide +kernel,by decide +kernel⟩
theorem ok_law_plain {f:Addr}{fd:FuncData} (F:Fun K "_law_plain" "_law_plain" s_law_plain f fd) (T:Bl mg) (AF:AdF K mg Ad) :FnOk P w K mg base (CX1 P w) 1 f fd ["_law_all_prices","_law_one","_law_other"] sp_law_plain:=by
  refine F.okX (k:=0) sc_law_plain (fun vs H Q E h=>?_) (fun cdv A outer s H vs Q E hr h=>?_)
  · obtain ⟨a,d,z,y,kvs,ps,rfl,_⟩:=h
    rfl
  · obtain ⟨a,d,z,y,kvs,ps,rfl,ha,hz,hd,k⟩:=h
    have hu:=hr.units0
    have hu1:=hu_of hr
    refine ⟨_,pss_one (ps_ret (pe_dget2G hu1 (pe_dgetG hu1 (pvL 0) (pvL 1)) (pe_tupX (pa_c (pvL 2) (pa_c (pe_str) (pa_nil)))) (pe_op op_powX (pe_int) (pe_int)))),?_⟩
    ac_nf
    refine ⟨a,_,rfl,(by rw [← hz];exact DGet.k (k:=.inr z) ha),d,rfl,.inr ⟨_,.inl hd⟩,Nat.le_of_lt (small_line (by decide)),fun p H1 hp s1 h1=>⟨by decide,_,dgetC (v:=(y,false)) (s1 _ _ hd) h1,?_⟩⟩
    have:=k H1 s1
    cases e:tellP ps (y,false) <;> (rw [e] at this;exact this)
def sp_law_no_more:Sp:=fun vs H Q _=>∃ (a b:Addr) (ps qs:List (Nk Str × Int)),vs=[.ref a,.ref b]/\a≠b/\H a=some (.dT (ps.map kvC))/\H b=some (.dT (qs.map kvC))/\(∀ q∈qs,∃ d,tellP ps q.1=some d/\d<=q.2)/\∀ H',(∀ c o,c≠b->H c=some o->H' c=some o)->Q (.bl true) H'
theorem sc_law_no_more:FnScope ["_law_found","_law_others","_law_here","_law_cost_here"] ["_law_found","_law_others"] (defScope s_law_no_more):=⟨rfl,rfl,rfl,by decide +kernel,rfl,by decide +kernel,by decide +kernel⟩
theorem ok_law_no_more {f:Addr}{fd:FuncData} (F:Fun K "_law_no_more" "_law_no_more" s_law_no_more f fd) (T:Bl mg) (AF:AdF K mg Ad) :FnOk P w K mg base (CX1 P w) 1 f fd ["_law_found","_law_others"] sp_law_no_more:=by
  refine F.okX (k:=0) sc_law_no_more (fun vs H Q E h=>?_) (fun cdv A outer s H vs Q E hr h=>?_)
  · obtain ⟨a,b,ps,qs,rfl,_⟩:=h
    rfl
  · obtain ⟨a,b,ps,qs,rfl,hab,ha,hb,hq,k⟩:=h
    have hu:=hr.units0
    have hu1:=hu_of hr
    refine ⟨_,pss_cons (ps_for PassesOwn.leaving rfl (pi_viewT (pe_bm0G (K:=K) rfl PySem.F.plainAttrs_dict PySem.F.slot_dict_items PySem.F.type_dict_items mt_itemsT (pvL 1))) (pg_tupK (K:=K) (n:=2) rfl rfl (pgs_cons (pg_nameL (i:=2) sc_law_no_more.nd) (pgs_cons (pg_nameL (i:=3) sc_law_no_more.nd) (pgs_nil)))) (pss_one (ps_if ((pw_or (pt_cmpR (op_notInK (K:=K) rfl hu1) (pvL 2) (pvL 0) (by kernel_rfl)) (pw_or1 (pt_cmpR op_gtX (pe_dgetG hu1 (pvL 0) (pvL 2)) (pvL 3) (nomark _)))).pt) (pss_one (ps_ret (pe_bl))) (pss_nil)))) (pss_one (ps_ret (pe_bl))),?_⟩
    refine seq_go fun nn hN=>?_
    and_intros
    refine ⟨.inr (.inr (.inl ⟨rfl,.inr ⟨_,hb⟩⟩)),_,hb,fun pv H1 hpv s1 h1=>⟨pv,b,_,rfl,h1,s1 _ _ hb,fun Dq bs H2 lb hk kp2 h2=>?_⟩⟩
    refine for_itmT (fun i σ G=>(∃ o2 o3,σ=[some (V.ref a),some (V.ref b),o2,o3])/\Same H2 G) ⟨⟨_,_,rfl⟩,Same.refl _⟩ (fun i σ G ⟨_,t⟩=>t _ _ h2) ?_ ?_
    · rintro i k' x bb σ G hkv hbb ⟨⟨o2,o3,rfl⟩,t⟩ N hNx p G1 hp tp gp
      clear hN
      have hbk:=hk i _ bb hkv hbb
      rw [List.getElem?_map] at hkv
      obtain ⟨q,hq',e⟩:=Option.map_eq_some_iff.mp hkv
      cases e
      obtain ⟨d,hd1,hd2⟩:=hq q (List.mem_of_getElem? hq')
      have ne:bb≠b:=fun z=>by rw [z,s1 _ _ hb] at hbk;cases hbk
      have hbG:G1 bb=some (.tup (ndV q.1)):=tp _ _ (t _ _ (kp2 _ _ ne hbk))
      have haG:G1 a=some (.dT (ps.map kvC)):=tp _ _ (t _ _ (kp2 _ _ hab (s1 _ _ ha)))
      have hg:=dgetC (v:=q.1) haG hbG
      rw [hd1] at hg
      refine ⟨p,_,rfl,SqT.of gp,rfl,?_⟩
      and_intros
      refine .inr ⟨_,hg,?_⟩
      bv_omega
      refine ⟨a,_,rfl,hg,?_⟩
      and_intros
      rw [decide_eq_false (by omega)]
      bv_omega
      exact hNx _ _ ⟨⟨_,_,rfl⟩,t.trans tp⟩
    · rintro σ G ⟨⟨o2,o3,rfl⟩,t⟩
      show nn _ _ _
      rw [hN]
      clear hN nn
      and_intros
      exact k G fun c o hc e=>t _ _ (kp2 c o hc (s1 _ _ e))
theorem tag_strK {H:Hp}{y:V} (h:tagV H y=some Tg.str):∃ z,y=.str z:=by
  cases y with
  | str z=>exact ⟨z,rfl⟩
  | ref p =>
    have h':tagO (H p)=some Tg.str:=h
    cases e:H p with
    | none=>rw [e] at h';cases h'
    | some o =>
      rw [e] at h'
      cases o with
      | frz o u=>cases u <;> cases h'
      | _=>cases h'
  | _=>cases h
def sp_check_office (Ad:Ads):Sp:=fun vs H Q E=>∃ (a:Addr) (y:V) (zs:List Str) (bs ls:List V),vs=[.ref a,y]/\NetAt Ad H a (zs.map V.str) bs ls/\(∃ t,tagV H y=some t)/\((∃ z∈zs,y=.str z)->∀ H',Same H H'->Q .non H')/\((∀ z∈zs,y≠.str z)->∀ H',Same H H'->E (.ref Ad.NoOffice) none H')
theorem sc_check_office:FnScope ["net","thing"] ["net","thing"] (defScope s_check_office):=⟨rfl,rfl,rfl,by decide +kernel,rfl,by decide +kernel,by decide +kernel⟩
theorem ok_check_office {f:Addr}{fd:FuncData} (F:Fun K "check_office" "check_office" s_check_office f fd) (T:Bl mg) (AF:AdF K mg Ad) (M_Net_offices:Mtd P w K mg base (CX1 P w) Ad.Net "offices" 1 ["self"] (sp_Net_offices Ad)):FnOk P w K mg base (CX1 P w) 2 f fd ["net","thing"] (sp_check_office Ad):=by
  refine F.okX (k:=1) sc_check_office (fun vs H Q E h=>?_) (fun cdv A outer s H vs Q E hr h=>?_)
  · obtain ⟨a,y,zs,bs,ls,rfl,_⟩:=h
    rfl
  · obtain ⟨a,y,zs,bs,ls,rfl,hn,⟨t,ht⟩,kQ,kE⟩:=h
    have hu:=hr.units0
    have hu1:=hu_of hr
    refine ⟨_,pss_one (ps_if ((pw_or (pt_not (pt_val (pe_callBG (call_isiC .str) T.isinstance bt_isinstance (pa_c (pvL 1) (pa_c (pe_tyG T.str bt_str) (pa_nil)))))) (pw_or1 (pt_cmpR (op_notInK (K:=K) rfl hu1) (pvL 1) (pe_methX0 M_Net_offices pass_def (hr.mono (by decide)) (pvL 0)) (by kernel_rfl)))).pt) (pss_one (ps_raise PySem.F.excBase_ValueError AF.q_NoOffice AF.g_NoOffice raise_def rfl (pa_c (pe_str) (pa_nil)))) (pss_nil)),?_⟩
    and_intros
    refine ⟨trivial,t,ht,?_⟩
    by_cases hs:t=.str
    · subst hs
      obtain ⟨z,rfl⟩:=tag_strK ht
      and_intros
      obtain ⟨dx,p,q,r,h1,h2,h3,h4⟩:=id hn
      refine ⟨dx,_,h1,netF_none (by decide) (by decide) (by decide) p q r,a,_,bs,ls,rfl,hn,fun D H1 hD s1 h5=>?_⟩
      and_intros
      refine .inl ⟨_,.l h5,rfl,flat_strs zs,?_⟩
      rw [in_strs]
      by_cases hz:z∈zs
      · rw [decide_eq_true hz]
        bv_omega
        exact kQ ⟨z,hz,rfl⟩ H1 s1
      · rw [decide_eq_false hz]
        bv_omega
        exact ⟨by decide,kE (fun y hy e=>hz (by cases e;exact hy)) H1 s1⟩
    · have hne:∀ z∈zs,y≠.str z:=fun z _ e=>by subst e;cases ht;exact hs rfl
      cases t <;> first
        | exact absurd rfl hs
        | exact ⟨by decide,kE hne H (Same.refl _)⟩
def sp_steps_from (Ad:Ads):Sp:=fun vs H Q _=>∃ (a t:Addr) (u:Nk Str) (p g:Int) (zs bs:List Str) (ls:List (Ln Str)),vs=[.ref a,.ref t,.int p,.int g]/\NetW Ad H a zs bs ls/\H t=some (.tup (ndV u))/\(0<=p/\p<=10 ^ 19)/\(0<=g/\g<=10 ^ 19) ∧
  ∀ D ws H',H D=none->Same H H'->H' D=some (.lst ws)->StepsAt H' ws (stN bs ls p g u)->Q (.ref D) H'
theorem sc_steps_from:FnScope ["net","there","p","g","office","form","steps","one","other","plain","code","a_word","many"] ["net","there","p","g"] (defScope s_steps_from):=⟨rfl,rfl,rfl,by decide +kernel,rfl,by decide +kernel,by decide +kernel⟩
theorem ok_steps_from {f:Addr}{fd:FuncData} (F:Fun K "steps_from" "steps_from" s_steps_from f fd) (T:Bl mg) (AF:AdF K mg Ad) (M_Net_lines:Mtd P w K mg base (CX1 P w) Ad.Net "lines" 1 ["self"] (sp_Net_lines Ad)) (M_Net_with_book:Mtd P w K mg base (CX1 P w) Ad.Net "with_book" 1 ["self"] (sp_Net_with_book Ad)):FnOk P w K mg base (CX1 P w) 2 f fd ["net","there","p","g"] (sp_steps_from Ad):=by
  refine F.okX (k:=1) sc_steps_from (fun vs H Q E h=>?_) (fun cdv A outer s H vs Q E hr h=>?_)
  · obtain ⟨a,t,u,p,g,zs,bs,ls,rfl,_⟩:=h
    rfl
  · obtain ⟨a,t,⟨z,f⟩,p,g,zs,bs,ls,rfl,hW,ht,hp,hg,k⟩:=h
    have hu:=hr.units0
    have hu1:=hu_of hr
    refine ⟨_,pss_cons (ps_setL (i:=4) sc_steps_from.nd (pe_ix (ix_K (K:=K) rfl) (pvL 1) (pe_int) (fun _ _=>rfl))) (pss_cons (ps_setL (i:=5) sc_steps_from.nd (pe_ix (ix_K (K:=K) rfl) (pvL 1) (pe_int) (fun _ _=>rfl))) (pss_cons (ps_setL (i:=6) sc_steps_from.nd (pe_lstX (pa_nil))) (pss_cons (ps_if (pt_cmpR (op_inK (K:=K) rfl hu1) (pvL 4) (pe_methX0 M_Net_with_book pass_def (hr.mono (by decide)) (pvL 0)) (by kernel_rfl)) (pss_one (ps_expr (pe_bmG (K:=K) rfl PySem.F.plainAttrs_list PySem.F.slot_list_append PySem.F.type_list_append mt_append (pvL 6) (pa_c (pe_tupX (pa_c (pe_tupX (pa_c (pvL 4) (pa_c (pe_ifExp (pt_cmpR (op_eqK (K:=K) rfl hu) (pvL 5) (pe_globE AF.v_PLAIN) (nomark _)) (pe_globE AF.v_CODE) (pe_globE AF.v_PLAIN)) (pa_nil)))) (pa_c (pe_int) (pa_nil)))) (pa_nil))))) (pss_nil)) (pss_cons (ps_for PassesOwn.leaving rfl (pi_seqK (K:=K) rfl (pe_methX0 M_Net_lines pass_def (hr.mono (by decide)) (pvL 0))) (pg_tupK (K:=K) (n:=4) rfl rfl (pgs_cons (pg_nameL (i:=7) sc_steps_from.nd) (pgs_cons (pg_nameL (i:=8) sc_steps_from.nd) (pgs_cons (pg_nameL (i:=9) sc_steps_from.nd) (pgs_cons (pg_nameL (i:=10) sc_steps_from.nd) (pgs_nil)))))) (pss_cons (ps_setL (i:=11) sc_steps_from.nd (pe_ifExp (pt_cmpR (op_eqK (K:=K) rfl hu) (pvL 5) (pe_globE AF.v_PLAIN) (nomark _)) (pvL 9) (pvL 10))) (pss_one (ps_if ((pw_and (pt_cmpR op_isnotX (pvL 11) (pe_non) (nomark _)) (pw_and1 (pt_cmpR (op_inK (K:=K) rfl hu1) (pvL 4) (pe_tupX (pa_c (pvL 7) (pa_c (pvL 8) (pa_nil)))) (by kernel_rfl)))).pt) (pss_cons (ps_setL (i:=12) sc_steps_from.nd (pe_ifExp (pt_cmpR (op_eqK (K:=K) rfl hu) (pvL 5) (pe_globE AF.v_PLAIN) (nomark _)) (pvL 2) (pvL 3))) (pss_one (ps_expr (pe_bmG (K:=K) rfl PySem.F.plainAttrs_list PySem.F.slot_list_append PySem.F.type_list_append mt_append (pvL 6) (pa_c (pe_tupX (pa_c (pe_tupX (pa_c (pe_ifExp (pt_cmpR (op_eqK (K:=K) rfl hu) (pvL 4) (pvL 7) (nomark _)) (pvL 8) (pvL 7)) (pa_c (pvL 5) (pa_nil)))) (pa_c (pe_op op_mulX (pvL 11) (pvL 12)) (pa_nil)))) (pa_nil)))))) (pss_nil))))) (pss_one (ps_ret (pvL 6))))))),?_⟩
    obtain ⟨⟨vs,gl,hN0,hla,rfl⟩,l60,n12,hsub,hln⟩:=hW
    have hT:Sq K H t (ndV (z,f)):=.t ht
    refine seq_go fun nn hN=>?_
    and_intros
    refine ⟨_,_,hT,atI_nat (xs:=ndV (z,f)) (j:=0) rfl,?_⟩
    rw [hN]
    clear hN nn
    refine seq_go fun nn hN=>?_
    and_intros
    refine ⟨_,_,hT,atI_nat (xs:=ndV (z,f)) (j:=1) rfl,?_⟩
    rw [hN]
    clear hN nn
    refine seq_go fun nn hN=>?_
    and_intros
    refine ⟨Nat.zero_le _,fun D H1 hD s1 h1=>?_⟩
    rw [hN]
    clear hN nn
    have hD0:H D=none:=hD
    refine cut_seq (fun σ H'=>σ=[some (V.ref a),some (V.ref t),some (V.int p),some (V.int g),some (V.str z),some (V.str (fmS f)),some (V.ref D),none,none,none,none,none,none]/\Same H H'/\∃ ws,H' D=some (.lst ws)/\StepsAt H' ws (if z∈bs then [((z,!f),0)] else [])) ?_ ?_
    · rintro σ H2 ⟨rfl,s2,ws,h2,st2⟩
      refine seq_go fun nn hN=>?_
      and_intros
      have hN2:=hN0.same s2
      obtain ⟨dx,p1,q1,r1,e1,e2,e3,e4⟩:=id hN2
      refine ⟨dx,_,e1,netF_none (by decide) (by decide) (by decide) p1 q1 r1,a,_,_,vs,rfl,hN2,fun D3 H3 hD3 s3 h3=>?_⟩
      and_intros
      refine .inl ⟨⟨_,.of h3⟩,for_lstO (xs:=vs) (fun i σ H'=>(∃ o7 o8 o9 o10 o11 o12,σ=[some (V.ref a),some (V.ref t),some (V.int p),some (V.int g),some (V.str z),some (V.str (fmS f)),some (V.ref D),o7,o8,o9,o10,o11,o12])/\Same H H'/\H' D3=some (.lst vs)/\∃ ws,H' D=some (.lst ws)/\StepsAt H' ws ((if z∈bs then [((z,!f),0)] else [])++((vs.map gl).take i).filterMap (stepL z f (mulF p g f)))) ?_ ?_ ?_ ?_⟩
      · exact ⟨⟨_,_,_,_,_,_,rfl⟩,s2.trans s3,h3,ws,s3 _ _ h2,by simpa using st2.keep fun b xs z=>s3 _ _ z⟩
      · rintro i σ H' hi ⟨_,_,h,_⟩
        exact .of h
      · rintro i v σ H4 hi ⟨⟨o7,o8,o9,o10,o11,o12,rfl⟩,s4,g3,ws4,g4,st4⟩ N hNx
        clear hN
        obtain ⟨lq,rfl,hlq⟩:=hla v (List.mem_of_getElem? hi)
        have hq4:=s4 _ _ hlq
        have hl1:(vs.map gl)[i]?=some (gl (.ref lq)):=by rw [List.getElem?_map,hi];rfl
        obtain ⟨_,_,hok⟩:=hln (gl (.ref lq)) (List.mem_map.mpr ⟨_,List.mem_of_getElem? hi,rfl⟩)
        generalize gl (.ref lq)=ln at hlq hq4 hl1 hok
        obtain ⟨la,lb,lp,lc⟩:=ln
        refine ⟨lq,_,rfl,SqT.of hq4,rfl,?_⟩
        have hl2:(vs.map gl).take (i + 1)=(vs.map gl).take i++[⟨la,lb,lp,lc⟩]:=by rw [List.take_add_one,hl1];rfl
        rw [hl2,List.filterMap_append,← List.append_assoc] at hNx
        have hql:((if z∈bs then [((z,!f),(0:Int))] else [])++((vs.map gl).take i).filterMap (stepL z f (mulF p g f))).length<=61:=by
          rw [List.length_append]
          have h1:(if z∈bs then [((z,!f),(0:Int))] else []).length<=1:=by split <;> simp
          have h2:=List.length_filterMap_le (stepL z f (mulF p g f)) ((vs.map gl).take i)
          have h3:=List.length_take_le i (vs.map gl)
          have h4:((vs.map gl).take i).length<=(vs.map gl).length:=by rw [List.length_take];exact Nat.min_le_right _ _
          omega
        generalize (if z∈bs then [((z,!f),(0:Int))] else [])++((vs.map gl).take i).filterMap (stepL z f (mulF p g f))=qs at st4 hNx hql
        rw [show lnV { a:=la,b:=lb,p:=lp,c:=lc }=[.str la,.str lb,oV lp,oV lc] from rfl]
        and_intros
        refine seq_go fun n2 hM=>?_
        and_intros
        have cas:∀ (b:Bool) (D':Ends) (H':Hp),n2 D' [some (V.ref a),some (V.ref t),some (V.int p),some (V.int g),some (V.str z),some (V.str (fmS b)),some (V.ref D),some (V.str la),some (V.str lb),some (oV lp),some (oV lc),some (oV (Ln.cost { a:=la,b:=lb,p:=lp,c:=lc } b)),o12] H' →
            if decide (fmS b=Str.ofString "plain")=true then n2 D' [some (V.ref a),some (V.ref t),some (V.int p),some (V.int g),some (V.str z),some (V.str (fmS b)),some (V.ref D),some (V.str la),some (V.str lb),some (oV lp),some (oV lc),some (oV lp),o12] H'
            else n2 D' [some (V.ref a),some (V.ref t),some (V.int p),some (V.int g),some (V.str z),some (V.str (fmS b)),some (V.ref D),some (V.str la),some (V.str lb),some (oV lp),some (oV lc),some (oV lc),o12] H':=fun b D' H' h=>by
          cases b <;> exact h
        refine cas f _ _ ?_
        clear cas
        rw [hM]
        clear hM n2
        cases hx:Ln.cost { a:=la,b:=lb,p:=lp,c:=lc } f with
        | none =>
          have es:stepL z f (mulF p g f) { a:=la,b:=lb,p:=lp,c:=lc }=none:=by unfold stepL;rw [hx]
          and_intros
          refine hNx _ _ ⟨⟨_,_,_,_,_,_,rfl⟩,s4,g3,ws4,g4,?_⟩
          rw [List.filterMap_cons,es,List.filterMap_nil,List.append_nil]
          exact st4
        | some x =>
          have hxb:=hok f x hx
          rw [show oV (some x)=V.int x from rfl]
          and_intros
          refine ⟨Nat.le_of_lt (small_line (by decide)),fun p1 H5 hp1 s5 h5=>.inl ⟨_,.t h5,rfl,rfl,?_⟩⟩
          have s45:=s4.trans s5
          rw [show [V.str la,V.str lb]=[la,lb].map V.str from rfl,in_strs]
          have g5:=s5 _ _ g4
          by_cases hz:z∈[la,lb]
          · rw [decide_eq_true hz,if_pos rfl]
            refine seq_go fun n2 hM=>?_
            and_intros
            have cas:∀ (b:Bool) (D':Ends) (H':Hp),n2 D' [some (V.ref a),some (V.ref t),some (V.int p),some (V.int g),some (V.str z),some (V.str (fmS b)),some (V.ref D),some (V.str la),some (V.str lb),some (oV lp),some (oV lc),some (V.int x),some (V.int (mulF p g b))] H' →
                if decide (fmS b=Str.ofString "plain")=true then n2 D' [some (V.ref a),some (V.ref t),some (V.int p),some (V.int g),some (V.str z),some (V.str (fmS b)),some (V.ref D),some (V.str la),some (V.str lb),some (oV lp),some (oV lc),some (V.int x),some (V.int p)] H'
                else n2 D' [some (V.ref a),some (V.ref t),some (V.int p),some (V.int g),some (V.str z),some (V.str (fmS b)),some (V.ref D),some (V.str la),some (V.str lb),some (oV lp),some (oV lc),some (V.int x),some (V.int g)] H':=fun b D' H' h=>by
              cases b <;> exact h
            refine cas f _ _ ?_
            clear cas
            rw [hM]
            clear hM n2
            and_intros
            have hmb:(mulF p g f).natAbs<=10 ^ 19:=by unfold mulF;split <;> omega
            have hcb:CBig x (mulF p g f):=⟨Nat.lt_of_le_of_lt (show x.natAbs<=1000000000 by omega) (by decide),Nat.lt_of_le_of_lt hmb (by decide)⟩
            refine ⟨.inl ⟨rfl,_,.of g5⟩,?_⟩
            have fin:∀ zo,stepL z f (mulF p g f) { a:=la,b:=lb,p:=lp,c:=lc }=some ((zo,f),x * mulF p g f)->∀ (p1:Addr) (H6:Hp),H5 p1=none->Same H5 H6->H6 p1=some (HO.tup [V.str zo,V.str (fmS f)])->CBig x (mulF p g f)/\2<=sizeLine/\∀ (p2:Addr) (H7:Hp),H6 p2=none->Same H6 H7->H7 p2=some (HO.tup [V.ref p1,V.int (x * mulF p g f)])->rAppend (V.ref D) [V.ref p2] H7 fun x_1 H1=>N [some (V.ref a),some (V.ref t),some (V.int p),some (V.int g),some (V.str z),some (V.str (fmS f)),some (V.ref D),some (V.str la),some (V.str lb),some (oV lp),some (oV lc),some (V.int x),some (V.int (mulF p g f))] H1:=by
              intro zo es p1 H6 hp1 s6 h6
              refine ⟨hcb,Nat.le_of_lt (small_line (by decide)),fun p2 H7 hp2 s7 h7=>?_⟩
              have s57:=s6.trans s7
              have hD7:=s57 _ _ g5
              have hlw:ws4.length < sizeLine:=small_line (by rw [st4.1];omega)
              have n1:p1≠D:=ne_of (s7 _ _ h6) hD7 (by intro z;cases z)
              have n2:p2≠D:=ne_of h7 hD7 (by intro z;cases z)
              have n3:D3≠D:=fun e=>by rw [e] at hD3;rw [hD3] at h2;cases h2
              refine ⟨D,_,_,rfl,rfl,hD7,hlw,hNx _ _ ⟨⟨_,_,_,_,_,_,rfl⟩,(s45.trans s57).upd_new hD0,by rw [upd_ne n3];exact s57 _ _ (s5 _ _ g3),_,upd_same,?_⟩⟩
              rw [List.filterMap_cons,es,List.filterMap_nil]
              refine StepsAt.snoc (st4.keep fun b xs e=>?_) ⟨p2,p1,rfl,by rw [upd_ne n2];exact h7,by rw [upd_ne n1];exact s7 _ _ h6⟩
              rw [upd_ne (ne_of (s57 _ _ (s5 _ _ e)) hD7 (by intro z;cases z))]
              exact s57 _ _ (s5 _ _ e)
            by_cases ha:z=la
            · rw [decide_eq_true ha,if_pos rfl]
              refine ⟨Nat.le_of_lt (small_line (by decide)),fin lb ?_⟩
              unfold stepL;rw [hx];simp [ha]
            · rw [decide_eq_false ha,if_neg (by decide)]
              have hb:z=lb:=by simpa [ha] using hz
              refine ⟨Nat.le_of_lt (small_line (by decide)),fin la ?_⟩
              unfold stepL;rw [hx]
              have ha':¬ lb=la:=fun e=>ha (hb.trans e)
              simp [hb,ha']
          · have es:stepL z f (mulF p g f) { a:=la,b:=lb,p:=lp,c:=lc }=none:=by
              simp at hz
              unfold stepL
              rw [hx]
              simp [hz]
            rw [decide_eq_false hz,if_neg (by decide)]
            refine hNx _ _ ⟨⟨_,_,_,_,_,_,rfl⟩,s45,s5 _ _ g3,ws4,g5,?_⟩
            rw [List.filterMap_cons,es,List.filterMap_nil,List.append_nil]
            exact st4.keep fun b xs z=>s5 _ _ z
      · rintro σ H4 ⟨⟨o7,o8,o9,o10,o11,o12,rfl⟩,s4,g3,ws4,g4,st4⟩
        show nn _ _ _
        rw [hN]
        clear hN nn
        and_intros
        refine k D ws4 H4 hD0 s4 g4 ?_
        rw [List.take_of_length_le (by rw [List.length_map];exact Nat.le_refl _)] at st4
        exact st4
    · intro U hU
      have hN1:=hN0.same s1
      obtain ⟨dx,p1,q1,r1,e1,e2,e3,e4⟩:=id hN1
      and_intros
      refine ⟨dx,_,e1,netF_none (by decide) (by decide) (by decide) p1 q1 r1,a,_,_,vs,rfl,hN1,fun D2 H2 hD2 s2 h2=>?_⟩
      and_intros
      refine .inl ⟨_,.l h2,rfl,flat_strs bs,?_⟩
      rw [in_strs]
      by_cases hz:z∈bs
      · rw [decide_eq_true hz]
        and_intros
        have fin:∀ tw,tw=fmS (!f)->∀ (p1:Addr) (H3:Hp),H2 p1=none->Same H2 H3->H3 p1=some (HO.tup [V.str z,V.str tw])->2<=sizeLine/\∀ (p2:Addr) (H4:Hp),H3 p2=none->Same H3 H4->H4 p2=some (HO.tup [V.ref p1,V.int 0])->rAppend (V.ref D) [V.ref p2] H4 fun x H1=>U [some (V.ref a),some (V.ref t),some (V.int p),some (V.int g),some (V.str z),some (V.str (fmS f)),some (V.ref D),none,none,none,none,none,none] H1:=by
          intro tw etw p1 H3 hp1 s3 h3
          refine ⟨Nat.le_of_lt (small_line (by decide)),fun p2 H4 hp2 s4 h4=>?_⟩
          have s24:=s2.trans (s3.trans s4)
          have hD4:=s24 _ _ h1
          have st:Same H (upd H4 D (.lst ([]++[V.ref p2]))):=(s1.trans s24).upd_new hD0
          refine ⟨D,_,_,rfl,rfl,hD4,small_line (by decide),hU _ _ ⟨rfl,st,_,upd_same,?_⟩⟩
          rw [if_pos hz]
          have n1:p1≠D:=ne_of (s4 _ _ h3) hD4 (by intro z;cases z)
          have n2:p2≠D:=ne_of h4 hD4 (by intro z;cases z)
          exact StepsAt.snoc (vs:=[]) (qs:=[]) ⟨rfl,fun i v e=>by simp at e⟩ ⟨p2,p1,rfl,by rw [upd_ne n2];exact h4,by rw [upd_ne n1];show H4 p1=some (.tup [.str z,.str (fmS (!f))]);rw [← etw];exact s4 _ _ h3⟩
        refine ⟨.inl ⟨rfl,_,.of (s2 _ _ h1)⟩,?_⟩
        cases f with
        | false=>exact ⟨Nat.le_of_lt (small_line (by decide)),fin _ rfl⟩
        | true=>exact ⟨Nat.le_of_lt (small_line (by decide)),fin _ rfl⟩
      · rw [decide_eq_false hz]
        and_intros
        refine hU _ _ ⟨rfl,s1.trans s2,[],s2 _ _ h1,?_⟩
        rw [if_neg hz]
        exact ⟨rfl,fun i v e=>by simp at e⟩
def isBelowV (b:Int):V->Bool
  | .int i=>decide (0<=i) && decide (i < b)
  | _=>false
def sp_is_below:Sp:=fun vs H Q _=>∃ (x:V) (t:Tg) (b:Int),vs=[x,.int b]/\tagV H x=some t/\Q (.bl (isBelowV b x)) H
theorem sc_is_below:FnScope ["thing","bound"] ["thing","bound"] (defScope s_is_below):=⟨rfl,rfl,rfl,by decide +kernel,rfl,by decide +kernel,by decide +kernel⟩
theorem ok_is_below {f:Addr}{fd:FuncData} (F:Fun K "is_below" "is_below" s_is_below f fd) (T:Bl mg) (AF:AdF K mg Ad) (C_is_whole:Fnc P w K mg base (CX1 P w) 1 "is_whole" ["thing"] sp_is_whole):FnOk P w K mg base (CX1 P w) 2 f fd ["thing","bound"] sp_is_below:=by
  refine F.okX (k:=1) sc_is_below (fun vs H Q E h=>?_) (fun cdv A outer s H vs Q E hr h=>?_)
  · obtain ⟨x,t,b,rfl,_⟩:=h
    rfl
  · obtain ⟨x,t,b,rfl,ht,k⟩:=h
    have hu:=hr.units0
    have hu1:=hu_of hr
    refine ⟨_,pss_one (ps_ret (pe_and (pe_callG C_is_whole pass_def (hr.mono (by decide)) (pa_c (pvL 0) (pa_nil))) (pe_one (pe_chain op_leX op_ltX (pe_int) (pvL 0) (pvL 1))))),?_⟩
    by_cases hs:∃ i,x=.int i
    · obtain ⟨i,rfl⟩:=hs
      cases ht
      ac_nf
      refine ⟨_,Tg.int,rfl,rfl,?_⟩
      ac_nf
      have ek:isBelowV b (.int i)=(decide (0<=i) && decide (i < b)):=rfl
      rw [ek] at k
      rw [if_pos (by simp)]
      cases h0:decide (0<=i) with
      | false=>rw [h0,Bool.false_and] at k;bv_omega;exact k
      | true=>rw [h0,Bool.true_and] at k;bv_omega;exact k
    · have hv:isBelowV b x=false:=by
        cases x with
        | int i=>exact absurd ⟨i,rfl⟩ hs
        | _=>rfl
      have hne:t≠Tg.int:=fun e=>by
        subst e
        cases x with
        | int i=>exact hs ⟨i,rfl⟩
        | ref a =>
          have h':tagO (H a)=some .int:=ht
          cases e:H a with
          | none=>rw [e] at h';cases h'
          | some o=>rw [e] at h';cases o with
            | frz ob u=>cases u <;> cases h'
            | _=>cases h'
        | _=>cases ht
      rw [hv] at k
      ac_nf
      refine ⟨x,t,rfl,ht,?_⟩
      ac_nf
      rw [decide_eq_false hne]
      bv_omega
      exact k
def sp_are_unlike_names:Sp:=fun vs H Q _=>∃ x:V,vs=[x]/\AskN H x/\∀ H',Same H H'->Q (.bl (unlV H x)) H'
theorem sc_are_unlike_names:FnScope ["thing"] ["thing"] (defScope s_are_unlike_names):=⟨rfl,rfl,rfl,by decide +kernel,rfl,by decide +kernel,by decide +kernel⟩
theorem ok_are_unlike_names {f:Addr}{fd:FuncData} (F:Fun K "are_unlike_names" "are_unlike_names" s_are_unlike_names f fd) (T:Bl mg) (AF:AdF K mg Ad) (C_are_letters:Fnc P w K mg base (CX1 P w) 1 "are_letters" ["thing","most"] sp_are_letters):FnOk P w K mg base (CX1 P w) 2 f fd ["thing"] sp_are_unlike_names:=by
  refine F.okX (k:=1) sc_are_unlike_names (fun vs H Q E h=>?_) (fun cdv A outer s H vs Q E hr h=>?_)
  · obtain ⟨x,rfl,_⟩:=h
    rfl
  · obtain ⟨x,rfl,hA,k⟩:=h
    have hu:=hr.units0
    have hu1:=hu_of hr
    refine ⟨_,pss_cons (ps_if ((pw_or (pt_not (pt_val (pe_callBG (call_isiC .lst) T.isinstance bt_isinstance (pa_c (pvL 0) (pa_c (pe_tyG T.list bt_list) (pa_nil)))))) (pw_or1 (pt_not (pt_val (pe_callBG (call_allK (K:=K) rfl rfl) T.all bt_all (pa_c (pe_lc ["name"] rfl ⟨rfl,by decide +kernel,rfl,by decide +kernel⟩ (.nil) (by decide +kernel) (pi_seqK (K:=K) rfl (pvL 0)) (fun _ _ _ _=>pg_nameL (i:=0) (show (["name"]:List Str).Nodup from by decide +kernel)) (fun _ _ _ _=>pif_nil) (fun _ _ _ _=>pe_callG C_are_letters passE0 (hr.mono (by decide)) (pa_c (pvL 0) (pa_c (pe_globE AF.v_LONGEST_NAME) (pa_nil))))) (pa_nil))))))).pt) (pss_one (ps_ret (pe_bl))) (pss_nil)) (pss_one (ps_ret (pe_cmpR (op_eqK (K:=K) rfl hu) (pe_callBG (call_lenTK (P:=P) (w:=w) rfl rfl) T.len bt_len (pa_c (pe_callTyG (call_setNK (K:=K) (P:=P) (w:=w) rfl rfl rfl rfl) T.set bt_set (pa_c (pvL 0) (pa_nil))) (pa_nil))) (pe_callBG (call_lenK (K:=K) rfl) T.len bt_len (pa_c (pvL 0) (pa_nil))) (nomark _)))),?_⟩
    refine seq_go fun nn hN=>?_
    rcases hA with ⟨t,ht,hn⟩ | ⟨p,xs,rfl,hp,hl,hf⟩
    · have hv:unlV H x=false:=by unfold unlV;rw [lstV_tag ht hn]
      rw [hv] at k
      and_intros
      refine ⟨trivial,t,ht,?_⟩
      clear hN
      cases t <;> first
        | exact absurd rfl hn
        | exact k H (Same.refl _)
    · have hv:unlV H (.ref p)=unlL xs:=by unfold unlV;rw [lstV_of hp]
      rw [hv] at k
      have ht:tagV H (.ref p)=some Tg.lst:=by show tagO (H p)=_;rw [hp];rfl
      and_intros
      refine ⟨trivial,Tg.lst,ht,?_⟩
      and_intros
      refine .inl ⟨⟨_,.of hp⟩,lc_map (seq_list (.of hp)) (small_line (by omega)) (fun v=>.bl (areLetV 8 v)) ?_ ?_⟩
      · intro y hy H2 s2 R hR
        obtain ⟨⟨t,ht⟩,hz⟩:=hf y hy
        and_intros
        exact ⟨y,t,8,rfl,tag_same s2 ht,hz,by decide,hR⟩
      · intro D H2 hD s2 h2
        refine ⟨D,xs.map (areLetV 8),rfl,.of (by rw [h2,List.map_map];rfl),?_⟩
        have e:(xs.map (areLetV 8)).all id=xs.all (areLetV 8):=by rw [List.all_map];rfl
        rw [e]
        have hu:unlL xs=(xs.all (areLetV 8) && decide ((xs.map strV).Nodup)):=rfl
        rw [hu] at k
        cases ha:xs.all (areLetV 8) with
        | false =>
          rw [ha,Bool.false_and] at k
          bv_omega
          exact k H2 s2
        | true =>
          rw [ha,Bool.true_and] at k
          bv_omega
          rw [hN]
          clear hN nn
          and_intros
          have ex:=strs_of ha
          have hp2:=s2 _ _ hp
          refine ⟨xs.map strV,.of (by rw [← ex];exact hp2),by rw [List.length_map];omega,fun q H3 hq s3 h3=>⟨_,h3,xs,.l (s3 _ _ hp2),?_⟩⟩
          have eb:decide (((metK (valL (xs.map strV)) (xs.map strV).length).length:Int)=(xs.length:Int))=decide ((xs.map strV).Nodup):=by
            apply decide_eq_decide.mpr
            rw [← met_nodupL,List.length_map]
            omega
          rw [eb]
          exact k H3 (s2.trans s3)
def sp_law_mixed:Sp:=fun vs H Q _=>∃ (c:Int) (k:Nat),vs=[.int c,.int (k:Int)]/\k<=1000/\Q (.int (lgOf c k % 2147483629)) H
theorem sc_law_mixed:FnScope ["_law_cell","_law_k"] ["_law_cell","_law_k"] (defScope s_law_mixed):=⟨rfl,rfl,rfl,by decide +kernel,rfl,by decide +kernel,by decide +kernel⟩
theorem ok_law_mixed {f:Addr}{fd:FuncData} (F:Fun K "_law_mixed" "_law_mixed" s_law_mixed f fd) (T:Bl mg) (AF:AdF K mg Ad) (C_law_long:Fnc P w K mg base (CX1 P w) 1 "_law_long" ["_law_cell","_law_k"] sp_law_long):FnOk P w K mg base (CX1 P w) 2 f fd ["_law_cell","_law_k"] sp_law_mixed:=by
  refine F.okX (k:=1) sc_law_mixed (fun vs H Q E h=>?_) (fun cdv A outer s H vs Q E hr h=>?_)
  · obtain ⟨c,k,rfl,_⟩:=h
    rfl
  · obtain ⟨c,k,rfl,hk,kq⟩:=h
    have hu:=hr.units0
    have hu1:=hu_of hr
    refine ⟨_,pss_one (ps_ret (pe_op op_modX (pe_callG C_law_long pass_def (hr.mono (by decide)) (pa_c (pvL 0) (pa_c (pvL 1) (pa_nil)))) (pe_int))),?_⟩
    and_intros
    exact ⟨c,k,rfl,hk,by decide,kq⟩
def sp_law_lengths:Sp:=fun vs H Q _=>∃ (a pn:Addr) (zs:List Str) (kvs:List (Key × V)) (F:Str->Str->Int),vs=[.ref a,.ref pn]/\H pn=some (.lst (zs.map V.str))/\zs.length<=12/\H a=some (.dK kvs) ∧
  (∀ z∈zs,∃ d ps,valV kvs (.inr z)=some (.ref d)/\H d=some (.dT (ps.map kvC))/\∀ y∈zs,(tellP ps (y,false)).getD (10 ^ 40)=F z y)/\(∀ z∈zs,∀ y∈zs,F z y=F y z)/\(∀ z∈zs,∀ y∈zs,∀ m∈zs,F z y<=F z m + F m y)/\∀ H',Same H H'->Q (.bl true) H'
theorem sc_law_lengths:FnScope ["_law_all_prices","_law_names_here","_law_one","_law_other","_law_amid","_law_ahead"] ["_law_all_prices","_law_names_here"] (defScope s_law_lengths):=⟨rfl,rfl,rfl,by decide +kernel,rfl,by decide +kernel,by decide +kernel⟩
theorem ok_law_lengths {f:Addr}{fd:FuncData} (F:Fun K "_law_lengths" "_law_lengths" s_law_lengths f fd) (T:Bl mg) (AF:AdF K mg Ad) (C_law_plain:Fnc P w K mg base (CX1 P w) 1 "_law_plain" ["_law_all_prices","_law_one","_law_other"] sp_law_plain):FnOk P w K mg base (CX1 P w) 2 f fd ["_law_all_prices","_law_names_here"] sp_law_lengths:=by
  refine F.okX (k:=1) sc_law_lengths (fun vs H Q E h=>?_) (fun cdv A outer s H vs Q E hr h=>?_)
  · obtain ⟨a,pn,zs,kvs,F,rfl,_⟩:=h
    rfl
  · obtain ⟨a,pn,zs,kvs,Fp,rfl,hn,h12,ha,hz,hsy,htr,k⟩:=h
    have hu:=hr.units0
    have hu1:=hu_of hr
    refine ⟨_,pss_cons (ps_for PassesOwn.leaving rfl (pi_seqK (K:=K) rfl (pvL 1)) (pg_nameL (i:=2) sc_law_lengths.nd) (pss_one (ps_for PassesOwn.leaving rfl (pi_seqK (K:=K) rfl (pvL 1)) (pg_nameL (i:=3) sc_law_lengths.nd) (pss_cons (ps_if (pt_cmpR (op_neK (K:=K) rfl hu) (pe_callG C_law_plain pass_def (hr.mono (by decide)) (pa_c (pvL 0) (pa_c (pvL 2) (pa_c (pvL 3) (pa_nil))))) (pe_callG C_law_plain pass_def (hr.mono (by decide)) (pa_c (pvL 0) (pa_c (pvL 3) (pa_c (pvL 2) (pa_nil))))) (nomark _)) (pss_one (ps_ret (pe_bl))) (pss_nil)) (pss_one (ps_for PassesOwn.leaving rfl (pi_seqK (K:=K) rfl (pe_slice (sl_YK (K:=K) rfl) (pvL 1) (po_none) (po_some (pe_int)))) (pg_nameL (i:=4) sc_law_lengths.nd) (pss_cons (ps_setL (i:=5) sc_law_lengths.nd (pe_callG C_law_plain pass_def (hr.mono (by decide)) (pa_c (pvL 0) (pa_c (pvL 2) (pa_c (pvL 4) (pa_nil)))))) (pss_one (ps_if (pt_cmpR op_gtX (pe_callG C_law_plain pass_def (hr.mono (by decide)) (pa_c (pvL 0) (pa_c (pvL 2) (pa_c (pvL 3) (pa_nil))))) (pe_op op_addX (pvL 5) (pe_callG C_law_plain pass_def (hr.mono (by decide)) (pa_c (pvL 0) (pa_c (pvL 4) (pa_c (pvL 3) (pa_nil)))))) (nomark _)) (pss_one (ps_ret (pe_bl))) (pss_nil)))))))))) (pss_one (ps_ret (pe_bl))),?_⟩
    have pl:∀ (G:Hp) (RR:VK) (E':XK) (z y:Str),z∈zs->y∈zs->Same H G->(∀ G',Same G G'->RR (.int (Fp z y)) G')->sp_law_plain [.ref a,.str z,.str y] G RR E':=fun G RR E' z y hz1 hy s kk=>by
      obtain ⟨d,ps,e1,e2,e3⟩:=hz z hz1
      refine ⟨a,d,z,y,kvs,ps,rfl,s _ _ ha,e1,s _ _ e2,fun G' s'=>?_⟩
      rw [e3 y hy]
      exact kk G' s'
    refine seq_go fun nn hN=>?_
    and_intros
    refine .inl ⟨⟨_,.of hn⟩,for_lstO (xs:=zs.map V.str) (fun i σ G=>Same H G/\∃ o2 o3 o4 o5,σ=[some (V.ref a),some (V.ref pn),o2,o3,o4,o5]) ⟨Same.refl _,_,_,_,_,rfl⟩ (fun i σ G _ ⟨t,_⟩=>.of (t _ _ hn)) ?_ ?_⟩
    · rintro i v σ G hi ⟨t,o2,o3,o4,o5,rfl⟩ N hNx
      clear hN
      obtain ⟨z,hz1,rfl⟩:=List.mem_map.mp (List.mem_of_getElem? hi)
      and_intros
      refine .inl ⟨⟨_,.of (t _ _ hn)⟩,for_lstO (xs:=zs.map V.str) (fun i σ G=>Same H G/\∃ o3 o4 o5,σ=[some (V.ref a),some (V.ref pn),some (V.str z),o3,o4,o5]) ⟨t,_,_,_,rfl⟩ (fun i σ G _ ⟨t,_⟩=>.of (t _ _ hn)) ?_ ?_⟩
      · rintro i v σ G hi ⟨t,o3,o4,o5,rfl⟩ N2 hN2
        clear hNx
        obtain ⟨y,hy1,rfl⟩:=List.mem_map.mp (List.mem_of_getElem? hi)
        refine seq_go fun n2 hM=>?_
        and_intros
        refine pl _ _ _ _ _ hz1 hy1 t fun G1 t1=>pl _ _ _ _ _ hy1 hz1 (t.trans t1) fun G2 t2=>?_
        and_intros
        rw [hsy y hy1 z hz1]
        rw [if_neg (by simp)]
        show n2 _ _ _
        rw [hM]
        clear hM n2
        have t12:=t.trans (t1.trans t2)
        and_intros
        refine ⟨_,.of (t12 _ _ hn),fun p6 G3 hp6 t3 g3=>.inl ⟨⟨_,.of g3⟩,for_lstO (xs:=cutV (zs.map V.str) none (some 4)) (fun i σ G=>Same G3 G/\∃ o4 o5,σ=[some (V.ref a),some (V.ref pn),some (V.str z),some (V.str y),o4,o5]) ⟨Same.refl _,_,_,rfl⟩ (fun i σ G _ ⟨t,_⟩=>.of (t _ _ g3)) ?_ ?_⟩⟩
        · rintro i v σ G4 hi ⟨t4,o4,o5,rfl⟩ N3 hN3
          clear hN2
          obtain ⟨m,hm,rfl⟩:∃ m∈zs,v=V.str m:=by
            have hv:=List.mem_of_getElem? hi
            unfold cutV at hv
            obtain ⟨m,hm,rfl⟩:=List.mem_map.mp (List.mem_of_mem_drop (List.mem_of_mem_take hv))
            exact ⟨m,hm,rfl⟩
          have t04:=t12.trans (t3.trans t4)
          refine seq_go fun n3 hK=>?_
          and_intros
          refine pl _ _ _ _ _ hz1 hm t04 fun G5 t5=>?_
          and_intros
          rw [hK]
          clear hK n3
          have t05:=t04.trans t5
          and_intros
          refine pl _ _ _ _ _ hz1 hy1 t05 fun G6 t6=>?_
          and_intros
          refine pl _ _ _ _ _ hm hy1 (t05.trans t6) fun G7 t7=>?_
          and_intros
          rw [decide_eq_false (by have:=htr z hz1 y hy1 m hm;omega)]
          bv_omega
          exact hN3 _ _ ⟨t4.trans (t5.trans (t6.trans t7)),_,_,rfl⟩
        · rintro σ G4 ⟨t4,o4,o5,rfl⟩
          exact hN2 _ _ ⟨t12.trans (t3.trans t4),_,_,_,rfl⟩
      · rintro σ G ⟨t,o3,o4,o5,rfl⟩
        exact hNx _ _ ⟨t,_,_,_,_,rfl⟩
    · rintro σ G ⟨t,o2,o3,o4,o5,rfl⟩
      show nn _ _ _
      rw [hN]
      clear hN nn
      and_intros
      exact k G t
def sp_cheapest (Ad:Ads):Sp:=fun vs H Q _=>∃ (a:Addr) (z0:Str) (p g:Int) (zs bs:List Str) (ls:List (Ln Str)),vs=[.ref a,.str z0,.int p,.int g]/\NetW Ad H a zs bs ls/\z0∈zs/\(0<=p/\p<=10 ^ 19)/\(0<=g/\g<=10 ^ 19)/\H Ad.tb=some (tabO lamQ) ∧
  ∀ D ss H',Same H H'->H' D=some (.dT (ss.map kvE))->(∀ e∈ss,EntAt H' e)->ss.length<=24->Sett (stN bs ls p g) (z0,false) ss->Q (.ref D) H'
theorem sc_cheapest:FnScope ["net","first","p","g","found","settled","left","there","behind","cost","total"] ["net","first","p","g"] (defScope s_cheapest):=⟨rfl,rfl,rfl,by decide +kernel,rfl,by decide +kernel,by decide +kernel⟩
theorem ok_cheapest {f:Addr}{fd:FuncData} (F:Fun K "cheapest" "cheapest" s_cheapest f fd) (T:Bl mg) (AF:AdF K mg Ad) (CD:fd.code=.ref Ad.cd) (C_steps_from:Fnc P w K mg base (CX1 P w) 2 "steps_from" ["net","there","p","g"] (sp_steps_from Ad)):FnOk P w K mg base (CX1 P w) 3 f fd ["net","first","p","g"] (sp_cheapest Ad):=by
  refine F.okT (k:=2) CD sc_cheapest (fun vs H Q E h=>?_) (fun A outer s H vs Q E hr h=>?_)
  · obtain ⟨a,z0,p,g,zs,bs,ls,rfl,_⟩:=h
    rfl
  · obtain ⟨a,z0,p,g,zs,bs,ls,rfl,hW,hz0,hp,hg,hTb,k⟩:=h
    have hu:=hr.units0
    have hu1:=hu_of hr
    refine ⟨_,pss_cons (ps_setC (i:=4) sc_cheapest.nd (pe_disp1 hu1 (pe_tupX (pa_c (pvL 1) (pa_c (pe_globE AF.v_PLAIN) (pa_nil)))) (pe_tupX (pa_c (pe_int) (pa_c (pe_non) (pa_nil)))))) (pss_cons (ps_setC (i:=5) sc_cheapest.nd (pe_dnewTX)) (pss_cons (ps_setL (i:=6) sc_cheapest.nd (pe_callTyG (call_listD rfl) T.list bt_list (pa_c (pvC 4) (pa_nil)))) (pss_cons (ps_while PassesOwn.leaving (pt_cmpR op_gtX (pe_callBG (call_lenK (K:=K) rfl) T.len bt_len (pa_c (pvL 6) (pa_nil))) (pe_int) (nomark _)) (pss_cons (ps_setL (i:=7) sc_cheapest.nd (pe_minK (q:=lamQ) (jn:=4) rfl hr T.min rfl AF.t_tab (by kernel_rfl) rfl rfl (Or.inr (Or.inl rfl)) (pa_c (pvL 6) (pa_nil)))) (pss_cons (ps_dputG hu1 (pvC 5) (pvL 7) (pe_dgetG hu1 (pvC 4) (pvL 7))) (pss_cons (ps_for PassesOwn.leaving rfl (pi_seqK (K:=K) rfl (pe_callG C_steps_from pass_def (hr.mono (by decide)) (pa_c (pvL 0) (pa_c (pvL 7) (pa_c (pvL 2) (pa_c (pvL 3) (pa_nil))))))) (pg_tupK (K:=K) (n:=2) rfl rfl (pgs_cons (pg_nameL (i:=8) sc_cheapest.nd) (pgs_cons (pg_nameL (i:=9) sc_cheapest.nd) (pgs_nil)))) (pss_cons (ps_setL (i:=10) sc_cheapest.nd (pe_op op_addX (pe_ix (ix_K (K:=K) rfl) (pe_dgetG hu1 (pvC 4) (pvL 7)) (pe_int) (fun _ _=>rfl)) (pvL 9))) (pss_one (ps_if ((pw_or (pt_cmpR (op_notInK (K:=K) rfl hu1) (pvL 8) (pvC 4) (by kernel_rfl)) (pw_or1 (pt_cmpR op_ltX (pvL 10) (pe_ix (ix_K (K:=K) rfl) (pe_dgetG hu1 (pvC 4) (pvL 8)) (pe_int) (fun _ _=>rfl)) (nomark _)))).pt) (pss_one (ps_dputG hu1 (pvC 4) (pvL 8) (pe_tupX (pa_c (pvL 10) (pa_c (pvL 7) (pa_nil)))))) (pss_nil))))) (pss_one (ps_thaw (P:=P) (w:=w) rfl rfl (ps_setLC (i:=6) ["one"] sc_cheapest.nd rfl (Or.inl rfl) rfl ⟨rfl,by decide +kernel,rfl,by decide +kernel⟩ (.cons (j:=5) rfl (.inl (by kernel_rfl)) (.nil)) (by decide +kernel) (pi_keys (P:=P) (w:=w) rfl rfl (pvC 4)) (fun _ _ _ _=>pg_nameL (i:=0) (show (["one","settled"]:List Str).Nodup from by decide +kernel)) (fun _ _ _ _=>pif_one (pt_cmpR (op_notInK (K:=K) rfl hu1) (pvL 0) (pvC 1) (by kernel_rfl))) (fun _ _ _ _=>pvL 0)))))))) (pss_one (ps_ret (pvC 5)))))),?_⟩
    have le2:2<=sizeLine:=Nat.le_of_lt (small_line (by decide))
    have hsub:=hW.sub
    have hln:=hW.ln
    have hn12:=hW.n12
    have hlU:=len_UL zs
    refine seq_go fun nn hN=>?_
    and_intros
    intro pf H1 hpf s1 h1
    refine ⟨le2,fun b0 H2 hb0 s2 h2=>⟨le2,fun t0 H3 ht0 s3 h3=>⟨b0,ndK (z0,false),rfl,s3 _ _ h2,s3 _ _ (s2 _ _ h1),?_⟩⟩⟩
    have e0:putK [] (ndK (z0,false)) (V.ref t0)=[(⟨(z0,false),0,none,t0⟩:Ent Str)].map kvE:=rfl
    rw [e0,hN]
    clear hN nn
    have hpf3:=s3 _ _ (s2 _ _ h1)
    have nb:b0≠pf:=ne_of (s3 _ _ h2) hpf3 (by intro z;cases z)
    have nt:t0≠pf:=ne_of h3 hpf3 (by intro z;cases z)
    have s4:Same H (upd H3 pf (.dT ([(⟨(z0,false),0,none,t0⟩:Ent Str)].map kvE))):=(s1.trans (s2.trans s3)).upd_new hpf
    have g1:upd H3 pf (.dT ([(⟨(z0,false),0,none,t0⟩:Ent Str)].map kvE)) pf=some (.dT ([(⟨(z0,false),0,none,t0⟩:Ent Str)].map kvE)):=upd_same
    have g2:upd H3 pf (.dT ([(⟨(z0,false),0,none,t0⟩:Ent Str)].map kvE)) t0=some (.tup [.int 0,.non]):=by rw [upd_ne nt];exact h3
    generalize upd H3 pf (.dT ([(⟨(z0,false),0,none,t0⟩:Ent Str)].map kvE))=H4 at s4 g1 g2
    clear h1 h2 h3 s1 s2 s3 hb0 ht0 nb nt hpf3 H1 H2 H3
    refine seq_go fun nn hN=>?_
    and_intros
    intro ps H5 hps s5 h5
    rw [hN]
    clear hN nn
    refine seq_go fun nn hN=>?_
    and_intros
    refine ⟨_,s5 _ _ g1,fun pl lv H6 hpl s6 h6 hlv hkv=>?_⟩
    rw [hN]
    clear hN nn
    have hps0:H ps=none:=s4.free hps
    have nfp:pf≠ps:=ne_of_none g1 hps
    refine seq_go fun nn hN=>?_
    refine while_m (fun m σ H'=>∃ (fs ss:List (Ent Str)) (pl:Addr) (lv:List V) (o7 o8 o9 o10:Option V),σ=[some (.ref a),some (.str z0),some (.int p),some (.int g),some (.ref pf),some (.ref ps),some (.ref pl),o7,o8,o9,o10]/\Same H H'/\H' pf=some (.dT (fs.map kvE))/\H' ps=some (.dT (ss.map kvE))/\H' pl=some (.lst lv)/\LeftAt H' lv fs ss ∧
      Dij (stN bs ls p g) (fun k q=>q∈stN bs ls p g k) (z0,false) fs ss/\(∀ e∈fs,EntAt H' e)/\(∀ e∈fs,e.key∈UL zs)/\m=2 * zs.length - ss.length) (2 * zs.length) ?_ ?_
    · obtain ⟨b,e1,hb⟩:=hkv 0 _ rfl
      obtain ⟨v0,rfl⟩:=List.length_eq_one_iff.mp (show lv.length=1 from hlv)
      cases (show some v0=some (V.ref b) from e1)
      refine ⟨_,[],pl,_,none,none,none,none,rfl,s4.trans (s5.trans s6),s6 _ _ (s5 _ _ g1),s6 _ _ h5,h6,⟨fun v hv=>?_,fun e he _=>?_⟩,Dij.start _ _ _ t0,fun e he=>?_,fun e he=>?_,by simp⟩
      · rw [List.mem_singleton.mp hv]
        exact ⟨_,List.mem_singleton.mpr rfl,by simp,b,rfl,s6 _ _ hb⟩
      · rw [List.mem_singleton.mp he]
        exact ⟨_,List.mem_singleton.mpr rfl,b,rfl,s6 _ _ hb⟩
      · rw [List.mem_singleton.mp he]
        exact ⟨.non,s6 _ _ (s5 _ _ g2),.inl ⟨rfl,rfl⟩⟩
      · rw [List.mem_singleton.mp he]
        exact mem_UL.mpr hz0
    clear e0 hkv hlv h6 s6 hpl H6 lv pl h5 hps s5 g1 g2 s4 H5 H4 t0 b0
    rintro m σ H1 ⟨fs,ss,pl,lv,o7,o8,o9,o10,rfl,s1,hf,hs,hl,hL,D,hE,hU,rfl⟩
    have lfs:fs.length<=2 * zs.length:=by
      have:=nodup_len (UL zs) (fs.map Ent.key) D.nf (fun x hx=>by obtain ⟨e,he,rfl⟩:=List.mem_map.mp hx;exact hU e he)
      rw [List.length_map,hlU] at this;exact this
    and_intros
    refine ⟨_,.l hl,?_⟩
    and_intros
    by_cases hlv:lv=[]
    · subst hlv
      rw [decide_eq_false (by simp)]
      bv_omega
      show nn _ _ _
      rw [hN]
      clear hN nn
      and_intros
      have lss:ss.length<=2 * zs.length:=by
        have:=nodup_len (UL zs) (ss.map Ent.key) D.ns (fun x hx=>by obtain ⟨e,he,rfl⟩:=List.mem_map.mp hx;exact hU e (D.sub e he))
        rw [List.length_map,hlU] at this;exact this
      refine k ps ss H1 s1 hs (fun e he=>hE e (D.sub e he)) (by omega) (D.done fun e he=>?_)
      apply Classical.byContradiction
      intro hne
      obtain ⟨v,hv,_⟩:=hL.2 e he hne
      cases hv
    · clear hN
      rw [decide_eq_true (show (0:Int) < (lv.length:Int) by have:=List.length_pos_iff.mpr hlv;omega)]
      bv_omega
      refine while_go fun N hNx=>?_
      refine seq_go fun n2 hM=>?_
      and_intros
      refine ⟨lv,pf,kfE H1 fs,hl,hlv,rfl,s1 _ _ hTb,fun v hv=>?_,fun v hv hmin H2 s2=>?_⟩
      · obtain ⟨e,he,_,b,rfl,hb⟩:=hL.1 v hv
        obtain ⟨pv,h1,h2⟩:=hE e he
        exact ⟨b,e.t,[pv],rfl,dget_mem hf D.nf he hb,by rw [kfE_eq D.nf he hb];exact h1⟩
      obtain ⟨e,he,hes,b,rfl,hb⟩:=hL.1 v hv
      have hmin':∀ x∈fs,x ∉ ss->e.d<=x.d:=fun x hx hxs=>by
        obtain ⟨v,hv,b',rfl,hb'⟩:=hL.2 x hx hxs
        have:=hmin _ hv
        rwa [kfE_eq D.nf he hb,kfE_eq D.nf hx hb'] at this
      rw [hM]
      clear hM n2
      obtain ⟨D1,hmax,hek⟩:=D.settle he hes hmin'
      have hs2:=s2 _ _ hs
      have hf2:=s2 _ _ hf
      have hb2:=s2 _ _ hb
      refine seq_go fun n2 hM=>?_
      and_intros
      refine ⟨pf,_,rfl,dget_mem hf2 D.nf he hb2,ps,_,rfl,DPut.t (k:=ndK e.key) hs2 hb2 (small_line (by rw [List.length_map];have:=nodup_len (UL zs) (ss.map Ent.key) D.ns (fun x hx=>by obtain ⟨e,he,rfl⟩:=List.mem_map.mp hx;exact hU e (D.sub e he));rw [List.length_map,hlU] at this;omega)),?_⟩
      rw [putK_new _ (val_none fun x hx z=>hek (List.mem_map.mpr ⟨x,hx,z⟩)),show ss.map kvE++[(ndK e.key,V.ref e.t)]=(ss++[e]).map kvE by rw [List.map_append];rfl,hM]
      clear hM n2
      have s3:Same H (upd H2 ps (.dT ((ss++[e]).map kvE))):=(s1.trans s2).upd_new hps0
      have fs3:upd H2 ps (.dT ((ss++[e]).map kvE)) ps=some (.dT ((ss++[e]).map kvE)):=upd_same
      have ff3:upd H2 ps (.dT ((ss++[e]).map kvE)) pf=some (.dT (fs.map kvE)):=by rw [upd_ne nfp];exact hf2
      have kt:∀ b xs,H2 b=some (.tup xs)->upd H2 ps (.dT ((ss++[e]).map kvE)) b=some (.tup xs):=fun b xs h=>by rw [upd_ne (ne_of h hs2 (by intro z;cases z))];exact h
      generalize upd H2 ps (.dT ((ss++[e]).map kvE))=H3 at s3 fs3 ff3 kt
      have hb3:=kt _ _ hb2
      have hE3:∀ x∈fs,EntAt H3 x:=fun x hx=>(hE x hx).keep fun b xs h=>kt _ _ (s2 _ _ h)
      have lss:(ss++[e]).length<=2 * zs.length:=by
        have:=nodup_len (UL zs) ((ss++[e]).map Ent.key) D1.ns (fun x hx=>by obtain ⟨y,hy,rfl⟩:=List.mem_map.mp hx;exact hU y (D1.sub y hy))
        rw [List.length_map,hlU] at this;exact this
      rw [List.length_append,List.length_singleton] at lss
      have hein:e∈ss++[e]:=by simp
      clear hE kt hb2 hf2 hs2 s2 H2 hmin' hmin hv hb hL hlv hl hs hf s1 lv
      refine seq_go fun n2 hM=>?_
      and_intros
      refine ⟨a,b,e.key,p,g,zs,bs,ls,rfl,hW.same s3,hb3,hp,hg,fun D5 ws H5 hD5 s5 h5 st5=>?_⟩
      and_intros
      refine .inl ⟨⟨_,.of h5⟩,for_lstO (xs:=ws) (fun i σ H'=>(∃ o8 o9 o10,σ=[some (.ref a),some (.str z0),some (.int p),some (.int g),some (.ref pf),some (.ref ps),some (.ref pl),some (.ref b),o8,o9,o10])/\Same H H'/\H' D5=some (.lst ws)/\StepsAt H' ws (stN bs ls p g e.key)/\H' b=some (.tup (ndV e.key))/\H' ps=some (.dT ((ss++[e]).map kvE))/\∃ fs,H' pf=some (.dT (fs.map kvE)) ∧
        Dij (stN bs ls p g) (fun k q=>(q∈stN bs ls p g k/\k≠e.key) ∨ (k=e.key/\q∈(stN bs ls p g e.key).take i)) (z0,false) fs (ss++[e])/\(∀ x∈fs,EntAt H' x)/\(∀ x∈fs,x.key∈UL zs)) ?_ ?_ ?_ ?_⟩
      · refine ⟨⟨_,_,_,rfl⟩,s3.trans s5,h5,st5,s5 _ _ hb3,s5 _ _ fs3,fs,s5 _ _ ff3,D1.imp fun k q h=>?_,fun x hx=>(hE3 x hx).keep fun b xs h=>s5 _ _ h,hU⟩
        rcases h with h | ⟨_,h⟩
        · exact h
        · simp at h
      · rintro i σ H' hi ⟨_,_,h,_⟩
        exact .of h
      · clear hE3 hU D1 D s5 h5 st5 hD5 s3 fs3 ff3 hb3 hNx lfs he H3 H5
        rintro i v σ H4 hi ⟨⟨o8,o9,o10,rfl⟩,s4,g5,st4,hb4,hs4,fs,hf4,D4,hE4,hU4⟩ N2 hN2
        clear hM
        obtain ⟨q,hq,x,y,rfl,hx,hy⟩:=st4.2 i v hi
        have hqin:q∈stN bs ls p g e.key:=List.mem_of_getElem? hq
        have hq0:=stN_nn hp.1 hg.1 hln hqin
        have hqU:=stN_in hsub hln hqin
        have htk:(stN bs ls p g e.key).take (i + 1)=(stN bs ls p g e.key).take i++[q]:=by rw [List.take_add_one,hq];rfl
        have he4:e∈fs:=D4.sub e hein
        have lfs:fs.length<=2 * zs.length:=by
          have:=nodup_len (UL zs) (fs.map Ent.key) D4.nf (fun x hx=>by obtain ⟨e,he,rfl⟩:=List.mem_map.mp hx;exact hU4 e he)
          rw [List.length_map,hlU] at this;exact this
        have cimp:∀ k r,((r∈stN bs ls p g k/\k≠e.key) ∨ (k=e.key/\r∈(stN bs ls p g e.key).take (i + 1)))->(((r∈stN bs ls p g k/\k≠e.key) ∨ (k=e.key/\r∈(stN bs ls p g e.key).take i)) ∨ (k=e.key/\r=q)):=fun k r h=>by
          rw [htk] at h
          rcases h with h | ⟨h1,h2⟩
          · exact .inl (.inl h)
          · rcases List.mem_append.mp h2 with h2 | h2
            · exact .inl (.inr ⟨h1,h2⟩)
            · exact .inr ⟨h1,List.mem_singleton.mp h2⟩
        refine ⟨x,_,rfl,SqT.of hx,rfl,?_⟩
        and_intros
        refine seq_go fun n2 hM=>?_
        and_intros
        obtain ⟨pv,ht,_⟩:=hE4 e he4
        refine ⟨pf,_,rfl,dget_mem hf4 D4.nf he4 hb4,?_⟩
        and_intros
        refine ⟨_,_,.t ht,atI_nat (xs:=[V.int e.d,pv]) (j:=0) rfl,?_⟩
        and_intros
        rw [hM]
        clear hM n2
        and_intros
        have store:(∀ z∈fs,z.key=q.1->e.d + q.2 < z.d)->2<=sizeLine/\∀ (p_1:Addr) (H':Hp),H4 p_1=none->Same H4 H'->H' p_1=some (HO.tup [V.int (e.d + q.snd),V.ref b])->∃ a_4 H5,V.ref pf=V.ref a_4/\DPut H' a_4 (V.ref y) (V.ref p_1) H5/\N2 [some (V.ref a),some (V.str z0),some (V.int p),some (V.int g),some (V.ref pf),some (V.ref ps),some (V.ref pl),some (V.ref b),some (V.ref y),some (V.int q.snd),some (V.int (e.d + q.snd))] H5:=fun hlt=>by
          refine ⟨le2,fun t2 H6 ht2 s6 h6=>⟨pf,_,rfl,DPut.t (k:=ndK q.1) (s6 _ _ hf4) (s6 _ _ hy) (small_line (by rw [List.length_map];omega)),?_⟩⟩
          have ep:putK (fs.map kvE) (ndK q.1) (V.ref t2)=(putE fs ⟨q.1,e.d + q.2,some e.key,t2⟩).map kvE:=put_kvE fs ⟨q.1,e.d + q.2,some e.key,t2⟩
          rw [ep]
          have hf6:=s6 _ _ hf4
          have kt:∀ b xs,H6 b=some (.tup xs)->upd H6 pf (.dT ((putE fs ⟨q.1,e.d + q.2,some e.key,t2⟩).map kvE)) b=some (.tup xs):=fun b xs h=>by rw [upd_ne (ne_of h hf6 (by intro z;cases z))];exact h
          refine hN2 _ _ ⟨⟨_,_,_,rfl⟩,(s4.trans s6).upd_new hpf,by rw [upd_ne (ne_of g5 hf4 (by intro z;cases z))];exact s6 _ _ g5,st4.keep fun b xs h=>kt _ _ (s6 _ _ h),kt _ _ (s6 _ _ hb4),by rw [upd_ne (Ne.symm nfp)];exact s6 _ _ hs4,_,upd_same,(D4.put hein hmax hqin hq0 hlt t2).imp cimp,fun z hz=>?_,fun z hz=>?_⟩
          · rcases mem_putE.mp hz with rfl | ⟨hz,_⟩
            · exact ⟨.ref b,kt _ _ h6,.inr ⟨e.key,b,rfl,rfl,kt _ _ (s6 _ _ hb4)⟩⟩
            · exact (hE4 z hz).keep fun b xs h=>kt _ _ (s6 _ _ h)
          · rcases mem_putE.mp hz with rfl | ⟨hz,_⟩
            · exact hqU
            · exact hU4 z hz
        refine .inr ?_
        by_cases hex:∃ x1∈fs,x1.key=q.1
        · obtain ⟨x1,hx1,hk1⟩:=hex
          have dg:DGet H4 pf (.ref y) (some (.ref x1.t)):=dget_mem hf4 D4.nf hx1 (by rw [hk1];exact hy)
          obtain ⟨pv1,ht1,_⟩:=hE4 x1 hx1
          refine ⟨_,dg,?_⟩
          rw [Option.isSome_some]
          bv_omega
          refine ⟨pf,_,rfl,dg,?_⟩
          and_intros
          refine ⟨_,_,.t ht1,atI_nat (xs:=[V.int x1.d,pv1]) (j:=0) rfl,?_⟩
          and_intros
          by_cases hlt:e.d + q.2 < x1.d
          · rw [decide_eq_true hlt]
            bv_omega
            exact store fun z hz hzk=>by rw [key_inj D4.nf hz hx1 (hzk.trans hk1.symm)];exact hlt
          · rw [decide_eq_false hlt]
            bv_omega
            exact hN2 _ _ ⟨⟨_,_,_,rfl⟩,s4,g5,st4,hb4,hs4,fs,hf4,(D4.pass hein hx1 hk1 (by omega)).imp cimp,hE4,hU4⟩
        · refine ⟨none,dget_none hf4 (fun z hz hzk=>hex ⟨z,hz,hzk⟩) hy,?_⟩
          rw [Option.isSome_none]
          bv_omega
          exact store fun z hz hzk=>absurd ⟨z,hz,hzk⟩ hex
      · rintro σ H4 ⟨⟨o8,o9,o10,rfl⟩,s4,g5,st4,hb4,hs4,fs,hf4,D4,hE4,hU4⟩
        show n2 _ _ _
        rw [hM]
        clear hM n2
        have D5':Dij (stN bs ls p g) (fun k q=>q∈stN bs ls p g k) (z0,false) fs (ss++[e]):=D4.imp fun k q h=>by
          rw [List.take_of_length_le (Nat.le_of_eq st4.1.symm)]
          by_cases hk:k=e.key
          · exact .inr ⟨hk,hk ▸ h⟩
          · exact .inl ⟨h,hk⟩
        and_intros
        refine ⟨pf,_,rfl,hf4,fun Dd xs H6 dr hk hsm kp6 h6=>?_⟩
        have hs6:H6 ps=some (.dT ((ss++[e]).map kvE)):=kp6 _ _ (Ne.symm nfp) hs4
        have kt6:∀ b ys,H4 b=some (.tup ys)->b≠pf:=fun b ys h=>ne_of h hf4 (by intro z;cases z)
        have lfs:fs.length<=2 * zs.length:=by
          have:=nodup_len (UL zs) (fs.map Ent.key) D5'.nf (fun x hx=>by obtain ⟨e,he,rfl⟩:=List.mem_map.mp hx;exact hU4 e he)
          rw [List.length_map,hlU] at this;exact this
        have lxs:xs.length=fs.length:=by have:=Paired.length dr.2.2.1;rw [List.length_map] at this;exact this.symm
        have lk:(keysV xs).length=fs.length:=by unfold keysV;rw [List.length_map,lxs]
        -- each key is an entry's
        have ent:∀ v∈keysV xs,∃ x∈fs,∃ b,v=.ref b/\H4 b=some (.tup (ndV x.key)):=fun v hv=>by
          unfold keysV at hv
          obtain ⟨q,hq,rfl⟩:=List.mem_map.mp hv
          obtain ⟨kv,hkv,e1,_⟩:=paired_mem dr.2.2.1 q hq
          obtain ⟨x,hx,rfl⟩:=List.mem_map.mp hkv
          have h4:=hk q hq
          rw [← e1] at h4
          exact ⟨x,hx,q.2.1,rfl,h4⟩
        have uniq:∀ {x x':Ent Str}{b:Addr},x∈fs->x'∈fs->H4 b=some (.tup (ndV x.key))->H4 b=some (.tup (ndV x'.key))->x=x':=fun {x x' b} hx hx' h1 h2=>by
          rw [h1] at h2
          injection h2 with h2
          injection h2 with h2
          exact key_inj D5'.nf hx hx' (ndV_inj h2)
        have hdec:∀ v:V,∃ c:Bool,c=true ↔ ∃ x∈fs,x ∉ ss++[e]/\∃ b,v=.ref b/\H4 b=some (.tup (ndV x.key)):=fun v=>by
          by_cases hc:∃ x∈fs,x ∉ ss++[e]/\∃ b,v=.ref b/\H4 b=some (.tup (ndV x.key))
          · exact ⟨true,fun _=>hc,fun _=>rfl⟩
          · exact ⟨false,fun h=>(nomatch h),fun h=>absurd h hc⟩
        obtain ⟨pr,hpr⟩:=Classical.axiomOfChoice hdec
        refine lc_one (seq_keys h6) (small_line (by rw [lk];omega)) pr (fun v=>v) ?_ ?_ ?_
        · intro v hv H7 s7 R hR
          obtain ⟨x,hx,b1,rfl,hb1⟩:=ent v hv
          have hb7:=s7 _ _ (kp6 _ _ (kt6 _ _ hb1) hb1)
          have hs7:=s7 _ _ hs6
          and_intros
          by_cases hin:x∈ss++[e]
          · have ep:pr (.ref b1)=false:=by
              rw [Bool.eq_false_iff]
              intro hp
              obtain ⟨x',hx',hn',b',e',hb'⟩:=(hpr _).mp hp
              cases e'
              exact hn' (uniq hx' hx hb' hb1 ▸ hin)
            rw [ep] at hR
            exact .inr ⟨_,dget_mem hs7 D5'.ns hin hb7,hR H7 (Same.refl _)⟩
          · have ep:pr (.ref b1)=true:=(hpr _).mpr ⟨x,hx,hin,b1,rfl,hb1⟩
            rw [ep] at hR
            refine .inr ⟨none,dget_none hs7 (fun x' hx' hk'=>hin ?_) hb7,hR H7 (Same.refl _)⟩
            rw [← key_inj D5'.nf (D5'.sub x' hx') hx hk'];exact hx'
        · intro v hv hp H7 s7 R hR
          and_intros
          exact hR H7 (Same.refl _)
        intro D6 H7 hD6 s7 h7
        refine ⟨pf,Dd,_,xs,s7 _ _ h6,hsm,dr,fun q hq=>s7 _ _ (kp6 _ _ (kt6 _ _ (hk q hq)) (hk q hq)),fun H8 kp8 h8=>?_⟩
        have kp48:∀ b o,b≠pf->H4 b=some o->H8 b=some o:=fun b o hb h=>kp8 _ _ hb (s7 _ _ (kp6 _ _ hb h))
        have n6:D6≠pf:=fun e=>by rw [e,h6] at hD6;cases hD6
        refine hNx (2 * zs.length - (ss++[e]).length) _ _ (by rw [List.length_append,List.length_singleton];omega) ⟨fs,ss++[e],D6,_,_,o8,o9,o10,rfl,fun b o h=>kp48 b o (fun z=>by rw [z,hpf] at h;cases h) (s4 _ _ h),h8,kp48 _ _ (Ne.symm nfp) hs4,kp8 _ _ n6 h7,⟨fun v hv=>?_,fun x hx hxs=>?_⟩,D5',fun x hx=>(hE4 x hx).keep fun b ys h=>kp48 _ _ (kt6 _ _ h) h,hU4,rfl⟩
        · rw [List.map_id'] at hv
          obtain ⟨x,hx,hn,b1,e1,hb1⟩:=(hpr v).mp (List.mem_filter.mp hv).2
          exact ⟨x,hx,hn,b1,e1,kp48 _ _ (kt6 _ _ hb1) hb1⟩
        · obtain ⟨i,hi,ei⟩:=List.getElem_of_mem hx
          obtain ⟨q,hq,e1,_⟩:=paired_at dr.2.2.1 (i:=i) (x:=kvE x) (by rw [List.getElem?_map,List.getElem?_eq_getElem hi,ei];rfl)
          have hqm:=List.mem_of_getElem? hq
          have h4:=hk q hqm
          rw [← e1] at h4
          refine ⟨.ref q.2.1,?_,q.2.1,rfl,kp48 _ _ (kt6 _ _ h4) h4⟩
          rw [List.map_id']
          exact List.mem_filter.mpr ⟨by unfold keysV;exact List.mem_map.mpr ⟨q,hqm,rfl⟩,(hpr _).mpr ⟨x,hx,hxs,_,rfl,h4⟩⟩
theorem costV_bl (x:V) (hn:x≠.non):costV x=isBelowV 1000000001 x:=by
  cases x with
  | non=>exact absurd rfl hn
  | _=>rfl
def sp_is_cost:Sp:=fun vs H Q _=>∃ (x:V) (t:Tg),vs=[x]/\tagV H x=some t/\Q (.bl (costV x)) H
theorem sc_is_cost:FnScope ["thing"] ["thing"] (defScope s_is_cost):=⟨rfl,rfl,rfl,by decide +kernel,rfl,by decide +kernel,by decide +kernel⟩
theorem ok_is_cost {f:Addr}{fd:FuncData} (F:Fun K "is_cost" "is_cost" s_is_cost f fd) (T:Bl mg) (AF:AdF K mg Ad) (C_is_below:Fnc P w K mg base (CX1 P w) 2 "is_below" ["thing","bound"] sp_is_below):FnOk P w K mg base (CX1 P w) 3 f fd ["thing"] sp_is_cost:=by
  refine F.okX (k:=2) sc_is_cost (fun vs H Q E h=>?_) (fun cdv A outer s H vs Q E hr h=>?_)
  · obtain ⟨x,t,rfl,_⟩:=h
    rfl
  · obtain ⟨x,t,rfl,ht,k⟩:=h
    have hu:=hr.units0
    have hu1:=hu_of hr
    refine ⟨_,pss_one (ps_ret (pe_or (pe_cmpR op_isX (pvL 0) (pe_non) (nomark _)) (pe_one (pe_callG C_is_below pass_def (hr.mono (by decide)) (pa_c (pvL 0) (pa_c (pe_op op_addX (pe_globE AF.v_MOST_COST) (pe_int)) (pa_nil))))))),?_⟩
    by_cases hn:x=.non
    · subst hn
      ac_nf
      exact k
    · rw [costV_bl x hn] at k
      cases x with
      | non=>exact absurd rfl hn
      | bl b=>ac_nf;exact ⟨_,t,_,rfl,ht,k⟩
      | int b=>ac_nf;exact ⟨_,t,_,rfl,ht,k⟩
      | str b=>ac_nf;exact ⟨_,t,_,rfl,ht,k⟩
      | ref b=>ac_nf;exact ⟨_,t,_,rfl,ht,k⟩
      | _=>cases ht
def nmL (bs:List Int) (at_:Int) (k:Nat):List Nat:=(List.range bs.length).map fun j=>97 + ((bs.getD j 0 + 5 * (k:Int) * (if decide ((j:Int)=at_)=true then 1 else 0)) % 26).toNat
theorem nmL_len (bs:List Int) (a:Int) (k:Nat):(nmL bs a k).length=bs.length:=by unfold nmL;simp
theorem nmL_mem {bs:List Int}{a:Int}{k:Nat}:∀ c∈nmL bs a k,97<=c/\c < 123:=fun c hc=>by
  unfold nmL at hc
  obtain ⟨j,_,rfl⟩:=List.mem_map.mp hc
  generalize bs.getD j 0 + 5 * (k:Int) * (if decide ((j:Int)=a)=true then 1 else 0)=x
  omega
theorem nmL_inj {bs:List Int}{a:Nat}{k k':Nat} (ha:a < bs.length) (hk:k < 12) (hk':k' < 12) (h:nmL bs (a:Int) k=nmL bs (a:Int) k'):k=k':=by
  have h1:(nmL bs (a:Int) k)[a]?=(nmL bs (a:Int) k')[a]?:=by rw [h]
  unfold nmL at h1
  rw [List.getElem?_map,List.getElem?_map,List.getElem?_range ha] at h1
  simp only [Option.map_some,Option.some.injEq] at h1
  simp only [decide_true,if_true,Int.mul_one] at h1
  generalize bs.getD a 0=b at h1
  omega
def sp_law_names:Sp:=fun vs H Q _=>∃ (c:Int) (n:Nat),vs=[.int c,.int (n:Int)]/\1<=n/\n<=12/\∀ p zs H',H p=none->Same H H'->H' p=some (.lst (zs.map V.str))->NamesOk zs->zs.length=n->(∀ z∈zs,∃ l:List Nat,z=tx l/\1<=l.length/\l.length<=8/\∀ c∈l,97<=c/\c < 123)->Q (.ref p) H'
theorem letV_of {l:List Nat} (h1:1<=l.length) (h2:l.length<=8) (h3:∀ c∈l,97<=c/\c < 123):areLetV 8 (.str (tx l))=true:=by
  show areLet 8 (tx l).cps.toList=true
  rw [tx_cps];exact areLet_of h1 h2 h3
theorem namesOk_of {ls:List (List Nat)} (h1:1<=ls.length) (h2:ls.length<=12) (hn:ls.Nodup) (h3:∀ l∈ls,1<=l.length/\l.length<=8/\∀ c∈l,97<=c/\c < 123) :
    NamesOk (ls.map tx)/\∀ z∈ls.map tx,∃ l:List Nat,z=tx l/\1<=l.length/\l.length<=8/\∀ c∈l,97<=c/\c < 123:=by
  refine ⟨⟨by rw [List.length_map];exact h1,by rw [List.length_map];exact h2,?_,fun z hz=>?_⟩,fun z hz=>?_⟩
  · rw [List.nodup_iff_pairwise_ne,List.pairwise_map]
    exact (List.nodup_iff_pairwise_ne.mp hn).imp fun h e=>h (tx_inj e)
  · obtain ⟨l,hl,rfl⟩:=List.mem_map.mp hz
    obtain ⟨a,b,c⟩:=h3 l hl
    exact letV_of a b c
  · obtain ⟨l,hl,rfl⟩:=List.mem_map.mp hz
    exact ⟨l,rfl,h3 l hl⟩
theorem nms_nodup {bs:List Int}{a n:Nat} (ha:a < bs.length) (hn:n<=12):((List.range n).map (nmL bs (a:Int))).Nodup:=by
  rw [List.nodup_iff_pairwise_ne,List.pairwise_map]
  refine (List.nodup_iff_pairwise_ne.mp List.nodup_range).imp_of_mem fun {x y} hx hy h e=>h ?_
  rw [List.mem_range] at hx hy
  exact nmL_inj ha (by omega) (by omega) e
theorem set_nodup {α:Type}{l:List α}{i:Nat}{x:α} (h:l.Nodup) (hx:x ∉ l):(l.set i x).Nodup:=by
  induction l generalizing i with
  | nil=>exact h
  | cons y r ih =>
    rw [List.nodup_cons] at h
    rw [List.mem_cons,not_or] at hx
    cases i with
    | zero=>rw [List.set_cons_zero,List.nodup_cons];exact ⟨hx.2,h.2⟩
    | succ i =>
      rw [List.set_cons_succ,List.nodup_cons]
      refine ⟨fun hm=>?_,ih h.2 hx.2⟩
      rcases List.mem_or_eq_of_mem_set hm with hm | hm
      · exact h.1 hm
      · exact hx.1 hm.symm
theorem sc_law_names:FnScope ["_law_cell","_law_many","_law_letters","_law_base","_law_at","_law_found","_law_k","_law_name","_law_j"] ["_law_cell","_law_many"] (defScope s_law_names):=⟨rfl,rfl,rfl,by decide +kernel,rfl,by decide +kernel,by decide +kernel⟩
theorem ok_law_names {f:Addr}{fd:FuncData} (F:Fun K "_law_names" "_law_names" s_law_names f fd) (T:Bl mg) (AF:AdF K mg Ad) (C_law_mixed:Fnc P w K mg base (CX1 P w) 2 "_law_mixed" ["_law_cell","_law_k"] sp_law_mixed):FnOk P w K mg base (CX1 P w) 3 f fd ["_law_cell","_law_many"] sp_law_names:=by
  refine F.okX (k:=2) sc_law_names (fun vs H Q E h=>?_) (fun cdv A outer s H vs Q E hr h=>?_)
  · obtain ⟨c,n,rfl,_⟩:=h
    rfl
  · obtain ⟨c,n,rfl,hn1,hn12,k⟩:=h
    have hu:=hr.units0
    have hu1:=hu_of hr
    refine ⟨_,pss_cons (ps_setL (i:=2) sc_law_names.nd (pe_str)) (pss_cons (ps_setLC (i:=3) ["_law_k"] sc_law_names.nd rfl (Or.inl rfl) rfl ⟨rfl,by decide +kernel,rfl,by decide +kernel⟩ (.cons (j:=0) rfl (.inl (by kernel_rfl)) (.nil)) (by decide +kernel) (pi_range1G T.range (pa_c (pe_op op_addX (pe_int) (pe_op op_modX (pvC 0) (pe_int))) (pa_nil))) (fun _ _ _ _=>pg_nameL (i:=0) (show (["_law_k","_law_cell"]:List Str).Nodup from by decide +kernel)) (fun _ _ _ _=>pif_nil) (fun _ _ _ _=>pe_op op_modX (pe_callG C_law_mixed passE0 (hr.mono (by decide)) (pa_c (pvC 1) (pa_c (pe_op op_addX (pe_int) (pvL 0)) (pa_nil)))) (pe_int))) (pss_cons (ps_setL (i:=4) sc_law_names.nd (pe_op op_modX (pe_callG C_law_mixed pass_def (hr.mono (by decide)) (pa_c (pvC 0) (pa_c (pe_int) (pa_nil)))) (pe_callBG (call_lenK (K:=K) rfl) T.len bt_len (pa_c (pvL 3) (pa_nil))))) (pss_cons (ps_setL (i:=5) sc_law_names.nd (pe_lstX (pa_nil))) (pss_cons (ps_for PassesOwn.leaving rfl (pi_range1G T.range (pa_c (pvL 1) (pa_nil))) (pg_nameL (i:=6) sc_law_names.nd) (pss_cons (ps_setL (i:=7) sc_law_names.nd (pe_str)) (pss_cons (ps_for PassesOwn.leaving rfl (pi_range1G T.range (pa_c (pe_callBG (call_lenK (K:=K) rfl) T.len bt_len (pa_c (pvL 3) (pa_nil))) (pa_nil))) (pg_nameL (i:=8) sc_law_names.nd) (pss_one (ps_setL (i:=7) sc_law_names.nd (pe_op op_addX (pvL 7) (pe_ix (ix_K (K:=K) rfl) (pvL 2) (pe_op op_modX (pe_op op_addX (pe_ix (ix_K (K:=K) rfl) (pvL 3) (pvL 8) (fun _ _=>rfl)) (pe_op op_mulX (pe_op op_mulS (pe_int) (pvL 6)) (pe_callTyG call_intB T.int bt_int (pa_c (pe_cmpR (op_eqK (K:=K) rfl hu) (pvL 8) (pvL 4) (nomark _)) (pa_nil))))) (pe_int)) (fun _ _=>rfl)))))) (pss_one (ps_expr (pe_bmG (K:=K) rfl PySem.F.plainAttrs_list PySem.F.slot_list_append PySem.F.type_list_append mt_append (pvL 5) (pa_c (pvL 7) (pa_nil)))))))) (pss_cons (ps_if ((pw_and (pt_cmpR op_ltX (pe_callBG (call_lenK (K:=K) rfl) T.len bt_len (pa_c (pvL 3) (pa_nil))) (pe_int) (nomark _)) (pw_and1 (pt_cmpR (op_eqK (K:=K) rfl hu) (pe_op op_modX (pe_op op_fdivX (pvC 0) (pe_int)) (pe_int)) (pe_int) (nomark _)))).pt) (pss_one (ps_asg (pe_op op_addX (pe_ix (ix_K (K:=K) rfl) (pvL 5) (pe_int) (fun _ _=>rfl)) (pe_ix (ix_K (K:=K) rfl) (pvL 2) (pe_ix (ix_K (K:=K) rfl) (pvL 3) (pe_int) (fun _ _=>rfl)) (fun _ _=>rfl))) (pg_sub (pvL 5) (pe_op op_subX (pvL 1) (pe_int)) set_list))) (pss_nil)) (pss_one (ps_ret (pvL 5)))))))),?_⟩
    refine seq_go fun nn hN=>?_
    and_intros
    rw [hN]
    clear hN nn
    refine seq_go fun nn hN=>?_
    obtain ⟨m,hm⟩:=Int.eq_ofNat_of_zero_le (show 0<=1 + c % 8 by omega)
    have hmb:1<=m/\m<=8:=by omega
    and_intros
    refine ⟨by decide,by omega,by omega,?_⟩
    rw [show (1 + c % 8).toNat=m by omega]
    refine lc_M V.int inj_int (seq_ofN _) (by rw [Mk.ofN_len];exact small_line (by omega)) (fun j=>.int (lgOf c (10 + j.toNat) % 2147483629 % 26)) ?_ ?_
    · intro j hj H2 s2 R hR
      have hj':=Mk.mem_ofN.mp hj
      and_intros
      exact ⟨c,10 + j.toNat,by rw [show 10 + j=((10 + j.toNat:Nat):Int) by omega],by omega,by decide,hR H2 (Same.refl _)⟩
    intro pb H1 hpb s1 h1
    obtain ⟨bs,ebs,hbl,hbb⟩:∃ bs:List Int,((Mk.ofN m).map fun j=>V.int (lgOf c (10 + j.toNat) % 2147483629 % 26))=bs.map V.int/\bs.length=m/\∀ b∈bs,0<=b/\b < 26:=by
      refine ⟨(Mk.ofN m).map fun j=>lgOf c (10 + j.toNat) % 2147483629 % 26,by rw [List.map_map];rfl,by rw [List.length_map,Mk.ofN_len],fun b hb=>?_⟩
      obtain ⟨j,_,rfl⟩:=List.mem_map.mp hb
      exact ⟨Int.emod_nonneg _ (by decide),Int.emod_lt_of_pos _ (by decide)⟩
    rw [ebs] at h1
    rw [hN]
    clear hN nn
    refine seq_go fun nn hN=>?_
    and_intros
    refine ⟨c,9,rfl,by decide,_,.l h1,?_⟩
    rw [List.length_map,hbl]
    and_intros
    refine ⟨by omega,?_⟩
    obtain ⟨at_,hat⟩:=Int.eq_ofNat_of_zero_le (Int.emod_nonneg (lgOf c 9 % 2147483629) (show (m:Int)≠0 by omega))
    have hat2:=Int.emod_lt_of_pos (lgOf c 9 % 2147483629) (show (0:Int) < (m:Int) by omega)
    rw [hat] at hat2
    rw [hat]
    rw [hN]
    clear hN nn
    refine seq_go fun nn hN=>?_
    and_intros
    refine ⟨Nat.zero_le _,fun pf H2 hpf s2 h2=>?_⟩
    rw [hN]
    clear hN nn
    refine seq_go fun nn hN=>?_
    and_intros
    refine ⟨by omega,by omega,?_⟩
    refine for_rngO (n:=n) (fun i σ H'=>H' pb=some (.lst (bs.map V.int))/\Same H H'/\H' pf=some (.lst (((List.range i).map (nmL bs (at_:Int))).map fun l=>V.str (tx l)))/\∃ o1 o2 o3,σ=[some (.int c),some (.int (n:Int)),some (.str ("abcdefghijklmnopqrstuvwxyz":Str)),some (.ref pb),some (.int (at_:Int)),some (.ref pf),o1,o2,o3]) ?_ ?_ ?_
    · exact ⟨s2 _ _ h1,s1.trans s2,h2,none,none,none,rfl⟩
    · rintro i σ H' hi ⟨g1,sH,g2,o1,o2,o3,rfl⟩ N hNx
      clear hN
      have hpf0:H pf=none:=by
        cases e:H pf with
        | none=>rfl
        | some o=>rw [s1 _ _ e] at hpf;cases hpf
      rw [Int.zero_add]
      and_intros
      refine seq_go fun n2 hM=>?_
      and_intros
      rw [hM]
      clear hM n2
      refine seq_go fun n2 hM=>?_
      and_intros
      refine ⟨_,.l g1,?_⟩
      rw [List.length_map]
      and_intros
      refine ⟨by omega,by omega,?_⟩
      refine for_rngO (n:=bs.length) (fun j σ H''=>H''=H'/\∃ o3,σ=[some (.int c),some (.int (n:Int)),some (.str ("abcdefghijklmnopqrstuvwxyz":Str)),some (.ref pb),some (.int (at_:Int)),some (.ref pf),some (.int (i:Int)),some (.str (tx ((nmL bs (at_:Int) i).take j))),o3]) ?_ ?_ ?_
      · exact ⟨rfl,_,rfl⟩
      · rintro j σ H'' hj ⟨rfl,o3,rfl⟩ N2 hN2
        clear hM
        have htk:(nmL bs (at_:Int) i).take (j + 1)=(nmL bs (at_:Int) i).take j++[97 + ((bs.getD j 0 + 5 * (i:Int) * (if decide ((j:Int)=(at_:Int))=true then 1 else 0)) % 26).toNat]:=by
          have e:(nmL bs (at_:Int) i)[j]?=some (97 + ((bs.getD j 0 + 5 * (i:Int) * (if decide ((j:Int)=(at_:Int))=true then 1 else 0)) % 26).toNat):=by
            unfold nmL
            rw [List.getElem?_map,List.getElem?_range hj];rfl
          rw [List.take_add_one,e];rfl
        have hll:((nmL bs (at_:Int) i).take j).length=j:=by rw [List.length_take,nmL_len];omega
        rw [htk] at hN2
        generalize (nmL bs (at_:Int) i).take j=wd at hll hN2
        rw [Int.zero_add]
        and_intros
        refine ⟨_,_,.l g1,atI_ints (l:=bs) (by omega) (by omega),?_⟩
        rw [Int.toNat_natCast]
        and_intros
        refine ⟨.inl (by decide),?_⟩
        have hcb:CBig (5 * (i:Int)) (if decide ((j:Int)=(at_:Int))=true then 1 else 0):=by
          refine ⟨Nat.lt_of_lt_of_le (show (5 * (i:Int)).natAbs < 2 ^ 10 by omega) (by decide),?_⟩
          split <;> decide
        refine ⟨hcb,by decide,abc_line,_,atI_of (Int.emod_nonneg _ (by decide)) (v:=97 + ((bs.getD j 0 + 5 * (i:Int) * (if decide ((j:Int)=(at_:Int))=true then 1 else 0)) % 26).toNat) ?_,?_⟩
        · generalize bs.getD j 0 + 5 * (i:Int) * (if decide ((j:Int)=(at_:Int))=true then 1 else 0)=x
          rw [abc_codes,List.getElem?_range' (by omega)];simp
        · generalize 97 + ((bs.getD j 0 + 5 * (i:Int) * (if decide ((j:Int)=(at_:Int))=true then 1 else 0)) % 26).toNat=ch at hN2
          rw [show (⟨#[ch]⟩:Str)=tx [ch] from rfl,tx_app,tx_len,tx_len]
          and_intros
          exact ⟨Nat.le_of_lt (small_line (by simp;omega)),hN2 _ _ ⟨rfl,_,rfl⟩⟩
      · rintro σ H'' ⟨rfl,o3,rfl⟩
        show n2 _ _ _
        rw [hM]
        clear hM n2
        rw [List.take_of_length_le (by rw [nmL_len];exact Nat.le_refl _)]
        and_intros
        have hbf:pb≠pf:=fun e=>by rw [e,hpf] at h1;cases h1
        refine ⟨.inl ⟨rfl,_,.of g2⟩,pf,_,_,rfl,rfl,g2,?_,hNx _ _ ⟨?_,?_,?_,_,_,_,rfl⟩⟩
        · rw [List.length_map,List.length_map,List.length_range];exact small_line (by omega)
        · rw [upd_ne hbf];exact g1
        · exact sH.upd_new hpf0
        · rw [upd_same,List.range_succ,List.map_append,List.map_append];rfl
    · rintro σ H' ⟨g1,sH,g2,o1,o2,o3,rfl⟩
      show nn _ _ _
      rw [hN]
      clear hN nn
      have hpf0:H pf=none:=by
        cases e:H pf with
        | none=>rfl
        | some o=>rw [s1 _ _ e] at hpf;cases hpf
      have hl0:((List.range n).map (nmL bs (at_:Int))).length=n:=by rw [List.length_map,List.length_range]
      have hnd:=nms_nodup (bs:=bs) (a:=at_) (n:=n) (by omega) hn12
      have hin:∀ l∈(List.range n).map (nmL bs (at_:Int)),l.length=bs.length/\∀ c∈l,97<=c/\c < 123:=fun l hl=>by
        obtain ⟨i,_,rfl⟩:=List.mem_map.mp hl
        exact ⟨nmL_len _ _ _,nmL_mem⟩
      have h00:((List.range n).map (nmL bs (at_:Int)))[0]?=some (nmL bs (at_:Int) 0):=by
        rw [List.getElem?_map,List.getElem?_range (by omega)];rfl
      generalize (List.range n).map (nmL bs (at_:Int))=ls0 at g2 hl0 hnd hin h00
      refine cut_seq (fun σ H''=>∃ ls:List (List Nat),ls.length=n/\ls.Nodup/\(∀ l∈ls,1<=l.length/\l.length<=8/\∀ c∈l,97<=c/\c < 123)/\Same H H''/\H'' pf=some (.lst (ls.map fun l=>V.str (tx l)))/\σ=[some (.int c),some (.int (n:Int)),some (.str ("abcdefghijklmnopqrstuvwxyz":Str)),some (.ref pb),some (.int (at_:Int)),some (.ref pf),o1,o2,o3]) ?_ ?_
      · rintro σ H'' ⟨ls,q1,q2,q3,q4,q5,rfl⟩
        and_intros
        obtain ⟨w1,w2⟩:=namesOk_of (ls:=ls) (by omega) (by omega) q2 q3
        exact k pf (ls.map tx) H'' hpf0 q4 (by rw [q5,List.map_map];rfl) w1 (by rw [List.length_map];exact q1) w2
      · intro U hU
        have plainU:U [some (.int c),some (.int (n:Int)),some (.str ("abcdefghijklmnopqrstuvwxyz":Str)),some (.ref pb),some (.int (at_:Int)),some (.ref pf),o1,o2,o3] H' :=
          hU _ _ ⟨ls0,hl0,hnd,fun l hl=>⟨by rw [(hin l hl).1];omega,by rw [(hin l hl).1];omega,(hin l hl).2⟩,sH,g2,rfl⟩
        and_intros
        refine ⟨_,.l g1,?_⟩
        rw [List.length_map]
        and_intros
        by_cases h8:bs.length < 8
        · rw [decide_eq_true (show (bs.length:Int) < 8 by omega)]
          bv_omega
          refine ⟨⟨by decide,by decide⟩,by decide,?_⟩
          by_cases h2:c / 8 % 2=0
          · rw [decide_eq_true h2]
            bv_omega
            obtain ⟨b0,br,rfl⟩:∃ b0 br,bs=b0::br:=by
              cases bs with
              | nil=>simp at hbl;omega
              | cons a r=>exact ⟨a,r,rfl⟩
            have hb0:=hbb b0 List.mem_cons_self
            have n0:(nmL (b0::br) (at_:Int) 0).length=(b0::br).length:=nmL_len _ _ _
            have m0:∀ c∈nmL (b0::br) (at_:Int) 0,97<=c/\c < 123:=nmL_mem
            generalize nmL (b0::br) (at_:Int) 0=l0 at n0 m0 h00
            refine ⟨_,_,.l g2,atI_nat (j:=0) (v:=.str (tx l0)) (by rw [List.getElem?_map,h00];rfl),_,_,.l g1,atI_nat (j:=0) (v:=.int b0) rfl,?_⟩
            and_intros
            refine ⟨abc_line,_,atI_of hb0.1 (v:=97 + b0.toNat) ?_,?_⟩
            · rw [abc_codes,List.getElem?_range' (by omega)];simp
            · rw [show (⟨#[97 + b0.toNat]⟩:Str)=tx [97 + b0.toNat] from rfl,tx_app,tx_len,tx_len]
              and_intros
              refine ⟨Nat.le_of_lt (small_line (by simp;omega)),pf,_,_,n - 1,rfl,rfl,g2,?_,hU _ _ ⟨ls0.set (n - 1) (l0++[97 + b0.toNat]),by rw [List.length_set];exact hl0,set_nodup hnd ?_,fun l hl=>?_,sH.upd_new hpf0,?_,rfl⟩⟩
              · unfold ixN;rw [List.length_map,hl0,if_pos (by omega),if_pos (by omega)];congr 1;omega
              · intro hm
                have:=(hin _ hm).1
                rw [List.length_append,List.length_singleton] at this
                omega
              · rcases List.mem_or_eq_of_mem_set hl with hl | rfl
                · exact ⟨by rw [(hin l hl).1];omega,by rw [(hin l hl).1];omega,(hin l hl).2⟩
                · rw [List.length_append,List.length_singleton]
                  refine ⟨by omega,by omega,fun ch hc=>?_⟩
                  rcases List.mem_append.mp hc with hc | hc
                  · exact m0 ch hc
                  · rw [List.mem_singleton.mp hc];omega
              · rw [upd_same,List.map_set]
          · rw [decide_eq_false h2]
            bv_omega
            exact plainU
        · rw [decide_eq_false (show ¬ (bs.length:Int) < 8 by omega)]
          bv_omega
          exact plainU
def sp_law_cost:Sp:=fun vs H Q _=>∃ c:Int,vs=[.int c]/\∀ v,costV v=true->Q v H
theorem sc_law_cost:FnScope ["_law_cell","_law_kind"] ["_law_cell"] (defScope s_law_cost):=⟨rfl,rfl,rfl,by decide +kernel,rfl,by decide +kernel,by decide +kernel⟩
theorem ok_law_cost {f:Addr}{fd:FuncData} (F:Fun K "_law_cost" "_law_cost" s_law_cost f fd) (T:Bl mg) (AF:AdF K mg Ad) (C_law_mixed:Fnc P w K mg base (CX1 P w) 2 "_law_mixed" ["_law_cell","_law_k"] sp_law_mixed):FnOk P w K mg base (CX1 P w) 3 f fd ["_law_cell"] sp_law_cost:=by
  refine F.okX (k:=2) sc_law_cost (fun vs H Q E h=>?_) (fun cdv A outer s H vs Q E hr h=>?_)
  · obtain ⟨c,rfl,_⟩:=h
    rfl
  · obtain ⟨c,rfl,k⟩:=h
    have hu:=hr.units0
    have hu1:=hu_of hr
    refine ⟨_,pss_cons (ps_setL (i:=1) sc_law_cost.nd (pe_op op_modX (pe_callG C_law_mixed pass_def (hr.mono (by decide)) (pa_c (pvL 0) (pa_c (pe_int) (pa_nil)))) (pe_int))) (pss_cons (ps_if (pt_cmpR (op_eqK (K:=K) rfl hu) (pvL 1) (pe_int) (nomark _)) (pss_one (ps_ret (pe_non))) (pss_nil)) (pss_cons (ps_if (pt_cmpR (op_eqK (K:=K) rfl hu) (pvL 1) (pe_int) (nomark _)) (pss_one (ps_ret (pe_int))) (pss_nil)) (pss_cons (ps_if (pt_cmpR (op_eqK (K:=K) rfl hu) (pvL 1) (pe_int) (nomark _)) (pss_one (ps_ret (pe_op op_modX (pe_op op_fdivX (pvL 0) (pe_int)) (pe_op op_addX (pe_op op_powX (pe_int) (pe_int)) (pe_int))))) (pss_nil)) (pss_one (ps_ret (pe_op op_addX (pe_int) (pe_op op_modX (pe_callG C_law_mixed pass_def (hr.mono (by decide)) (pa_c (pvL 0) (pa_c (pe_int) (pa_nil)))) (pe_int)))))))),?_⟩
    refine seq_go fun nn hN=>?_
    and_intros
    refine ⟨c,30,rfl,by decide,?_⟩
    and_intros
    refine ⟨by decide,?_⟩
    generalize lgOf c 30 % 2147483629 % 8=kd
    rw [hN]
    clear hN nn
    refine seq_go fun nn hN=>?_
    and_intros
    by_cases e0:kd=0
    · rw [if_pos (decide_eq_true e0)]
      exact k _ rfl
    rw [if_neg (by simpa using e0),hN]
    clear hN nn
    refine seq_go fun nn hN=>?_
    and_intros
    by_cases e1:kd=1
    · rw [if_pos (decide_eq_true e1)]
      exact k _ (by decide)
    rw [if_neg (by simpa using e1),hN]
    clear hN nn
    refine seq_go fun nn hN=>?_
    and_intros
    by_cases e2:kd=2
    · rw [if_pos (decide_eq_true e2)]
      refine ⟨⟨by decide,by decide⟩,⟨by decide,by decide,by decide⟩,by decide,k _ ?_⟩
      have h1:=Int.emod_nonneg (c / 3) (b:=1000000001) (by decide)
      have h2:=Int.emod_lt_of_pos (c / 3) (b:=1000000001) (by decide)
      show (decide (0<=c / 3 % 1000000001) && decide (c / 3 % 1000000001 < 1000000001))=true
      rw [decide_eq_true h1,decide_eq_true h2];rfl
    rw [if_neg (by simpa using e2),hN]
    clear hN nn
    and_intros
    refine ⟨c,31,rfl,by decide,by decide,k _ ?_⟩
    generalize lgOf c 31 % 2147483629=x
    show (decide (0<=1 + x % 9) && decide (1 + x % 9 < 1000000001))=true
    rw [decide_eq_true (by omega),decide_eq_true (by omega)];rfl
def sp_law_amounts (K:PySem.W.Frag):Sp:=fun vs H Q _=>∃ (a:Addr) (ns:List Int),vs=[.ref a]/\SqL K H a (ns.map V.int)/\∀ q p g H',Same H H'->H' q=some (.lst [.int p,.int g])->(1<=p/\p<=10 ^ 18)->(1<=g/\g<=10 ^ 18)->Q (.ref q) H'
theorem sc_law_amounts:FnScope ["_law_script","_law_cell","_law_some"] ["_law_script"] (defScope s_law_amounts):=⟨rfl,rfl,rfl,by decide +kernel,rfl,by decide +kernel,by decide +kernel⟩
theorem ok_law_amounts {f:Addr}{fd:FuncData} (F:Fun K "_law_amounts" "_law_amounts" s_law_amounts f fd) (T:Bl mg) (AF:AdF K mg Ad) (C_law_mixed:Fnc P w K mg base (CX1 P w) 2 "_law_mixed" ["_law_cell","_law_k"] sp_law_mixed) (C_law_long:Fnc P w K mg base (CX1 P w) 1 "_law_long" ["_law_cell","_law_k"] sp_law_long) (C_law_cell_at:Fnc P w K mg base (CX1 P w) 1 "_law_cell_at" ["_law_script","_law_k"] (sp_law_cell_at K)):FnOk P w K mg base (CX1 P w) 3 f fd ["_law_script"] (sp_law_amounts K):=by
  refine F.okX (k:=2) sc_law_amounts (fun vs H Q E h=>?_) (fun cdv A outer s H vs Q E hr h=>?_)
  · obtain ⟨a,ns,rfl,_⟩:=h
    rfl
  · obtain ⟨a,ns,rfl,hS,k⟩:=h
    have hu:=hr.units0
    have hu1:=hu_of hr
    refine ⟨_,pss_cons (ps_setL (i:=1) sc_law_amounts.nd (pe_callG C_law_cell_at pass_def (hr.mono (by decide)) (pa_c (pvL 0) (pa_c (pe_int) (pa_nil))))) (pss_cons (ps_setL (i:=2) sc_law_amounts.nd (pe_lstX (pa_c (pe_lstX (pa_c (pe_int) (pa_c (pe_int) (pa_nil)))) (pa_c (pe_lstX (pa_c (pe_op op_addX (pe_int) (pe_op op_modX (pvL 1) (pe_int))) (pa_c (pe_op op_addX (pe_int) (pe_op op_modX (pe_op op_fdivX (pvL 1) (pe_int)) (pe_int))) (pa_nil)))) (pa_c (pe_lstX (pa_c (pe_op op_addX (pe_int) (pe_op op_modX (pvL 1) (pe_op op_powX (pe_int) (pe_int)))) (pa_c (pe_op op_addX (pe_int) (pe_op op_modX (pe_callG C_law_long pass_def (hr.mono (by decide)) (pa_c (pvL 1) (pa_c (pe_int) (pa_nil)))) (pe_op op_powX (pe_int) (pe_int)))) (pa_nil)))) (pa_nil)))))) (pss_one (ps_ret (pe_ix (ix_K (K:=K) rfl) (pvL 2) (pe_op op_modX (pe_callG C_law_mixed pass_def (hr.mono (by decide)) (pa_c (pvL 1) (pa_c (pe_int) (pa_nil)))) (pe_int)) (fun _ _=>rfl))))),?_⟩
    refine seq_go fun nn hN=>?_
    and_intros
    refine ⟨a,ns,1,rfl,hS,by decide,?_⟩
    generalize ns.getD (1:Int).toNat 0=c
    rw [hN]
    clear hN nn
    refine seq_go fun nn hN=>?_
    and_intros
    refine ⟨by decide,fun p1 H1 hp1 s1 h1=>⟨by decide,by decide,by decide,by decide,fun p2 H2 hp2 s2 h2=>⟨by decide,by decide,c,90,rfl,by decide,by decide,?_⟩⟩⟩
    generalize lgOf c 90=c2
    and_intros
    refine ⟨by decide,by decide,fun p3 H3 hp3 s3 h3=>⟨by decide,fun p4 H4 hp4 s4 h4=>?_⟩⟩
    rw [hN]
    clear hN nn
    and_intros
    refine ⟨c,35,rfl,by decide,by decide,?_⟩
    generalize lgOf c 35 % 2147483629=y
    have hy:y % 3=0 ∨ y % 3=1 ∨ y % 3=2:=by omega
    have s03:=s1.trans (s2.trans (s3.trans s4))
    rw [ev_rIxX_1]
    rcases hy with e | e | e
    · rw [e]
      exact ⟨_,_,.l h4,atI_nat (xs:=[V.ref p1,V.ref p2,V.ref p3]) (j:=0) rfl,k p1 1 1 H4 s03 (s4 _ _ (s3 _ _ (s2 _ _ h1))) (by decide) (by decide)⟩
    · rw [e]
      exact ⟨_,_,.l h4,atI_nat (xs:=[V.ref p1,V.ref p2,V.ref p3]) (j:=1) rfl,k p2 _ _ H4 s03 (s4 _ _ (s3 _ _ h2)) (by omega) (by omega)⟩
    · rw [e]
      have e18:(10:Int) ^ Int.toNat 18=1000000000000000000:=by decide
      have e19:(10:Int) ^ 18=1000000000000000000:=by decide
      exact ⟨_,_,.l h4,atI_nat (xs:=[V.ref p1,V.ref p2,V.ref p3]) (j:=2) rfl,k p3 _ _ H4 s03 (s4 _ _ h3) (by rw [e18,e19];omega) (by rw [e18,e19];omega)⟩
def sp_prices (Ad:Ads):Sp:=fun vs H Q E=>∃ (a:Addr) (y0:V) (p g:Int) (zs bs:List Str) (ls:List (Ln Str)),vs=[.ref a,y0,.int p,.int g]/\NetW Ad H a zs bs ls/\zs.Nodup/\(∃ t,tagV H y0=some t)/\(0<=p/\p<=10 ^ 19)/\(0<=g/\g<=10 ^ 19)/\H Ad.tb=some (tabO lamQ) ∧
  ((∀ z∈zs,y0≠.str z)->∀ H',Same H H'->E (.ref Ad.NoOffice) none H')/\∀ z0∈zs,y0=.str z0->∀ D (R:Nk Str->Option Int) ws H',H D=none->Same H H'->ws.Perm zs->PyProof.Rows.sortedS ws=true->(∀ u d,R u=some d ↔ Least (stN bs ls p g) (z0,false) u d)->H' D=some (.dT ((ordP R ws).map kvC))->Q (.ref D) H'
theorem sc_prices:FnScope ["net","first","p","g","found","told","office","form"] ["net","first","p","g"] (defScope s_prices):=⟨rfl,rfl,rfl,by decide +kernel,rfl,by decide +kernel,by decide +kernel⟩
theorem ok_prices {f:Addr}{fd:FuncData} (F:Fun K "prices" "prices" s_prices f fd) (T:Bl mg) (AF:AdF K mg Ad) (C_cheapest:Fnc P w K mg base (CX1 P w) 3 "cheapest" ["net","first","p","g"] (sp_cheapest Ad)) (C_check_office:Fnc P w K mg base (CX1 P w) 2 "check_office" ["net","thing"] (sp_check_office Ad)) (M_Net_offices:Mtd P w K mg base (CX1 P w) Ad.Net "offices" 1 ["self"] (sp_Net_offices Ad)):FnOk P w K mg base (CX1 P w) 4 f fd ["net","first","p","g"] (sp_prices Ad):=by
  refine F.okX (k:=3) sc_prices (fun vs H Q E h=>?_) (fun cdv A outer s H vs Q E hr h=>?_)
  · obtain ⟨a,y0,p,g,zs,bs,ls,rfl,_⟩:=h
    rfl
  · obtain ⟨a,y0,p,g,zs,bs,ls,rfl,hW,hzn,ht0,hp,hg,hTb,kE,kQ⟩:=h
    have hu:=hr.units0
    have hu1:=hu_of hr
    refine ⟨_,pss_cons (ps_expr (pe_callG C_check_office pass_def (hr.mono (by decide)) (pa_c (pvL 0) (pa_c (pvL 1) (pa_nil))))) (pss_cons (ps_setL (i:=4) sc_prices.nd (pe_callG C_cheapest pass_def (hr.mono (by decide)) (pa_c (pvL 0) (pa_c (pvL 1) (pa_c (pvL 2) (pa_c (pvL 3) (pa_nil))))))) (pss_cons (ps_setL (i:=5) sc_prices.nd (pe_dnewTX)) (pss_cons (ps_for PassesOwn.leaving rfl (pi_seqK (K:=K) rfl (pe_callBG (call_sort2 (K:=K) rfl) T.sorted bt_sorted (pa_c (pe_methX0 M_Net_offices pass_def (hr.mono (by decide)) (pvL 0)) (pa_nil)))) (pg_nameL (i:=6) sc_prices.nd) (pss_one (ps_for PassesOwn.leaving rfl (pi_seqK (K:=K) rfl (pe_tupX (pa_c (pe_globE AF.v_PLAIN) (pa_c (pe_globE AF.v_CODE) (pa_nil))))) (pg_nameL (i:=7) sc_prices.nd) (pss_one (ps_if (pt_cmpR (op_inK (K:=K) rfl hu1) (pe_tupX (pa_c (pvL 6) (pa_c (pvL 7) (pa_nil)))) (pvL 4) (by kernel_rfl)) (pss_one (ps_dputG hu1 (pvL 5) (pe_tupX (pa_c (pvL 6) (pa_c (pvL 7) (pa_nil)))) (pe_ix (ix_K (K:=K) rfl) (pe_dgetG hu1 (pvL 4) (pe_tupX (pa_c (pvL 6) (pa_c (pvL 7) (pa_nil))))) (pe_int) (fun _ _=>rfl)))) (pss_nil)))))) (pss_one (ps_ret (pvL 5)))))),?_⟩
    have big:∀ {u:Nat},u<=1000->u<=sizeLine:=fun hu=>Nat.le_of_lt (small_line (by omega))
    obtain ⟨lv,gl,hn,lnA,lnE⟩:=id hW.net
    refine seq_go fun nn hN=>?_
    and_intros
    refine ⟨a,y0,zs,_,_,rfl,hn,ht0,?_,fun hb H1 s1=>kE hb H1 s1⟩
    rintro ⟨z0,hz0,rfl⟩ H1 s1
    rw [hN]
    clear hN nn
    refine seq_go fun nn hN=>?_
    and_intros
    refine ⟨a,z0,p,g,zs,bs,ls,rfl,hW.same s1,hz0,hp,hg,s1 _ _ hTb,fun pf ss H2 s2 h2 hE l24 hS=>?_⟩
    rw [hN]
    clear hN nn
    refine seq_go fun nn hN=>?_
    and_intros
    intro D H3 hD s3 h3
    rw [hN]
    clear hN nn
    have s03:=s1.trans (s2.trans s3)
    have hn3:=hn.same s03
    obtain ⟨dx,po,pb,pl,g1,g2,g3,g4⟩:=id hn3
    refine seq_go fun nn hN=>?_
    and_intros
    refine ⟨dx,_,g1,netF_none (by decide) (by decide) (by decide) po pb pl,a,_,_,_,rfl,hn3,fun D1 H4 hD1 s4 h4=>?_⟩
    and_intros
    refine ⟨zs,.inl (.of h4),by have:=hW.n12;omega,fun ws hperm hsrt p5 H5 hp5 s5 h5=>?_⟩
    and_intros
    have lz:=hperm.length_eq
    have z12:=hW.n12
    have hwn:ws.Nodup:=hperm.nodup_iff.mpr hzn
    obtain ⟨R,hR⟩:∃ R:Nk Str->Option Int,R=fun u=>(ss.find? fun e=>e.key == u).map (·.d):=⟨_,rfl⟩
    have hRl:∀ u d,R u=some d ↔ Least (stN bs ls p g) (z0,false) u d:=fun u d=>by
      rw [hR]
      constructor
      · intro h
        obtain ⟨e,he,rfl⟩:=Option.map_eq_some_iff.mp h
        have hm:=List.mem_of_find?_eq_some he
        have ek:e.key=u:=by simpa using List.find?_some he
        subst ek
        refine ⟨hS.wk e hm,fun w hw=>?_⟩
        obtain ⟨e',he',k1,k2⟩:=hS.le _ _ hw
        rw [nd_injK hS.ns he' hm k1] at k2
        exact k2
      · rintro ⟨h1,h2⟩
        obtain ⟨e,he,k1,k2⟩:=hS.le _ _ h1
        show (ss.find? fun e=>e.key == u).map (·.d)=some d
        cases hf:ss.find? fun e=>e.key == u with
        | none=>exact absurd (List.find?_eq_none.mp hf e he) (by simp [k1])
        | some e2 =>
          have hm:=List.mem_of_find?_eq_some hf
          have ek:e2.key=u:=by simpa using List.find?_some hf
          have:=nd_injK hS.ns hm he (ek.trans k1.symm)
          subst this
          have h3:=h2 _ (by rw [← k1];exact hS.wk _ he)
          show some e2.d=some d
          rw [Int.le_antisymm k2 h3]
    have s25:Same H2 H5:=s3.trans (s4.trans s5)
    have hpD:H3 D=some (.dT []):=h3
    have nDf:D≠pf:=(ne_of_none h2 hD).symm
    have n5D:p5≠D:=(ne_of_none ((s4) _ _ hpD) hp5).symm
    refine .inl ⟨⟨_,.of h5⟩,for_lstO (xs:=ws.map V.str) (fun i σ G=>(∃ o6 o7,σ=[some (V.ref a),some (V.str z0),some (V.int p),some (V.int g),some (V.ref pf),some (V.ref D),o6,o7])/\(∀ c o,c≠D->H5 c=some o->G c=some o)/\G D=some (.dT ((ordP R (ws.take i)).map kvC))) ?_ ?_ ?_ ?_⟩
    · exact ⟨⟨_,_,rfl⟩,(fun c o _ e=>e),(s4.trans s5) _ _ h3⟩
    · rintro i σ G _ ⟨_,kp,_⟩
      exact .of (kp _ _ n5D h5)
    · rintro i v σ G hi ⟨⟨o6,o7,rfl⟩,kp,hGD⟩ N hNx
      clear hN
      rw [List.getElem?_map] at hi
      obtain ⟨z,hz,rfl⟩:=Option.map_eq_some_iff.mp hi
      have hil:=(List.getElem?_eq_some_iff.mp hz).1
      have hzni:z ∉ ws.take i:=fun hm=>by
        have e2:=(List.getElem?_eq_some_iff.mp hz).2
        have:=hwn
        rw [← List.take_append_drop i ws,List.nodup_append] at this
        exact this.2.2 z hm z (by rw [List.drop_eq_getElem_cons hil,e2];exact List.mem_cons_self) rfl
      have htk:ws.take (i + 1)=ws.take i++[z]:=by rw [List.take_add_one,hz];rfl
      rw [htk,show ordP R (ws.take i++[z])=ordP R (ws.take i)++twoP R z by unfold ordP;rw [List.flatMap_append,List.flatMap_singleton]] at hNx
      have hnk:∀ f,∀ q∈ordP R (ws.take i),q.1≠(z,f):=fun f q hq e=>hzni (by
        have:=(mem_ordP.mp (show (q.1,q.2)∈_ from hq)).1
        rw [e] at this
        exact this)
      have lo:(ordP R (ws.take i)).length<=24:=by
        have h1:=nodup_len (UL zs) ((ordP R (ws.take i)).map (·.1)) (nd_ordP (hwn.sublist (List.take_sublist _ _))) fun u hu=>by
          obtain ⟨q,hq,rfl⟩:=List.mem_map.mp hu
          exact mem_UL.mpr (hperm.mem_iff.mp (List.mem_of_mem_take (mem_ordP.mp (show (q.1,q.2)∈_ from hq)).1))
        rw [List.length_map,len_UL] at h1
        omega
      have hpfG:G pf=some (.dT (ss.map kvE)):=kp _ _ nDf.symm (s25 _ _ h2)
      and_intros
      refine ⟨big (by decide),fun p6 G1 hp6 t1 g6=>.inr ⟨⟨_,.of g6⟩,for_tupO (xs:=[V.str (Str.ofString "plain"),V.str (Str.ofString "code")]) (fun j σ G'=>(∃ o7,σ=[some (V.ref a),some (V.str z0),some (V.int p),some (V.int g),some (V.ref pf),some (V.ref D),some (V.str z),o7])/\(∀ c o,c≠D->G1 c=some o->G' c=some o)/\G' D=some (.dT ((ordP R (ws.take i)++(([false,true].take j).filterMap fun f=>(R (z,f)).map fun d=>((z,f),d))).map kvC))) ?_ ?_ ?_ ?_⟩⟩
      · exact ⟨⟨_,rfl⟩,(fun c o _ e=>e),by rw [List.take_zero,List.filterMap_nil,List.append_nil];exact t1 _ _ hGD⟩
      · rintro j σ G' _ ⟨_,kp',_⟩
        exact .of (kp' _ _ (ne_of_none hGD hp6).symm g6)
      · rintro j x σ G' hj ⟨⟨o7,rfl⟩,kp',hGD'⟩ N2 hN2
        clear hNx
        obtain ⟨f,hf,ef,etk⟩:∃ f:Bool,x=V.str (fmS f)/\[false,true][j]?=some f/\[false,true].take (j + 1)=[false,true].take j++[f]:=by
          match j,hj with
          | 0,hj=>cases hj;exact ⟨false,rfl,rfl,rfl⟩
          | 1,hj=>cases hj;exact ⟨true,rfl,rfl,rfl⟩
          | _ + 2,hj=>cases hj
        subst hf
        have hpf':G' pf=some (.dT (ss.map kvE)):=kp' _ _ nDf.symm (t1 _ _ hpfG)
        have enx:([false,true].take (j + 1)).filterMap (fun f=>(R (z,f)).map fun d=>((z,f),d))=([false,true].take j).filterMap (fun f=>(R (z,f)).map fun d=>((z,f),d))++((R (z,f)).map fun d=>((z,f),d)).toList:=by
          rw [etk,List.filterMap_append]
          congr 1
        rw [enx,← List.append_assoc] at hN2
        have lpre:(([false,true].take j).filterMap (fun f=>(R (z,f)).map fun d=>((z,f),d))).length<=2:=Nat.le_trans (List.length_filterMap_le _ _) (by rw [List.length_take];exact Nat.min_le_right _ _)
        have hpre:∀ q∈ordP R (ws.take i)++([false,true].take j).filterMap (fun f=>(R (z,f)).map fun d=>((z,f),d)),q.1≠(z,f):=fun q hq e=>by
          rcases List.mem_append.mp hq with hq | hq
          · exact hnk f q hq e
          · obtain ⟨f',hf',h2⟩:=List.mem_filterMap.mp hq
            obtain ⟨d,_,rfl⟩:=Option.map_eq_some_iff.mp h2
            have e':f'=f:=(Prod.mk.inj e).2
            subst e'
            match j,ef,hf' with
            | 0,ef,hf'=>cases hf'
            | 1,ef,hf'=>cases ef;simp at hf'
            | _ + 2,ef,_=>cases ef
        have lpl:(ordP R (ws.take i)++([false,true].take j).filterMap (fun f=>(R (z,f)).map fun d=>((z,f),d))).length<=26:=by rw [List.length_append];omega
        generalize ordP R (ws.take i)++([false,true].take j).filterMap (fun f=>(R (z,f)).map fun d=>((z,f),d))=pre at hGD' hpre hN2 lpl
        and_intros
        refine ⟨big (by decide),fun p7 G2 hp7 t2 g7=>.inr ⟨valV (ss.map kvE) (ndK (z,f)),DGet.t (t2 _ _ hpf') g7,?_⟩⟩
        have hRz:R (z,f)=(ss.find? fun e=>e.key == (z,f)).map (·.d):=by rw [hR]
        rw [val_kvE]
        cases hfd:ss.find? fun e=>e.key == (z,f) with
        | none =>
          rw [hfd] at hRz
          rw [hRz] at hN2
          bv_omega
          exact hN2 _ _ ⟨⟨_,rfl⟩,(fun c o hc e=>t2 _ _ (kp' c o hc e)),by rw [show (Option.map (fun d=>((z,f),d)) (Option.map (fun x:Ent Str=>x.d) none)).toList=([]:List (Nk Str × Int)) from rfl,List.append_nil];exact t2 _ _ hGD'⟩
        | some e =>
          rw [hfd] at hRz
          rw [hRz] at hN2
          bv_omega
          refine ⟨big (by decide),fun p8 G3 hp8 t3 g8=>⟨pf,V.ref e.t,rfl,?_,?_⟩⟩
          · have:=DGet.t (k:=ndK (z,f)) ((t2.trans t3) _ _ hpf') g8
            rw [val_kvE,hfd] at this
            exact this
          obtain ⟨pv,hpv,_⟩:=hE e (List.mem_of_find?_eq_some hfd)
          have net:e.t≠D:=fun z=>by rw [z,hD] at hpv;cases hpv
          have hpv3:G3 e.t=some (.tup [.int e.d,pv]):=(t2.trans t3) _ _ (kp' _ _ net (t1 _ _ (kp _ _ net (s25 _ _ hpv))))
          and_intros
          refine ⟨_,_,.t hpv3,atI_nat (j:=0) rfl,big (by decide),fun p9 G4 hp9 t4 g9=>?_⟩
          have t24:=t2.trans (t3.trans t4)
          have hnv:valV (pre.map kvC) (ndK (z,f))=none:=by
            unfold valV
            rw [List.find?_eq_none.mpr fun kv hkv hd=>?_];rfl
            obtain ⟨q,hq,rfl⟩:=List.mem_map.mp hkv
            exact hpre q hq (ndK_inj (of_decide_eq_true hd))
          refine ⟨D,_,rfl,DPut.t (k:=ndK (z,f)) (t24 _ _ hGD') g9 (small_line (by rw [List.length_map];omega)),hN2 _ _ ⟨⟨_,rfl⟩,(fun c o hc e=>by rw [upd_ne hc];exact t24 _ _ (kp' c o hc e)),?_⟩⟩
          rw [upd_same,putK_new _ hnv,List.map_append];rfl
      · rintro σ G' ⟨⟨o7,rfl⟩,kp',hGD'⟩
        exact hNx _ _ ⟨⟨_,_,rfl⟩,(fun c o hc e=>kp' c o hc (t1 _ _ (kp c o hc e))),hGD'⟩
    · rintro σ G ⟨⟨o6,o7,rfl⟩,kp,hGD⟩
      show nn _ _ _
      rw [hN]
      clear hN nn
      and_intros
      rw [List.length_map,List.take_of_length_le (Nat.le_refl _)] at hGD
      exact kQ z0 hz0 rfl D R ws G ((s1.trans s2).free hD) (fun c o e=>kp c o (fun z=>by rw [z,(s1.trans s2).free hD] at e;cases e) ((s1.trans (s2.trans s25)) _ _ e)) hperm hsrt hRl hGD
def sp_way (Ad:Ads):Sp:=fun vs H Q _=>∃ (a:Addr) (z0 z1:Str) (p g:Int) (zs bs:List Str) (ls:List (Ln Str)),vs=[.ref a,.str z0,.str z1,.int p,.int g]/\NetW Ad H a zs bs ls/\z0∈zs/\z1∈zs/\(0<=p/\p<=10 ^ 19)/\(0<=g/\g<=10 ^ 19)/\H Ad.tb=some (tabO lamQ) ∧
  ((∀ w,¬ Wk (stN bs ls p g) (z0,false) (z1,false) w)->∀ H',Same H H'->Q .non H')/\∀ d,Wk (stN bs ls p g) (z0,false) (z1,false) d->(∀ w,Wk (stN bs ls p g) (z0,false) (z1,false) w->d<=w)->∀ T L H',Same H H'->H' T=some (.tup [.ref L,.int d])->Q (.ref T) H'
theorem sc_way:FnScope ["net","first","last","p","g","found","there","cost","back"] ["net","first","last","p","g"] (defScope s_way):=⟨rfl,rfl,rfl,by decide +kernel,rfl,by decide +kernel,by decide +kernel⟩
theorem ok_way {f:Addr}{fd:FuncData} (F:Fun K "way" "way" s_way f fd) (T:Bl mg) (AF:AdF K mg Ad) (C_cheapest:Fnc P w K mg base (CX1 P w) 3 "cheapest" ["net","first","p","g"] (sp_cheapest Ad)) (C_check_office:Fnc P w K mg base (CX1 P w) 2 "check_office" ["net","thing"] (sp_check_office Ad)):FnOk P w K mg base (CX1 P w) 4 f fd ["net","first","last","p","g"] (sp_way Ad):=by
  refine F.okX (k:=3) sc_way (fun vs H Q E h=>?_) (fun cdv A outer s H vs Q E hr h=>?_)
  · obtain ⟨a,z0,z1,p,g,zs,bs,ls,rfl,_⟩:=h
    rfl
  · obtain ⟨a,z0,z1,p,g,zs,bs,ls,rfl,hW,hz0,hz1,hp,hg,hTb,kN,kS⟩:=h
    have hu:=hr.units0
    have hu1:=hu_of hr
    refine ⟨_,pss_cons (ps_expr (pe_callG C_check_office pass_def (hr.mono (by decide)) (pa_c (pvL 0) (pa_c (pvL 1) (pa_nil))))) (pss_cons (ps_expr (pe_callG C_check_office pass_def (hr.mono (by decide)) (pa_c (pvL 0) (pa_c (pvL 2) (pa_nil))))) (pss_cons (ps_setL (i:=5) sc_way.nd (pe_callG C_cheapest pass_def (hr.mono (by decide)) (pa_c (pvL 0) (pa_c (pvL 1) (pa_c (pvL 3) (pa_c (pvL 4) (pa_nil))))))) (pss_cons (ps_setL (i:=6) sc_way.nd (pe_tupX (pa_c (pvL 2) (pa_c (pe_globE AF.v_PLAIN) (pa_nil))))) (pss_cons (ps_if (pt_cmpR (op_notInK (K:=K) rfl hu1) (pvL 6) (pvL 5) (by kernel_rfl)) (pss_one (ps_ret (pe_non))) (pss_nil)) (pss_cons (ps_setL (i:=7) sc_way.nd (pe_ix (ix_K (K:=K) rfl) (pe_dgetG hu1 (pvL 5) (pvL 6)) (pe_int) (fun _ _=>rfl))) (pss_cons (ps_setL (i:=8) sc_way.nd (pe_lstX (pa_nil))) (pss_cons (ps_while PassesOwn.leaving (pt_cmpR op_isnotX (pvL 6) (pe_non) (nomark _)) (pss_cons (ps_expr (pe_bmG (K:=K) rfl PySem.F.plainAttrs_list PySem.F.slot_list_append PySem.F.type_list_append mt_append (pvL 8) (pa_c (pvL 6) (pa_nil)))) (pss_one (ps_setL (i:=6) sc_way.nd (pe_ix (ix_K (K:=K) rfl) (pe_dgetG hu1 (pvL 5) (pvL 6)) (pe_int) (fun _ _=>rfl)))))) (pss_one (ps_ret (pe_tupX (pa_c (pe_listRev rfl T.list T.reversed (pa_c (pvL 8) (pa_nil))) (pa_c (pvL 7) (pa_nil))))))))))))),?_⟩
    have le2:2<=sizeLine:=Nat.le_of_lt (small_line (by decide))
    obtain ⟨vs,gl,hNt,_⟩:=id hW.net
    refine seq_go fun nn hN=>?_
    and_intros
    refine ⟨a,_,zs,_,_,rfl,hNt,⟨.str,rfl⟩,fun _ H1 s1=>?_,fun hb=>absurd rfl (hb z0 hz0)⟩
    rw [hN]
    clear hN nn
    refine seq_go fun nn hN=>?_
    and_intros
    refine ⟨a,_,zs,_,_,rfl,hNt.same s1,⟨.str,rfl⟩,fun _ H2 s2=>?_,fun hb=>absurd rfl (hb z1 hz1)⟩
    rw [hN]
    clear hN nn
    have s02:=s1.trans s2
    refine seq_go fun nn hN=>?_
    and_intros
    refine ⟨a,z0,p,g,zs,bs,ls,rfl,hW.same s02,hz0,hp,hg,s02 _ _ hTb,fun D ss H3 s3 h3 hE l24 S=>?_⟩
    rw [hN]
    clear hN nn
    refine seq_go fun nn hN=>?_
    and_intros
    refine ⟨le2,fun b0 H4 hb0 s4 h4=>?_⟩
    rw [hN]
    clear hN nn
    have s04:=s02.trans (s3.trans s4)
    have h3':=s4 _ _ h3
    have h4':H4 b0=some (.tup (ndV (z1,false))):=h4
    refine seq_go fun nn hN=>?_
    and_intros
    refine .inr ?_
    by_cases hex:∃ e∈ss,e.key=(z1,false)
    · obtain ⟨e,he,hk⟩:=hex
      have dg:=dget_mem h3' S.ns he (by rw [hk];exact h4')
      have hE4:∀ x∈ss,EntAt H4 x:=fun x hx=>(hE x hx).keep fun b xs h=>s4 _ _ h
      have hwk:=S.wk e he
      rw [hk] at hwk
      have hle:∀ w,Wk (stN bs ls p g) (z0,false) (z1,false) w->e.d<=w:=fun w hw=>by
        obtain ⟨e',he',hk',hd'⟩:=S.le _ w hw
        rw [key_inj S.ns he he' (hk.trans hk'.symm)];exact hd'
      refine ⟨_,dg,?_⟩
      rw [Option.isSome_some]
      bv_omega
      show nn _ _ _
      rw [hN]
      clear hN nn
      refine seq_go fun nn hN=>?_
      and_intros
      obtain ⟨pv,ht,_⟩:=hE4 e he
      refine ⟨D,_,rfl,dg,?_⟩
      and_intros
      refine ⟨_,_,.t ht,atI_nat (xs:=[V.int e.d,pv]) (j:=0) rfl,?_⟩
      rw [hN]
      clear hN nn
      refine seq_go fun nn hN=>?_
      and_intros
      refine ⟨Nat.zero_le _,fun pb H5 hpb s5 h5=>?_⟩
      rw [hN]
      clear hN nn
      refine seq_go fun nn hN=>?_
      obtain ⟨pre0,post0,hsplit⟩:=List.append_of_mem he
      refine while_m (fun m σ H'=>∃ (v:V) (bk:List V),σ=[some (.ref a),some (.str z0),some (.str z1),some (.int p),some (.int g),some (.ref D),some v,some (.int e.d),some (.ref pb)]/\Same H4 H'/\H' pb=some (.lst bk)/\bk.length + m<=24/\((v=.non/\m=0) ∨ ∃ pre x post b,ss=pre++x::post/\v=.ref b/\H' b=some (.tup (ndV x.key))/\m=pre.length + 1)) (pre0.length + 1) ?_ ?_
      · refine ⟨_,_,rfl,s5,h5,?_,.inr ⟨pre0,e,post0,b0,hsplit,rfl,s5 _ _ (by rw [hk];exact h4'),rfl⟩⟩
        have:=congrArg List.length hsplit
        rw [List.length_append,List.length_cons] at this
        simp;omega
      rintro m σ H6 ⟨v,bk,rfl,s6,h6,hlen,hv⟩
      rcases hv with ⟨rfl,rfl⟩ | ⟨pre,x,post,b,hsp,rfl,hb,rfl⟩
      · and_intros
        show nn _ _ _
        rw [hN]
        clear hN nn
        and_intros
        refine ⟨_,h6,fun L H7 hL s7 h7=>?_⟩
        and_intros
        exact ⟨le2,fun T H8 hT s8 h8=>kS e.d hwk hle T L H8 (s04.trans (s6.trans (s7.trans s8))) h8⟩
      · clear hN
        have hx:x∈ss:=by rw [hsp];simp
        and_intros
        refine while_go fun N hNx=>?_
        refine seq_go fun n2 hM=>?_
        and_intros
        refine ⟨.inl ⟨rfl,_,.of h6⟩,pb,_,_,rfl,rfl,h6,small_line (by omega),?_⟩
        rw [hM]
        clear hM n2
        have s7:Same H4 (upd H6 pb (.lst (bk++[V.ref b]))):=s6.upd_new hpb
        have hp7:upd H6 pb (.lst (bk++[V.ref b])) pb=some (.lst (bk++[V.ref b])):=upd_same
        have hb7:upd H6 pb (.lst (bk++[V.ref b])) b=some (.tup (ndV x.key)):=by rw [upd_ne (ne_of hb h6 (by intro z;cases z))];exact hb
        generalize upd H6 pb (.lst (bk++[V.ref b]))=H7 at s7 hp7 hb7
        and_intros
        obtain ⟨pv1,ht1,hpv⟩:=hE4 x hx
        refine ⟨D,_,rfl,dget_mem (s7 _ _ h3') S.ns hx hb7,?_⟩
        and_intros
        refine ⟨_,_,.t (s7 _ _ ht1),atI_nat (xs:=[V.int x.d,pv1]) (j:=1) rfl,?_⟩
        rcases S.rk pre x post hsp with ⟨hpar,_,_⟩ | ⟨u,hu,c,hpar,_,_⟩
        · rcases hpv with ⟨_,rfl⟩ | ⟨u',b',e1,_⟩
          · exact hNx 0 _ _ (by omega) ⟨.non,_,rfl,s7,hp7,by rw [List.length_append,List.length_singleton];omega,.inl ⟨rfl,rfl⟩⟩
          · rw [hpar] at e1;cases e1
        · rcases hpv with ⟨e1,_⟩ | ⟨u',b',e1,rfl,hb'⟩
          · rw [hpar] at e1;cases e1
          · rw [hpar] at e1
            cases e1
            obtain ⟨pre1,post1,hp1⟩:=List.append_of_mem hu
            have hl:=congrArg List.length hp1
            rw [List.length_append,List.length_cons] at hl
            exact hNx (pre1.length + 1) _ _ (by omega) ⟨.ref b',_,rfl,s7,hp7,by rw [List.length_append,List.length_singleton];omega,.inr ⟨pre1,u,post1++x::post,b',by rw [hsp,hp1];simp,rfl,s7 _ _ hb',rfl⟩⟩
    · refine ⟨none,dget_none h3' (fun z hz hzk=>hex ⟨z,hz,hzk⟩) h4',?_⟩
      rw [Option.isSome_none]
      bv_omega
      clear hN
      refine kN (fun w hw=>?_) H4 s04
      obtain ⟨e',he',hk',_⟩:=S.le _ w hw
      exact hex ⟨e',he',hk'⟩
def sp_is_line:Sp:=fun vs H Q _=>∃ (x:V) (q:Addr) (zs:List Str),vs=[x,.ref q]/\AskL H x/\H q=some (.lst (zs.map V.str))/\∀ H',Same H H'->Q (.bl (lineV H zs x)) H'
theorem sc_is_line:FnScope ["thing","offices"] ["thing","offices"] (defScope s_is_line):=⟨rfl,rfl,rfl,by decide +kernel,rfl,by decide +kernel,by decide +kernel⟩
theorem ok_is_line {f:Addr}{fd:FuncData} (F:Fun K "is_line" "is_line" s_is_line f fd) (T:Bl mg) (AF:AdF K mg Ad) (C_is_cost:Fnc P w K mg base (CX1 P w) 3 "is_cost" ["thing"] sp_is_cost) (C_are_unlike_names:Fnc P w K mg base (CX1 P w) 2 "are_unlike_names" ["thing"] sp_are_unlike_names):FnOk P w K mg base (CX1 P w) 4 f fd ["thing","offices"] sp_is_line:=by
  refine F.okX (k:=3) sc_is_line (fun vs H Q E h=>?_) (fun cdv A outer s H vs Q E hr h=>?_)
  · obtain ⟨x,q,zs,rfl,_⟩:=h
    rfl
  · obtain ⟨x,q,zs,rfl,hA,hq,k⟩:=h
    have hu:=hr.units0
    have hu1:=hu_of hr
    refine ⟨_,pss_cons (ps_if ((pw_or (pt_not (pt_val (pe_callBG (call_isiC .tup) T.isinstance bt_isinstance (pa_c (pvL 0) (pa_c (pe_tyG T.tuple bt_tuple) (pa_nil)))))) (pw_or1 (pt_cmpR (op_neK (K:=K) rfl hu) (pe_callBG (call_lenK (K:=K) rfl) T.len bt_len (pa_c (pvL 0) (pa_nil))) (pe_int) (nomark _)))).pt) (pss_one (ps_ret (pe_bl))) (pss_nil)) (pss_cons (ps_if (pt_not (pt_val (pe_callG C_are_unlike_names pass_def (hr.mono (by decide)) (pa_c (pe_lstX (pa_c (pe_ix (ix_K (K:=K) rfl) (pvL 0) (pe_int) (fun _ _=>rfl)) (pa_c (pe_ix (ix_K (K:=K) rfl) (pvL 0) (pe_int) (fun _ _=>rfl)) (pa_nil)))) (pa_nil))))) (pss_one (ps_ret (pe_bl))) (pss_nil)) (pss_one (ps_ret (pe_and (pe_cmpR (op_inK (K:=K) rfl hu1) (pe_ix (ix_K (K:=K) rfl) (pvL 0) (pe_int) (fun _ _=>rfl)) (pvL 1) (by kernel_rfl)) (pe_and (pe_cmpR (op_inK (K:=K) rfl hu1) (pe_ix (ix_K (K:=K) rfl) (pvL 0) (pe_int) (fun _ _=>rfl)) (pvL 1) (by kernel_rfl)) (pe_and (pe_callG C_is_cost pass_def (hr.mono (by decide)) (pa_c (pe_ix (ix_K (K:=K) rfl) (pvL 0) (pe_int) (fun _ _=>rfl)) (pa_nil))) (pe_one (pe_callG C_is_cost pass_def (hr.mono (by decide)) (pa_c (pe_ix (ix_K (K:=K) rfl) (pvL 0) (pe_int) (fun _ _=>rfl)) (pa_nil)))))))))),?_⟩
    refine seq_go fun nn hN=>?_
    rcases hA with ⟨t,ht,hn⟩ | ⟨p,xs,rfl,hp,hl,hf⟩
    · have hv:lineV H zs x=false:=by unfold lineV;rw [tupV_tag ht hn]
      rw [hv] at k
      and_intros
      refine ⟨trivial,t,ht,?_⟩
      clear hN
      cases t <;> first
        | exact absurd rfl hn
        | exact k H (Same.refl _)
    · have hv:lineV H zs (.ref p)=lineL zs xs:=by unfold lineV;rw [tupV_of hp]
      rw [hv] at k
      have ht:tagV H (.ref p)=some Tg.tup:=by show tagO (H p)=_;rw [hp];rfl
      have hT:Sq K H p xs:=.t hp
      and_intros
      refine ⟨trivial,Tg.tup,ht,?_⟩
      and_intros
      refine ⟨xs,hT,?_⟩
      by_cases h4:xs.length=4
      · obtain ⟨a,b,c,d,rfl⟩:∃ a b c d,xs=[a,b,c,d]:=bind4 (p:=fun xs=>∃ a b c d,xs=[a,b,c,d]) (fun a b c d=>⟨a,b,c,d,rfl⟩) xs h4
        have ek:lineL zs [a,b,c,d]=(unlL [a,b] && decide (strV a∈zs) && decide (strV b∈zs) && costV c && costV d):=rfl
        rw [ek] at k
        rw [show (!decide ((([a,b,c,d]:List V).length:Int)=4))=false from rfl]
        bv_omega
        rw [hN]
        clear hN nn
        refine seq_go fun nn hN=>?_
        and_intros
        have a0:atI [a,b,c,d] 0=some a:=atI_nat (xs:=[a,b,c,d]) (j:=0) rfl
        have a1:atI [a,b,c,d] 1=some b:=atI_nat (xs:=[a,b,c,d]) (j:=1) rfl
        have a2:atI [a,b,c,d] 2=some c:=atI_nat (xs:=[a,b,c,d]) (j:=2) rfl
        have a3:atI [a,b,c,d] 3=some d:=atI_nat (xs:=[a,b,c,d]) (j:=3) rfl
        refine ⟨_,_,hT,a0,_,_,hT,a1,Nat.le_of_lt (small_line (by decide)),fun p1 H1 hp1 s1 h1=>?_⟩
        have hu:unlV H1 (.ref p1)=unlL [a,b]:=by unfold unlV;rw [lstV_of h1]
        refine ⟨.ref p1,rfl,.inr ⟨p1,_,rfl,h1,by simp,fun y hy=>?_⟩,fun H2 s2=>?_⟩
        · rcases List.mem_cons.mp hy with rfl | hy
          · exact (hf _ (by simp)).same s1
          · rw [List.mem_singleton.mp hy];exact (hf _ (by simp)).same s1
        · rw [hu]
          have s02:=s1.trans s2
          cases e1:unlL [a,b] with
          | false =>
            rw [e1,Bool.false_and,Bool.false_and,Bool.false_and,Bool.false_and] at k
            bv_omega
            exact k H2 s02
          | true =>
            rw [e1,Bool.true_and] at k
            bv_omega
            rw [hN]
            clear hN nn
            have hal:[a,b].all (areLetV 8)=true:=by
              have:([a,b].all (areLetV 8) && decide (([a,b].map strV).Nodup))=true:=e1
              rw [Bool.and_eq_true] at this
              exact this.1
            obtain ⟨za,rfl⟩:∃ z,a=.str z:=by
              cases a with
              | str z=>exact ⟨z,rfl⟩
              | _=>cases hal
            obtain ⟨zb,rfl⟩:∃ z,b=.str z:=by
              cases b with
              | str z=>exact ⟨z,rfl⟩
              | _ =>
                rw [List.all_cons,List.all_cons] at hal
                have h2:(areLetV 8 (.str za) && (false && true))=true:=hal
                simp at h2
            have hT2:Sq K H2 p [.str za,.str zb,c,d]:=.t (s02 _ _ hp)
            have hq2:Sq K H2 q (zs.map V.str):=.l (s02 _ _ hq)
            obtain ⟨⟨tc,htc⟩,_⟩:=hf c (by simp)
            obtain ⟨⟨td,htd⟩,_⟩:=hf d (by simp)
            and_intros
            refine ⟨_,_,hT2,a0,.inl ⟨_,hq2,rfl,flat_strs zs,?_⟩⟩
            rw [in_strs]
            have ek2:strV (.str za)=za:=rfl
            have ek3:strV (.str zb)=zb:=rfl
            rw [ek2,ek3] at k
            cases e2:decide (za∈zs) with
            | false =>
              rw [e2,Bool.false_and,Bool.false_and,Bool.false_and] at k
              bv_omega
              exact k H2 s02
            | true =>
              rw [e2,Bool.true_and] at k
              bv_omega
              refine ⟨_,_,hT2,a1,.inl ⟨_,hq2,rfl,flat_strs zs,?_⟩⟩
              rw [in_strs]
              cases e3:decide (zb∈zs) with
              | false =>
                rw [e3,Bool.false_and,Bool.false_and] at k
                bv_omega
                exact k H2 s02
              | true =>
                rw [e3,Bool.true_and] at k
                bv_omega
                refine ⟨_,_,hT2,a2,c,tc,rfl,tag_same s02 htc,?_⟩
                cases e4:costV c with
                | false =>
                  rw [e4,Bool.false_and] at k
                  bv_omega
                  exact k H2 s02
                | true =>
                  rw [e4,Bool.true_and] at k
                  bv_omega
                  exact ⟨_,_,hT2,a3,d,td,rfl,tag_same s02 htd,k H2 s02⟩
      · have hz:lineL zs xs=false:=Bool.eq_false_iff.mpr fun hl=>h4 (line4 hl)
        rw [hz] at k
        rw [decide_eq_false (show ¬ ((xs.length:Nat):Int)=4 by omega)]
        bv_omega
        exact k H (Same.refl _)
def sp_law_line:Sp:=fun vs H Q _=>∃ (c:Int) (q:Addr) (zs:List Str),vs=[.int c,.ref q]/\H q=some (.lst (zs.map V.str))/\NamesOk zs/\2<=zs.length/\∀ p o H',Same H H'->H' p=some o->GLine zs o->Q (.ref p) H'
theorem sc_law_line:FnScope ["_law_cell","_law_names_here","_law_one","_law_other"] ["_law_cell","_law_names_here"] (defScope s_law_line):=⟨rfl,rfl,rfl,by decide +kernel,rfl,by decide +kernel,by decide +kernel⟩
theorem ok_law_line {f:Addr}{fd:FuncData} (F:Fun K "_law_line" "_law_line" s_law_line f fd) (T:Bl mg) (AF:AdF K mg Ad) (C_law_cost:Fnc P w K mg base (CX1 P w) 3 "_law_cost" ["_law_cell"] sp_law_cost) (C_law_long:Fnc P w K mg base (CX1 P w) 1 "_law_long" ["_law_cell","_law_k"] sp_law_long) (C_law_mixed:Fnc P w K mg base (CX1 P w) 2 "_law_mixed" ["_law_cell","_law_k"] sp_law_mixed):FnOk P w K mg base (CX1 P w) 4 f fd ["_law_cell","_law_names_here"] sp_law_line:=by
  refine F.okX (k:=3) sc_law_line (fun vs H Q E h=>?_) (fun cdv A outer s H vs Q E hr h=>?_)
  · obtain ⟨c,q,zs,rfl,_⟩:=h
    rfl
  · obtain ⟨c,q,zs,rfl,hq,ok,h2,k⟩:=h
    have hu:=hr.units0
    have hu1:=hu_of hr
    refine ⟨_,pss_cons (ps_setL (i:=2) sc_law_line.nd (pe_op op_modX (pe_callG C_law_mixed pass_def (hr.mono (by decide)) (pa_c (pvL 0) (pa_c (pe_int) (pa_nil)))) (pe_callBG (call_lenK (K:=K) rfl) T.len bt_len (pa_c (pvL 1) (pa_nil))))) (pss_cons (ps_setL (i:=3) sc_law_line.nd (pe_op op_modX (pe_callG C_law_mixed pass_def (hr.mono (by decide)) (pa_c (pvL 0) (pa_c (pe_int) (pa_nil)))) (pe_callBG (call_lenK (K:=K) rfl) T.len bt_len (pa_c (pvL 1) (pa_nil))))) (pss_cons (ps_if (pt_cmpR (op_eqK (K:=K) rfl hu) (pvL 3) (pvL 2) (nomark _)) (pss_one (ps_setL (i:=3) sc_law_line.nd (pe_op op_modX (pe_op op_addX (pvL 2) (pe_int)) (pe_callBG (call_lenK (K:=K) rfl) T.len bt_len (pa_c (pvL 1) (pa_nil)))))) (pss_nil)) (pss_one (ps_ret (pe_tupX (pa_c (pe_ix (ix_K (K:=K) rfl) (pvL 1) (pvL 2) (fun _ _=>rfl)) (pa_c (pe_ix (ix_K (K:=K) rfl) (pvL 1) (pvL 3) (fun _ _=>rfl)) (pa_c (pe_callG C_law_cost pass_def (hr.mono (by decide)) (pa_c (pvL 0) (pa_nil))) (pa_c (pe_callG C_law_cost pass_def (hr.mono (by decide)) (pa_c (pe_callG C_law_long pass_def (hr.mono (by decide)) (pa_c (pvL 0) (pa_c (pe_int) (pa_nil)))) (pa_nil))) (pa_nil)))))))))),?_⟩
    have hq':Sq K H q (zs.map V.str):=.l hq
    have hn12:=ok.n12
    refine seq_go fun nn hN=>?_
    and_intros
    refine ⟨c,32,rfl,by decide,_,hq',?_⟩
    rw [List.length_map]
    and_intros
    refine ⟨by omega,?_⟩
    obtain ⟨i,hi⟩:=Int.eq_ofNat_of_zero_le (Int.emod_nonneg (lgOf c 32 % 2147483629) (show (zs.length:Int)≠0 by omega))
    have hi2:=Int.emod_lt_of_pos (lgOf c 32 % 2147483629) (show (0:Int) < (zs.length:Int) by omega)
    rw [hi] at hi2
    rw [hi,hN]
    clear hN nn
    refine seq_go fun nn hN=>?_
    and_intros
    refine ⟨c,33,rfl,by decide,_,hq',?_⟩
    rw [List.length_map]
    and_intros
    refine ⟨by omega,?_⟩
    obtain ⟨j,hj⟩:=Int.eq_ofNat_of_zero_le (Int.emod_nonneg (lgOf c 33 % 2147483629) (show (zs.length:Int)≠0 by omega))
    have hj2:=Int.emod_lt_of_pos (lgOf c 33 % 2147483629) (show (0:Int) < (zs.length:Int) by omega)
    rw [hj] at hj2
    rw [hj,hN]
    clear hN nn
    refine cut_seq (fun σ H'=>H'=H/\∃ j':Nat,j' < zs.length/\i≠j'/\σ=[some (.int c),some (.ref q),some (.int (i:Int)),some (.int (j':Int))]) ?_ ?_
    · rintro σ H' ⟨rfl,j',hj',hne,rfl⟩
      obtain ⟨za,ei⟩:∃ z,zs[i]?=some z:=⟨_,List.getElem?_eq_getElem (by omega)⟩
      obtain ⟨zb,ej⟩:∃ z,zs[j']?=some z:=⟨_,List.getElem?_eq_getElem hj'⟩
      and_intros
      refine ⟨_,_,hq',atI_nat (j:=i) (v:=.str za) (by rw [List.getElem?_map,ei];rfl),_,_,hq',atI_nat (j:=j') (v:=.str zb) (by rw [List.getElem?_map,ej];rfl),c,rfl,fun v1 hv1=>⟨c,40,rfl,by decide,_,rfl,fun v2 hv2=>⟨Nat.le_of_lt (small_line (by decide)),fun p H1 hp s1 h1=>?_⟩⟩⟩
      exact k p _ H1 s1 h1 ⟨_,rfl,lineL_of ok ei ej hne hv1 hv2⟩
    · intro U hU
      and_intros
      by_cases e:j=i
      · rw [if_pos (decide_eq_true (show (j:Int)=(i:Int) by omega))]
        refine ⟨_,hq',?_⟩
        rw [List.length_map]
        and_intros
        refine ⟨by omega,?_⟩
        obtain ⟨j2,hj3⟩:=Int.eq_ofNat_of_zero_le (Int.emod_nonneg ((i:Int) + 1) (show (zs.length:Int)≠0 by omega))
        have hj4:=Int.emod_lt_of_pos ((i:Int) + 1) (show (0:Int) < (zs.length:Int) by omega)
        rw [hj3] at hj4 
        rw [hj3]
        refine hU _ _ ⟨rfl,j2,by omega,fun e2=>?_,rfl⟩
        subst e2
        by_cases hl:i + 1 < zs.length
        · rw [Int.emod_eq_of_lt (by omega) (by omega)] at hj3;omega
        · have:(i:Int) + 1=(zs.length:Int):=by omega
          rw [this,Int.emod_self] at hj3;omega
      · rw [if_neg (by simp;omega)]
        exact hU _ _ ⟨rfl,j,by omega,fun e2=>e e2.symm,rfl⟩
def sp_Net_init (Ad:Ads):Sp:=fun vs H Q E=>∃ (a dx:Addr) (o b l:V),vs=[.ref a,o,b,l]/\H a=some (.ins Ad.Net dx [])/\AskN H o/\AskN H b/\AskLs H l/\(netBad H o b l->∀ H',Same H H'->E (.ref Ad.NoNet) none H') ∧
  (∀ os bs ls,lstV H o=some os->lstV H b=some bs->lstV H l=some ls->netL H os bs ls=true->∀ p q r H',H p=none->H q=none->H r=none->(∀ c u,c≠a->H c=some u->H' c=some u)->H' a=some (.ins Ad.Net dx (netF p q r))->H' p=some (.lst os)->H' q=some (.lst bs)->H' r=some (.lst ls)->Q .non H')
theorem sc_Net_init:FnScope ["self","offices","with_book","lines"] ["self","offices","with_book","lines"] (defScope s_Net_init):=⟨rfl,rfl,rfl,by decide +kernel,rfl,by decide +kernel,by decide +kernel⟩
theorem ok_Net_init {f:Addr}{fd:FuncData} (F:Fun K "__init__" "Net.__init__" s_Net_init f fd) (T:Bl mg) (AF:AdF K mg Ad) (C_is_line:Fnc P w K mg base (CX1 P w) 4 "is_line" ["thing","offices"] sp_is_line) (C_are_unlike_names:Fnc P w K mg base (CX1 P w) 2 "are_unlike_names" ["thing"] sp_are_unlike_names):FnOk P w K mg base (CX1 P w) 5 f fd ["self","offices","with_book","lines"] (sp_Net_init Ad):=by
  refine F.okX (k:=4) sc_Net_init (fun vs H Q E h=>?_) (fun cdv A outer s H vs Q E hr h=>?_)
  · obtain ⟨a,dx,o,b,l,rfl,_⟩:=h
    rfl
  · obtain ⟨a,dx,o,b,l,rfl,ha,hAo,hAb,hAl,kE,kQ⟩:=h
    have hu:=hr.units0
    have hu1:=hu_of hr
    refine ⟨_,pss_cons (ps_if ((pw_or (pt_not (pt_val (pe_callG C_are_unlike_names pass_def (hr.mono (by decide)) (pa_c (pvC 1) (pa_nil))))) (pw_or1 (pt_not (pt_chain op_leX op_leX (pe_int) (pe_callBG (call_lenK (K:=K) rfl) T.len bt_len (pa_c (pvC 1) (pa_nil))) (pe_globE AF.v_MOST_OFFICES))))).pt) (pss_one (ps_raise PySem.F.excBase_ValueError AF.q_NoNet AF.g_NoNet raise_def rfl (pa_c (pe_str) (pa_nil)))) (pss_nil)) (pss_cons (ps_if ((pw_or (pt_not (pt_val (pe_callG C_are_unlike_names pass_def (hr.mono (by decide)) (pa_c (pvL 2) (pa_nil))))) (pw_or1 (pt_not (pt_val (pe_callBG (call_allK (K:=K) rfl rfl) T.all bt_all (pa_c (pe_lc ["name"] rfl ⟨rfl,by decide +kernel,rfl,by decide +kernel⟩ (.cons (j:=1) rfl (.inl (by kernel_rfl)) (.nil)) (by decide +kernel) (pi_seqK (K:=K) rfl (pvL 2)) (fun _ _ _ _=>pg_nameL (i:=0) (show (["name","offices"]:List Str).Nodup from by decide +kernel)) (fun _ _ _ _=>pif_nil) (fun _ _ _ _=>pe_cmpR (op_inK (K:=K) rfl hu1) (pvL 0) (pvC 1) (by kernel_rfl))) (pa_nil))))))).pt) (pss_one (ps_raise PySem.F.excBase_ValueError AF.q_NoNet AF.g_NoNet raise_def rfl (pa_c (pe_str) (pa_nil)))) (pss_nil)) (pss_cons (ps_if ((pw_or (pt_not (pt_val (pe_callBG (call_isiC .lst) T.isinstance bt_isinstance (pa_c (pvL 3) (pa_c (pe_tyG T.list bt_list) (pa_nil)))))) (pw_or1 (pt_cmpR op_gtX (pe_callBG (call_lenK (K:=K) rfl) T.len bt_len (pa_c (pvL 3) (pa_nil))) (pe_globE AF.v_MOST_LINES) (nomark _)))).pt) (pss_one (ps_raise PySem.F.excBase_ValueError AF.q_NoNet AF.g_NoNet raise_def rfl (pa_c (pe_str) (pa_nil)))) (pss_nil)) (pss_cons (ps_if (pt_not (pt_val (pe_callBG (call_allK (K:=K) rfl rfl) T.all bt_all (pa_c (pe_lc ["line"] rfl ⟨rfl,by decide +kernel,rfl,by decide +kernel⟩ (.cons (j:=1) rfl (.inl (by kernel_rfl)) (.nil)) (by decide +kernel) (pi_seqK (K:=K) rfl (pvL 3)) (fun _ _ _ _=>pg_nameL (i:=0) (show (["line","offices"]:List Str).Nodup from by decide +kernel)) (fun _ _ _ _=>pif_nil) (fun _ _ _ _=>pe_callG C_is_line passE0 (hr.mono (by decide)) (pa_c (pvL 0) (pa_c (pvC 1) (pa_nil))))) (pa_nil))))) (pss_one (ps_raise PySem.F.excBase_ValueError AF.q_NoNet AF.g_NoNet raise_def rfl (pa_c (pe_str) (pa_nil)))) (pss_nil)) (pss_cons (ps_fldX (K:=K) rfl (pvL 0) (pe_callTyG (call_listK (K:=K) rfl rfl) T.list bt_list (pa_c (pvC 1) (pa_nil)))) (pss_cons (ps_fldX (K:=K) rfl (pvL 0) (pe_callTyG (call_listK (K:=K) rfl rfl) T.list bt_list (pa_c (pvL 2) (pa_nil)))) (pss_one (ps_fldX (K:=K) rfl (pvL 0) (pe_callTyG (call_listK (K:=K) rfl rfl) T.list bt_list (pa_c (pvL 3) (pa_nil)))))))))),?_⟩
    refine seq_go fun nn hN=>?_
    and_intros
    refine ⟨o,rfl,hAo,fun H1 s1=>?_⟩
    and_intros
    by_cases hU:unlV H o=true
    · obtain ⟨po,os,rfl,hpo,hol,hof⟩:∃ p xs,o=.ref p/\H p=some (.lst xs)/\xs.length<=1000/\∀ y∈xs,FlatAt H y:=by
        rcases hAo with ⟨t,ht,hn⟩ | h
        · have:unlV H o=false:=by unfold unlV;rw [lstV_tag ht hn]
          rw [this] at hU;cases hU
        · exact h
      have eo:=lstV_of hpo
      have hUo:unlL os=true:=by unfold unlV at hU;rw [eo] at hU;exact hU
      rw [hU]
      bv_omega
      refine ⟨os,.l (s1 _ _ hpo),?_⟩
      and_intros
      by_cases hol1:1<=os.length/\os.length<=12
      · rw [decide_eq_true (show (1:Int)<=(os.length:Int) by omega)]
        bv_omega
        rw [decide_eq_true (show (os.length:Int)<=(12:Int) by omega)]
        bv_omega
        rw [hN]
        clear hN nn
        refine seq_go fun nn hN=>?_
        and_intros
        refine ⟨b,rfl,hAb.same s1,fun H2 s2=>?_⟩
        rw [hAb.unl s1]
        have s02:=s1.trans s2
        and_intros
        have eos:os=(os.map strV).map V.str:=by
          have h:=hUo
          unfold unlL at h
          rw [Bool.and_eq_true] at h
          exact strs_of h.1
        by_cases hB:unlV H b=true
        · obtain ⟨pb,bs,rfl,hpb,hbl,hbf⟩:∃ p xs,b=.ref p/\H p=some (.lst xs)/\xs.length<=1000/\∀ y∈xs,FlatAt H y:=by
            rcases hAb with ⟨t,ht,hn⟩ | h
            · have:unlV H b=false:=by unfold unlV;rw [lstV_tag ht hn]
              rw [this] at hB;cases hB
            · exact h
          have eb:=lstV_of hpb
          have hUb:unlL bs=true:=by unfold unlV at hB;rw [eb] at hB;exact hB
          have ebs:bs=(bs.map strV).map V.str:=by
            have h:=hUb
            unfold unlL at h
            rw [Bool.and_eq_true] at h
            exact strs_of h.1
          rw [hB]
          bv_omega
          refine .inl ⟨⟨_,.of (s02 _ _ hpb)⟩,lc_map (seq_list (.of (s02 _ _ hpb))) (small_line (by omega)) (fun x=>.bl (decide (strV x∈os.map strV))) ?_ ?_⟩
          · intro y hy H3 s3 R hR
            rw [ebs] at hy
            obtain ⟨z,_,rfl⟩:=List.mem_map.mp hy
            and_intros
            refine .inl ⟨_,.l (s3 _ _ (s02 _ _ hpo)),rfl,by rw [eos];exact flat_strs _,?_⟩
            rw [eos,in_strs]
            exact hR H3 (Same.refl _)
          · intro D H3 hD s3 h3
            refine ⟨D,bs.map fun x=>decide (strV x∈os.map strV),rfl,.of (by rw [h3,List.map_map];rfl),?_⟩
            have e:(bs.map fun x=>decide (strV x∈os.map strV)).all id=bs.all (fun x=>decide (strV x∈os.map strV)):=by rw [List.all_map];rfl
            rw [e]
            have s03:=s02.trans s3
            by_cases hI:bs.all (fun x=>decide (strV x∈os.map strV))=true
            · rw [hI]
              bv_omega
              rw [hN]
              clear hN nn
              refine seq_go fun nn hN=>?_
              and_intros
              rcases hAl with ⟨t,ht,hn⟩ | ⟨pl,ls,rfl,hpl,hll,hlf⟩
              · have hbad:netBad H (.ref po) (.ref pb) l:=fun os' bs' ls' _ _ h=>by rw [lstV_tag ht hn] at h;cases h
                refine ⟨trivial,t,tag_same s03 ht,?_⟩
                clear hN
                cases t <;> first
                  | exact absurd rfl hn
                  | exact ⟨by decide,kE hbad H3 s03⟩
              · have el:=lstV_of hpl
                refine ⟨trivial,Tg.lst,by show tagO (H3 pl)=_;rw [s03 _ _ hpl];rfl,?_⟩
                and_intros
                refine ⟨ls,.l (s03 _ _ hpl),?_⟩
                and_intros
                by_cases h60:ls.length<=60
                · rw [decide_eq_false (show ¬ (60:Int) < (ls.length:Int) by omega)]
                  bv_omega
                  rw [hN]
                  clear hN nn
                  refine seq_go fun nn hN=>?_
                  and_intros
                  refine .inl ⟨⟨_,.of (s03 _ _ hpl)⟩,lc_map (seq_list (.of (s03 _ _ hpl))) (small_line (by omega)) (fun x=>.bl (lineV H (os.map strV) x)) ?_ ?_⟩
                  · intro y hy H4 s4 R hR
                    have s04:=s03.trans s4
                    and_intros
                    refine ⟨y,po,os.map strV,rfl,(hlf y hy).same s04,by rw [← eos];exact s04 _ _ hpo,fun H5 s5=>?_⟩
                    rw [(hlf y hy).line s04]
                    exact hR H5 s5
                  · intro D2 H4 hD2 s4 h4
                    refine ⟨D2,ls.map (lineV H (os.map strV)),rfl,.of (by rw [h4,List.map_map];rfl),?_⟩
                    have e:(ls.map (lineV H (os.map strV))).all id=ls.all (lineV H (os.map strV)):=by rw [List.all_map];rfl
                    rw [e]
                    have s04:=s03.trans s4
                    by_cases hL:ls.all (lineV H (os.map strV))=true
                    · rw [hL]
                      bv_omega
                      rw [hN]
                      clear hN nn
                      have hgood:netL H os bs ls=true:=by
                        unfold netL
                        rw [hUo,hUb,hI,hL,decide_eq_true hol1.1,decide_eq_true hol1.2,decide_eq_true h60];rfl
                      have ha4:=s04 _ _ ha
                      ac_nf
                      refine ⟨os,.inl (.l (s04 _ _ hpo)),fun p1 G1 z1 t1 g1=>?_⟩
                      refine ⟨_,_,_,t1 _ _ ha4,AF.c_Net,AF.n_Net_names,by decide,?_⟩
                      have na:∀ {c:Addr}{xs:List V},H c=some (.lst xs)->c≠a:=fun h e=>by rw [e,ha] at h;cases h
                      have fr:∀ {c:Addr}{G:Hp},(∀ d u,d≠a->H d=some u->G d=some u)->G c=none->c≠a->H c=none:=fun hk hn hc=>by
                        cases e:H _ with
                        | none=>rfl
                        | some o=>rw [hk _ o hc e] at hn;cases hn
                      have k0:∀ d u,d≠a->H d=some u->H4 d=some u:=fun d u _ h=>s04 d u h
                      have np1:p1≠a:=fun e=>by rw [e,ha4] at z1;cases z1
                      have f1:=fr k0 z1 np1
                      have k1:∀ d u,d≠a->H d=some u->upd G1 a (.ins Ad.Net dx (putF (Str.ofString "names") (V.ref p1) [])) d=some u:=fun d u hd h=>by rw [upd_ne hd];exact t1 d u (s04 d u h)
                      refine ⟨bs,.inl (.l (k1 _ _ (na hpb) hpb)),fun p2 G2 z2 t2 g2=>?_⟩
                      have ha5:=t2 a _ upd_same
                      have np2:p2≠a:=fun e=>by rw [e,upd_same] at z2;cases z2
                      have f2:=fr k1 z2 np2
                      have g12:G2 p1=some (.lst os):=t2 _ _ (by rw [upd_ne np1];exact g1)
                      have k2:∀ d u,d≠a->H d=some u->upd G2 a (.ins Ad.Net dx (putF (Str.ofString "holders") (V.ref p2) (putF (Str.ofString "names") (V.ref p1) []))) d=some u:=fun d u hd h=>by rw [upd_ne hd];exact t2 d u (k1 d u hd h)
                      refine ⟨_,_,_,ha5,AF.c_Net,AF.n_Net_holders,Nat.lt_of_le_of_lt (Nat.le_refl 1) (by decide),ls,.inl (.l (k2 _ _ (na hpl) hpl)),fun p3 G3 z3 t3 g3=>?_⟩
                      have ha6:=t3 a _ upd_same
                      have np3:p3≠a:=fun e=>by rw [e,upd_same] at z3;cases z3
                      have f3:=fr k2 z3 np3
                      refine ⟨_,_,_,ha6,AF.c_Net,AF.n_Net_wires,Nat.lt_of_le_of_lt (Nat.le_refl 2) (by decide),?_⟩
                      refine kQ os bs ls eo eb el hgood p1 p2 p3 _ f1 f2 f3 (fun d u hd h=>?_) ?_ ?_ ?_ ?_
                      · rw [upd_ne hd];exact t3 d u (k2 d u hd h)
                      · rw [upd_same];rfl
                      · rw [upd_ne np1];exact t3 _ _ (by rw [upd_ne np1];exact g12)
                      · rw [upd_ne np2];exact t3 _ _ (by rw [upd_ne np2];exact g2)
                      · rw [upd_ne np3];exact g3
                    · have hbad:netBad H (.ref po) (.ref pb) (.ref pl):=fun os' bs' ls' h1 h2 h3=>by
                        rw [eo] at h1;cases h1
                        rw [eb] at h2;cases h2
                        rw [el] at h3;cases h3
                        unfold netL
                        rw [Bool.eq_false_iff.mpr hL,Bool.and_false]
                      rw [Bool.eq_false_iff.mpr hL]
                      bv_omega
                      exact ⟨by decide,kE hbad H4 s04⟩
                · have hbad:netBad H (.ref po) (.ref pb) (.ref pl):=fun os' bs' ls' h1 h2 h3=>by
                    rw [eo] at h1;cases h1
                    rw [eb] at h2;cases h2
                    rw [el] at h3;cases h3
                    unfold netL
                    rw [decide_eq_false h60,Bool.and_false,Bool.false_and]
                  rw [decide_eq_true (show (60:Int) < (ls.length:Int) by omega)]
                  bv_omega
                  exact ⟨by decide,kE hbad H3 s03⟩
            · have hbad:netBad H (.ref po) (.ref pb) l:=fun os' bs' ls' h1 h2 h3=>by
                rw [eo] at h1;cases h1
                rw [eb] at h2;cases h2
                unfold netL
                rw [Bool.eq_false_iff.mpr hI,Bool.and_false,Bool.false_and,Bool.false_and]
              rw [Bool.eq_false_iff.mpr hI]
              bv_omega
              exact ⟨by decide,kE hbad H3 s03⟩
        · have hbad:netBad H (.ref po) b l:=fun os' bs' ls' h1 h2 h3=>by
            have:unlL bs'=false:=by
              have h:=Bool.eq_false_iff.mpr hB
              unfold unlV at h
              rw [h2] at h;exact h
            unfold netL
            rw [this,Bool.and_false,Bool.false_and,Bool.false_and,Bool.false_and]
          rw [Bool.eq_false_iff.mpr hB]
          bv_omega
          exact ⟨by decide,kE hbad H2 s02⟩
      · have hbad:netBad H (.ref po) b l:=fun os' bs' ls' h1 h2 h3=>by
          rw [eo] at h1;cases h1
          have:(decide (1<=os.length) && decide (os.length<=12))=false:=by
            rw [Bool.and_eq_false_iff,decide_eq_false_iff_not,decide_eq_false_iff_not]
            omega
          unfold netL
          rw [Bool.and_assoc (unlL os),this,Bool.and_false,Bool.false_and,Bool.false_and,Bool.false_and,Bool.false_and]
        by_cases h1:1<=os.length
        · rw [decide_eq_true (show (1:Int)<=(os.length:Int) by omega)]
          bv_omega
          rw [decide_eq_false (show ¬ (os.length:Int)<=(12:Int) by omega)]
          bv_omega
          exact ⟨by decide,kE hbad H1 s1⟩
        · rw [decide_eq_false (show ¬ (1:Int)<=(os.length:Int) by omega)]
          bv_omega
          exact ⟨by decide,kE hbad H1 s1⟩
    · have hbad:netBad H o b l:=fun os' bs' ls' h1 h2 h3=>by
        have:unlL os'=false:=by
          have h:=Bool.eq_false_iff.mpr hU
          unfold unlV at h
          rw [h1] at h;exact h
        unfold netL
        rw [this];simp
      rw [Bool.eq_false_iff.mpr hU]
      bv_omega
      exact ⟨by decide,kE hbad H1 s1⟩
def sp_law_plan (K:PySem.W.Frag):Sp:=fun vs H Q _=>∃ (a:Addr) (ns:List Int),vs=[.ref a]/\SqL K H a (ns.map V.int)/\∀ P pn pb pl zs bs ls H',Same H H'->PlanAt H' P pn pb pl zs bs ls->Q (.ref P) H'
theorem sc_law_plan:FnScope ["_law_script","_law_first","_law_names_here","_law_booked","_law_lines"] ["_law_script"] (defScope s_law_plan):=⟨rfl,rfl,rfl,by decide +kernel,rfl,by decide +kernel,by decide +kernel⟩
theorem ok_law_plan {f:Addr}{fd:FuncData} (F:Fun K "_law_plan" "_law_plan" s_law_plan f fd) (T:Bl mg) (AF:AdF K mg Ad) (C_law_line:Fnc P w K mg base (CX1 P w) 4 "_law_line" ["_law_cell","_law_names_here"] sp_law_line) (C_law_mixed:Fnc P w K mg base (CX1 P w) 2 "_law_mixed" ["_law_cell","_law_k"] sp_law_mixed) (C_law_cell_at:Fnc P w K mg base (CX1 P w) 1 "_law_cell_at" ["_law_script","_law_k"] (sp_law_cell_at K)) (C_law_names:Fnc P w K mg base (CX1 P w) 3 "_law_names" ["_law_cell","_law_many"] sp_law_names):FnOk P w K mg base (CX1 P w) 5 f fd ["_law_script"] (sp_law_plan K):=by
  refine F.okX (k:=4) sc_law_plan (fun vs H Q E h=>?_) (fun cdv A outer s H vs Q E hr h=>?_)
  · obtain ⟨a,ns,rfl,_⟩:=h
    rfl
  · obtain ⟨a,ns,rfl,hS,k⟩:=h
    have hu:=hr.units0
    have hu1:=hu_of hr
    refine ⟨_,pss_cons (ps_setL (i:=1) sc_law_plan.nd (pe_callG C_law_cell_at pass_def (hr.mono (by decide)) (pa_c (pvC 0) (pa_c (pe_int) (pa_nil))))) (pss_cons (ps_setC (i:=2) sc_law_plan.nd (pe_callG C_law_names pass_def (hr.mono (by decide)) (pa_c (pvL 1) (pa_c (pe_op op_addX (pe_int) (pe_op op_modX (pe_callG C_law_mixed pass_def (hr.mono (by decide)) (pa_c (pvL 1) (pa_c (pe_int) (pa_nil)))) (pe_int))) (pa_nil))))) (pss_cons (ps_setLC (i:=3) ["_law_k","_law_name"] sc_law_plan.nd rfl (Or.inl rfl) rfl ⟨rfl,by decide +kernel,rfl,by decide +kernel⟩ (.cons (j:=0) rfl (.inl (by kernel_rfl)) (.nil)) (by decide +kernel) (pi_enumG (K:=K) rfl T.enumerate (pa_c (pvC 2) (pa_nil))) (fun _ _ _ _=>pg_tupK (K:=K) (n:=2) rfl rfl (pgs_cons (pg_nameL (i:=0) (show (["_law_k","_law_name","_law_script"]:List Str).Nodup from by decide +kernel)) (pgs_cons (pg_nameL (i:=1) (show (["_law_k","_law_name","_law_script"]:List Str).Nodup from by decide +kernel)) (pgs_nil)))) (fun _ _ _ _=>pif_one (pt_cmpR (op_eqK (K:=K) rfl hu) (pe_op op_modX (pe_callG C_law_mixed passE0 (hr.mono (by decide)) (pa_c (pe_callG C_law_cell_at passE0 (hr.mono (by decide)) (pa_c (pvC 2) (pa_c (pe_int) (pa_nil)))) (pa_c (pe_op op_addX (pe_int) (pvL 0)) (pa_nil)))) (pe_int)) (pe_int) (nomark _))) (fun _ _ _ _=>pvL 1)) (pss_cons (ps_setL (i:=4) sc_law_plan.nd (pe_lstX (pa_nil))) (pss_cons (ps_if (pt_cmpR op_gtX (pe_callBG (call_lenK (K:=K) rfl) T.len bt_len (pa_c (pvC 2) (pa_nil))) (pe_int) (nomark _)) (pss_one (ps_setLC (i:=4) ["_law_cell"] sc_law_plan.nd rfl (Or.inl rfl) rfl ⟨rfl,by decide +kernel,rfl,by decide +kernel⟩ (.cons (j:=2) rfl (.inl (by kernel_rfl)) (.nil)) (by decide +kernel) (pi_seqK (K:=K) rfl (pe_slice (sl_YK (K:=K) rfl) (pvC 0) (po_some (pe_int)) (po_some (pe_int)))) (fun _ _ _ _=>pg_nameL (i:=0) (show (["_law_cell","_law_names_here"]:List Str).Nodup from by decide +kernel)) (fun _ _ _ _=>pif_nil) (fun _ _ _ _=>pe_callG C_law_line passE0 (hr.mono (by decide)) (pa_c (pvL 0) (pa_c (pvC 1) (pa_nil)))))) (pss_nil)) (pss_one (ps_ret (pe_lstX (pa_c (pvC 2) (pa_c (pvL 3) (pa_c (pvL 4) (pa_nil))))))))))),?_⟩
    refine seq_go fun nn hN=>?_
    and_intros
    refine ⟨a,ns,0,rfl,hS,by decide,?_⟩
    generalize ns.getD (0:Int).toNat 0=first
    rw [hN]
    clear hN nn
    refine seq_go fun nn hN=>?_
    and_intros
    refine ⟨first,34,rfl,by decide,by decide,?_⟩
    generalize lgOf first 34 % 2147483629=x
    obtain ⟨n,hn⟩:=Int.eq_ofNat_of_zero_le (show 0<=1 + x % 12 by omega)
    and_intros
    rw [hn]
    refine ⟨first,n,rfl,by omega,by omega,fun pn zs H1 hpn s1 h1 ok hzl hlt=>?_⟩
    rw [hN]
    clear hN nn
    refine seq_go fun nn hN=>?_
    and_intros
    have ok12:=ok.n12
    refine ⟨pn,rfl,⟨_,.of h1⟩,lc_enumF (.of h1) (by rw [List.length_map];exact small_line (by omega)) (fun i=>decide (lgOf (ns.getD 1 0) (40 + i) % 2147483629 % 3=1)) ?_ ?_ ?_⟩
    · intro i x hx H2 s2 R hR
      have hi:i < zs.length:=by have:=(List.getElem?_eq_some_iff.mp hx).1;rwa [List.length_map] at this
      and_intros
      refine ⟨a,ns,1,rfl,(s1.trans s2).seq hS,by decide,?_⟩
      refine ⟨_,40 + i,by rw [show (40:Int) + (i:Int)=((40 + i:Nat):Int) by omega],by omega,by decide,?_⟩
      and_intros
      exact hR H2 (Same.refl _)
    · intro i x hx H2 s2 R hR
      and_intros
      exact hR
    intro pb vs H2 hpb s2 h2 hsub
    obtain ⟨bs,rfl,hbs⟩:=sub_strs hsub
    rw [hN]
    clear hN nn
    refine seq_go fun nn hN=>?_
    and_intros
    refine ⟨Nat.zero_le _,fun p0 H3 hp0 s3 h3=>?_⟩
    rw [hN]
    clear hN nn
    have s03:=s1.trans (s2.trans s3)
    have h1':=(s2.trans s3) _ _ h1
    have h2':=s3 _ _ h2
    refine cut_seq (fun σ H'=>Same H3 H'/\∃ pl ls,H' pl=some (.lst ls)/\ls.length<=60/\(∀ v∈ls,∃ q o,v=.ref q/\H' q=some o/\GLine zs o)/\σ=[some (.ref a),some (.int first),some (.ref pn),some (.ref pb),some (.ref pl)]) ?_ ?_
    · rintro σ H' ⟨s4,pl,ls,h4,hl60,hln,rfl⟩
      and_intros
      refine ⟨Nat.le_of_lt (small_line (by decide)),fun P H5 hP s5 h5=>?_⟩
      refine k P pn pb pl zs bs ls H5 (s03.trans (s4.trans s5)) ⟨h5,(s4.trans s5) _ _ h1',(s4.trans s5) _ _ h2',s5 _ _ h4,ok,hlt,hbs,hl60,fun v hv=>?_⟩
      obtain ⟨q,o,e,hq,hg⟩:=hln v hv
      exact ⟨q,o,e,s5 _ _ hq,hg⟩
    · intro U hU
      and_intros
      refine ⟨_,.l h1',?_⟩
      rw [List.length_map]
      and_intros
      by_cases h2:1 < zs.length
      · rw [if_pos (decide_eq_true (show (1:Int) < (zs.length:Int) by omega))]
        refine ⟨_,s03.seq hS,fun q H4 hq s4 h4=>?_⟩
        have hcl:(cutV (ns.map V.int) (some 2) (some 62)).length<=60:=by
          rw [show (2:Int)=((2:Nat):Int) from rfl,show (62:Int)=((62:Nat):Int) from rfl,cutV_mid,List.length_take]
          omega
        have hci:∀ v∈cutV (ns.map V.int) (some 2) (some 62),∃ i,v=.int i:=fun v hv=>by
          rw [show (2:Int)=((2:Nat):Int) from rfl,show (62:Int)=((62:Nat):Int) from rfl,cutV_mid] at hv
          obtain ⟨i,_,rfl⟩:=List.mem_map.mp (List.mem_of_mem_drop (List.mem_of_mem_take hv))
          exact ⟨i,rfl⟩
        refine .inl ⟨⟨_,.of h4⟩,lc_new (seq_list (.of h4)) (small_line (by omega)) (GLine zs) (fun ys ⟨xs,e,_⟩=>by cases e) ?_ ?_⟩
        · intro y hy H5 s5 R hR
          obtain ⟨i,rfl⟩:=hci y hy
          and_intros
          exact ⟨i,pn,zs,rfl,s5 _ _ (s4 _ _ h1'),ok,h2,hR⟩
        · intro D vs H5 hD s5 h5 hvl hg
          and_intros
          exact hU _ _ ⟨s4.trans s5,D,vs,h5,by omega,hg,rfl⟩
      · rw [if_neg (by simp;omega)]
        exact hU _ _ ⟨Same.refl _,p0,[],h3,by simp,(fun v hv=>nomatch hv),rfl⟩
def sp_law_shown (Ad:Ads):Sp:=fun vs H Q _=>∃ (Pp a:Addr) (z0:Str) (p g:Int) (zs bs:List Str) (ls:List (Ln Str)),vs=[.ref Pp,.ref a,.str z0,.int p,.int g]/\PlanW H Pp zs bs ls/\NetW Ad H a zs bs ls/\zs.Nodup/\z0∈zs/\(0<=p/\p<=10 ^ 19)/\(0<=g/\g<=10 ^ 19)/\H Ad.tb=some (tabO lamQ)/\∀ H',Same H H'->Q (.bl true) H'
theorem sc_law_shown:FnScope ["_law_plan_here","_law_net","_law_first","_law_p","_law_g","_law_told_prices","_law_here","_law_there","_law_cost_here","_law_last","_law_found"] ["_law_plan_here","_law_net","_law_first","_law_p","_law_g"] (defScope s_law_shown):=⟨rfl,rfl,rfl,by decide +kernel,rfl,by decide +kernel,by decide +kernel⟩
theorem ok_law_shown {f:Addr}{fd:FuncData} (F:Fun K "_law_shown" "_law_shown" s_law_shown f fd) (T:Bl mg) (AF:AdF K mg Ad) (C_way:Fnc P w K mg base (CX1 P w) 4 "way" ["net","first","last","p","g"] (sp_way Ad)) (C_law_next:Fnc P w K mg base (CX1 P w) 1 "_law_next" ["_law_plan_here","_law_here","_law_p","_law_g"] sp_law_next) (C_prices:Fnc P w K mg base (CX1 P w) 4 "prices" ["net","first","p","g"] (sp_prices Ad)):FnOk P w K mg base (CX1 P w) 5 f fd ["_law_plan_here","_law_net","_law_first","_law_p","_law_g"] (sp_law_shown Ad):=by
  refine F.okX (k:=4) sc_law_shown (fun vs H Q E h=>?_) (fun cdv A outer s H vs Q E hr h=>?_)
  · obtain ⟨Pp,a,z0,p,g,zs,bs,ls,rfl,_⟩:=h
    rfl
  · obtain ⟨Pp,a,z0,p,g,zs,bs,ls,rfl,hPl,hW,hzn,hz0,hp,hg,hTb,k⟩:=h
    have hu:=hr.units0
    have hu1:=hu_of hr
    refine ⟨_,pss_cons (ps_setL (i:=5) sc_law_shown.nd (pe_callG C_prices pass_def (hr.mono (by decide)) (pa_c (pvL 1) (pa_c (pvL 2) (pa_c (pvL 3) (pa_c (pvL 4) (pa_nil))))))) (pss_cons (ps_if (pt_cmpR (op_neK (K:=K) rfl hu) (pe_dgetG hu1 (pvL 5) (pe_tupX (pa_c (pvL 2) (pa_c (pe_str) (pa_nil))))) (pe_int) (nomark _)) (pss_one (ps_ret (pe_bl))) (pss_nil)) (pss_cons (ps_for PassesOwn.leaving rfl (pi_keysF (P:=P) (w:=w) rfl rfl (pvL 5)) (pg_nameL (i:=6) sc_law_shown.nd) (pss_one (ps_for PassesOwn.leaving rfl (pi_seqK (K:=K) rfl (pe_callG C_law_next pass_def (hr.mono (by decide)) (pa_c (pvL 0) (pa_c (pvL 6) (pa_c (pvL 3) (pa_c (pvL 4) (pa_nil))))))) (pg_tupK (K:=K) (n:=2) rfl rfl (pgs_cons (pg_nameL (i:=7) sc_law_shown.nd) (pgs_cons (pg_nameL (i:=8) sc_law_shown.nd) (pgs_nil)))) (pss_one (ps_if ((pw_or (pt_cmpR (op_notInK (K:=K) rfl hu1) (pvL 7) (pvL 5) (by kernel_rfl)) (pw_or1 (pt_cmpR op_gtX (pe_dgetG hu1 (pvL 5) (pvL 7)) (pe_op op_addX (pe_dgetG hu1 (pvL 5) (pvL 6)) (pvL 8)) (nomark _)))).pt) (pss_one (ps_ret (pe_bl))) (pss_nil)))))) (pss_cons (ps_for PassesOwn.leaving rfl (pi_seqK (K:=K) rfl (pe_ix (ix_K (K:=K) rfl) (pvL 0) (pe_int) (fun _ _=>rfl))) (pg_nameL (i:=9) sc_law_shown.nd) (pss_cons (ps_setL (i:=10) sc_law_shown.nd (pe_callG C_way pass_def (hr.mono (by decide)) (pa_c (pvL 1) (pa_c (pvL 2) (pa_c (pvL 9) (pa_c (pvL 3) (pa_c (pvL 4) (pa_nil)))))))) (pss_cons (ps_if (pt_cmpR (op_neK (K:=K) rfl hu) (pe_cmpR op_isX (pvL 10) (pe_non) (nomark _)) (pe_cmpR (op_notInK (K:=K) rfl hu1) (pe_tupX (pa_c (pvL 9) (pa_c (pe_str) (pa_nil)))) (pvL 5) (by kernel_rfl)) (nomark _)) (pss_one (ps_ret (pe_bl))) (pss_nil)) (pss_one (ps_if ((pw_and (pt_cmpR op_isnotX (pvL 10) (pe_non) (nomark _)) (pw_and1 (pt_cmpR (op_neK (K:=K) rfl hu) (pe_ix (ix_K (K:=K) rfl) (pvL 10) (pe_int) (fun _ _=>rfl)) (pe_dgetG hu1 (pvL 5) (pe_tupX (pa_c (pvL 9) (pa_c (pe_str) (pa_nil))))) (nomark _)))).pt) (pss_one (ps_ret (pe_bl))) (pss_nil)))))) (pss_one (ps_ret (pe_bl)))))),?_⟩
    have le2:2<=sizeLine:=Nat.le_of_lt (small_line (by decide))
    have N:NetM zs bs ls p g:=⟨hW.n12,hW.sub,hW.ln,hp,hg⟩
    refine seq_go fun nn hN=>?_
    and_intros
    refine ⟨a,_,p,g,zs,bs,ls,rfl,hW,hzn,⟨.str,rfl⟩,hp,hg,hTb,fun hb=>absurd rfl (hb z0 hz0),fun y hy e=>?_⟩
    cases e
    intro D R ws H1 hD s1 hperm hsrt hRl h1
    rw [hN]
    clear hN nn
    have hwn:=hperm.nodup_iff.mpr hzn
    have tl:∀ {u:Nk Str},u.1∈zs->tellP (ordP R ws) u=R u:=fun hu=>tell_ordP hwn (hperm.mem_iff.mpr hu)
    have hR0:R (z0,false)=some 0:=(hRl _ _).mpr (Least.self N.nn _)
    refine seq_go fun nn hN=>?_
    and_intros
    refine ⟨le2,fun b H2 hb s2 h2=>⟨D,V.int 0,rfl,?_,?_⟩⟩
    · have:=dgetC (v:=(z0,false)) (s2 _ _ h1) h2
      rwa [tl (u:=(z0,false)) hz0,hR0] at this
    and_intros
    rw [if_neg (by simp)]
    show nn _ _ _
    rw [hN]
    clear hN nn
    refine seq_go fun nn hN=>?_
    and_intros
    have s12:=s1.trans s2
    refine ⟨D,_,rfl,s2 _ _ h1,fun Dq xs H3 dr hk kp3 h3=>?_⟩
    have s03:Same H H3:=fun c o e=>kp3 c o (ne_of_none e hD) (s12 _ _ e)
    have hPl3:=hPl.same s03
    have hW3:=hW.same s03
    have hTb3:=s03 _ _ hTb
    have hkey:∀ (i:Nat) q,xs[i]?=some q->∃ e∈ordP R ws,H3 q.2.1=some (.tup (ndV e.1)):=fun i q hq=>by
      obtain ⟨kv,hkv,e1,_⟩:=paired_mem dr.2.2.1 q (List.mem_of_getElem? hq)
      obtain ⟨e,he,rfl⟩:=List.mem_map.mp hkv
      have h4:=hk q (List.mem_of_getElem? hq)
      refine ⟨e,he,kp3 _ _ (fun z=>?_) ?_⟩
      · rw [z,s2 _ _ h1] at h4;cases h4
      · rw [h4,← e1];rfl
    clear hk kp3 dr
    refine for_itfO (xs:=keysV xs) (fun i σ G=>Same H3 G/\∃ o6 o7 o8,σ=[some (V.ref Pp),some (V.ref a),some (V.str z0),some (V.int p),some (V.int g),some (V.ref D),o6,o7,o8,none,none]) ⟨Same.refl _,_,_,_,rfl⟩ (fun i σ G ⟨t,_⟩=>t _ _ h3) ?_ ?_
    · rintro i v σ G hi ⟨t,o6,o7,o8,rfl⟩ N1 hN1
      clear hN
      unfold keysV at hi
      rw [List.getElem?_map] at hi
      obtain ⟨q,hq,rfl⟩:=Option.map_eq_some_iff.mp hi
      obtain ⟨e,he,hq2⟩:=hkey i q hq
      obtain ⟨hez,heR⟩:=mem_ordP.mp (show (e.1,e.2)∈_ from he)
      have hez':=hperm.mem_iff.mp hez
      have hqb:=t _ _ hq2
      generalize q.2.1=qb at hqb
      and_intros
      refine ⟨Pp,qb,e.1,p,g,zs,bs,ls,rfl,hPl3.same t,hqb,hp,hg,fun D5 ws5 G1 hD5 t1 g1 st1=>?_⟩
      refine .inl ⟨⟨_,.of g1⟩,for_lstO (xs:=ws5) (fun i σ G'=>Same G1 G'/\∃ o7 o8,σ=[some (V.ref Pp),some (V.ref a),some (V.str z0),some (V.int p),some (V.int g),some (V.ref D),some (V.ref qb),o7,o8,none,none]) ⟨Same.refl _,_,_,rfl⟩ (fun i σ G _ ⟨t,_⟩=>.of (t _ _ g1)) ?_ ?_⟩
      · rintro j v σ G2 hj ⟨t2,o7,o8,rfl⟩ N2 hN2
        clear hN1
        obtain ⟨s,hs,t',b',rfl,hv1,hv2⟩:=st1.2 j v hj
        have hst:=List.mem_of_getElem? hs
        obtain ⟨d,hd1,hd2⟩:=PrF.get N (z:=z0) hRl (((hRl _ _).mp heR).1.snoc (show (s.1,s.2)∈_ from hst))
        have hg1:=dgetF (v:=s.1) (t2 _ _ (t1 _ _ (t _ _ h3))) (t2 _ _ hv2)
        rw [tl (mem_UL.mp (stN_in N.sub N.ln hst)),hd1] at hg1
        have hg2:=dgetF (v:=e.1) (t2 _ _ (t1 _ _ (t _ _ h3))) (t2 _ _ (t1 _ _ hqb))
        rw [tl hez',heR] at hg2
        refine ⟨t',_,rfl,SqT.of (t2 _ _ hv1),rfl,?_⟩
        and_intros
        refine .inr ⟨_,hg1,?_⟩
        bv_omega
        refine ⟨D,_,rfl,hg1,D,_,rfl,hg2,?_⟩
        and_intros
        rw [decide_eq_false (by omega)]
        bv_omega
        exact hN2 _ _ ⟨t2,_,_,rfl⟩
      · rintro σ G2 ⟨t2,o7,o8,rfl⟩
        exact hN1 _ _ ⟨t.trans (t1.trans t2),_,_,_,rfl⟩
    · rintro σ G ⟨t,o6,o7,o8,rfl⟩
      show nn _ _ _
      rw [hN]
      clear hN nn hkey
      obtain ⟨pn,pb,pl,lv,gl,hPp,hpn,_⟩:=(hPl3.same t).pl
      have hW4:=hW3.same t
      have hTb4:=t _ _ hTb3
      have h4:=t _ _ h3
      have s04:=s03.trans t
      refine seq_go fun nn hN=>?_
      and_intros
      refine ⟨_,_,.l hPp,atI_nat (j:=0) rfl,?_⟩
      and_intros
      refine .inl ⟨⟨_,.of hpn⟩,for_lstO (xs:=zs.map V.str) (fun i σ G'=>Same G G'/\∃ o9 o10,σ=[some (V.ref Pp),some (V.ref a),some (V.str z0),some (V.int p),some (V.int g),some (V.ref D),o6,o7,o8,o9,o10]) ⟨Same.refl _,_,_,rfl⟩ (fun i σ G _ ⟨t,_⟩=>.of (t _ _ hpn)) ?_ ?_⟩
      · rintro i v σ G1 hi ⟨t1,o9,o10,rfl⟩ N1 hN1
        clear hN
        obtain ⟨z1,hz1,rfl⟩:=List.mem_map.mp (List.mem_of_getElem? hi)
        refine seq_go fun n2 hM=>?_
        and_intros
        refine ⟨a,z0,z1,p,g,zs,bs,ls,rfl,hW4.same t1,hz0,hz1,hp,hg,t1 _ _ hTb4,fun hno G2 t2=>?_,fun d hw hmin Tw Lw G2 t2 hT=>?_⟩
        · rw [hM]
          clear hM n2
          have hRn:R (z1,false)=none:=by
            cases e:R (z1,false) with
            | none=>rfl
            | some d=>exact absurd ((hRl _ _).mp e).1 (hno d)
          refine seq_go fun n2 hM=>?_
          and_intros
          refine ⟨le2,fun b2 G3 hb2 t3 g3=>.inr ⟨_,dgetF (v:=(z1,false)) (t3 _ _ (t2 _ _ (t1 _ _ h4))) g3,?_⟩⟩
          rw [tl (u:=(z1,false)) hz1,hRn]
          and_intros
          rw [if_neg (by decide)]
          show n2 _ _ _
          rw [hM]
          clear hM n2
          and_intros
          exact hN1 _ _ ⟨t1.trans (t2.trans t3),_,_,rfl⟩
        · rw [hM]
          clear hM n2
          have hRd:R (z1,false)=some d:=(hRl _ _).mpr ⟨hw,hmin⟩
          refine seq_go fun n2 hM=>?_
          and_intros
          refine ⟨le2,fun b2 G3 hb2 t3 g3=>.inr ⟨_,dgetF (v:=(z1,false)) (t3 _ _ (t2 _ _ (t1 _ _ h4))) g3,?_⟩⟩
          rw [tl (u:=(z1,false)) hz1,hRd]
          and_intros
          rw [show (Option.map V.int (some d)).isSome=true from rfl,if_neg (by decide)]
          show n2 _ _ _
          rw [hM]
          clear hM n2
          and_intros
          refine ⟨_,_,.t (t3 _ _ hT),atI_nat (j:=1) rfl,le2,fun b3 G4 hb3 t4 g4=>?_⟩
          have hg4:=dgetF (v:=(z1,false)) ((t3.trans t4) _ _ (t2 _ _ (t1 _ _ h4))) g4
          rw [tl (u:=(z1,false)) hz1,hRd] at hg4
          refine ⟨D,_,rfl,hg4,?_⟩
          and_intros
          rw [if_neg (by simp)]
          exact hN1 _ _ ⟨t1.trans (t2.trans (t3.trans t4)),_,_,rfl⟩
      · rintro σ G1 ⟨t1,o9,o10,rfl⟩
        show nn _ _ _
        rw [hN]
        clear hN nn
        and_intros
        exact k G1 (s04.trans t1)
theorem lineL_is {zs:List Str}{xs:List V} (h:lineL zs xs=true):∃ a b c d,xs=[.str a,.str b,c,d]/\a∈zs/\b∈zs/\costV c=true/\costV d=true:=by
  unfold lineL at h
  split at h
  · rename_i a b c d
    simp only [Bool.and_eq_true,decide_eq_true_eq] at h
    obtain ⟨⟨⟨⟨h1,h2⟩,h3⟩,h4⟩,h5⟩:=h
    unfold unlL at h1
    simp only [Bool.and_eq_true,List.all_cons] at h1
    obtain ⟨⟨ha,hb,_⟩,_⟩:=h1
    cases a with
    | str a =>
      cases b with
      | str b=>exact ⟨a,b,c,d,rfl,h2,h3,h4,h5⟩
      | _=>cases hb
    | _=>cases ha
  · cases h
def LsAt (H:Hp) (zs:List Str) (lv:List V):Prop:=∀ v∈lv,∃ q o,v=.ref q/\H q=some o/\GLine zs o
theorem LsAt.glines {H:Hp}{zs:List Str}{lv:List V} (h:LsAt H zs lv):∃ gl:V->Ln Str,∀ v∈lv,LnAt H gl v/\LnOk (gl v)/\(gl v).a∈zs/\(gl v).b∈zs:=by
  have hch:∀ v:V,∃ l:Ln Str,v∈lv->∃ q,v=.ref q/\H q=some (.tup (lnV l))/\LnOk l/\l.a∈zs/\l.b∈zs:=fun v=>by
    by_cases hv:v∈lv
    · obtain ⟨q,o,e,h1,xs,rfl,h2⟩:=h v hv
      obtain ⟨a,b,c,d,rfl,ha,hb,hc,hd⟩:=lineL_is h2
      obtain ⟨oc,rfl,hoc⟩:=cost_o hc
      obtain ⟨od,rfl,hod⟩:=cost_o hd
      refine ⟨⟨a,b,oc,od⟩,fun _=>⟨q,e,h1,fun f x ex=>?_,ha,hb⟩⟩
      cases f
      · exact hoc x ex
      · exact hod x ex
    · exact ⟨⟨"","",none,none⟩,fun h=>absurd h hv⟩
  obtain ⟨gl,hgl⟩:=Classical.axiomOfChoice hch
  exact ⟨gl,fun v hv=>by obtain ⟨q,e,h1,h2,h3,h4⟩:=hgl v hv;exact ⟨⟨q,e,h1⟩,h2,h3,h4⟩⟩
def GlOk (H:Hp) (zs:List Str) (gl:V->Ln Str) (lv:List V):Prop:=∀ v∈lv,LnAt H gl v/\LnOk (gl v)/\(gl v).a∈zs/\(gl v).b∈zs
theorem GlOk.same {H H':Hp}{zs:List Str}{gl:V->Ln Str}{lv:List V} (h:GlOk H zs gl lv) (s:Same H H'):GlOk H' zs gl lv:=fun v hv=>by
  obtain ⟨⟨q,e,h1⟩,h2⟩:=h v hv
  exact ⟨⟨q,e,s _ _ h1⟩,h2⟩
theorem net_go {Ad:Ads}{H4 H5:Hp}{x dx p1 p2 p3:Addr}{zs bs:List Str}{lv:List V}{gl:V->Ln Str}{Q:VK}{E:XK} (hx:H4 x=none) (t5:Same H4 H5) (hi:H5 x=some (.ins Ad.Net dx [])) (okz:NamesOk zs) (hsb:bs.Sublist zs)
    (g1:H4 p1=some (.lst (zs.map V.str))) (g2:H4 p2=some (.lst (bs.map V.str))) (g3:H4 p3=some (.lst lv)) (l60:lv.length<=60) (hln:LsAt H4 zs lv) (hgl:GlOk H4 zs gl lv)
    (k:∀ G6,Same H4 G6->NetW Ad G6 x zs bs (lv.map gl)->Q .non G6):sp_Net_init Ad [.ref x,.ref p1,.ref p2,.ref p3] H5 Q E:=by
  have n12:=okz.n12
  have lb:=hsb.length_le
  have hgood:netL H5 (zs.map V.str) (bs.map V.str) lv=true:=by
    have u:∀ {ys:List Str},ys.Sublist zs->unlL (ys.map V.str)=true:=fun {ys} h=>by
      unfold unlL
      rw [map_strV,decide_eq_true (h.nodup okz.nd),Bool.and_true,List.all_eq_true]
      intro v hv
      obtain ⟨z,hz,rfl⟩:=List.mem_map.mp hv
      exact okz.lt z (h.subset hz)
    unfold netL
    rw [u (List.Sublist.refl _),u hsb,map_strV,List.length_map,decide_eq_true okz.n1,decide_eq_true n12,decide_eq_true l60]
    have a1:(bs.map V.str).all (fun x=>decide (strV x∈zs))=true:=by
      rw [List.all_eq_true]
      intro v hv
      obtain ⟨z,hz,rfl⟩:=List.mem_map.mp hv
      exact decide_eq_true (hsb.subset hz)
    have a2:lv.all (lineV H5 zs)=true:=by
      rw [List.all_eq_true]
      intro v hv
      obtain ⟨q,o,rfl,e1,e2⟩:=hln v hv
      exact (line_ask (t5 _ _ e1) e2).2
    rw [a1,a2];rfl
  refine ⟨x,dx,_,_,_,rfl,hi,.inr ⟨p1,_,rfl,t5 _ _ g1,by rw [List.length_map];omega,flatNames okz⟩,.inr ⟨p2,_,rfl,t5 _ _ g2,by rw [List.length_map];omega,fun v hv=>?_⟩,.inr ⟨p3,lv,rfl,t5 _ _ g3,by omega,fun v hv=>?_⟩,fun hb=>?_,?_⟩
  · obtain ⟨z,hz,rfl⟩:=List.mem_map.mp hv
    exact flatNames okz _ (List.mem_map.mpr ⟨z,hsb.subset hz,rfl⟩)
  · obtain ⟨q,o,rfl,e1,e2⟩:=hln v hv
    exact (line_ask (t5 _ _ e1) e2).1
  · have:=hb _ _ _ (lstV_of (t5 _ _ g1)) (lstV_of (t5 _ _ g2)) (lstV_of (t5 _ _ g3))
    rw [hgood] at this;cases this
  intro os bs' ls' e1 e2 e3 _ np nq nr G6 fp fq fr keep gx gp gq gr
  rw [lstV_of (t5 _ _ g1)] at e1;cases e1
  rw [lstV_of (t5 _ _ g2)] at e2;cases e2
  rw [lstV_of (t5 _ _ g3)] at e3;cases e3
  have t46:Same H4 G6:=fun c u e=>keep c u (ne_of_none e hx) (t5 _ _ e)
  refine k G6 t46 ⟨⟨lv,gl,⟨dx,np,nq,nr,gx,gp,gq,gr⟩,fun v hv=>((hgl.same t46) v hv).1,rfl⟩,by rw [List.length_map];exact l60,n12,fun z hz=>hsb.subset hz,fun l hl=>?_⟩
  obtain ⟨v,hv,rfl⟩:=List.mem_map.mp hl
  obtain ⟨_,h1,h2,h3⟩:=hgl v hv
  exact ⟨h2,h3,h1⟩
theorem pr_go {Ad:Ads}{G:Hp}{RR:VK}{E':XK}{x:Addr}{zs bs:List Str}{ls:List (Ln Str)}{p g:Int}{z0:Str} (hW:NetW Ad G x zs bs ls) (hzn:zs.Nodup) (hTb:G Ad.tb=some (tabO lamQ)) (hp:0<=p/\p<=10 ^ 19) (hg:0<=g/\g<=10 ^ 19) (hz0:z0∈zs)
    (hR:∀ D (R:Nk Str->Option Int) ws H',G D=none->Same G H'->ws.Perm zs->PyProof.Rows.sortedS ws=true->PrF bs ls p g z0 R->H' D=some (.dT ((ordP R ws).map kvC))->RR (.ref D) H'):sp_prices Ad [.ref x,.str z0,.int p,.int g] G RR E':=by
  refine ⟨x,_,p,g,zs,bs,ls,rfl,hW,hzn,⟨.str,rfl⟩,hp,hg,hTb,fun hb=>absurd rfl (hb z0 hz0),fun y hy e=>?_⟩
  cases e
  exact hR
def TabAt (H:Hp) (kvs:List (Key × V)) (zs bs:List Str) (ls:List (Ln Str)) (p g:Int) (T:Str->Addr × (Nk Str->Option Int) × List Str) (z:Str):Prop :=
  valV kvs (.inr z)=some (.ref (T z).1)/\H (T z).1=some (.dT ((ordP (T z).2.1 (T z).2.2).map kvC))/\(T z).2.2.Perm zs/\PyProof.Rows.sortedS (T z).2.2=true/\PrF bs ls p g z (T z).2.1
theorem TabAt.kp {H H':Hp}{kvs:List (Key × V)}{zs bs:List Str}{ls:List (Ln Str)}{p g:Int}{T:Str->Addr × (Nk Str->Option Int) × List Str}{z:Str} (h:TabAt H kvs zs bs ls p g T z) (s:∀ c kvs,H c=some (.dT kvs)->H' c=some (.dT kvs)):TabAt H' kvs zs bs ls p g T z:=⟨h.1,s _ _ h.2.1,h.2.2⟩
theorem tab_put {G G2:Hp}{kvs:List (Key × V)}{zs bs zi:List Str}{ls:List (Ln Str)}{p g:Int}{T:Str->Addr × (Nk Str->Option Int) × List Str}{z:Str}{d:Addr}{R:Nk Str->Option Int}{ws:List Str} (hT:∀ y∈zi,TabAt G kvs zs bs ls p g T y) (hinj:∀ y∈zi,∀ y'∈zi,(T y).1=(T y').1->y=y') (hz:z ∉ zi) (hd:G d=none)
    (keep:∀ c kv,G c=some (.dT kv)->G2 c=some (.dT kv)) (h1:G2 d=some (.dT ((ordP R ws).map kvC))) (hperm:ws.Perm zs) (hsrt:PyProof.Rows.sortedS ws=true) (hR:PrF bs ls p g z R) :
    ∃ T',(∀ y∈zi++[z],TabAt G2 (putK kvs (.inr z) (.ref d)) zs bs ls p g T' y)/\∀ y∈zi++[z],∀ y'∈zi++[z],(T' y).1=(T' y').1->y=y':=by
  obtain ⟨T',e1,e2⟩:∃ T':Str->Addr × (Nk Str->Option Int) × List Str,(∀ y∈zi,T' y=T y)/\T' z=(d,R,ws):=⟨fun y=>if y=z then (d,R,ws) else T y,fun y hy=>if_neg fun (e:y=z)=>hz (e ▸ hy),if_pos rfl⟩
  have nn:∀ y∈zi,(T y).1≠d:=fun y hy e=>by have:=(hT y hy).2.1;rw [e,hd] at this;cases this
  refine ⟨T',fun y hy=>?_,fun y hy y' hy' e=>?_⟩
  · unfold TabAt
    rcases List.mem_append.mp hy with hy | hy
    · obtain ⟨f1,f2,f3⟩:=hT y hy
      rw [e1 y hy,valV_put,if_neg fun (e:Sum.inr y=Sum.inr z)=>hz (Sum.inr.inj e ▸ hy)]
      exact ⟨f1,keep _ _ f2,f3⟩
    · obtain rfl:y=z:=by simpa using hy
      rw [e2,valV_put,if_pos rfl]
      exact ⟨rfl,h1,hperm,hsrt,hR⟩
  · rcases List.mem_append.mp hy with a | a <;> rcases List.mem_append.mp hy' with b | b
    · rw [e1 y a,e1 y' b] at e
      exact hinj y a y' b e
    · have b':y'=z:=by simpa using b
      rw [e1 y a,b',e2] at e
      exact absurd e (nn y a)
    · have a':y=z:=by simpa using a
      rw [e1 y' b,a',e2] at e
      exact absurd e.symm (nn y' b)
    · have a':y=z:=by simpa using a
      have b':y'=z:=by simpa using b
      rw [a',b']
def KpN (H H':Hp):Prop:=∀ c o,H c=some o->(∀ kvs,o≠.dT kvs)->H' c=some o
theorem KpN.tr {H H' H'':Hp} (h:KpN H H') (s:Same H' H''):KpN H H'':=fun c o e n=>s _ _ (h c o e n)
theorem KpN.net {Ad:Ads}{H H':Hp}{x:Addr}{zs bs:List Str}{ls:List (Ln Str)} (h:NetW Ad H x zs bs ls) (s:KpN H H'):NetW Ad H' x zs bs ls:=by
  obtain ⟨⟨vs,gl,⟨dx,p,q,r,h1,h2,h3,h4⟩,h5,h6⟩,a,b,c,d⟩:=h
  refine ⟨⟨vs,gl,⟨dx,p,q,r,s _ _ h1 (fun _ z=>by cases z),s _ _ h2 (fun _ z=>by cases z),s _ _ h3 (fun _ z=>by cases z),s _ _ h4 (fun _ z=>by cases z)⟩,fun v hv=>?_,h6⟩,a,b,c,d⟩
  obtain ⟨q,e,hq⟩:=h5 v hv
  exact ⟨q,e,s _ _ hq (fun _ z=>by cases z)⟩
def sp_law (K:PySem.W.Frag) (tb:Addr):Sp:=fun vs H Q _=>∃ (a:Addr) (ns:List Int),vs=[.ref a]/\SqL K H a (ns.map V.int)/\ns.length<=63/\H tb=some (tabO lamQ)/\∀ H',Q (.bl true) H'
theorem sc_law:FnScope ["_law_script","_law_plan_here","_law_names_here","_law_booked","_law_lines","_law_net","_law_p","_law_g","_law_all_prices","_law_first","_law_more","_law_wider","_law_narrower","_law_plainer","_law_times","_law_found"] ["_law_script"] (defScope s_law):=⟨rfl,rfl,rfl,by decide +kernel,rfl,by decide +kernel,by decide +kernel⟩
theorem ok_law {f:Addr}{fd:FuncData} (F:Fun K "law" "law" s_law f fd) (T:Bl mg) (AF:AdF K mg Ad) (C_prices:Fnc P w K mg base (CX1 P w) 4 "prices" ["net","first","p","g"] (sp_prices Ad)) (C_law_no_more:Fnc P w K mg base (CX1 P w) 1 "_law_no_more" ["_law_found","_law_others"] sp_law_no_more) (C_law_mixed:Fnc P w K mg base (CX1 P w) 2 "_law_mixed" ["_law_cell","_law_k"] sp_law_mixed) (C_law_cell_at:Fnc P w K mg base (CX1 P w) 1 "_law_cell_at" ["_law_script","_law_k"] (sp_law_cell_at K)) (C_law_line:Fnc P w K mg base (CX1 P w) 4 "_law_line" ["_law_cell","_law_names_here"] sp_law_line) (C_law_lengths:Fnc P w K mg base (CX1 P w) 2 "_law_lengths" ["_law_all_prices","_law_names_here"] sp_law_lengths) (C_law_shown:Fnc P w K mg base (CX1 P w) 5 "_law_shown" ["_law_plan_here","_law_net","_law_first","_law_p","_law_g"] (sp_law_shown Ad)) (C_law_amounts:Fnc P w K mg base (CX1 P w) 3 "_law_amounts" ["_law_script"] (sp_law_amounts K)) (C_law_plan:Fnc P w K mg base (CX1 P w) 5 "_law_plan" ["_law_script"] (sp_law_plan K)) (K_Net:Mak P w K mg base (CX1 P w) Ad.Net "Net" 5 ["self","offices","with_book","lines"] (sp_Net_init Ad)):FnOk P w K mg base (CX1 P w) 7 f fd ["_law_script"] (sp_law K Ad.tb):=by
  refine F.okX (k:=6) sc_law (fun vs H Q E h=>?_) (fun cdv A outer s H vs Q E hr h=>?_)
  · obtain ⟨a,ns,rfl,_⟩:=h
    rfl
  · obtain ⟨a,ns,rfl,hS,hl,hTb,k⟩:=h
    have hu:=hr.units0
    have hu1:=hu_of hr
    have hu9:=hr.hu9
    refine ⟨_,pss_cons (ps_setL (i:=1) sc_law.nd (pe_callG C_law_plan pass_def (hr.mono (by decide)) (pa_c (pvL 0) (pa_nil)))) (pss_cons (ps_asg (pvL 1) (pg_unpK (K:=K) (n:=3) rfl rfl (pgs_cons (pg_nameL (i:=2) sc_law.nd) (pgs_cons (pg_nameL (i:=3) sc_law.nd) (pgs_cons (pg_nameL (i:=4) sc_law.nd) (pgs_nil)))))) (pss_cons (ps_setL (i:=5) sc_law.nd (pe_makeX K_Net pass_def (hr.mono (by decide)) (pa_c (pe_callTyG (call_listK (K:=K) rfl rfl) T.list bt_list (pa_c (pvL 2) (pa_nil))) (pa_c (pe_callTyG (call_listK (K:=K) rfl rfl) T.list bt_list (pa_c (pvL 3) (pa_nil))) (pa_c (pe_callTyG (call_listK (K:=K) rfl rfl) T.list bt_list (pa_c (pvL 4) (pa_nil))) (pa_nil)))))) (pss_cons (ps_asg (pe_callG C_law_amounts pass_def (hr.mono (by decide)) (pa_c (pvL 0) (pa_nil))) (pg_unpK (K:=K) (n:=2) rfl rfl (pgs_cons (pg_nameL (i:=6) sc_law.nd) (pgs_cons (pg_nameL (i:=7) sc_law.nd) (pgs_nil))))) (pss_cons (ps_setL (i:=8) sc_law.nd (pe_dnewX)) (pss_cons (ps_for PassesOwn.leaving rfl (pi_seqK (K:=K) rfl (pvL 2)) (pg_nameL (i:=9) sc_law.nd) (pss_cons (ps_dputG hu1 (pvL 8) (pvL 9) (pe_callG C_prices pass_def (hr.mono (by decide)) (pa_c (pvL 5) (pa_c (pvL 9) (pa_c (pvL 6) (pa_c (pvL 7) (pa_nil))))))) (pss_one (ps_if ((pw_and (pt_cmpR (op_inK (K:=K) rfl hu1) (pvL 9) (pe_slice (sl_YK (K:=K) rfl) (pvL 2) (po_none) (po_some (pe_int))) (by kernel_rfl)) (pw_and1 (pt_not (pt_val (pe_callG C_law_shown pass_def (hr.mono (by decide)) (pa_c (pvL 1) (pa_c (pvL 5) (pa_c (pvL 9) (pa_c (pvL 6) (pa_c (pvL 7) (pa_nil))))))))))).pt) (pss_one (ps_ret (pe_bl))) (pss_nil))))) (pss_cons (ps_if (pt_not (pt_val (pe_callG C_law_lengths pass_def (hr.mono (by decide)) (pa_c (pvL 8) (pa_c (pvL 2) (pa_nil)))))) (pss_one (ps_ret (pe_bl))) (pss_nil)) (pss_cons (ps_setL (i:=10) sc_law.nd (pe_callTyG (call_listK (K:=K) rfl rfl) T.list bt_list (pa_c (pvL 4) (pa_nil)))) (pss_cons (ps_if (pt_cmpR op_gtX (pe_callBG (call_lenK (K:=K) rfl) T.len bt_len (pa_c (pvL 2) (pa_nil))) (pe_int) (nomark _)) (pss_one (ps_setL (i:=10) sc_law.nd (pe_op op_addX (pe_slice (sl_YK (K:=K) rfl) (pvL 4) (po_none) (po_some (pe_int))) (pe_lstX (pa_c (pe_callG C_law_line pass_def (hr.mono (by decide)) (pa_c (pe_callG C_law_cell_at pass_def (hr.mono (by decide)) (pa_c (pvL 0) (pa_c (pe_int) (pa_nil)))) (pa_c (pvL 2) (pa_nil)))) (pa_nil)))))) (pss_nil)) (pss_cons (ps_setL (i:=11) sc_law.nd (pe_makeX K_Net pass_def (hr.mono (by decide)) (pa_c (pe_callTyG (call_listK (K:=K) rfl rfl) T.list bt_list (pa_c (pvL 2) (pa_nil))) (pa_c (pe_callTyG (call_listK (K:=K) rfl rfl) T.list bt_list (pa_c (pvL 3) (pa_nil))) (pa_c (pvL 10) (pa_nil)))))) (pss_cons (ps_setL (i:=12) sc_law.nd (pe_makeX K_Net pass_def (hr.mono (by decide)) (pa_c (pe_callTyG (call_listK (K:=K) rfl rfl) T.list bt_list (pa_c (pvL 2) (pa_nil))) (pa_c (pe_callTyG (call_listK (K:=K) rfl rfl) T.list bt_list (pa_c (pvL 3) (pa_nil))) (pa_c (pe_slice (sl_YK (K:=K) rfl) (pvL 4) (po_none) (po_some (pe_int))) (pa_nil)))))) (pss_cons (ps_setL (i:=13) sc_law.nd (pe_makeX K_Net pass_def (hr.mono (by decide)) (pa_c (pe_callTyG (call_listK (K:=K) rfl rfl) T.list bt_list (pa_c (pvL 2) (pa_nil))) (pa_c (pe_lstX (pa_nil)) (pa_c (pe_callTyG (call_listK (K:=K) rfl rfl) T.list bt_list (pa_c (pvL 4) (pa_nil))) (pa_nil)))))) (pss_cons (ps_setC (i:=14) sc_law.nd (pe_op op_addX (pe_int) (pe_op op_modX (pe_callG C_law_mixed pass_def (hr.mono (by decide)) (pa_c (pe_callG C_law_cell_at pass_def (hr.mono (by decide)) (pa_c (pvL 0) (pa_c (pe_int) (pa_nil)))) (pa_c (pe_int) (pa_nil)))) (pe_int)))) (pss_cons (ps_for PassesOwn.leaving rfl (pi_seqK (K:=K) rfl (pe_slice (sl_YK (K:=K) rfl) (pvL 2) (po_none) (po_some (pe_int)))) (pg_nameL (i:=9) sc_law.nd) (pss_cons (ps_if (pt_not (pt_val (pe_callG C_law_no_more pass_def (hr.mono (by decide)) (pa_c (pe_callG C_prices pass_def (hr.mono (by decide)) (pa_c (pvL 11) (pa_c (pvL 9) (pa_c (pvL 6) (pa_c (pvL 7) (pa_nil)))))) (pa_c (pe_callG C_prices pass_def (hr.mono (by decide)) (pa_c (pvL 12) (pa_c (pvL 9) (pa_c (pvL 6) (pa_c (pvL 7) (pa_nil)))))) (pa_nil)))))) (pss_one (ps_ret (pe_bl))) (pss_nil)) (pss_cons (ps_if (pt_not (pt_val (pe_callG C_law_no_more pass_def (hr.mono (by decide)) (pa_c (pe_dgetG hu1 (pvL 8) (pvL 9)) (pa_c (pe_callG C_prices pass_def (hr.mono (by decide)) (pa_c (pvL 13) (pa_c (pvL 9) (pa_c (pvL 6) (pa_c (pvL 7) (pa_nil)))))) (pa_nil)))))) (pss_one (ps_ret (pe_bl))) (pss_nil)) (pss_cons (ps_setL (i:=15) sc_law.nd (pe_callG C_prices pass_def (hr.mono (by decide)) (pa_c (pvL 5) (pa_c (pvL 9) (pa_c (pe_op op_mulX (pvC 14) (pvL 6)) (pa_c (pe_op op_mulX (pvC 14) (pvL 7)) (pa_nil))))))) (pss_one (ps_if (pt_cmpR (op_neT hu1) (pvL 15) (pe_callTyG (call_dictP (K:=K) rfl hu9 rfl) T.dict bt_dict (pa_c (pe_lc ["_law_here","_law_cost_here"] rfl ⟨rfl,by decide +kernel,rfl,by decide +kernel⟩ (.cons (j:=14) rfl (.inl (by kernel_rfl)) (.nil)) (by decide +kernel) (pi_viewT (pe_bm0G (K:=K) rfl PySem.F.plainAttrs_dict PySem.F.slot_dict_items PySem.F.type_dict_items mt_itemsT (pe_dgetG hu1 (pvL 8) (pvL 9)))) (fun _ _ _ _=>pg_tupK (K:=K) (n:=2) rfl rfl (pgs_cons (pg_nameL (i:=0) (show (["_law_here","_law_cost_here","_law_times"]:List Str).Nodup from by decide +kernel)) (pgs_cons (pg_nameL (i:=1) (show (["_law_here","_law_cost_here","_law_times"]:List Str).Nodup from by decide +kernel)) (pgs_nil)))) (fun _ _ _ _=>pif_nil) (fun _ _ _ _=>pe_tupX (pa_c (pvL 0) (pa_c (pe_op op_mulX (pvC 2) (pvL 1)) (pa_nil))))) (pa_nil))) (nomark _)) (pss_one (ps_ret (pe_bl))) (pss_nil))))))) (pss_one (ps_ret (pe_bl)))))))))))))))),?_⟩
    have big:∀ {u:Nat},u<=1000->u<=sizeLine:=fun hu=>Nat.le_of_lt (small_line (by omega))
    refine seq_go fun nn hN=>?_
    and_intros
    refine ⟨a,ns,rfl,hS,fun P pn pb pl zs bs lv H1 s1 hP=>?_⟩
    rw [hN]
    clear hN nn
    refine seq_go fun nn hN=>?_
    and_intros
    refine ⟨_,.l hP.p,rfl,?_⟩
    and_intros
    rw [hN]
    clear hN nn
    refine seq_go fun nn hN=>?_
    and_intros
    refine ⟨_,.inl (.l hP.n),fun p1 G1 w1 t1 g1=>⟨_,.inl (.l (t1 _ _ hP.b)),fun p2 G2 w2 t2 g2=>⟨_,.inl (.l ((t1.trans t2) _ _ hP.l)),fun p3 G4 w3 t3 g3=>?_⟩⟩⟩
    and_intros
    intro x dx G5 hx hdx hne t5 hi ho
    have s14:Same H1 G4:=t1.trans (t2.trans t3)
    have okz:=hP.ok
    obtain ⟨gl,hgl⟩:=LsAt.glines hP.ln
    refine net_go hx t5 hi okz hP.sb ((t2.trans t3) _ _ g1) (t3 _ _ g2) g3 hP.l60 ((hP.same s14).ln) (GlOk.same hgl s14) fun G6 t6 hNW=>⟨rfl,?_⟩
    rw [hN]
    clear hN nn
    have s16:Same H1 G6:=s14.trans t6
    have sH6:=s1.trans s16
    have hPW:PlanW G6 P zs bs (lv.map gl):=⟨⟨pn,pb,pl,lv,gl,s16 _ _ hP.p,s16 _ _ hP.n,s16 _ _ hP.b,s16 _ _ hP.l,fun v hv=>(GlOk.same hgl s16 v hv).1,rfl⟩,hNW.l60,okz.n12,hNW.sub,Nat.le_trans hP.sb.length_le okz.n12,hNW.ln⟩
    have hP6:=hP.same s16
    have hgl6:=GlOk.same hgl s16
    have hlv:(lv.map gl).length<=60:=hNW.l60
    clear hi ho hne hdx t5 hx g1 g2 g3 w1 w2 w3 t1 t2 t3 s14 t6 hgl hP s16
    refine seq_go fun nn hN=>?_
    and_intros
    refine ⟨a,ns,rfl,sH6.seq hS,fun pa p g H7 s7 h7 hp hg=>?_⟩
    and_intros
    refine ⟨_,.l h7,rfl,?_⟩
    and_intros
    rw [hN]
    clear hN nn
    refine seq_go fun nn hN=>?_
    and_intros
    intro D H8 hD s8 h8
    rw [hN]
    clear hN nn
    have hNW7:=hNW.same s7
    have hPW7:=hPW.same s7
    have hP7:=hP6.same s7
    have hgl7:=hgl6.same s7
    have s07:=sH6.trans s7
    have hTb7:=s07 _ _ hTb
    have hn7:=hP7.n
    have hzn:=okz.nd
    have z12:=okz.n12
    have hp':0<=p/\p<=10 ^ 19:=by omega
    have hg':0<=g/\g<=10 ^ 19:=by omega
    clear hNW hPW hP6 hgl6 h7
    generalize hls:lv.map gl=ls at hNW7 hPW7
    have NM:NetM zs bs ls p g:=⟨z12,hNW7.sub,hNW7.ln,hp',hg'⟩
    refine seq_go fun nn hN=>?_
    and_intros
    refine .inl ⟨⟨_,.of (s8 _ _ hn7)⟩,for_lstO (xs:=zs.map V.str) (fun i σ G=>(∃ o9,σ=[some (V.ref a),some (V.ref P),some (V.ref pn),some (V.ref pb),some (V.ref pl),some (V.ref x),some (V.int p),some (V.int g),some (V.ref D),o9,none,none,none,none,none,none])/\Same H7 G/\∃ kvs T,G D=some (.dK kvs)/\kvs.length<=i/\(∀ z∈zs.take i,TabAt G kvs zs bs ls p g T z)/\∀ z∈zs.take i,∀ y∈zs.take i,(T z).1=(T y).1->z=y) ?_ ?_ ?_ ?_⟩
    · exact ⟨⟨_,rfl⟩,s8,[],fun _=>(0,fun _=>none,[]),h8,Nat.le_refl _,(fun z hz=>by simp at hz),fun z hz=>by simp at hz⟩
    · rintro i σ G _ ⟨_,t,_⟩
      exact .of (t _ _ hn7)
    · rintro i v σ G hi ⟨⟨o9,rfl⟩,t,kvs,T,hGD,hlk,hT,hinj⟩ N hNx
      clear hN
      rw [List.getElem?_map] at hi
      obtain ⟨z,hz,rfl⟩:=Option.map_eq_some_iff.mp hi
      have hz0:=List.mem_of_getElem? hz
      have hil:=(List.getElem?_eq_some_iff.mp hz).1
      have hzni:z ∉ zs.take i:=fun hm=>by
        have e2:=(List.getElem?_eq_some_iff.mp hz).2
        have:=hzn
        rw [← List.take_append_drop i zs,List.nodup_append] at this
        exact this.2.2 z hm z (by rw [List.drop_eq_getElem_cons hil,e2];exact List.mem_cons_self) rfl
      have htk:zs.take (i + 1)=zs.take i++[z]:=by rw [List.take_add_one,hz];rfl
      rw [htk] at hNx
      refine seq_go fun n2 hM=>?_
      and_intros
      refine pr_go (hNW7.same t) hzn (t _ _ hTb7) hp' hg' hz0 fun d R ws G1 hd t1 hperm hsrt hR h1=>⟨D,_,rfl,DPut.k (k:=.inr z) (t1 _ _ hGD) (small_line (by omega)),?_⟩
      rw [hM]
      clear hM n2
      have nd:d≠D:=(ne_of_none hGD hd).symm
      have kp2:∀ c o,c≠D->G1 c=some o->upd G1 D (.dK (putK kvs (.inr z) (.ref d))) c=some o:=fun c o hc e=>by rw [upd_ne hc];exact e
      have hD2:upd G1 D (.dK (putK kvs (.inr z) (.ref d))) D=some (.dK (putK kvs (.inr z) (.ref d))):=upd_same
      generalize upd G1 D (.dK (putK kvs (.inr z) (.ref d)))=G2 at kp2 hD2
      have t2:Same H7 G2:=fun c o e=>kp2 c o (ne_of_none e hD) (t1 _ _ (t _ _ e))
      obtain ⟨T',hT',hinj'⟩:=tab_put hT hinj hzni hd (fun c kv e=>kp2 _ _ (fun z=>by rw [z,hGD] at e;cases e) (t1 _ _ e)) (kp2 _ _ nd h1) hperm hsrt hR
      have hlk':(putK kvs (.inr z) (.ref d)).length<=i + 1:=by have:=length_putK kvs (.inr z) (.ref d);omega
      generalize putK kvs (.inr z) (.ref d)=kvs' at hD2 hT' hlk'
      and_intros
      refine ⟨_,.of (t2 _ _ hn7),fun p6 G3 hp6 t3 g3=>?_⟩
      have hfl:(cutV (zs.map V.str) none (some 2)).all flatV=true:=List.all_eq_true.mpr fun v hv=>by
        obtain ⟨z,hz,rfl⟩:=List.mem_map.mp (cutV_mem hv)
        rfl
      refine .inl ⟨_,.l g3,rfl,hfl,?_⟩
      have t23:=t2.trans t3
      cases inV (V.str z) (cutV (zs.map V.str) none (some 2)) with
      | false =>
        bv_omega
        exact hNx _ _ ⟨⟨_,rfl⟩,t23,kvs',T',t3 _ _ hD2,hlk',fun y hy=>(hT' y hy).kp fun c kv e=>t3 _ _ e,hinj'⟩
      | true =>
        bv_omega
        refine ⟨P,x,z,p,g,zs,bs,ls,rfl,hPW7.same t23,hNW7.same t23,hzn,hz0,hp',hg',t23 _ _ hTb7,fun G4 t4=>?_⟩
        and_intros
        exact hNx _ _ ⟨⟨_,rfl⟩,t23.trans t4,kvs',T',t4 _ _ (t3 _ _ hD2),hlk',fun y hy=>(hT' y hy).kp fun c kv e=>t4 _ _ (t3 _ _ e),hinj'⟩
    · rintro σ G ⟨⟨o9,rfl⟩,t,kvs,T,hGD,hlk,hT,hinj⟩
      show nn _ _ _
      rw [hN]
      clear hN nn
      rw [List.length_map,List.take_of_length_le (Nat.le_refl _)] at hT hinj
      have hwn:∀ z∈zs,(T z).2.2.Nodup:=fun z hz=>(hT _ hz).2.2.1.nodup_iff.mpr hzn
      have hto:∀ z∈zs,∀ u:Nk Str,u.1∈zs->tellP (ordP (T z).2.1 (T z).2.2) u=(T z).2.1 u:=fun z hz u hu=>tell_ordP (hwn z hz) ((hT _ hz).2.2.1.mem_iff.mpr hu)
      refine seq_go fun nn hN=>?_
      and_intros
      refine ⟨D,pn,zs,kvs,fun z y=>((T z).2.1 (y,false)).getD (10 ^ 40),rfl,t _ _ hn7,z12,hGD,fun z hz=>⟨(T z).1,_,(hT z hz).1,(hT z hz).2.1,fun y hy=>by rw [hto z hz (y,false) hy]⟩,fun z hz y hy=>congrArg (fun o=>Option.getD o (10 ^ 40)) (PrF.symm (hT z hz).2.2.2.2 (hT y hy).2.2.2.2),fun z hz y hy m hm=>PrF.tri NM (hT z hz).2.2.2.2 (hT m hm).2.2.2.2,fun G1 t1=>?_⟩
      and_intros
      show nn _ _ _
      rw [hN]
      clear hN nn
      have t71:=t.trans t1
      have hD1:=t1 _ _ hGD
      have hT1:∀ z∈zs,TabAt G1 kvs zs bs ls p g T z:=fun z hz=>(hT z hz).kp fun c kv e=>t1 _ _ e
      clear hT t hGD t1 hwn
      generalize G1=G at t71 hD1 hT1
      refine seq_go fun nn hN=>?_
      and_intros
      refine ⟨_,.inl (.l (t71 _ _ hP7.l)),fun pm G1 hpm t1 hm1=>?_⟩
      rw [hN]
      clear hN nn
      refine cut_seq (fun σ H'=>∃ pm mv,σ=[some (V.ref a),some (V.ref P),some (V.ref pn),some (V.ref pb),some (V.ref pl),some (V.ref x),some (V.int p),some (V.int g),some (V.ref D),o9,some (V.ref pm),none,none,none,none,none]/\Same G H'/\H' pm=some (.lst mv)/\mv.length<=60/\LsAt H' zs mv/\∀ v∈lv.take 59,v∈mv) ?_ ?_
      · rintro σ H9 ⟨pm,mv,rfl,t9,hm9,l60,hls9,hsub⟩
        have hsH9:=(s07.trans (t71.trans t9)).seq hS
        have t79:=t71.trans t9
        have hP9:=hP7.same t79
        have hD9:=t9 _ _ hD1
        have hT9:∀ z∈zs,TabAt H9 kvs zs bs ls p g T z:=fun z hz=>(hT1 z hz).kp fun c kv e=>t9 _ _ e
        have hNW9:=hNW7.same t79
        have hTb9:=t79 _ _ hTb7
        have hgl9:=hgl7.same t79
        obtain ⟨gm,hgm⟩:=LsAt.glines hls9
        clear hT1 hD1 hP7 hNW7 hTb7 hn7 hPW7 hgl7 hm1 t1 hpm t9 t79 t71 s07 h8 s8 hD
        refine seq_go fun nn hN=>?_
        and_intros
        refine ⟨_,.inl (.l hP9.n),fun q1 F1 w1 u1 f1=>⟨_,.inl (.l (u1 _ _ hP9.b)),fun q2 F2 w2 u2 f2=>?_⟩⟩
        and_intros
        intro x1 dx1 F3 hx1 _ _ u3 hi1 _
        have u12:=u1.trans u2
        refine net_go hx1 u3 hi1 okz hP9.sb (u2 _ _ f1) f2 (u12 _ _ hm9) l60 (fun v hv=>by obtain ⟨q,o,e,h1,h2⟩:=hls9 v hv;exact ⟨q,o,e,u12 _ _ h1,h2⟩) (GlOk.same hgm u12) fun G6 u6 hW1=>⟨rfl,?_⟩
        have v6:=u12.trans u6
        clear u3 hi1 hx1 f1 f2 w1 w2 u1 u2 u12 u6
        rw [hN]
        clear hN nn
        refine seq_go fun nn hN=>?_
        and_intros
        refine ⟨_,.inl (.l (v6 _ _ hP9.n)),fun q1 F1 w1 u1 f1=>⟨_,.inl (.l (u1 _ _ (v6 _ _ hP9.b))),fun q2 F2 w2 u2 f2=>⟨_,.of ((u1.trans u2) _ _ (v6 _ _ hP9.l)),fun q3 F3 w3 u3 f3=>?_⟩⟩⟩
        and_intros
        intro x2 dx2 F4 hx2 _ _ u4 hi2 _
        have u13:=v6.trans (u1.trans (u2.trans u3))
        rw [show cutV lv none (some 59)=lv.take 59 from cutV_take lv 59] at f3
        have htl:∀ v∈lv.take 59,v∈lv:=fun v hv=>List.mem_of_mem_take hv
        refine net_go hx2 u4 hi2 okz hP9.sb ((u2.trans u3) _ _ f1) (u3 _ _ f2) f3 (by rw [List.length_take];omega) (fun v hv=>(hP9.same u13).ln v (htl v hv)) (fun v hv=>GlOk.same hgm u13 v (hsub v hv)) fun G7 u7 hW2=>⟨rfl,?_⟩
        have v7:=u13.trans u7
        have v67:Same G6 G7:=(u1.trans (u2.trans u3)).trans u7
        clear u4 hi2 hx2 f1 f2 f3 w1 w2 w3 u1 u2 u3 u7 u13
        rw [hN]
        clear hN nn
        refine seq_go fun nn hN=>?_
        and_intros
        refine ⟨_,.inl (.l (v7 _ _ hP9.n)),fun q1 F1 w1 u1 f1=>⟨Nat.zero_le _,fun q2 F2 w2 u2 f2=>⟨_,.inl (.l ((u1.trans u2) _ _ (v7 _ _ hP9.l))),fun q3 F3 w3 u3 f3=>?_⟩⟩⟩
        and_intros
        intro x3 dx3 F4 hx3 _ _ u4 hi3 _
        have u13:=v7.trans (u1.trans (u2.trans u3))
        refine net_go (bs:=[]) hx3 u4 hi3 okz (List.nil_sublist _) ((u2.trans u3) _ _ f1) (u3 _ _ f2) f3 hP9.l60 (hP9.same u13).ln (GlOk.same hgl9 u13) fun G8 u8 hW3=>⟨rfl,?_⟩
        have v8:=u13.trans u8
        have v78:Same G7 G8:=(u1.trans (u2.trans u3)).trans u8
        clear u4 hi3 hx3 f1 f2 f3 w1 w2 w3 u1 u2 u3 u8 u13
        rw [hls] at hW3
        rw [hN]
        clear hN nn
        refine seq_go fun nn hN=>?_
        and_intros
        refine ⟨a,ns,1,rfl,v8.seq hsH9,by decide,_,38,rfl,by decide,?_⟩
        and_intros
        refine ⟨by decide,?_⟩
        rw [hN]
        clear hN nn
        have htm:2<=2 + lgOf (ns.getD (1:Int).toNat 0) 38 % 2147483629 % 5/\2 + lgOf (ns.getD (1:Int).toNat 0) 38 % 2147483629 % 5<=6:=by omega
        generalize 2 + lgOf (ns.getD (1:Int).toNat 0) 38 % 2147483629 % 5=tm at htm
        have hD8:=v8 _ _ hD9
        have hT8:∀ z∈zs,TabAt G8 kvs zs bs ls p g T z:=fun z hz=>(hT9 z hz).kp fun c kv e=>v8 _ _ e
        have hN8:=hNW9.same v8
        have hW1':=hW1.same (v67.trans v78)
        have hW2':=hW2.same v78
        have hTb8:=v8 _ _ hTb9
        have hn8:=(hP9.same v8).n
        clear hT9 hNW9 hW1 hW2 hTb9 hP9 v8 v78 v67 v7 v6 hgl9 hsH9 hD9
        refine seq_go fun nn hN=>?_
        and_intros
        refine ⟨_,.of hn8,fun q6 G9 hq6 u9 f9=>?_⟩
        have ecut:cutV (zs.map V.str) none (some 2)=(zs.take 2).map V.str:=by rw [show cutV (zs.map V.str) none (some 2)=(zs.map V.str).take 2 from cutV_take _ 2,List.map_take]
        rw [ecut] at f9
        refine .inl ⟨⟨_,.of f9⟩,for_lstO (xs:=(zs.take 2).map V.str) (fun i σ G=>(∃ o9 o15,σ=[some (V.ref a),some (V.ref P),some (V.ref pn),some (V.ref pb),some (V.ref pl),some (V.ref x),some (V.int p),some (V.int g),some (V.ref D),o9,some (V.ref pm),some (V.ref x1),some (V.ref x2),some (V.ref x3),some (V.int tm),o15])/\KpN G9 G/\∀ j z,i<=j->zs[j]?=some z->G (T z).1=some (.dT ((ordP (T z).2.1 (T z).2.2).map kvC))) ?_ ?_ ?_ ?_⟩
        · exact ⟨⟨_,_,rfl⟩,(fun c o e _=>e),fun j z _ hz=>u9 _ _ (hT8 z (List.mem_of_getElem? hz)).2.1⟩
        · rintro i σ G _ ⟨_,t,_⟩
          exact .of (t _ _ f9 (fun _ z=>by cases z))
        · rintro i v σ G hi ⟨⟨o9,o15,rfl⟩,t,hTi⟩ N hNx
          clear hN
          rw [List.getElem?_map] at hi
          obtain ⟨z,hz',rfl⟩:=Option.map_eq_some_iff.mp hi
          have hz:zs[i]?=some z:=by
            have:=(List.getElem?_eq_some_iff.mp hz').1
            rw [List.length_take] at this
            rw [List.getElem?_take,if_pos (by omega)] at hz'
            exact hz'
          have hz0:=List.mem_of_getElem? hz
          have tn:KpN G8 G:=fun c o e n=>t _ _ (u9 _ _ e) n
          have hd0:=hTi i z (Nat.le_refl _) hz
          have hTz:=hT8 z hz0
          refine seq_go fun n2 hM=>?_
          and_intros
          refine pr_go (KpN.net hW1' tn) hzn (tn _ _ hTb8 (fun _ z=>by cases z)) hp' hg' hz0 fun d1 R1 ws1 G1 hd1 t1 hperm1 hsrt1 hR1 h1=>?_
          have tn1:=tn.tr t1
          refine pr_go (KpN.net hW2' tn1) hzn (tn1 _ _ hTb8 (fun _ z=>by cases z)) hp' hg' hz0 fun d2 R2 ws2 G2 hd2 t2 hperm2 hsrt2 hR2 h2=>?_
          refine ⟨d1,d2,_,_,rfl,ne_of_none h1 hd2,t2 _ _ h1,h2,fun q hq=>?_,fun G3 kp3=>?_⟩
          · have hq':=mem_ordP.mp (show (q.1,q.2)∈_ from hq)
            rw [tell_ordP (hperm1.nodup_iff.mpr hzn) (hperm1.mem_iff.mpr (hperm2.mem_iff.mp hq'.1))]
            exact PrF.more ⟨z12,hW1'.sub,hW1'.ln,hp',hg'⟩ (fun _ h=>h) (fun l hl=>by
              obtain ⟨v,hv,rfl⟩:=List.mem_map.mp hl
              exact List.mem_map.mpr ⟨v,hsub v hv,rfl⟩) hR1 hR2 hq'.2
          have t3:Same G G3:=fun c o e=>kp3 c o (fun z=>by rw [z] at e;have:=t1 _ _ e;rw [hd2] at this;cases this) (t2 _ _ (t1 _ _ e))
          and_intros
          show n2 _ _ _
          rw [hM]
          clear hM n2 kp3 h2 h1 hd1 hd2 t1 t2 hR1 hR2 hsrt1 hsrt2 hperm1 hperm2 tn1
          have tn3:=tn.tr t3
          have hd3:=t3 _ _ hd0
          refine seq_go fun n2 hM=>?_
          and_intros
          refine ⟨D,V.ref (T z).1,rfl,(by rw [← hTz.1];exact DGet.k (k:=.inr z) (tn3 _ _ hD8 (fun _ z=>by cases z))),?_⟩
          refine pr_go (KpN.net hW3 tn3) hzn (tn3 _ _ hTb8 (fun _ z=>by cases z)) hp' hg' hz0 fun d2 R2 ws2 G4 hd2 t4 hperm2 hsrt2 hR2 h2=>?_
          refine ⟨(T z).1,d2,_,_,rfl,ne_of_none hd3 hd2,t4 _ _ hd3,h2,fun q hq=>?_,fun G5 kp5=>?_⟩
          · have hq':=mem_ordP.mp (show (q.1,q.2)∈_ from hq)
            rw [hto z hz0 q.1 (hperm2.mem_iff.mp hq'.1)]
            exact PrF.more NM (fun _ h=>by cases h) (fun l hl=>hl) hTz.2.2.2.2 hR2 hq'.2
          have t5:Same G3 G5:=fun c o e=>kp5 c o (fun z=>by rw [z,hd2] at e;cases e) (t4 _ _ e)
          and_intros
          show n2 _ _ _
          rw [hM]
          clear hM n2 kp5 h2 hd2 t4 hR2 hsrt2 hperm2
          have tn5:=tn3.tr t5
          have hd5:=t5 _ _ hd3
          refine seq_go fun n2 hM=>?_
          and_intros
          have cb:∀ {y:Int},1<=y/\y<=10 ^ 18->CBig tm y/\0<=tm * y/\tm * y<=10 ^ 19:=fun {y} hy=>by
            refine ⟨⟨Nat.lt_of_le_of_lt (show tm.natAbs<=6 by omega) (by decide),Nat.lt_of_le_of_lt (show y.natAbs<=10 ^ 18 by omega) (by decide)⟩,Int.mul_nonneg (by omega) (by omega),?_⟩
            exact Int.le_trans (Int.mul_le_mul htm.2 hy.2 (by omega) (by decide)) (by decide)
          refine ⟨(cb hp).1,(cb hg).1,pr_go (KpN.net hN8 tn5) hzn (tn5 _ _ hTb8 (fun _ z=>by cases z)) (cb hp).2 (cb hg).2 hz0 fun d3 R3 ws3 G6 hd3' t6 hperm3 hsrt3 hR3 h3=>?_⟩
          rw [hM]
          clear hM n2
          have tn6:=tn5.tr t6
          have hd6:=t6 _ _ hd5
          and_intros
          refine ⟨D,V.ref (T z).1,rfl,(by rw [← hTz.1];exact DGet.k (k:=.inr z) (tn6 _ _ hD8 (fun _ z=>by cases z))),.inr (.inr (.inl ⟨rfl,.inr ⟨_,hd6⟩⟩)),?_⟩
          and_intros
          refine ⟨_,hd6,fun pv G7 hpv t7 g7=>⟨pv,(T z).1,_,rfl,g7,t7 _ _ hd6,fun Dq bs' F8 lb hk kp8 h8'=>?_⟩⟩
          obtain ⟨T1,T2,T3⟩:=hTz.2.2
          have hwz:=T1.nodup_iff.mpr hzn
          have e3:R3=fun u=>((T z).2.1 u).map (tm * ·):=PrF.times NM (by omega) T3 hR3
          have e4:ws3=(T z).2.2:=sorted_uniq hsrt3 T2 (hperm3.nodup_iff.mpr hzn) hwz fun y=>hperm3.mem_iff.trans T1.mem_iff.symm
          rw [e3,e4,ordP_map] at h3
          have hos:∀ q∈ordP (T z).2.1 (T z).2.2,CBig tm q.2:=fun q hq=>by
            have hl:=(T3 _ _).mp (mem_ordP.mp (show (q.1,q.2)∈_ from hq)).2
            have b1:=NM.bd hl
            have b2:=hl.1.nn NM.nn
            exact ⟨Nat.lt_of_le_of_lt (show tm.natAbs<=6 by omega) (by decide),Nat.lt_of_le_of_lt (show q.2.natAbs<=10 ^ 40 by omega) (by decide)⟩
          have l24:(ordP (T z).2.1 (T z).2.2).length<=24:=len_ordP T1 hzn z12
          have hnd:=nd_ordP (R:=(T z).2.1) hwz
          have nd3:d3≠(T z).1:=(ne_of_none hd5 hd3').symm
          have hd6':=t7 _ _ hd6
          clear T1 T2 T3 hwz e3 e4 hR3 hsrt3 hperm3 hTz hTb8 hn8 hW1' hW2' hW3 hN8 hls9 hgm hsub hls
          generalize ordP (T z).2.1 (T z).2.2=os at h3 hos l24 hnd hd6' hk lb h8'
          refine lc_itmT h8' (small_line (by rw [List.length_map];omega)) lb (fun i=>[.ref (bs'.getD i 0),.int (tm * (os.getD i ((z,false),0)).2)]) ?_ ?_
          · intro i' k' x' b hkv hb F9 s9 RR hRR
            rw [List.getElem?_map] at hkv
            obtain ⟨q,hq,e⟩:=Option.map_eq_some_iff.mp hkv
            cases e
            have e1:bs'.getD i' 0=b:=by rw [List.getD_eq_getElem?_getD,hb];rfl
            have e2:os.getD i' ((z,false),0)=q:=by rw [List.getD_eq_getElem?_getD,hq];rfl
            rw [e1,e2] at hRR
            and_intros
            exact ⟨hos q (List.mem_of_getElem? hq),big (by decide),hRR⟩
          · intro Dl vs F9 hDl s9 g9 lvs hvs
            and_intros
            refine ⟨vs,(os.map fun q=>(q.1,tm * q.2)).map kvC,.of g9,small_line (by rw [List.length_map,List.length_map];omega),by rw [lvs,List.length_map,List.length_map,List.length_map],fun i' v kv hv hkv=>?_,fun pD F10 hpD t10 h10=>?_⟩
            · obtain ⟨pp,rfl,hpp⟩:=hvs i' v hv
              rw [List.getElem?_map,List.getElem?_map,Option.map_map] at hkv
              obtain ⟨q,hq,rfl⟩:=Option.map_eq_some_iff.mp hkv
              have hil:=(List.getElem?_eq_some_iff.mp hq).1
              obtain ⟨b,hb⟩:∃ b,bs'[i']?=some b:=⟨_,List.getElem?_eq_getElem (by rw [lb,List.length_map];exact hil)⟩
              have e1:bs'.getD i' 0=b:=by rw [List.getD_eq_getElem?_getD,hb];rfl
              have e2:os.getD i' ((z,false),0)=q:=by rw [List.getD_eq_getElem?_getD,hq];rfl
              rw [e1,e2] at hpp
              have hb7:=hk i' (kvC q) b (by rw [List.getElem?_map,hq];rfl) hb
              exact ⟨pp,b,rfl,hpp,s9 _ _ (kp8 _ _ (fun z=>by rw [z,hd6'] at hb7;cases hb7) hb7)⟩
            have hnk:(((os.map fun q=>(q.1,tm * q.2)).map kvC).map (·.1)).Nodup:=by
              have e:((os.map fun q=>(q.1,tm * q.2)).map kvC).map (·.1)=(os.map (·.1)).map ndK:=by rw [List.map_map,List.map_map,List.map_map];rfl
              rw [e]
              exact List.Pairwise.map ndK (fun a b h e=>h (ndK_inj e)) hnd
            rw [putAll_nodup hnk] at h10
            refine ⟨_,_,t10 _ _ (s9 _ _ (kp8 _ _ nd3 (t7 _ _ h3))),h10,rfl,fun kv hkv=>?_,?_⟩
            · obtain ⟨q,hq,rfl⟩:=List.mem_map.mp hkv
              refine ⟨q.2,rfl,?_⟩
              show valV _ (ndK q.1)=_
              rw [val_kvC,tell_mem (d:=q.2) (by rw [List.map_map];exact hnd) hq];rfl
            and_intros
            have sG7:Same G G7:=t3.trans (t5.trans (t6.trans t7))
            refine hNx _ _ ⟨⟨_,_,rfl⟩,fun c o e n=>?_,fun j y hj hy=>?_⟩
            · have hc:=sG7 _ _ (t _ _ e n)
              exact t10 _ _ (s9 _ _ (kp8 _ _ (fun z=>by rw [z,hd6'] at hc;cases hc;exact n _ rfl) hc))
            · have hc:=sG7 _ _ (hTi j y (by omega) hy)
              refine t10 _ _ (s9 _ _ (kp8 _ _ (fun e=>?_) hc))
              have ey:=hinj y (List.mem_of_getElem? hy) z hz0 e
              rw [ey] at hy
              have:=(List.getElem?_inj (List.getElem?_eq_some_iff.mp hz).1 hzn).mp (hz.trans hy.symm)
              omega
        · rintro σ G ⟨⟨o9,o15,rfl⟩,t,hTi⟩
          show nn _ _ _
          rw [hN]
          clear hN nn
          and_intros
          exact k G
      · intro U hU
        and_intros
        refine ⟨_,.l ((t71.trans t1) _ _ hn7),?_⟩
        rw [List.length_map]
        have hP1:=hP7.same (t71.trans t1)
        by_cases h2:1 < (zs.length:Int)
        · rw [decide_eq_true h2,if_pos rfl]
          refine ⟨_,.of hP1.l,fun q1 F1 w1 u1 f1=>⟨a,ns,1,rfl,(s07.trans (t71.trans (t1.trans u1))).seq hS,by decide,_,pn,zs,rfl,u1 _ _ hP1.n,okz,by omega,fun q o F2 u2 f2 gq=>⟨big (by decide),fun q3 F3 w3 u3 f3=>⟨_,_,(u2.trans u3) _ _ f1,f3,?_,fun q4 F4 w4 u4 f4=>?_⟩⟩⟩⟩
          · exact big (by have:=cutV_length lv none (some 59);have:=hP1.l60;simp only [List.length_cons,List.length_nil];omega)
          rw [show cutV lv none (some 59)=lv.take 59 from cutV_take lv 59] at f4
          have u14:=u1.trans (u2.trans (u3.trans u4))
          refine hU _ _ ⟨q4,_,rfl,t1.trans u14,f4,?_,fun v hv=>?_,fun v hv=>List.mem_append_left _ hv⟩
          · rw [List.length_append,List.length_take];simp only [List.length_cons,List.length_nil];omega
          · rcases List.mem_append.mp hv with hv | hv
            · exact (hP1.same u14).ln v (List.mem_of_mem_take hv)
            · rw [List.mem_singleton.mp hv]
              exact ⟨q,o,rfl,(u3.trans u4) _ _ f2,gq⟩
        · rw [decide_eq_false h2,if_neg (by decide)]
          exact hU _ _ ⟨pm,lv,rfl,t1,hm1,hP1.l60,hP1.ln,fun v hv=>List.mem_of_mem_take hv⟩
end
theorem all_mk {l : PySem.W.OpenLaw} {w : World} {K : PySem.W.Frag} {h : Heap} {mg : Str → Option Value} {fa : Addr} {k_Net k_CableError k_NoNet k_NoOffice k_cd k_tb : Addr} {f0 f1 f2 f3 f4 f5 f6 f7 f8 f9 f10 f11 f12 f13 f14 f15 f16 f17 f18 f19 f20 f21 f22 f23 f24 f25 f26 f27 f28 : Addr} (X : K.In h) (G : h.Ns mainGlobals mg) (hfa : mg "law" = some (.ref fa))
    {od0 an0 od1 an1 od2 an2 od3 an3 od4 an4 od5 an5 od6 an6 od7 an7 od8 an8 od9 an9 od10 an10 od11 an11 od12 an12 od13 an13 od14 an14 od15 an15 od16 an16 od17 an17 od18 an18 od19 an19 od20 an20 od21 an21 od22 an22 od23 an23 od24 an24 od25 an25 od26 an26 od27 an27 od28 an28 : Option Addr} {sl0 sl1 sl2 sl3 sl4 sl5 sl6 sl7 sl8 sl9 sl10 sl11 sl12 sl13 sl14 sl15 sl16 sl17 sl18 sl19 sl20 sl21 sl22 sl23 sl24 sl25 sl26 sl27 sl28 : Array (Option Value)} {oc0 kV0 dc0 pm0 cd0 ct0 oc1 kV1 dc1 pm1 cd1 ct1 oc2 kV2 dc2 pm2 ct2 oc3 kV3 dc3 pm3 cd3 ct3 oc4 kV4 dc4 pm4 cd4 ct4 oc5 kV5 dc5 pm5 cd5 ct5 oc6 kV6 dc6 pm6 cd6 ct6 oc7 kV7 dc7 pm7 cd7 ct7 oc8 kV8 dc8 pm8 cd8 ct8 oc9 kV9 dc9 pm9 cd9 ct9 oc10 kV10 dc10 pm10 cd10 ct10 oc11 kV11 dc11 pm11 cd11 ct11 oc12 kV12 dc12 pm12 cd12 ct12 oc13 kV13 dc13 pm13 cd13 ct13 oc14 kV14 dc14 pm14 cd14 ct14 oc15 kV15 dc15 pm15 cd15 ct15 oc16 kV16 dc16 pm16 cd16 ct16 oc17 kV17 dc17 pm17 cd17 ct17 oc18 kV18 dc18 pm18 cd18 ct18 oc19 kV19 dc19 pm19 cd19 ct19 oc20 kV20 dc20 pm20 cd20 ct20 oc21 kV21 dc21 pm21 cd21 ct21 oc22 kV22 dc22 pm22 cd22 ct22 oc23 kV23 dc23 pm23 cd23 ct23 oc24 kV24 dc24 pm24 cd24 ct24 oc25 kV25 dc25 pm25 cd25 ct25 oc26 kV26 dc26 pm26 cd26 ct26 oc27 kV27 dc27 pm27 cd27 ct27 oc28 kV28 dc28 pm28 cd28 ct28 : Value}
    (g_Net : PySem.W.nsIn K mainGlobals "Net" = some (some (.ref k_Net)))
    (g_CableError : PySem.W.nsIn K mainGlobals "CableError" = some (some (.ref k_CableError)))
    (g_NoNet : PySem.W.nsIn K mainGlobals "NoNet" = some (some (.ref k_NoNet)))
    (g_NoOffice : PySem.W.nsIn K mainGlobals "NoOffice" = some (some (.ref k_NoOffice)))
    (a0 : PySem.W.nsIn K mainGlobals "check_office" = some (some (.ref f0)))
    (l0 : K.lookup f0 = some ⟨oc0, od0, .func (PySem.W.fnOf "check_office" "check_office" (defArgs s_check_office) (defBody s_check_office) (defScope s_check_office) .none kV0 dc0 pm0 an0 cd0 ct0), sl0⟩)
    (c0 : PySem.W.codeIn K cd0 "check_office" = true)
    (k0 : PySem.W.keepIn K (.ref f0) = true)
    (a1 : PySem.W.nsIn K mainGlobals "steps_from" = some (some (.ref f1)))
    (l1 : K.lookup f1 = some ⟨oc1, od1, .func (PySem.W.fnOf "steps_from" "steps_from" (defArgs s_steps_from) (defBody s_steps_from) (defScope s_steps_from) .none kV1 dc1 pm1 an1 cd1 ct1), sl1⟩)
    (c1 : PySem.W.codeIn K cd1 "steps_from" = true)
    (k1 : PySem.W.keepIn K (.ref f1) = true)
    (a2 : PySem.W.nsIn K mainGlobals "cheapest" = some (some (.ref f2)))
    (l2 : K.lookup f2 = some ⟨oc2, od2, .func (PySem.W.fnOf "cheapest" "cheapest" (defArgs s_cheapest) (defBody s_cheapest) (defScope s_cheapest) .none kV2 dc2 pm2 an2 (.ref k_cd) ct2), sl2⟩)
    (c2 : PySem.W.codeIn K (.ref k_cd) "cheapest" = true)
    (k2 : PySem.W.keepIn K (.ref f2) = true)
    (a3 : PySem.W.nsIn K mainGlobals "prices" = some (some (.ref f3)))
    (l3 : K.lookup f3 = some ⟨oc3, od3, .func (PySem.W.fnOf "prices" "prices" (defArgs s_prices) (defBody s_prices) (defScope s_prices) .none kV3 dc3 pm3 an3 cd3 ct3), sl3⟩)
    (c3 : PySem.W.codeIn K cd3 "prices" = true)
    (k3 : PySem.W.keepIn K (.ref f3) = true)
    (a4 : PySem.W.nsIn K mainGlobals "way" = some (some (.ref f4)))
    (l4 : K.lookup f4 = some ⟨oc4, od4, .func (PySem.W.fnOf "way" "way" (defArgs s_way) (defBody s_way) (defScope s_way) .none kV4 dc4 pm4 an4 cd4 ct4), sl4⟩)
    (c4 : PySem.W.codeIn K cd4 "way" = true)
    (k4 : PySem.W.keepIn K (.ref f4) = true)
    (a5 : PySem.W.nsIn K mainGlobals "is_whole" = some (some (.ref f5)))
    (l5 : K.lookup f5 = some ⟨oc5, od5, .func (PySem.W.fnOf "is_whole" "is_whole" (defArgs s_is_whole) (defBody s_is_whole) (defScope s_is_whole) .none kV5 dc5 pm5 an5 cd5 ct5), sl5⟩)
    (c5 : PySem.W.codeIn K cd5 "is_whole" = true)
    (k5 : PySem.W.keepIn K (.ref f5) = true)
    (a6 : PySem.W.nsIn K mainGlobals "is_below" = some (some (.ref f6)))
    (l6 : K.lookup f6 = some ⟨oc6, od6, .func (PySem.W.fnOf "is_below" "is_below" (defArgs s_is_below) (defBody s_is_below) (defScope s_is_below) .none kV6 dc6 pm6 an6 cd6 ct6), sl6⟩)
    (c6 : PySem.W.codeIn K cd6 "is_below" = true)
    (k6 : PySem.W.keepIn K (.ref f6) = true)
    (a7 : PySem.W.nsIn K mainGlobals "are_letters" = some (some (.ref f7)))
    (l7 : K.lookup f7 = some ⟨oc7, od7, .func (PySem.W.fnOf "are_letters" "are_letters" (defArgs s_are_letters) (defBody s_are_letters) (defScope s_are_letters) .none kV7 dc7 pm7 an7 cd7 ct7), sl7⟩)
    (c7 : PySem.W.codeIn K cd7 "are_letters" = true)
    (k7 : PySem.W.keepIn K (.ref f7) = true)
    (a8 : PySem.W.nsIn K mainGlobals "are_unlike_names" = some (some (.ref f8)))
    (l8 : K.lookup f8 = some ⟨oc8, od8, .func (PySem.W.fnOf "are_unlike_names" "are_unlike_names" (defArgs s_are_unlike_names) (defBody s_are_unlike_names) (defScope s_are_unlike_names) .none kV8 dc8 pm8 an8 cd8 ct8), sl8⟩)
    (c8 : PySem.W.codeIn K cd8 "are_unlike_names" = true)
    (k8 : PySem.W.keepIn K (.ref f8) = true)
    (a9 : PySem.W.nsIn K mainGlobals "is_cost" = some (some (.ref f9)))
    (l9 : K.lookup f9 = some ⟨oc9, od9, .func (PySem.W.fnOf "is_cost" "is_cost" (defArgs s_is_cost) (defBody s_is_cost) (defScope s_is_cost) .none kV9 dc9 pm9 an9 cd9 ct9), sl9⟩)
    (c9 : PySem.W.codeIn K cd9 "is_cost" = true)
    (k9 : PySem.W.keepIn K (.ref f9) = true)
    (a10 : PySem.W.nsIn K mainGlobals "is_line" = some (some (.ref f10)))
    (l10 : K.lookup f10 = some ⟨oc10, od10, .func (PySem.W.fnOf "is_line" "is_line" (defArgs s_is_line) (defBody s_is_line) (defScope s_is_line) .none kV10 dc10 pm10 an10 cd10 ct10), sl10⟩)
    (c10 : PySem.W.codeIn K cd10 "is_line" = true)
    (k10 : PySem.W.keepIn K (.ref f10) = true)
    (a11 : PySem.W.findIn K (.ref k_Net) "__init__" = some (some (.ref f11)))
    (i11 : PySem.W.isFn K (.ref f11) = true)
    (l11 : K.lookup f11 = some ⟨oc11, od11, .func (PySem.W.fnOf "__init__" "Net.__init__" (defArgs s_Net_init) (defBody s_Net_init) (defScope s_Net_init) .none kV11 dc11 pm11 an11 cd11 ct11), sl11⟩)
    (c11 : PySem.W.codeIn K cd11 "Net.__init__" = true)
    (k11 : PySem.W.keepIn K (.ref f11) = true)
    (a12 : PySem.W.findIn K (.ref k_Net) "offices" = some (some (.ref f12)))
    (i12 : PySem.W.isFn K (.ref f12) = true)
    (l12 : K.lookup f12 = some ⟨oc12, od12, .func (PySem.W.fnOf "offices" "Net.offices" (defArgs s_Net_offices) (defBody s_Net_offices) (defScope s_Net_offices) .none kV12 dc12 pm12 an12 cd12 ct12), sl12⟩)
    (c12 : PySem.W.codeIn K cd12 "Net.offices" = true)
    (k12 : PySem.W.keepIn K (.ref f12) = true)
    (a13 : PySem.W.findIn K (.ref k_Net) "with_book" = some (some (.ref f13)))
    (i13 : PySem.W.isFn K (.ref f13) = true)
    (l13 : K.lookup f13 = some ⟨oc13, od13, .func (PySem.W.fnOf "with_book" "Net.with_book" (defArgs s_Net_with_book) (defBody s_Net_with_book) (defScope s_Net_with_book) .none kV13 dc13 pm13 an13 cd13 ct13), sl13⟩)
    (c13 : PySem.W.codeIn K cd13 "Net.with_book" = true)
    (k13 : PySem.W.keepIn K (.ref f13) = true)
    (a14 : PySem.W.findIn K (.ref k_Net) "lines" = some (some (.ref f14)))
    (i14 : PySem.W.isFn K (.ref f14) = true)
    (l14 : K.lookup f14 = some ⟨oc14, od14, .func (PySem.W.fnOf "lines" "Net.lines" (defArgs s_Net_lines) (defBody s_Net_lines) (defScope s_Net_lines) .none kV14 dc14 pm14 an14 cd14 ct14), sl14⟩)
    (c14 : PySem.W.codeIn K cd14 "Net.lines" = true)
    (k14 : PySem.W.keepIn K (.ref f14) = true)
    (a15 : PySem.W.nsIn K mainGlobals "_law_cell_at" = some (some (.ref f15)))
    (l15 : K.lookup f15 = some ⟨oc15, od15, .func (PySem.W.fnOf "_law_cell_at" "_law_cell_at" (defArgs s_law_cell_at) (defBody s_law_cell_at) (defScope s_law_cell_at) .none kV15 dc15 pm15 an15 cd15 ct15), sl15⟩)
    (c15 : PySem.W.codeIn K cd15 "_law_cell_at" = true)
    (k15 : PySem.W.keepIn K (.ref f15) = true)
    (a16 : PySem.W.nsIn K mainGlobals "_law_long" = some (some (.ref f16)))
    (l16 : K.lookup f16 = some ⟨oc16, od16, .func (PySem.W.fnOf "_law_long" "_law_long" (defArgs s_law_long) (defBody s_law_long) (defScope s_law_long) .none kV16 dc16 pm16 an16 cd16 ct16), sl16⟩)
    (c16 : PySem.W.codeIn K cd16 "_law_long" = true)
    (k16 : PySem.W.keepIn K (.ref f16) = true)
    (a17 : PySem.W.nsIn K mainGlobals "_law_mixed" = some (some (.ref f17)))
    (l17 : K.lookup f17 = some ⟨oc17, od17, .func (PySem.W.fnOf "_law_mixed" "_law_mixed" (defArgs s_law_mixed) (defBody s_law_mixed) (defScope s_law_mixed) .none kV17 dc17 pm17 an17 cd17 ct17), sl17⟩)
    (c17 : PySem.W.codeIn K cd17 "_law_mixed" = true)
    (k17 : PySem.W.keepIn K (.ref f17) = true)
    (a18 : PySem.W.nsIn K mainGlobals "_law_names" = some (some (.ref f18)))
    (l18 : K.lookup f18 = some ⟨oc18, od18, .func (PySem.W.fnOf "_law_names" "_law_names" (defArgs s_law_names) (defBody s_law_names) (defScope s_law_names) .none kV18 dc18 pm18 an18 cd18 ct18), sl18⟩)
    (c18 : PySem.W.codeIn K cd18 "_law_names" = true)
    (k18 : PySem.W.keepIn K (.ref f18) = true)
    (a19 : PySem.W.nsIn K mainGlobals "_law_cost" = some (some (.ref f19)))
    (l19 : K.lookup f19 = some ⟨oc19, od19, .func (PySem.W.fnOf "_law_cost" "_law_cost" (defArgs s_law_cost) (defBody s_law_cost) (defScope s_law_cost) .none kV19 dc19 pm19 an19 cd19 ct19), sl19⟩)
    (c19 : PySem.W.codeIn K cd19 "_law_cost" = true)
    (k19 : PySem.W.keepIn K (.ref f19) = true)
    (a20 : PySem.W.nsIn K mainGlobals "_law_line" = some (some (.ref f20)))
    (l20 : K.lookup f20 = some ⟨oc20, od20, .func (PySem.W.fnOf "_law_line" "_law_line" (defArgs s_law_line) (defBody s_law_line) (defScope s_law_line) .none kV20 dc20 pm20 an20 cd20 ct20), sl20⟩)
    (c20 : PySem.W.codeIn K cd20 "_law_line" = true)
    (k20 : PySem.W.keepIn K (.ref f20) = true)
    (a21 : PySem.W.nsIn K mainGlobals "_law_plan" = some (some (.ref f21)))
    (l21 : K.lookup f21 = some ⟨oc21, od21, .func (PySem.W.fnOf "_law_plan" "_law_plan" (defArgs s_law_plan) (defBody s_law_plan) (defScope s_law_plan) .none kV21 dc21 pm21 an21 cd21 ct21), sl21⟩)
    (c21 : PySem.W.codeIn K cd21 "_law_plan" = true)
    (k21 : PySem.W.keepIn K (.ref f21) = true)
    (a22 : PySem.W.nsIn K mainGlobals "_law_amounts" = some (some (.ref f22)))
    (l22 : K.lookup f22 = some ⟨oc22, od22, .func (PySem.W.fnOf "_law_amounts" "_law_amounts" (defArgs s_law_amounts) (defBody s_law_amounts) (defScope s_law_amounts) .none kV22 dc22 pm22 an22 cd22 ct22), sl22⟩)
    (c22 : PySem.W.codeIn K cd22 "_law_amounts" = true)
    (k22 : PySem.W.keepIn K (.ref f22) = true)
    (a23 : PySem.W.nsIn K mainGlobals "_law_next" = some (some (.ref f23)))
    (l23 : K.lookup f23 = some ⟨oc23, od23, .func (PySem.W.fnOf "_law_next" "_law_next" (defArgs s_law_next) (defBody s_law_next) (defScope s_law_next) .none kV23 dc23 pm23 an23 cd23 ct23), sl23⟩)
    (c23 : PySem.W.codeIn K cd23 "_law_next" = true)
    (k23 : PySem.W.keepIn K (.ref f23) = true)
    (a24 : PySem.W.nsIn K mainGlobals "_law_shown" = some (some (.ref f24)))
    (l24 : K.lookup f24 = some ⟨oc24, od24, .func (PySem.W.fnOf "_law_shown" "_law_shown" (defArgs s_law_shown) (defBody s_law_shown) (defScope s_law_shown) .none kV24 dc24 pm24 an24 cd24 ct24), sl24⟩)
    (c24 : PySem.W.codeIn K cd24 "_law_shown" = true)
    (k24 : PySem.W.keepIn K (.ref f24) = true)
    (a25 : PySem.W.nsIn K mainGlobals "_law_plain" = some (some (.ref f25)))
    (l25 : K.lookup f25 = some ⟨oc25, od25, .func (PySem.W.fnOf "_law_plain" "_law_plain" (defArgs s_law_plain) (defBody s_law_plain) (defScope s_law_plain) .none kV25 dc25 pm25 an25 cd25 ct25), sl25⟩)
    (c25 : PySem.W.codeIn K cd25 "_law_plain" = true)
    (k25 : PySem.W.keepIn K (.ref f25) = true)
    (a26 : PySem.W.nsIn K mainGlobals "_law_lengths" = some (some (.ref f26)))
    (l26 : K.lookup f26 = some ⟨oc26, od26, .func (PySem.W.fnOf "_law_lengths" "_law_lengths" (defArgs s_law_lengths) (defBody s_law_lengths) (defScope s_law_lengths) .none kV26 dc26 pm26 an26 cd26 ct26), sl26⟩)
    (c26 : PySem.W.codeIn K cd26 "_law_lengths" = true)
    (k26 : PySem.W.keepIn K (.ref f26) = true)
    (a27 : PySem.W.nsIn K mainGlobals "_law_no_more" = some (some (.ref f27)))
    (l27 : K.lookup f27 = some ⟨oc27, od27, .func (PySem.W.fnOf "_law_no_more" "_law_no_more" (defArgs s_law_no_more) (defBody s_law_no_more) (defScope s_law_no_more) .none kV27 dc27 pm27 an27 cd27 ct27), sl27⟩)
    (c27 : PySem.W.codeIn K cd27 "_law_no_more" = true)
    (k27 : PySem.W.keepIn K (.ref f27) = true)
    (a28 : PySem.W.nsIn K mainGlobals "law" = some (some (.ref f28)))
    (l28 : K.lookup f28 = some ⟨oc28, od28, .func (PySem.W.fnOf "law" "law" (defArgs s_law) (defBody s_law) (defScope s_law) .none kV28 dc28 pm28 an28 cd28 ct28), sl28⟩)
    (c28 : PySem.W.codeIn K cd28 "law" = true)
    (k28 : PySem.W.keepIn K (.ref f28) = true)
    (pg_Net : PySem.W.plainGet K k_Net Str.empty = true)
    (hd_Net : PySem.W.hasDictIn K k_Net = true)
    (po_Net : PySem.W.plainOver K k_Net = true)
    (sa_Net : PySem.W.findIn K (.ref k_Net) "__setattr__" = some (some (.builtin "object.__setattr__")))
    (mk_Net : PySem.W.makesIn K k_Net = true)
    (kc_Net : PySem.W.keepIn K (.ref k_Net) = true)
    (n_Net_names : PySem.W.findIn K (.ref k_Net) "names" = some none)
    (n_Net_holders : PySem.W.findIn K (.ref k_Net) "holders" = some none)
    (n_Net_wires : PySem.W.findIn K (.ref k_Net) "wires" = some none)
    (q_NoNet : PySem.W.excIn K k_NoNet [.type "ValueError", .type "Exception", .type "BaseException", .type "object"] "ValueError.__new__" = true)
    (q_NoOffice : PySem.W.excIn K k_NoOffice [.type "ValueError", .type "Exception", .type "BaseException", .type "object"] "ValueError.__new__" = true)
    (tab : PySem.W.codeHdIn K k_cd k_tb = true)
    (err : errAll K k_CableError [k_NoNet, k_NoOffice] = true)
    (ndx : ndB [k_NoNet, k_NoOffice] = true)
    {u_PLAIN : Value}
    (v_PLAIN : PySem.W.nsIn K mainGlobals "PLAIN" = some (some u_PLAIN))
    (r_PLAIN : RelV (.str "plain") u_PLAIN)
    {u_CODE : Value}
    (v_CODE : PySem.W.nsIn K mainGlobals "CODE" = some (some u_CODE))
    (r_CODE : RelV (.str "code") u_CODE)
    {u_SMALL_LETTERS : Value}
    (v_SMALL_LETTERS : PySem.W.nsIn K mainGlobals "SMALL_LETTERS" = some (some u_SMALL_LETTERS))
    (r_SMALL_LETTERS : RelV (.str "abcdefghijklmnopqrstuvwxyz") u_SMALL_LETTERS)
    {u_MOST_OFFICES : Value}
    (v_MOST_OFFICES : PySem.W.nsIn K mainGlobals "MOST_OFFICES" = some (some u_MOST_OFFICES))
    (r_MOST_OFFICES : RelV (.int 12) u_MOST_OFFICES)
    {u_LONGEST_NAME : Value}
    (v_LONGEST_NAME : PySem.W.nsIn K mainGlobals "LONGEST_NAME" = some (some u_LONGEST_NAME))
    (r_LONGEST_NAME : RelV (.int 8) u_LONGEST_NAME)
    {u_MOST_LINES : Value}
    (v_MOST_LINES : PySem.W.nsIn K mainGlobals "MOST_LINES" = some (some u_MOST_LINES))
    (r_MOST_LINES : RelV (.int 60) u_MOST_LINES)
    {u_MOST_COST : Value}
    (v_MOST_COST : PySem.W.nsIn K mainGlobals "MOST_COST" = some (some u_MOST_COST))
    (r_MOST_COST : RelV (.int 1000000000) u_MOST_COST)
    (z_isinstance : PySem.W.nsIn K mainGlobals "isinstance" = some none)
    (z_str : PySem.W.nsIn K mainGlobals "str" = some none)
    (z_len : PySem.W.nsIn K mainGlobals "len" = some none)
    (z_min : PySem.W.nsIn K mainGlobals "min" = some none)
    (z_list : PySem.W.nsIn K mainGlobals "list" = some none)
    (z_sorted : PySem.W.nsIn K mainGlobals "sorted" = some none)
    (z_reversed : PySem.W.nsIn K mainGlobals "reversed" = some none)
    (z_bool : PySem.W.nsIn K mainGlobals "bool" = some none)
    (z_int : PySem.W.nsIn K mainGlobals "int" = some none)
    (z_all : PySem.W.nsIn K mainGlobals "all" = some none)
    (z_set : PySem.W.nsIn K mainGlobals "set" = some none)
    (z_tuple : PySem.W.nsIn K mainGlobals "tuple" = some none)
    (z_range : PySem.W.nsIn K mainGlobals "range" = some none)
    (z_enumerate : PySem.W.nsIn K mainGlobals "enumerate" = some none)
    (z_dict : PySem.W.nsIn K mainGlobals "dict" = some none)
    : (∃ c, PySem.W.codeHdIn K c k_tb = true) ∧ ∃ fd : FuncData, (∀ (s : Shared) (v : Value), BindsTo s fd ⟨[v], []⟩ [("_law_script", v)]) ∧ ∀ base : Heap, K.In base → base.Ns mainGlobals mg → FnOk l.prog w K mg base (CX1 l.prog w) 7 fa fd ["_law_script"] (sp_law K k_tb) := by
  have e := hfa.symm.trans (PySem.W.mg_of X G a28)
  cases e
  have T : Bl mg := ⟨PySem.W.mg_none_of X G z_isinstance, PySem.W.mg_none_of X G z_str, PySem.W.mg_none_of X G z_len, PySem.W.mg_none_of X G z_min, PySem.W.mg_none_of X G z_list, PySem.W.mg_none_of X G z_sorted, PySem.W.mg_none_of X G z_reversed, PySem.W.mg_none_of X G z_bool, PySem.W.mg_none_of X G z_int, PySem.W.mg_none_of X G z_all, PySem.W.mg_none_of X G z_set, PySem.W.mg_none_of X G z_tuple, PySem.W.mg_none_of X G z_range, PySem.W.mg_none_of X G z_enumerate, PySem.W.mg_none_of X G z_dict⟩
  have AF : AdF K mg ⟨k_Net, k_CableError, k_NoNet, k_NoOffice, k_cd, k_tb, ()⟩ := ⟨PySem.W.mg_of X G g_Net, PySem.W.mg_of X G g_CableError, PySem.W.mg_of X G g_NoNet, PySem.W.mg_of X G g_NoOffice, ⟨pg_Net, hd_Net, po_Net, sa_Net⟩, n_Net_names, n_Net_holders, n_Net_wires, q_NoNet, q_NoOffice, tab, err, ndx, ⟨_, PySem.W.mg_of X G v_PLAIN, r_PLAIN⟩, ⟨_, PySem.W.mg_of X G v_CODE, r_CODE⟩, ⟨_, PySem.W.mg_of X G v_SMALL_LETTERS, r_SMALL_LETTERS⟩, ⟨_, PySem.W.mg_of X G v_MOST_OFFICES, r_MOST_OFFICES⟩, ⟨_, PySem.W.mg_of X G v_LONGEST_NAME, r_LONGEST_NAME⟩, ⟨_, PySem.W.mg_of X G v_MOST_LINES, r_MOST_LINES⟩, ⟨_, PySem.W.mg_of X G v_MOST_COST, r_MOST_COST⟩⟩
  have F0 := fun_mk (st := s_check_office) l0 c0 k0
  have F1 := fun_mk (st := s_steps_from) l1 c1 k1
  have F2 := fun_mk (st := s_cheapest) l2 c2 k2
  have F3 := fun_mk (st := s_prices) l3 c3 k3
  have F4 := fun_mk (st := s_way) l4 c4 k4
  have F5 := fun_mk (st := s_is_whole) l5 c5 k5
  have F6 := fun_mk (st := s_is_below) l6 c6 k6
  have F7 := fun_mk (st := s_are_letters) l7 c7 k7
  have F8 := fun_mk (st := s_are_unlike_names) l8 c8 k8
  have F9 := fun_mk (st := s_is_cost) l9 c9 k9
  have F10 := fun_mk (st := s_is_line) l10 c10 k10
  have F11 := fun_mk (st := s_Net_init) l11 c11 k11
  have F12 := fun_mk (st := s_Net_offices) l12 c12 k12
  have F13 := fun_mk (st := s_Net_with_book) l13 c13 k13
  have F14 := fun_mk (st := s_Net_lines) l14 c14 k14
  have F15 := fun_mk (st := s_law_cell_at) l15 c15 k15
  have F16 := fun_mk (st := s_law_long) l16 c16 k16
  have F17 := fun_mk (st := s_law_mixed) l17 c17 k17
  have F18 := fun_mk (st := s_law_names) l18 c18 k18
  have F19 := fun_mk (st := s_law_cost) l19 c19 k19
  have F20 := fun_mk (st := s_law_line) l20 c20 k20
  have F21 := fun_mk (st := s_law_plan) l21 c21 k21
  have F22 := fun_mk (st := s_law_amounts) l22 c22 k22
  have F23 := fun_mk (st := s_law_next) l23 c23 k23
  have F24 := fun_mk (st := s_law_shown) l24 c24 k24
  have F25 := fun_mk (st := s_law_plain) l25 c25 k25
  have F26 := fun_mk (st := s_law_lengths) l26 c26 k26
  have F27 := fun_mk (st := s_law_no_more) l27 c27 k27
  have F28 := fun_mk (st := s_law) l28 c28 k28
  refine ⟨⟨_, tab⟩, PySem.W.fnOf "law" "law" (defArgs s_law) (defBody s_law) (defScope s_law) .none kV28 dc28 pm28 an28 cd28 ct28, fun s v => .of_eq rfl, fun base _ _ => ?_⟩
  have b5 := F5.binds (ps := ["thing"]) fun _ _ _ _ _ _ => L2.bind1 fun _ => rfl
  have C_is_whole : Fnc l.prog w K mg base (CX1 l.prog w) 1 "is_whole" ["thing"] sp_is_whole := ⟨f5, _, ok_is_whole F5 T AF , PySem.W.mg_of X G a5, k5, b5⟩
  have b7 := F7.binds (ps := ["thing", "most"]) fun _ _ _ _ _ _ => L2.bind2 fun _ _ => rfl
  have C_are_letters : Fnc l.prog w K mg base (CX1 l.prog w) 1 "are_letters" ["thing", "most"] sp_are_letters := ⟨f7, _, ok_are_letters F7 T AF , PySem.W.mg_of X G a7, k7, b7⟩
  have b12 := F12.binds (ps := ["self"]) fun _ _ _ _ _ _ => L2.bind1 fun _ => rfl
  have M_Net_offices : Mtd l.prog w K mg base (CX1 l.prog w) k_Net "offices" 1 ["self"] (sp_Net_offices (⟨k_Net, k_CableError, k_NoNet, k_NoOffice, k_cd, k_tb, ()⟩ : Ads)) := ⟨⟨f12, _, ok_Net_offices F12 T AF , ⟨a12, i12, k12⟩, b12⟩, AF.c_Net⟩
  have b13 := F13.binds (ps := ["self"]) fun _ _ _ _ _ _ => L2.bind1 fun _ => rfl
  have M_Net_with_book : Mtd l.prog w K mg base (CX1 l.prog w) k_Net "with_book" 1 ["self"] (sp_Net_with_book (⟨k_Net, k_CableError, k_NoNet, k_NoOffice, k_cd, k_tb, ()⟩ : Ads)) := ⟨⟨f13, _, ok_Net_with_book F13 T AF , ⟨a13, i13, k13⟩, b13⟩, AF.c_Net⟩
  have b14 := F14.binds (ps := ["self"]) fun _ _ _ _ _ _ => L2.bind1 fun _ => rfl
  have M_Net_lines : Mtd l.prog w K mg base (CX1 l.prog w) k_Net "lines" 1 ["self"] (sp_Net_lines (⟨k_Net, k_CableError, k_NoNet, k_NoOffice, k_cd, k_tb, ()⟩ : Ads)) := ⟨⟨f14, _, ok_Net_lines F14 T AF , ⟨a14, i14, k14⟩, b14⟩, AF.c_Net⟩
  have b15 := F15.binds (ps := ["_law_script", "_law_k"]) fun _ _ _ _ _ _ => L2.bind2 fun _ _ => rfl
  have C_law_cell_at : Fnc l.prog w K mg base (CX1 l.prog w) 1 "_law_cell_at" ["_law_script", "_law_k"] (sp_law_cell_at K) := ⟨f15, _, ok_law_cell_at F15 T AF , PySem.W.mg_of X G a15, k15, b15⟩
  have b16 := F16.binds (ps := ["_law_cell", "_law_k"]) fun _ _ _ _ _ _ => L2.bind2 fun _ _ => rfl
  have C_law_long : Fnc l.prog w K mg base (CX1 l.prog w) 1 "_law_long" ["_law_cell", "_law_k"] sp_law_long := ⟨f16, _, ok_law_long F16 T AF , PySem.W.mg_of X G a16, k16, b16⟩
  have b23 := F23.binds (ps := ["_law_plan_here", "_law_here", "_law_p", "_law_g"]) fun _ _ _ _ _ _ => L2.bind4 fun _ _ _ _ => rfl
  have C_law_next : Fnc l.prog w K mg base (CX1 l.prog w) 1 "_law_next" ["_law_plan_here", "_law_here", "_law_p", "_law_g"] sp_law_next := ⟨f23, _, ok_law_next F23 T AF , PySem.W.mg_of X G a23, k23, b23⟩
  have b25 := F25.binds (ps := ["_law_all_prices", "_law_one", "_law_other"]) fun _ _ _ _ _ _ => L2.bind3 fun _ _ _ => rfl
  have C_law_plain : Fnc l.prog w K mg base (CX1 l.prog w) 1 "_law_plain" ["_law_all_prices", "_law_one", "_law_other"] sp_law_plain := ⟨f25, _, ok_law_plain F25 T AF , PySem.W.mg_of X G a25, k25, b25⟩
  have b27 := F27.binds (ps := ["_law_found", "_law_others"]) fun _ _ _ _ _ _ => L2.bind2 fun _ _ => rfl
  have C_law_no_more : Fnc l.prog w K mg base (CX1 l.prog w) 1 "_law_no_more" ["_law_found", "_law_others"] sp_law_no_more := ⟨f27, _, ok_law_no_more F27 T AF , PySem.W.mg_of X G a27, k27, b27⟩
  have b0 := F0.binds (ps := ["net", "thing"]) fun _ _ _ _ _ _ => L2.bind2 fun _ _ => rfl
  have C_check_office : Fnc l.prog w K mg base (CX1 l.prog w) 2 "check_office" ["net", "thing"] (sp_check_office (⟨k_Net, k_CableError, k_NoNet, k_NoOffice, k_cd, k_tb, ()⟩ : Ads)) := ⟨f0, _, ok_check_office F0 T AF M_Net_offices, PySem.W.mg_of X G a0, k0, b0⟩
  have b1 := F1.binds (ps := ["net", "there", "p", "g"]) fun _ _ _ _ _ _ => L2.bind4 fun _ _ _ _ => rfl
  have C_steps_from : Fnc l.prog w K mg base (CX1 l.prog w) 2 "steps_from" ["net", "there", "p", "g"] (sp_steps_from (⟨k_Net, k_CableError, k_NoNet, k_NoOffice, k_cd, k_tb, ()⟩ : Ads)) := ⟨f1, _, ok_steps_from F1 T AF M_Net_lines M_Net_with_book, PySem.W.mg_of X G a1, k1, b1⟩
  have b6 := F6.binds (ps := ["thing", "bound"]) fun _ _ _ _ _ _ => L2.bind2 fun _ _ => rfl
  have C_is_below : Fnc l.prog w K mg base (CX1 l.prog w) 2 "is_below" ["thing", "bound"] sp_is_below := ⟨f6, _, ok_is_below F6 T AF C_is_whole, PySem.W.mg_of X G a6, k6, b6⟩
  have b8 := F8.binds (ps := ["thing"]) fun _ _ _ _ _ _ => L2.bind1 fun _ => rfl
  have C_are_unlike_names : Fnc l.prog w K mg base (CX1 l.prog w) 2 "are_unlike_names" ["thing"] sp_are_unlike_names := ⟨f8, _, ok_are_unlike_names F8 T AF C_are_letters, PySem.W.mg_of X G a8, k8, b8⟩
  have b17 := F17.binds (ps := ["_law_cell", "_law_k"]) fun _ _ _ _ _ _ => L2.bind2 fun _ _ => rfl
  have C_law_mixed : Fnc l.prog w K mg base (CX1 l.prog w) 2 "_law_mixed" ["_law_cell", "_law_k"] sp_law_mixed := ⟨f17, _, ok_law_mixed F17 T AF C_law_long, PySem.W.mg_of X G a17, k17, b17⟩
  have b26 := F26.binds (ps := ["_law_all_prices", "_law_names_here"]) fun _ _ _ _ _ _ => L2.bind2 fun _ _ => rfl
  have C_law_lengths : Fnc l.prog w K mg base (CX1 l.prog w) 2 "_law_lengths" ["_law_all_prices", "_law_names_here"] sp_law_lengths := ⟨f26, _, ok_law_lengths F26 T AF C_law_plain, PySem.W.mg_of X G a26, k26, b26⟩
  have b2 := F2.binds (ps := ["net", "first", "p", "g"]) fun _ _ _ _ _ _ => L2.bind4 fun _ _ _ _ => rfl
  have C_cheapest : Fnc l.prog w K mg base (CX1 l.prog w) 3 "cheapest" ["net", "first", "p", "g"] (sp_cheapest (⟨k_Net, k_CableError, k_NoNet, k_NoOffice, k_cd, k_tb, ()⟩ : Ads)) := ⟨f2, _, ok_cheapest F2 T AF rfl C_steps_from, PySem.W.mg_of X G a2, k2, b2⟩
  have b9 := F9.binds (ps := ["thing"]) fun _ _ _ _ _ _ => L2.bind1 fun _ => rfl
  have C_is_cost : Fnc l.prog w K mg base (CX1 l.prog w) 3 "is_cost" ["thing"] sp_is_cost := ⟨f9, _, ok_is_cost F9 T AF C_is_below, PySem.W.mg_of X G a9, k9, b9⟩
  have b18 := F18.binds (ps := ["_law_cell", "_law_many"]) fun _ _ _ _ _ _ => L2.bind2 fun _ _ => rfl
  have C_law_names : Fnc l.prog w K mg base (CX1 l.prog w) 3 "_law_names" ["_law_cell", "_law_many"] sp_law_names := ⟨f18, _, ok_law_names F18 T AF C_law_mixed, PySem.W.mg_of X G a18, k18, b18⟩
  have b19 := F19.binds (ps := ["_law_cell"]) fun _ _ _ _ _ _ => L2.bind1 fun _ => rfl
  have C_law_cost : Fnc l.prog w K mg base (CX1 l.prog w) 3 "_law_cost" ["_law_cell"] sp_law_cost := ⟨f19, _, ok_law_cost F19 T AF C_law_mixed, PySem.W.mg_of X G a19, k19, b19⟩
  have b22 := F22.binds (ps := ["_law_script"]) fun _ _ _ _ _ _ => L2.bind1 fun _ => rfl
  have C_law_amounts : Fnc l.prog w K mg base (CX1 l.prog w) 3 "_law_amounts" ["_law_script"] (sp_law_amounts K) := ⟨f22, _, ok_law_amounts F22 T AF C_law_mixed C_law_long C_law_cell_at, PySem.W.mg_of X G a22, k22, b22⟩
  have b3 := F3.binds (ps := ["net", "first", "p", "g"]) fun _ _ _ _ _ _ => L2.bind4 fun _ _ _ _ => rfl
  have C_prices : Fnc l.prog w K mg base (CX1 l.prog w) 4 "prices" ["net", "first", "p", "g"] (sp_prices (⟨k_Net, k_CableError, k_NoNet, k_NoOffice, k_cd, k_tb, ()⟩ : Ads)) := ⟨f3, _, ok_prices F3 T AF C_cheapest C_check_office M_Net_offices, PySem.W.mg_of X G a3, k3, b3⟩
  have b4 := F4.binds (ps := ["net", "first", "last", "p", "g"]) fun _ _ _ _ _ _ => L2.bind5 fun _ _ _ _ _ => rfl
  have C_way : Fnc l.prog w K mg base (CX1 l.prog w) 4 "way" ["net", "first", "last", "p", "g"] (sp_way (⟨k_Net, k_CableError, k_NoNet, k_NoOffice, k_cd, k_tb, ()⟩ : Ads)) := ⟨f4, _, ok_way F4 T AF C_cheapest C_check_office, PySem.W.mg_of X G a4, k4, b4⟩
  have b10 := F10.binds (ps := ["thing", "offices"]) fun _ _ _ _ _ _ => L2.bind2 fun _ _ => rfl
  have C_is_line : Fnc l.prog w K mg base (CX1 l.prog w) 4 "is_line" ["thing", "offices"] sp_is_line := ⟨f10, _, ok_is_line F10 T AF C_is_cost C_are_unlike_names, PySem.W.mg_of X G a10, k10, b10⟩
  have b20 := F20.binds (ps := ["_law_cell", "_law_names_here"]) fun _ _ _ _ _ _ => L2.bind2 fun _ _ => rfl
  have C_law_line : Fnc l.prog w K mg base (CX1 l.prog w) 4 "_law_line" ["_law_cell", "_law_names_here"] sp_law_line := ⟨f20, _, ok_law_line F20 T AF C_law_cost C_law_long C_law_mixed, PySem.W.mg_of X G a20, k20, b20⟩
  have b11 := F11.binds (ps := ["self", "offices", "with_book", "lines"]) fun _ _ _ _ _ _ => L2.bind4 fun _ _ _ _ => rfl
  have K_Net : Mak l.prog w K mg base (CX1 l.prog w) k_Net "Net" 5 ["self", "offices", "with_book", "lines"] (sp_Net_init (⟨k_Net, k_CableError, k_NoNet, k_NoOffice, k_cd, k_tb, ()⟩ : Ads)) := ⟨⟨f11, _, ok_Net_init F11 T AF C_is_line C_are_unlike_names, ⟨mk_Net, a11, i11, kc_Net⟩, b11⟩, AF.g_Net⟩
  have b21 := F21.binds (ps := ["_law_script"]) fun _ _ _ _ _ _ => L2.bind1 fun _ => rfl
  have C_law_plan : Fnc l.prog w K mg base (CX1 l.prog w) 5 "_law_plan" ["_law_script"] (sp_law_plan K) := ⟨f21, _, ok_law_plan F21 T AF C_law_line C_law_mixed C_law_cell_at C_law_names, PySem.W.mg_of X G a21, k21, b21⟩
  have b24 := F24.binds (ps := ["_law_plan_here", "_law_net", "_law_first", "_law_p", "_law_g"]) fun _ _ _ _ _ _ => L2.bind5 fun _ _ _ _ _ => rfl
  have C_law_shown : Fnc l.prog w K mg base (CX1 l.prog w) 5 "_law_shown" ["_law_plan_here", "_law_net", "_law_first", "_law_p", "_law_g"] (sp_law_shown (⟨k_Net, k_CableError, k_NoNet, k_NoOffice, k_cd, k_tb, ()⟩ : Ads)) := ⟨f24, _, ok_law_shown F24 T AF C_way C_law_next C_prices, PySem.W.mg_of X G a24, k24, b24⟩
  exact ok_law F28 T AF C_prices C_law_no_more C_law_mixed C_law_cell_at C_law_line C_law_lengths C_law_shown C_law_amounts C_law_plan K_Net
end Kb
open PySem PySem.W PyProof.Rows
set_option maxRecDepth 100000 in
set_option maxHeartbeats 0 in
theorem Hk.top_c : Hk.top.c := by
  delta Hk.top
  dsimp only
  k_fill
  refine L2.walk_ofT (l := PySem.Challenge.rw_cablehouse_k33_whole_prices_show) (n := 63) (k := 7) (x := "_law_script") (CX := fun w => L2.CX1 PySem.Challenge.rw_cablehouse_k33_whole_prices_show.prog w) (sp := fun w => Kb.sp_law _ _) Kb.lamQ rfl (by decide) rfl ⟨rfl, by decide, by decide⟩ (fun w h Y => ⟨PySem.W.km_in_of Y, PySem.W.km_tabs_of Y _ (List.Mem.head _)⟩) ?F (fun w => by kernel_rfl) (fun _ _ a ns hl hS hT => ⟨a, ns, rfl, hS, hl, hT, fun _ => rfl⟩) fun _ _ _ _ _ z => L2.cx1_false z
  case F =>
    intro w mg fa h KX G hmg
    refine' Kb.all_mk KX G hmg ?g_Net ?g_CableError ?g_NoNet ?g_NoOffice ?a0 ?l0 ?c0 ?k0 ?a1 ?l1 ?c1 ?k1 ?a2 ?l2 ?c2 ?k2 ?a3 ?l3 ?c3 ?k3 ?a4 ?l4 ?c4 ?k4 ?a5 ?l5 ?c5 ?k5 ?a6 ?l6 ?c6 ?k6 ?a7 ?l7 ?c7 ?k7 ?a8 ?l8 ?c8 ?k8 ?a9 ?l9 ?c9 ?k9 ?a10 ?l10 ?c10 ?k10 ?a11 ?i11 ?l11 ?c11 ?k11 ?a12 ?i12 ?l12 ?c12 ?k12 ?a13 ?i13 ?l13 ?c13 ?k13 ?a14 ?i14 ?l14 ?c14 ?k14 ?a15 ?l15 ?c15 ?k15 ?a16 ?l16 ?c16 ?k16 ?a17 ?l17 ?c17 ?k17 ?a18 ?l18 ?c18 ?k18 ?a19 ?l19 ?c19 ?k19 ?a20 ?l20 ?c20 ?k20 ?a21 ?l21 ?c21 ?k21 ?a22 ?l22 ?c22 ?k22 ?a23 ?l23 ?c23 ?k23 ?a24 ?l24 ?c24 ?k24 ?a25 ?l25 ?c25 ?k25 ?a26 ?l26 ?c26 ?k26 ?a27 ?l27 ?c27 ?k27 ?a28 ?l28 ?c28 ?k28 ?pg_Net ?hd_Net ?po_Net ?sa_Net ?mk_Net ?kc_Net ?n_Net_names ?n_Net_holders ?n_Net_wires ?q_NoNet ?q_NoOffice ?tab ?err ?ndx ?v_PLAIN ?r_PLAIN ?v_CODE ?r_CODE ?v_SMALL_LETTERS ?r_SMALL_LETTERS ?v_MOST_OFFICES ?r_MOST_OFFICES ?v_LONGEST_NAME ?r_LONGEST_NAME ?v_MOST_LINES ?r_MOST_LINES ?v_MOST_COST ?r_MOST_COST ?z_isinstance ?z_str ?z_len ?z_min ?z_list ?z_sorted ?z_reversed ?z_bool ?z_int ?z_all ?z_set ?z_tuple ?z_range ?z_enumerate ?z_dict
    (case g_Net => k_is)
    (case g_CableError => k_is)
    (case g_NoNet => k_is)
    (case g_NoOffice => k_is)
    (case a0 => k_is)
    (case l0 => k_is)
    (case c0 => k_is)
    (case k0 => k_is)
    (case a1 => k_is)
    (case l1 => k_is)
    (case c1 => k_is)
    (case k1 => k_is)
    (case a2 => k_is)
    (case l2 => k_is)
    (case c2 => k_is)
    (case k2 => k_is)
    (case a3 => k_is)
    (case l3 => k_is)
    (case c3 => k_is)
    (case k3 => k_is)
    (case a4 => k_is)
    (case l4 => k_is)
    (case c4 => k_is)
    (case k4 => k_is)
    (case a5 => k_is)
    (case l5 => k_is)
    (case c5 => k_is)
    (case k5 => k_is)
    (case a6 => k_is)
    (case l6 => k_is)
    (case c6 => k_is)
    (case k6 => k_is)
    (case a7 => k_is)
    (case l7 => k_is)
    (case c7 => k_is)
    (case k7 => k_is)
    (case a8 => k_is)
    (case l8 => k_is)
    (case c8 => k_is)
    (case k8 => k_is)
    (case a9 => k_is)
    (case l9 => k_is)
    (case c9 => k_is)
    (case k9 => k_is)
    (case a10 => k_is)
    (case l10 => k_is)
    (case c10 => k_is)
    (case k10 => k_is)
    (case a11 => k_is)
    (case i11 => k_is)
    (case l11 => k_is)
    (case c11 => k_is)
    (case k11 => k_is)
    (case a12 => k_is)
    (case i12 => k_is)
    (case l12 => k_is)
    (case c12 => k_is)
    (case k12 => k_is)
    (case a13 => k_is)
    (case i13 => k_is)
    (case l13 => k_is)
    (case c13 => k_is)
    (case k13 => k_is)
    (case a14 => k_is)
    (case i14 => k_is)
    (case l14 => k_is)
    (case c14 => k_is)
    (case k14 => k_is)
    (case a15 => k_is)
    (case l15 => k_is)
    (case c15 => k_is)
    (case k15 => k_is)
    (case a16 => k_is)
    (case l16 => k_is)
    (case c16 => k_is)
    (case k16 => k_is)
    (case a17 => k_is)
    (case l17 => k_is)
    (case c17 => k_is)
    (case k17 => k_is)
    (case a18 => k_is)
    (case l18 => k_is)
    (case c18 => k_is)
    (case k18 => k_is)
    (case a19 => k_is)
    (case l19 => k_is)
    (case c19 => k_is)
    (case k19 => k_is)
    (case a20 => k_is)
    (case l20 => k_is)
    (case c20 => k_is)
    (case k20 => k_is)
    (case a21 => k_is)
    (case l21 => k_is)
    (case c21 => k_is)
    (case k21 => k_is)
    (case a22 => k_is)
    (case l22 => k_is)
    (case c22 => k_is)
    (case k22 => k_is)
    (case a23 => k_is)
    (case l23 => k_is)
    (case c23 => k_is)
    (case k23 => k_is)
    (case a24 => k_is)
    (case l24 => k_is)
    (case c24 => k_is)
    (case k24 => k_is)
    (case a25 => k_is)
    (case l25 => k_is)
    (case c25 => k_is)
    (case k25 => k_is)
    (case a26 => k_is)
    (case l26 => k_is)
    (case c26 => k_is)
    (case k26 => k_is)
    (case a27 => k_is)
    (case l27 => k_is)
    (case c27 => k_is)
    (case k27 => k_is)
    (case a28 => k_is)
    (case l28 => k_is)
    (case c28 => k_is)
    (case k28 => k_is)
    (case pg_Net => k_is)
    (case hd_Net => k_is)
    (case po_Net => k_is)
    (case sa_Net => k_is)
    (case mk_Net => k_is)
    (case kc_Net => k_is)
    (case n_Net_names => k_is)
    (case n_Net_holders => k_is)
    (case n_Net_wires => k_is)
    (case q_NoNet => kernel_rfl)
    (case q_NoOffice => kernel_rfl)
    (case tab => kernel_rfl)
    (case err => kernel_rfl)
    (case ndx => kernel_rfl)
    (case v_PLAIN => k_is)
    (case r_PLAIN => exact ⟨_, rfl⟩)
    (case v_CODE => k_is)
    (case r_CODE => exact ⟨_, rfl⟩)
    (case v_SMALL_LETTERS => k_is)
    (case r_SMALL_LETTERS => exact ⟨_, rfl⟩)
    (case v_MOST_OFFICES => k_is)
    (case r_MOST_OFFICES => exact ⟨_, rfl⟩)
    (case v_LONGEST_NAME => k_is)
    (case r_LONGEST_NAME => exact ⟨_, rfl⟩)
    (case v_MOST_LINES => k_is)
    (case r_MOST_LINES => exact ⟨_, rfl⟩)
    (case v_MOST_COST => k_is)
    (case r_MOST_COST => exact ⟨_, rfl⟩)
    (case z_isinstance => k_is)
    (case z_str => k_is)
    (case z_len => k_is)
    (case z_min => k_is)
    (case z_list => k_is)
    (case z_sorted => k_is)
    (case z_reversed => k_is)
    (case z_bool => k_is)
    (case z_int => k_is)
    (case z_all => k_is)
    (case z_set => k_is)
    (case z_tuple => k_is)
    (case z_range => k_is)
    (case z_enumerate => k_is)
    (case z_dict => k_is)
theorem PySem.Challenge.cw_cablehouse_k33_whole_prices_show_holds : PySem.Challenge.rw_cablehouse_k33_whole_prices_show.Holds :=
  Hk.top.go Hk.top_1 Hk.top_2 Hk.top_3 Hk.top_4 Hk.top_5 Hk.top_6 Hk.top_7 Hk.top_8 Hk.top_h Hk.top_c
